import PyProof.Rows.All
import Wide.All
import OpenK.AllK
import Wide.FinOn
import Lean
import PyProof.EqAt
import PyProof.EqKinds
import PyProof.TupleCall
import KE.KDictList
import KE.KDictLaws
import KE.KDictSum
import KE.KRevSl
import PyProof.DictWalks
import PyProof.Rows.SortRev
import KE.KDictOf
import PyProof.AttrMissHeap
import PySem.Challenge.RW_linkorcut_k15_rows_taken
set_option Elab.async false
set_option compiler.extract_closed false
set_option linter.all false
set_option maxRecDepth 100000
set_option maxHeartbeats 4000000
set_option genSizeOf false
set_option backward.eqns.nonrecursive false
set_option backward.eqns.deepRecursiveSplit false
set_option bootstrap.genMatcherCode false
set_option hygiene false
local macro_rules
|`(def $n:declId $s:optDeclSig $v:declVal)=>`(noncomputable def $n:declId $s:optDeclSig $v:declVal)
|`(abbrev $n:declId $s:optDeclSig $v:declVal)=>`(noncomputable abbrev $n:declId $s:optDeclSig $v:declVal)
local macro_rules
|`(#[$a])=>`(.cons $a .nil)
|`(#[$a,$as,*])=>`(.cons $a #[$as,*])
local macro_rules
|`(!$n:num)=>`(.var $n)
local macro_rules
|`(¬$n:num)=>`(.cst (.int $n))
set_option hygiene true
open Array(toList)
open Bool(and_eq_true false_eq_true not_eq_true' or_eq_true)
open List(all_eq_true cons_append find?_cons foldl_append foldl_cons length length_append length_cons length_map length_nil lookup_cons map_append map_cons map_nil mem_append mem_cons nil_perm not_mem_nil replicate set_cons_succ set_cons_zero set_set size_toArray toArray zip_cons_cons)
open Option(bind_some getD_none map_some)
open PySem.W(callWith_K callWith_K0 cellsFrom_some codeIn emptyDict eq_sortI findIn instObj kat_lt keepIn kitOne kitx_list makesIn methodObj specialIn typeIn)
def SS:=@Option.bind_eq_some_iff
def SV:=@Bool.false_ne_true
def SW:=@List.getElem?_eq_some_iff
def SX:=@List.getElem?_set_ne
def SY:=@PySem.Heap.get?_push_of_some
def S0:=@PySem.wpAny_bind
def S1:=@List.length_map
def S2:=@List.mem_cons_of_mem
def S3:=@List.mem_cons_self
def S4:=@Nat.le_refl
def S5:=@List.map_cons
def S6:=@List.getElem?_set_self
def S7:=@if_pos
def S8:=@if_neg
def S9:=@PySem.Heap.lt_size
def Tc:=@List.size_toArray
def Td:=@List.mem_cons
def Te:=@Nat.lt_of_lt_of_le
def Tf:=@List.getElem?_append_left
def Tg:=@List.prefix_refl
def Th:=@PySem.wpAny_pure
def Ti:=@List.mem_singleton
def Tj:=@of_decide_eq_true
def Tn:=@Option.some.inj
def To:=@PySem.Heap.get?_push_size
def Tp:=@Nat.ne_of_lt
def Tq:=@List.getElem?_map
def Tr:=@List.mem_of_getElem?
def Tt:=@Nat.le_trans
def Tu:=@List.map_map
def Tv:=@List.length_append
def Tw:=@List.getElem?_append_right
def Tz:=@List.getElem?_eq_getElem
def TF:=@Option.map_eq_some_iff
def TH:=@List.mem_append_right
def TJ:=@List.mem_map_of_mem
def TL:=@PySem.W.mg_of
def TM:=@List.length_cons
def TN:=@List.map_append
def TQ:=@List.map_congr_left
def TR:=@congrArg
def TU:=@List.mem_append_left
def TV:=@PySem.wpAny_Call_Name_kw
def TX:=@PyProof.Rows.callWith_type1
def TY:=@PySem.wpAny_mono
def TZ:=@List.prefix_append
def T4:=@List.pairwise_cons
def T5:=@List.nodup_cons
def T6:=@beq_eq_false_iff_ne
def T7:=@PySem.sizeLine_eq
def T8:=@List.mem_map
def T9:=@PySem.mem_of_lookup
def Ua:=@List.mem_append
def Ub:=@Nat.lt_succ_self
def Uc:=@PySem.Calls.spliced_cons
def Ud:=@Nat.lt_irrefl
def Ue:=@Nat.le_succ
def Ug:=@List.nodup_append
def Uh:=@List.mem_filter
def Ui:=@PyProof.Rows.KeyOrd.kle_refl
def Uj:=@PySem.W.kia_one
def Uk:=@PySem.wpAny_holding
def Ul:=@Bool.and_eq_true
def Um:=@PySem.W.sortI_perm
def Uo:=@Array.getElem?_toList
def Uq:=@List.getElem?_eq_none_iff
def Ur:=@PySem.wpAny_truthy_bool
def Us:=@PySem.Calls.spliced_nil
def Ut:=@True.intro
def Uu:=@Bool.true_and
def Uv:=@Array.length_toList
def Uw:=@PySem.Calls.callWith_builtin
def Ux:=@PySem.F.slot_dict_keys
def Uy:=@List.append_nil
def Uz:=@PySem.wpAny_newObj_type
def UA:=@Nat.lt_succ_of_lt
def UB:=@List.pairwise_map
def UC:=@List.map_nil
def UD:=@beq_self_eq_true
def UE:=@List.getElem?_zip_eq_some
def UG:=@List.pairwise_iff_getElem
def UH:=@List.set_eq_of_length_le
def UI:=@List.cons.inj
def UJ:=@Prod.mk.injEq
def UK:=@PySem.wpAny_passesOwn
def UL:=@Array.Perm.refl
def UM:=@PySem.W.KasT.kasWp_bind
def UN:=@List.nil_append
def UO:=@PySem.F.plainAttrs_dict
def UP:=@PySem.F.plainAttrs_list
def UQ:=@Int.eq_ofNat_of_zero_le
def US:=@Nat.le_of_lt
def UT:=@Nat.ne_of_gt
def UU:=@PySem.wpAny_pyIter_list
def UW:=@PyProof.Rows.KeyOrd.kle_of_klt
def UX:=@PySem.F.slot_dict_get
def UY:=@List.mem_iff_getElem?
def UZ:=@PyProof.Rows.KeyOrd.kle_trans
def U0:=@List.getElem_map
def U3:=@List.getElem_mem
def U4:=@List.any_cons
def U5:=@Nat.zero_le
def U6:=@Array.toArray_toList
def U7:=@List.drop_eq_nil_iff
def U8:=@List.length_set
def U9:=@List.find?_cons
def Va:=@List.filterMap_cons
def Vb:=@List.length_reverse
def Vc:=@List.getElem_of_mem
def Vd:=@PySem.Heap.size_push
def Ve:=@PySem.tupleKind_room_in1
def Vf:=@List.drop_drop
def Vg:=@List.mem_replicate
def Vh:=@List.map_id
def Vi:=@List.filter_congr
def Vj:=@PySem.Paired.length
def Vk:=@PySem.wpAny_standAt
def Vl:=@List.length_take
def Vm:=@List.length_drop
def Vn:=@List.perm_middle
def Vo:=@PySem.codeAny_mono
def Vp:=@PySem.call_meets
def Vq:=@PySem.call_meetsIn
def Vr:=@List.of_mem_zip
def Vs:=@Bool.or_eq_true
def Vt:=@Int.emod_nonneg
def Vu:=@List.nodup_nil
def Vv:=@beq_iff_eq
open PySem.W(Frag sortI nsIn fnOf isFn)
section
namespace L2
open PySem PySem.Spec PyProof.Rows
abbrev Key:=Sum Int Str
def mF:Key->Value->Bool
 |.inl k,v=>Value.isInt k v
 |.inr x,v=>Value.isStrOf x v
def NB(w:World):Key->Int
 |.inl k=>hashInt k
 |.inr x=>hashStr w x
theorem bE:∀{k:Key} {v:Value},mF k v=true->(∃i t,k=Sum.inl i/\v=Value.int i t)\/(∃x t,k=Sum.inr x/\v=Value.str x t)
 | .inl i,v,h=>by
  obtain⟨t,e⟩:=Value.isInt_shape (k:=i) (v:=v) h;exact .inl ⟨i,t,rfl,e⟩
 | .inr x,v,h=>by
  obtain⟨t,e⟩:=Value.isStrOf_shape (x:=x) (v:=v) h;exact .inr ⟨x,t,rfl,e⟩
theorem xm(i:Int)(t:Tok):mF (.inl i) (.int i t)=true:=by simp[mF,Value.isInt]
theorem xq(x:Str)(t:Tok):mF (.inr x) (.str x t)=true:=by simp[mF,Value.isStrOf]
theorem EN(a b:Int):decide ((Sum.inl a:Key)=Sum.inl b)=(a==b):=by
 by_cases e:a=b
 ·subst e;simp
 ·have h:¬ (Sum.inl a:Key)=Sum.inl b:=λq=>e (Sum.inl.inj q);rw[decide_eq_false h];exact(T6.mpr e).symm
theorem EO(a b:Str):decide ((Sum.inr a:Key)=Sum.inr b)=decide (a=b):=by
 by_cases e:a=b
 ·subst e;simp
 ·have h:¬ (Sum.inr a:Key)=Sum.inr b:=λq=>e (Sum.inr.inj q);rw[decide_eq_false h,decide_eq_false e]
theorem ES(a:Int)(b:Str):decide ((Sum.inl a:Key)=Sum.inr b)=false:=decide_eq_false (λq=>nomatch q)
theorem ET(a:Str)(b:Int):decide ((Sum.inr a:Key)=Sum.inl b)=false:=decide_eq_false (λq=>nomatch q)
def aG(prog:Program)(w:World):PySem.KeyKind prog w Key where
 is:=mF
 hash:=NB w
 inj:=λv a b ha hb=>by
  rcases bE ha with ⟨i,t,rfl,rfl⟩|⟨x,t,rfl,rfl⟩
  ·rcases bE hb with ⟨j,u,rfl,e⟩|⟨y,u,rfl,e⟩
   ·injection e with e1 _;rw[e1]
   ·exact nomatch e
  ·rcases bE hb with ⟨j,u,rfl,e⟩|⟨y,u,rfl,e⟩
   ·exact nomatch e
   ·injection e with e1 _;rw[e1]
 byValue:=λk v h=>by
  rcases bE h with ⟨i,t,rfl,rfl⟩|⟨x,t,rfl,rfl⟩<;>rfl
 pyHash:=λhv h=>by
  rcases bE hv with ⟨i,t,rfl,rfl⟩|⟨x,t,rfl,rfl⟩
  ·exact wpAny_pyHash_int h
  ·exact wpAny_pyHash_str h
 eqBool:=λhu hv h=>by
  rcases bE hu with ⟨i,t,rfl,rfl⟩|⟨x,t,rfl,rfl⟩
  ·rcases bE hv with ⟨j,u,rfl,rfl⟩|⟨y,u,rfl,rfl⟩
   ·rw[EN]at h;exact wpAny_eqBool_int h
   ·rw[ES]at h;exact SeqAt.EqAt.int_str i t y u _ _ _ _ h
  ·rcases bE hv with ⟨j,u,rfl,rfl⟩|⟨y,u,rfl,rfl⟩
   ·rw[ET]at h;exact SeqAt.EqAt.str_int x t j u _ _ _ _ h
   ·rw[EO]at h;exact wpAny_eqBool_str h
 «strs»:=λk x t v h=>by
  rcases bE h with ⟨i,u,rfl,e⟩|⟨y,u,rfl,e⟩
  ·exact nomatch e
  ·injection e with e1 _
   subst e1;cases v<;>rfl
theorem t7(prog:Program)(w:World)(k:Key)(v:Value):(aG prog w).is k v=mF k v:=rfl
theorem rD(prog:Program)(w:World)(i:Int)(t:Tok):(aG prog w).is (.inl i) (.int i t)=true:=xm i t
theorem rE(prog:Program)(w:World)(x:Str)(t:Tok):(aG prog w).is (.inr x) (.str x t)=true:=xq x t
inductive V where
 |non|bl (b:Bool)|int (i:Int)|str (x:Str)|byt (b:Array UInt8)|flt (b:UInt64)|ref (a:Addr)|ty (n:String)
 deriving DecidableEq
def RelV:V->Value->Prop
 |.non,u=>u=Value.none
 |.bl b,u=>u=Value.bool b
 |.int i,u=>∃t,u=Value.int i t
 |.str x,u=>∃t,u=Value.str x t
 |.byt b,u=>∃t,u=Value.bytes b t
 |.flt b,u=>∃t,u=Value.float b t
 |.ref a,u=>u=Value.ref a
 |.ty n,u=>u=Value.type n
abbrev Vals:List V->List Value->Prop:=Paired RelV
theorem Vals.length(r:Vals xs us):xs.length=us.length:=Vj r
theorem Vals.get:∀{xs:List V} {us:List Value} {i:Nat} {x:V},Vals xs us->xs[i]?=some x->∃u,us[i]?=some u/\RelV x u
 |_,_,_,_,.nil,e=>by simp at e
 |_,_,0,_,.cons r _,e=>by simp at e;subst e;exact⟨_,rfl,r⟩
 | _,_,i+1,x,.cons _ t,e=>by
  obtain⟨u,h1,h2⟩:=Vals.get (i:=i) (x:=x) t (by simpa using e);exact⟨u,by simpa using h1,h2⟩
theorem Vals.set(r:RelV x u):∀{xs:List V} {us:List Value} (i:Nat),Vals xs us->Vals (xs.set i x) (us.set i u)
 |_,_,_,.nil=>.nil
 |_,_,0,.cons _ t=>.cons r t
 |_,_,i+1,.cons q t=>.cons q (Vals.set r i t)
theorem Vals.append:∀{xs ys:List V} {us ws:List Value},Vals xs us->Vals ys ws->Vals (xs++ys) (us++ws)
 |_,_,_,_,.nil,s=>s
 |_,_,_,_,.cons r t,s=>.cons r (Vals.append t s)
theorem Vals.take:∀{xs:List V} {us:List Value} (n:Nat),Vals xs us->Vals (xs.take n) (us.take n)
 |_,_,0,_=>.nil
 |_,_,_+1,.nil=>.nil
 |_,_,n+1,.cons r t=>.cons r (Vals.take n t)
theorem Vals.drop:∀{xs:List V} {us:List Value} (n:Nat),Vals xs us->Vals (xs.drop n) (us.drop n)
 |_,_,0,r=>r
 |_,_,_+1,.nil=>.nil
 |_,_,n+1,.cons _ t=>Vals.drop n t
def lU:Option V->Option Value->Prop
 |some v,some u=>RelV v u
 |none,none=>True
 |_,_=>False
def KV{κ:Type}:List (κ × V)->List (κ × Value)->Prop:=Paired λ(p:κ × V) (q:κ × Value)=>p.1=q.1/\RelV p.2 q.2
def kV:Key->V
 |.inl i=>.int i
 |.inr x=>.str x
inductive HO where
  |lst (xs:List V)
  |tup (xs:List V)
  |dK (kvs:List (Key×V))|dT (kvs:List (List Key×V))
  |set (S:Int->Bool) (n:Nat)
  |ins (C dx:Addr) (fs:List (Str×V))
  |own (x:Addr)
  |xd (fs:List (Str×V))
  |met (f x:Addr)
  |rng (lo hi:Int)
  |jT (o:Obj) (u:HO)
  |tbl (ps:Array Value)
  |ext (φ:Heap->Prop)
abbrev Hp:=Addr->Option HO
def upd(H:Hp)(a:Addr)(o:HO):Hp:=λb=>if b=a then some o else H b
theorem aC:upd H a o a=some o:=by unfold upd;rw[S7 rfl]
theorem ak(h:b≠a):upd H a o b=H b:=by unfold upd;rw[S8 h]
theorem JO{H:Hp}{a b:Addr}{o u:HO}(h:H a=some o)(h':H b=some u)(d:o≠u):a≠b:=by
 intro e;subst e;rw[h]at h';exact d (Tn h')
theorem aD{H:Hp}{a b:Addr}{o:HO}(h:H a=some o)(h':H b=none):a≠b:=by
 intro e;subst e;rw[h]at h';cases h'
section
variable (P:Program) (w:World)
def bM(H:Hp)(h:Heap)(a:Addr):HO->Prop
 |.lst xs=>xs.length<=sizeLine/\∃(its:List Value) (n:Nat),Vals xs its/\h.get? a=some { cls:=.type "list",data:=.seq its.toArray n }
 |.tup xs=>xs.length<=sizeLine/\∃its:List Value,Vals xs its/\IsTup h a its.toArray
 |.dK kvs=>kvs.length<=sizeLine/\(a==sysModules)=false/\∃vs,KV kvs vs/\h.DictOf (aG P w) a vs
 | .dT kvs=>kvs.length<=sizeLine/\(a==sysModules)=false/\∃xs:List (List Key×Addr×Value),
   Paired (λ(p:List Key×V) (q:List Key×Addr×Value)=>p.1=q.1/\H q.2.1=some (.tup (p.1.map kV))/\RelV p.2 q.2.2) kvs xs /\
   ∃o es ep,h.get? a=some o/\o.ExactDict/\o.data=.dict es ep/\es.toList=xs.map (entryOfKey (tupleKind (aG P w)))/\(xs.map (·.1)).Nodup
 |.set S n=>h.SetOf (intKind P w) a S n
 | .ins C dx fs=>H dx=some (.own a)/\fs.length<=1000/\dx≠a/\h.get? a=some (instObj C dx) /\
   ∃mA,h.Ns1 dx mA/\(∀f,lU (fs.lookup f) (mA f))/\PySem.Within mA (fs.map (·.1))
 |.own _=>∃o,h.get? a=some o
 |.xd fs=>∃mA,h.Ns1 a mA/\∀f,lU (fs.lookup f) (mA f)
 |.rng lo hi=>∃t u v,h.get? a=some { cls:=.type "range",data:=.fields [.int lo t,.int hi u,.int 1 v].toArray }
 |.jT o u=>h.get? a=some o/\bM H h a u
 |.tbl ps=>h.get? a=some { cls:=.none,data:=.fields ps }
 |.met f x=>h.get? a=some (methodObj (.ref f) (.ref x))
 |.ext φ=>φ h/\(∃o,h.get? a=some o)/\∀h1 h2:Heap,φ h1->(∀o,h1.get? a=some o->h2.get? a=some o) -> φ h2
def jV(H:Hp)(h:Heap):Prop:=∀a o,H a=some o->bM P w H h a o
end
section
variable {P:Program} {w:World} {H H':Hp} {h h':Heap} {a:Addr} {o:HO}
theorem bM.lt(x:bM P w H h a o):a<h.objs.size:=by
 cases o with
 |lst xs=>obtain⟨_,_,_,_,e⟩:=x;exact S9 e
 |tup xs=>obtain⟨_,_,_,p⟩:=x;exact p.lt
 |dK kvs=>obtain⟨_,_,_,_,o,_,_,e,_⟩:=x;exact S9 e
 |dT kvs=>obtain⟨_,_,_,_,o,_,_,e,_⟩:=x;exact S9 e
 |set S n=>obtain⟨o,_,_,_,e,_⟩:=x;exact S9 e
 |ins C dx fs=>obtain⟨_,_,_,e,_⟩:=x;exact S9 e
 |own y=>obtain⟨_,e⟩:=x;exact S9 e
 |xd fs=>obtain⟨_,⟨_,_,_,e,_⟩,_⟩:=x;exact S9 e
 |rng lo hi=>obtain⟨_,_,_,e⟩:=x;exact S9 e
 |jT ob u=>obtain⟨e,_⟩:=x;exact S9 e
 |tbl ps=>exact S9 (show h.get? a=some _ from x)
 |met f y=>exact S9 (show h.get? a=some _ from x)
 |ext φ=>obtain⟨_,⟨_,e⟩,_⟩:=x;exact S9 e
theorem Paired.EU{α β:Type}{F G:α -> β -> Prop}:∀{l₁:List α} {l₂:List β},Paired F l₁ l₂->(∀a b,F a b->G a b)->Paired G l₁ l₂
 |_,_,.nil,_=>.nil
 |_,_,.cons r t,f=>.cons (f _ _ r) (Paired.EU t f)
theorem bM.stay(x:bM P w H h a o)(k:∀b u,(b=a\/H b=some (.own a))->h.get? b=some u->h'.get? b=some u)
  (ho:∀b,H b=some (.own a)->H' b=some (.own a)) (ht:∀b xs,H b=some (.tup xs)->H' b=some (.tup xs)):bM P w H' h' a o:=by
 induction o with
 |lst xs=>obtain⟨z,its,n,r,e⟩:=x;exact⟨z,its,n,r,k _ _ (.inl rfl) e⟩
 |tup xs=>obtain⟨z,its,r,ob,e,c⟩:=x;exact⟨z,its,r,ob,k _ _ (.inl rfl) e,c⟩
 |dK kvs=>obtain⟨z,y,vs,r,ob,es,ep,e,c⟩:=x;exact⟨z,y,vs,r,ob,es,ep,k _ _ (.inl rfl) e,c⟩
 |dT kvs=>obtain⟨z,y,xs,r,ob,es,ep,e,c⟩:=x;exact⟨z,y,xs,Paired.EU r λp q z=>⟨z.1,ht _ _ z.2.1,z.2.2⟩,ob,es,ep,k _ _ (.inl rfl) e,c⟩
 |set S n=>obtain⟨ob,es,ep,t,e,c⟩:=x;exact⟨ob,es,ep,t,k _ _ (.inl rfl) e,c⟩
 |ins C dx fs=>obtain⟨d,z,ne,e,mA,⟨od,es,ep,e2,c⟩,r⟩:=x;exact⟨ho _ d,z,ne,k _ _ (.inl rfl) e,mA,⟨od,es,ep,k _ _ (.inr d) e2,c⟩,r⟩
 |own y=>obtain⟨ob,e⟩:=x;exact⟨ob,k _ _ (.inl rfl) e⟩
 |xd fs=>obtain⟨mA,⟨od,es,ep,e,c⟩,r⟩:=x;exact⟨mA,⟨od,es,ep,k _ _ (.inl rfl) e,c⟩,r⟩
 |rng lo hi=>obtain⟨t,u,v,e⟩:=x;exact⟨t,u,v,k _ _ (.inl rfl) e⟩
 |jT ob u ih=>obtain⟨e,q⟩:=x;exact⟨k _ _ (.inl rfl) e,ih q⟩
 |tbl ps=>have e:h.get? a=some { cls:=.none,data:=.fields ps }:=x;show h'.get? a=some { cls:=.none,data:=.fields ps };exact k a _ (.inl rfl) e
 |met f y=>have e:h.get? a=some (methodObj (.ref f) (.ref y)):=x;show h'.get? a=some (methodObj (.ref f) (.ref y));exact k a _ (.inl rfl) e
 |ext φ=>obtain⟨p,⟨o,e⟩,st⟩:=x;exact⟨st _ _ p λo q=>k _ _ (.inl rfl) q,⟨o,k _ _ (.inl rfl) e⟩,st⟩
theorem jV.lt(x:jV P w H h)(e:H a=some o):a<h.objs.size:=(x a o e).lt
theorem jV.fresh(x:jV P w H h)(e:h.objs.size<=a):H a=none:=by
 cases q:H a with
 |none=>rfl
 |some u=>exact absurd (Te (x.lt q) e) (Ud _)
theorem jV.kept(x:jV P w H h)(k:∀b u,h.get? b=some u->h'.get? b=some u):jV P w H h':=λa o e=>
 (x a o e).stay (λb u _ q=>k b u q) (λ_ q=>q) λ_ _ q=>q
theorem jV.laid(x:jV P w H h)(k:∀b u,h.get? b=some u->h'.get? b=some u)(hp:h.objs.size<=a)(new:bM P w (upd H a o) h' a o):jV P w (upd H a o) h':=λb u e=>by
 have hn:=x.fresh hp
 by_cases hb:b=a
 ·subst hb;rw[aC]at e;cases e;exact new
 ·rw[ak hb]at e;exact(x b u e).stay (λc v _ q=>k c v q) (λc q=>by rw[ak (aD q hn)];exact q) λc xs q=>by rw[ak (aD q hn)];exact q
end
def Rd(H:Hp)(a:Addr)(u:HO):Prop:=H a=some u\/∃o,H a=some (.jT o u)
theorem Rd.ok(r:Rd H a u)(x:jV P w H h):bM P w H h a u:=by
 rcases r with r|⟨o,r⟩
 ·exact x a u r
 ·obtain⟨_,q⟩:=x a _ r;exact q
def JP:Option HO->Prop
 |some (.lst _)=>True
 |some (.dK _)=>True
 |some (.dT _)=>True
 |some (.set _ _)=>True
 |some (.ins _ _ _)=>True
 |some (.ext _)=>True
 |_=>False
section
variable {P:Program} {w:World} {H:Hp} {h h':Heap} {x e:Addr} {o':HO}
theorem jV.write(ok:jV P w H h)(mu:JP (H x))(he:e=x\/H e=some (.own x))(k:∀b u,b≠e->h.get? b=some u->h'.get? b=some u)(JC:∃u,h'.get? e=some u)
  (new:bM P w (upd H x o') h' x o'):jV P w (upd H x o') h':=λb u q=>by
 have nown:∀c y,H c=some (.own y)->c≠x:=λc y r z=>by subst z;rw[r]at mu;exact mu
 have ntup:∀c xs,H c=some (.tup xs)->c≠x:=λc xs r z=>by subst z;rw[r]at mu;exact mu
 by_cases hb:b=x
 ·subst hb;rw[aC]at q;cases q;exact new
 ·rw[ak hb]at q
  by_cases EW:b=e
  ·have q':H b=some (.own x):=by
    rcases he with z|z
    ·exact absurd (EW.trans z) hb
    ·rw[EW];exact z
   rw[q]at q';cases q';obtain⟨v,hv⟩:=JC;exact⟨v,by rw[EW];exact hv⟩
  ·refine(ok b u q).stay (λc v hc r=>k c v ?_ r) (λc r=>by rw[ak (nown c b r)];exact r) λc xs r=>by rw[ak (ntup c xs r)];exact r
   rcases hc with rfl|hc
   ·exact EW
   ·rintro rfl
    rcases he with z|z
    ·exact nown c b hc z
    ·rw[hc]at z;cases z;exact hb rfl
end
structure Un (fs ex:List Addr) (H H':Hp) (h h':Heap):Prop where
 keep:∀b o,h.get? b=some o->H b=none->b∉fs->b∉ex->h'.get? b=some o
 slot:∀b o,h.get? b=some o->H b=none->b∈fs->b∉ex->∃sl,h'.get? b=some { o with slots:=sl }
 free:∀b o,h.get? b=some o->H b=none->b∉ex->H' b=none
 there:∀b o,h.get? b=some o->b∉ex->∃o',h'.get? b=some o'
 tups:∀b xs,H b=some (.tup xs)->H' b=some (.tup xs)
 frzs:∀b o u,H b=some (.jT o u)->H' b=some (.jT o u)
 n5:∀b ps,H b=some (.tbl ps)->∃more,H' b=some (.tbl (ps++more))
section
variable {fs fs' ex ex':List Addr} {H H1 H2:Hp} {h h1 h2 h':Heap} {a x e:Addr} {o:HO}
theorem Un.any(u:Un fs ex H H1 h h1)(q:h.get? b=some ob)(n:H b=none)(hx:b∉ex):∃sl,h1.get? b=some { ob with slots:=sl }:=by
 by_cases hb:b∈fs
 ·exact u.slot b ob q n hb hx
 ·exact⟨ob.slots,u.keep b ob q n hb hx⟩
theorem Un.kept(k:∀b u,h.get? b=some u->h'.get? b=some u):Un fs ex H H h h' :=
 ⟨λb ob q _ _ _=>k b ob q,λb ob q _ _ _=>⟨ob.slots,k b ob q⟩,λ_ _ _ n _=>n,λb ob q _=>⟨ob,k b ob q⟩,λ_ _ q=>q,λ_ _ _ q=>q,λ_ ps q=>⟨#[],by rw[q];simp⟩⟩
theorem Un.refl:Un fs ex H H h h:=Un.kept λ_ _ q=>q
theorem Un.laid(k:∀b u,h.get? b=some u->h'.get? b=some u)(hp:h.objs.size<=a)(hn:H a=none):Un fs ex H (upd H a o) h h' where
 keep:=λb u q _ _ _=>k b u q
 slot:=λb u q _ _ _=>⟨u.slots,k b u q⟩
 free:=λb u q n _=>by rw[ak (Tp (Te (S9 q) hp))];exact n
 there:=λb u q _=>⟨u,k b u q⟩
 tups:=λb xs q=>by rw[ak (aD q hn)];exact q
 frzs:=λb u xs q=>by rw[ak (aD q hn)];exact q
 n5:=λb ps q=>⟨#[],by rw[ak (aD q hn),q];simp⟩
theorem Un.write(mu:JP (H x))(he:e=x\/H e=some (.own x))(k:∀b u,b≠e->h.get? b=some u->h'.get? b=some u)(JC:∃u,h'.get? e=some u):Un fs ex H (upd H x o) h h':=by
 have hx:∀b,H b=none->b≠x:=λb n z=>by subst z;rw[n]at mu;exact mu
 have hb:∀b,H b=none->b≠e:=λb n z=>by
  subst z
  rcases he with r|r
  ·exact hx b n r
  ·rw[n]at r;cases r
 have hm:∀b u,H b=some u->¬ JP (some u)->b≠x:=λb u q nm z=>by subst z;rw[q]at mu;exact nm mu
 refine⟨λb u q n _ _=>k b u (hb b n) q,λb u q n _ _=>⟨u.slots,k b u (hb b n) q⟩,λb u q n _=>by rw[ak (hx b n)];exact n,λb u q _=>?_,
  λb xs q=>by rw[ak (hm b _ q λz=>z)];exact q,λb u xs q=>by rw[ak (hm b _ q λz=>z)];exact q,λb ps q=>⟨#[],by rw[ak (hm b _ q λz=>z),q];simp⟩⟩
 by_cases EW:b=e
 ·subst EW;exact JC
 ·exact⟨u,k b u EW q⟩
end
def Na(h:Heap)(H:Hp):List Addr:=(List.range h.objs.size).filter λa=>(H a).isSome
def p9(h:Heap)(H:Hp):Heap:=PySem.W.hideAll h (Na h H)
theorem xr(h:Heap)(H:Hp):(p9 h H).objs.size=h.objs.size:=PySem.W.hideAll_size _ _
theorem yS(e:h.get? b=some o)(n:H b=none):(p9 h H).get? b=some o :=
 PySem.W.hideAll_get _ e λhm=>by
  have q:(H b).isSome=true:=(Uh.mp hm).2;rw[n]at q;simp at q
theorem BQ(e:(p9 h H).get? b=some o):h.get? b=some o/\H b=none:=by
 have e':h.get? b=some o:=PySem.W.of_hideAll (Na h H) e;refine⟨e',?_⟩;cases q:H b with
 |none=>rfl
 |some x=>have hm:b∈Na h H:=Uh.mpr ⟨List.mem_range.mpr (S9 e'),by simp[q]⟩;have z:(p9 h H).get? b=none:=PySem.W.hideAll_none (Na h H) hm;rw[z]at e;cases e
def BR(g h:Heap)(L:Addr):List (Addr×Obj):=(List.range h.objs.size).filterMap λa=>if a=L\/(g.get? a).isSome=true then none else (h.get? a).map λo=>(a,o)
def rest(g h:Heap)(L d:Addr):List (Addr×Obj):=(BR g h L).filter λp=>decide (p.1≠d)
structure Mod (K:Frag) (mg:Str->Option Value) (base:Heap):Prop where
 Nb:K.In base
 glob:base.Ns mainGlobals mg
 blt:∃mb,base.Ns builtinsNs mb/\∀x:Str,x ≠ "__name__" -> mb x=bootBuiltins x
 nolimit:base.NoLimit
structure Cx where
 prog:Program
 w:World
 K:Frag
 mg:Str->Option Value
 base:Heap
 A:Around
 N:List Str
 s₀:Shared
 H₀:Hp
 env:Env
 outer:List Env
 stack:List Env
 ex:List Addr
 fn:Str->Bool
 calm:Bool
 pn:List (Addr×Obj)
 xe:Value->Shared->Prop
def frs(l:List Env):List Addr:=l.filterMap (·.frame)
abbrev Cx.fs(X:Cx):List Addr:=frs X.outer
def JQ(sc:Scope)(x:Str):Prop:=sc.names.lookup x=some .local\/sc.names.lookup x=some .cell\/sc.names.lookup x=some .free
def Loc(sc:Scope)(x:Str):Prop:=sc.names.lookup x=some .local\/sc.names.lookup x=some .cell
def Look(env:Env)(h:Heap)(m:Str->Option Value)(x:Str)(u:Value):Prop :=
 (env.kindOf x=some .local/\m x=some u)\/((env.kindOf x=some .cell\/env.kindOf x=some .free)/\∃c,env.cells.lookup x=some c/\h.IsCell c (some u))
structure Cx.Ok (X:Cx):Prop where
 mod:Mod X.K X.mg X.base
 kind:X.env.scope.kind=.function
 glob:X.env.globals=mainGlobals
 blt:X.env.builtins=builtinsNs
 above:X.s₀.heap.objs.size<=X.env.locals
 inj:∀x y c,X.env.cells.lookup x=some c->X.env.cells.lookup y=some c->x=y
 has:∀x,(X.env.kindOf x=some .cell\/X.env.kindOf x=some .free)->∃c,X.env.cells.lookup x=some c
 JR:∀x c,X.fn x=true->X.env.cells.lookup x=some c->X.s₀.heap.objs.size<=c
 hd:X.calm=true->X.A.handled=none
 frames:X.A.frames=some X.stack
 stk:X.stack=X.outer\/(X.stack=X.env::X.outer/\X.env.frame=some X.env.locals)
 NC:∀b∈X.ex,b≠X.env.locals/\∀x c,X.env.cells.lookup x=some c->c≠b
 bs:∀b o,X.base.get? b=some o->X.s₀.heap.get? b=some o/\X.H₀ b=none
 D6:X.base.objs.size<=X.s₀.heap.objs.size
 lV:∀b o,X.base.get? b=some o->b∉X.ex
 yT:∀b∈X.ex,b∉X.fs
 lW:X.s₀.heap.FunFrames X.base X.outer
 EY:∀b∈X.fs,X.H₀ b=none
structure Inv (X:Cx) (pins:List (Addr×Obj)) (σ:List (Option V)) (H:Hp) (s:Shared):Prop where
 ok:X.Ok
 os:s.os=X.s₀.os
 bare:AllBare s.gens
 base:Un X.fs X.ex X.H₀ H X.s₀.heap s.heap
 loc:∃m,s.heap.Ns X.env.locals m/\∀(i:Nat) (x:Str) (v:V),X.N[i]?=some x -> σ[i]?=some (some v)->JQ X.env.scope x->∃u,RelV v u/\Look X.env s.heap m x u
 cell:∀x c,X.env.cells.lookup x=some c->∃v,s.heap.IsCell c v
 free:H X.env.locals=none
 gp:∀x c,X.env.cells.lookup x=some c->H c=none
 pin:∀p∈X.pn++pins,s.heap.get? p.1=some p.2/\H p.1=none/\p.1≠X.env.locals/\p.1∉X.fs/\∀v,p.2.data≠.cell v
 hok:jV X.prog X.w H s.heap
 len:σ.length=X.N.length
section
variable {X:Cx} {pins:List (Addr×Obj)} {σ:List (Option V)} {H H':Hp} {s:Shared} {h':Heap}
theorem Cx.Ok.ND(ok:X.Ok)(e:X.base.get? b=some o):b∉X.fs:=λhb=>by
 have:=(ok.lW.mem hb).1;rw[e]at this;cases this
theorem Inv.bs(I:Inv X pins σ H s):∀b o,X.base.get? b=some o->s.heap.get? b=some o/\H b=none:=λb o e=>
 ⟨I.base.keep b o (I.ok.bs b o e).1 (I.ok.bs b o e).2 (I.ok.ND e) (I.ok.lV b o e),I.base.free b o (I.ok.bs b o e).1 (I.ok.bs b o e).2 (I.ok.lV b o e)⟩
theorem Inv.bk(I:Inv X pins σ H s):∀b o,X.base.get? b=some o->s.heap.get? b=some o:=λb o e=>(I.bs b o e).1
theorem Inv.mod(I:Inv X pins σ H s):Mod X.K X.mg X.base:=I.ok.mod
theorem Inv.qa(I:Inv X pins σ H s):X.K.In s.heap:=I.ok.mod.Nb.keeps I.bk
theorem Inv.lt(I:Inv X pins σ H s):X.env.locals<s.heap.objs.size:=let ⟨_,hn,_⟩:=I.loc;hn.lt
theorem Inv.sz(I:Inv X pins σ H s):X.s₀.heap.objs.size<=s.heap.objs.size:=Tt I.ok.above (US I.lt)
theorem Inv.NF(I:Inv X pins σ H s)(h:s.heap.objs.size<=a):a∉X.fs:=λhb=>by
 obtain⟨_,o,ho,_⟩:=I.ok.lW.mem hb;exact absurd (Te (S9 ho) (Tt I.sz h)) (Ud _)
theorem Inv.cne(I:Inv X pins σ H s):∀x c,X.env.cells.lookup x=some c->c≠X.env.locals:=λx c e z=>by
 obtain⟨v,o,ho,hd⟩:=I.cell x c e;obtain⟨m,⟨o',es,ep,ho',hd',_⟩,_⟩:=I.loc;rw[z,ho']at ho;cases ho;rw[hd']at hd;cases hd
theorem Inv.lW(I:Inv X pins σ H s):s.heap.FunFrames X.base X.outer:=by
 have all:∀(l:List Env),(∀b∈frs l,b∈X.fs)->X.s₀.heap.FunFrames X.base l->s.heap.FunFrames X.base l:=by
  intro l
  induction l with
  |nil=>intro _ _;trivial
  |cons env r ih=>intro hs hl;obtain⟨hk,⟨L,o,hf,hn,ho,hd⟩,hr⟩:=hl;have hL:L∈X.fs:=hs L (by unfold frs;rw[Va,hf];exact S3);obtain⟨sl,e⟩:=I.base.slot L o ho (I.ok.EY L hL) hL λz=>I.ok.yT L z hL;exact⟨hk,⟨L,_,hf,hn,e,hd⟩,ih (λb hb=>hs b (by unfold frs;rw[Va,hf];exact S2 _ hb)) hr⟩
 exact all X.outer (λ_ hb=>hb) I.ok.lW
theorem Inv.stack(I:Inv X pins σ H s):s.heap.FunFrames X.base X.stack:=by
 rcases I.ok.stk with e|⟨e,hf⟩
 ·rw[e];exact I.lW
 ·rw[e];obtain⟨m,hn,_⟩:=I.loc;refine .cons (by rw[I.ok.kind];decide) hf hn ?_ I.lW;exact Heap.get?_none_of_le (Tt I.ok.D6 I.ok.above)
theorem Inv.t8(I:Inv X pins σ H s):∀b∈frs X.stack,b∈X.env.locals::X.fs:=λb hb=>by
 rcases I.ok.stk with e|⟨e,hf⟩
 ·rw[e]at hb;exact S2 _ hb
 ·rw[e]at hb;unfold frs at hb;rw[Va,hf]at hb;exact hb
theorem Inv.u6(I:Inv X pins σ H s):∀b∈frs X.stack,H b=none:=λb hb=>by
 rcases Td.mp (I.t8 b hb) with e|hb
 ·rw[e];exact I.free
 ·obtain⟨_,o,ho,_⟩:=I.ok.lW.mem hb;exact I.base.free b o ho (I.ok.EY b hb) λz=>I.ok.yT b z hb
theorem Inv.step{g':Array GenState}{t':Nat}{d':Drawn}{ch:List Addr}(I:Inv X pins σ H s)
  (hch:∀b∈ch,(b∈X.ex\/X.s₀.heap.objs.size<=b)/\b≠X.env.locals/\(∀x c,X.env.cells.lookup x=some c->c≠b)/\∀p∈X.pn++pins,p.1≠b)
  (keep:∀b o,b≠X.env.locals->b∉X.fs->b∉ch->s.heap.get? b=some o->H b=none->h'.get? b=some o)
  (slot:∀b o,b≠X.env.locals->b∈X.fs->b∉ch->s.heap.get? b=some o->H b=none->∃sl,h'.get? b=some { o with slots:=sl }) (free:∀b o,b∉ch->s.heap.get? b=some o->H b=none->H' b=none)
  (there:∀b o,b∉ch->s.heap.get? b=some o->∃o',h'.get? b=some o')
  (tups:∀b xs,H b=some (.tup xs)->H' b=some (.tup xs)) (frzs:∀b o u,H b=some (.jT o u)->H' b=some (.jT o u)) (n5:∀b ps,H b=some (.tbl ps)->∃more,H' b=some (.tbl (ps++more)))
  (ns:∀m,s.heap.Ns X.env.locals m->h'.Ns X.env.locals m) (hok:jV X.prog X.w H' h') (hg:AllBare g') :
  Inv X pins σ H' { s with heap:=h',gens:=g',drawn:=d',toks:=t' }:=by
 have neL:∀b o,X.s₀.heap.get? b=some o->b≠X.env.locals:=λb o e=>Tp (Te (S9 e) I.ok.above);have neC:∀b o,X.s₀.heap.get? b=some o->b∉X.ex->b∉ch:=λb o e hx hb=>by
  rcases(hch b hb).1 with z|z
  ·exact hx z
  ·exact absurd (Te (S9 e) z) (Ud _)
 have cellK:∀x c,X.env.cells.lookup x=some c->∀v,s.heap.IsCell c v->h'.IsCell c v:=λx c e v ⟨o,ho,hd⟩=>by
  have JS:c∉ch:=λz=>(hch c z).2.2.1 x c e rfl
  by_cases hc:c∈X.fs
  ·obtain⟨sl,q⟩:=slot c o (I.cne x c e) hc JS ho (I.gp x c e);exact⟨_,q,hd⟩
  ·exact⟨o,keep c o (I.cne x c e) hc JS ho (I.gp x c e),hd⟩
 refine⟨I.ok,I.os,hg,⟨λb o e n hb hx=>?_,λb o e n hb hx=>?_,λb o e n hx=>?_,λb o e hx=>?_,λb xs e=>tups b xs (I.base.tups b xs e),λb o xs e=>frzs b o xs (I.base.frzs b o xs e),λb ps e=>?_⟩,?_,λx c e=>?_,?_,λx c e=>?_,λp hp=>?_,hok,I.len⟩
 ·exact keep b o (neL b o e) hb (neC b o e hx) (I.base.keep b o e n hb hx) (I.base.free b o e n hx)
 ·obtain⟨sl,e1⟩:=I.base.slot b o e n hb hx;obtain⟨QN,e2⟩:=slot b _ (neL b o e) hb (neC b o e hx) e1 (I.base.free b o e n hx);exact⟨QN,e2⟩
 ·obtain⟨o',e1⟩:=I.base.there b o e hx;exact free b o' (neC b o e hx) e1 (I.base.free b o e n hx)
 ·obtain⟨o',e1⟩:=I.base.there b o e hx;exact there b o' (neC b o e hx) e1
 ·obtain⟨m1,e1⟩:=I.base.n5 b ps e;obtain⟨m2,e2⟩:=n5 b _ e1;exact⟨m1++m2,by rw[e2,Array.append_assoc]⟩
 ·obtain⟨m,hn,hl⟩:=I.loc
  refine⟨m,ns m hn,λi x v e1 e2 e3=>?_⟩;obtain⟨u,r,l⟩:=hl i x v e1 e2 e3;refine⟨u,r,?_⟩
  rcases l with l|⟨k,c,e,z⟩
  ·exact .inl l
  ·exact .inr ⟨k,c,e,cellK x c e _ z⟩
 ·obtain⟨v,z⟩:=I.cell x c e;exact⟨v,cellK x c e v z⟩
 ·obtain⟨m,⟨o,_,_,ho,_⟩,_⟩:=I.loc;exact free _ o (λz=>(hch _ z).2.1 rfl) ho I.free
 ·obtain⟨v,o,ho,hd⟩:=I.cell x c e;exact free c o (λz=>(hch c z).2.2.1 x c e rfl) ho (I.gp x c e)
 ·obtain⟨e,n,ne,nf,d⟩:=I.pin p hp;have JS:p.1∉ch:=λz=>(hch p.1 z).2.2.2 p hp rfl;exact⟨keep p.1 p.2 ne nf JS e n,free p.1 p.2 JS e n,ne,nf,d⟩
theorem Inv.un{t':Nat}(I:Inv X pins σ H s)(u:Un X.fs [] H H' s.heap h')(hok:jV X.prog X.w H' h'):Inv X pins σ H' { s with heap:=h',toks:=t' }:=by
 obtain⟨m,⟨o,es,ep,ho,r⟩,_⟩:=id I.loc;obtain⟨sl,hL⟩:=u.any ho I.free (by simp);exact I.step (g':=s.gens) (d':=s.drawn) (ch:=[]) (λ_ z=>nomatch z) (λb o _ hb _ e n=>u.keep b o e n hb (by simp)) (λb o _ hb _ e n=>u.slot b o e n hb (by simp)) (λb o _ e n=>u.free b o e n (by simp)) (λb o _ e=>u.there b o e (by simp)) u.tups u.frzs u.n5 (λm' hm=>by
  obtain⟨o',es',NG,ho',r'⟩:=hm;rw[ho]at ho';cases ho';exact⟨_,es',NG,hL,r'⟩) hok I.bare
theorem Inv.call{t':Nat}(I:Inv X pins σ H s)(u:Un (frs X.stack) ch H H' s.heap h')(hok:jV X.prog X.w H' h')(hg:AllBare g')
  (hch:∀b∈ch,(b∈X.ex\/X.s₀.heap.objs.size<=b)/\b≠X.env.locals/\(∀x c,X.env.cells.lookup x=some c->c≠b)/\∀p∈X.pn++pins,p.1≠b) :
  Inv X pins σ H' { s with heap:=h',gens:=g',drawn:=d',toks:=t' }:=by
 obtain⟨m,⟨o,es,ep,ho,r⟩,_⟩:=id I.loc;obtain⟨sl,hL⟩:=u.any ho I.free λz=>(hch _ z).2.1 rfl;exact I.step (ch:=ch) hch (λb o hL hb hc e n=>u.keep b o e n (λz=>(Td.mp (I.t8 b z)).elim hL hb) hc) (λb o _ _ hc e n=>u.any e n hc) (λb o hc e n=>u.free b o e n hc) (λb o hc e=>u.there b o e hc) u.tups u.frzs u.n5 (λm' hm=>by
  obtain⟨o',es',NG,ho',r'⟩:=hm;rw[ho]at ho';cases ho';exact⟨_,es',NG,hL,r'⟩) hok hg
theorem Inv.turned{t':Nat}(I:Inv X pins σ H s)(k:∀b o,b≠it->s.heap.get? b=some o->h'.get? b=some o)(hn:H it=none)(hL:it≠X.env.locals)
  (h1:it∈X.ex\/X.s₀.heap.objs.size<=it) (h2:∀x c,X.env.cells.lookup x=some c->c≠it) (h3:∀p∈X.pn++pins,p.1≠it):Inv X pins σ H { s with heap:=h',toks:=t' }:=by
 have JT:∀b u,H b=some u->b≠it:=λb u e z=>by rw[z,hn]at e;cases e
 refine I.step (g':=s.gens) (d':=s.drawn) (ch:=[it]) (λb hb=>?_) (λb o _ _ hc e _=>k b o (λz=>hc (by simp[z])) e) (λb o _ _ hc e _=>⟨o.slots,k b o (λz=>hc (by simp[z])) e⟩) (λ_ _ _ _ n=>n)
  (λb o hc e=>⟨o,k b o (λz=>hc (by simp[z])) e⟩) (λ_ _ e=>e) (λ_ _ _ e=>e) (λb ps e=>⟨#[],by rw[e];simp⟩) (λm hm=>?_) (λb u e=>?_) I.bare
 ·have e:b=it:=by simpa using hb
  subst e;exact⟨h1,hL,h2,h3⟩
 ·obtain⟨o,es,ep,ho,r⟩:=hm;exact⟨o,es,ep,k _ o (Ne.symm hL) ho,r⟩
 ·refine(I.hok b u e).stay (λc v hc q=>k c v ?_ q) (λ_ q=>q) λ_ _ q=>q
  rcases hc with z|z
  ·rw[z];exact JT b u e
  ·exact JT c _ z
theorem Inv.tok(I:Inv X pins σ H s)(t:Nat):Inv X pins σ H { s with toks:=t }:=I.un (h':=s.heap) (t':=t) Un.refl I.hok
theorem Inv.kept{t':Nat}(I:Inv X pins σ H s)(k:∀b u,s.heap.get? b=some u->h'.get? b=some u):Inv X pins σ H { s with heap:=h',toks:=t' }:=I.un (Un.kept k) (I.hok.kept k)
theorem Inv.laid{t':Nat}(I:Inv X pins σ H s)(k:∀b u,s.heap.get? b=some u->h'.get? b=some u)(hp:s.heap.objs.size<=a)(new:bM X.prog X.w (upd H a o) h' a o) :
  Inv X pins σ (upd H a o) { s with heap:=h',toks:=t' }:=I.un (Un.laid k hp (I.hok.fresh hp)) (I.hok.laid k hp new)
theorem Inv.write{t':Nat}(I:Inv X pins σ H s)(mu:JP (H x))(he:e=x\/H e=some (.own x))(k:∀b u,b≠e->s.heap.get? b=some u->h'.get? b=some u)(JC:∃u,h'.get? e=some u)
  (new:bM X.prog X.w (upd H x o) h' x o):Inv X pins σ (upd H x o) { s with heap:=h',toks:=t' }:=I.un (Un.write mu he k JC) (I.hok.write mu he k JC new)
theorem Inv.u7(I:Inv X pins σ H s)(h:∀p∈JU,s.heap.get? p.1=some p.2/\H p.1=none/\p.1≠X.env.locals/\p.1∉X.fs/\∀v,p.2.data≠.cell v):Inv X JU σ H s :=
 ⟨I.ok,I.os,I.bare,I.base,I.loc,I.cell,I.free,I.gp,λp hp=>(Ua.mp hp).elim (λz=>I.pin p (TU _ z)) (h p),I.hok,I.len⟩
theorem rF{N:List Str}(hN:N.Nodup){i j:Nat}{x:Str}(a:N[i]?=some x)(b:N[j]?=some x):i=j:=by
 obtain⟨h1,e1⟩:=SW.mp a;obtain⟨h2,e2⟩:=SW.mp b;exact(List.getElem_inj hN).mp (e1.trans e2.symm)
theorem oE{i:Nat}(I:Inv X pins σ H s)(hN:X.N.Nodup)(hi:X.N[i]?=some x)(hx:Loc X.env.scope x)(r:RelV v u)
  (h:∀s',Inv X pins (σ.set i (some v)) H s'->(∃a,Heap.SameBut a s.heap s'.heap/\(a=X.env.locals\/X.env.cells.lookup x=some a))->Q () s') (hf:X.fn x=true\/X.env.scope.names.lookup x=some .local):wpAny M A (storeName X.env x u) Q E s:=by
 obtain⟨m,hn,hl⟩:=id I.loc;have hcls:(X.env.scope.kind==.class||(X.env.scope.kind==.module&&X.env.locals != X.env.globals))=false:=by rw[I.ok.kind];rfl
 have Pw:i < σ.length:=by rw[I.len];exact(SW.mp hi).1
 have cne:=I.cne;have tracked:∀{a:Addr} {h':Heap},(∃o,s.heap.get? a=some o/\H a=none)->Heap.SameBut a s.heap h'->jV X.prog X.w H h':=λ{a h'} ha hs b ob e=>by
  obtain⟨_,_,hfree⟩:=ha;refine(I.hok b ob e).stay (λc w' hc q=>(hs.2 c ?_).trans q) (λ_ q=>q) λ_ _ q=>q;rintro rfl
  rcases hc with rfl|hc
  ·rw[hfree]at e;cases e
  ·rw[hfree]at hc;cases hc
 rcases hx with hk|hk
 ·refine wpAny_storeName_local hk hn (λh' hn' hs=>?_) hcls
  obtain⟨oL,_,_,QO,_⟩:=id hn;refine h _ ⟨I.ok,I.os,I.bare,⟨λb o e n hb hx=>?_,λb o e n hb hx=>?_,I.base.free,λb o e hx=>?_,I.base.tups,I.base.frzs,I.base.n5⟩,⟨_,hn',λj y v' e1 e2 e3=>?_⟩,λy c e=>?_,I.free,I.gp,λp hp=>?_,tracked ⟨oL,QO,I.free⟩ hs,by simpa using I.len⟩ ⟨_,hs,.inl rfl⟩
  ·exact(hs.2 b (Tp (Te (S9 e) I.ok.above))).trans (I.base.keep b o e n hb hx)
  ·obtain⟨sl,e1⟩:=I.base.slot b o e n hb hx;exact⟨sl,(hs.2 b (Tp (Te (S9 e) I.ok.above))).trans e1⟩
  ·obtain⟨o',e1⟩:=I.base.there b o e hx;exact⟨o',(hs.2 b (Tp (Te (S9 e) I.ok.above))).trans e1⟩
  ·by_cases hj:j=i
   ·subst hj;rw[hi]at e1;cases e1;rw[S6 Pw]at e2;cases e2;exact⟨u,r,.inl ⟨hk,by simp⟩⟩
   ·rw[SX (Ne.symm hj)]at e2
    obtain⟨u',r',q⟩:=hl j y v' e1 e2 e3;refine⟨u',r',?_⟩
    rcases q with ⟨k,e⟩|⟨k,c,e,z⟩
    ·refine .inl ⟨k,?_⟩;have:y≠x:=λe=>hj (rF hN e1 (e▸hi));simp[this,e]
    ·exact .inr ⟨k,c,e,z.sameBut hs (cne y c e)⟩
  ·obtain⟨w',z⟩:=I.cell y c e;exact⟨w',z.sameBut hs (cne y c e)⟩
  ·obtain⟨e,n,ne,nf,d⟩:=I.pin p hp;exact⟨(hs.2 p.1 ne).trans e,n,ne,nf,d⟩
 ·have hfn:X.fn x=true:=by
   rcases hf with z|z
   ·exact z
   ·rw[z]at hk;cases hk
  obtain⟨c,hc⟩:=I.ok.has x (.inl hk);obtain⟨w',z⟩:=I.cell x c hc;refine wpAny_storeName_cell I.ok.kind hk hc z (λh' hc' hs=>?_);obtain⟨oc,hoc,yU⟩:=id z;refine h { s with heap:=h' } ⟨I.ok,I.os,I.bare,⟨λb o e n hb hx=>?_,λb o e n hb hx=>?_,I.base.free,λb o e hx=>?_,I.base.tups,I.base.frzs,I.base.n5⟩,⟨m,hn.sameBut hs (Ne.symm (cne x c hc)),λj y v' e1 e2 e3=>?_⟩,λy c' e=>?_,I.free,I.gp,λp hp=>?_,tracked ⟨oc,hoc,I.gp x c hc⟩ hs,by simpa using I.len⟩ ⟨c,hs,.inr hc⟩
  ·exact(hs.2 b (Tp (Te (S9 e) (I.ok.JR x c hfn hc)))).trans (I.base.keep b o e n hb hx)
  ·obtain⟨sl,e1⟩:=I.base.slot b o e n hb hx;exact⟨sl,(hs.2 b (Tp (Te (S9 e) (I.ok.JR x c hfn hc)))).trans e1⟩
  ·obtain⟨o',e1⟩:=I.base.there b o e hx;exact⟨o',(hs.2 b (Tp (Te (S9 e) (I.ok.JR x c hfn hc)))).trans e1⟩
  ·by_cases hj:j=i
   ·subst hj;rw[hi]at e1;cases e1;rw[S6 Pw]at e2;cases e2;exact⟨u,r,.inr ⟨.inl hk,c,hc,hc'⟩⟩
   ·rw[SX (Ne.symm hj)]at e2
    obtain⟨u',r',q⟩:=hl j y v' e1 e2 e3;refine⟨u',r',?_⟩
    rcases q with q|⟨k,c',e,z'⟩
    ·exact .inl q
    ·refine .inr ⟨k,c',e,z'.sameBut hs ?_⟩;rintro rfl;exact hj (rF hN e1 (I.ok.inj _ _ _ e hc▸hi))
  ·by_cases hcc:c'=c
   ·subst hcc;exact⟨_,hc'⟩
   ·obtain⟨w2,z2⟩:=I.cell y c' e;exact⟨w2,z2.sameBut hs hcc⟩
  ·obtain⟨e,n,ne,nf,d⟩:=I.pin p hp;refine⟨(hs.2 p.1 ?_).trans e,n,ne,nf,d⟩;intro q;rw[q,hoc]at e;have q':oc=p.2:=Tn e;exact d w' (by rw[<-q'];exact yU)
theorem rG{i:Nat}(I:Inv X pins σ H s)(hN:X.N.Nodup)(hi:X.N[i]?=some x)(hx:Loc X.env.scope x)(r:RelV v u)
  (h:∀s',Inv X pins (σ.set i (some v)) H s'->Q () s') (hf:X.fn x=true\/X.env.scope.names.lookup x=some .local):wpAny M A (storeName X.env x u) Q E s :=
 oE I hN hi hx r (λs' I' _=>h s' I') hf
theorem Inv.JV(I:Inv X pins σ H s)(ho:s'.os=s.os)(u:Un (frs X.stack) ch H H' s.heap s'.heap)(hok:jV X.prog X.w H' s'.heap)(hg:AllBare s'.gens)
  (hch:∀b∈ch,(b∈X.ex\/X.s₀.heap.objs.size<=b)/\b≠X.env.locals/\(∀x c,X.env.cells.lookup x=some c->c≠b)/\∀p∈X.pn++pins,p.1≠b):Inv X pins σ H' s':=by
 obtain⟨h',g',d',t',o'⟩:=s';have e:o'=s.os:=ho;subst e;exact I.call (g':=g') (t':=t') (d':=d') u hok hg hch
end
abbrev XK:=Value->Option Addr->Hp->Prop
abbrev St:=List (Option V)
abbrev VK:=V->Hp->Prop
abbrev TE:=St->Hp->VK->Prop
abbrev TT:=St->Hp->(Bool->Hp->Prop)->Prop
abbrev TA:=St->Hp->(List V->Hp->Prop)->Prop
structure Ends where
 nx:St->Hp->Prop
 rt:VK
 bk:St->Hp->Prop:=λ_ _=>False
 ct:St->Hp->Prop:=λ_ _=>False
abbrev TS:=Ends->St->Hp->Prop
def EP(X:Cx)(pins:List (Addr×Obj))(σ:St)(Q:VK)(u:Value)(s':Shared):Prop:=∃v H',Inv X pins σ H' s'/\RelV v u/\Q v H'
def TP(X:Cx)(pins:List (Addr×Obj))(σ:St)(Q:Bool->Hp->Prop)(b:Bool)(s':Shared):Prop:=∃H',Inv X pins σ H' s'/\Q b H'
def AP(X:Cx)(pins:List (Addr×Obj))(σ:St)(Q:List V->Hp->Prop)(us:List Value)(s':Shared):Prop:=∃vs H',Inv X pins σ H' s'/\Vals vs us/\Q vs H'
def SP(X:Cx)(pins:List (Addr×Obj))(D:Ends)(f:Flow)(s':Shared):Prop :=
 match f with
 |.next=>∃σ' H',Inv X pins σ' H' s'/\D.nx σ' H'
 |.brk=>∃σ' H',Inv X pins σ' H' s'/\D.bk σ' H'
 |.cont=>∃σ' H',Inv X pins σ' H' s'/\D.ct σ' H'
 |.ret u=>∃v σ' H',Inv X pins σ' H' s'/\RelV v u/\D.rt v H'
def PE(X:Cx)(e:Expr)(t:TE):Prop :=
 ∀(pins:List (Addr×Obj)) (s:Shared) (σ:St) (H:Hp) (Q:VK),Inv X pins σ H s->t σ H Q->wpAny (model X.prog X.w) X.A (eval e X.env) (EP X pins σ Q) X.xe s
def PT(X:Cx)(e:Expr)(t:TT):Prop :=
 ∀(pins:List (Addr×Obj)) (s:Shared) (σ:St) (H:Hp) (Q:Bool->Hp->Prop),Inv X pins σ H s->t σ H Q->wpAny (model X.prog X.w) X.A (isTrue e X.env (eval e X.env)) (TP X pins σ Q) X.xe s
def PW(X:Cx)(e:Expr)(t:TT):Prop :=
 ∀(whole:Sem Value) (pins:List (Addr×Obj)) (s:Shared) (σ:St) (H:Hp) (Q:Bool->Hp->Prop),Inv X pins σ H s->t σ H Q->wpAny (model X.prog X.w) X.A (isTrue e X.env whole) (TP X pins σ Q) X.xe s
theorem PW.pt(h:PW X e t):PT X e t:=h _
def PA(X:Cx)(es:List Expr)(t:TA):Prop :=
 ∀(pos:Pos) (pins:List (Addr×Obj)) (s:Shared) (σ:St) (H:Hp) (Q:List V->Hp->Prop),Inv X pins σ H s->t σ H Q->wpAny (model X.prog X.w) X.A (spliced (backTo pos (starEach es X.env))) (AP X pins σ Q) X.xe s
def PS(X:Cx)(st:Stmt)(t:TS):Prop :=
 ∀(pins:List (Addr×Obj)) (s:Shared) (σ:St) (H:Hp) (D:Ends),Inv X pins σ H s->t D σ H->wpAny (model X.prog X.w) X.A (exec st X.env) (SP X pins D) X.xe s
def t9(X:Cx)(st:List Stmt)(t:TS):Prop :=
 ∀(pins:List (Addr×Obj)) (s:Shared) (σ:St) (H:Hp) (D:Ends),Inv X pins σ H s->t D σ H->wpAny (model X.prog X.w) X.A (execs st X.env) (SP X pins D) X.xe s
theorem cy{α:Type}{t:Sem α}{Q Q':α -> Shared->Prop}(h:wpAny M A t Q E s)(hQ:∀a s,Q a s->Q' a s):wpAny M A t Q' E s:=TY h hQ λ_ _ x=>x
section
variable {X:Cx}
theorem bin{a b:Expr}{ta tb:TE}(ha:PE X a ta)(hb:PE X b tb){pins:List (Addr×Obj)}{s:Shared}{σ:St}{H:Hp}{R:V->V->Hp->Prop}(I:Inv X pins σ H s)(h:ta σ H λx H1=>tb σ H1 λy H2=>R x y H2)
  {α:Type} {Q:α -> Shared->Prop} {f:Value->Value->Sem α}
  (hf:∀v u s2 x y H2,Inv X pins σ H2 s2->RelV x v->RelV y u->R x y H2->wpAny (model X.prog X.w) X.A (f v u) Q X.xe s2) :
  wpAny (model X.prog X.w) X.A (eval a X.env) (λv s₁=>wpAny (model X.prog X.w) X.A (eval b X.env) (λu s₂=>wpAny (model X.prog X.w) X.A (f v u) Q X.xe s₂) X.xe s₁) X.xe s:=by
 refine cy (ha pins s σ H _ I h) λv s1 aE=>?_;obtain⟨x,H1,I1,r1,q1⟩:=aE;refine cy (hb pins s1 σ H1 _ I1 q1) λu s2 aE=>?_;obtain⟨y,H2,I2,r2,q2⟩:=aE;exact hf v u s2 x y H2 I2 r1 r2 q2
def kL(i:Nat):TE:=λσ H Q=>∃v,σ[i]?=some (some v)/\Q v H
def tC(v:V):TE:=λ_ H Q=>Q v H
theorem qb{i:Nat}(hN:X.N[i]?=some x)(hv:JQ X.env.scope x)(hd:(x==("__debug__":Str))=false)(hcd:(x==("__classdict__":Str))=false):PE X (.Name x pos) (kL i):=by
 intro pins s σ H Q I h;obtain⟨v,e,h⟩:=h;obtain⟨m,hn,hl⟩:=I.loc;obtain⟨u,r,l⟩:=hl i x v hN e hv;have fin:EP X pins σ Q u s:=⟨v,H,I,r,h⟩
 rcases l with ⟨hk,hm⟩|⟨hk,c,hc,hcell⟩
 ·exact wpAny_Name (wpAny_loadName_local I.ok.kind hk hn hm fin) hd
 ·rcases hk with hk|hk
  ·exact wpAny_Name (wpAny_loadName_cell I.ok.kind hk hc hcell fin) hd
  ·exact wpAny_Name (wpAny_loadName_free I.ok.kind hk hc hcell fin hcd) hd
theorem EZ{i j pos}:PE X (.Constant (.int i) j pos) (tC (.int i)):=λ_ _ _ H _ I h=>wpAny_Constant_int ⟨.int i,H,I.tok _,⟨_,rfl⟩,h⟩
theorem JW{b j pos}:PE X (.Constant (.bool b) j pos) (tC (.bl b)):=λ_ _ _ H _ I h=>Constant_bool ⟨.bl b,H,I,rfl,h⟩
theorem E1{j pos}:PE X (.Constant .none j pos) (tC .non):=λ_ _ _ H _ I h=>Constant_none ⟨.non,H,I,rfl,h⟩
theorem E2{x j pos}:PE X (.Constant (.str x) j pos) (tC (.str x)):=λ_ _ _ H _ I h=>Calls.Constant_str ⟨.str x,H,I.tok _,⟨_,rfl⟩,h⟩
def Gl(X:Cx)(x:Str):Prop:=X.env.kindOf x=some .globalImplicit
theorem jW(I:Inv X pins σ H s)(hg:Gl X x)(hm:X.mg x=some u)(h:Q u s)
  (hd:(x==("__debug__":Str))=false):wpAny (model X.prog X.w) X.A (eval (.Name x pos) X.env) Q E s :=
 Calls.Name_function_global I.ok.kind hg (Calls.loadGlobal_global (by rw[I.ok.glob];exact I.mod.glob.keeps I.bk) hm h) hd
theorem gb(I:Inv X pins σ H s)(hg:Gl X x)(hm:X.mg x=none)(hv:bootBuiltins x=some u)(h:Q u s)
  (hn:x ≠ "__name__":=by decide) (hd:(x==("__debug__":Str))=false:=by decide):wpAny (model X.prog X.w) X.A (eval (.Name x pos) X.env) Q E s:=by
 obtain⟨mb,h1,h2⟩:=I.mod.blt;exact Calls.Name_function_global I.ok.kind hg (Calls.loadGlobal_builtin (by rw[I.ok.glob];exact I.mod.glob.keeps I.bk) hm (by rw[I.ok.blt];exact h1.keeps I.bk) ((h2 x hn).trans hv) h) hd
theorem BS(hg:Gl X x)(hm:X.mg x=some u)(r:RelV v u)(hd:(x==("__debug__":Str))=false):PE X (.Name x pos) (tC v) :=
 λ_ _ _ H _ I h=>jW I hg hm ⟨v,H,I,r,h⟩ hd
theorem BU(hg:Gl X x)(hm:X.mg x=none)(hv:bootBuiltins x=some u)(r:RelV v u)(hn:x ≠ "__name__")(hd:(x==("__debug__":Str))=false):PE X (.Name x pos) (tC v) :=
 λ_ _ _ H _ I h=>gb I hg hm hv ⟨v,H,I,r,h⟩ hn hd
variable {a b:Expr} {ta tb:TE} {pos:Pos}
variable {tA Nc:TT} {rest:List Expr}
def NH(t u:TT):TT:=λσ H Q=>t σ H λc H1=>if c=true then u σ H1 Q else Q false H1
def QS(t u:TT):TT:=λσ H Q=>t σ H λc H1=>if c=true then Q true H1 else u σ H1 Q
def NI(t:TT):TT:=λσ H Q=>t σ H λc H1=>Q (!c) H1
theorem BV(ha:PT X a tA):PW X (.BoolOp .And [a] pos) tA:=by
 intro wh pins s σ H Q I h;refine isTrue_and (cy (ha pins s σ H Q I h) λc s1 e=>?_);cases c with
 |true=>exact isTrue_and_nil e
 |false=>exact e
theorem E4(ha:PT X a tA):PW X (.BoolOp .Or [a] pos) tA:=by
 intro wh pins s σ H Q I h;refine isTrue_or (cy (ha pins s σ H Q I h) λc s1 e=>?_);cases c with
 |false=>exact isTrue_or_nil e
 |true=>exact e
theorem E5(ha:PT X a tA)(hb:PW X (.BoolOp .And (b::rest) pos) Nc):PW X (.BoolOp .And (a::b::rest) pos) (NH tA Nc):=by
 intro wh pins s σ H Q I h;refine isTrue_and (cy (ha pins s σ H _ I h) λc s1 aE=>?_);obtain⟨H1,I1,q1⟩:=aE;cases c with
 |true=>exact hb wh pins s1 σ H1 Q I1 q1
 |false=>exact⟨H1,I1,q1⟩
theorem JX(ha:PT X a tA)(hb:PW X (.BoolOp .Or (b::rest) pos) Nc):PW X (.BoolOp .Or (a::b::rest) pos) (QS tA Nc):=by
 intro wh pins s σ H Q I h;refine isTrue_or (cy (ha pins s σ H _ I h) λc s1 aE=>?_);obtain⟨H1,I1,q1⟩:=aE;cases c with
 |true=>exact⟨H1,I1,q1⟩
 |false=>exact hb wh pins s1 σ H1 Q I1 q1
theorem E6(ha:PT X a tA):PT X (.UnaryOp .Not a pos) (NI tA):=by
 intro pins s σ H Q I h;exact isTrue_not (ha pins s σ H (λc H1=>Q (!c) H1) I h)
def JY(ta tb:TE):TE:=λσ H Q=>ta σ H λx H1=>∃c,x=.bl c/\if c=true then tb σ H1 Q else Q (.bl false) H1
def NJ(ta tb:TE):TE:=λσ H Q=>ta σ H λx H1=>∃c,x=.bl c/\if c=true then Q (.bl true) H1 else tb σ H1 Q
def JZ(ta:TE):TE:=λσ H Q=>ta σ H λx H1=>∃c,x=.bl c/\Q (.bl (!c)) H1
theorem yV{op}(h:PE X a t):PE X (.BoolOp op [a] pos) t:=λpins s σ H Q I hw=>BoolOp_one (h pins s σ H Q I hw)
theorem E7(ha:PE X a ta)(hb:PE X (.BoolOp .And (b::rest) pos) tb):PE X (.BoolOp .And (a::b::rest) pos) (JY ta tb):=by
 intro pins s σ H Q I h;refine BoolOp_and (cy (ha pins s σ H _ I h) λv s1 aE=>?_);obtain⟨x,H1,I1,r1,q1⟩:=aE;obtain⟨c,rfl,q1⟩:=q1;cases r1;refine Ur ?_;cases c with
 |true=>exact hb pins s1 σ H1 Q I1 q1
 |false=>exact⟨.bl false,H1,I1,rfl,q1⟩
theorem J0(ha:PE X a ta)(hb:PE X (.BoolOp .Or (b::rest) pos) tb):PE X (.BoolOp .Or (a::b::rest) pos) (NJ ta tb):=by
 intro pins s σ H Q I h;refine BoolOp_or (cy (ha pins s σ H _ I h) λv s1 aE=>?_);obtain⟨x,H1,I1,r1,q1⟩:=aE;obtain⟨c,rfl,q1⟩:=q1;cases r1;refine Ur ?_;cases c with
 |false=>exact hb pins s1 σ H1 Q I1 q1
 |true=>exact⟨.bl true,H1,I1,rfl,q1⟩
theorem E8(ha:PE X a ta):PE X (.UnaryOp .Not a pos) (JZ ta):=by
 intro pins s σ H Q I h;refine UnaryOp_ (cy (ha pins s σ H _ I h) λv s1 aE=>?_);obtain⟨x,H1,I1,r1,q1⟩:=aE;obtain⟨c,rfl,q1⟩:=q1;cases r1;exact not_of (Ur ⟨.bl (!c),H1,I1,rfl,q1⟩)
end
def fu(K:Frag)(H:Hp)(a:Addr)(xs:List V):Prop :=
 Rd H a (.lst xs) \/
  ∃(o:Obj) (its:Array Value) (n:Nat),K.lookup a=some o/\o.cls=.type "list" /\ o.dict=none/\o.data=.seq its n/\its.size<=sizeLine/\Vals xs its.toList
def gS(K:Frag)(H:Hp)(a:Addr)(xs:List V):Prop :=
 Rd H a (.tup xs) \/
  ∃(o:Obj) (its:Array Value) (n:Nat),K.lookup a=some o/\o.cls=.type "tuple" /\ o.data=.seq its n/\its.size<=sizeLine/\Vals xs its.toList
def NK:Value->Option V
 |.none=>some .non
 |.bool b=>some (.bl b)
 |.int i _=>some (.int i)
 |.str x _=>some (.str x)
 |.bytes b _=>some (.byt b)
 |.float b _=>some (.flt b)
 |.ref a=>some (.ref a)
 |.type n=>some (.ty n)
 |_=>none
theorem RelV.abs(r:RelV x u):NK u=some x:=by
 cases x with
 |non=>cases r;rfl
 |bl _=>cases r;rfl
 |int _=>obtain⟨t,rfl⟩:=r;rfl
 |str _=>obtain⟨t,rfl⟩:=r;rfl
 |byt _=>obtain⟨t,rfl⟩:=r;rfl
 |flt _=>obtain⟨t,rfl⟩:=r;rfl
 |ref _=>cases r;rfl
 |ty _=>cases r;rfl
theorem RelV.inj(r:RelV x u)(q:RelV y u):x=y:=Tn (r.abs.symm.trans q.abs)
theorem Vals.inj:∀{xs ys:List V} {us:List Value},Vals xs us->Vals ys us->xs=ys
 |_,_,_,.nil,.nil=>rfl
 |_,_,_,.cons r t,.cons r' t'=>by rw[r.inj r',Vals.inj t t']
section
variable {X:Cx} {pins:List (Addr×Obj)} {σ:St} {H:Hp} {s:Shared} {a:Addr} {xs ys:List V}
theorem fu.of{K:Frag}(h:H a=some (.lst xs)):fu K H a xs:=.inl (.inl h)
theorem gS.of{K:Frag}(h:H a=some (.tup xs)):gS K H a xs:=.inl (.inl h)
theorem Inv.list(I:Inv X pins σ H s)(h:fu X.K H a xs):∃its:List Value,Vals xs its/\PlainL s.heap a its.toArray/\xs.length<=sizeLine:=by
 rcases h with h|⟨o,its,n,hk,hc,hd,hs,hz,r⟩
 ·obtain⟨z,its,n,r,e⟩:=h.ok I.hok;exact⟨its,r,⟨_,n,e,rfl,rfl,rfl⟩,z⟩
 ·refine⟨its.toList,r,⟨o,n,I.qa a o hk,hc,hd,by simpa using hs⟩,?_⟩;have e:=r.length;simp only[Array.length_toList]at e;omega
theorem Inv.tuple(I:Inv X pins σ H s)(h:gS X.K H a xs):∃its:List Value,Vals xs its/\IsTup s.heap a its.toArray/\xs.length<=sizeLine:=by
 rcases h with h|⟨o,its,n,hk,hc,hs,hz,r⟩
 ·obtain⟨z,its,r,p⟩:=h.ok I.hok;exact⟨its,r,p,z⟩
 ·refine⟨its.toList,r,⟨o,I.qa a o hk,hc,n,by simpa using hs⟩,?_⟩;have e:=r.length;simp only[Array.length_toList]at e;omega
theorem Inv.rH(I:Inv X pins σ H s)(h:fu X.K H a xs)(h':fu X.K H a ys):xs=ys:=by
 obtain⟨its,r,⟨o,n,e,_,_,d⟩,_⟩:=I.list h;obtain⟨its',r',⟨o',n',e',_,_,d'⟩,_⟩:=I.list h';rw[e]at e';cases e';rw[d]at d';injection d' with d1 _
 have:its=its':=by simpa using TR toList d1
 subst this;exact r.inj r'
theorem Inv.xu(I:Inv X pins σ H s)(h:gS X.K H a xs)(h':gS X.K H a ys):xs=ys:=by
 obtain⟨its,r,⟨o,e,_,n,d⟩,_⟩:=I.tuple h;obtain⟨its',r',⟨o',e',_,n',d'⟩,_⟩:=I.tuple h';rw[e]at e';cases e';rw[d]at d';injection d' with d1 _
 have:its=its':=by simpa using TR toList d1
 subst this;exact r.inj r'
end
abbrev Cx.n6(X:Cx)(E:Value->Shared->Prop):Cx:={ X with xe:=E }
abbrev Cx.J1(X:Cx):Cx:=X.n6 λ_ _=>False
theorem Cx.Ok.n6{X:Cx}(ok:X.Ok)(E:Value->Shared->Prop):(X.n6 E).Ok :=
 ⟨ok.mod,ok.kind,ok.glob,ok.blt,ok.above,ok.inj,ok.has,ok.JR,ok.hd,ok.frames,ok.stk,ok.NC,ok.bs,ok.D6,ok.lV,ok.yT,ok.lW,ok.EY⟩
theorem Cx.Ok.iJ{X:Cx}{E:Value->Shared->Prop}(ok:(X.n6 E).Ok):X.Ok :=
 ⟨ok.mod,ok.kind,ok.glob,ok.blt,ok.above,ok.inj,ok.has,ok.JR,ok.hd,ok.frames,ok.stk,ok.NC,ok.bs,ok.D6,ok.lV,ok.yT,ok.lW,ok.EY⟩
section
variable {X:Cx} {pins:List (Addr×Obj)} {σ:St} {H:Hp} {s:Shared} {E:Value->Shared->Prop}
theorem Inv.n6(I:Inv X pins σ H s)(E:Value->Shared->Prop):Inv (X.n6 E) pins σ H s:=⟨I.ok.n6 E,I.os,I.bare,I.base,I.loc,I.cell,I.free,I.gp,I.pin,I.hok,I.len⟩
theorem Inv.iJ(I:Inv (X.n6 E) pins σ H s):Inv X pins σ H s:=⟨I.ok.iJ,I.os,I.bare,I.base,I.loc,I.cell,I.free,I.gp,I.pin,I.hok,I.len⟩
theorem SP.iJ(h:SP (X.n6 E) pins D f s'):SP X pins D f s':=by
 cases f with
 |next=>obtain⟨σ',H',I,q⟩:=h;exact⟨σ',H',I.iJ,q⟩
 |brk=>obtain⟨σ',H',I,q⟩:=h;exact⟨σ',H',I.iJ,q⟩
 |cont=>obtain⟨σ',H',I,q⟩:=h;exact⟨σ',H',I.iJ,q⟩
 |ret u=>obtain⟨v,σ',H',I,r,q⟩:=h;exact⟨v,σ',H',I.iJ,r,q⟩
theorem t9.J1{st:List Stmt}{t:TS}(h:t9 X.J1 st t):t9 X st t:=λpins s σ H D I hw=>
 TY (h pins s σ H D (I.n6 _) hw) (λ_ _ q=>q.iJ) λ_ _ z=>False.elim z
end
section
variable {X:Cx} {st:Stmt} {rest:List Stmt} {t u:TS} {e:Expr} {te:TE} {pos:Pos}
def yW:TS:=λD σ H=>D.nx σ H
def NL(t u:TS):TS:=λD σ H=>t { D with nx:=u D } σ H
theorem BW:t9 X [] yW:=λ_ _ σ H _ I h=>wpAny_execs_nil ⟨σ,H,I,h⟩
theorem yX(h1:PS X st t)(h2:t9 X rest u):t9 X (st::rest) (NL t u):=by
 intro pins s σ H D I h;refine wpAny_execs_cons (cy (h1 pins s σ H { D with nx:=u D } I h) λf s1 q=>?_);cases f with
 |next=>obtain⟨σ',H',I',q⟩:=q;exact h2 pins s1 σ' H' D I' q
 |ret v=>exact q
 |brk=>exact q
 |cont=>exact q
def E9:TS:=λD σ H=>D.bk σ H
def J2:TS:=λD σ H=>D.ct σ H
theorem BX:PS X (.Pass pos) yW:=λ_ _ σ H _ I h=>wpAny_Pass ⟨σ,H,I,h⟩
theorem yY:PS X (.Break pos) E9:=λ_ _ σ H _ I h=>wpAny_Break ⟨σ,H,I,h⟩
theorem rJ:PS X (.Continue pos) J2:=λ_ _ σ H _ I h=>wpAny_Continue ⟨σ,H,I,h⟩
theorem Inv.quiet(I:Inv X pins σ H s):interactive X.env=false:=by simp[interactive,I.ok.kind]
theorem Fb{x j pos pos'}:PS X (.Expr (.Constant (.str x) j pos) pos') yW:=λ_ s σ H _ I h=>wpAny_Expr (Calls.Constant_str (show SP X _ _ .next { s with toks:=s.toks+1 } from⟨σ,H,I.tok _,h⟩)) I.quiet
def J3(te:TE):TS:=λD σ H=>te σ H λ_ H1=>D.nx σ H1
theorem BY(he:PE X e te)(hs:swapsWith e none pos.line X.env=pure false):PS X (.Expr e pos) (J3 te):=by
 intro pins s σ H D I h;exact wpAny_Expr_any (cy (he pins s σ H _ I h) λv s1 ⟨x,H1,I1,r1,q1⟩=>⟨σ,H1,I1,q1⟩) I.quiet hs
def NO(te:TE):TS:=λD σ H=>te σ H D.rt
theorem Fc(he:PE X e te):PS X (.Return (some e) pos) (NO te):=by
 intro pins s σ H D I h;exact wpAny_Return_some (cy (he pins s σ H _ I h) λv s1 ⟨x,H1,I1,r1,q1⟩=>⟨x,σ,H1,I1,r1,q1⟩)
def J4:TS:=λD _ H=>D.rt .non H
theorem BZ:PS X (.Return none pos) J4:=λ_ _ σ H _ I h=>wpAny_Return_none ⟨.non,σ,H,I,rfl,h⟩
def NP(c:TT)(t u:TS):TS:=λD σ H=>c σ H λb H1=>if b=true then t D σ H1 else u D σ H1
theorem J5(hc:PT X c tc)(ha:t9 X a t)(hb:t9 X b u):PS X (.If c a b pos) (NP tc t u):=by
 intro pins s σ H D I h;refine wpAny_If (cy (hc pins s σ H _ I h) λd s1 aE=>?_);obtain⟨H1,I1,q1⟩:=aE;cases d with
 |true=>exact ha pins s1 σ H1 D I1 q1
 |false=>exact hb pins s1 σ H1 D I1 q1
def Fd:TS:=λ_ _ _=>False
theorem rK:PS X st Fd:=λ_ _ _ _ _ _ h=>h.elim
end
abbrev TG:=V->St->Hp->(St->Hp->Prop)->Prop
abbrev JD:=List V->St->Hp->(St->Hp->Prop)->Prop
def PG(X:Cx)(target:Expr)(t:TG):Prop :=
 ∀(pins:List (Addr×Obj)) (s:Shared) (σ:St) (H:Hp) (v:V) (u:Value) (Q:St->Hp->Prop),Inv X pins σ H s->RelV v u->t v σ H Q ->
  wpAny (model X.prog X.w) X.A (assign target X.env u) (λ_ s'=>∃σ' H',Inv X pins σ' H' s'/\Q σ' H') X.xe s
def JE(X:Cx)(ts:List Expr)(t:JD):Prop :=
 ∀(pins:List (Addr×Obj)) (s:Shared) (σ:St) (H:Hp) (vs:List V) (us:List Value) (Q:St->Hp->Prop),Inv X pins σ H s->Vals vs us->t vs σ H Q ->
  wpAny (model X.prog X.w) X.A (assignInOrder ((assignEach ts X.env).map (·.2)) us) (λ_ s'=>∃σ' H',Inv X pins σ' H' s'/\Q σ' H') X.xe s
abbrev Fe:=V->V->V->Hp->(Hp->Prop)->Prop
def Ff(X:Cx)(t:Fe):Prop :=
 ∀(pins:List (Addr×Obj)) (s:Shared) (σ:St) (H:Hp) (o i v:V) (ov iv u:Value) (Q:Hp->Prop),Inv X pins σ H s->RelV o ov->RelV i iv->RelV v u->t o i v H Q ->
  wpAny (model X.prog X.w) X.A (setItem ov iv u) (λ_ s'=>∃H',Inv X pins σ H' s'/\Q H') X.xe s
section
variable {X:Cx} {pos:Pos}
def lG(i:Nat):TG:=λv σ H Q=>Q (σ.set i (some v)) H
theorem l9{i:Nat}(hN:X.N.Nodup)(hi:X.N[i]?=some x)(hx:Loc X.env.scope x)(hf:X.fn x=true\/X.env.scope.names.lookup x=some .local):PG X (.Name x pos) (lG i):=by
 intro pins s σ H v u Q I r h;exact wpAny_assign_Name (rG I hN hi hx r (λs' I'=>⟨_,H,I',h⟩) hf)
def J6:JD:=λvs σ H Q=>vs=[]/\Q σ H
def D7(t:TG)(u:JD):JD:=λvs σ H Q=>∃v r,vs=v::r/\t v σ H λσ' H'=>u r σ' H' Q
theorem u9:JE X [] J6:=by
 intro pins s σ H vs us Q I r h;obtain⟨e,h⟩:=h;subst e;cases r;exact assignInOrder_nil ⟨σ,H,I,h⟩
theorem rL(h1:PG X e t)(h2:JE X es u)
  (hs:(assignEach (e::es) X.env).map (·.2)=assign e X.env::(assignEach es X.env).map (·.2):=by rfl):JE X (e::es) (D7 t u):=by
 intro pins s σ H vs us Q I r h;obtain⟨v,vr,e1,h⟩:=h;subst e1;cases r with
 |cons r rr=>rw[hs];refine assignInOrder_cons (cy (h1 pins s σ H _ _ _ I r h) λ_ s1 aE=>?_);obtain⟨σ1,H1,I1,q1⟩:=aE;exact h2 pins s1 σ1 H1 _ _ Q I1 rr q1
def J7(K:Frag)(n:Nat)(t:JD):TG:=λv σ H Q=>∃a xs,v=.ref a/\gS K H a xs/\xs.length=n/\t xs σ H Q
theorem yZ{k:Nat}{n:Nat}(hc:X.calm=true)(h:JE X es t)
  (hn:(assignEach es X.env).length=n) (hst:(assignEach es X.env).findIdx? (·.1)=none):PG X (.Tuple es k pos) (J7 X.K n t):=by
 intro pins s σ H v u Q I r hw;obtain⟨a,xs,e1,hq,hl,hw⟩:=hw;subst e1;cases r;obtain⟨its,rv,ht,hz⟩:=I.tuple hq;refine assign_Tuple_tuple (I.ok.hd hc) ht (by simp[hn,<-hl,rv.length]) hst λh' hx=>?_;have I1:Inv X pins σ H { s with heap:=h' }:=I.kept (t':=s.toks) λb o e=>hx b o (Tp (S9 e)) e;exact h pins _ σ H xs _ Q I1 (by simpa using rv) hw
def J8(to ti:TE)(t:Fe):TG:=λv σ H Q=>to σ H λo H1=>ti σ H1 λi H2=>t o i v H2 λH3=>Q σ H3
theorem Fg(ho:PE X o to)(hi:PE X i ti)(hs:Ff X t)
  (ha:∀v,assign (.Subscript o i pos) X.env v=(do
   let ov <-holding [v] (eval o X.env)
   let iv <-holding [v,ov] (eval i X.env)
   standAt pos
   holding [v,ov,iv] (setItem ov iv v)
   release [v,ov,iv] [])):PG X (.Subscript o i pos) (J8 to ti t):=by
 intro pins s σ H v u Q I r h;rw[ha];refine S0 (Uk (cy (ho pins s σ H _ I h) λov s1 aE=>?_));obtain⟨x,H1,I1,r1,q1⟩:=aE;refine S0 (Uk (cy (hi pins s1 σ H1 _ I1 q1) λiv s2 aE=>?_));obtain⟨y,H2,I2,r2,q2⟩:=aE;refine S0 (Vk (S0 (Uk (cy (hs pins s2 σ H2 x y v ov iv u _ I2 r1 r2 r q2) λ_ s3 aE=>?_))));obtain⟨H3,I3,q3⟩:=aE;exact wpAny_release ⟨σ,H3,I3,q3⟩
def B0(te:TE)(g:TG):TS:=λD σ H=>te σ H λx H1=>g x σ H1 D.nx
theorem y9(he:PE X e te)(hg:PG X tg g)(hs:swapsWithSole [tg] e pos.line X.env=pure false)(hw:swappedStores [tg] e X.env=pure none)
  (h1:(assignEach [tg] X.env).map (·.2)=[assign tg X.env]):PS X (.Assign [tg] e pos) (B0 te g):=by
 intro pins s σ H D I h;refine wpAny_Assign_stores (cy (he pins s σ H _ I h) λv s1 ⟨x,H1,I1,r1,q1⟩=>?_) hs hw;rw[h1];exact cy (hg pins s1 σ H1 x v _ I1 r1 q1) λ_ s2 q=>q
theorem za{i:Nat}(hN:X.N.Nodup)(hi:X.N[i]?=some x)(hx:Loc X.env.scope x)(he:PE X e te)(hs:swapsWith e (some (.Name x pos')) pos.line X.env=pure false)(hf:X.fn x=true\/X.env.scope.names.lookup x=some .local) :
  PS X (.Assign [.Name x pos'] e pos) (B0 te (lG i)):=by
 intro pins s σ H D I h;refine wpAny_Assign_Name (cy (he pins s σ H _ I h) λv s1 ⟨y,H1,I1,r1,q1⟩=>?_) hs;exact rG I1 hN hi hx r1 (λs2 I2=>⟨_,H1,I2,q1⟩) hf
end
structure It where
 go:Nat->Hp->Prop
 ua:Nat->Hp->V->Hp->Prop
 stop:Nat->Hp->Prop
def lX(X:Cx)(pins:List (Addr×Obj))(H:Hp)(b:Addr):Prop :=
 H b=none/\b≠X.env.locals/\b∉X.fs/\(b∈X.ex\/X.s₀.heap.objs.size<=b)/\(∀x c,X.env.cells.lookup x=some c->c≠b)/\∀p∈X.pn++pins,p.1≠b
theorem Inv.zb(I:Inv X pins σ H s)(hb:s.heap.objs.size<=b)(hn:H' b=none):lX X pins H' b:=by
 refine⟨hn,UT (Te I.lt hb),I.NF hb,.inr (Tt I.sz hb),λx c e z=>?_,λp hp z=>?_⟩
 ·obtain⟨v,q⟩:=I.cell x c e;exact absurd (Te q.lt (by rw[z];exact hb)) (Ud _)
 ·exact absurd (Te (S9 (I.pin p hp).1) (by rw[z];exact hb)) (Ud _)
structure Turn (P:Program) (w:World) (K:Frag) (tg:Expr) (J:It) (fp:List Addr) (it:Addr) (tn:Nat->Heap->Prop):Prop where
 mem:it∈fp
 obj:∀i h,tn i h->∀b∈fp,∃o,h.get? b=some o/\∀v,o.data≠.cell v
 keep:∀i h h',tn i h->(∀b∈fp,∀o,h.get? b=some o->h'.get? b=some o)->tn i h'
 item:∀(X:Cx),X.prog=P->X.w=w->X.K=K->X.calm=true->∀(i:Nat) (pins:List (Addr×Obj)) (s:Shared) (σ:St) (H:Hp) (E:Value->Shared->Prop),Inv X pins σ H s->(∀b∈fp,lX X pins H b)->tn i s.heap->J.go i H ->
  wpAny (model P w) X.A (pyNext (.ref it)) (λr s1=>∃u,r=some u /\
   wpAny (model P w) X.A (letOwnedTupleGo tg (.ref it) u) (λ_ s2=>∃x H',Inv X pins σ H' s2/\RelV x u/\J.ua i H x H'/\tn (i+1) s2.heap/\∀b∈fp,H' b=none) E s1) E s
 done:∀(X:Cx),X.prog=P->X.w=w->X.K=K->X.calm=true->∀(i:Nat) (pins:List (Addr×Obj)) (s:Shared) (σ:St) (H:Hp) (E:Value->Shared->Prop),Inv X pins σ H s->(∀b∈fp,lX X pins H b)->tn i s.heap->J.stop i H ->
  wpAny (model P w) X.A (pyNext (.ref it)) (λr s1=>r=none/\Inv X pins σ H s1) E s
 self:∀(A:Around) (i:Nat) (s:Shared) (Q:Value->Shared->Prop) (E:Value->Shared->Prop),tn i s.heap->Q (.ref it) s->wpAny (model P w) A (pyIter (.ref it)) Q E s
abbrev TI:=St->Hp->(It->Hp->Prop)->Prop
def Px(X:Cx)(pins:List (Addr×Obj))(σ:St)(tg:Expr)(R:It->Hp->Prop)(itv:Value)(s2:Shared):Prop :=
 ∃(it:Addr) (fp:List Addr) (tn:Nat->Heap->Prop) (J:It) (H':Hp),itv=.ref it/\Inv X pins σ H' s2/\Turn X.prog X.w X.K tg J fp it tn/\tn 0 s2.heap/\(∀b∈fp,lX X pins H' b)/\R J H'
def PI(X:Cx)(tg iter:Expr)(wi:TI):Prop :=
 ∀(pins:List (Addr×Obj)) (s:Shared) (σ:St) (H:Hp) (R:It->Hp->Prop),Inv X pins σ H s->wi σ H R ->
  wpAny (model X.prog X.w) X.A (eval iter X.env) (λv s1=>wpAny (model X.prog X.w) X.A (pyIter v) (Px X pins σ tg R) X.xe s1) X.xe s
theorem vc{n:String}(ho:s.heap.get? it=some o)(hc:o.cls=.type n)(hd:o.data=.fields vs)
  (hn:["enumerate","zip","dict_itemiterator","dict_reverseitemiterator","odict_iterator","itertools.zip_longest","itertools.pairwise"].contains n=false) (hQ:Q () s):wpAny M A (letOwnedTupleGo tg (.ref it) u) Q E s:=by
 unfold letOwnedTupleGo;cases tg<;>first
  |exact Th hQ
  | (cases u<;>first
    |exact Th hQ
    | (refine S0 (wpAny_load ho ?_)
       rw[hc,hd];show wpAny M A (if (["enumerate","zip","dict_itemiterator","dict_reverseitemiterator","odict_iterator","itertools.zip_longest","itertools.pairwise"].contains n&&vs[0]?==some (rawInt _))=true then _ else _) Q E s;rw[S8 (by intro h;rw[hn,Bool.false_and]at h;cases h)];exact Th hQ))
def Nd(K:Frag)(a:Addr):It :=
 ⟨λi H=>∃xs x,fu K H a xs/\xs[i]?=some x,λi H x H'=>H'=H/\∀xs,fu K H a xs->xs[i]?=some x,λi H=>∃xs,fu K H a xs/\xs.length<=i⟩
def NR(K:Frag)(a:Addr):It :=
 ⟨λi H=>∃xs x,gS K H a xs/\xs[i]?=some x,λi H x H'=>H'=H/\∀xs,gS K H a xs->xs[i]?=some x,λi H=>∃xs,gS K H a xs/\xs.length<=i⟩
def J9(lo:Int)(n:Nat):It:=⟨λi _=>i<n,λi H x H'=>H'=H/\x=.int (lo+i),λi _=>n<=i⟩
theorem xw{P:Program}{w:World}{K:Frag}{tg:Expr}(a it:Addr):Turn P w K tg (Nd K a) [it] it (λi h=>h.IsListIter it a i) where
 mem:=by simp
 obj:=λi h st b hb=>by
  have e:b=it:=by simpa using hb
  subst e;obtain⟨o,e,c,d⟩:=st;exact⟨o,e,λv z=>by rw[d]at z;cases z⟩
 keep:=λi h h' st k=>st.at λo e=>k it (by simp) o e
 item:=by intro X hP hw hK hc i pins s σ H E I hf st hg;subst hP hw hK;obtain⟨xs,x,hq,hx⟩:=hg;obtain⟨its,rv,p,hz⟩:=I.list hq;obtain⟨u,hu,ru⟩:=rv.get hx;obtain⟨f0,f1,f2,f3,f4,f5⟩:=hf it (by simp);refine wpAny_pyNext_list_item st p.isList (x:=u) (by simpa using hu) λh' st' sb=>?_;have I1:Inv X pins σ H { s with heap:=h' }:=I.turned (t':=s.toks) (λb o hb e=>(sb.2 b hb).trans e) f0 f1 f3 f4 f5;obtain⟨o,e,c,d⟩:=id st';exact⟨u,rfl,vc (s:={ s with heap:=h' }) e c d (by decide) ⟨x,H,I1,ru,⟨rfl,λys hy=>by rw[I.rH hy hq];exact hx⟩,st',λb hb=>(hf b hb).1⟩⟩
 done:=by intro X hP hw hK hc i pins s σ H E I hf st hg;subst hP hw hK;obtain⟨xs,hq,hx⟩:=hg;obtain⟨its,rv,p,hz⟩:=I.list hq;obtain⟨f0,f1,f2,f3,f4,f5⟩:=hf it (by simp);have hl:=rv.length;exact wpAny_pyNext_list_end (I.ok.hd hc) st p.isList (by simp;omega) λh' eb=>⟨rfl,I.turned (t':=s.toks) (λb o hb e=>eb b o hb e) f0 f1 f3 f4 f5⟩
 self:=λ_ _ _ _ _ st h=>wpAny_pyIter_listiter st h
theorem uc{P:Program}{w:World}{K:Frag}{tg:Expr}(a it:Addr):Turn P w K tg (NR K a) [it] it (λi h=>h.IsTupleIter it a i) where
 mem:=by simp
 obj:=λi h st b hb=>by
  have e:b=it:=by simpa using hb
  subst e;obtain⟨o,e,c,d⟩:=st;exact⟨o,e,λv z=>by rw[d]at z;cases z⟩
 keep:=λi h h' st k=>st.at λo e=>k it (by simp) o e
 item:=by intro X hP hw hK hc i pins s σ H E I hf st hg;subst hP hw hK;obtain⟨xs,x,hq,hx⟩:=hg;obtain⟨its,rv,p,hz⟩:=I.tuple hq;obtain⟨u,hu,ru⟩:=rv.get hx;obtain⟨f0,f1,f2,f3,f4,f5⟩:=hf it (by simp);refine wpAny_pyNext_tuple_item st (show s.heap.IsTuple a its.toArray from p) (x:=u) (by simpa using hu) λh' st' sb=>?_;have I1:Inv X pins σ H { s with heap:=h' }:=I.turned (t':=s.toks) (λb o hb e=>(sb.2 b hb).trans e) f0 f1 f3 f4 f5;obtain⟨o,e,c,d⟩:=id st';exact⟨u,rfl,vc (s:={ s with heap:=h' }) e c d (by decide) ⟨x,H,I1,ru,⟨rfl,λys hy=>by rw[I.xu hy hq];exact hx⟩,st',λb hb=>(hf b hb).1⟩⟩
 done:=by intro X hP hw hK hc i pins s σ H E I hf st hg;subst hP hw hK;obtain⟨xs,hq,hx⟩:=hg;obtain⟨its,rv,p,hz⟩:=I.tuple hq;obtain⟨f0,f1,f2,f3,f4,f5⟩:=hf it (by simp);have hl:=rv.length;exact wpAny_pyNext_tuple_end (I.ok.hd hc) st (show s.heap.IsTuple a its.toArray from p) (by simp;omega) λh' eb=>⟨rfl,I.turned (t':=s.toks) (λb o hb e=>eb b o hb e) f0 f1 f3 f4 f5⟩
 self:=λ_ _ _ _ _ st h=>wpAny_pyIter_tupleiter st h
theorem ud{P:Program}{w:World}{K:Frag}{tg:Expr}(it:Addr)(lo:Int)(n:Nat):Turn P w K tg (J9 lo n) [it] it (λi h=>IsRangeIter h it (lo+(i:Nat)*1) ((n:Int)-(i:Nat)) 1) where
 mem:=by simp
 obj:=λi h st b hb=>by
  have e:b=it:=by simpa using hb
  subst e;exact⟨_,st,λv z=>by
   have z':Data.fields _=Data.cell v:=z;cases z'⟩
 keep:=λi h h' st k=>k it (by simp) _ st
 item:=by intro X hP hw hK hc i pins s σ H E I hf st hg;subst hP hw hK;obtain⟨f0,f1,f2,f3,f4,f5⟩:=hf it (by simp);have W:=Walks.range (prog:=X.prog) (w:=X.w) (I.ok.hd hc) it lo 1 n;refine W.item i s _ _ hg st λv h' tk hv st' kk=>?_;obtain⟨t,rfl⟩:=hv;have I1:Inv X pins σ H { s with heap:=h',toks:=tk }:=I.turned (λb o hb e=>kk b o (by simpa using hb) e) f0 f1 f3 f4 f5;refine⟨_,rfl,vc (s:={ s with heap:=h',toks:=tk }) (n:="range_iterator") st' rfl rfl (by decide) ⟨.int (lo+i),H,I1,⟨t,?_⟩,⟨rfl,rfl⟩,st',λb hb=>(hf b hb).1⟩⟩;rw[Int.mul_one]
 done:=by intro X hP hw hK hc i pins s σ H E I hf st hg;subst hP hw hK;obtain⟨f0,f1,f2,f3,f4,f5⟩:=hf it (by simp);exact wpAny_pyNext_range_end (I.ok.hd hc) st (by have:n<=i:=hg;omega) λh' eb=>⟨rfl,I.turned (t':=s.toks) (λb o hb e=>eb b o hb e) f0 f1 f3 f4 f5⟩
 self:=λ_ _ _ _ _ st h=>wpAny_pyIter_rangeiter st h
section
variable {X:Cx} {tg:Expr}
def Ka(K:Frag)(tl:TE):TI:=λσ H R=>tl σ H λx H1=>∃a,x=.ref a/\(∃xs,fu K H1 a xs)/\R (Nd K a) H1
def NS(K:Frag)(tl:TE):TI:=λσ H R=>tl σ H λx H1=>∃a,x=.ref a/\(∃xs,gS K H1 a xs)/\R (NR K a) H1
theorem B3(hl:PE X l tl):PI X tg l (Ka X.K tl):=by
 intro pins s σ H R I h;refine cy (hl pins s σ H _ I h) λv s1 aE=>?_;obtain⟨x,H1,I1,r1,q1⟩:=aE;obtain⟨a,e,⟨xs,hq⟩,q⟩:=q1;subst e;cases r1;obtain⟨its,rv,p,hz⟩:=I1.list hq;refine UU p.isList ?_;refine⟨s1.heap.objs.size,[s1.heap.objs.size],_,_,H1,rfl,I1.kept (t':=s1.toks) λb o e=>SY _ e,xw a _,⟨_,To _ rfl,rfl,rfl⟩,λb hb=>?_,q⟩;have e:b=s1.heap.objs.size:=by simpa using hb
 subst e;exact I1.zb (S4 _) (I1.hok.fresh (S4 _))
theorem Fi(hl:PE X l tl):PI X tg l (NS X.K tl):=by
 intro pins s σ H R I h;refine cy (hl pins s σ H _ I h) λv s1 aE=>?_;obtain⟨x,H1,I1,r1,q1⟩:=aE;obtain⟨a,e,⟨xs,hq⟩,q⟩:=q1;subst e;cases r1;obtain⟨its,rv,p,hz⟩:=I1.tuple hq;refine wpAny_pyIter_tuple (show s1.heap.IsTuple a its.toArray from p) ?_;refine⟨s1.heap.objs.size,[s1.heap.objs.size],_,_,H1,rfl,I1.kept (t':=s1.toks) λb o e=>SY _ e,uc a _,⟨_,To _ rfl,rfl,rfl⟩,λb hb=>?_,q⟩;have e:b=s1.heap.objs.size:=by simpa using hb
 subst e;exact I1.zb (S4 _) (I1.hok.fresh (S4 _))
theorem rM{lo hi:Int}{tk:Nat}(I:Inv X pins σ H s)(h1:-(2 ^ 62)<=lo)(h2:lo<2 ^ 62)(h3:-(2 ^ 62)<=hi)(h4:hi<2 ^ 62)
  (q:R (J9 lo (hi-lo).toNat) H):wpAny (model X.prog X.w) X.A (pyIter (.ref s.heap.objs.size)) (Px X pins σ tg R) E { s with heap:=s.heap.push { cls:=.type "range",data:=.fields [.int lo t,.int hi u,.int 1 v].toArray },toks:=tk }:=by
 refine wpAny_pyIter_range (IsRange.new ..) (small_one h1 h2 h3 h4) ?_;have I1:Inv X pins σ H { s with heap:=s.heap.push { cls:=.type "range",data:=.fields [.int lo t,.int hi u,.int 1 v].toArray },toks:=tk }:=I.kept λb o e=>SY _ e;refine⟨(s.heap.push { cls:=.type "range",data:=.fields [.int lo t,.int hi u,.int 1 v].toArray }).objs.size,[(s.heap.push { cls:=.type "range",data:=.fields [.int lo t,.int hi u,.int 1 v].toArray }).objs.size],_,_,H,rfl,
  I1.kept (t':=tk) λb o e=>SY _ e,ud _ lo (hi-lo).toNat,?_,λb hb=>?_,q⟩
 ·have e1:lo+((0:Nat):Int)*1=lo:=by simp
  have e2:(((hi-lo).toNat:Nat):Int)-((0:Nat):Int)=Builtin.Range.rangeSize lo hi 1:=by rw[rangeSize_one];split<;>omega
  show IsRangeIter _ _ (lo+((0:Nat):Int)*1) ((((hi-lo).toNat:Nat):Int)-((0:Nat):Int)) 1;rw[e1,e2];exact To _ rfl
 ·have e:b=(s.heap.push { cls:=.type "range",data:=.fields [.int lo t,.int hi u,.int 1 v].toArray }).objs.size:=by simpa using hb
  subst e;exact I1.zb (S4 _) (I1.hok.fresh (S4 _))
def Kc(ta:TA):TI:=λσ H R=>ta σ H λvs H1=>∃j:Int,vs=[.int j] /\ -(2 ^ 62)<=j/\j<2 ^ 62/\R (J9 0 j.toNat) H1
def Kd(ta:TA):TI:=λσ H R=>ta σ H λvs H1=>∃i j:Int,vs=[.int i,.int j]/\(-(2 ^ 62)<=i/\i<2 ^ 62 /\ -(2 ^ 62)<=j/\j<2 ^ 62)/\R (J9 i (j-i).toNat) H1
theorem xy(hg:Gl X "range")(hm:X.mg "range" = none)(ha:PA X [a] ta)(hs:starEach [a] X.env=[(false,eval a X.env)]):PI X tg (.Call (.Name "range" p) [a] [] pos) (Kc ta):=by
 intro pins s σ H R I h;refine Call_ (gb I hg hm boot_range (TX (cy (ha pos pins s σ H _ I h) λus s1 aE=>?_) hs rfl));obtain⟨vs,H1,I1,r1,q1⟩:=aE;obtain⟨j,e,q1,q2,q⟩:=q1;subst e;cases r1 with
 |cons r rr=>cases rr;obtain⟨t,rfl⟩:=r;exact call_range_1 (rM I1 (by omega) (by omega) q1 q2 (by simpa using q))
theorem xA(hg:Gl X "range")(hm:X.mg "range" = none)(ha:PA X [a,b] ta)(hs:starEach [a,b] X.env=[(false,eval a X.env),(false,eval b X.env)])(hs2:starEach [b] X.env=[(false,eval b X.env)]) :
  PI X tg (.Call (.Name "range" p) [a,b] [] pos) (Kd ta):=by
 intro pins s σ H R I h;refine Call_ (gb I hg hm boot_range (TX (cy (ha pos pins s σ H _ I h) λus s1 ⟨vs,H1,I1,r1,q1⟩=>?_) (by rw[hs,hs2]) (by rw[hs2];rfl)));obtain⟨i,j,e,⟨q1,q2,q3,q4⟩,q⟩:=q1;subst e;cases r1 with
 |cons r rr=>
  cases rr with
  |cons r' rr=>cases rr;obtain⟨t,rfl⟩:=r;obtain⟨t',rfl⟩:=r';exact call_range_2 (rM I1 q1 q2 q3 q4 q)
def NU(wi:TI)(g:TG)(tb:TS):TS:=λD σ H=>wi σ H λJ H1=>∃W:Nat->Nat->St->Hp->Prop,(∃m,W 0 m σ H1)/\∀i m σ H,W i m σ H ->
 (J.stop i H/\D.nx σ H)\/(J.go i H/\∃N:St->Hp->Prop,(∀σ' H',N σ' H'->∃m',m'<m/\W (i+1) m' σ' H')/\∀x H',J.ua i H x H'->g x σ H' λσ2 H2=>tb { D with nx:=N,ct:=N,bk:=D.nx } σ2 H2)
def mG(fp:List Addr)(h:Heap):List (Addr×Obj):=fp.filterMap λb=>(h.get? b).map λo=>(b,o)
theorem gT(hb:b∈fp)(e:h.get? b=some o):(b,o)∈mG fp h:=List.mem_filterMap.mpr ⟨b,hb,by rw[e];rfl⟩
theorem xB(hp:p∈mG fp h):p.1∈fp/\h.get? p.1=some p.2:=by
 obtain⟨b,hb,e⟩:=List.mem_filterMap.mp hp;cases q:h.get? b with
 |none=>rw[q]at e;cases e
 |some o=>rw[q]at e;have e':(b,o)=p:=Tn e;subst e';exact⟨hb,q⟩
theorem Inv.pinned(I:Inv X pins σ H s)(hf:∀b∈fp,lX X pins H b)(ho:∀b∈fp,∃o,s.heap.get? b=some o/\∀v,o.data≠.cell v):Inv X (pins++mG fp s.heap) σ H s :=
 I.u7 λp hp=>(Ua.mp hp).elim (λz=>I.pin p (TH _ z)) λz=>by
  obtain⟨hb,e⟩:=xB z;obtain⟨f0,f1,f2,_⟩:=hf p.1 hb;obtain⟨o,e',d⟩:=ho p.1 hb;rw[e]at e';cases e';exact⟨e,f0,f1,f2,d⟩
theorem Inv.jX(I:Inv X (pins++pl) σ H s):Inv X pins σ H s:=I.u7 λp hp=>I.pin p (TH _ (TU _ hp))
theorem Fj(hp:PassesOwn (model X.prog X.w) X.A X.env X.xe)(hc:X.calm=true)(hi:PI X tg iter wi)(hg:PG X tg g)(hb:t9 X body tb)
  (hs:∀x,foldedSetIterable iter X.env x=pure x):PS X (.For tg iter body [] pos) (NU wi g tb):=by
 intro pins s σ H D I h;refine wpAny_For (cy (hi pins s σ H _ I h) λv s1 h1=>cy h1 λitv s2 h2=>?_) hs;obtain⟨it,fp,tn,J,H2,e,I2,T,st2,f2,W,⟨m0,w0⟩,turn⟩:=h2;subst e;have stat:∀{H':Hp},(∀b∈fp,H' b=none)->∀b∈fp,lX X pins H' b:=λhn b hb=>⟨hn b hb,(f2 b hb).2⟩;refine codeAny_forLoop_any (λn s'=>∃i σ' H',Inv X pins σ' H' s'/\tn i s'.heap/\(∀b∈fp,H' b=none)/\W i n σ' H') ?_ m0 ⟨0,σ,H2,I2,st2,λb hb=>(f2 b hb).1,w0⟩;rintro n s3 ⟨i,σ3,H3,I3,st3,Py,w3⟩
 rcases turn i n σ3 H3 w3 with ⟨stop,qn⟩|⟨go,N,hN,step⟩
 ·refine UK hp (cy (T.done X rfl rfl rfl hc i pins s3 σ3 H3 X.xe I3 (stat Py) st3 stop) λr s4 aE=>?_);obtain⟨hr,I4⟩:=aE;subst hr;exact wpAny_execs_nil ⟨σ3,H3,I4,qn⟩
 ·refine UK hp (cy (T.item X rfl rfl rfl hc i pins s3 σ3 H3 X.xe I3 (stat Py) st3 go) λr s4 aE=>?_)
  obtain⟨u,hr,h4⟩:=aE;subst hr;refine UK hp (cy h4 λ_ s5 aE=>?_);obtain⟨x,H5,I5,r5,y5,JF,Nf⟩:=aE;have QT:=I5.pinned (stat Nf) (T.obj _ _ JF);refine UK hp (cy (hg _ s5 σ3 H5 x u _ QT r5 (step x H5 y5)) λ_ s6 aE=>?_);obtain⟨σ6,H6,I6,q6⟩:=aE;refine UK hp (cy (hb _ s6 σ6 H6 _ I6 q6) λf s7 q7=>?_);have again:∀{σ7:St} {H7:Hp},Inv X (pins++mG fp s5.heap) σ7 H7 s7->N σ7 H7->∃m,m<n/\∃i σ' H',Inv X pins σ' H' s7/\tn i s7.heap/\(∀b∈fp,H' b=none)/\W i m σ' H':=λ{σ7 H7} I7 n7=>by
   obtain⟨m',hm,w7⟩:=hN σ7 H7 n7;refine⟨m',hm,i+1,σ7,H7,I7.jX,T.keep _ _ _ JF λb hb o e=>(I7.pin (b,o) (TH _ (TH _ (gT hb e)))).1,λb hb=>?_,w7⟩;obtain⟨o,e,d⟩:=T.obj _ _ JF b hb;exact(I7.pin (b,o) (TH _ (TH _ (gT hb e)))).2.1
  cases f with
  |next=>obtain⟨σ7,H7,I7,n7⟩:=q7;exact again I7 n7
  |cont=>obtain⟨σ7,H7,I7,n7⟩:=q7;exact again I7 n7
  |brk=>obtain⟨σ7,H7,I7,q7⟩:=q7;exact⟨σ7,H7,I7.jX,q7⟩
  |ret v=>obtain⟨x7,σ7,H7,I7,r7,q7⟩:=q7;exact⟨x7,σ7,H7,I7.jX,r7,q7⟩
end
abbrev R2:=V->V->Hp->VK->Prop
def kK(X:Cx)(f:Value->Value->Sem Value)(r:R2):Prop :=
 ∀(pins:List (Addr×Obj)) (s:Shared) (σ:St) (H:Hp) (x y:V) (v u:Value) (Q:VK),Inv X pins σ H s->RelV x v->RelV y u->r x y H Q ->
  wpAny (model X.prog X.w) X.A (f v u) (EP X pins σ Q) X.xe s
def b8(X:Cx)(f:Value)(r:List V->Hp->VK->Prop):Prop :=
 ∀(pins:List (Addr×Obj)) (s:Shared) (σ:St) (H:Hp) (xs:List V) (us:List Value) (Q:VK),Inv X pins σ H s->Vals xs us->r xs H Q ->
  wpAny (model X.prog X.w) X.A (call f us) (EP X pins σ Q) X.xe s
def NV(X:Cx)(r:V->Hp->(Bool->Hp->Prop)->Prop):Prop :=
 ∀(pins:List (Addr×Obj)) (s:Shared) (σ:St) (H:Hp) (x:V) (v:Value) (Q:Bool->Hp->Prop),Inv X pins σ H s->RelV x v->r x H Q ->
  wpAny (model X.prog X.w) X.A (truthy v) (TP X pins σ Q) X.xe s
def Ng(r:R2)(ta tb:TE):TE:=λσ H Q=>ta σ H λx H1=>tb σ H1 λy H2=>r x y H2 Q
def rI(C:Int->Int->Prop)(g:Int->Int->V):R2:=λx y H Q=>∃i j,x=.int i/\y=.int j/\C i j/\Q (g i j) H
def D8(g:Int->Int->V):R2:=λx y H Q=>∃i j,x=.int i/\y=.int j/\Q (g i j) H
section
variable {X:Cx} {a b c:Expr} {ta tb tc:TE} {pos:Pos}
theorem Fo(ha:PE X a ta)(hb:PE X b tb){pins:List (Addr×Obj)}{s:Shared}{σ:St}{H:Hp}{R:V->V->Hp->Prop}(I:Inv X pins σ H s)
  (h:ta σ H λx H1=>tb σ H1 λy H2=>R x y H2) {Q:Value->Shared->Prop} {f:Value->Value->Sem Value}
  (hf:∀v u s2 x y H2,Inv X pins σ H2 s2->RelV x v->RelV y u->R x y H2->wpAny (model X.prog X.w) X.A (f v u) Q X.xe s2) :
  wpAny (model X.prog X.w) X.A (eval a X.env) (λv s₁=>wpAny (model X.prog X.w) X.A (eval b X.env) (λu s₂=>wpAny (model X.prog X.w) X.A (f v u) Q X.xe s₂) X.xe s₁) X.xe s:=by
 refine cy (ha pins s σ H _ I h) λv s1 aE=>?_;obtain⟨x,H1,I1,r1,q1⟩:=aE;refine cy (hb pins s1 σ H1 _ I1 q1) λu s2 aE=>?_;obtain⟨y,H2,I2,r2,q2⟩:=aE;exact hf v u s2 x y H2 I2 r1 r2 q2
theorem Ke(ho:kK X (binaryOp op) r)(ha:PE X a ta)(hb:PE X b tb):PE X (.BinOp a op b pos) (Ng r ta tb):=by
 intro pins s σ H Q I h;exact wpAny_BinOp (Fo ha hb I h λv u s2 x y H2 I2 rx ry q=>ho pins s2 σ H2 x y v u Q I2 rx ry q)
theorem Nh{f:Value->Value->Sem Value}{C:Int->Int->Prop}{g:Int->Int->Int}
  (rule:∀(i j:Int) (t u:Tok) (s:Shared) (Q:Value->Shared->Prop) (E:Value->Shared->Prop),C i j->Q (.int (g i j) s.toks) { s with toks:=s.toks+1 }->wpAny (model X.prog X.w) X.A (f (.int i t) (.int j u)) Q E s) :
  kK X f (rI C λi j=>.int (g i j)):=by
 intro pins s σ H x y v u Q I rx ry h;obtain⟨i,j,rfl,rfl,hc,q⟩:=h;obtain⟨t,rfl⟩:=rx;obtain⟨t',rfl⟩:=ry;exact rule i j t t' s _ _ hc ⟨.int (g i j),H,I.tok _,⟨_,rfl⟩,q⟩
theorem Kf{f:Value->Value->Sem Value}{g:Int->Int->Int}
  (rule:∀(i j:Int) (t u:Tok) (s:Shared) (Q:Value->Shared->Prop) (E:Value->Shared->Prop),Q (.int (g i j) s.toks) { s with toks:=s.toks+1 }->wpAny (model X.prog X.w) X.A (f (.int i t) (.int j u)) Q E s) :
  kK X f (D8 λi j=>.int (g i j)):=by
 intro pins s σ H x y v u Q I rx ry h;obtain⟨i,j,rfl,rfl,q⟩:=h;obtain⟨t,rfl⟩:=rx;obtain⟨t',rfl⟩:=ry;exact rule i j t t' s _ _ ⟨.int (g i j),H,I.tok _,⟨_,rfl⟩,q⟩
theorem B4{f:Value->Value->Sem Value}{g:Int->Int->Bool}
  (rule:∀(i j:Int) (t u:Tok) (s:Shared) (Q:Value->Shared->Prop) (E:Value->Shared->Prop),Q (.bool (g i j)) s->wpAny (model X.prog X.w) X.A (f (.int i t) (.int j u)) Q E s) :
  kK X f (D8 λi j=>.bl (g i j)):=by
 intro pins s σ H x y v u Q I rx ry h;obtain⟨i,j,rfl,rfl,q⟩:=h;obtain⟨t,rfl⟩:=rx;obtain⟨t',rfl⟩:=ry;exact rule i j t t' s _ _ ⟨.bl (g i j),H,I,rfl,q⟩
def NW(i j:Int):Prop:=0<=j/\j<=1000000/\i.natAbs<2 ^ 64
def Fp(i j:Int):Prop:=(-(2 ^ 64)<i/\i<2 ^ 64)\/(-(2 ^ 64)<j/\j<2 ^ 64)
theorem Fp.ok{i j:Int}(h:Fp i j):IntMulOk i j:=by
 rcases h with ⟨h1,h2⟩|⟨h1,h2⟩
 ·exact .of_left (intBits_le_64 h1 h2)
 ·exact .of_right (intBits_le_64 h1 h2)
theorem Fq:kK X (binaryOp .Add) (D8 λi j=>.int (i+j)):=Kf λ_ _ _ _ _ _ _ q=>add_int q
theorem Ft:kK X (binaryOp .Sub) (D8 λi j=>.int (i-j)):=Kf λ_ _ _ _ _ _ _ q=>sub_int q
theorem Fv:kK X (binaryOp .Mult) (rI Fp λi j=>.int (i*j)):=Nh λ_ _ _ _ _ _ _ hc q=>mul_int q hc.ok
theorem Fw:kK X (binaryOp .Mod) (rI (λ_ j=>0<j) λi j=>.int (i%j)):=Nh λi j _ _ _ _ _ hc q=>by
 have h1:(0:Int)<j:=hc;exact mod_int' (by omega) (by rw[Int.fmod_eq_emod_of_nonneg i (by omega)];exact q)
theorem Fx:kK X (binaryOp .Pow) (rI NW λi j=>.int (i ^ j.toNat)):=Nh λ_ _ _ _ _ _ _ hc q=>pow_int_small hc.1 hc.2.1 hc.2.2 q
end
section
variable {X:Cx} {a b c:Expr} {ta tb tc:TE} {pos:Pos}
theorem qc{k k':Bool}(I:Inv X pins σ H s)(q:Q (.bl k) H)(e:k=k'):EP X pins σ Q (.bool k') s:=by
 subst e;exact⟨.bl k,H,I,rfl,q⟩
theorem Kg:kK X (compareOp .Lt) (D8 λi j=>.bl (decide (i<j))):=B4 λ_ _ _ _ _ _ _ q=>lt_int q
theorem Kh:kK X (compareOp .LtE) (D8 λi j=>.bl (decide (i<=j))):=B4 λ_ _ _ _ _ _ _ q=>le_int q
theorem Kl:kK X (compareOp .Gt) (D8 λi j=>.bl (decide (j<i))):=B4 λ_ _ _ _ _ _ _ q=>gt_int q
theorem Km:kK X (compareOp .GtE) (D8 λi j=>.bl (decide (j<=i))):=B4 λ_ _ _ _ _ _ _ q=>ge_int q
theorem Fy:kK X (compareOp .Is) (λx y H Q=>y=.non/\Q (.bl (decide (x=.non))) H):=by
 intro pins s σ H x y v u Q I rx ry h;obtain⟨rfl,q⟩:=h;cases ry;refine is_none_gen (qc I q ?_);cases x<;>first
  |(cases rx;rfl)
  |(obtain⟨t,rfl⟩:=rx;rfl)
theorem B5:kK X (compareOp .IsNot) (λx y H Q=>y=.non/\Q (.bl (!decide (x=.non))) H):=by
 intro pins s σ H x y v u Q I rx ry h;obtain⟨rfl,q⟩:=h;cases ry;refine isnot_none_gen (qc I q ?_);cases x<;>first
  |(cases rx;rfl)
  |(obtain⟨t,rfl⟩:=rx;rfl)
theorem B6(ho:kK X (compareOp op) r)(ha:PE X a ta)(hb:PE X b tb)(hm:behindInMarks op b=false):PE X (.Compare a [op] [b] pos) (Ng r ta tb):=by
 intro pins s σ H Q I h;exact wpAny_Compare1 (Fo ha hb I h λv u s2 x y H2 I2 rx ry q=>ho pins s2 σ H2 x y v u Q I2 rx ry q) hm
def Kn(t:TE):TT:=λσ H Q=>t σ H λx H'=>∃k,x=.bl k/\Q k H'
theorem B7(ho:kK X (compareOp op) r)(ha:PE X a ta)(hb:PE X b tb)(hm:behindInMarks op b=false):PT X (.Compare a [op] [b] pos) (Kn (Ng r ta tb)):=by
 intro pins s σ H Q I h;refine wpAny_isTrue_Compare1 (cy (ha pins s σ H _ I h) λv s1 ⟨x,H1,I1,r1,q1⟩=>cy (hb pins s1 σ H1 _ I1 q1) λu s2 ⟨y,H2,I2,r2,q2⟩=>
  cy (ho pins s2 σ H2 x y v u _ I2 r1 r2 q2) λc s3 ⟨z,H3,I3,r3,k,e,q3⟩=>?_) hm
 subst e;cases r3;exact Ur ⟨H3,I3,q3⟩
def Fz(K:Frag)(x:V)(H:Hp)(k:Bool):Prop :=
 match x with
 |.non=>k=false
 |.bl b=>k=b
 |.int i=>k=(i != 0)
 |.str y=>y.length<=sizeLine/\k=((y.length:Int) != 0)
 |.byt y=>y.size<=sizeLine/\k=((y.size:Int) != 0)
 |.ref p=>(∃xs,fu K H p xs/\k = !xs.isEmpty)\/(∃xs,gS K H p xs/\k = !xs.isEmpty)\/∃kvs,H p=some (.dK kvs)/\k = !kvs.isEmpty
 |_=>False
theorem ue{κ:Type}{kvs:List (κ × V)}{vs:List (κ × Value)}(r:KV kvs vs):(!vs.isEmpty) = !kvs.isEmpty:=by
 cases r<;>rfl
theorem mH(r:Vals xs its):(!its.toArray.isEmpty) = !xs.isEmpty:=by
 cases r<;>simp
theorem kM:(sizeLine:Nat)<2 ^ 63:=by rw[T7];decide
theorem FA:NV X (λx H Q=>∃k,Fz X.K x H k/\Q k H):=by
 intro pins s σ H x v Q I rx h;obtain⟨k,e,q⟩:=h;have hl:=kM;have hs:sizeLine=16777216:=T7;cases x with
 |non=>cases rx;have e':k=false:=e;subst e';exact truthy_none ⟨H,I,q⟩
 |bl b=>cases rx;have e':k=b:=e;subst e';exact Ur ⟨H,I,q⟩
 |int i=>obtain⟨t,rfl⟩:=rx;have e':k=(i != 0):=e;subst e';exact PySem.P.truthy_int ⟨H,I,q⟩
 |str y=>obtain⟨t,rfl⟩:=rx;obtain⟨hy,e'⟩:y.length<=sizeLine/\k=((y.length:Int) != 0):=e;subst e';exact PySem.P.truthy_str (by omega) ⟨H,I.tok _,q⟩
 |byt y=>obtain⟨t,rfl⟩:=rx;obtain⟨hy,e'⟩:y.size<=sizeLine/\k=((y.size:Int) != 0):=e;subst e';exact PySem.W.truthy_bytes (by omega) ⟨H,I.tok _,q⟩
 |ref p=>
  cases rx;have e':(∃xs,fu X.K H p xs/\k = !xs.isEmpty)\/(∃xs,gS X.K H p xs/\k = !xs.isEmpty)\/∃kvs,H p=some (.dK kvs)/\k = !kvs.isEmpty:=e
  rcases e' with ⟨xs,hx,e'⟩|⟨xs,hx,e'⟩|⟨kvs,hx,e'⟩
  ·subst e';obtain⟨its,r,pl,hz⟩:=I.list hx;have hlen:=r.length;exact wpAny_truthy_list pl.isList (by simp only[size_toArray];omega) ⟨H,I.tok _,by rw[mH r];exact q⟩
  ·subst e';obtain⟨its,r,pl,hz⟩:=I.tuple hx;have hlen:=r.length;exact truthy_tuple pl (by simp only[size_toArray];omega) ⟨H,I.tok _,by rw[mH r];exact q⟩
  ·subst e';obtain⟨hz,hS,vs,r,m⟩:kvs.length<=sizeLine/\(p==sysModules)=false/\∃vs,KV kvs vs/\s.heap.DictOf (aG X.prog X.w) p vs:=I.hok p _ hx;have hlen:kvs.length=vs.length:=Vj r;exact wpAny_truthy_dict hS m (by omega) ⟨H,I.tok _,by rw[ue r];exact q⟩
 |_=>exact(show False from e).elim
theorem zc(ha:PE X a ta)(he:∀whole,isTrue a X.env whole=(do let v <-whole;standAt a.pos;holding [v] (truthy v))) :
  PT X a (λσ H Q=>ta σ H λx H'=>∃k,Fz X.K x H' k/\Q k H'):=by
 intro pins s σ H Q I h;exact isTrue_plain (cy (ha pins s σ H _ I h) λv s1 ⟨x,H1,I1,r1,q1⟩=>FA pins s1 σ H1 x v Q I1 r1 q1) (he _)
theorem uf:kK X (binaryOp .Add) (λx y H Q=>∃i j,x=.str i/\y=.str j/\i.length+j.length<=sizeLine/\Q (.str (i++j)) H):=by
 intro pins s σ H x y v u Q I rx ry h;obtain⟨i,j,rfl,rfl,hz,q⟩:=h;obtain⟨t,rfl⟩:=rx;obtain⟨t',rfl⟩:=ry;exact add_str (λt' tk=>⟨.str (i++j),H,I.tok _,⟨_,rfl⟩,q⟩) hz
theorem vals1(r:Vals [x] us):∃u,us=[u]/\RelV x u:=by
 cases r with
 |cons r1 r2=>cases r2;exact⟨_,rfl,r1⟩
theorem vals2(r:Vals [x,y] us):∃u w',us=[u,w']/\RelV x u/\RelV y w':=by
 cases r with
 |cons r1 r2=>
  cases r2 with
  |cons r3 r4=>cases r4;exact⟨_,_,rfl,r1,r3⟩
theorem xC(hc:X.calm=true):b8 X (.builtin "max") (λxs H Q=>∃i j,xs=[.int i,.int j]/\Q (.int (if j>i then j else i)) H):=by
 intro pins s σ H xs us Q I r h;obtain⟨i,j,rfl,q⟩:=h;obtain⟨u,w',rfl,⟨t,rfl⟩,⟨t',rfl⟩⟩:=vals2 r;refine max_two_ints (I.ok.hd hc) λh' tk k=>⟨_,H,I.kept k,?_,q⟩
 by_cases hj:j>i
 ·rw[S7 hj,S7 hj];exact⟨_,rfl⟩
 ·rw[S8 hj,S8 hj];exact⟨_,rfl⟩
theorem xD(hc:X.calm=true):b8 X (.builtin "min") (λxs H Q=>∃i j,xs=[.int i,.int j]/\Q (.int (if j<i then j else i)) H):=by
 intro pins s σ H xs us Q I r h;obtain⟨i,j,rfl,q⟩:=h;obtain⟨u,w',rfl,⟨t,rfl⟩,⟨t',rfl⟩⟩:=vals2 r;refine min_two_ints (I.ok.hd hc) λh' tk k=>⟨_,H,I.kept k,?_,q⟩
 by_cases hj:j<i
 ·rw[S7 hj,S7 hj];exact⟨_,rfl⟩
 ·rw[S8 hj,S8 hj];exact⟨_,rfl⟩
theorem oF:b8 X (.type "int") (λxs H Q=>(∃i,xs=[.int i]/\Q (.int i) H)\/∃k,xs=[.bl k]/\Q (.int (if k then 1 else 0)) H):=by
 intro pins s σ H xs us Q I r h
 rcases h with ⟨i,rfl,q⟩|⟨k,rfl,q⟩
 ·obtain⟨u,rfl,t,rfl⟩:=vals1 r;exact call_int_int ⟨.int i,H,I,⟨_,rfl⟩,q⟩
 ·obtain⟨u,rfl,r1⟩:=vals1 r;cases r1;exact call_int_bool ⟨.int (if k then 1 else 0),H,I.tok _,⟨_,rfl⟩,q⟩
def NX(K:Frag)(x:V)(H:Hp)(n:Nat):Prop :=
 match x with
 |.str y=>y.length<=sizeLine/\n=y.length
 |.byt y=>y.size<=sizeLine/\n=y.size
 |.ref p=>(∃xs,fu K H p xs/\n=xs.length)\/∃xs,gS K H p xs/\n=xs.length
 |_=>False
theorem jY:b8 X (.builtin "len") (λxs H Q=>∃x n,xs=[x]/\NX X.K x H n/\Q (.int n) H):=by
 intro pins s σ H xs us Q I r h;obtain⟨x,n,rfl,e,q⟩:=h;obtain⟨u,rfl,rx⟩:=vals1 r;have hl:=kM;have hs:sizeLine=16777216:=T7;cases x with
 |str y=>obtain⟨t,rfl⟩:=rx;obtain⟨hy,e'⟩:y.length<=sizeLine/\n=y.length:=e;subst e';exact len_str (by omega) ⟨.int _,H,I.tok _,⟨_,rfl⟩,q⟩
 |byt y=>obtain⟨t,rfl⟩:=rx;obtain⟨hy,e'⟩:y.size<=sizeLine/\n=y.size:=e;subst e';exact PySem.W.len_bytes (by omega) ⟨.int _,H,I.tok _,⟨_,rfl⟩,q⟩
 |ref p=>
  cases rx;have e':(∃xs,fu X.K H p xs/\n=xs.length)\/∃xs,gS X.K H p xs/\n=xs.length:=e
  rcases e' with ⟨xs,hx,e'⟩|⟨xs,hx,e'⟩
  ·subst e';obtain⟨its,r',pl,hz⟩:=I.list hx;have hlen:=r'.length;exact Calls.call_len_list pl.isList (by simp only[size_toArray];omega) ⟨.int xs.length,H,I.tok _,⟨_,by simp only[size_toArray];rw[hlen]⟩,q⟩
  ·subst e';obtain⟨its,r',pl,hz⟩:=I.tuple hx;have hlen:=r'.length;exact len_tuple pl (by simp only[size_toArray];omega) ⟨.int xs.length,H,I.tok _,⟨_,by simp only[size_toArray];rw[hlen]⟩,q⟩
 |_=>exact(show False from e).elim
end
section
variable {prog:Program} {w:World} {A:Around} {E:Value->Shared->Prop} {s:Shared} {K:Frag} {x dx C f:Addr} {mA:Str->Option Value} {name:Str} {v:Value}
theorem zd(X:K.In s.heap)(hm:makesIn K C=true)
  (hi:findIn K (.ref C) "__init__" = some (some (.ref f))) (hf:typeIn K (.ref f)=some (.type "function"))
  (h:codeAny (model prog w) (A.under (.builtin "type.__call__" ⟨.ref C::vs,kw⟩)) (.call (.ref f) ⟨.ref (s.heap.objs.size+1)::vs,kw⟩) (PySem.W.InitBack (s.heap.objs.size+1) R)
   { s with heap:=(s.heap.push emptyDict).push (instObj C s.heap.objs.size) }) :
  codeAny (model prog w) A (.call (.ref C) ⟨vs,kw⟩) R s:=by
 obtain⟨hh,g,d,t,os⟩:=s;exact PySem.W.make_core (PySem.W.makes_of X hm) (PySem.W.looks_findIn X hi) (λself=>PySem.W.bind_fn X self hf) (.inl rfl) h
end
theorem lU.some_of(r:lU (some v) o):∃u,o=some u/\RelV v u:=by
 cases o with
 |none=>exact(show False from r).elim
 |some u=>exact⟨u,rfl,r⟩
structure Pz (K:Frag) (C:Addr):Prop where
 pg:PySem.W.plainGet K C Str.empty=true
 hd:PySem.W.hasDictIn K C=true
 po:PySem.W.plainOver K C=true
 sa:findIn K (.ref C) "__setattr__" = some (some (.builtin "object.__setattr__"))
def ze(K:Frag)(C:Addr)(f:Str):Prop:=findIn K (.ref C) f=some none
structure Meth (K:Frag) (C:Addr) (m:Str) (f:Addr):Prop where
 at_:findIn K (.ref C) m=some (some (.ref f))
 fn:isFn K (.ref f)=true
 kp:keepIn K (.ref f)=true
section
variable {X:Cx} {pins:List (Addr×Obj)} {σ:St} {H:Hp} {s:Shared} {a C dx:Addr} {fs:List (Str×V)} {f:Str} {v:V} {A:Around} {E:Value->Shared->Prop}
theorem Inv.made(I:Inv X pins σ H s):Inv X pins σ (upd (upd H s.heap.objs.size (.own (s.heap.objs.size+1))) (s.heap.objs.size+1) (.ins C s.heap.objs.size []))
  { s with heap:=(s.heap.push emptyDict).push (instObj C s.heap.objs.size) }:=by
 have e1:(s.heap.push emptyDict).get? s.heap.objs.size=some emptyDict:=To s.heap rfl;have e2:((s.heap.push emptyDict).push (instObj C s.heap.objs.size)).get? (s.heap.objs.size+1)=some (instObj C s.heap.objs.size):=by have:=To (s.heap.push emptyDict) (o:=instObj C s.heap.objs.size) rfl;rwa [Vd]at this
 have e3:(s.heap.push emptyDict).Ns s.heap.objs.size (λ_=>none):=⟨emptyDict,#[],_,e1,rfl,(λe he=>absurd he (by simp)),λ_=>rfl⟩;have I1:=I.laid (a:=s.heap.objs.size) (o:=.own (s.heap.objs.size+1)) (h':=s.heap.push emptyDict) (t':=s.toks) (λb u q=>SY _ q) (S4 _) ⟨_,e1⟩;refine I1.laid (a:=s.heap.objs.size+1) (o:=.ins C s.heap.objs.size []) (t':=s.toks) (λb u q=>SY _ q) (Nat.le_of_eq (Vd _ _)) ?_;have ne:s.heap.objs.size≠s.heap.objs.size+1:=Tp (Ub _);refine⟨by rw[ak ne,aC],U5 _,ne,e2,λ_=>none,(Heap.Ns1.of_empty e3).at λo q=>SY _ q,λ_=>Ut,λy hy=>absurd rfl hy⟩
end
structure dH (k:Nat) (A:Around):Prop where
 hd:A.handled=none
 dp:A.depth+3*k+5<recursionLimit
 un:A.units+16*k+200<cLine
theorem dH.mono{j k:Nat}(r:dH k A)(h:j<=k):dH j A:=⟨r.hd,by have:=r.dp;omega,by have:=r.un;omega⟩
theorem dH.deeper{k:Nat}(r:dH (k+1) A)(env:Env):dH k (A.deeper env) :=
 ⟨r.hd,by have:=r.dp;show A.depth+1+3*k+5<_;omega,by have:=r.un;show A.units+3+16*k+200<_;omega⟩
theorem ug{A:Around}{C:Addr}{us:List Value}{kw:List (Str×Value)}:(A.under (.builtin "type.__call__" ⟨.ref C::us,kw⟩)).depth=A.depth+1:=by
 first|rfl|simp[Around.under,Code.weight,Code.isCreation,Code.isGuard,Code.isCaller,Code.frames,Code.isFrame,guardIds]
theorem uh{A:Around}{C:Addr}{us:List Value}{kw:List (Str×Value)}:(A.under (.builtin "type.__call__" ⟨.ref C::us,kw⟩)).units=A.units+1:=by
 first|rfl|simp[Around.under,Code.cUnits,Code.frames,Code.isFrame]
theorem dH.make{k:Nat}(r:dH (k+1) A)(C:Addr)(us:List Value)(kw:List (Str×Value)):dH k (A.under (.builtin "type.__call__" ⟨.ref C::us,kw⟩)) :=
 ⟨r.hd,by have:=r.dp;rw[ug];omega,by have:=r.un;rw[uh];omega⟩
theorem dH.depth{k:Nat}(r:dH k A):A.depth<recursionLimit:=by have:=r.dp;omega
theorem dH.units{k:Nat}(r:dH k A):A.units+64<cLine:=by have:=r.un;omega
def xE:TA:=λ_ H Q=>Q [] H
def oG(ta:TE)(tr:TA):TA:=λσ H Q=>ta σ H λx H1=>tr σ H1 λxs H2=>Q (x::xs) H2
section
variable {X:Cx} {e:Expr} {es:List Expr} {te:TE} {t:TA} {pos:Pos}
theorem qd:PA X [] xE:=λ_ _ _ _ H Q I h=>Us ⟨[],H,I,.nil,h⟩
theorem jh(ha:PE X e te)(hr:PA X es t)(hs:starEach (e::es) X.env=(false,eval e X.env)::starEach es X.env:=by rfl):PA X (e::es) (oG te t):=by
 intro pos pins s σ H Q I h;rw[hs];show wpAny _ _ (spliced ((false,eval e X.env)::backTo pos (starEach es X.env))) _ _ s;refine Uc (cy (ha pins s σ H _ I h) λu s1 aE=>?_);obtain⟨x,H1,I1,r1,q1⟩:=aE;exact cy (hr pos pins s1 σ H1 _ I1 q1) λus s2 ⟨xs,H2,I2,r2,q2⟩=>⟨x::xs,H2,I2,.cons r1 r2,q2⟩
def FD(t:TA):TE:=λσ H Q=>t σ H λxs H1=>xs.length<=sizeLine/\∀p,H1 p=none->Q (.ref p) (upd H1 p (.tup xs))
def NY(t:TA):TE:=λσ H Q=>t σ H λxs H1=>xs.length<=sizeLine/\∀p,H1 p=none->Q (.ref p) (upd H1 p (.lst xs))
theorem zf{x1}(h:PA X es t):PE X (.Tuple es x1 pos) (FD t):=by
 intro pins s σ H Q I hq;refine wpAny_Tuple_spliced (cy (h pos pins s σ H _ I hq) λus s1 ⟨xs,H1,I1,r,z,q⟩=>⟨by rw[<-r.length];exact z,?_⟩);have hf:H1 s1.heap.objs.size=none:=I1.hok.fresh (S4 _);refine⟨.ref s1.heap.objs.size,upd H1 s1.heap.objs.size (.tup xs),I1.laid (t':=s1.toks) (λb u e=>SY _ e) (S4 _) ?_,rfl,q _ hf⟩;exact⟨z,us,r,⟨_,To _ rfl,rfl,_,rfl⟩⟩
theorem FE(h:PA X es t):PE X (.List es pos) (NY t):=by
 intro pins s σ H Q I hq;refine wpAny_List_spliced (cy (h pos pins s σ H _ I hq) λus s1 ⟨xs,H1,I1,r,z,q⟩=>⟨by rw[<-r.length];exact z,?_⟩);have hf:H1 s1.heap.objs.size=none:=I1.hok.fresh (S4 _);refine⟨.ref s1.heap.objs.size,upd H1 s1.heap.objs.size (.lst xs),I1.laid (t':=s1.toks) (λb u e=>SY _ e) (S4 _) ?_,rfl,q _ hf⟩;exact⟨z,us,0,r,To _ rfl⟩
end
abbrev Sp:=List V->Hp->VK->XK->Prop
abbrev xF:=List Env->Hp->Shared->XK->Value->Shared->Prop
structure um (P:Program) (w:World) (K:Frag) (mg:Str->Option Value) (base:Heap) (A:Around) (outer:List Env) (s:Shared) (H:Hp):Prop where
 frames:A.frames=some outer
 mod:Mod K mg base
 bs:∀b o,base.get? b=some o->s.heap.get? b=some o/\H b=none
 D6:base.objs.size<=s.heap.objs.size
 lW:s.heap.FunFrames base outer
 EY:∀b∈frs outer,H b=none
 hok:jV P w H s.heap
 bare:AllBare s.gens
def CE(outer:List Env)(P:Program)(w:World)(H:Hp)(s:Shared)(Q:VK)(u:Value)(s':Shared):Prop :=
 ∃v H',s'.os=s.os/\AllBare s'.gens/\Un (frs outer) [] H H' s.heap s'.heap/\jV P w H' s'.heap/\RelV v u/\Q v H'
def CR(CX:xF)(outer:List Env)(P:Program)(w:World)(H:Hp)(s:Shared)(Q:VK)(E:XK)(r:Result)(s':Shared):Prop :=
 match r with
 |.ok (.ret u)=>CE outer P w H s Q u s'
 |.ok _=>False
 |.error e=>CX outer H s E e s'
structure fR (P:Program) (w:World) (K:Frag) (mg:Str->Option Value) (base:Heap) (CX:xF) (k:Nat) (f:Addr) (fd:FuncData) (ps:List Str) (sp:Sp):Prop where
 len:∀vs H Q E,sp vs H Q E->vs.length=ps.length
 run:∀(A:Around) (outer:List Env) (s:Shared) (H:Hp) (args:Args) (us:List Value) (vs:List V) (Q:VK) (E:XK),dH k A->um P w K mg base A outer s H->BindsTo s fd args (ps.zip us)->Vals vs us->sp vs H Q E ->
  codeAny (model P w) A (.call (.ref f) args) (CR CX outer P w H s Q E) s
theorem fR.mono{P:Program}{w:World}{K:Frag}{mg:Str->Option Value}{base:Heap}{CX:xF}{j k:Nat}{f:Addr}{fd:FuncData}{ps:List Str}{sp:Sp}(F:fR P w K mg base CX j f fd ps sp)(h:j<=k) :
  fR P w K mg base CX k f fd ps sp:=⟨F.len,λA outer s H args us vs Q E hr=>F.run A outer s H args us vs Q E (hr.mono h)⟩
theorem fR.imp{P:Program}{w:World}{K:Frag}{mg:Str->Option Value}{base:Heap}{CX:xF}{k:Nat}{f:Addr}{fd:FuncData}{ps:List Str}{sp PB:Sp}(F:fR P w K mg base CX k f fd ps sp)
  (h:∀vs H Q E,PB vs H Q E->sp vs H Q E):fR P w K mg base CX k f fd ps PB :=
 ⟨λvs H Q E q=>F.len vs H Q E (h _ _ _ _ q),λA outer s H args us vs Q E hr he hb hv hs=>F.run A outer s H args us vs Q E hr he hb hv (h _ _ _ _ hs)⟩
theorem um.make{P:Program}{w:World}{K:Frag}{mg:Str->Option Value}{base:Heap}{A:Around}{outer:List Env}{s:Shared}{H:Hp}(e:um P w K mg base A outer s H)(C:Addr)(us:List Value)(kw:List (Str×Value)) :
  um P w K mg base (A.under (.builtin "type.__call__" ⟨.ref C::us,kw⟩)) outer s H:=⟨by first|exact e.frames|(simpa [Around.under,Code.envs,Code.isFrame,pushEnvs] using e.frames),e.mod,e.bs,e.D6,e.lW,e.EY,e.hok,e.bare⟩
section
variable {X:Cx} {pins:List (Addr×Obj)} {σ:St} {H:Hp} {s s':Shared}
theorem Inv.jB(I:Inv X pins σ H s):um X.prog X.w X.K X.mg X.base X.A X.stack s H :=
 ⟨I.ok.frames,I.ok.mod,I.bs,Tt I.ok.D6 I.sz,I.stack,I.u6,I.hok,I.bare⟩
theorem Inv.after(I:Inv X pins σ H s)(h:CE X.stack X.prog X.w H s Q u s'):EP X pins σ Q u s':=by
 obtain⟨v,H',os,bare,un,hok,r,q⟩:=h;obtain⟨hh,g,d,t,os'⟩:=s';obtain rfl:os'=s.os:=os;exact⟨v,H',I.call (h':=hh) (g':=g) (d':=d) (t':=t) (ch:=[]) un hok bare (λb z=>absurd z (by simp)),r,q⟩
end
def D9(sp:Sp)(qf:List V)(E:XK)(t:TA):TE:=λσ H Q=>t σ H λvs H1=>sp (vs++qf) H1 Q E
def Ea(C:Addr)(sp:Sp)(qf:List V)(E:XK)(t:TA):TE:=λσ H Q=>t σ H λvs H1=>∀x dx,H1 x=none->H1 dx=none->dx≠x ->
 sp (.ref x::(vs++qf)) (upd (upd H1 dx (.own x)) x (.ins C dx [])) (λv H2=>v=.non/\Q (.ref x) H2) E
def Binds(K:Frag)(fd:FuncData)(ps:List Str)(ds:List Value):Prop :=
 ∀(s:Shared) (us:List Value),K.In s.heap->(us++ds).length=ps.length->BindsTo s fd ⟨us,[]⟩ (ps.zip (us++ds))
theorem Binds.all{K:Frag}{fd:FuncData}{ps:List Str}(h:∀us:List Value,us.length=ps.length->bindArgs fd ⟨us,[]⟩=pure (ps.zip us)):Binds K fd ps []:=λs us _ hl=>by
 rw[Uy]at hl |-;exact .of_eq (h us hl)
def Passes(CX:xF)(X:Cx)(E:XK):Prop:=∀(pins:List (Addr×Obj)) (σ:St) (H:Hp) (s:Shared) (e:Value) (s':Shared),Inv X pins σ H s->CX X.stack H s E e s'->X.xe e s'
section
variable {X:Cx} {CX:xF} {k:Nat} {f C:Addr} {fd:FuncData} {ps:List Str} {sp:Sp} {qf:List V} {ds:List Value} {E:XK} {x m:Str} {p pos apos:Pos} {e o:Expr} {es:List Expr} {ta:TE} {t:TA}
theorem zg(F:fR X.prog X.w X.K X.mg X.base CX k f fd ps sp)(hr:dH k X.A)(hb:Binds X.K fd ps ds)(hd:Vals qf ds)(hx:Passes CX X E)
  (I:Inv X pins σ H s) (r:Vals vs us) (h:sp (vs++qf) H Q E):wpAny (model X.prog X.w) X.A (call (.ref f) us) (EP X pins σ Q) X.xe s:=by
 have r2:Vals (vs++qf) (us++ds):=r.append hd;have hl:(us++ds).length=ps.length:=by rw[<-r2.length];exact F.len _ _ _ _ h
 refine wpAny_call (Vo (F.run X.A X.stack s H ⟨us,[]⟩ (us++ds) (vs++qf) Q E hr I.jB (hb s us I.qa hl) r2 h) λr s' hq=>?_);cases r with
 |error e=>exact hx pins σ H s e s' I hq
 |ok fl=>
  cases fl with
  |ret u=>exact I.after hq
  |next=>exact False.elim hq
  |brk=>exact False.elim hq
  |cont=>exact False.elim hq
theorem B8(F:fR X.prog X.w X.K X.mg X.base CX k f fd ps sp)(hr:dH k X.A)(hg:Gl X x)(hm:X.mg x=some (.ref f))(hk:keepIn X.K (.ref f)=true)(hb:Binds X.K fd ps ds)(hd:Vals qf ds)(hx:Passes CX X E)
  (ha:PA X (e::es) t) (hdb:(x==("__debug__":Str))=false) (he:starEach (e::es) X.env=(false,eval e X.env)::starEach es X.env) (hpl:(backTo pos (starEach es X.env)).any (·.1)=false) :
  PE X (.Call (.Name x p) (e::es) [] pos) (D9 sp qf E t):=by
 intro pins s σ H Q I h;refine TV (jW I hg hm ?_ hdb);refine callWith_K (h₀:=X.base) I.ok.mod.Nb hk (cy (ha pos pins s σ H _ I h) λus s1 ⟨vs,H1,I1,r,q⟩=>⟨I1.qa,?_⟩) he hpl;exact zg F hr hb hd hx I1 r q
theorem zh(F:fR X.prog X.w X.K X.mg X.base CX k f fd ps sp)(hr:dH k X.A)(hg:Gl X x)(hm:X.mg x=some (.ref f))(hk:keepIn X.K (.ref f)=true)(hb:Binds X.K fd ps ds)(hd:Vals qf ds)(hx:Passes CX X E)
  (hdb:(x==("__debug__":Str))=false):PE X (.Call (.Name x p) [] [] pos) (D9 sp qf E xE):=by
 intro pins s σ H Q I h;refine TV (jW I hg hm ?_ hdb);exact callWith_K0 I.qa hk (zg (us:=[]) F hr hb hd hx I .nil h)
structure Mk (K:Frag) (C f:Addr):Prop where
 makes:makesIn K C=true
 init:findIn K (.ref C) "__init__" = some (some (.ref f))
 fn:isFn K (.ref f)=true
 kp:keepIn K (.ref C)=true
theorem rN(M:Mk X.K C f)(F:fR X.prog X.w X.K X.mg X.base CX k f fd ps sp)(hr:dH (k+1) X.A)(hb:Binds X.K fd ps ds)(hd:Vals qf ds)
  (hx:Passes CX X E) (I:Inv X pins σ H s) (r:Vals vs us)
  (h:∀x dx,H x=none->H dx=none->dx≠x->sp (.ref x::(vs++qf)) (upd (upd H dx (.own x)) x (.ins C dx [])) (λv H2=>v=.non/\Q (.ref x) H2) E) :
  wpAny (model X.prog X.w) X.A (call (.ref C) us) (EP X pins σ Q) X.xe s:=by
 have hq:=h (s.heap.objs.size+1) s.heap.objs.size (I.hok.fresh (Ue _)) (I.hok.fresh (S4 _)) (Tp (Ub _));have I2:=Inv.made (C:=C) I;have r2:Vals (V.ref (s.heap.objs.size+1)::(vs++qf)) (Value.ref (s.heap.objs.size+1)::(us++ds)):=.cons rfl (r.append hd);have hl:(Value.ref (s.heap.objs.size+1)::us++ds).length=ps.length:=by have e:=r2.length;rw[F.len _ _ _ _ hq]at e;exact e.symm
 refine wpAny_call (zd (f:=f) I.qa M.makes M.init (Vv.mp M.fn) (Vo (F.run _ X.stack _ _ ⟨Value.ref (s.heap.objs.size+1)::us,[]⟩ (Value.ref (s.heap.objs.size+1)::(us++ds)) _ _ E (hr.make C us [])
  (I2.jB.make C us []) (hb _ (Value.ref (s.heap.objs.size+1)::us) I2.qa hl) r2 hq) λr s' hq'=>?_))
 cases r with
 |error e=>exact hx pins σ _ _ e s' I2 hq'
 |ok fl=>
  cases fl with
  |ret u=>obtain⟨v,H',I3,rv,ev,q3⟩:=I2.after hq';subst ev;exact⟨rv,⟨V.ref (s.heap.objs.size+1),H',I3,rfl,q3⟩⟩
  |next=>exact False.elim hq'
  |brk=>exact False.elim hq'
  |cont=>exact False.elim hq'
theorem B9(M:Mk X.K C f)(F:fR X.prog X.w X.K X.mg X.base CX k f fd ps sp)(hr:dH (k+1) X.A)(hg:Gl X x)(hm:X.mg x=some (.ref C))(hb:Binds X.K fd ps ds)(hd:Vals qf ds)(hx:Passes CX X E)
  (ha:PA X (e::es) t) (hdb:(x==("__debug__":Str))=false) (he:starEach (e::es) X.env=(false,eval e X.env)::starEach es X.env) (hpl:(backTo pos (starEach es X.env)).any (·.1)=false) :
  PE X (.Call (.Name x p) (e::es) [] pos) (Ea C sp qf E t):=by
 intro pins s σ H Q I h;refine TV (jW I hg hm ?_ hdb);refine callWith_K (h₀:=X.base) I.ok.mod.Nb M.kp (cy (ha pos pins s σ H _ I h) λus s1 ⟨vs,H1,I1,r,q⟩=>⟨I1.qa,?_⟩) he hpl;exact rN M F hr hb hd hx I1 r q
theorem zj(M:Mk X.K C f)(F:fR X.prog X.w X.K X.mg X.base CX k f fd ps sp)(hr:dH (k+1) X.A)(hg:Gl X x)(hm:X.mg x=some (.ref C))(hb:Binds X.K fd ps ds)(hd:Vals qf ds)(hx:Passes CX X E)
  (hdb:(x==("__debug__":Str))=false):PE X (.Call (.Name x p) [] [] pos) (Ea C sp qf E xE):=by
 intro pins s σ H Q I h;refine TV (jW I hg hm ?_ hdb);exact callWith_K0 I.qa M.kp (rN (us:=[]) M F hr hb hd hx I .nil h)
end
structure mh (N P:List Str) (sc:Scope):Prop where
 kind:sc.kind=.function
 co:sc.isCoroutine=false
 gen:sc.isGenerator=false
 nd:N.Nodup
 pre:N.take P.length=P
 par:∀x∈P,sc.names.lookup x=some .local\/sc.names.lookup x=some .cell
 FF:∀y∈sc.names,y.2≠.free
theorem oH{kindOf:Str->Option NameKind}{x:Str}:∀{binds:List (Str×Value)} {m:Str->Option Value},(∀v,(x,v)∉binds)->bindL kindOf binds m x=m x
 |[],_,_=>rfl
 | (n,v)::r,m,h=>by
  unfold bindL;rw[oH λw hw=>h w (S2 _ hw)]
  split
  ·have:x≠n:=by rintro rfl;exact h v S3
   simp[this]
  ·rfl
theorem oJ{kindOf:Str->Option NameKind}{x:Str}:∀{binds:List (Str×Value)} {m:Str->Option Value},(∀v,(x,v)∉binds)->bindC kindOf binds m x=m x
 |[],_,_=>rfl
 | (n,v)::r,m,h=>by
  unfold bindC;rw[oJ λw hw=>h w (S2 _ hw)]
  split
  ·rfl
  ·have:x≠n:=by rintro rfl;exact h v S3
   simp[this]
theorem oK{kindOf:Str->Option NameKind}{x:Str}{v:Value}:∀{P:List Str} {vs:List Value} {i:Nat} {m:Str->Option Value},P.Nodup->P[i]?=some x->vs[i]?=some v->kindOf x=some .local ->
  bindL kindOf (P.zip vs) m x=some v
 |[],_,_,_,_,h,_,_=>by simp at h
 |_::_,[],_,_,_,_,h,_=>by simp at h
 | p::P,w::vs,0,m,nd,h1,h2,hk=>by
  simp at h1 h2;subst h1;subst h2;show bindL kindOf ((p,w)::P.zip vs) m p=_;unfold bindL;rw[oH λv hv=>(T5.mp nd).1 (Vr hv).1,S7 hk];simp
 | p::P,w::vs,i+1,m,nd,h1,h2,hk=>by
  show bindL kindOf ((p,w)::P.zip vs) m x=_;unfold bindL;exact oK (i:=i) (T5.mp nd).2 (by simpa using h1) (by simpa using h2) hk
theorem oM{kindOf:Str->Option NameKind}{x:Str}{v:Value}:∀{P:List Str} {vs:List Value} {i:Nat} {m:Str->Option Value},P.Nodup->P[i]?=some x->vs[i]?=some v->kindOf x≠some .local ->
  bindC kindOf (P.zip vs) m x=some v
 |[],_,_,_,_,h,_,_=>by simp at h
 |_::_,[],_,_,_,_,h,_=>by simp at h
 | p::P,w::vs,0,m,nd,h1,h2,hk=>by
  simp at h1 h2;subst h1;subst h2;show bindC kindOf ((p,w)::P.zip vs) m p=_;unfold bindC;rw[oJ λv hv=>(T5.mp nd).1 (Vr hv).1,S8 hk];simp
 | p::P,w::vs,i+1,m,nd,h1,h2,hk=>by
  show bindC kindOf ((p,w)::P.zip vs) m x=_;unfold bindC;exact oM (i:=i) (T5.mp nd).2 (by simpa using h1) (by simpa using h2) hk
def start(N:List Str)(vs:List V):St:=vs.map some++replicate (N.length-vs.length) none
def uo(CX:xF)(P:Program)(w:World)(K:Frag)(mg:Str->Option Value)(base:Heap)(N:List Str)(qual:Str)(scope:Scope)(f:Addr)(cd:Value)(A:Around)(outer:List Env)(s:Shared)(H:Hp)(E:XK):Cx where
 prog:=P
 w:=w
 K:=K
 mg:=mg
 base:=base
 A:=A.deeper (envOfC qual scope s.heap.objs.size f cd)
 N:=N
 s₀:=s
 H₀:=H
 env:=envOfC qual scope s.heap.objs.size f cd
 outer:=outer
 stack:=envOfC qual scope s.heap.objs.size f cd::outer
 ex:=[]
 calm:=true
 fn:=λ_=>true
 pn:=[]
 xe:=λe s'=>wpAny (model P w) (A.deeper (envOfC qual scope s.heap.objs.size f cd)) (leaving (envOfC qual scope s.heap.objs.size f cd) e) (λ_ s''=>CX outer H s E e s'') (λe' s''=>CX outer H s E e' s'') s'
theorem rO{sc:Scope}{n:Nat}{x:Str}(h:sc.names.lookup x=some .cell):∃c,(cellsFrom n sc.names []).lookup x=some c:=by
 have q:=cellsFrom_some sc.names n [] (.inl h);exact Option.isSome_iff_exists.mp q
theorem xG{CX:xF}{P:Program}{w:World}{K:Frag}{mg:Str->Option Value}{base:Heap}{N ps:List Str}{qual:Str}{scope:Scope}{f:Addr}{cd:Value}{A:Around}{outer:List Env}{s s1:Shared}{H:Hp}{E:XK}{us:List Value}{vs:List V}
  (S:mh N ps scope) (hd:A.handled=none) (e0:um P w K mg base A outer s H) (hl:vs.length=ps.length) (r:Vals vs us)
  (x:InCallC s s.heap.objs.size (bindL (envOfC qual scope s.heap.objs.size f cd).kindOf (ps.zip us) λ_=>none) (cellsFrom (s.heap.objs.size+1) scope.names []) (bindC (envOfC qual scope s.heap.objs.size f cd).kindOf (ps.zip us) λ_=>none) s1) :
  Inv (uo CX P w K mg base N qual scope f cd A outer s H E) [] (start N vs) H s1:=by
 have hpl:ps.length<=N.length:=by have:=TR length S.pre;rw[Vl]at this;omega
 obtain⟨h1,tk,rfl,hk⟩:=x.done;have noA:∀b:Addr,b∉(uo CX P w K mg base N qual scope f cd A outer s H E).ex:=λb z=>absurd (show b∈([]:List Addr) from z) (by simp);refine⟨⟨e0.mod,S.kind,rfl,rfl,S4 _,λy z c h1 h2=>?_,λy hy=>?_,λy c _ h=>?_,λ_=>hd,Around.frames_deeper e0.frames,.inr ⟨rfl,rfl⟩,λb z=>absurd z (noA b),e0.bs,e0.D6,λb _ _=>noA b,λb z=>absurd z (noA b),e0.lW,e0.EY⟩,
  rfl,e0.bare,Un.kept hk,⟨_,x.toInCall.ns,λi y v h1 h2 h3=>?_⟩,λy c h=>⟨_,x.cell y c h⟩,e0.hok.fresh (S4 _),λy c h=>?_,λp hp=>absurd (show p∈([]:List (Addr×Obj)) from hp) (by simp),e0.hok.kept hk,?_⟩
 ·exact name_of_addr x.apart (T9 h1) (T9 h2)
 ·have hy:scope.names.lookup y=some .cell\/scope.names.lookup y=some .free:=hy
  rcases hy with hy|hy
  ·exact rO hy
  ·exact absurd rfl (S.FF _ (T9 hy))
 ·exact US (x.above y c (T9 h))
 ·have hi:i<vs.length:=by
   unfold start at h2
   by_cases hi:i<vs.length
   ·exact hi
   ·rw[Tw (by simpa using hi)]at h2;rw[List.getElem?_replicate]at h2;split at h2<;>cases h2
  have ha:vs[i]?=some v:=by
   unfold start at h2;rw[Tf (by simpa using hi),Tq]at h2;cases e:vs[i]? with
   |none=>rw[e]at h2;cases h2
   |some a=>rw[e]at h2;cases h2;rfl
  obtain⟨u,hu,rv⟩:=r.get ha;have hp:ps[i]?=some y:=by rw[<-S.pre,List.getElem?_take_of_lt (by omega)];exact h1
  have PC:ps.Nodup:=by rw[<-S.pre];exact S.nd.sublist (List.take_sublist _ _)
  refine⟨u,rv,?_⟩
  rcases S.par y (Tr hp) with k|k
  ·exact .inl ⟨k,oK PC hp hu k⟩
  ·obtain⟨c,e⟩:=rO (n:=s.heap.objs.size+1) k;refine .inr ⟨.inl k,c,e,?_⟩;have q:=x.cell y c e;rw[oM PC hp hu (by show scope.names.lookup y≠_;rw[k];decide)]at q;exact q
 ·exact e0.hok.fresh (US (x.above y c (T9 h)))
 ·unfold start;show _=N.length;rw[Tv,S1,List.length_replicate];omega
theorem Ko{CX:xF}{P:Program}{w:World}{K:Frag}{mg:Str->Option Value}{base:Heap}{k:Nat}{f:Addr}{name qual:Str}{params:Arguments}{body:List Stmt}{scope:Scope}{dV kV doc pm cdv ct oc:Value}{an od:Option Addr}
  {osl:Array (Option Value)} {N ps:List Str} {sp:Sp} (lk:K.lookup f=some ⟨oc,od,.func (fnOf name qual params body scope dV kV doc pm an cdv ct),osl⟩) (hcd:codeIn K cdv qual=true) (S:mh N ps scope)
  (len:∀vs H Q E,sp vs H Q E->vs.length=ps.length)
  (hbody:∀(A:Around) (outer:List Env) (s:Shared) (H:Hp) (vs:List V) (Q:VK) (E:XK),dH k (A.deeper (envOfC qual scope s.heap.objs.size f cdv))->sp vs H Q E ->
   ∃t,t9 (uo CX P w K mg base N qual scope f cdv A outer s H E) body t/\t { nx:=λ_ H'=>Q .non H',rt:=Q } (start N vs) H) :
  fR P w K mg base CX (k+1) f (fnOf name qual params body scope dV kV doc pm an cdv ct) ps sp:=by
 refine⟨len,λA outer s H args us vs Q E hr e0 hb r hsp=>?_⟩;have hl:=len _ _ _ _ hsp;have KX:K.In s.heap:=e0.mod.Nb.keeps λb o e=>(e0.bs b o e).1;have lim:s.heap.NoLimit:=e0.mod.nolimit.keeps λb o e=>(e0.bs b o e).1;have hkind:∀y∈ps.zip us,scope.names.lookup y.1=some .local\/(scope.names.lookup y.1=some .cell/\((cellsFrom (s.heap.objs.size+1) scope.names []).lookup y.1).isSome=true):=λ⟨n,v⟩ hy=>by
  rcases S.par n (Vr hy).1 with q|q
  ·exact .inl q
  ·exact .inr ⟨q,cellsFrom_some _ _ _ (.inl q)⟩
 refine codeAny_call_function hr.depth (KX _ _ lk) rfl S.co S.gen rfl (PySem.W.codeRec_of KX hcd) (hb _ _ _ _ ?_);refine wpAny_newFunctionEnv_cells S.kind hkind λenv he s1 x=>?_;subst he;refine⟨lim.keeps x.toInCall.keep,codeAny_func ?_⟩;obtain⟨t,ht,hq⟩:=hbody A outer s H vs Q E (hr.deeper _) hsp;have I:Inv (uo CX P w K mg base N qual scope f cdv A outer s H E) [] (start N vs) H s1:=xG S hr.hd e0 hl r x;refine TY (ht [] s1 (start N vs) H _ I hq) (λfl s' hs=>?_) λe s' hs=>hs;have fin:∀{σ':St} {H':Hp} {v:V} {u:Value},Inv (uo CX P w K mg base N qual scope f cdv A outer s H E) [] σ' H' s'->RelV v u->Q v H'->CE outer P w H s Q u s' :=
  λ{σ' H' v u} J rv q=>⟨v,H',J.os,J.bare,J.base,J.hok,rv,q⟩
 cases fl with
 |ret u=>obtain⟨v,σ',H',J,rv,q⟩:=hs;exact fin J rv q
 |next=>obtain⟨σ',H',J,q⟩:=hs;exact fin (v:=V.non) (u:=Value.none) J rfl q
 |brk=>obtain⟨_,_,_,q⟩:=hs;exact False.elim q
 |cont=>obtain⟨_,_,_,q⟩:=hs;exact False.elim q
section
variable {X:Cx} {x:Str} {p pos:Pos} {e:Expr} {es:List Expr} {t:TA} {id T:String} {r:List V->Hp->VK->Prop}
def NZ(r:List V->Hp->VK->Prop)(t:TA):TE:=λσ H Q=>t σ H λvs H1=>r vs H1 Q
theorem fy(hc:b8 X (.builtin id) r)(hg:Gl X x)(hm:X.mg x=none)(hv:bootBuiltins x=some (.builtin id))(ha:PA X (e::es) t)(hn:x ≠ "__name__":=by decide)(hdb:(x==("__debug__":Str))=false:=by decide)
  (he:starEach (e::es) X.env=(false,eval e X.env)::starEach es X.env:=by rfl) (hpl:(backTo pos (starEach es X.env)).any (·.1)=false:=by rfl):PE X (.Call (.Name x p) (e::es) [] pos) (NZ r t):=by
 intro pins s σ H Q I h;refine TV (gb I hg hm hv ?_ hn hdb);exact PyProof.Rows.callWith_builtin1 (cy (ha pos pins s σ H _ I h) λus s1 ⟨vs,H1,I1,r1,q1⟩=>hc pins s1 σ H1 vs us Q I1 r1 q1) he hpl
theorem gq(hc:b8 X (.type T) r)(hg:Gl X x)(hm:X.mg x=none)(hv:bootBuiltins x=some (.type T))(ha:PA X (e::es) t)(hn:x ≠ "__name__")(hdb:(x==("__debug__":Str))=false)
  (he:starEach (e::es) X.env=(false,eval e X.env)::starEach es X.env) (hpl:(backTo pos (starEach es X.env)).any (·.1)=false):PE X (.Call (.Name x p) (e::es) [] pos) (NZ r t):=by
 intro pins s σ H Q I h;refine TV (gb I hg hm hv ?_ hn hdb);exact TX (cy (ha pos pins s σ H _ I h) λus s1 ⟨vs,H1,I1,r1,q1⟩=>hc pins s1 σ H1 vs us Q I1 r1 q1) he hpl
end
end L2
namespace HT
open PySem PyProof.Rows
def lexLt:List Int->List Int->Bool
 |[],[]=>false
 |[],_::_=>true
 |_::_,[]=>false
 |x::xs,y::ys=>if x=y then lexLt xs ys else decide (x<y)
theorem fz(x y:Int)(xs ys:List Int):lexLt (x::xs) (y::ys)=if x=y then lexLt xs ys else decide (x<y):=rfl
theorem n8:lexLt [] []=false:=rfl
theorem fD(y:Int)(ys:List Int):lexLt [] (y::ys)=true:=rfl
theorem cW(x:Int)(xs:List Int):lexLt (x::xs) []=false:=rfl
section
variable {prog:Program} {w:World} {A:Around} {E:Value->Shared->Prop} {s:Shared}
theorem Ca(ht:IsTup s.heap t vs.toArray)(hb:IsTup s.heap b ws.toArray)(hv:vs≠[])
  (h1:ws=[]->Q (.ref t) s) (h2:ws≠[]->Q (.ref s.heap.objs.size) { s with heap:=s.heap.push { cls:=.type "tuple",data:=.seq (vs++ws).toArray } })
  (hsz:vs.length+ws.length<=sizeLine):wpAny (model prog w) A (binaryOp .Add (.ref t) (.ref b)) Q E s:=by
 obtain⟨⟨cls,dd,data,sl⟩,ho,hc,n,hd⟩:=id ht;obtain⟨⟨QU,dd2,data2,sl2⟩,ho2,hc2,n2,hd2⟩:=id hb;simp only at hc hd hc2 hd2;subst hc hd hc2 hd2;have e:vs.toArray++ws.toArray=(vs++ws).toArray:=by simp
 by_cases hw:ws=[]
 ·exact concat_meets ⟨_,ho,rfl⟩ ⟨_,ho2,rfl⟩ noFill_tuple_add seq_tuple_add PySem.F.slot_tuple_add PySem.F.entry_tuple_add (PySem.F.args_tuple_add_2 _ _)
   (tuple_addW1 t b vs.toArray ws.toArray n n2 dd dd2 sl sl2 (by simpa using hv) (by simp[hw])) ⟨ho,ho2,h1 hw⟩
 ·refine concat_meets ⟨_,ho,rfl⟩ ⟨_,ho2,rfl⟩ noFill_tuple_add seq_tuple_add PySem.F.slot_tuple_add PySem.F.entry_tuple_add (PySem.F.args_tuple_add_2 _ _)
   (tuple_addW2 t b vs.toArray ws.toArray n n2 dd dd2 sl sl2 (by simpa using hv) (by simpa using hw) (by rw[Tc,Tc];exact hsz)) ⟨ho,ho2,?_⟩
  rw[e];exact h2 hw
def cT(n d:Nat):Option Int->Nat
 |none=>d
 |some v=>if v<0 then (v+(n:Int)).toNat else min v.toNat n
theorem rP(n d:Nat):cT n d none=d:=rfl
theorem vd(n d k:Nat):cT n d (some (k:Int))=min k n:=by
 show (if (k:Int)<0 then ((k:Int)+(n:Int)).toNat else min (k:Int).toNat n)=min k n;rw[S8 (by omega),Int.toNat_natCast]
theorem FG(n d:Nat)(hd:d<=n)(o:Option Int):cT n d o<=n:=by
 cases o with
 |none=>exact hd
 |some v=>
  show (if v<0 then (v+(n:Int)).toNat else min v.toNat n)<=n
  by_cases hv:v<0
  ·rw[S7 hv];omega
  ·rw[S8 hv];exact Nat.min_le_right _ _
theorem ve(v:Int)(n d:Nat):(if v<0 then max (v+(n:Int)) 0 else min v (n:Int))=((cT n d (some v):Nat):Int):=by
 show (if v<0 then max (v+(n:Int)) 0 else min v (n:Int))=(((if v<0 then (v+(n:Int)).toNat else min v.toNat n):Nat):Int)
 by_cases hv:v<0
 ·simp only[if_pos hv];omega
 ·simp only[if_neg hv];omega
theorem uq(lo hi:Option Int)(n:Nat):Builtin.Slice.sliceAdjust lo hi 1 (n:Int)=(((cT n 0 lo:Nat):Int),((cT n n hi:Nat):Int)):=by
 have h1:¬ ((1:Int)<0):=by omega
 unfold Builtin.Slice.sliceAdjust;simp only[h1,if_false];refine Prod.ext ?_ ?_
 ·cases lo with
  |none=>rfl
  |some v=>exact ve v n 0
 ·cases hi with
  |none=>rfl
  |some v=>exact ve v n n
theorem ur(i j:Nat):Builtin.Slice.slicePlaces (i:Int) (j:Int) 1=j-i:=by
 unfold Builtin.Slice.slicePlaces;have h1:(1:Int)>0:=by omega
 simp only[h1,if_true,Int.ediv_one]
 split<;>omega
theorem mJ{o:Option Int}(p:IsPart v o)(h:Q o s):wpAny (model prog w) A (Builtin.Slice.slicePartIndex v) Q E s:=by
 cases p with
 |none=>exact slicePart_none h
 |int i t=>exact slicePart_int h
theorem kN{lo hi:Option Int}{n:Nat}(hs:s.heap.IsSliceOf sl vl vu .none)(pl:IsPart vl lo)(pu:IsPart vu hi)
  (h:Q (((cT n 0 lo:Nat):Int),1,cT n n hi-cT n 0 lo) s):wpAny (model prog w) A (Builtin.Slice.sliceApplied (.ref sl) (pure (n:Int))) Q E s:=by
 obtain⟨os,hos,hcs,hds⟩:=id hs;unfold Builtin.Slice.sliceApplied Builtin.Slice.sliceFields;refine S0 (S0 (wpAny_field hos hds (x:=vl) rfl (S0 (wpAny_field hos hds (x:=vu) rfl (S0 (wpAny_field hos hds (x:=.none) rfl (Th ?_)))))));refine S0 (slicePart_none ?_);show wpAny _ _ (if ((1:Int)==0)=true then _ else _) _ _ s;rw[S8 (by decide)];refine S0 (mJ pl (S0 (mJ pu (S0 (Th ?_)))));show wpAny _ _ (match Builtin.Slice.sliceAdjust lo hi 1 (n:Int) with|(lo,hi)=>pure (lo,(1:Int),Builtin.Slice.slicePlaces lo hi 1)) _ _ s;rw[uq lo hi n];show wpAny _ _ (pure (((cT n 0 lo:Nat):Int),(1:Int),Builtin.Slice.slicePlaces ((cT n 0 lo:Nat):Int) ((cT n n hi:Nat):Int) 1)) _ _ s;rw[ur];exact Th h
theorem zk(xs:Array Value)(i k:Nat):((List.range k).filterMap λ(m:Nat)=>xs[((i:Int)+(m:Int)*1).toNat]?).toArray=((xs.toList.drop i).take k).toArray:=by
 have e:(λ(m:Nat)=>xs[((i:Int)+(m:Int)*1).toNat]?)=λm=>xs[i+m]?:=by
  funext m;have:((i:Int)+(m:Int)*1).toNat=i+m:=by omega
  rw[this]
 rw[e];have:=pick_run xs i k;rw[List.filterMap_map]at this;have e2:((λx=>xs[x]?)∘λx=>i+x)=λm=>xs[i+m]?:=rfl;rw[e2]at this;rw[this]
theorem jZ{lo hi:Option Int}(ht:IsTup s.heap t items)(hs:s.heap.IsSliceOf sl vl vu .none)(pl:IsPart vl lo)(pu:IsPart vu hi)
  (hw:¬ (cT items.size 0 lo=0/\cT items.size items.size hi=items.size))
  (h:Q (.ref s.heap.objs.size) { s with heap:=s.heap.push { cls:=.type "tuple",data:=.seq ((items.toList.drop (cT items.size 0 lo)).take (cT items.size items.size hi-cT items.size 0 lo)).toArray } })
  (hsz:items.size<=sizeLine):wpAny (model prog w) A (getItem (.ref t) (.ref sl)) Q E s:=by
 have vf:sizeOk (.seq ((items.toList.drop (cT items.size 0 lo)).take (cT items.size items.size hi-cT items.size 0 lo)).toArray):=by show ((items.toList.drop (cT items.size 0 lo)).take (cT items.size items.size hi-cT items.size 0 lo)).toArray.size<=sizeLine;rw[Tc,Vl,Vm,Uv];omega
 have hj:cT items.size items.size hi<=items.size:=FG _ _ (S4 _) hi;obtain⟨os,hos,hcs,hds⟩:=id hs;have N1:s.TypeIs (.ref sl) "slice":=⟨os,hos,hcs⟩;unfold getItem
 try with_reducible refine Uk ?_
 first|refine S0 (Th ?_)|skip
 refine S0 (wpAny_sequenceKey ht.typeIs (by decide) ?_);refine S0 (wpAny_callSpecial?_slot (name:=Str.ofString "__getitem__") ht.typeIs PyProof.Rows.slot_tuple_getitem
  (wpAny_call_entry PyProof.Rows.slot_tuple_getitem ht.typeIs entry_tuple_getitem ?_ (args_tuple_getitem _ _)))
 show wpAny _ _ (Builtin.Tuple.tupleItemsOf (.ref t) >>= _) _ _ s;refine S0 (tupleItemsOf_ ht ?_);refine S0 (wpAny_typeOf N1 ?_);rw[S7 (by decide)];refine S0 (kN hs pl pu ?_);have hno:¬ ((((cT items.size 0 lo:Nat):Int)==0&&(1:Int)==1&&(cT items.size items.size hi-cT items.size 0 lo)==items.size)=true):=by intro q;rw[Ul,Ul]at q;have q1:((cT items.size 0 lo:Nat):Int)=0:=eq_of_beq q.1.1;have q2:cT items.size items.size hi-cT items.size 0 lo=items.size:=eq_of_beq q.2;exact hw ⟨by omega,by omega⟩
 show wpAny _ _ (if (((cT items.size 0 lo:Nat):Int)==0&&(1:Int)==1&&(cT items.size items.size hi-cT items.size 0 lo)==items.size)=true then _ else _) _ _ s;rw[S8 hno,zk]
 first
  |exact S0 (m:=Builtin.Tuple.tupleExact _) (Uz (Th ⟨_,rfl,Th h⟩) vf)
  |exact S0 (m:=Builtin.Tuple.tupleExact _) (Uz (S0 (Th (Th ⟨_,rfl,Th h⟩))) vf)
  |exact S0 (S0 (m:=Builtin.Tuple.tupleExact _) (Uz (Th (Th ⟨_,rfl,Th h⟩)) vf))
  |exact S0 (S0 (m:=Builtin.Tuple.tupleExact _) (Uz (Th ⟨_,rfl,Th h⟩) vf))
end
end HT
namespace L2
open PySem PySem.Spec PyProof.Rows
abbrev TO:=St->Hp->(Option Int->Hp->Prop)->Prop
def PO(X:Cx)(e:Option Expr)(t:TO):Prop :=
 ∀(pins:List (Addr×Obj)) (s:Shared) (σ:St) (H:Hp) (Q:Option Int->Hp->Prop),Inv X pins σ H s->t σ H Q ->
  wpAny (model X.prog X.w) X.A (evalPart e X.env) (λu s'=>∃o H',Inv X pins σ H' s'/\IsPart u o/\Q o H') X.xe s
def Cb:TO:=λ_ H Q=>Q none H
def Kp(t:TE):TO:=λσ H Q=>t σ H λx H1=>∃i,x=.int i/\Q (some i) H1
theorem intsAre_of{ns:List Int}:∀{us:List Value},Vals (ns.map V.int) us->IntsAre us ns:=by
 induction ns with
 |nil=>intro us r;rw[UC]at r;cases r;exact .nil
 |cons n ns ih=>
  intro us r;rw[S5]at r;cases r with
  |cons r1 r2=>obtain⟨t,e⟩:=r1;subst e;exact .cons n t (ih r2)
section
variable {X:Cx} {e:Expr} {te:TE} {lo hi:Option Expr} {tl th:TO} {pos p2:Pos}
theorem Cc:PO X none Cb:=by
 intro pins s σ H Q I h;rw[evalPart_none];exact Th ⟨none,H,I,.none,h⟩
theorem Cd(h:PE X e te):PO X (some e) (Kp te):=by
 intro pins s σ H Q I hw;rw[evalPart_some];refine cy (h pins s σ H _ I hw) λu s1 aE=>?_;obtain⟨x,H1,I1,r1,q1⟩:=aE;obtain⟨i,rfl,q⟩:=q1;obtain⟨t,rfl⟩:=r1;exact⟨some i,H1,I1,.int i t,q⟩
def Ni(X:Cx)(r:V->Option Int->Option Int->Hp->VK->Prop):Prop :=
 ∀(pins:List (Addr×Obj)) (s:Shared) (σ:St) (H:Hp) (x:V) (v vl vu:Value) (lo hi:Option Int) (sl:Addr) (Q:VK),Inv X pins σ H s->RelV x v->s.heap.IsSliceOf sl vl vu .none->IsPart vl lo->IsPart vu hi->r x lo hi H Q ->
  ∃T id,typeLookup (.type T) "__getitem__" = pure (some (.builtin id))/\s.TypeIs v T/\wpAny (model X.prog X.w) X.A (getItem v (.ref sl)) (EP X pins σ Q) X.xe s
def QV(r:V->Option Int->Option Int->Hp->VK->Prop)(te:TE)(tl th:TO):TE:=λσ H Q=>te σ H λx H1=>tl σ H1 λl H2=>th σ H2 λu H3=>r x l u H3 Q
theorem zl(hr:Ni X r)(he:PE X e te)(hl:PO X lo tl)(hu:PO X hi th):PE X (.Subscript e (.Slice lo hi none p2) pos) (QV r te tl th):=by
 intro pins s σ H Q I h;refine Subscript_ (cy (he pins s σ H _ I h) λv s1 aE=>?_);obtain⟨x,H1,I1,r1,q1⟩:=aE;refine wpAny_Slice (cy (hl pins s1 σ H1 _ I1 q1) λvl s2 ⟨l,H2,I2,pl,q2⟩=>cy (hu pins s2 σ H2 _ I2 q2) λvu s3 aE=>?_);obtain⟨u,H3,I3,pu,q3⟩:=aE;rw[evalPart_none];refine Th ?_;have I4:Inv X pins σ H3 { s3 with heap:=s3.heap.push { cls:=.type "slice",data:=.fields [vl,vu,.none].toArray } }:=I3.kept (t':=s3.toks) λb ob q=>SY _ q;obtain⟨T,id,hT,ht,hg⟩:=hr pins { s3 with heap:=s3.heap.push { cls:=.type "slice",data:=.fields [vl,vu,.none].toArray } } σ H3 x v vl vu l u s3.heap.objs.size Q I4 r1 (Heap.IsSliceOf.new ..) pl pu q3;show wpAny (model X.prog X.w) X.A (subscriptTail e (.Slice lo hi none p2) v (.ref s3.heap.objs.size)) (EP X pins σ Q) X.xe { s3 with heap:=s3.heap.push { cls:=.type "slice",data:=.fields [vl,vu,.none].toArray } };exact tail_any (ops:=[.ref s3.heap.objs.size,v]) ht hT hg (by with_unfolding_all rfl)
def rQ(xs:List V)(lo hi:Option Int):List V:=(xs.drop (HT.cT xs.length 0 lo)).take (HT.cT xs.length xs.length hi-HT.cT xs.length 0 lo)
theorem lH(xs:List V)(lo hi:Option Int):(rQ xs lo hi).length<=xs.length:=by
 unfold rQ;rw[Vl,Vm];omega
def N2(K:Frag):V->Option Int->Option Int->Hp->VK->Prop:=λx lo hi H Q=>∃a xs,x=.ref a/\gS K H a xs /\
 ¬ (HT.cT xs.length 0 lo=0/\HT.cT xs.length xs.length hi=xs.length)/\∀p,H p=none->Q (.ref p) (upd H p (.tup (rQ xs lo hi)))
theorem FH:Ni X (N2 X.K):=by
 intro pins s σ H x v vl vu lo hi sl Q I rx hs pl pu h;obtain⟨a,xs,rfl,hx,hw,q⟩:=h;cases rx;obtain⟨its,r,ht,hz⟩:=I.tuple hx;have hlen:its.toArray.size=xs.length:=by rw[Tc];exact r.length.symm
 refine⟨"tuple",_,PyProof.Rows.slot_tuple_getitem.lookup,ht.typeIs,?_⟩;refine HT.jZ ht hs pl pu (by rw[hlen];exact hw) ?_ (by rw[hlen];exact hz);rw[hlen];refine⟨.ref s.heap.objs.size,_,I.laid (t':=s.toks) (o:=.tup (rQ xs lo hi)) (λb ob q=>SY _ q) (S4 _) ?_,rfl,q _ (I.hok.fresh (S4 _))⟩;exact⟨Tt (lH xs lo hi) hz,_,(r.drop (HT.cT xs.length 0 lo)).take (HT.cT xs.length xs.length hi-HT.cT xs.length 0 lo),IsTup.new _ _⟩
def Kq(K:Frag):R2:=λx y H Q=>∃a b xs ys,x=.ref a/\y=.ref b/\gS K H a xs/\gS K H b ys/\xs≠[]/\xs.length+ys.length<=sizeLine /\
 (ys=[]->Q (.ref a) H)/\(ys≠[]->∀p,H p=none->Q (.ref p) (upd H p (.tup (xs++ys))))
theorem Vals.qg(r:Vals xs us):us=[]↔xs=[]:=by
 cases r with
 |nil=>simp
 |cons _ _=>simp
theorem Ce:kK X (binaryOp .Add) (Kq X.K):=by
 intro pins s σ H x y v u Q I rx ry h;obtain⟨a,b,xs,ys,rfl,rfl,ha,hb,hx,hz,q1,q2⟩:=h;cases rx;cases ry;obtain⟨its,r1,p1,_⟩:=I.tuple ha;obtain⟨its2,r2,p2,_⟩:=I.tuple hb;refine HT.Ca p1 p2 (λz=>hx (r1.qg.mp z)) (λz=>⟨.ref a,H,I,rfl,q1 (r2.qg.mp z)⟩) (λz=>?_) (by rw[<-r1.length,<-r2.length];exact hz);refine⟨.ref s.heap.objs.size,_,I.laid (t':=s.toks) (o:=.tup (xs++ys)) (λb ob q=>SY _ q) (S4 _) ?_,rfl,q2 (λw=>z (r2.qg.mpr w)) _ (I.hok.fresh (S4 _))⟩;exact⟨by rw[Tv];exact hz,_,r1.append r2,IsTup.new _ _⟩
end
def rR(n:Nat)(i:Int):Option Nat:=if 0<=i then (if i<n then some i.toNat else none) else if -(n:Int)<=i then some (i+n).toNat else none
def gU{α:Type}(xs:List α)(i:Int):Option α:=(rR xs.length i).bind λj=>xs[j]?
theorem vg{n:Nat}{i:Int}{j:Nat}(h:rR n i=some j):seqIndex? i n=some j/\j<n /\ -(n:Int)<=i/\i<n:=by
 unfold rR at h
 by_cases h0:0<=i
 ·rw[S7 h0]at h
  by_cases h1:i<n
  ·rw[S7 h1]at h;have e:i.toNat=j:=Tn h;exact⟨by rw[seqIndex_of h0 h1,e],by omega,by omega,h1⟩
  ·rw[S8 h1]at h;cases h
 ·rw[S8 h0]at h
  by_cases h1:-(n:Int)<=i
  ·rw[S7 h1]at h;have e:(i+n).toNat=j:=Tn h;exact⟨by rw[seqIndex_neg (by omega) h1,e],by omega,h1,by omega⟩
  ·rw[S8 h1]at h;cases h
theorem qh{α:Type}{xs:List α}{i:Int}{v:α}(h:gU xs i=some v):∃j,seqIndex? i xs.length=some j/\xs[j]?=some v/\j<xs.length /\ -(xs.length:Int)<=i/\i<xs.length:=by
 unfold gU at h;cases e:rR xs.length i with
 |none=>rw[e]at h;cases h
 |some j=>rw[e]at h;obtain⟨h1,h2,h3,h4⟩:=vg e;exact⟨j,h1,h,h2,h3,h4⟩
theorem qi{α:Type}{xs:List α}{j:Nat}{v:α}(h:xs[j]?=some v):gU xs (j:Int)=some v:=by
 have hj:j<xs.length:=(SW.mp h).1;have e:rR xs.length (j:Int)=some j:=by unfold rR;rw[S7 (by omega),S7 (by omega)];simp
 unfold gU;rw[e];exact h
def vh(b:Expr):Prop:=∀o i,subscripted b false o i=operate [o,i] (getItem o i)
def JG(X:Cx)(r:R2):Prop :=
 ∀(value slice:Expr) (pins:List (Addr×Obj)) (s:Shared) (σ:St) (H:Hp) (x y:V) (v u:Value) (Q:VK),Inv X pins σ H s->RelV x v->RelV y u->r x y H Q ->
  subscripted slice false v u=operate [v,u] (getItem v u)->wpAny (model X.prog X.w) X.A (subscriptTail value slice v u) (EP X pins σ Q) X.xe s
def JH(X:Cx)(id:String)(r:V->List V->Hp->VK->Prop):Prop :=
 ∀(pins:List (Addr×Obj)) (s:Shared) (σ:St) (H:Hp) (x:V) (xs:List V) (v:Value) (us:List Value) (Q:VK),Inv X pins σ H s->RelV x v->Vals xs us->r x xs H Q ->
  wpAny (model X.prog X.w) X.A (call (.builtin id) (v::us)) (EP X pins σ Q) X.xe s
section
variable {X:Cx} {a b:Expr} {ta tb:TE} {pos:Pos}
theorem Kr(hr:JG X r)(ha:PE X a ta)(hb:PE X b tb)(hs:vh b):PE X (.Subscript a b pos) (Ng r ta tb):=by
 intro pins s σ H Q I h;exact Subscript_ (Fo ha hb I h λv u s2 x y H2 I2 rx ry q=>hr a b pins s2 σ H2 x y v u Q I2 rx ry q (hs _ _))
def N3(K:Frag):R2:=λx y H Q=>∃p xs i v,x=.ref p/\y=.int i/\fu K H p xs/\gU xs i=some v/\Q v H
def N4(K:Frag):R2:=λx y H Q=>∃p xs i v,x=.ref p/\y=.int i/\gS K H p xs/\gU xs i=some v/\Q v H
def N5:R2:=λx y H Q=>∃z i c,x=.str z/\y=.int i/\z.length<=sizeLine/\gU z.cps.toList i=some c/\Q (.str ⟨[c].toArray⟩) H
theorem vj:JG X (N3 X.K):=by
 intro value slice pins s σ H x y v u Q I rx ry h hs;obtain⟨p,xs,i,z,rfl,rfl,hq,he,q⟩:=h;cases rx;obtain⟨t,rfl⟩:=ry;obtain⟨its,r,pl,hz⟩:=I.list hq;obtain⟨j,h1,h2,h3,h4,h5⟩:=qh he;obtain⟨w,ew,rw'⟩:=r.get h2;have hl:=r.length;have hn:=kM;have fin:EP X pins σ Q w s:=⟨z,H,I,rw',q⟩
 by_cases h0:0<=i
 ·have hj:i.toNat=j:=by
   rw[seqIndex_of h0 h5]at h1;exact Tn h1
  exact item_listR pl.isList h0 (by omega) (by rw[hj];simpa using ew) fin hs
 ·have hj:(i+(its.toArray.size:Int)).toNat=j:=by
   rw[seqIndex_neg (by omega) h4]at h1;rw[Tc,<-hl];exact Tn h1
  exact subscriptTail_builtinR (x:=w) pl.isList.typeIs slot_list_getitem.lookup
   (wpAny_getItem_list_neg (Q:=λr s'=>r=w/\EP X pins σ Q r s') pl.isList (by omega) (by rw[Tc]<;>omega) (by omega) (by rw[hj];simpa using ew) ⟨rfl,fin⟩) hs
theorem FI:JG X (N4 X.K):=by
 intro value slice pins s σ H x y v u Q I rx ry h hs;obtain⟨p,xs,i,z,rfl,rfl,hq,he,q⟩:=h;cases rx;obtain⟨t,rfl⟩:=ry;obtain⟨its,r,pl,hz⟩:=I.tuple hq;obtain⟨j,h1,h2,h3,h4,h5⟩:=qh he;obtain⟨w,ew,rw'⟩:=r.get h2;have hl:=r.length;have hn:=kM;have fin:EP X pins σ Q w s:=⟨z,H,I,rw',q⟩;exact subscriptTail_builtinR (x:=w) pl.typeIs slot_tuple_getitem.lookup
  (getItem_tuple (j:=j) (Q:=λr s'=>r=w/\EP X pins σ Q r s') pl (by omega) (by omega) (by rw[Tc,<-hl];exact h1) (by simpa using ew) ⟨rfl,fin⟩) hs
theorem FJ:JG X N5:=by
 intro value slice pins s σ H x y v u Q I rx ry h hs;obtain⟨z,i,c,rfl,rfl,hz,he,q⟩:=h;obtain⟨t,rfl⟩:=rx;obtain⟨t',rfl⟩:=ry;obtain⟨j,h1,h2,h3,h4,h5⟩:=qh he;have hl:z.cps.toList.length=z.length:=by simp[Str.length]
 rw[hl]at h1 h4 h5;have hn:=kM;exact tail_any (typeIs_str s z t) slot_str_getitem.lookup (getItem_str (c:=c) (by
  have e1:decide (i < -(2 ^ 63:Int))=false:=decide_eq_false (by omega);have e2:decide (i≥2 ^ 63)=false:=decide_eq_false (by omega);rw[e1,e2,Bool.or_false]) (by rw[h1];simpa using h2) ⟨.str ⟨[c].toArray⟩,H,I.tok _,⟨_,rfl⟩,q⟩) hs
theorem uu(its:List Value)(n j:Nat)(u:Value):Obj.mapSeq (·.setIfInBounds j u) { cls:=.type "list",data:=.seq its.toArray n }={ cls:=.type "list",data:=.seq (its.set j u).toArray n }:=by
 simp[Obj.mapSeq]
theorem Inv.lst(I:Inv X pins σ H s)(h:H p=some (.lst xs)) :
  ∃(its:List Value) (n:Nat),Vals xs its/\s.heap.get? p=some { cls:=.type "list",data:=.seq its.toArray n }/\xs.length<=sizeLine:=by
 obtain⟨z,its,n,r,e⟩:=I.hok p _ h;exact⟨its,n,r,e,z⟩
theorem Inv.FL{pins:List (Addr×Obj)}{σ:St}{H:Hp}{s:Shared}{p:Addr}{xs ys:List V}{its its':List Value}{n n':Nat}{f:Obj->Obj}(I:Inv X pins σ H s)(h:H p=some (.lst xs))
  (ho:s.heap.get? p=some { cls:=.type "list",data:=.seq its.toArray n }) (hf:f { cls:=.type "list",data:=.seq its.toArray n }={ cls:=.type "list",data:=.seq its'.toArray n' }) (r:Vals ys its') (hz:ys.length<=sizeLine) (t:Nat) :
  Inv X pins σ (upd H p (.lst ys)) { s with heap:=s.heap.update p f,toks:=t }:=by
 have e:(s.heap.update p f).get? p=some { cls:=.type "list",data:=.seq its'.toArray n' }:=by rw[Heap.get?_update_self f ho (by rw[hf]<;>rfl),hf]
 refine I.write (x:=p) (e:=p) (by rw[h];trivial) (.inl rfl) (λb u hb q=>(Heap.get?_update_other _ _ (Ne.symm hb)).trans q) ⟨_,e⟩ ?_;exact⟨hz,its',n',r,e⟩
def Ks:V->V->V->Hp->(Hp->Prop)->Prop:=λo i v H Q=>∃p xs k j,o=.ref p/\i=.int k/\H p=some (.lst xs)/\rR xs.length k=some j/\Q (upd H p (.lst (xs.set j v)))
theorem set_list:Ff X Ks:=by
 intro pins s σ H o i v ov iv u Q I ro ri rv h;obtain⟨p,xs,k,j,rfl,rfl,hp,hj,q⟩:=h;cases ro;obtain⟨t,rfl⟩:=ri;obtain⟨its,n,r,ho,hz⟩:=I.lst hp;obtain⟨h1,h2,h3,h4⟩:=vg hj;have hl:=r.length;have hn:=kM;have I':Inv X pins σ (upd H p (.lst (xs.set j v))) { s with heap:=s.heap.update p (Obj.mapSeq (·.setIfInBounds j u)) } :=
  I.FL hp ho (uu its n j u) (r.set rv j) (by rw[U8];exact hz) s.toks
 by_cases h0:0<=k
 ·have hk:k.toNat=j:=by
   rw[seqIndex_of h0 h4]at h1;exact Tn h1
  exact PySem.W.ki_setAt ho h0 (by omega) (by rw[Tc,<-hl];exact h4) (by rw[hk];exact⟨_,I',q⟩)
 ·have hk:(k+(its.toArray.size:Int)).toNat=j:=by
   rw[seqIndex_neg (by omega) h3]at h1;rw[Tc,<-hl];exact Tn h1
  exact PySem.W.ki_setBack ho (by omega) (by rw[Tc,<-hl];exact h3) (by omega) (by rw[hk];exact⟨_,I',q⟩)
theorem qj(lo hi:Option Int)(n:Nat):(sliceBounds lo hi none n).1=((HT.cT n 0 lo:Nat):Int)/\(sliceBounds lo hi none n).2.1=((HT.cT n n hi:Nat):Int)/\(sliceBounds lo hi none n).2.2=1:=by
 refine⟨?_,?_,rfl⟩
 ·cases lo with
  |none=>simp[sliceBounds,HT.cT]
  |some i=>
   simp only[sliceBounds,HT.cT,getD_none,show (1:Int)>0 by decide,if_true]
   by_cases h:i<0
   ·simp only[h,if_true]<;>omega
   ·simp only[h,if_false]<;>omega
 ·cases hi with
  |none=>simp[sliceBounds,HT.cT]
  |some i=>
   simp only[sliceBounds,HT.cT,getD_none,show (1:Int)>0 by decide,if_true]
   by_cases h:i<0
   ·simp only[h,if_true]<;>omega
   ·simp only[h,if_false]<;>omega
theorem n9(its:List Value)(lo hi:Option Int):slicePick its.toArray lo hi none=((its.drop (HT.cT its.length 0 lo)).take (HT.cT its.length its.length hi-HT.cT its.length 0 lo)).toArray:=by
 obtain⟨h1,h2,h3⟩:=qj lo hi its.toArray.size;unfold slicePick;rw[h1,h2,h3];simp only[sliceRange_one,pick_run,size_toArray]<;>rfl
def N6(K:Frag):V->Option Int->Option Int->Hp->VK->Prop:=λx lo hi H Q=>∃a xs,x=.ref a/\fu K H a xs/\∀p,H p=none->Q (.ref p) (upd H p (.lst (rQ xs lo hi)))
theorem Cf:Ni X (N6 X.K):=by
 intro pins s σ H x v vl vu lo hi sl Q I rx hs pl pu h;obtain⟨a,xs,rfl,hx,q⟩:=h;cases rx;obtain⟨its,r,ht,hz⟩:=I.list hx;have hlen:=r.length;refine⟨"list",_,slot_list_getitem.lookup,ht.isList.typeIs,?_⟩;refine wpAny_getItem_list_slice ht.isList hs pl pu .none (by simp) ?_ (by rw[Tc]<;>omega);rw[n9,<-hlen];refine⟨.ref s.heap.objs.size,_,I.laid (t':=s.toks) (o:=.lst (rQ xs lo hi)) (λb ob q=>SY _ q) (S4 _) ?_,rfl,q _ (I.hok.fresh (S4 _))⟩;exact⟨Tt (lH xs lo hi) hz,_,0,(r.drop (HT.cT xs.length 0 lo)).take (HT.cT xs.length xs.length hi-HT.cT xs.length 0 lo),To _ rfl⟩
def bG:V->Bool
 |.non=>true
 |.bl _=>true
 |.int _=>true
 |.str _=>true
 |_=>false
theorem qk:b8 X (.type "list") (λxs H Q=>∃p ys,xs=[.ref p]/\(fu X.K H p ys\/gS X.K H p ys)/\∀l,H l=none->Q (.ref l) (upd H l (.lst ys))):=by
 intro pins s σ H xs us Q I r h;obtain⟨p,ys,rfl,hq,q⟩:=h;obtain⟨u,rfl,rx⟩:=vals1 r;cases rx;have fin:∀(its:List Value),Vals ys its->ys.length<=sizeLine->∀(h':Heap) (c':Nat),(∀b o',s.heap.get? b=some o'->h'.get? b=some o') ->
   h'.get? s.heap.objs.size=some { cls:=.type "list",dict:=none,data:=.seq its.toArray c',slots:=#[] }->EP X pins σ Q (.ref s.heap.objs.size) { s with heap:=h' }:=λits r' hz h' c' kp e=>
  ⟨.ref s.heap.objs.size,_,I.laid (t':=s.toks) kp (S4 _) (show bM X.prog X.w _ h' _ (.lst ys) from⟨hz,its,c',r',e⟩),rfl,q _ (I.hok.fresh (S4 _))⟩
 rcases hq with hq|hq
 ·obtain⟨its,r',pl,hz⟩:=I.list hq;have hlen:=r'.length;obtain⟨o,ho,hc,n,hd⟩:=pl.isList;exact call_list_seq p (.inl rfl) ho hc hd (λh' c' kp e=>fin its r' hz h' c' kp e) (by simp only[size_toArray]<;>omega)
 ·obtain⟨its,r',pl,hz⟩:=I.tuple hq;have hlen:=r'.length;obtain⟨o,ho,hc,n,hd⟩:=pl;exact call_list_seq p (.inr rfl) ho hc hd (λh' c' kp e=>fin its r' hz h' c' kp e) (by simp only[size_toArray]<;>omega)
def N7(K:Frag)(T:String)(x:V)(H:Hp):Prop:=match x with
 |.str _=>T = "str"
 |.int _=>T = "int"
 | .ref p=>(T = "list" /\ ∃xs,fu K H p xs)\/(T = "tuple" /\ ∃o,K.lookup p=some o/\o.cls=.type "tuple" /\ o.dict=none) \/
   (T = "dict" /\ ((∃kvs,H p=some (.dK kvs))\/∃kvs,H p=some (.dT kvs)))\/(T = "set" /\ ∃S n,H p=some (.set S n))
 |_=>False
theorem FN{T:String}(I:Inv X pins σ H s)(r:RelV x v)(ty:N7 X.K T x H) :
  s.TypeIs v T/\∀a,v=.ref a->∃ob,s.heap.get? a=some ob/\ob.dict=none:=by
 cases x with
 |str z=>obtain⟨t,rfl⟩:=r;cases (show T = "str" from ty);exact⟨typeIs_str s z t,λ_ e=>nomatch e⟩
 |int i=>obtain⟨t,rfl⟩:=r;cases (show T = "int" from ty);exact⟨typeIs_int s i t,λ_ e=>nomatch e⟩
 |ref p=>
  cases r
  rcases ty with ⟨rfl,xs,hq⟩|⟨rfl,o,hk,hc,hd⟩|⟨rfl,hk⟩|⟨rfl,S,n,hk⟩
  ·obtain⟨its,_,pl,_⟩:=I.list hq;refine⟨pl.isList.typeIs,λa e=>?_⟩;cases e;obtain⟨o,n,e,c,hd,_⟩:=pl;exact⟨o,e,hd⟩
  ·refine⟨⟨o,I.qa p o hk,hc⟩,λa e=>?_⟩;cases e;exact⟨o,I.qa _ o hk,hd⟩
  ·have z:∃o,s.heap.get? p=some o/\o.ExactDict:=by
    rcases hk with ⟨kvs,hk⟩|⟨kvs,hk⟩
    ·obtain⟨_,_,_,_,o,_,_,e,ex,_⟩:=I.hok p _ hk;exact⟨o,e,ex⟩
    ·obtain⟨_,_,_,_,o,_,_,e,ex,_⟩:=I.hok p _ hk;exact⟨o,e,ex⟩
   obtain⟨o,e,ex⟩:=z;refine⟨⟨o,e,ex.1⟩,λa e2=>?_⟩;cases e2;exact⟨o,e,ex.2.1⟩
  ·obtain⟨o,_,_,_,e,ex,_⟩:=I.hok p _ hk;refine⟨⟨o,e,ex.1⟩,λa e2=>?_⟩;cases e2;exact⟨o,e,ex.2.1⟩
 |_=>exact False.elim ty
def PD(K:Frag)(T:String)(r:V->List V->Hp->VK->Prop)(to:TE)(t:TA):TE:=λσ H Q=>to σ H λx H1=>N7 K T x H1/\t σ H1 λxs H2=>r x xs H2 Q
variable {o e:Expr} {es:List Expr} {to:TE} {t:TA} {name:Str} {apos cpos:Pos} {T id:String} {r:V->List V->Hp->VK->Prop}
theorem vm(pa:PlainAttrs T)(slot:Slot T name id)(hty:typeOf (.builtin id)=pure (.type "method_descriptor"))(hm:JH X id r)(ho:PE X o to)(ha:PA X (e::es) t)
  (hbase:attributeBase o name X.env (eval o X.env)=eval o X.env)
  (hfew:((backTo cpos (starEach (e::es) X.env)).all (λx=>!x.1)&&(backToKw cpos (keywordEach [] X.env)).all (λx=>x.1.isSome)
   && decide ((e::es).length+([]:List Keyword).length+(if ([]:List Keyword).isEmpty then 0 else 1)<30))=true)
  (hline:(apos.endLine==cpos.line)=true) (hs:starEach (e::es) X.env=(false,eval e X.env)::starEach es X.env) (hplain:(backTo cpos (starEach es X.env)).any (·.1)=false) :
  PE X (.Call (.Attribute o name apos) (e::es) [] cpos) (PD X.K T r to t):=by
 intro pins s σ H Q I h;refine wpAny_Call_method_late hbase hfew hline rfl (cy (ho pins s σ H _ I h) λv s1 aE=>?_);obtain⟨x,H1,I1,r1,ty,q1⟩:=aE;obtain⟨h1,h2⟩:=FN I1 r1 ty;refine⟨T,id,pa,slot,hty,h1,h2,?_⟩;have hA:=ha cpos pins s1 σ H1 _ I1 q1;rw[hs]at hA |-;refine Uw (by show (false||(backTo cpos (starEach es X.env)).any (·.1))=false;rw[hplain]<;>rfl) (Calls.evalArgs_plain ?_);exact cy hA λus s2 ⟨vs,H2,I2,r2,q2⟩=>hm pins s2 σ H2 x vs v us Q I2 r1 r2 q2
/- xs.append(e),list.index on a Ku tuple .. are JH facts of 06m -/
end
def Nj(X:Cx)(id:String)(r:V->List V->Hp->VK->Prop):Prop :=
 ∀(pins:List (Addr×Obj)) (s:Shared) (σ:St) (H:Hp) (x:V) (xs:List V) (v:Value) (us:List Value) (Q:VK),Inv X pins σ H s->RelV x v->Vals xs us->r x xs H Q ->
  wpAny (model X.prog X.w) X.A (call (.builtin id) (v::us)) (EP X pins σ Q) X.xe s
theorem Vals.one:∀{x:V} {us:List Value},Vals [x] us->∃u,us=[u]/\RelV x u
 |_,_,.cons r .nil=>⟨_,rfl,r⟩
theorem Vals.eraseIdx:∀{xs:List V} {us:List Value} (i:Nat),Vals xs us->Vals (xs.eraseIdx i) (us.eraseIdx i)
 |_,_,_,.nil=>.nil
 |_,_,0,.cons _ t=>t
 |_,_,i+1,.cons r t=>.cons r (Vals.eraseIdx i t)
theorem oN{α:Type}:∀(l:List α) (i:Nat),(l.eraseIdx i).length<=l.length
 |[],_=>S4 _
 |_::_,0=>Ue _
 |_::r,i+1=>Nat.succ_le_succ (oN r i)
section
variable {X:Cx} {pins:List (Addr×Obj)} {σ:St} {H:Hp} {s:Shared} {l b:Addr} {xs ys zs:List V}
theorem Inv.Cg{its its':List Value}{n:Nat}{f:Array Value->Array Value}{t':Nat}(I:Inv X pins σ H s)(hH:H l=some (.lst xs))
  (e:s.heap.get? l=some { cls:=.type "list",data:=.seq its.toArray n }) (hf:f its.toArray=its'.toArray) (hv:Vals ys its') (hz:ys.length<=sizeLine) :
  Inv X pins σ (upd H l (.lst ys)) { s with heap:=s.heap.update l (Obj.mapSeq f),toks:=t' }:=by
 have q:=PySem.IsL.update e f;rw[hf]at q;refine I.write (x:=l) (e:=l) (by rw[hH];exact trivial) (.inl rfl) (λb' u hb hu=>(Heap.get?_update_other s.heap (Obj.mapSeq f) (Ne.symm hb)).trans hu) ⟨_,q⟩ ?_;exact⟨hz,its',_,hv,q⟩
theorem Inv.N8{t':Nat}(I:Inv X pins σ H s)(hv:Vals ys its)(hz:ys.length<=sizeLine) :
  Inv X pins σ (upd H s.heap.objs.size (.lst ys)) { s with heap:=s.heap.push { cls:=.type "list",data:=.seq its.toArray },toks:=t' } :=
 I.laid (λ_ _ q=>SY _ q) (S4 _) ⟨hz,its,0,hv,To _ rfl⟩
theorem Inv.zm(I:Inv X pins σ H s)(hH:H l=some (.lst xs)):xs.length<=sizeLine/\∃(its:List Value) (n:Nat),Vals xs its/\xs.length=its.length/\s.heap.get? l=some { cls:=.type "list",data:=.seq its.toArray n }:=by
 obtain⟨z,its,n,r,e⟩:=I.hok l _ hH;exact⟨z,its,n,r,r.length,e⟩
theorem rS{n:Nat}(h:n<=sizeLine):Builtin.List.listTooLong n=false:=by
 unfold Builtin.List.listTooLong;exact decide_eq_false (by omega)
end
section
variable {X:Cx}
def Ci:V->List V->Hp->VK->Prop:=λx vs H Q=>∃l xs y,x=.ref l/\vs=[y]/\H l=some (.lst xs)/\xs.length<sizeLine/\Q .non (upd H l (.lst (xs++[y])))
theorem oO:Nj X "list.append" Ci:=by
 intro pins s σ H x vs v us Q I rx rv h;obtain⟨l,xs,y,rfl,rfl,hH,hz,q⟩:=h;cases rx;obtain⟨u,rfl,ru⟩:=rv.one;obtain⟨z,its,n,r,hl,e⟩:=I.zm hH;refine Vp F.slot_list_append ⟨_,e,rfl⟩ F.entry_list_append (F.args_list_append_2 _ _) (PySem.list_append l its.toArray n u (by rw[Tc];omega)) ⟨e,?_⟩;refine⟨.non,_,I.Cg (its':=its++[u]) hH e (by simp) (r.append #[ru]) ?_,rfl,q⟩;rw[Tv,List.length_singleton];omega
def Cj:V->List V->Hp->VK->Prop:=λx vs H Q=>∃l b xs zs,x=.ref l/\vs=[.ref b]/\H l=some (.lst xs)/\H b=some (.lst zs)/\xs.length+zs.length<=sizeLine/\Q .non (upd H l (.lst (xs++zs)))
theorem xH:Nj X "list.extend" Cj:=by
 intro pins s σ H x vs v us Q I rx rv h;obtain⟨l,b,xs,zs,rfl,rfl,hH,hB,hz,q⟩:=h;cases rx;obtain⟨u,rfl,ru⟩:=rv.one;cases ru;obtain⟨z,its,n,r,hl,e⟩:=I.zm hH;obtain⟨z2,its2,n2,r2,hl2,e2⟩:=I.zm hB;have hsz:its.toArray.size+its2.toArray.size<=sizeLine:=by rw[Tc,Tc];omega
 have zo:¬ (!its.toArray.isEmpty&&Builtin.List.listTooLong (its.toArray.size+its2.toArray.size))=true:=by rw[rS hsz,Bool.and_false];exact SV
 refine Vp F.slot_list_extend ⟨_,e,rfl⟩ F.entry_list_extend (F.args_list_extend_2 _ _)
  (AutoSeq1.list_extend_list_list_0 l its.toArray n b its2.toArray n2 zo (by rw[Tc];omega) (by omega)) ⟨e,e2,?_⟩
 refine⟨.non,_,I.Cg (its':=its++its2) hH e (by simp) (r.append r2) ?_,rfl,q⟩;rw[Tv];omega
end
section
variable {κ:Type} [DecidableEq κ]
def eY(kvs:List (κ × V))(k:κ):Option V:=(kvs.find? λkv=>decide (kv.1=k)).map (·.2)
def putK(kvs:List (κ × V))(k:κ)(v:V):List (κ × V) :=
 if (kvs.any λkv=>decide (kv.1=k))=true then kvs.map (λkv=>if kv.1=k then (kv.1,v) else kv) else kvs++[(k,v)]
theorem mK{p:κ × V}{r:List (κ × V)}{k:κ}(e:p.1=k):eY (p::r) k=some p.2:=by simp[eY,find?_cons,e]
theorem mL{p:κ × V}{r:List (κ × V)}{k:κ}(e:¬ p.1=k):eY (p::r) k=eY r k:=by simp[eY,find?_cons,e]
theorem rT(k:κ):∀kvs:List (κ × V),(kvs.any λkv=>decide (kv.1=k))=(eY kvs k).isSome
 |[]=>rfl
 | p::r=>by
  rw[U4]
  by_cases e:p.1=k
  ·simp only[mK e,decide_eq_true e,Bool.true_or,Option.isSome_some]
  ·rw[mL e,decide_eq_false e,Bool.false_or];exact rT k r
theorem iK(kvs:List (κ × V))(k:κ)(v:V):(putK kvs k v).length<=kvs.length+1:=by
 unfold putK
 split
 ·rw[S1];omega
 ·rw[Tv,TM,length_nil];omega
theorem lU.xK(r:lU o u):o.isSome=u.isSome:=by
 cases o with
 | none=>cases u with
  |none=>rfl
  |some _=>exact(show False from r).elim
 | some _=>cases u with
  |none=>exact(show False from r).elim
  |some _=>rfl
theorem lU.getD(r:lU o u)(rd:RelV d d'):RelV (o.getD d) (u.getD d'):=by
 cases o with
 | none=>cases u with
  |none=>exact rd
  |some _=>exact(show False from r).elim
 | some _=>cases u with
  |none=>exact(show False from r).elim
  |some _=>exact r
theorem KV.val(r:KV kvs vs)(k:κ):lU (eY kvs k) (valueAt vs k):=by
 unfold KV at r
 induction r with
 |nil=>exact Ut
 |@cons p q ps qs h t ih=>
  obtain⟨h1,h2⟩:=h
  by_cases e:p.1=k
  ·have e':q.1=k:=h1.symm.trans e
   have b:valueAt (q::qs) k=some q.2:=by simp[valueAt,find?_cons,e']
   rw[mK e,b];exact h2
  ·have e':¬ q.1=k:=λz=>e (h1.trans z)
   have b:valueAt (q::qs) k=valueAt qs k:=by simp[valueAt,find?_cons,e']
   rw[mL e,b];exact ih
theorem KV.any(r:KV kvs vs)(k:κ):(kvs.any λkv=>decide (kv.1=k))=vs.any λkv=>decide (kv.1=k):=by
 unfold KV at r
 induction r with
 |nil=>rfl
 |cons h t ih=>rw[U4,U4,ih,h.1]
theorem KV.repl(r:KV kvs vs)(k:κ)(ry:RelV y u) :
  KV (kvs.map λkv=>if kv.1=k then (kv.1,y) else kv) (vs.map λkv=>if kv.1=k then (kv.1,u) else kv):=by
 unfold KV at r |-
 induction r with
 |nil=>exact .nil
 |@cons p q ps qs h t ih=>
  rw[S5,S5];refine .cons ?_ ih;obtain⟨h1,h2⟩:=h
  by_cases e:p.1=k
  ·rw[S7 e,S7 (h1.symm.trans e)];exact⟨h1,ry⟩
  ·rw[S8 e,S8 (λz=>e (h1.trans z))];exact⟨h1,h2⟩
theorem KV.put(r:KV kvs vs)(k:κ)(ry:RelV y u):KV (putK kvs k y) (stored vs k u):=by
 unfold putK stored;rw[r.any k]
 by_cases e:(vs.any λkv=>decide (kv.1=k))=true
 ·rw[S7 e,S7 e];exact r.repl k ry
 ·rw[S8 e,S8 e];exact Paired.snoc r ⟨rfl,ry⟩
theorem KV.length(r:KV kvs vs):kvs.length=vs.length:=Vj r
end
theorem oQ(r:RelV (kV k) u):(aG P w).is k u=true:=by
 cases k with
 |inl i=>obtain⟨t,e⟩:=(show ∃t,u=Value.int i t from r);subst e;exact rD P w i t
 |inr x=>obtain⟨t,e⟩:=(show ∃t,u=Value.str x t from r);subst e;exact rE P w x t
theorem oR:∀{ks:List Key} {us:List Value},Vals (ks.map kV) us->ItemsAre (aG P w) ks us
 |[],_,r=>by rw[UC]at r;cases r;exact .nil
 | k::ks,_,r=>by
  rw[S5]at r;cases r with
  |cons h t=>exact .cons (oQ h) (oR t)
abbrev KT(H:Hp):List (List Key×V)->List (List Key×Addr×Value)->Prop:=Paired λp q=>p.1=q.1/\H q.2.1=some (.tup (p.1.map kV))/\RelV p.2 q.2.2
theorem KT.val(r:KT H kvs xs)(k:List Key):lU (eY kvs k) ((atKey xs k).map (·.2)):=by
 induction r with
 |nil=>exact Ut
 |@cons p q ps qs h t ih=>
  obtain⟨h1,_,h2⟩:=h
  by_cases e:p.1=k
  ·have e':q.1=k:=h1.symm.trans e
   have b:atKey (q::qs) k=some q.2:=by simp[atKey,find?_cons,e']
   rw[mK e,b];exact h2
  ·have e':¬ q.1=k:=λz=>e (h1.trans z)
   have b:atKey (q::qs) k=atKey qs k:=by simp[atKey,find?_cons,e']
   rw[mL e,b];exact ih
theorem KT.repl(r:KT H kvs xs)(k:List Key)(ry:RelV y u) :
  KT H (kvs.map λkv=>if kv.1=k then (kv.1,y) else kv) (xs.map (putAt k u)):=by
 induction r with
 |nil=>exact .nil
 |@cons p q ps qs h t ih=>
  rw[S5,S5];refine .cons ?_ ih;obtain⟨h1,h2,h3⟩:=h;unfold putAt
  by_cases e:p.1=k
  ·rw[S7 e,S7 (h1.symm.trans e)];exact⟨h1,h2,ry⟩
  ·rw[S8 e,S8 (λz=>e (h1.trans z))];exact⟨h1,h2,h3⟩
theorem KT.put(r:KT H kvs xs)(k:List Key)(hb:H b=some (.tup (k.map kV)))(ry:RelV y u) :
  KT H (putK kvs k y) (storedH xs k b u):=by
 have e:(kvs.any λkv=>decide (kv.1=k))=(atKey xs k).isSome:=by rw[rT,(r.val k).xK,Option.isSome_map]
 unfold putK storedH;rw[e]
 by_cases q:(atKey xs k).isSome=true
 ·rw[S7 q,S7 q];exact r.repl k ry
 ·rw[S8 q,S8 q];exact Paired.snoc r ⟨rfl,hb,ry⟩
theorem KT.keeps(r:KT H kvs xs)(ht:∀b ys,H b=some (.tup ys)->H' b=some (.tup ys)):KT H' kvs xs :=
 Paired.EU r λ_ _ z=>⟨z.1,ht _ _ z.2.1,z.2.2⟩
section
variable {P:Program} {w:World} {H:Hp} {h:Heap} {a:Addr}
theorem Eb(ok:jV P w H h)(e:Rd H a u):bM P w H h a u:=e.ok ok
theorem oS(ok:jV P w H h)(e:Rd H a (.dK kvs)):kvs.length<=sizeLine/\(a==sysModules)=false/\∃vs,KV kvs vs/\h.DictOf (aG P w) a vs :=
 show bM P w H h a (.dK kvs) from Eb ok e
theorem oU(ok:jV P w H h)(e:H a=some (.dK kvs)):kvs.length<=sizeLine/\(a==sysModules)=false/\∃vs,KV kvs vs/\h.DictOf (aG P w) a vs:=oS ok (.inl e)
theorem ql(ok:jV P w H h)(e:H a=some (.tup (ks.map kV))):(tupleKind (aG P w)).is h ks a:=by
 obtain⟨_,its,r,o,h1,h2,n,h3⟩:=(show bM P w H h a (.tup (ks.map kV)) from ok a _ e);exact⟨o,its.toArray,n,h1,h2,h3,by simpa using oR r⟩
theorem rU(ok:jV P w H h)(e:Rd H a (.dT kvs)):kvs.length<=sizeLine/\(a==sysModules)=false /\
  ∃xs,KT H kvs xs/\h.DictOfH (tupleKind (aG P w)) a xs:=by
 obtain⟨z,y,xs,r,o,es,ep,h1,h2,h3,h4,h5⟩:=(show bM P w H h a (.dT kvs) from Eb ok e);refine⟨z,y,xs,r,o,es,ep,h1,h2,h3,h4,λx hx=>?_,h5⟩;have all:∀{l:List (List Key×V)} {m:List (List Key×Addr×Value)},KT H l m->∀x∈m,(tupleKind (aG P w)).is h x.1 x.2.1:=by
  intro l m q
  induction q with
  |nil=>intro x hx;exact nomatch hx
  |@cons p q ps qs hq t ih=>
   intro x hx
   rcases Td.mp hx with e|hx
   ·subst e;exact ql ok (by rw[<-hq.1];exact hq.2.1)
   ·exact ih x hx
 exact all r x hx
theorem Kv(ok:jV P w H h)(e:H a=some (.dT kvs)):kvs.length<=sizeLine/\(a==sysModules)=false /\
  ∃xs,KT H kvs xs/\h.DictOfH (tupleKind (aG P w)) a xs:=rU ok (.inl e)
end
def kO(H:Hp)(a:Addr)(y:V)(r:Option V):Prop :=
 (∃kvs k,Rd H a (.dK kvs)/\y=kV k/\r=eY kvs k)\/∃kvs k b,Rd H a (.dT kvs)/\y=.ref b/\H b=some (.tup (k.map kV))/\r=eY kvs k
def Ck(H:Hp)(a:Addr)(y v:V)(H':Hp):Prop :=
 (∃kvs k,H a=some (.dK kvs)/\y=kV k/\kvs.length<sizeLine/\H'=upd H a (.dK (putK kvs k v))) \/
 ∃kvs k b,H a=some (.dT kvs)/\y=.ref b/\H b=some (.tup (k.map kV))/\kvs.length<sizeLine/\H'=upd H a (.dT (putK kvs k v))
theorem kO.k{H:Hp}{a:Addr}{kvs:List (Key×V)}{k:Key}(e:H a=some (.dK kvs)):kO H a (kV k) (eY kvs k):=.inl ⟨kvs,k,.inl e,rfl,rfl⟩
theorem Ck.k{H:Hp}{a:Addr}{kvs:List (Key×V)}{k:Key}{v:V}(e:H a=some (.dK kvs))(hl:kvs.length<sizeLine):Ck H a (kV k) v (upd H a (.dK (putK kvs k v))):=.inl ⟨kvs,k,e,rfl,hl,rfl⟩
section
variable {X:Cx} {pins:List (Addr×Obj)} {σ:St} {H:Hp} {s:Shared} {a:Addr} {y v:V} {u r:Value} {o:Option V} {A:Around} {E:Value->Shared->Prop}
theorem Inv.big(I:Inv X pins σ H s):sysModules<s.heap.objs.size:=by
 have h:mainGlobals<s.heap.objs.size:=(I.mod.glob.keeps I.bk).lt;exact Nat.lt_trans (by decide) h
theorem oV(hu:A.units+1<cLine)(I:Inv X pins σ H s)(g:kO H a y (some v))(ry:RelV y u)(h:∀w' s',Inv X pins σ H s'->RelV v w'->Q w' s') :
  wpAny (model X.prog X.w) A (getItem (.ref a) u) Q E s:=by
 rcases g with ⟨kvs,k,e,ey,l⟩|⟨kvs,k,b,e,ey,eb,l⟩
 ·subst ey;obtain⟨z,hd,vs,rel,dd⟩:=oS I.hok e;obtain⟨w',hw,rw'⟩:=lU.some_of (v:=v) (o:=valueAt vs k) (by rw[l];exact rel.val k);exact wpAny_getItem_of (oQ ry) dd.mapOf hw (h w' _ (I.tok _) rw')
 ·subst ey;cases (show u=Value.ref b from ry);obtain⟨z,hd,xs,rel,dd⟩:=rU I.hok e;obtain⟨w',hw,rw'⟩:=lU.some_of (v:=v) (o:=(atKey xs k).map (·.2)) (by rw[l];exact rel.val k);obtain⟨p,hp,hp2⟩:=TF.mp hw;refine wpAny_getItem_heap (Ve hu) (ql I.hok eb) dd hp ?_;rw[hp2];exact h w' _ (I.tok _) rw'
theorem qm{t':Nat}(I:Inv X pins σ H s)(mu:JP (H a))(hs:Heap.SameBut a s.heap h')(he:∃q,h'.get? a=some q)(new:bM X.prog X.w (upd H a ob) h' a ob) :
  Inv X pins σ (upd H a ob) { s with heap:=h',toks:=t' } :=
 I.write (x:=a) (e:=a) mu (.inl rfl) (λb q hb z=>(hs.2 b hb).trans z) he new
theorem uv(z:kvs.length<=sizeLine)(hd:(a==sysModules)=false)(rel:KV kvs vs)(dd:h'.DictOf (aG P w) a vs) :
  bM P w H' h' a (.dK kvs):=⟨z,hd,vs,rel,dd⟩
theorem xN(hu:A.units+1<cLine)(I:Inv X pins σ H s)(g:Ck H a y v H')(ry:RelV y u)(rv:RelV v r)(h:∀s',Inv X pins σ H' s'->Q () s') :
  wpAny (model X.prog X.w) A (setItem (.ref a) u r) Q E s:=by
 rcases g with ⟨kvs,k,e,ey,l,eH⟩|⟨kvs,k,b,e,ey,eb,l,eH⟩
 ·subst ey eH
  obtain⟨z,hd,vs,rel,dd⟩:=oU I.hok e;have hz:vs.length<=sizeLine:=by rw[<-rel.length];exact z
  have hl:(putK kvs k v).length<=sizeLine:=by have:=iK kvs k v;omega
  refine wpAny_setItem_pairs (hsz:=hz) (oQ ry) dd λh' FO hs=>h _ ?_;have he:∃q,h'.get? a=some q:=let ⟨q,_,_,hq,_⟩:=FO;⟨q,hq⟩
  exact qm I (by rw[e];exact Ut) hs he (uv hl hd (rel.put k rv) FO)
 ·subst ey eH
  cases (show u=Value.ref b from ry);obtain⟨z,hd,xs,rel,dd⟩:=Kv I.hok e;have hz:xs.length<=sizeLine:=by rw[<-Vj rel];exact z
  have hl:(putK kvs k v).length<=sizeLine:=by have:=iK kvs k v;omega
  refine wpAny_setItem_heap (hsz:=hz) (Ve hu) (ql I.hok eb) dd λh' FO hs=>h _ ?_;obtain⟨q,es,ep,hq,h2,h3,h4,_,h5⟩:=FO;refine qm I (by rw[e];exact Ut) hs ⟨q,hq⟩ ⟨hl,hd,_,(rel.put k eb rv).keeps λc ys ec=>?_,q,es,ep,hq,h2,h3,h4,h5⟩;rw[ak (JO ec e (λz=>nomatch z))];exact ec
end
section
variable {X:Cx} {pins:List (Addr×Obj)} {σ:St} {H:Hp} {s:Shared} {a:Addr} {kvs:List (Key×V)} {k:Key} {u:Value} {A:Around} {E:Value->Shared->Prop}
theorem Kw(I:Inv X pins σ H s)(e:Rd H a (.dK kvs))(h:∀t s',Inv X pins σ H s'->Q (.int kvs.length t) s'):wpAny (model X.prog X.w) A (call (.builtin "len") [.ref a]) Q E s:=by
 obtain⟨z,hd,vs,rel,dd⟩:=oS I.hok e;refine call_len_dict hd dd (by rw[<-rel.length];rw[T7]at z;omega) ?_;rw[<-rel.length];exact h _ _ (I.tok _)
end
def Ky(i:Expr):Prop:=∀ov iv,subscripted i false ov iv=operate [ov,iv] (getItem ov iv)
theorem Cm{T id:String}
  (hl:typeLookup (.type T) "__getitem__" = pure (some (.builtin id))) (hs:Ky slice)
  (h:wpAny (model prog w) A (eval value env) (λo s₁=>wpAny (model prog w) A (eval slice env) (λi s₂=>s₂.TypeIs o T/\wpAny (model prog w) A (getItem o i) Q E s₂) E s₁) E s) :
  wpAny (model prog w) A (eval (.Subscript value slice pos) env) Q E s:=by
 refine Subscript_ (TY h (λo s₁ h₁=>TY h₁ (λi s₂ h₂=>?_) λ_ _ x=>x) λ_ _ x=>x);obtain⟨hT,h₂⟩:=h₂;unfold subscriptTail;refine S0 ?_;rw[getitemInPython_of_ne hT.not_modules];refine S0 (wpAny_specialOf hT hl ?_);have fin:wpAny (model prog w) A (subscripted slice false o i) (λr s₃=>wpAny (model prog w) A (letTemporaryGo value o r >>= λ_=>pure r) Q E s₃) E s₂:=by rw[hs o i];exact wpAny_operating (TY h₂ (λr s₃ h₃=>S0 (wpAny_letTemporaryGo (Th h₃))) λ_ _ x=>x)
 first
  |exact Th (S0 fin)
  |exact S0 (Th (S0 fin))
  |exact S0 fin
theorem lI(I:Inv X pins σ H s)(g:kO H a y o):s.TypeIs (.ref a) "dict":=by
 rcases g with ⟨kvs,k,e,_,_⟩|⟨kvs,k,b,e,_,_,_⟩
 ·obtain⟨_,_,vs,_,dd⟩:=oS I.hok e;exact dd.typeIs
 ·obtain⟨_,_,xs,_,dd⟩:=rU I.hok e;exact dd.typeIs
def rV(td ty:TE):TE:=λσ H Q=>td σ H λx H1=>ty σ H1 λy H2=>∃a v,x=.ref a/\kO H2 a y (some v)/\Q v H2
section
variable {X:Cx} {o i e value:Expr} {pos pos' tpos:Pos} {td ty tv:TE}
theorem vn(hu:X.A.units+1<cLine)(ho:PE X o td)(hi:PE X i ty)(hs:Ky i):PE X (.Subscript o i pos) (rV td ty):=by
 intro pins s σ H Q I h;refine Cm PySem.F.slot_dict_getitem.lookup hs (cy (ho pins s σ H _ I h) λu s1 ⟨x,H1,I1,rx,q1⟩=>cy (hi pins s1 σ H1 _ I1 q1) λiv s2 aE=>?_);obtain⟨y,H2,I2,ry,a,v,ex,g,q2⟩:=aE;subst ex;obtain rfl:u=Value.ref a:=rx;exact⟨lI I2 g,oV hu I2 g ry λw' s3 I3 rw'=>⟨v,H2,I3,rw',q2⟩⟩
end
theorem rW(h:Heap)(hb:sysModules<h.objs.size):bM P w H (h.push { cls:=.type "dict",data:=.dict #[] }) h.objs.size (.dK []) :=
 ⟨U5 _,T6.mpr (Ne.symm (Tp hb)),[],.nil,Heap.DictOf.new h⟩
def FP:TE:=λ_ H Q=>∀p,H p=none->Q (.ref p) (upd H p (.dK []))
section
variable {X:Cx} {pos:Pos}
theorem zp:PE X (.Dict [] [] pos) FP:=λpins s σ H Q I h=>
 wpAny_Dict_empty ⟨.ref s.heap.objs.size,_,I.laid (a:=s.heap.objs.size) (o:=.dK []) (t':=s.toks) (λ_ _ q=>SY _ q) (S4 _) (rW s.heap I.big),rfl,h _ (I.hok.fresh (S4 _))⟩
end
def uw:List (TE×TE)->St->Hp->(List (V×V)->Hp->Prop)->Prop
 |[],_,H,Q=>Q [] H
 |(tk,tv)::r,σ,H,Q=>tk σ H λx H1=>tv σ H1 λy H2=>uw r σ H2 λps H3=>Q ((x,y)::ps) H3
abbrev VV:List (V×V)->List (Value×Value)->Prop:=Paired λp q=>RelV p.1 q.1/\RelV p.2 q.2
def Nk(X:Cx)(pos:Pos)(keys:List (Option Expr))(values:List Expr)(FQ:List (TE×TE)):Prop :=
 ∀(pins:List (Addr×Obj)) (s:Shared) (σ:St) (H:Hp) (Q:List (V×V)->Hp->Prop),Inv X pins σ H s->uw FQ σ H Q ->
  wpAny (model X.prog X.w) X.A (evalPairs (pairTrees keys values X.env pos)) (λvs s'=>∃ps H',Inv X pins σ H' s'/\VV ps vs/\Q ps H') X.xe s
theorem Cn:Nk X pos [] [] []:=λpins s σ H Q I h=>pairTrees_nil_walk ⟨[],H,I,.nil,h⟩
theorem zq(hk:PE X k tk)(hv:PE X v tv)(hr:Nk X pos ks vs FQ) :
  Nk X pos (some k::ks) (v::vs) ((tk,tv)::FQ):=λpins s σ H Q I h=>
 pairTrees_cons_walk (cy (hk pins s σ H _ I h) λu s1 ⟨x,H1,I1,rx,q1⟩=>cy (hv pins s1 σ H1 _ I1 q1) λw2 s2 ⟨y,H2,I2,ry,q2⟩=>
  cy (hr pins s2 σ H2 _ I2 q2) λws s3 ⟨ps,H3,I3,rel,q3⟩=>⟨(x,y)::ps,H3,I3,.cons ⟨rx,ry⟩ rel,q3⟩)
def dI(kvs more:List (Key×V)):List (Key×V):=more.foldl (λacc kv=>putK acc kv.1 kv.2) kvs
theorem KV.merge:∀{more:List (Key×V)} {rs:List (Key×Value)} {kvs:List (Key×V)} {vs:List (Key×Value)},KV more rs->KV kvs vs->KV (dI kvs more) (merged vs rs):=by
 intro more rs kvs vs r;unfold KV at r
 induction r generalizing kvs vs with
 |nil=>intro q;exact q
 |@cons p q ps qs h t ih=>
  intro r0;have e:KV (putK kvs p.1 p.2) (stored vs q.1 q.2):=by have:=r0.put p.1 h.2;rw[<-h.1];exact this
  exact ih e
theorem gf:∀(more kvs:List (Key×V)),(dI kvs more).length<=kvs.length+more.length
 |[],kvs=>by show kvs.length<=kvs.length+0;omega
 | p::r,kvs=>by
  have h1:=gf r (putK kvs p.1 p.2);have h2:=iK kvs p.1 p.2;show (dI (putK kvs p.1 p.2) r).length<=_;rw[TM];omega
theorem mO:∀{kvs:List (Key×V)} {ws:List (Value×Value)},VV (kvs.map λkv=>(kV kv.1,kv.2)) ws->∃rs,Carries (aG P w) ws rs/\KV kvs rs
 |[],_,r=>by rw[UC]at r;cases r;exact⟨[],Ut,.nil⟩
 | p::kvs,_,r=>by
  rw[S5]at r;cases r with
  |@cons a b as bs h t=>obtain⟨rs,c,q⟩:=mO (P:=P) (w:=w) t;obtain⟨b1,b2⟩:=b;exact⟨(p.1,b2)::rs,⟨oQ h.1,rfl,c⟩,.cons ⟨rfl,h.2⟩ q⟩
def Kz(FQ:List (TE×TE)):TE:=λσ H Q=>∀p,H p=none->uw FQ σ (upd H p (.dK [])) λps H2=>H2 p=some (.dK [])/\∃kvs:List (Key×V),ps=kvs.map (λkv=>(kV kv.1,kv.2))/\kvs.length<=15/\Q (.ref p) (upd H2 p (.dK (dI [] kvs)))
theorem Co(h:Nk X pos keys values FQ)(hall:keys.all (·.isSome)=true)(hl:keys.length=values.length)(h0:keys≠[])
  (QW:keys.length<=15):PE X (.Dict keys values pos) (Kz FQ):=by
 intro pins s σ H Q I q;have hn:=I.hok.fresh (S4 s.heap.objs.size);have I1:=I.laid (a:=s.heap.objs.size) (o:=.dK []) (h':=s.heap.push { cls:=.type "dict",data:=.dict #[] }) (t':=s.toks) (λ_ _ q=>SY _ q) (S4 _) (rW s.heap I.big);refine wpAny_Dict_walk (knd:=aG X.prog X.w) hall hl h0 QW (cy (h pins _ σ _ _ I1 (q _ hn)) λws s2 aE=>?_);obtain⟨ps,H2,I2,rel,e,kvs,ep,lk,q2⟩:=aE;subst ep;obtain⟨rs,c,rk⟩:=mO (P:=X.prog) (w:=X.w) rel;obtain⟨z,hd,Sz,r0,dd⟩:=oU I2.hok e;cases r0;refine⟨rs,c,dd,λh' FO hs=>⟨.ref s.heap.objs.size,_,?_,rfl,q2⟩⟩;have hz:(dI [] kvs).length<=sizeLine:=by have h1:=gf kvs [];rw[length_nil]at h1;rw[T7];omega
 have he:∃q,h'.get? s.heap.objs.size=some q:=let ⟨q,_,_,hq,_⟩:=FO;⟨q,hq⟩
 exact qm I2 (by rw[e];exact Ut) hs he (uv hz hd (rk.merge .nil) FO)
structure M2 (X:Cx) (o:Expr) (m:Str) (apos:Pos) (e f:Expr) (cpos:Pos):Prop where
 base:attributeBase o m X.env (eval o X.env)=eval o X.env
 few:((backTo cpos (starEach [e,f] X.env)).all (λx=>!x.1)&&(backToKw cpos (keywordEach [] X.env)).all (λx=>x.1.isSome)
  && decide (([e,f]:List Expr).length+([]:List Keyword).length+(if ([]:List Keyword).isEmpty then 0 else 1)<30))=true
 line:(apos.endLine==cpos.line)=true
 trees:backTo cpos (starEach [e,f] X.env)=[(false,eval e X.env),(false,eval f X.env)]
def PF(H:Hp)(a:Addr):Prop:=(∃kvs,Rd H a (.dK kvs))\/∃kvs,Rd H a (.dT kvs)
theorem qo(I:Inv X pins σ H s)(d:PF H a) :
  s.TypeIs (.ref a) "dict" /\ (∀b,Value.ref a=.ref b->∃ob,s.heap.get? b=some ob/\ob.dict=none)/\(a==sysModules)=false:=by
 rcases d with ⟨kvs,e⟩|⟨kvs,e⟩
 ·obtain⟨_,hd,vs,_,dd⟩:=oS I.hok e;refine⟨dd.typeIs,λb q=>?_,hd⟩;cases q;obtain⟨ob,_,_,h1,h2,_⟩:=dd;exact⟨ob,h1,h2.2.1⟩
 ·obtain⟨_,hd,xs,_,dd⟩:=rU I.hok e;refine⟨dd.typeIs,λb q=>?_,hd⟩;cases q;obtain⟨ob,_,_,h1,h2,_⟩:=dd;exact⟨ob,h1,h2.2.1⟩
section
variable {X:Cx} {pins:List (Addr×Obj)} {σ:St} {H:Hp} {s:Shared} {a:Addr} {y d:V} {u r:Value} {o:Option V} {A:Around} {E:Value->Shared->Prop}
theorem FT(hu:A.units+1<cLine)(I:Inv X pins σ H s)(g:kO H a y o)(ry:RelV y u)(rd:RelV d r)(h:∀w' s',Inv X pins σ H s'->RelV (o.getD d) w'->Q w' s') :
  wpAny (model X.prog X.w) A (call (.builtin "dict.get") [.ref a,u,r]) Q E s:=by
 rcases g with ⟨kvs,k,e,ey,l⟩|⟨kvs,k,b,e,ey,eb,l⟩
 ·subst ey;obtain⟨z,hd,vs,rel,dd⟩:=oS I.hok e;refine Vq UX dd.typeIs PySem.F.entry_dict_get (PySem.F.args_dict_get_3 _ _ _) (meets_dict_get_default (aG X.prog X.w) a (oQ ry) hd r) ⟨_,dd.mapOf,h _ _ (I.tok _) ?_⟩;rw[l];exact(rel.val k).getD rd
 ·subst ey;cases (show u=Value.ref b from ry);obtain⟨z,hd,xs,rel,dd⟩:=rU I.hok e;refine Vq UX dd.typeIs PySem.F.entry_dict_get (PySem.F.args_dict_get_3 _ _ _) (meetsH_dict_get_default (tupleKind (aG X.prog X.w)) a b hd r) ⟨Ve hu,k,xs,ql I.hok eb,dd,h _ _ (I.tok _) ?_⟩;rw[l];exact(rel.val k).getD rd
end
def FU(td ty tx:TE):TE:=λσ H Q=>td σ H λx H1=>∃a,x=.ref a/\PF H1 a/\ty σ H1 λy H2=>tx σ H2 λz H3=>∃o,kO H3 a y o/\Q (o.getD z) H3
section
variable {X:Cx} {o e f:Expr} {apos cpos:Pos} {td ty tx:TE}
theorem zu(hu:X.A.units+1<cLine)(ho:PE X o td)(he:PE X e ty)(hf:PE X f tx)(m:M2 X o "get" apos e f cpos):PE X (.Call (.Attribute o "get" apos) [e,f] [] cpos) (FU td ty tx):=by
 intro pins s σ H Q I h;refine wpAny_Call_method m.base m.few m.line UO UX PySem.F.type_dict_get (cy (ho pins s σ H _ I h) λu s1 aE=>?_);obtain⟨x,H1,I1,rx,a,ex,d,q1⟩:=aE;subst ex;obtain rfl:u=Value.ref a:=rx;obtain⟨t1,t2,_⟩:=qo I1 d;refine⟨t1,t2,?_⟩;rw[m.trees];refine Uw rfl (Calls.evalArgs_plain (Uc (cy (he pins s1 σ H1 _ I1 q1) λiv s2 ⟨y,H2,I2,ry,q2⟩=>
  Uc (cy (hf pins s2 σ H2 _ I2 q2) λfv s3 ⟨z,H3,I3,rz,ov,g,q3⟩=>Us ?_))))
 exact FT hu I3 g ry rz λw' s4 I4 rw'=>⟨_,H3,I4,rw',q3⟩
end
end L2
namespace PJ
open PySem PySem.W PySem.Calls PyProof.Rows
theorem lY:∀(ns:List Int) (vs:List Value),WellAll P h vs (ns.map WData.int)->IntsAre vs ns:=by
 intro ns
 induction ns with
 |nil=>intro vs w;rw[UC]at w;cases w;exact .nil
 |cons n ns ih=>
  intro vs w;rw[S5]at w;cases w with
  |cons a b=>cases a;exact .cons _ _ (ih _ b)
theorem xP{l:OpenLaw}{n:Nat}(hn:l.most=some n){P:Params}{h:Heap}{args:List WData}{vals:List Value}
  (hpre:l.row.toRowW.claim.pre args=true) (hwl:WellAll P h vals args) :
  ∃a vs ns,vals=[Value.ref a]/\args=[WData.list (ns.map WData.int)]/\h.get? a=some { cls:=.type "list",data:=.seq vs.toArray }/\IntsAre vs ns/\ns.length<=n:=by
 have hsh:WShape.hasAll [] args [.list .int]=true:=(pre_splitW hpre).1;have hc:l.pre.holds [] { args:=args }=true:=(pre_splitW hpre).2;obtain⟨d,r,rfl,h1,h2⟩:=hasAllW_cons hsh;obtain rfl:=hasAllW_nil h2;obtain⟨xs,rfl,h3⟩:=hasW_list h1;obtain⟨ns,rfl⟩:=items_int h3;have hlen:ns.length<=n:=by
  unfold OpenLaw.pre at hc;have h4:(WTm.not (.lt (.lit (.int (n:Int))) (.len (.arg 0)))).holds [] { args:=[.list (ns.map .int)] }=true:=by have h4:=(holds_andW hc).1;rw[hn]at h4;exact h4
  have h5:=condW_of h4 (w_not (w_lt w_lit (w_len_list (w_arg rfl))));rw[S1]at h5;refine Nat.le_of_not_lt λq=>?_;have q':(n:Int)<((ns.length:Nat):Int):=by omega
  first
   |(rw[decide_eq_true q']at h5;exact absurd h5 (by decide))
   |(simp at h5;omega)
 cases hwl with
 |cons w1 w2=>
  cases w2;cases w1 with
  |list ho hall=>exact⟨_,_,ns,rfl,rfl,ho,lY ns _ hall,hlen⟩
theorem xQ(l:OpenLaw)(args:List WData):l.row.toRowW.claim.post args (.bool true) args=true :=
 postW_of (r:=l.row.toRowW) (X:=(true==true))
  (show WShape.has [] (.bool true) .bool=true by first|rfl|decide|simp[WShape.has,WShape.arms,WShape.armsAll])
  (show (WTm.eq .res (.lit (.bool true))).value [] { args:=args,res:=some (.bool true),after:=args }=some (.bool (true==true)) from w_eq_bool (w_res rfl) w_lit) rfl
theorem rX{l:OpenLaw}{n:Nat}{q:Program}{loose:List Str}{XP:(Str->Option Value)->Heap->Prop}{YP:World->Heap->Prop}{d:DefRec}
  (hn:l.most=some n) (hdf:d.params.defaults=[])
  (call:∀(w:World) (s₀ s₁:Shared) (mg mb:Str->Option Value) (fa:Addr) (o:Obj) (pm cd doc:Value) (a:Addr) (vs:List Value) (ns:List Int),
   Ground q loose [] XP w s₀ mg mb s₁.heap->YP w s₁.heap ->
   s₁.heap.get? fa=some o->o.data=.func (docDef d.name d.params d.body d.scope pm cd doc)->s₁.heap.CodeRec cd d.name->mg d.name=some (.ref fa) ->
   s₁.heap.get? a=some { cls:=.type "list",data:=.seq vs.toArray }->IntsAre vs ns->ns.length<=n->s₁.gens = #[] ->
   codeAny (model l.prog w) callerA (.call (.ref fa) ⟨[.ref a],[]⟩) (λr s'=>r=.ok (.ret (.bool true))/\OldK s₁.heap s'.heap/\s'.os=s₁.os/\AllBare s'.gens) s₁) :
  WalkO q loose XP YP l.row.toRowW d [] (λf vs=>PySem.call f vs):=by
 intro w s₀ s₁ mg mb G Y fa o pm cd doc dV kV ho hd hcd hD hmg hg args vals as hpre hlay hrd hwl hlo;obtain rfl:dV=.none:=Dflts.none hD hdf;obtain rfl:kV=.none:=Dflts.noKw hD;obtain⟨a,vs,ns,rfl,rfl,hobj,hints,hlen⟩:=xP hn hpre hwl;refine enter_call (Vo (call w s₀ s₁ mg mb fa o pm cd doc a vs ns G Y ho (fd_plain hd) hcd hmg hobj hints hlen hg) λr s' hq=>?_);obtain⟨rfl,h2,h3,h4⟩:=hq;exact⟨.inl ⟨.bool true,.bool true,[],rfl,λ_=>rfl,.bool true,xQ l _,λ_=>⟨List.Pairwise.nil,λ_ hm=>(nomatch hm)⟩⟩,h2,h3,h4⟩
end PJ
namespace L2
open PySem PySem.Spec PyProof.Rows
theorem gr:∀{vs:List Value} {ns:List Int},IntsAre vs ns->Vals (ns.map V.int) vs
 |_,_,.nil=>.nil
 |_,_,.cons n t h=>.cons ⟨t,rfl⟩ (gr h)
def zv(H:Hp):Prop:=∀b,H b=none\/∃o xs,H b=some (.jT o (.lst xs))
theorem zw{P:Program}{w:World}{K:Frag}{mg mb:Str->Option Value}{CX:xF}{k:Nat}{fa a:Addr}{fd:FuncData}{x:Str}{sp:Sp}{s₁:Shared}{vs:List Value}{ns:List Int}
  (KX:K.In s₁.heap) (hns:s₁.heap.Ns mainGlobals mg) (hb:s₁.heap.Ns builtinsNs mb) (QX:∀x:Str,x ≠ "__name__" -> mb x=bootBuiltins x) (hlim:s₁.heap.NoLimit) (hg:s₁.gens = #[])
  (ha:s₁.heap.get? a=some { cls:=.type "list",data:=.seq vs.toArray }) (hi:IntsAre vs ns) (hl:ns.length<=sizeLine) (hr:dH k callerA)
  (F:∀base:Heap,K.In base->base.Ns mainGlobals mg->fR P w K mg base CX k fa fd [x] sp) (hbind:∀(s:Shared) (u:Value),BindsTo s fd ⟨[u],[]⟩ [(x,u)])
  (hsp:∀H:Hp,zv H->fu K H a (ns.map V.int)->sp [.ref a] H (λv _=>v=.bl true) λ_ _ _=>False)
  (hCX:∀H e s',CX [] H s₁ (λ_ _ _=>False) e s'->False) :
  codeAny (model P w) callerA (.call (.ref fa) ⟨[.ref a],[]⟩) (λr s'=>r=.ok (.ret (.bool true))/\OldK s₁.heap s'.heap/\s'.os=s₁.os/\AllBare s'.gens) s₁:=by
 have rv:=gr hi;have N9:=hi.length;have core:∀H:Hp,zv H->fu K H a (ns.map V.int)->jV P w H s₁.heap->(∀b,H b≠none->b=a)->(H a≠none->K.lookup a=none) ->
   codeAny (model P w) callerA (.call (.ref fa) ⟨[.ref a],[]⟩) (λr s'=>r=.ok (.ret (.bool true))/\OldK s₁.heap s'.heap/\s'.os=s₁.os/\AllBare s'.gens) s₁:=by
  intro H hO hS hok hA hK;have base_of:∀{b:Addr} {o:Obj},s₁.heap.get? b=some o->H b=none->(p9 s₁.heap H).get? b=some o:=λe n=>yS e n;have noA:∀{b:Addr} {o:Obj} {es:Array DictEntry} {ep:Nat},s₁.heap.get? b=some o->o.data=.dict es ep->H b=none:=λ{b o es ep} e d=>by
   cases q:H b with
   |none=>rfl
   |some u=>have e':b=a:=hA b (by rw[q];simp);subst e';rw[ha]at e;cases e;have d':Data.seq vs.toArray _=Data.dict es ep:=d;cases d'
  have nsK:∀{b:Addr} {m:Str->Option Value},s₁.heap.Ns b m->(p9 s₁.heap H).Ns b m:=λ{b m} ⟨o,es,ep,e,d,r⟩=>⟨o,es,ep,base_of e (noA e d),d,r⟩;have PK:K.In (p9 s₁.heap H):=λb o e=>base_of (KX b o e) (by
   cases q:H b with
   |none=>rfl
   |some u=>have e':b=a:=hA b (by rw[q];simp);subst e';rw[hK (by rw[q];simp)]at e;cases e)
  have hM:Mod K mg (p9 s₁.heap H):=⟨PK,nsK hns,⟨mb,nsK hb,QX⟩,let ⟨mc,h1,h2⟩:=hlim;⟨mc,nsK h1,h2⟩⟩;have e0:um P w K mg (p9 s₁.heap H) callerA [] s₁ H:=⟨rfl,hM,λb o e=>BQ e,Nat.le_of_eq (xr _ _),trivial,λb hb=>absurd (show b∈([]:List Addr) from hb) (by simp),hok,.of_eq hg⟩;refine Vo ((F _ PK (nsK hns)).run callerA [] s₁ H ⟨[.ref a],[]⟩ [.ref a] [.ref a] _ _ hr e0 (hbind s₁ (.ref a)) #[rfl] (hsp H hO hS)) λr s' h=>?_;cases r with
  |error e=>exact(hCX H e s' h).elim
  |ok fl=>
   cases fl with
   |next=>exact False.elim h
   |brk=>exact False.elim h
   |cont=>exact False.elim h
   |ret u=>
    obtain⟨v,H',os,bare,un,Oa,r',q⟩:=h;have q':v=.bl true:=q;subst q';obtain rfl:u=Value.bool true:=r';refine⟨rfl,OldK.of_keep λb o e=>?_,os,bare⟩;cases q:H b with
    |none=>exact un.keep b o e q (by intro z;exact absurd (show b∈([]:List Addr) from z) (by simp)) (by simp)
    |some u=>
     rcases hO b with z|⟨ob,xs,z⟩
     ·rw[q]at z;cases z
     ·have z2:=un.frzs b ob _ z;obtain⟨e1,_⟩:=hok b _ z;obtain⟨e2,_⟩:=Oa b _ z2;rw[e]at e1;cases e1;exact e2
 cases hk:K.lookup a with
 |some o=>have e:=KX a o hk;rw[ha]at e;cases e;refine core (λ_=>none) (λ_=>.inl rfl) (.inr ⟨_,vs.toArray,_,hk,rfl,rfl,rfl,by rw[Tc,N9];exact hl,by simpa using rv⟩) (λb u z=>by have z':(none:Option HO)=some u:=z;cases z') (λb z=>absurd rfl z) λz=>absurd rfl z
 |none=>
  refine core (λb=>if b=a then some (.jT { cls:=.type "list",data:=.seq vs.toArray } (.lst (ns.map V.int))) else none) (λb=>?_) (.inl (.inr ⟨{ cls:=.type "list",data:=.seq vs.toArray },S7 rfl⟩)) (λb u z=>?_) (λb z=>?_) λ_=>hk
  ·by_cases hb:b=a
   ·exact .inr ⟨_,_,S7 hb⟩
   ·exact .inl (S8 hb)
  ·by_cases hb:b=a
   ·have z':=(S7 hb).symm.trans z;cases z';subst hb;exact⟨ha,by rw[S1];exact hl,vs,_,rv,ha⟩
   ·have z':=(S8 hb).symm.trans z;cases z'
  ·by_cases hb:b=a
   ·exact hb
   ·exact absurd (S8 hb) z
theorem Cp{l:PySem.W.OpenLaw}{n k:Nat}{q:Program}{loose:List Str}{XP:(Str->Option Value)->Heap->Prop}{YP:World->Heap->Prop}{d:DefRec}{K:Params->Frag}{CX:World->xF}{sp:World->Sp}{x:Str}
  (hn:l.most=some n) (hn2:n<=sizeLine) (hdf:d.params.defaults=[]) (hr:dH k callerA)
  (hY:∀(w:World) (h:Heap),YP w h->(K w.params).In h)
  (F:∀(w:World) (mg:Str->Option Value) (fa:Addr) (h:Heap),(K w.params).In h->h.Ns mainGlobals mg->mg d.name=some (.ref fa) ->
   ∃fd:FuncData,(∀(s:Shared) (u:Value),BindsTo s fd ⟨[u],[]⟩ [(x,u)]) /\
    ∀base:Heap,(K w.params).In base->base.Ns mainGlobals mg->fR l.prog w (K w.params) mg base (CX w) k fa fd [x] (sp w))
  (hsp:∀(w:World) (H:Hp) (a:Addr) (ns:List Int),ns.length<=n->zv H->fu (K w.params) H a (ns.map V.int)->sp w [.ref a] H (λv _=>v=.bl true) λ_ _ _=>False)
  (hCX:∀(w:World) (H:Hp) (s:Shared) (e:Value) (s':Shared),CX w [] H s (λ_ _ _=>False) e s'->False) :
  PySem.W.WalkO q loose XP YP l.row.toRowW d [] (λf vs=>PySem.call f vs):=by
 refine PJ.rX hn hdf λw s₀ s₁ mg mb fa o pm cd doc a vs ns G Y ho hd hcd hmg hobj hints hlen hg=>?_;have KX:=hY w _ Y;obtain⟨fd,hb,hF⟩:=F w mg fa _ KX G.T.g hmg;exact zw KX G.T.g G.T.b G.T.builtins G.T.nolimit hg hobj hints (Tt hlen hn2) hr hF hb (λH hO hS=>hsp w H a ns hlen hO hS) λH e s'=>hCX w H s₁ e s'
def j0(s:Stmt):Arguments:=match s with
 |.FunctionDef _ a _ _ _ _ _ _ _ _=>a
 |_=>{ posonlyargs:=[],args:=[],vararg:=none,kwonlyargs:=[],kw_defaults:=[],kwarg:=none,defaults:=[] }
def aJ(s:Stmt):List Stmt:=match s with
 |.FunctionDef _ _ b _ _ _ _ _ _ _=>b
 |_=>[]
def ah(s:Stmt):Scope:=match s with
 |.FunctionDef _ _ _ _ _ _ sc _ _ _=>sc
 |_=>{ kind:=.function,names:=[],isGenerator:=false,isCoroutine:=false }
abbrev zx:xF:=λ_ _ _ _ _ _=>False
abbrev E0:XK:=λ_ _ _=>False
theorem vo:Passes zx X E0:=λ_ _ _ _ _ _ _ h=>h.elim
structure Ec (K:Frag) (x qual:Str) (st:Stmt) (f:Addr) (fd:FuncData):Prop where
 ex:∃(oc:Value) (od:Option Addr) (kV doc pm:Value) (an:Option Addr) (cdv ct:Value) (osl:Array (Option Value)),
  fd=fnOf x qual (j0 st) (aJ st) (ah st) .none kV doc pm an cdv ct/\K.lookup f=some ⟨oc,od,.func fd,osl⟩/\codeIn K cdv qual=true
 kp:keepIn K (.ref f)=true
section
variable {P:Program} {w:World} {K:Frag} {mg:Str->Option Value} {base:Heap}
theorem Ec.ok{x qual:Str}{st:Stmt}{f:Addr}{fd:FuncData}{N ps:List Str}{k:Nat}{sp:Sp}(F:Ec K x qual st f fd)(S:mh N ps (ah st))(len:∀vs H Q E,sp vs H Q E->vs.length=ps.length)
  (hbody:∀(cdv:Value) (A:Around) (outer:List Env) (s:Shared) (H:Hp) (vs:List V) (Q:VK) (E:XK),dH k (A.deeper (envOfC qual (ah st) s.heap.objs.size f cdv))->sp vs H Q E ->
   ∃t,t9 (uo zx P w K mg base N qual (ah st) f cdv A outer s H E).J1 (aJ st) t/\t { nx:=λ_ H'=>Q .non H',rt:=Q } (start N vs) H):fR P w K mg base zx (k+1) f fd ps sp:=by
 obtain⟨oc,od,kV,doc,pm,an,cdv,ct,osl,rfl,lk,hcd⟩:=F.ex;refine Ko lk hcd S len λA outer s H vs Q E hr hsp=>?_;obtain⟨t,h,q⟩:=hbody cdv A outer s H vs Q E hr hsp;exact⟨t,h.J1,q⟩
theorem Ec.binds{x qual:Str}{st:Stmt}{f:Addr}{fd:FuncData}{ps:List Str}(F:Ec K x qual st f fd)
  (h:∀(kV doc pm:Value) (an:Option Addr) (cdv ct:Value) (us:List Value),us.length=ps.length->bindArgs (fnOf x qual (j0 st) (aJ st) (ah st) .none kV doc pm an cdv ct) ⟨us,[]⟩=pure (ps.zip us)):Binds K fd ps []:=by
 obtain⟨oc,od,kV,doc,pm,an,cdv,ct,osl,rfl,lk,hcd⟩:=F.ex;exact .all (h kV doc pm an cdv ct)
theorem fun_mk{x qual:Str}{st:Stmt}{f:Addr}{oc:Value}{od an:Option Addr}{osl:Array (Option Value)}{kV doc pm cdv ct:Value}(l:K.lookup f=some ⟨oc,od,.func (fnOf x qual (j0 st) (aJ st) (ah st) .none kV doc pm an cdv ct),osl⟩)
  (c:codeIn K cdv qual=true) (k:keepIn K (.ref f)=true):Ec K x qual st f (fnOf x qual (j0 st) (aJ st) (ah st) .none kV doc pm an cdv ct):=⟨⟨oc,od,kV,doc,pm,an,cdv,ct,osl,rfl,l,c⟩,k⟩
end
section
variable {X:Cx}
theorem pv(i:Nat)(hN:X.N[i]?=some x)(hv:JQ X.env.scope x)(hd:(x==("__debug__":Str))=false)
  (hcd:(x==("__classdict__":Str))=false):PE X (.Name x pos) (kL i):=qb hN hv hd hcd
theorem xR:b8 X (.builtin "len") (λxs H Q=>∃a kvs,xs=[V.ref a]/\H a=some (.dK kvs)/\Q (.int kvs.length) H):=by
 intro pins s σ H xs us Q I r h;obtain⟨a,kvs,rfl,ha,q⟩:=h;obtain⟨u,rfl,ru⟩:=vals1 r;cases ru;exact Kw I (.inl ha) λt s' I'=>⟨.int kvs.length,H,I',⟨t,rfl⟩,q⟩
end
def ux(H H':Hp):Prop:=∀b o,H b=some o->H' b=some o
theorem ux.seq{K:Frag}{H H':Hp}{a:Addr}{xs:List V}(e:ux H H')(h:fu K H a xs):fu K H' a xs:=by
 rcases h with (h|⟨o,h⟩)|h
 ·exact .inl (.inl (e _ _ h))
 ·exact .inl (.inr ⟨o,e _ _ h⟩)
 ·exact .inr h
theorem jC(env:Env):∀(names:List (Str×NameKind)) (acc:List (Str×Addr)),(∀y∈names,y.2=.free->∃c,env.cells.lookup y.1=some c) ->
  (∀x c,acc.lookup x=some c->env.cells.lookup x=some c) ->
  ∃cl,(forIn names acc λx r=>if (x.snd==NameKind.free)=true then do let c <-cellOf env x.fst;pure (ForInStep.yield ((x.fst,c)::r)) else pure (ForInStep.yield r))=(pure cl:Sem (List (Str×Addr))) /\
   (∀x c,cl.lookup x=some c->env.cells.lookup x=some c)/\∀x,((x,NameKind.free)∈names\/∃c,acc.lookup x=some c)->∃c,cl.lookup x=some c
 |[],acc,_,ha=>⟨acc,rfl,ha,λx h=>h.elim (λz=>nomatch z) λz=>z⟩
 | (n,k)::r,acc,hn,ha=>by
  have hr:∀y∈r,y.2=NameKind.free->∃c,env.cells.lookup y.1=some c:=λy hy=>hn y (S2 _ hy)
  by_cases hk:k=.free
  ·subst hk
   obtain⟨c,hc⟩:=hn (n,.free) S3 rfl;have ha':∀x d,((n,c)::acc).lookup x=some d->env.cells.lookup x=some d:=λx d h=>by
    rw[lookup_cons]at h;cases e:x==n with
    |true=>rw[e]at h;have e':x=n:=eq_of_beq e;cases h;rw[e'];exact hc
    |false=>rw[e]at h;exact ha x d h
   obtain⟨cl,e1,e2,e3⟩:=jC env r ((n,c)::acc) hr ha';refine⟨cl,?_,e2,λx h=>?_⟩
   ·rw[List.forIn_cons]
    have hco:cellOf env n=pure c:=by unfold cellOf;rw[hc]
    simp only[beq_self_eq_true,if_true,hco];exact e1
   ·by_cases hx:x=n
    ·subst hx;exact e3 x (.inr ⟨c,by simp[lookup_cons]⟩)
    ·rcases h with h|⟨d,h⟩
     ·rcases Td.mp h with z|z
      ·exact absurd (TR Prod.fst z) hx
      ·exact e3 x (.inl z)
     ·refine e3 x (.inr ⟨d,?_⟩);rw[lookup_cons];have:(x==n)=false:=T6.mpr hx;rw[this];exact h
  ·have hb:(k==NameKind.free)=false:=T6.mpr hk
   obtain⟨cl,e1,e2,e3⟩:=jC env r acc hr ha;refine⟨cl,?_,e2,λx h=>e3 x ?_⟩
   ·rw[List.forIn_cons];simp only[hb,false_eq_true,if_false];exact e1
   ·rcases h with h|h
    ·rcases Td.mp h with z|z
     ·cases z;exact absurd rfl hk
     ·exact .inl z
    ·exact .inr h
theorem mP(h:∀y∈scope.names,y.2=.free->∃c,env.cells.lookup y.1=some c) :
  ∃cl,closureFor scope env=pure cl/\(∀x c,cl.lookup x=some c->env.cells.lookup x=some c)/\∀x,(x,NameKind.free)∈scope.names->∃c,cl.lookup x=some c:=by
 obtain⟨cl,e1,e2,e3⟩:=jC env scope.names [] h (λx c z=>by simp at z);refine⟨cl,?_,e2,λx hx=>e3 x (.inl hx)⟩;unfold closureFor;simp only[bind_pure];exact e1
def bA(X:Cx)(scope:Scope)(N':List Str)(cl:List (Str×Addr))(C:Addr)(s:Shared)(H:Hp)(fp:List Addr):Cx :=
 { prog:=X.prog,w:=X.w,K:=X.K,mg:=X.mg,base:=X.base,A:=X.A,N:=N',s₀:=s,H₀:=H,env:=compEnvC scope cl C X.env,outer:=X.stack,stack:=X.stack,ex:=fp,fn:=λ_=>false,calm:=X.calm,pn:=[],xe:=λ_ _=>False }
def dJ(js:List (Option Nat))(σ:St):St:=js.map λo=>match o with
 |none=>none
 | some j=>match σ[j]? with
  |some (some v)=>some v
  |_=>none
def qt(sc:Scope)(x:Str):Bool:=sc.names.lookup x==some .cell||sc.names.lookup x==some .free
def fX(XN:List Str)(xsc scope:Scope)(N':List Str)(js:List (Option Nat)):Bool :=
 scope.kind==.function&&(scope.names.all λy=>y.2 != .local||scope.names.lookup y.1==some .local)&&(scope.names.all λy=>y.2 != .cell) &&
 (scope.names.all λy=>y.2 != .free||(qt xsc y.1&&scope.names.lookup y.1==some .free))&&js.length==N'.length &&
 ((N'.zip js).all λp=>match p.2 with|none=>true|some j=>XN[j]?==some p.1&&scope.names.lookup p.1==some .free)
structure qu (X:Cx) (scope:Scope) (N':List Str) (js:List (Option Nat)):Prop where
 kind:scope.kind=.function
 names:∀y∈scope.names,y.2=.local->scope.names.lookup y.1=some .local
 zy:∀y∈scope.names,y.2≠.cell
 free:∀y∈scope.names,y.2=.free->qt X.env.scope y.1=true/\scope.names.lookup y.1=some .free
 len:js.length=N'.length
 src:∀(i:Nat) (x:Str) (j:Nat),N'[i]?=some x->js[i]?=some (some j)->X.N[j]?=some x/\scope.names.lookup x=some .free
theorem oW(h:fX X.N X.env.scope scope N' js=true):qu X scope N' js:=by
 unfold fX at h;simp only[and_eq_true,all_eq_true]at h;obtain⟨⟨⟨⟨⟨h1,h2⟩,h3⟩,h4⟩,h5⟩,h6⟩:=h;refine⟨eq_of_beq h1,λy hy e=>?_,λy hy e=>?_,λy hy e=>?_,eq_of_beq h5,λi x j e1 e2=>?_⟩
 ·have:=h2 y hy;rw[e]at this;simpa using this
 ·have:=h3 y hy;rw[e]at this;simp at this
 ·have:=h4 y hy;rw[e]at this;simpa using this
 ·have hm:(x,some j)∈N'.zip js:=by
   refine UY.mpr ⟨i,?_⟩;rw[UE];exact⟨e1,e2⟩
  have:=h6 _ hm;simpa using this
theorem gg(js:List (Option Nat))(σ:St):(dJ js σ).length=js.length:=by unfold dJ;rw[S1]
def Cq(X:Cx)(ifs:List Expr)(t:TT):Prop :=
 ∀(pins:List (Addr×Obj)) (s:Shared) (σ:St) (H:Hp) (Q:Bool->Hp->Prop),Inv X pins σ H s->t σ H Q ->
  wpAny (model X.prog X.w) X.A (forIn ifs true λc r=>if r=true then do let ok <-isTrue c X.env (eval c X.env);pure (ForInStep.yield ok) else pure (ForInStep.yield r)) (TP X pins σ Q) X.xe s
def mQ:TT:=λ_ H Q=>Q true H
theorem vp:Cq X [] mQ:=λ_ _ _ H _ I h=>wpAny_tests_nil ⟨H,I,h⟩
theorem Cr(h:PT X c t):Cq X [c] t:=λpins s σ H Q I hw=>wpAny_tests_one (h pins s σ H Q I hw)
def vq(wi:TI)(js:List (Option Nat))(g:TG)(tt:TT)(te:TE):TE:=λσ H Q=>wi σ H λJ H1=>∀D,H1 D=none->∃W:Nat->Nat->St->Hp->Prop,(∃m,W 0 m (dJ js σ) (upd H1 D (.lst []))) /\
 ∀i m σ' H,W i m σ' H->(J.stop i H/\Q (.ref D) H)\/(J.go i H/\∃N:St->Hp->Prop,(∀xS H',N xS H'->∃m',m'<m/\W (i+1) m' xS H') /\
  ∀x H',J.ua i H x H'->g x σ' H' λσ2 H2=>tt σ2 H2 λb H3=>if b=true then te σ2 H3 λy H4=>∃ys,H4 D=some (.lst ys)/\ys.length<sizeLine/\N σ2 (upd H4 D (.lst (ys++[y]))) else N σ2 H3)
theorem oh(hc:∀y∈scope.names,y.2≠.cell)
  (h:(relabel scope env).names.lookup x=some .cell\/(relabel scope env).names.lookup x=some .free):(x,NameKind.free)∈scope.names:=by
 unfold relabel at h;simp only at h;generalize scope.names=ns at hc h
 induction ns with
 |nil=>simp at h
 |cons p r ih=>
  obtain⟨n,k⟩:=p;have hc':∀y∈r,y.2≠.cell:=λy hy=>hc y (S2 _ hy);simp only[map_cons]at h;cases hx:x==n with
  |true=>
   have e':x=n:=eq_of_beq hx;subst e'
   by_cases hk:k=.free
   ·subst hk;exact S3
   ·have hk2:=hc (x,k) S3
    have hb:(k==NameKind.free)=false:=T6.mpr hk;rw[hb]at h;simp only[Bool.false_and,false_eq_true,if_false,lookup_cons,beq_self_eq_true]at h
    rcases h with h|h
    ·exact absurd (Tn h) hk2
    ·exact absurd (Tn h) hk
  |false=>
   refine S2 _ (ih hc' ?_)
   by_cases hk:(k==NameKind.free&&env.scope.kind==.function&&env.kindOf n==some .cell)=true
   ·rw[S7 hk]at h;simp only[lookup_cons,hx]at h;exact h
   ·rw[S8 hk]at h;simp only[lookup_cons,hx]at h;exact h
theorem qv(h:scope.names.lookup x=some .free) :
  (relabel scope env).names.lookup x=some .cell\/(relabel scope env).names.lookup x=some .free:=by
 unfold relabel;simp only;generalize scope.names=ns at h
 induction ns with
 |nil=>simp at h
 |cons p r ih=>
  obtain⟨n,k⟩:=p;simp only[map_cons];cases hx:x==n with
  |true=>
   simp only[lookup_cons,hx]at h;have hk:=Tn h;subst hk
   by_cases hk:(NameKind.free==NameKind.free&&env.scope.kind==.function&&env.kindOf n==some .cell)=true
   ·rw[S7 hk];simp[lookup_cons,hx]
   ·rw[S8 hk];simp[lookup_cons,hx]
  |false=>
   simp only[lookup_cons,hx]at h
   by_cases hk:(k==NameKind.free&&env.scope.kind==.function&&env.kindOf n==some .cell)=true
   ·rw[S7 hk];simp only[lookup_cons,hx];exact ih h
   ·rw[S8 hk];simp only[lookup_cons,hx];exact ih h
section
variable {X:Cx} {pins:List (Addr×Obj)} {σ:St} {scope:Scope} {N':List Str} {js:List (Option Nat)}
theorem mT(ok:qu X scope N' js)(xo:X.Ok):∀y∈scope.names,y.2=.free->∃c,X.env.cells.lookup y.1=some c:=λy hy e=>by
 have:=(ok.free y hy e).1;unfold qt at this;rw[Vs]at this;refine xo.has y.1 ?_
 rcases this with z|z
 ·exact .inl (eq_of_beq z)
 ·exact .inr (eq_of_beq z)
theorem uy{tk:Nat}(ok:qu X scope N' js)(I:Inv X pins σ H s)
  (hcl1:∀x c,cl.lookup x=some c->X.env.cells.lookup x=some c) (hcl2:∀x,(x,NameKind.free)∈scope.names->∃c,cl.lookup x=some c)
  (hfp:∀b∈fp,lX X pins H b) (hlt:∀b∈fp,b<s.heap.objs.size)
  (hns:h'.Ns s.heap.objs.size (λ_=>none)) (hk:∀b o,s.heap.get? b=some o->h'.get? b=some o) :
  Inv (bA X scope N' cl s.heap.objs.size s H fp) [] (dJ js σ) H { s with heap:=h',toks:=tk }:=by
 have cellK:∀x c,cl.lookup x=some c->∃v,s.heap.IsCell c v:=λx c e=>I.cell x c (hcl1 x c e);have hCf:H s.heap.objs.size=none:=I.hok.fresh (S4 _);refine⟨⟨I.ok.mod,ok.kind,I.ok.glob,I.ok.blt,S4 _,λx y c e1 e2=>I.ok.inj x y c (hcl1 x c e1) (hcl1 y c e2),λx hx=>hcl2 x (oh ok.zy hx),λx c hf _=>absurd hf (by intro z;cases z),I.ok.hd,I.ok.frames,.inl rfl,
   λb hb=>⟨Tp (hlt b hb),λx c e z=>?_⟩,I.bs,Tt I.ok.D6 I.sz,λb o e hb=>?_,λb hb hs=>?_,I.stack,I.u6⟩,rfl,I.bare,Un.kept hk,⟨_,hns,λi x v e1 e2 e3=>?_⟩,λx c e=>?_,hCf,λx c e=>I.gp x c (hcl1 x c e),
   λp hp=>absurd (show p∈([]:List (Addr×Obj)) from hp) (by simp),I.hok.kept hk,?_⟩
 ·exact(hfp b hb).2.2.2.2.1 x c (hcl1 x c e) z
 ·rcases(hfp b hb).2.2.2.1 with z|z
  ·exact I.ok.lV b o e z
  ·exact absurd (Te (S9 (I.ok.bs b o e).1) z) (Ud _)
 ·rcases Td.mp (I.t8 b hs) with z|z
  ·exact(hfp b hb).2.1 z
  ·exact(hfp b hb).2.2.1 z
 ·-- a name QY has a value: one of SA def around
  have BO:(dJ js σ)[i]?=some (some v):=e2;unfold dJ at BO;rw[Tq] at BO;cases hj:js[i]? with
  |none=>rw[hj] at BO;cases BO
  |some o=>
   rw[hj] at BO;cases o with
   |none=>simp at BO
   |some j=>
    obtain⟨hN,hf⟩:=ok.src i x j e1 hj;cases hs:σ[j]? with
    |none=>simp[hs] at BO
    |some ov=>
     cases ov with
     |none=>simp[hs] at BO
     |some v'=>
      simp[hs] at BO;subst BO;have hfr:=(ok.free (x,.free) (T9 hf) rfl).1;unfold qt at hfr;rw[Vs]at hfr;have KA:X.env.scope.names.lookup x=some .cell\/X.env.scope.names.lookup x=some .free:=hfr.imp eq_of_beq eq_of_beq;obtain⟨m,_,hl⟩:=I.loc;obtain⟨u,r,l⟩:=hl j x v' hN hs (.inr KA);refine⟨u,r,.inr ⟨qv hf,?_⟩⟩
      rcases l with ⟨k,_⟩|⟨_,c,e,z⟩
      ·have k':X.env.scope.names.lookup x=some .local:=k
       rcases KA with q|q<;>(rw[q]at k';cases k')
      ·obtain⟨d,hd⟩:=hcl2 x (T9 hf);have e':=hcl1 x d hd;rw[e]at e';cases e';obtain⟨oc,hoc,yU⟩:=z;exact⟨c,hd,oc,hk _ _ hoc,yU⟩
 ·obtain⟨v,oc,hoc,yU⟩:=cellK x c e;exact⟨v,oc,hk _ _ hoc,yU⟩
 ·rw[gg];exact ok.len
theorem xT(I:Inv X pins σ H s)(hfp:∀b∈fp,lX X pins H b)
  (J:Inv (bA X scope N' cl C s H fp) [] σ' H' s'):Inv X pins σ H' s' :=
 I.JV (ch:=fp) J.os J.base J.hok J.bare λb hb=>⟨(hfp b hb).2.2.2.1,(hfp b hb).2.1,(hfp b hb).2.2.2.2.1,(hfp b hb).2.2.2.2.2⟩
end
section
variable {X:Cx} {scope:Scope} {N':List Str} {js:List (Option Nat)} {tg elt iter:Expr} {ifs:List Expr} {pos:Pos} {wi:TI} {g:TG} {tt:TT} {te:TE}
theorem rY{pins:List (Addr×Obj)}{σ:St}{H2:Hp}{s2:Shared}{it:Addr}{fp:List Addr}{tn:Nat->Heap->Prop}{J:It}{cl:List (Str×Addr)}{E:Value->Shared->Prop}{RR:Value->Addr->Result->Shared->Prop}{Q:VK}
  (ok:qu X scope N' js) (hc:X.calm=true) (I2:Inv X pins σ H2 s2) (T:Turn X.prog X.w X.K tg J fp it tn) (st2:tn 0 s2.heap) (f2:∀b∈fp,lX X pins H2 b)
  (hcl1:∀x c,cl.lookup x=some c->X.env.cells.lookup x=some c) (hcl2:∀x,(x,NameKind.free)∈scope.names->∃c,cl.lookup x=some c)
  (hg:∀cl C s H fp,PG (bA X scope N' cl C s H fp) tg g) (ht:∀cl C s H fp,Cq (bA X scope N' cl C s H fp) ifs tt) (he:∀cl C s H fp,PE (bA X scope N' cl C s H fp) elt te)
  (rd:∀D,H2 D=none->∃W:Nat->Nat->St->Hp->Prop,(∃m,W 0 m (dJ js σ) (upd H2 D (.lst []))) /\
   ∀i m σ' H,W i m σ' H->(J.stop i H/\Q (.ref D) H)\/(J.go i H/\∃N:St->Hp->Prop,(∀xS H',N xS H'->∃m',m'<m/\W (i+1) m' xS H') /\
    ∀x H',J.ua i H x H'->g x σ' H' λσ2 H2=>tt σ2 H2 λb H3=>if b=true then te σ2 H3 λy H4=>∃ys,H4 D=some (.lst ys)/\ys.length<sizeLine/\N σ2 (upd H4 D (.lst (ys++[y]))) else N σ2 H3))
  (hRR:∀(D C:Addr) (s':Shared) (H':Hp) (m:Str->Option Value),s2.heap.objs.size<=C->Inv X pins σ H' s'->H' C=none->s'.heap.Ns C m->Q (.ref D) H'->RR (.ref D) C (.ok .next) s') :
  wpAny (model X.prog X.w) X.A (newList []) (λacc s₃=>wpAny (model X.prog X.w) X.A (newFunctionEnv scope X.env.globals cl [] X.env.qual none .none (some X.env)) (λcenv s₄=>
   codeAny (model X.prog X.w) X.A (.compStart (.ListComp elt [⟨tg,iter,ifs,0⟩] scope pos) 0 (.ref it) acc { cenv with scope:=relabel scope X.env }) (RR acc cenv.locals) s₄) E s₃) E s2:=by
 have hD:H2 s2.heap.objs.size=none:=I2.hok.fresh (S4 _);refine Uz (wpAny_newFunctionEnv ok.zy (by intro y hy;simp at hy) (λh₁ KC KD=>?_) ok.kind);dsimp only at KC KD |-;have I3:Inv X pins σ (upd H2 s2.heap.objs.size (.lst [])) { s2 with heap:=s2.heap.push { cls:=.type "list",dict:=none,data:=.seq ([]:List Value).toArray },toks:=s2.toks } :=
  I2.laid (t':=s2.toks) (λb u e=>SY _ e) (S4 _) ⟨by simp,[],0,.nil,To _ rfl⟩
 generalize KG:({ s2 with heap:=s2.heap.push { cls:=.type "list",dict:=none,data:=.seq ([]:List Value).toArray },toks:=s2.toks }:Shared)=s3 at I3;have hsz:s3.heap.objs.size=s2.heap.objs.size+1:=by rw[<-KG];exact Vd ..
 have eC:(s2.heap.push { cls:=.type "list",dict:=none,data:=.seq ([]:List Value).toArray }).objs.size=s3.heap.objs.size:=by rw[<-KG]
 have f3:∀b∈fp,lX X pins (upd H2 s2.heap.objs.size (.lst [])) b:=λb hb=>by
  obtain⟨o,e,_⟩:=T.obj _ _ st2 b hb;refine⟨?_,(f2 b hb).2⟩;rw[ak (Tp (S9 e))];exact(f2 b hb).1
 have hlt:∀b∈fp,b<s3.heap.objs.size:=λb hb=>by
  obtain⟨o,e,_⟩:=T.obj _ _ st2 b hb;have hb2:b<s2.heap.objs.size:=S9 e;rw[hsz];exact UA hb2
 have keep:∀b o,s3.heap.get? b=some o->h₁.get? b=some o:=λb o e=>by
  have e':(s2.heap.push { cls:=.type "list",dict:=none,data:=.seq ([]:List Value).toArray }).get? b=some o:=by rw[<-KG]at e;exact e
  exact KD.extBut b o (Tp (S9 e')) (SY _ e')
 have I4:=uy (tk:=s2.toks+([]:List (Str×Value)).length) ok I3 hcl1 hcl2 f3 hlt (h':=h₁) (by rw[<-eC];simpa using KC) keep;have PL:tn 0 h₁:=T.keep _ _ _ st2 λb hb o e=>keep b o (by rw[<-KG];exact SY _ e);obtain⟨W,⟨m0,w0⟩,turn⟩:=rd _ hD;have stat:∀{H':Hp},(∀b∈fp,H' b=none)->∀b∈fp,lX (bA X scope N' cl s3.heap.objs.size s3 (upd H2 s2.heap.objs.size (.lst [])) fp) [] H' b:=λ{H'} hn b hb=>
  ⟨hn b hb,Tp (hlt b hb),I4.ok.yT b hb,.inl hb,(I4.ok.NC b hb).2,λp hp=>absurd (show p∈([]:List (Addr×Obj)) from hp) (by simp)⟩
 have QZ:∀tk,({ s2 with heap:=h₁,toks:=tk }:Shared)={ s3 with heap:=h₁,toks:=tk }:=λtk=>by rw[<-KG]
 have loop:codeAny (model X.prog X.w) X.A (.compLoop (.ListComp elt [⟨tg,iter,ifs,0⟩] scope pos) 0 (.ref it) (.ref s2.heap.objs.size) (compEnvC scope cl s3.heap.objs.size X.env)) (RR (.ref s2.heap.objs.size) s3.heap.objs.size)
   { s3 with heap:=h₁,toks:=s2.toks+([]:List (Str×Value)).length }:=by
  refine codeAny_loop rfl (λn s'=>∃i σ' H',Inv (bA X scope N' cl s3.heap.objs.size s3 (upd H2 s2.heap.objs.size (.lst [])) fp) [] σ' H' s'/\tn i s'.heap/\(∀b∈fp,H' b=none)/\W i n σ' H') ?_ m0 ⟨0,_,_,I4,PL,λb hb=>(f3 b hb).1,w0⟩;rintro n s5 ⟨i,σ5,H5,I5,JF,Nf,w5⟩;show wpAny _ X.A ((compTurn (.ListComp elt [⟨tg,iter,ifs,0⟩] scope pos) 0 (.ref it) (.ref s2.heap.objs.size) (compEnvC scope cl s3.heap.objs.size X.env)).onRaise (λx=>do noteFrame x (compEnvC scope cl s3.heap.objs.size X.env);theTreesLotGoes x)) _ _ s5;refine wpAny_noted ?_;rw[compTurn_list];refine S0 (Vk (S0 ?_))
  rcases turn i n σ5 H5 w5 with ⟨stop,qn⟩|⟨go,N,hN,step⟩
  ·refine TY (T.done (bA X scope N' cl s3.heap.objs.size s3 (upd H2 s2.heap.objs.size (.lst [])) fp) rfl rfl rfl hc i [] s5 σ5 H5 (λ_ _=>False) I5 (stat Nf) JF stop) (λr s6 ⟨hr,I6⟩=>?_) λ_ _ z=>z.elim;subst hr;refine Th ?_;obtain⟨m,hm,_⟩:=id I6.loc;exact hRR _ _ s6 H5 m (by rw[hsz];exact Ue _) (xT I3 f3 I6) I6.free hm qn
  ·refine TY (T.item (bA X scope N' cl s3.heap.objs.size s3 (upd H2 s2.heap.objs.size (.lst [])) fp) rfl rfl rfl hc i [] s5 σ5 H5 (λ_ _=>False) I5 (stat Nf) JF go) (λr s6 ⟨u,hr,h6⟩=>?_) λ_ _ z=>z.elim
   subst hr;refine S0 (TY h6 (λ_ s7 ⟨x,H7,I7,r7,y7,Oc,Q0⟩=>?_) λ_ _ z=>z.elim);have Q2:=I7.pinned (stat Q0) (T.obj _ _ Oc);refine S0 (TY (hg _ _ _ _ _ _ s7 σ5 H7 x u _ Q2 r7 (step x H7 y7)) (λ_ s8 ⟨σ8,H8,I8,q8⟩=>?_) λ_ _ z=>z.elim);refine S0 (TY (ht _ _ _ _ _ _ s8 σ8 H8 _ I8 q8) (λb s9 ⟨H9,I9,q9⟩=>?_) λ_ _ z=>z.elim);have zA:∀{sA:Shared} {σA:St} {HA:Hp},Inv (bA X scope N' cl s3.heap.objs.size s3 (upd H2 s2.heap.objs.size (.lst [])) fp) ([]++mG fp s7.heap) σA HA sA->N σA HA ->
     ∃m,m<n/\∃i σ' H',Inv (bA X scope N' cl s3.heap.objs.size s3 (upd H2 s2.heap.objs.size (.lst [])) fp) [] σ' H' sA/\tn i sA.heap/\(∀b∈fp,H' b=none)/\W i m σ' H':=λ{sA σA HA} IA nA=>by
    obtain⟨m',hm,wA⟩:=hN σA HA nA;refine⟨m',hm,i+1,σA,HA,IA.jX,T.keep _ _ _ Oc λb hb o e=>(IA.pin (b,o) (TH _ (TH _ (gT hb e)))).1,λb hb=>?_,wA⟩;obtain⟨o,e,d⟩:=T.obj _ _ Oc b hb;exact(IA.pin (b,o) (TH _ (TH _ (gT hb e)))).2.1
   cases b with
   |false=>exact Th ⟨rfl,zA I9 (by simpa using q9)⟩
   |true=>rw[S7 rfl]at q9;refine S0 (S0 (TY (he _ _ _ _ _ _ s9 σ8 H9 _ I9 q9) (λv sB ⟨y,HB,IB,rB,ys,hys,hlen,nB⟩=>?_) λ_ _ z=>z.elim));refine S0 (TY (oO (X:=bA X scope N' cl s3.heap.objs.size s3 (upd H2 s2.heap.objs.size (.lst [])) fp) _ sB σ8 HB (.ref s2.heap.objs.size) [y] _ [v] (λ_ HC=>HC=upd HB s2.heap.objs.size (.lst (ys++[y]))) IB rfl #[rB] ⟨_,ys,y,rfl,rfl,hys,hlen,rfl⟩) (λv' sC ⟨_,HC,IC,_,Q3⟩=>?_) λ_ _ z=>z.elim);subst Q3;exact Th (Th ⟨rfl,zA IC nB⟩)
 rw[QZ];have Od:({ newEnv scope (s2.heap.push { cls:=.type "list",dict:=none,data:=.seq ([]:List Value).toArray }).objs.size X.env.globals cl X.env.qual none Value.none (some X.env) builtinsNs with scope:=relabel scope X.env }:Env)=compEnvC scope cl s3.heap.objs.size X.env:=by rw[eC];rfl
 have Oe:(newEnv scope (s2.heap.push { cls:=.type "list",dict:=none,data:=.seq ([]:List Value).toArray }).objs.size X.env.globals cl X.env.qual none Value.none (some X.env) builtinsNs).locals=s3.heap.objs.size:=by rw[eC];rfl
 rw[Od,Oe];exact codeAny_compStart_list loop (T.self _ _ _ _ _ PL loop)
theorem vt(hok:fX X.N X.env.scope scope N' js=true)(hc:X.calm=true)(hi:PI X tg iter wi)(hg:∀cl C s H fp,PG (bA X scope N' cl C s H fp) tg g)
  (ht:∀cl C s H fp,Cq (bA X scope N' cl C s H fp) ifs tt) (he:∀cl C s H fp,PE (bA X scope N' cl C s H fp) elt te)
  (hs:∀x,foldedSetIterable iter X.env x=pure x):PE X (.ListComp elt [⟨tg,iter,ifs,0⟩] scope pos) (vq wi js g tt te):=by
 intro pins s σ H Q I h;have ok:=oW hok;obtain⟨cl,Of,hcl1,hcl2⟩:=mP (mT ok I.ok);rw[eval_ListComp];refine wpAny_comprehension_free (use:=none) rfl hs Of ok.kind ok.names (cy (hi pins s σ H _ I h) λxv s1 h1=>cy h1 λitv s2 h2=>?_);obtain⟨it,fp,tn,J,H2,rfl,I2,T,st2,f2,rd⟩:=h2;refine rY (RR:=λacc C=>compPost (model X.prog X.w) X.A X.xe none (EP X pins σ Q) acc C) ok hc I2 T st2 f2 hcl1 hcl2 hg ht he rd ?_;intro D C s' H' m hC J' fC hm q;refine⟨m,hm,λh' hs'=>⟨.ref D,H',?_,rfl,q⟩⟩;refine J'.turned (t':=s'.toks) (λb o hb e=>hs'.extBut b o hb e) fC (UT (Te I2.lt hC)) (.inr (Tt I2.sz hC)) (λx c e z=>?_) λp hp z=>?_
 ·obtain⟨v,q'⟩:=I2.cell x c e;exact absurd (Te q'.lt (by rw[z];exact hC)) (Ud _)
 ·exact absurd (Te (S9 (I2.pin p hp).1) (by rw[z];exact hC)) (Ud _)
theorem Cs{i:Nat}(hN:X.N.Nodup)(hx:X.N[i]?=some x)(hl:Loc X.env.scope x)(hok:fX X.N X.env.scope scope N' js=true)(hc:X.calm=true)(hi:PI X tg iter wi)(hg:∀cl C s H fp,PG (bA X scope N' cl C s H fp) tg g)
  (ht:∀cl C s H fp,Cq (bA X scope N' cl C s H fp) ifs tt) (he:∀cl C s H fp,PE (bA X scope N' cl C s H fp) elt te)
  (hsw:swapsWith (.ListComp elt [⟨tg,iter,ifs,0⟩] scope pos) (some (.Name x pos')) spos.line X.env=pure true)
  (hf:X.fn x=true\/X.env.scope.names.lookup x=some .local)
  (hs:∀x,foldedSetIterable iter X.env x=pure x):PS X (.Assign [.Name x pos'] (.ListComp elt [⟨tg,iter,ifs,0⟩] scope pos) spos) (B0 (vq wi js g tt te) (lG i)):=by
 intro pins s σ H D I h;have ok:=oW hok;obtain⟨cl,Of,hcl1,hcl2⟩:=mP (mT ok I.ok);rw[exec_Assign_Name_used _ _ _ _ hsw];refine S0 (Vk (S0 ?_));show wpAny _ X.A (do let _ <-comprehension (.ListComp elt [⟨tg,iter,ifs,0⟩] scope pos) scope X.env _ (newList []) false (eval iter X.env) (some (assign (.Name x pos') X.env))) _ _ s;refine S0 (TY (wpAny_comprehension_free (use:=some (assign (.Name x pos') X.env)) (Q:=λ_ s'=>SP X pins D .next s') rfl hs Of ok.kind ok.names
  (cy (hi pins s σ H _ I h) λxv s1 h1=>cy h1 λitv s2 h2=>?_)) (λ_ s' hq=>Th (Th hq)) λ_ _ e=>e)
 obtain⟨it,fp,tn,J,H2,rfl,I2,T,st2,f2,rd⟩:=h2;refine rY (RR:=λacc C=>compPost (model X.prog X.w) X.A X.xe (some (assign (.Name x pos') X.env)) (λ_ s'=>SP X pins D .next s') acc C) (Q:=λx H1=>lG i x σ H1 D.nx) ok hc I2 T st2 f2 hcl1 hcl2 hg ht he rd ?_;intro E C s' H' m hC J' fC hm q;have PM:C≠X.env.locals:=UT (Te I2.lt hC);have hCc:∀x c,X.env.cells.lookup x=some c->c≠C:=λx c e z=>by
  obtain⟨v,q'⟩:=I2.cell x c e;exact absurd (Te q'.lt (by rw[z];exact hC)) (Ud _)
 refine cy (show wpAny _ X.A (assign (.Name x pos') X.env (.ref E)) (λ_ s''=>(∃xS Ed,Inv X pins xS Ed s''/\D.nx xS Ed/\Ed C=none)/\∃m,s''.heap.Ns C m) X.xe s' from ?_) λ_ s'' ⟨⟨xS,Ed,Og,Q4,Oh⟩,Q5,Oi⟩=>?_
 ·refine wpAny_assign_Name (oE J' hN hx hl (show RelV (.ref E) (.ref E) from rfl) (λs'' Og ⟨a,Q6,ha⟩=>⟨⟨_,H',Og,q,fC⟩,m,?_⟩) hf)
  refine hm.sameBut Q6 ?_
  rcases ha with z|z
  ·rw[z];exact PM
  ·exact λw=>hCc _ _ z w.symm
 ·refine⟨Q5,Oi,λh' hs'=>⟨xS,Ed,?_,Q4⟩⟩;refine Og.turned (t':=s''.toks) (λb o hb e=>hs'.extBut b o hb e) Oh PM (.inr (Tt I2.sz hC)) hCc λp hp z=>?_;exact absurd (Te (S9 (I2.pin p hp).1) (by rw[z];exact hC)) (Ud _)
end
theorem Inv.vv{X:Cx}{pins:List (Addr×Obj)}{σ:St}{H:Hp}{s:Shared}{h':Heap}{t':Nat}{ch:List Addr}(I:Inv X pins σ H s)(hf:∀b∈ch,lX X pins H b)
  (k:∀b o,b∉ch->s.heap.get? b=some o->h'.get? b=some o):Inv X pins σ H { s with heap:=h',toks:=t' }:=by
 have JT:∀b u,H b=some u->b∉ch:=λb u e z=>by rw[(hf b z).1]at e;cases e
 refine I.step (g':=s.gens) (d':=s.drawn) (ch:=ch) (λb hb=>?_) (λb o _ _ hc e _=>k b o hc e) (λb o _ _ hc e _=>⟨o.slots,k b o hc e⟩) (λ_ _ _ _ n=>n)
  (λb o hc e=>⟨o,k b o hc e⟩) (λ_ _ e=>e) (λ_ _ _ e=>e) (λb ps e=>⟨#[],by rw[e];simp⟩) (λm hm=>?_) (λb u e=>?_) I.bare
 ·exact⟨(hf b hb).2.2.2.1,(hf b hb).2.1,(hf b hb).2.2.2.2.1,(hf b hb).2.2.2.2.2⟩
 ·obtain⟨o,es,ep,ho,r⟩:=hm;exact⟨o,es,ep,k _ o (λz=>(hf _ z).2.1 rfl) ho,r⟩
 ·refine(I.hok b u e).stay (λc v hc q=>k c v ?_ q) (λ_ q=>q) λ_ _ q=>q
  rcases hc with z|z
  ·rw[z];exact JT b u e
  ·exact JT c _ z
def KH(K:Frag)(a:Addr):It :=
 ⟨λi H=>∃xs x,fu K H a xs/\xs[i]?=some x,λi H x H'=>∃p v,H p=none/\x=.ref p/\H'=upd H p (.tup [.int i,v])/\∀xs,fu K H a xs->xs[i]?=some v,λi H=>∃xs,fu K H a xs/\xs.length<=i⟩
theorem xU{P:Program}{w:World}{K:Frag}{es:List Expr}{k:Nat}{pos:Pos}(a e it:Addr)(hne:e≠it) :
  Turn P w K (.Tuple es k pos) (KH K a) [e,it] e (λi h=>(∃old,IsEnum h e it i old)/\h.IsListIter it a i) where
 mem:=by simp
 obj:=λi h st b hb=>by
  obtain⟨⟨old,he⟩,⟨o,e2,c,d⟩⟩:=st
  rcases Td.mp hb with z|z
  ·subst z;exact⟨_,he,λv z=>nomatch z⟩
  ·rw[Ti.mp z];exact⟨o,e2,λv z=>by rw[d]at z;cases z⟩
 keep:=λi h h' st k=>⟨let ⟨old,he⟩:=st.1;⟨old,k e (by simp) _ he⟩,st.2.at λo e=>k it (by simp) o e⟩
 item:=by
  intro X hP hw hK hc i pins s σ H E I hf st hg;subst hP hw hK;obtain⟨xs,x,hq,hx⟩:=hg;obtain⟨its,rv,p,hz⟩:=I.list hq;obtain⟨u,hu,ru⟩:=rv.get hx;obtain⟨⟨old,he⟩,hit⟩:=st;have hei:e<s.heap.objs.size:=S9 he;have Q7:it<s.heap.objs.size:=by obtain⟨_,y,_⟩:=hit;exact S9 y
  refine wpAny_pyNext_enum_item he hit p.isList (x:=u) (by simpa using hu) hne λh' ho Oj hT hsz hk=>?_;refine⟨_,rfl,?_⟩;refine wpAny_letOwnedTupleGo_enum ho λh2 Q8 hs2=>?_;have hT2:h2.get? s.heap.objs.size=some { cls:=.type "tuple",data:=.seq [.int i s.toks,u].toArray }:=hs2.extBut _ _ (UT hei) hT;have I1:Inv X pins σ H { s with heap:=h2,toks:=s.toks+1 }:=I.vv (ch:=[e,it]) hf λb o hb q=>by
   have h1:b≠e:=λz=>hb (by simp[z]);have h2:b≠it:=λz=>hb (by simp[z]);exact hs2.extBut b o h1 (hk b o h1 h2 q)
  have hn:H s.heap.objs.size=none:=I.hok.fresh (S4 _);have I2:Inv X pins σ (upd H s.heap.objs.size (.tup [.int i,x])) { s with heap:=h2,toks:=s.toks+1 }:=by
   have un:Un X.fs [] H (upd H s.heap.objs.size (.tup [.int i,x])) s.heap s.heap:=Un.laid (λb u q=>q) (S4 _) hn;refine⟨I1.ok,I1.os,I1.bare,?_,I1.loc,I1.cell,?_,λy c q=>?_,λp hp=>?_,λb o q=>?_,I1.len⟩
   ·refine⟨I1.base.keep,I1.base.slot,λb o q n hx=>?_,I1.base.there,λb ys q=>?_,λb o ys q=>?_,λb ps q=>?_⟩
    ·have hlt:b<s.heap.objs.size:=Te (S9 q) I.sz;rw[ak (Tp hlt)];exact I1.base.free b o q n hx
    ·rw[ak (aD (I1.base.tups b ys q) hn)];exact I1.base.tups b ys q
    ·rw[ak (aD (I1.base.frzs b o ys q) hn)];exact I1.base.frzs b o ys q
    ·obtain⟨more,z⟩:=I1.base.n5 b ps q;exact⟨more,by rw[ak (aD z hn)];exact z⟩
   ·rw[ak (Tp I.lt)];exact I1.free
   ·obtain⟨v,z⟩:=I.cell y c q;rw[ak (Tp z.lt)];exact I1.gp y c q
   ·obtain⟨q1,q2,q3⟩:=I1.pin p hp;refine⟨q1,?_,q3⟩;rw[ak (Tp (S9 (I.pin p hp).1))];exact q2
   ·by_cases hb:b=s.heap.objs.size
    ·subst hb;rw[aC]at q;cases q;exact⟨by show 2<=sizeLine;decide,[.int i s.toks,u],.cons ⟨_,rfl⟩ #[ru],_,hT2,rfl,_,rfl⟩
    ·rw[ak hb]at q;exact(I1.hok b o q).stay (λc v _ z=>z) (λc z=>by rw[ak (aD z hn)];exact z) λc ys z=>by rw[ak (aD z hn)];exact z
  refine⟨.ref s.heap.objs.size,_,I2,rfl,⟨s.heap.objs.size,x,hn,rfl,rfl,λys hy=>by rw[I.rH hy hq];exact hx⟩,⟨⟨_,by simpa using Q8⟩,?_⟩,λb hb=>?_⟩
  ·exact Oj.at λo y=>(hs2.2 it hne.symm).trans y
  ·have hlt:b<s.heap.objs.size:=by
    rcases Td.mp hb with z|z
    ·rw[z];exact hei
    ·rw[Ti.mp z];exact Q7
   rw[ak (Tp hlt)];exact(hf b hb).1
 done:=by intro X hP hw hK hc i pins s σ H E I hf st hg;subst hP hw hK;obtain⟨xs,hq,hx⟩:=hg;obtain⟨its,rv,p,hz⟩:=I.list hq;obtain⟨⟨old,he⟩,hit⟩:=st;have hl:=rv.length;exact wpAny_pyNext_enum_end (I.ok.hd hc) he hit p.isList (by simp;omega) λh' eb=>⟨rfl,I.vv (t':=s.toks) (ch:=[e,it]) hf λb o hb q=>eb b o (λz=>hb (by simp[z])) q⟩
 self:=λ_ _ _ _ _ st h=>let ⟨_,he⟩:=st.1;wpAny_pyIter_enum he h
def KI(K:Frag)(ta:TA):TI:=λσ H R=>ta σ H λvs H1=>∃a,vs=[.ref a]/\(∃xs,fu K H1 a xs)/\R (KH K a) H1
theorem Ct{k:Nat}(hg:Gl X "enumerate")(hm:X.mg "enumerate" = none)(ha:PA X [a] ta)(hs:starEach [a] X.env=[(false,eval a X.env)]) :
  PI X (.Tuple es k tpos) (.Call (.Name "enumerate" p) [a] [] pos) (KI X.K ta):=by
 intro pins s σ H R I h;refine Call_ (gb I hg hm boot_enumerate (TX (cy (ha pos pins s σ H _ I h) λus s1 aE=>?_) hs rfl));obtain⟨vs,H1,I1,r1,q1⟩:=aE;obtain⟨l,e,⟨xs,hq⟩,q⟩:=q1;subst e;cases r1 with
 |cons r rr=>
  cases rr;cases r;obtain⟨its,rv,pl,hz⟩:=I1.list hq;refine call_enumerate_list pl.isList λh' he hit hsz hk=>?_;have I2:Inv X pins σ H1 { s1 with heap:=h' }:=I1.kept (t':=s1.toks) hk;refine wpAny_pyIter_enum (s:={ s1 with heap:=h' }) he ?_;refine⟨_,[s1.heap.objs.size+1,s1.heap.objs.size],_,_,H1,rfl,I2,xU l _ _ (UT (Ub _)),⟨⟨_,by simpa using he⟩,hit⟩,λb hb=>?_,q⟩;have hb':s1.heap.objs.size<=b:=by
   rcases Td.mp hb with z|z
   ·rw[z];exact Ue _
   ·rw[Ti.mp z];exact S4 _
  exact I1.zb hb' (I1.hok.fresh hb')
end L2
end
section
namespace L2
open PySem PySem.W PyProof.Rows
namespace uz
section
variable {O:KeyOrd} {key:Nat->O.α} {N:Nat} {cmp:Nat->Nat->(Bool->Shared->Prop)->Shared->Prop} {s:Shared}
def K(O:KeyOrd)(key:Nat->O.α)(p:Array Nat)(i:Nat):O.α:=key (p.getD i 0)
def Up(O:KeyOrd)(key:Nat->O.α)(p:Array Nat)(k:Nat):Prop:=∀i j,i<=j->j<k->O.kle (K O key p i) (K O key p j)
def Down(O:KeyOrd)(key:Nat->O.α)(p:Array Nat)(k:Nat):Prop:=∀i j,i<=j->j<k->O.kle (K O key p j) (K O key p i)
def Cu(O:KeyOrd)(key:Nat->O.α)(N:Nat)(cmp:Nat->Nat->(Bool->Shared->Prop)->Shared->Prop)(s:Shared):Prop :=
 ∀i j (C:Bool->Shared->Prop),i<N->j<N->C (O.blt (key i) (key j)) s->cmp i j C s
def Ent(N:Nat)(p:Array Nat):Prop:=p.size=N/\0<N/\∀x∈p.toList,x<N
theorem Ent.at{p:Array Nat}(h:Ent N p)(i:Nat):p.getD i 0<N:=by
 by_cases hi:i<p.size
 ·have e:p.getD i 0=p[i]:=by simp[Array.getD,hi]
  rw[e];exact h.2.2 _ (by simp)
 ·have e:p.getD i 0=0:=by simp[Array.getD,hi]
  rw[e];exact h.2.1
theorem Ent.perm{p q:Array Nat}(h:Ent N p)(e:q.Perm p):Ent N q :=
 ⟨e.size_eq.trans h.1,h.2.1,λx hx=>h.2.2 x ((Array.perm_iff_toList_perm.mp e).mem_iff.mp hx)⟩
theorem K_congr{p q:Array Nat}{i j:Nat}(h:p[i]?=q[j]?):K O key p i=K O key q j:=by
 unfold K;rw[Array.getD_eq_getD_getElem?,Array.getD_eq_getD_getElem?,h]
theorem K_bubble{p:Array Nat}{src d:Nat}(hs:src<p.size)(hd:d<=src)(k:Nat) :
  K O key (bubble p src d) k=if k=src-d then K O key p src else if src-d<k/\k<=src then K O key p (k-1) else K O key p k:=by
 have e:=getElem?_bubble hs d hd k
 by_cases h1:k=src-d
 ·rw[S7 h1]at e |-;exact K_congr e
 ·rw[S8 h1]at e |-
  by_cases h2:src-d<k/\k<=src
  ·rw[S7 h2]at e |-;exact K_congr e
  ·rw[S8 h2]at e |-;exact K_congr e
theorem zB{p:Array Nat}{i j:Nat}(hj:j<=p.size)(k:Nat):K O key (kas_rev p i j) k=if i<=k/\k<j then K O key p (i+j-1-k) else K O key p k:=by
 have e:=getElem?_mirror_all (i:=i) hj k
 by_cases h1:i<=k/\k<j
 ·rw[S7 h1]at e |-;exact K_congr e
 ·rw[S8 h1]at e |-;exact K_congr e
theorem mU{p:Array Nat}{i j:Nat}(hj:j<=p.size)(h:∀k,i<=k->k<j->K O key p k=K O key p (j-1))(k:Nat):K O key (kas_rev p i j) k=K O key p k:=by
 rw[zB hj]
 split
 ·rw[h _ (by omega) (by omega),h k (by omega) (by omega)]
 ·rfl
theorem rZ{p:Array Nat}{m:Nat}(h:∀t,1<=t->t<m->O.kle (K O key p (t-1)) (K O key p t)):Up O key p m:=by
 intro i j hij hj
 induction j with
 |zero=>
  have:i=0:=by omega
  subst this;exact Ui _
 |succ j ih=>
  by_cases e:i=j+1
  ·subst e;exact Ui _
  ·exact UZ (ih (by omega) (by omega)) (h (j+1) (by omega) hj)
theorem FW(hA:Cu O key N cmp s){p:Array Nat}(he:Ent N p):∀(f n:Nat) {Q:Nat->Shared->Prop},1<=n ->
  (∀m,n<=m->m<=n+f->(∀t,n<=t->t<m->O.kle (K O key p (t-1)) (K O key p t))->(m<n+f->O.klt (K O key p m) (K O key p (m-1)))->Q m s)->(kas_asc p f n).kasWp cmp Q s
 |0,n,Q,hn,h=>h n (S4 _) (S4 _) (λt h1 h2=>by omega) λq=>by omega
 | f+1,n,Q,hn,h=>by
  show cmp _ _ _ s;refine hA _ _ _ (he.at _) (he.at _) ?_;cases hb:O.blt (key (p.getD n 0)) (key (p.getD (n-1) 0)) with
  |true=>exact h n (S4 _) (by omega) (λt h1 h2=>by omega) λ_=>hb
  |false=>
   show (kas_asc p f (n+1)).kasWp cmp Q s;refine FW hA he f (n+1) (by omega) λm h1 h2 h3 h4=>h m (by omega) (by omega) (λt t1 t2=>?_) λq=>h4 (by omega)
   by_cases e:t=n
   ·subst e;exact hb
   ·exact h3 t (by omega) t2
theorem vz(hA:Cu O key N cmp s):∀(f:Nat) (p:Array Nat) (n q:Nat) {Q:Array Nat×Nat×Nat->Shared->Prop},Ent N p->1<=n->n+f<=N->q+1<=n->Down O key p n->(∀i,n-(q+1)<=i->i<n->K O key p i=K O key p (n-1)) ->
  (∀p' n' q',p'.Perm p->Ent N p'->1<=n'->n<=n'->n'<=n+f->q'+1<=n'->Down O key p' n'->(∀i,n'-(q'+1)<=i->i<n'->K O key p' i=K O key p' (n'-1))->Q (p',n',q') s)->(kas_desc f p n q).kasWp cmp Q s
 |0,p,n,q,Q,he,hn,hN,hq,hd,hl,h=>h p n q (UL _) he hn (S4 _) (S4 _) hq hd hl
 | f+1,p,n,q,Q,he,hn,hN,hq,hd,hl,h=>by
  show cmp _ _ _ s;refine hA _ _ _ (he.at _) (he.at _) ?_;cases hb:O.blt (key (p.getD n 0)) (key (p.getD (n-1) 0)) with
  |true=>
   have hlt:O.klt (K O key p n) (K O key p (n-1)):=hb;have hd1:Down O key p (n+1):=λi j hij hj=>by
    by_cases e:j=n
    ·subst e
     by_cases e2:i=j
     ·subst e2;exact Ui _
     ·exact UZ (UW hlt) (hd i (j-1) (by omega) (by omega))
    ·exact hd i j hij (by omega)
   show (if q>0 then kas_desc f (kas_rev p (n-(q+1)) n) (n+1) 0 else kas_desc f p (n+1) 0).kasWp cmp Q s
   by_cases PN:q>0
   ·rw[S7 PN]
    have ep:(kas_rev p (n-(q+1)) n).Perm p:=mirror_perm _ _ _ _;have eK:∀k,K O key (kas_rev p (n-(q+1)) n) k=K O key p k:=λk=>mU (by rw[he.1];omega) hl k;refine vz hA f _ (n+1) 0 (he.perm ep) (by omega) (by omega) (by omega) (λi j hij hj=>by rw[eK,eK];exact hd1 i j hij hj) (λi h1 h2=>?_) λp' n' q' g1 g2 g3 g4 g5 g6 g7 g8=>h p' n' q' (g1.trans ep) g2 g3 (by omega) (by omega) g6 g7 g8;have:i=n:=by omega
    subst this;rfl
   ·rw[S8 PN]
    refine vz hA f p (n+1) 0 he (by omega) (by omega) (by omega) hd1 (λi h1 h2=>?_) λp' n' q' g1 g2 g3 g4 g5 g6 g7 g8=>h p' n' q' g1 g2 g3 (by omega) (by omega) g6 g7 g8;have:i=n:=by omega
    subst this;rfl
  |false=>
   show cmp _ _ _ s;refine hA _ _ _ (he.at _) (he.at _) ?_;cases hc:O.blt (key (p.getD (n-1) 0)) (key (p.getD n 0)) with
   |true=>exact h p n q (UL _) he hn (S4 _) (by omega) hq hd hl
   |false=>
    have heq:K O key p n=K O key p (n-1):=O.total _ _ hb hc;show (kas_desc f p (n+1) (q+1)).kasWp cmp Q s;refine vz hA f p (n+1) (q+1) he (by omega) (by omega) (by omega) (λi j hij hj=>?_) (λi h1 h2=>?_) λp' n' q' g1 g2 g3 g4 g5 g6 g7 g8=>h p' n' q' g1 g2 g3 (by omega) (by omega) g6 g7 g8
    ·by_cases e:j=n
     ·subst e
      by_cases e2:i=j
      ·subst e2;exact Ui _
      ·rw[heq];exact hd i (j-1) (by omega) (by omega)
     ·exact hd i j hij (by omega)
    ·show K O key p i=K O key p (n+1-1)
     rw[Nat.add_sub_cancel]
     by_cases e:i=n
     ·subst e;rfl
     ·rw[heq];exact hl i (by omega) (by omega)
theorem zC(hA:Cu O key N cmp s){p:Array Nat}{n nrem:Nat}(he:Ent N p)(h1:1<=n)(hn:n<=nrem)(hr:nrem<=N)(hd:Down O key p n)
  (h:∀m p',p'.Perm p->Ent N p'->1<=m->m<=nrem->Up O key p' m->Q (m,p') s):(kas_tail3 n nrem p).kasWp cmp Q s:=by
 unfold kas_tail3;rw[UM];have ep:(kas_rev p 0 n).Perm p:=mirror_perm _ _ _ _;have hz:n<=p.size:=by rw[he.1];omega
 refine FW hA (he.perm ep) _ _ h1 λm a1 a2 a3 _=>h m _ ep (he.perm ep) (by omega) (by omega) (rZ λt t1 t2=>?_)
 by_cases e:t<n
 ·rw[zB hz,zB hz,S7 (by omega),S7 (by omega)];exact hd _ _ (by omega) (by omega)
 ·exact a3 t (by omega) t2
theorem oX(hA:Cu O key N cmp s){p:Array Nat}{n nrem:Nat}(he:Ent N p)(hn:n+1<=nrem)(hr:nrem<=N)(hd:Down O key p (n+1))
  (h:∀m p',p'.Perm p->Ent N p'->1<=m->m<=nrem->Up O key p' m->Q (m,p') s):(kas_descPart n nrem p).kasWp cmp Q s:=by
 unfold kas_descPart;rw[UM];have KJ:∀i,n+1-(0+1)<=i->i<n+1->K O key p i=K O key p (n+1-1):=λi h1 h2=>by
  have e:i=n:=by omega
  subst e;rfl
 refine vz hA (nrem-(n+1)) p (n+1) 0 he (by omega) (by omega) (by omega) hd KJ λp' n' q' g1 g2 g3 g4 g5 g6 g7 g8=>?_;show (if q'>0 then kas_tail3 n' nrem (kas_rev p' (n'-(q'+1)) n') else kas_tail3 n' nrem p').kasWp cmp Q s
 by_cases hq:q'>0
 ·rw[S7 hq];have ep:(kas_rev p' (n'-(q'+1)) n').Perm p':=mirror_perm _ _ _ _;have eK:∀k,K O key (kas_rev p' (n'-(q'+1)) n') k=K O key p' k:=λk=>mU (by rw[g2.1];omega) g8 k;exact zC hA (g2.perm ep) g3 (by omega) hr (λi j hij hj=>by rw[eK,eK];exact g7 i j hij hj) λm p'' a1 a2 a3 a4 a5=>h m p'' ((a1.trans ep).trans g1) a2 a3 a4 a5
 ·rw[S8 hq];exact zC hA g2 g3 (by omega) hr g7 λm p'' a1 a2 a3 a4 a5=>h m p'' (a1.trans g1) a2 a3 a4 a5
theorem FY(hA:Cu O key N cmp s){p:Array Nat}{nrem:Nat}(he:Ent N p)(h1:1<=nrem)(hr:nrem<=N)
  (h:∀m p',p'.Perm p->Ent N p'->1<=m->m<=nrem->Up O key p' m->Q (m,p') s):(kas_count nrem p).kasWp cmp Q s:=by
 unfold kas_count;rw[UM];refine FW hA he _ _ (S4 _) λn a1 a2 a3 a4=>?_;have hup:Up O key p n:=rZ λt t1 t2=>a3 t t1 t2
 by_cases e1:(n==nrem)=true
 ·rw[S7 e1];exact h n p (UL _) he a1 (by omega) hup
 ·rw[S8 e1]
  have SD:n≠nrem:=λz=>e1 (by simp[z]);have hlt:O.klt (K O key p n) (K O key p (n-1)):=a4 (by omega)
  by_cases e2:n>1
  ·rw[S7 e2]
   show cmp _ _ _ s;refine hA _ _ _ (he.at _) (he.at _) ?_;cases hc:O.blt (key (p.getD 0 0)) (key (p.getD (n-1) 0)) with
   |true=>exact h n p (UL _) he a1 (by omega) hup
   |false=>
    have hle:O.kle (K O key p (n-1)) (K O key p 0):=hc;have ep:(kas_rev p 0 n).Perm p:=mirror_perm _ _ _ _;have hall:∀k,0<=k->k<n->K O key p k=K O key p (n-1):=λk _ hk=>
     KeyOrd.kle_antisymm (hup k (n-1) (by omega) (by omega)) (UZ hle (hup 0 k (by omega) hk))
    have eK:∀k,K O key (kas_rev p 0 n) k=K O key p k:=λk=>mU (by rw[he.1];omega) hall k;show (kas_descPart n nrem (kas_rev p 0 n)).kasWp cmp Q s;refine oX hA (he.perm ep) (by omega) hr (λi j hij hj=>?_) λm p' b1 b2 b3 b4 b5=>h m p' (b1.trans ep) b2 b3 b4 b5;rw[eK,eK]
    by_cases ej:j=n
    ·subst ej
     by_cases ei:i=j
     ·subst ei;exact Ui _
     ·rw[hall i (by omega) (by omega)];exact UW hlt
    ·rw[hall i (by omega) (by omega),hall j (by omega) (by omega)];exact Ui _
  ·rw[S8 e2]
   have en:n=1:=by omega
   subst en;refine oX hA he (by omega) hr (λi j hij hj=>?_) λm p' b1 b2 b3 b4 b5=>h m p' b1 b2 b3 b4 b5
   by_cases ei:i=j
   ·subst ei;exact Ui _
   ·have:i=0/\j=1:=by omega
    obtain⟨rfl,rfl⟩:=this;exact UW hlt
theorem uA(hA:Cu O key N cmp s){p:Array Nat}{k:Nat}(he:Ent N p)(hs:Up O key p k):∀(f l r:Nat) {Q:Nat->Shared->Prop},l<=r->r<=k->r-l<=f ->
  (∀i,i<l->O.kle (K O key p i) (K O key p k))->(∀i,r<=i->i<k->O.klt (K O key p k) (K O key p i)) ->
  (∀l',l'<=k->(∀i,i<l'->O.kle (K O key p i) (K O key p k))->(∀i,l'<=i->i<k->O.klt (K O key p k) (K O key p i))->Q l' s)->(kas_place p k f l r).kasWp cmp Q s
 | 0,l,r,Q,hlr,hrk,hf,hlo,hhi,h=>by
  have:l=r:=by omega
  subst this;exact h l hrk hlo hhi
 | f+1,l,r,Q,hlr,hrk,hf,hlo,hhi,h=>by
  show (if l≥r then KasT.ret l else _).kasWp cmp Q s
  by_cases hge:l≥r
  ·rw[S7 hge]
   have:l=r:=by omega
   subst this;exact h l hrk hlo hhi
  ·rw[S8 hge]
   show cmp _ _ _ s;refine hA _ _ _ (he.at _) (he.at _) ?_;cases hb:O.blt (key (p.getD k 0)) (key (p.getD ((l+r)/2) 0)) with
   |true=>show (kas_place p k f l ((l+r)/2)).kasWp cmp Q s;exact uA hA he hs f l ((l+r)/2) (by omega) (by omega) (by omega) hlo (λi h1 h2=>KeyOrd.klt_of_klt_of_kle hb (hs _ _ h1 h2)) h
   |false=>show (kas_place p k f ((l+r)/2+1) r).kasWp cmp Q s;exact uA hA he hs f ((l+r)/2+1) r (by omega) (by omega) (by omega) (λi h1=>UZ (hs i ((l+r)/2) (by omega) (by omega)) hb) hhi h
theorem KL(hA:Cu O key N cmp s):∀(f:Nat) (p:Array Nat) (k:Nat) {Q:Array Nat->Shared->Prop},Ent N p->k+f<=N->Up O key p k->(∀p',p'.Perm p->Up O key p' (k+f)->Q p' s)->(kas_bin f p k).kasWp cmp Q s
 |0,p,k,Q,he,hk,hs,h=>h p (UL _) hs
 | f+1,p,k,Q,he,hk,hs,h=>by
  show ((kas_place p k k 0 k).bind λl=>kas_bin f (bubble p k (k-l)) (k+1)).kasWp cmp Q s;rw[UM];refine uA hA he hs k 0 k (by omega) (by omega) (by omega) (λi hi=>by omega) (λi h1 h2=>by omega) λl hl hlo hhi=>?_;have ep:(bubble p k (k-l)).Perm p:=bubble_perm _ _ _;have hks:k<p.size:=by rw[he.1];omega
  refine KL hA f _ (k+1) (he.perm ep) (by omega) (λi j hij hj=>?_) λp' a1 a2=>h p' (a1.trans ep) (by rwa [show k+(f+1)=k+1+f by omega]);rw[K_bubble hks (by omega),K_bubble hks (by omega),show k-(k-l)=l by omega]
  repeat' split
  all_goals first
   |(exfalso;omega)
   |exact Ui _
   |exact hlo _ (by omega)
   |exact UW (hhi _ (by omega) (by omega))
   |exact hs _ _ (by omega) (by omega)
theorem KN(hA:Cu O key N cmp s)(h1:1<=N)(h:∀p,p.Perm (toArray (List.range N))->Up O key p N->Q p s):(kas_sort N).kasWp cmp Q s:=by
 unfold kas_sort;rw[UM];have he:Ent N (toArray (List.range N)):=⟨by simp,h1,λx hx=>by simpa using hx⟩;refine FY hA he h1 (S4 _) λm p a1 a2 a3 a4 a5=>?_;show (if m<N then kas_bin (N-max m 1) p (max m 1) else KasT.ret p).kasWp cmp Q s;have em:max m 1=m:=by omega
 by_cases hlt:m<N
 ·rw[S7 hlt,em];exact KL hA _ p m a2 (by omega) a5 λp' b1 b2=>h p' (b1.trans a1) (by rwa [show m+(N-m)=N by omega]at b2)
 ·rw[S8 hlt]
  have:m=N:=by omega
  subst this;exact h p a1 a5
end
end uz
namespace uz
theorem fE{α:Type}(l:List α)(d:α):(List.range l.length).map (λi=>l.getD i d)=l:=by
 refine List.ext_getElem (by simp) λi h1 h2=>?_;simp[h2]
section
variable {prog:Program} {w:World} {A:Around} {E:Value->Shared->Prop} {s:Shared}
def vA(prog:Program)(w:World)(A:Around)(O:KeyOrd)(key:Nat->O.α)(vs:List Value)(s6:Shared):Prop :=
 wpAny (model prog w) A (keyKind' vs.toArray) (λκ s'=>s'=s6/\Cu O key vs.length (kas_ask prog w A κ vs) s6) (λ_ _=>False) s6
structure zD (O:KeyOrd) (key:Nat->O.α) (n:Nat) (p:List Nat):Prop where
 perm:p.Perm (List.range n)
 up:(p.map key).Pairwise O.kle
theorem Cv{n:Nat}{p:Array Nat}(h1:p.Perm (toArray (List.range n)))(h2:Up O key p n):zD O key n p.toList:=by
 have hp:p.toList.Perm (List.range n):=by simpa using Array.perm_iff_toList_perm.mp h1
 refine⟨hp,UG.mpr λi j hi hj hij=>?_⟩;have hz:p.toList.length=n:=by rw[hp.length_eq,List.length_range]
 rw[S1]at hi hj;have q:=h2 i j (US hij) (by omega);have ei:p.getD i 0=p.toList[i]:=by simp at hi;simp[Array.getD,hi]
 have ej:p.getD j 0=p.toList[j]:=by simp at hj;simp[Array.getD,hj]
 unfold K at q;rw[ei,ej]at q;rw[U0,U0];exact q
theorem zE{n:Nat}(ho:s.heap.get? a=some (seqObj "list" vs.toArray n))(h64:vs.length<64)
  (hk:2<=vs.length->∀h6:Heap,(∀b o,b≠a->s.heap.get? b=some o->h6.get? b=some o)->vA prog w A O key vs { s with heap:=h6 })
  (h:∀p,zD O key vs.length p->P (.done (.ret .none)) { s with heap:=sortedHeap s.heap a vs (p.map λi=>vs.getD i Value.none).toArray }) :
  wpAny (model prog w) A (Builtin.«list.sort» ⟨[.ref a],[]⟩) P E s:=by
 have alt:a<s.heap.objs.size:=S9 ho;have big:vs.length<=sizeLine:=by rw[T7];omega
 rw[list_sort_plain];apply S0;apply listItems_at ho rfl;apply S0;refine listUpdate_at ho rfl ?_ (by rw[Tc];exact big) (U5 _);have q1:=get?_update_seq ho (λ_=>(#[]:Array Value));apply S0;apply seqEpoch_at q1 rfl;apply S0;refine wpAny_newTuple ?_ (by show vs.length<=sizeLine;exact big);apply S0;refine wpAny_newList ?_ (U5 _);apply Uk;generalize hN:((s.heap.update a (Obj.mapSeq λ_=>(#[]:Array Value))).push (seqObj "tuple" vs.toArray 0)).push (seqObj "list" #[] 0)=h6;have KO:∀b o,b≠a->s.heap.get? b=some o->h6.get? b=some o:=λb o hb e=>by
  rw[<-hN];refine SY _ (SY _ ?_);rw[Heap.get?_update_ne _ _ _ _ hb];exact e
 have q6:h6.get? a=some (seqObj "list" #[] (if (#[]:Array Value).size==vs.toArray.size then n else n+1)):=by rw[<-hN];exact SY _ (SY _ q1)
 have eS:∀out,h6.update a (Obj.mapSeq λ_=>out)=sortedHeap s.heap a vs out:=λout=>by rw[<-hN];rfl
 show wpAny (model prog w) A _ P E { s with heap:=h6 };dsimp only
 by_cases h2:vs.toArray.size<2
 ·rw[S7 h2,S7 h2]
  apply S0;apply Th;rw[StateT.run_pure];apply S0;apply Th;dsimp only;have eo:(arrOf (SortSt.mk' general' (vs.toArray.zip vs.toArray) #[] 7 none)).map (·.2)=vs.toArray:=by show (vs.toArray.zip vs.toArray).map (·.2)=vs.toArray;apply Array.toList_inj.mp;simp[List.map_snd_zip]
  rw[eo];apply S0;apply seqEpoch_at q6 rfl;apply S0;refine listUpdate_at q6 rfl ?_ (U5 _) (by show vs.toArray.size<=_;rw[Tc];omega);have hb:((if (#[]:Array Value).size==vs.toArray.size then n else n+1) != (if (#[]:Array Value).size==vs.toArray.size then n else n+1))=false:=by simp
  rw[eS];simp only[hb,false_eq_true,if_false];apply Th;have g:=h (List.range vs.length) ⟨List.Perm.refl _,?_⟩
  ·rw[fE]at g;exact g
  ·rw[Tc]at h2;refine UG.mpr λi j hi hj hij=>?_;simp at hi hj;omega
 ·rw[S8 h2,S8 h2]
  rw[Tc]at h2;have ask:=hk (by omega) h6 KO;apply S0;refine TY ask (λκ s0 hκ=>?_) λ_ _ x=>x.elim;obtain⟨rfl,Q9⟩:=hκ;apply S0;refine TY (kat_run (Q:=λst' s'=>s'={ s with heap:=h6 }/\∃p:Array Nat,zD O key vs.length p.toList/\p.size=vs.length/\(arrOf st').map (·.2)=(p.toList.map λi=>vs.getD i Value.none).toArray/\failedOf st'=none)
   (G:=λp s'=>s'={ s with heap:=h6 }/\zD O key vs.length p.toList) rfl (by omega) h64 (λp st' s' a1 a2 a3 a4=>⟨a4.1,p,a4.2,a1,kat_snds rfl a2,a3⟩)
   (KN Q9 (by omega) λp b1 b2=>⟨rfl,Cv b1 b2⟩)) ?_ λ_ _ x=>x
  rintro⟨⟨⟩,st'⟩ s' ⟨rfl,p,op,pz,er,ef⟩;dsimp only;rw[er];apply S0;apply seqEpoch_at q6 rfl;apply S0;refine listUpdate_at q6 rfl ?_ (U5 _) (by show (toArray _).size<=_;rw[Tc,S1,Uv,pz];omega);have hb:((if (#[]:Array Value).size==vs.toArray.size then n else n+1) != (if (#[]:Array Value).size==vs.toArray.size then n else n+1))=false:=by simp
  rw[eS,ef];simp only[hb,false_eq_true,if_false];exact Th (h p.toList op)
theorem mV
  (h:wpAny (model prog w) A.in1 (collect x) (λvs s1=>vs.length<64/\∃key:Nat->O.α,(2<=vs.length->∀h6:Heap,(∀b o,s1.heap.get? b=some o->h6.get? b=some o)->vA prog w A.in1.in1 O key vs { s1 with heap:=h6 }) /\
   ∀p h',zD O key vs.length p->(∀b o,s1.heap.get? b=some o->h'.get? b=some o)->(∃e,h'.get? s1.heap.objs.size=some (seqObj "list" (p.map λi=>vs.getD i Value.none).toArray e))->Q (.ref s1.heap.objs.size) { s1 with heap:=h' }) E s) :
  wpAny (model prog w) A (call (.builtin "sorted") [x]) Q E s:=by
 refine Calls.call_function_entry kind_sorted plain_sorted entry_sorted (args_sorted1 _) ?_;unfold Builtin.«sorted»;refine S0 (m:=checkCount "sorted" 1 1 _) (Th ?_);apply S0;refine TY h (λvs s1 ⟨h64,key,hk,hq⟩=>?_) λ_ _ z=>z;have big:vs.length<=sizeLine:=by rw[T7];omega
 apply S0;refine wpAny_newList ?_ big;have q:(s1.heap.push (seqObj "list" vs.toArray 0)).get? s1.heap.objs.size=some (seqObj "list" vs.toArray 0):=To _ rfl;apply S0;apply Uk;refine wpAny_call_entry (s:={ s1 with heap:=s1.heap.push (seqObj "list" vs.toArray 0) }) slot_list_sort ⟨_,q,rfl⟩ entry_list_sort ?_ (args_list_sort _);refine zE (key:=key) (s:={ s1 with heap:=s1.heap.push (seqObj "list" vs.toArray 0) }) q h64 (λh2 h6 k6=>?_) λp op=>⟨_,rfl,Th ⟨_,rfl,?_⟩⟩
 ·exact hk h2 h6 λb o e=>k6 b o (Tp (S9 e)) (SY _ e)
 ·refine hq p _ op (λb o e=>?_) (sortedHeap_at q);rw[sortedHeap_old (Tp (S9 e)) (by rw[size_push'];exact UA (S9 e))];exact SY _ e
end
theorem gW:∀a,HT.lexLt a a=false
 |[]=>rfl
 |x::xs=>by rw[HT.fz,S7 rfl];exact gW xs
theorem fY:∀a b,HT.lexLt a b=false->HT.lexLt b a=false->a=b
 |[],[],_,_=>rfl
 |[],_::_,h,_=>by rw[HT.fD]at h;cases h
 |_::_,[],_,h=>by rw[HT.fD]at h;cases h
 | x::xs,y::ys,h1,h2=>by
  rw[HT.fz]at h1 h2
  by_cases e:x=y
  ·subst e;rw[S7 rfl]at h1 h2;rw[fY xs ys h1 h2]
  ·rw[S8 e]at h1;rw[S8 (λz=>e z.symm)]at h2;simp at h1 h2;omega
theorem fZ:∀a b c,HT.lexLt a b=true->HT.lexLt b c=true->HT.lexLt a c=true
 |[],[],c,h,_=>by rw[HT.n8]at h;cases h
 |[],_::_,[],_,h=>by rw[HT.cW]at h;cases h
 |[],_::_,_::_,_,_=>rfl
 |_::_,[],_,h,_=>by rw[HT.cW]at h;cases h
 |_::_,_::_,[],_,h=>by rw[HT.cW]at h;cases h
 | x::xs,y::ys,z::zs,h1,h2=>by
  rw[HT.fz]at h1 h2 |-
  by_cases e1:x=y
  ·subst e1
   rw[S7 rfl]at h1
   by_cases e2:x=z
   ·subst e2;rw[S7 rfl]at h2 |-;exact fZ xs ys zs h1 h2
   ·rw[S8 e2]at h2 |-;exact h2
  ·rw[S8 e1]at h1
   by_cases e2:y=z
   ·subst e2;rw[S8 e1];exact h1
   ·rw[S8 e2]at h2;simp at h1 h2;rw[S8 (by omega)];simp;omega
theorem oY(a b c:List Int)(h:HT.lexLt a c=true):HT.lexLt a b=true\/HT.lexLt b c=true:=by
 cases h1:HT.lexLt a b with
 |true=>exact .inl rfl
 |false=>
  cases h2:HT.lexLt b c with
  |true=>exact .inr rfl
  |false=>
   cases h3:HT.lexLt b a with
   |true=>have:=fZ _ _ _ h3 h;rw[h2]at this;cases this
   |false=>rw[fY _ _ h1 h3]at h;rw[h2]at h;cases h
def lexOrd:KeyOrd where
 α:=List Int
 blt:=HT.lexLt
 irrefl:=gW
 trans:=fZ
 negTrans:=oY
 total:=fY
section
variable {prog:Program} {w:World} {A:Around} {s:Shared}
theorem lJ{b fin:Bool}:∀{us vs:List Value} {ns ms:List Int} (i:Nat),IntsAre us ns->IntsAre vs ms->(ns.length<ms.length↔fin=true)->us.length=ns.length ->
  Q (HT.lexLt ns ms) s->(ns.length=ms.length\/i=i)->(∀k,k<ns.length->k<ms.length->True)->(ns.length≠ms.length->True)->(fin=decide (ns.length<ms.length))->KatLex prog w A b fin Q (us.zip vs) i s
 | _,_,_,_,i,.nil,.nil,_,_,hq,_,_,_,hf=>by
  refine kat_nil ?_;rw[hf];exact hq
 | _,_,_,_,i,.nil,.cons _ _ _,_,_,hq,_,_,_,hf=>by
  refine kat_nil ?_;rw[hf];simpa [HT.fD] using hq
 | _,_,_,_,i,.cons _ _ _,.nil,_,_,hq,_,_,_,hf=>by
  refine kat_nil ?_;rw[hf];simpa [HT.cW] using hq
 | _,_,_,_,i,.cons x t r,.cons y u r',h1,h2,hq,_,_,_,hf=>by
  refine kat_cons (wpAny_eqBool_int ?_);rw[HT.fz]at hq
  by_cases e:x=y
  ·subst e
   rw[S7 rfl]at hq;rw[UD];refine kat_yes (lJ (i+1) r r' ?_ ?_ hq (.inr rfl) (λ_ _ _=>trivial) (λ_=>trivial) ?_)
   ·simpa using h1
   ·simpa using h2
   ·rw[hf];simp
  ·rw[S8 e]at hq
   rw[show (x==y)=false from T6.mpr e];refine kat_no ?_;cases hb:(b&&i==0) with
   |true=>exact oneLt_int hq
   |false=>exact kat_one _ _ (PyProof.Rows.lt_int hq)
end
end uz
end L2
end
section
namespace L2
open PySem PySem.Spec PyProof.Rows
def Ol:Key->PyData
 |.inl i=>.int i
 |.inr x=>.str x
mutual
noncomputable def Den(K:Frag)(H:Hp):PyData->V->Prop
 |.none,v=>v=.non
 |.bool b,v=>v=.bl b
 |.int i,v=>v=.int i
 |.str x,v=>v=.str x
 |.list ds,v=>∃a xs,v=.ref a/\fu K H a xs/\cU K H ds xs
 |.tuple ds,v=>∃a xs,v=.ref a/\gS K H a xs/\cU K H ds xs
 |.dict kvs,v=>∃a ks,v=.ref a/\H a=some (.dK ks)/\j3 K H kvs ks
noncomputable def cU(K:Frag)(H:Hp):List PyData->List V->Prop
 |[],xs=>xs=[]
 |d::ds,xs=>∃x r,xs=x::r/\Den K H d x/\cU K H ds r
noncomputable def j3(K:Frag)(H:Hp):List (PyData×PyData)->List (Key×V)->Prop
 |[],ks=>ks=[]
 |(k,d)::r,ks=>∃key x rest,ks=(key,x)::rest/\k=Ol key/\Den K H d x/\j3 K H r rest
end
theorem ux.tup{K:Frag}{H H':Hp}{a:Addr}{xs:List V}(e:ux H H')(h:gS K H a xs):gS K H' a xs:=by
 rcases h with (h|⟨o,h⟩)|h
 ·exact .inl (.inl (e _ _ h))
 ·exact .inl (.inr ⟨o,e _ _ h⟩)
 ·exact .inr h
section
variable {K:Frag} {H H':Hp}
mutual
theorem Den.same(e:ux H H'):∀(d:PyData) (v:V),Den K H d v->Den K H' d v
 |.none,_,h=>by rw[Den]at h |-;exact h
 |.bool _,_,h=>by rw[Den]at h |-;exact h
 |.int _,_,h=>by rw[Den]at h |-;exact h
 |.str _,_,h=>by rw[Den]at h |-;exact h
 | .list ds,v,h=>by
  rw[Den]at h |-;obtain⟨a,xs,q1,q2,q3⟩:=h;exact⟨a,xs,q1,e.seq q2,cU.same e ds xs q3⟩
 | .tuple ds,v,h=>by
  rw[Den]at h |-;obtain⟨a,xs,q1,q2,q3⟩:=h;exact⟨a,xs,q1,e.tup q2,cU.same e ds xs q3⟩
 | .dict kvs,v,h=>by
  rw[Den]at h |-;obtain⟨a,ks,q1,q2,q3⟩:=h;exact⟨a,ks,q1,e _ _ q2,j3.same e kvs ks q3⟩
theorem cU.same(e:ux H H'):∀(ds:List PyData) (xs:List V),cU K H ds xs->cU K H' ds xs
 |[],_,h=>by rw[cU]at h |-;exact h
 | d::ds,xs,h=>by
  rw[cU]at h |-;obtain⟨x,r,q1,q2,q3⟩:=h;exact⟨x,r,q1,Den.same e d x q2,cU.same e ds r q3⟩
theorem j3.same(e:ux H H'):∀(kvs:List (PyData×PyData)) (ks:List (Key×V)),j3 K H kvs ks->j3 K H' kvs ks
 |[],_,h=>by rw[j3]at h |-;exact h
 | (k,d)::r,ks,h=>by
  rw[j3]at h |-;obtain⟨key,x,rest,q1,q2,q3,q4⟩:=h;exact⟨key,x,rest,q1,q2,Den.same e d x q3,j3.same e r rest q4⟩
end
theorem cU.nil:cU K H [] []:=by rw[cU]
theorem cU.cons{d:PyData}{ds:List PyData}{x:V}{r:List V}(h1:Den K H d x)(h2:cU K H ds r):cU K H (d::ds) (x::r):=by rw[cU];exact⟨x,r,rfl,h1,h2⟩
theorem Den.int{i:Int}:Den K H (.int i) (.int i):=by rw[Den]
theorem Den.str:Den K H (.str x) (.str x):=by rw[Den]
theorem Den.bool{b:Bool}:Den K H (.bool b) (.bl b):=by rw[Den]
theorem Den.none:Den K H .none .non:=by rw[Den]
theorem Den.list(h:fu K H a xs)(q:cU K H ds xs):Den K H (.list ds) (.ref a):=by rw[Den];exact⟨a,xs,rfl,h,q⟩
theorem Den.tuple(h:gS K H a xs)(q:cU K H ds xs):Den K H (.tuple ds) (.ref a):=by rw[Den];exact⟨a,xs,rfl,h,q⟩
end
section
variable {X:Cx} {pins:List (Addr×Obj)} {σ:St} {H:Hp} {s:Shared}
mutual
theorem Den.reads(I:Inv X pins σ H s):∀(d:PyData) (v:V) (u:Value),d.canLay0=true->Den X.K H d v->RelV v u->∃as,Reads s.heap u d as
 |.none,v,u,_,h,r=>by rw[Den]at h;subst h;cases r;exact⟨_,.none⟩
 |.bool b,v,u,_,h,r=>by rw[Den]at h;subst h;cases r;exact⟨_,.bool b⟩
 |.int i,v,u,_,h,r=>by rw[Den]at h;subst h;obtain⟨t,rfl⟩:=r;exact⟨_,.int i t⟩
 |.str x,v,u,_,h,r=>by rw[Den]at h;subst h;obtain⟨t,rfl⟩:=r;exact⟨_,.str x t⟩
 | .list ds,v,u,c,h,r=>by
  rw[Den]at h;obtain⟨a,xs,rfl,q1,q2⟩:=h;cases r;obtain⟨its,rv,⟨o,n,e1,e2,_,e3⟩,_⟩:=I.list q1;obtain⟨as,ra⟩:=cU.reads I ds xs its (by simpa [PyData.canLay0] using c) q2 rv;exact⟨_,.list e1 e2 e3 (by simpa using ra)⟩
 | .tuple ds,v,u,c,h,r=>by
  rw[Den]at h;obtain⟨a,xs,rfl,q1,q2⟩:=h;cases r;obtain⟨its,rv,⟨o,e1,e2,n,e3⟩,_⟩:=I.tuple q1;obtain⟨as,ra⟩:=cU.reads I ds xs its (by simpa [PyData.canLay0] using c) q2 rv;exact⟨_,.tuple e1 e2 e3 (by simpa using ra)⟩
 |.dict _,_,_,c,_,_=>by simp[PyData.canLay0]at c
theorem cU.reads(I:Inv X pins σ H s):∀(ds:List PyData) (xs:List V) (us:List Value),PyData.canLayAll0 ds=true->cU X.K H ds xs->Vals xs us->∃as,ReadsAll s.heap us ds as
 |[],xs,us,_,h,r=>by rw[cU]at h;subst h;cases r;exact⟨_,.nil⟩
 | d::ds,xs,us,c,h,r=>by
  have c':d.canLay0=true/\PyData.canLayAll0 ds=true:=by simpa [PyData.canLayAll0] using c
  rw[cU]at h;obtain⟨x,rest,rfl,q1,q2⟩:=h;cases r with
  |cons r1 r2=>obtain⟨as,ra⟩:=Den.reads I d x _ c'.1 q1 r1;obtain⟨bs,rb⟩:=cU.reads I ds rest _ c'.2 q2 r2;exact⟨_,.cons ra rb⟩
end
end
section
variable {X:Cx}
def Om(K:Frag):R2:=λx y H Q=>∃d e,Den K H d x/\Den K H e y/\d.canLay0=true/\e.canLay0=true/\d.depth<=60/\Q (.bl (PyData.eqv d e)) H
def Oo(K:Frag):R2:=λx y H Q=>∃d e,Den K H d x/\Den K H e y/\d.canLay0=true/\e.canLay0=true/\d.depth<=60/\Q (.bl (!PyData.eqv d e)) H
theorem FZ(hu:X.A.units+64<cLine):kK X (compareOp .Eq) (Om X.K):=by
 intro pins s σ H x y v u Q I rx ry h;obtain⟨d,e,hd,he,c1,c2,hz,q⟩:=h;obtain⟨as,ra⟩:=Den.reads I d x v c1 hd rx;obtain⟨bs,rb⟩:=Den.reads I e y u c2 he ry;exact SeqAt.compareEq_reads ra rb c1 c2 (by have:=Nat.min_le_left d.depth e.depth;omega) ⟨.bl _,H,I,rfl,q⟩
theorem Ga(hu:X.A.units+64<cLine):kK X (compareOp .NotEq) (Oo X.K):=by
 intro pins s σ H x y v u Q I rx ry h;obtain⟨d,e,hd,he,c1,c2,hz,q⟩:=h;obtain⟨as,ra⟩:=Den.reads I d x v c1 hd rx;obtain⟨bs,rb⟩:=Den.reads I e y u c2 he ry;exact SeqAt.compareNe_reads ra rb c1 c2 (by have:=Nat.min_le_left d.depth e.depth;omega) ⟨.bl _,H,I,rfl,q⟩
theorem mW{ns:List Int}(I:Inv X pins σ H s)(hq:fu X.K H p (ns.map V.int))(h64:ns.length<64)
  (q:∀l,H l=none->Q (.ref l) (upd H l (.lst ((sortI ns).map V.int)))):wpAny (model X.prog X.w) X.A (call (.builtin "sorted") [.ref p]) (EP X pins σ Q) X.xe s:=by
 obtain⟨its,rv,pl,hz⟩:=I.list hq;have hi:=intsAre_of rv;have hl:=hi.length;refine sorted_ints pl.isList hi (by omega) λout ns' a1 a2 a3=>?_;obtain⟨e,he⟩:=sortedAll_at s.heap its out;have es:ns'=sortI ns:=eq_sortI a2 a3;subst es;have hn:H (s.heap.objs.size+1)=none:=I.hok.fresh (Ue _);refine⟨.ref (s.heap.objs.size+1),_,I.laid (t':=s.toks) (λb o z=>sortedAll_old z) (Ue _) (show bM X.prog X.w _ _ _ (.lst ((sortI ns).map V.int)) from⟨?_,out.toList,e,gr a1,by simpa using he⟩),rfl,q _ hn⟩;rw[S1,(Um ns).length_eq,T7];omega
theorem kP:b8 X (.builtin "sorted") (λxs H Q=>∃p ns,xs=[.ref p]/\fu X.K H p (ns.map V.int)/\ns.length<64/\∀l,H l=none->Q (.ref l) (upd H l (.lst ((sortI ns).map V.int)))):=by
 intro pins s σ H xs us Q I r h;obtain⟨p,ns,rfl,hq,h64,q⟩:=h;obtain⟨u,rfl,ru⟩:=vals1 r;cases ru;exact mW I hq h64 q
def KP(K:Frag)(H:Hp)(r:Addr×List Int):Prop:=gS K H r.1 (r.2.map V.int)/\r.2≠[]
theorem uB{pins:List (Addr×Obj)}{σ:St}{H:Hp}{s:Shared}{A:Around}{rs:List (Addr×List Int)}{h6:Heap}{s6:Shared}(I:Inv X pins σ H s)(ht:∀r∈rs,KP X.K H r)(h2:2<=rs.length)(k:∀b o,s.heap.get? b=some o->s6.heap.get? b=some o) :
  uz.vA X.prog X.w A uz.lexOrd (λi=>(rs.getD i (0,[])).2) (rs.map λr=>Value.ref r.1) s6:=by
 have tup:∀r∈rs,∃its o n,s6.heap.get? r.1=some o/\o.cls=.type "tuple" /\ o.data=.seq (toArray its) n/\IntsAre its r.2:=λr hr=>by
  obtain⟨its,rv,⟨o,e1,e2,n,e3⟩,_⟩:=I.tuple (ht r hr).1;exact⟨its,o,n,k _ _ e1,e2,e3,intsAre_of rv⟩
 have kt:∀rs:List (Addr×List Int),(∀r∈rs,∃its o n,s6.heap.get? r.1=some o/\o.cls=.type "tuple" /\ o.data=.seq (toArray its) n/\IntsAre its r.2)->(∀r∈rs,r.2≠[]) ->
   ∃fs,PySem.W.KatTups s6.heap (rs.map λr=>Value.ref r.1) fs/\fs.length=rs.length/\∀v∈fs,∃i t,v=Value.int i t:=by
  intro rs
  induction rs with
  |nil=>intro _ _;exact⟨[],PySem.W.KatTups.nil,rfl,λv hv=>nomatch hv⟩
  |cons r rs ih=>
   intro g1 g2;obtain⟨fs,q1,q2,q3⟩:=ih (λr' hr'=>g1 r' (S2 _ hr')) λr' hr'=>g2 r' (S2 _ hr');obtain⟨its,o,n,e1,e2,e3,hi⟩:=g1 r S3;have hne:=g2 r S3;cases hr:r.2 with
   |nil=>exact absurd hr hne
   |cons i is=>
    rw[hr]at hi;cases hi with
    |cons _ t hi'=>
     refine⟨.int i t::fs,PySem.W.KatTups.cons e1 e2 e3 (by simp) q1,by simp[q2],λv hv=>?_⟩
     rcases Td.mp hv with z|z
     ·exact⟨i,t,z⟩
     ·exact q3 v z
 obtain⟨fs,q1,q2,q3⟩:=kt rs tup λr hr=>(ht r hr).2;unfold uz.vA;refine PySem.W.kat_kind q1 (by omega) (T:=Value.type "int") (λv hv=>?_) rfl ⟨rfl,λi j C hi hj hc=>?_⟩
 ·obtain⟨i,t,rfl⟩:=q3 v hv;exact PySem.W.Looks.of_pure rfl
 ·rw[S1]at hi hj
  unfold PySem.W.kas_ask;have e1:(rs.map λr=>Value.ref r.1).getD i Value.none=Value.ref rs[i].1:=by simp[hi]
  have e2:(rs.map λr=>Value.ref r.1).getD j Value.none=Value.ref rs[j].1:=by simp[hj]
  have e3:rs.getD i (0,[])=rs[i]:=by simp[hi]
  have e4:rs.getD j (0,[])=rs[j]:=by simp[hj]
  rw[e1,e2];simp only[e3,e4]at hc;obtain⟨its,o,n,a1,a2,a3,a4⟩:=tup rs[i] (U3 hi);obtain⟨its',o',n',b1,b2,b3,b4⟩:=tup rs[j] (U3 hj);have l1:=a4.length;have l2:=b4.length;refine kat_lt a1 a3 b1 b3 (uz.lJ 0 a4 b4 ?_ l1 hc (.inr rfl) (λ_ _ _=>trivial) (λ_=>trivial) ?_)
  ·rw[Tc,Tc,l1,l2];simp
  ·rw[Tc,Tc,l1,l2]
theorem xW{rs:List (Addr×List Int)}:∀{us:List Value},Vals (rs.map λr=>V.ref r.1) us->us=rs.map λr=>Value.ref r.1:=by
 induction rs with
 |nil=>intro us r;cases r;rfl
 |cons a rs ih=>
  intro us r;cases r with
  |cons r1 r2=>cases r1;rw[ih r2];rfl
theorem kQ:b8 X (.builtin "sorted") (λxs H Q=>∃(p:Addr) (rs:List (Addr×List Int)),xs=[.ref p]/\fu X.K H p (rs.map λr=>V.ref r.1)/\rs.length<64/\(∀r∈rs,KP X.K H r) /\
  ∀(l:Addr) (qs:List (Addr×List Int)),H l=none->qs.Perm rs->qs.Pairwise (λa b=>HT.lexLt b.2 a.2=false)->Q (.ref l) (upd H l (.lst (qs.map λr=>V.ref r.1)))):=by
 intro pins s σ H xs us Q I r h;obtain⟨p,rs,rfl,hq,h64,ht,q⟩:=h;obtain⟨u,rfl,ru⟩:=vals1 r;cases ru;obtain⟨its,rv,pl,hz⟩:=I.list hq;have ev:=xW rv;subst ev;refine uz.mV (O:=uz.lexOrd) (collect_list pl.isList ?_ (by rw[S1,T7];omega));have k1:∀b o,s.heap.get? b=some o->((s.heap.push (seqObj "list" #[] 0)).update s.heap.objs.size (Obj.mapSeq (· ++ (rs.map λr=>Value.ref r.1).toArray))).get? b=some o:=λb o e=>by
  rw[Heap.get?_update_ne _ _ _ _ (Tp (S9 e))];exact SY _ e
 have Ra:((s.heap.push (seqObj "list" #[] 0)).update s.heap.objs.size (Obj.mapSeq (· ++ (rs.map λr=>Value.ref r.1).toArray))).objs.size=s.heap.objs.size+1:=by rw[Heap.size_update,size_push']
 refine⟨by rw[S1];exact h64,λi=>(rs.getD i (0,[])).2,λh2 h6 k6=>?_,λpp h' op k' he=>?_⟩
 ·rw[S1]at h2;exact uB (h6:=h6) I ht h2 λb o e=>k6 b o (k1 b o e)
 ·rw[S1]at op
  dsimp only at k' he |-;rw[Ra]at he |-;obtain⟨e,he⟩:=he;have hn:H (s.heap.objs.size+1)=none:=I.hok.fresh (Ue _);have lp:pp.length=rs.length:=by rw[op.perm.length_eq,List.length_range]
  have mem:∀i∈pp,i<rs.length:=λi hi=>by simpa using op.perm.mem_iff.mp hi
  have Oq:(pp.map λi=>(rs.map λr=>Value.ref r.1).getD i Value.none)=(pp.map λi=>rs.getD i (0,[])).map λr=>Value.ref r.1:=by rw[Tu];refine TQ λi hi=>?_;simp[mem i hi]
  have qp:(pp.map λi=>rs.getD i (0,[])).Perm rs:=by have:=op.perm.map λi=>rs.getD i (0,[]);rwa [uz.fE]at this
  have qs:(pp.map λi=>rs.getD i (0,[])).Pairwise (λa b=>HT.lexLt b.2 a.2=false):=by have up1:=UB.mp op.up;exact UB.mpr up1
  refine⟨.ref (s.heap.objs.size+1),_,I.laid (t':=s.toks) (λb o z=>k' b o (k1 b o z)) (Ue _) (show bM X.prog X.w _ _ _ (.lst ((pp.map λi=>rs.getD i (0,[])).map λr=>V.ref r.1)) from⟨?_,_,e,?_,he⟩),rfl,q _ _ hn qp qs⟩
  ·rw[S1,S1,lp,T7];omega
  ·rw[Oq]
   generalize (pp.map λi=>rs.getD i (0,[]))=zs
   induction zs with
   |nil=>exact .nil
   |cons z zs ih=>exact .cons rfl ih
theorem vB{ns:List Int}(h:IntsAre us ns):∀(i:Nat) (v:Value),us[i]?=some v->∃t,v=.int (ns.getD i 0) t:=by
 induction h with
 |nil=>intro i v e;simp at e
 |cons z t r ih=>
  intro i v e;cases i with
  |zero=>simp at e;exact⟨t,by simp[<-e]⟩
  |succ i=>obtain⟨u,q⟩:=ih i v (by simpa using e);exact⟨u,by simpa using q⟩
theorem oZ{pins:List (Addr×Obj)}{σ:St}{H:Hp}{s:Shared}{p:Addr}{ns:List Int}(I:Inv X pins σ H s)(hc:X.calm=true)(hq:fu X.K H p (ns.map V.int)\/gS X.K H p (ns.map V.int))(hne:0<ns.length){Q:Value->Shared->Prop}{f:String}{bt:Int->Int->Bool}{op:CmpOp}
  (hf:∀{Q:Value->Shared->Prop},wpAny (model X.prog X.w) X.A.in1 (pyIter (.ref p)) (λit s₂=>∃I fp wr n P St bt,it=.ref I/\Walks X.prog X.w X.A.in1 I fp wr n P St/\St 0 s₂.heap/\(∀b∈fp,b<s₂.heap.objs.size)/\0<n/\CmpOf X.prog X.w X.A.in1 op P bt /\
   ∀v h' tk,P (argBest bt (n-1)) v->(∀b o,b∉wr->s₂.heap.get? b=some o->h'.get? b=some o)->Q v { s₂ with heap:=h',toks:=tk }) X.xe s->wpAny (model X.prog X.w) X.A (call (.builtin f) [.ref p]) Q X.xe s)
  (hcmp:∀(P:Nat->Value->Prop),(∀i v,P i v->∃t,v=.int (ns.getD i 0) t)->CmpOf X.prog X.w X.A.in1 op P λi j=>bt (ns.getD i 0) (ns.getD j 0))
  (h:∀t h' tk,(∀b o,s.heap.get? b=some o->h'.get? b=some o)->argBest (λi j=>bt (ns.getD i 0) (ns.getD j 0)) (ns.length-1)<ns.length->Q (.int (ns.getD (argBest (λi j=>bt (ns.getD i 0) (ns.getD j 0)) (ns.length-1)) 0) t) { s with heap:=h',toks:=tk }) :
  wpAny (model X.prog X.w) X.A (call (.builtin f) [.ref p]) Q X.xe s:=by
 have hh:X.A.in1.handled=none:=I.ok.hd hc;have up:∀{us:List Value} (P:Nat->Value->Prop) (hi:IntsAre us ns),(∀i v,P i v->us.toArray[i]?=some v)->∀i v,P i v->∃t,v=.int (ns.getD i 0) t:=λP hi hP i v q=>vB hi i v (by simpa using hP i v q);have best:∀{us:List Value} (hi:IntsAre us ns) (v:Value) (h':Heap) (tk:Nat),us.toArray[argBest (λi j=>bt (ns.getD i 0) (ns.getD j 0)) (us.toArray.size-1)]?=some v->(∀b o,s.heap.get? b=some o->h'.get? b=some o)->Q v { s with heap:=h',toks:=tk }:=λ{us} hi v h' tk e k=>by
  have hl:=hi.length;rw[Tc,hl]at e;have e':us[argBest (λi j=>bt (ns.getD i 0) (ns.getD j 0)) (ns.length-1)]?=some v:=by simpa using e
  obtain⟨t,rfl⟩:=vB hi _ v e';exact h t h' tk k (by have:=(SW.mp e').1;omega)
 rcases hq with hq|hq
 ·obtain⟨its,rv,pl,hz⟩:=I.list hq
  have hi:=intsAre_of rv;have hl:=hi.length;have hpl:=pl.isList;have hlt:p<s.heap.objs.size:=by obtain⟨_,e,_⟩:=hpl;exact S9 e
  refine hf (UU hpl ⟨s.heap.objs.size,[s.heap.objs.size,p],[s.heap.objs.size],its.toArray.size,_,_,λi j=>bt (ns.getD i 0) (ns.getD j 0),rfl,Walks.list hh _ p (Tp hlt) its.toArray,⟨⟨_,To _ rfl,rfl,rfl⟩,hpl.push _⟩,λb hb=>?_,by rw[Tc];omega,
   hcmp _ (up _ hi λi v q=>q),λv h' tk e k=>?_⟩)
  ·simp only[size_push']
   rcases Td.mp hb with z|z
   ·rw[z];exact Ub _
   ·rw[Ti.mp z];exact UA hlt
  ·exact best hi v h' tk e λb o z=>k b o (by simp;exact Tp (S9 z)) (SY _ z)
 ·obtain⟨its,rv,pl,hz⟩:=I.tuple hq
  have hi:=intsAre_of rv;have hl:=hi.length;have hpl:s.heap.IsTuple p its.toArray:=pl;have hlt:p<s.heap.objs.size:=by obtain⟨_,e,_⟩:=hpl;exact S9 e
  refine hf (wpAny_pyIter_tuple hpl ⟨s.heap.objs.size,[s.heap.objs.size,p],[s.heap.objs.size],its.toArray.size,_,_,λi j=>bt (ns.getD i 0) (ns.getD j 0),rfl,Walks.tuple hh _ p (Tp hlt) its.toArray,⟨⟨_,To _ rfl,rfl,rfl⟩,?_⟩,λb hb=>?_,by rw[Tc];omega,
   hcmp _ (up _ hi λi v q=>q),λv h' tk e k=>?_⟩)
  ·obtain⟨o,e,c⟩:=hpl;exact⟨o,SY _ e,c⟩
  ·simp only[size_push']
   rcases Td.mp hb with z|z
   ·rw[z];exact Ub _
   ·rw[Ti.mp z];exact UA hlt
  ·exact best hi v h' tk e λb o z=>k b o (by simp;exact Tp (S9 z)) (SY _ z)
theorem qw(hc:X.calm=true):b8 X (.builtin "min") (λxs H Q=>∃(p:Addr) (ns:List Int),xs=[.ref p]/\(fu X.K H p (ns.map V.int)\/gS X.K H p (ns.map V.int))/\0<ns.length/\∀m,m∈ns->(∀a∈ns,m<=a)->Q (.int m) H):=by
 intro pins s σ H xs us Q I r h;obtain⟨p,ns,rfl,hq,hne,q⟩:=h;obtain⟨u,rfl,ru⟩:=vals1 r;cases ru;refine oZ (bt:=λa b=>decide (a<b)) (op:=.Lt) I hc hq hne (λ{Q} h=>call_min_walk h) (λP hP=>?_) λt h' tk k hb=>⟨.int _,H,I.kept k,⟨t,rfl⟩,q _ ?_ λa ha=>?_⟩
 ·intro i j x y s' Q' E' hx hy hQ;obtain⟨t,rfl⟩:=hP i x hx;obtain⟨t',rfl⟩:=hP j y hy;exact lt_int (by simpa using hQ)
 ·exact getD_mem hb
 ·obtain⟨j,hj,rfl⟩:=mem_getD ha;exact(argBest_lt (λi=>ns.getD i 0) (ns.length-1)).2 j (by omega)
theorem qy(hc:X.calm=true):b8 X (.builtin "max") (λxs H Q=>∃(p:Addr) (ns:List Int),xs=[.ref p]/\(fu X.K H p (ns.map V.int)\/gS X.K H p (ns.map V.int))/\0<ns.length/\∀m,m∈ns->(∀a∈ns,a<=m)->Q (.int m) H):=by
 intro pins s σ H xs us Q I r h;obtain⟨p,ns,rfl,hq,hne,q⟩:=h;obtain⟨u,rfl,ru⟩:=vals1 r;cases ru;refine oZ (bt:=λa b=>decide (a>b)) (op:=.Gt) I hc hq hne (λ{Q} h=>call_max_walk h) (λP hP=>?_) λt h' tk k hb=>⟨.int _,H,I.kept k,⟨t,rfl⟩,q _ ?_ λa ha=>?_⟩
 ·intro i j x y s' Q' E' hx hy hQ;obtain⟨t,rfl⟩:=hP i x hx;obtain⟨t',rfl⟩:=hP j y hy;exact gt_int (by simpa using hQ)
 ·exact getD_mem hb
 ·obtain⟨j,hj,rfl⟩:=mem_getD ha;exact(argBest_gt (λi=>ns.getD i 0) (ns.length-1)).2 j (by omega)
end
section
variable {X:Cx}
theorem uC{bs:List Bool}:∀{us:List Value},Vals (bs.map V.bl) us->us=bs.map Value.bool:=by
 induction bs with
 |nil=>intro us r;cases r;rfl
 |cons a bs ih=>
  intro us r;cases r with
  |cons r1 r2=>cases r1;rw[ih r2];rfl
theorem mX(bs:List Bool):((List.range bs.length).all λi=>bs.getD i true)=bs.all id:=by
 conv=>rhs;rw[<-uz.fE bs true]
 rw[List.all_map];rfl
theorem oi(hc:X.calm=true):b8 X (.builtin "all") (λxs H Q=>∃(p:Addr) (bs:List Bool),xs=[.ref p]/\fu X.K H p (bs.map V.bl)/\Q (.bl (bs.all id)) H):=by
 intro pins s σ H xs us Q I r h;obtain⟨p,bs,rfl,hq,q⟩:=h;obtain⟨u,rfl,ru⟩:=vals1 r;cases ru;obtain⟨its,rv,pl,hz⟩:=I.list hq;have ev:=uC rv;subst ev;have hpl:=pl.isList;have hlt:p<s.heap.objs.size:=by obtain⟨_,e,_⟩:=hpl;exact S9 e
 refine call_all_walk (UU hpl ⟨s.heap.objs.size,[s.heap.objs.size,p],[s.heap.objs.size],_,_,_,λi=>bs.getD i true,rfl,Walks.list (A:=X.A.in1) (I.ok.hd hc) _ p (Tp hlt) (bs.map Value.bool).toArray,
  ⟨⟨_,To _ rfl,rfl,rfl⟩,hpl.push _⟩,λi v s' Q' E' hP hQ=>?_,λh' tk hk=>?_⟩)
 ·have hi:i<bs.length:=by simpa using (Array.getElem?_eq_some_iff.mp hP).1
  have e:v=Value.bool (bs.getD i true):=by
   have:(bs.map Value.bool)[i]?=some v:=by simpa using hP
   simp[hi]at this;simp[hi,this]
  subst e;exact Ur hQ
 ·have e:((List.range (bs.map Value.bool).toArray.size).all λi=>bs.getD i true)=bs.all id:=by rw[Tc,S1];exact mX bs
  rw[e];exact⟨.bl _,H,I.kept λb o z=>hk b o (by simp;exact Tp (S9 z)) (SY _ z),rfl,q⟩
section
open PySem.AutoSeq1 (wpAny_loadPart')
theorem qz(l b:Addr)(items items2:Array Value)(n n2:Nat)(dd2:Option Addr)(sl2:Array (Option Value))(hs0:¬(!items.isEmpty&&Builtin.List.listTooLong (items.size+items2.size))=true)(hs1:items.size<=sizeLine)(hs2:items.size+items2.size<=sizeLine+1) :
  Meets (Builtin.«list.extend» ⟨[.ref l,.ref b],[]⟩) (λ_ R s=>s.heap.get? l=some { cls:=.type "list",data:=.seq items n }/\s.heap.get? b=some { cls:=.type "tuple",dict:=dd2,data:=.seq items2 n2,slots:=sl2 } /\
   R (.ok (.ret Value.none)) { s with heap:=s.heap.update l (Obj.mapSeq λx=>x++items2) }) :=
 .of_wp λprog w A R s h=>by
  obtain⟨hp,g,d,tk,os⟩:=s;obtain⟨hl,hb,h⟩:=h;have f2:=AutoSeq1.sub_tuple_tuple;have f3:=AutoSeq1.sub_list_list;have f4:=AutoSeq1.sub_tuple_list;have f5:=AutoSeq1.sub_list_tuple;have hz':(items++items2).size<=sizeLine+1:=by rw[Array.size_append];exact hs2
  wp_walk using (wpAny_updateSeq hl rfl (hz:=hs1) (_hz':=hz')),wpAny_loadPart' hl,wpAny_loadPart' hb
  exact⟨_,rfl,h⟩
end
def zF(K:Frag):V->List V->Hp->VK->Prop:=λx vs H Q=>∃l b xs zs,x=.ref l/\vs=[.ref b]/\H l=some (.lst xs)/\gS K H b zs/\xs.length+zs.length<=sizeLine/\Q .non (upd H l (.lst (xs++zs)))
theorem uD:Nj X "list.extend" (zF X.K):=by
 intro pins s σ H x vs v us Q I rx rv h;obtain⟨l,b,xs,zs,rfl,rfl,hH,hB,hz,q⟩:=h;cases rx;obtain⟨u,rfl,ru⟩:=rv.one;cases ru;obtain⟨z,its,n,r,hl,e⟩:=I.zm hH;obtain⟨its2,r2,⟨⟨oc,od,Rb,osl⟩,e2,ec,n2,ed⟩,z2⟩:=I.tuple hB;cases ec;cases ed;have l2:=r2.length;have hsz:its.toArray.size+its2.toArray.size<=sizeLine:=by rw[Tc,Tc];omega
 have zo:¬ (!its.toArray.isEmpty&&Builtin.List.listTooLong (its.toArray.size+its2.toArray.size))=true:=by rw[rS hsz,Bool.and_false];exact SV
 refine Vp F.slot_list_extend ⟨_,e,rfl⟩ F.entry_list_extend (F.args_list_extend_2 _ _)
  (qz l b its.toArray its2.toArray n n2 od osl zo (by rw[Tc];omega) (by omega)) ⟨e,e2,?_⟩
 refine⟨.non,_,I.Cg (its':=its++its2) hH e (by simp) (r.append r2) ?_,rfl,q⟩;rw[Tv];omega
end
end L2
end
section
namespace L2
def mY(ks:List Int)(k:Int):List Int:=if k∈ks then ks else ks++[k]
end L2
end
section
namespace L2
open PySem PyProof.Rows
def fF:List Int->List Int->List Int
 |ks,[]=>ks
 |ks,k::r=>fF (mY ks k) r
theorem zG(ks:List Int)(k:Int):(mY ks k).length<=ks.length+1:=by unfold mY;split<;>simp
namespace SI
end SI
end L2
end
section
namespace L2
open PySem PySem.Spec PyProof.Rows
end L2
end
section
namespace L2
open PySem PySem.Spec PyProof.Rows PySem.W
section
variable {X:Cx}
def tLK(to:TE):TE:=λσ H Q=>to σ H λx H1=>∃a kvs,x=.ref a/\H1 a=some (.dK kvs)/\∀l,H1 l=none->Q (.ref l) (upd H1 l (.lst (kvs.map λkv=>kV kv.1)))
theorem zH(e:(aG P w).is k u=true):RelV (kV k) u:=by
 rw[t7]at e
 rcases bE e with ⟨i,t,rfl,rfl⟩|⟨x,t,rfl,rfl⟩
 ·exact⟨t,rfl⟩
 ·exact⟨t,rfl⟩
theorem ji:∀{kvs:List (Key×V)} {vs:List (Key×Value)} {out:List Value},KV kvs vs->out.length=vs.length->(∀(j:Nat) (v:Value),out[j]?=some v->∃(k:Key) (x:Value),vs[j]?=some (k,x)/\(aG P w).is k v=true)->Vals (kvs.map λkv=>kV kv.1) out
 | [],vs,out,r,hl,h=>by
  cases r;cases out with
  |nil=>exact .nil
  |cons _ _=>simp at hl
 | p::kvs,vs,out,r,hl,h=>by
  cases r with
  |@cons _ q _ qs hq t=>
   cases out with
   |nil=>simp at hl
   |cons v out=>
    obtain⟨k,x,e1,e2⟩:=h 0 v rfl;simp at e1;refine .cons ?_ (ji t (by simpa using hl) λj u hu=>h (j+1) u hu);have:p.1=k:=by rw[hq.1,e1]
    show RelV (kV p.1) v;rw[this];exact zH e2
theorem zI(hh:X.A.handled=none)(hg:Gl X "list")(hm:X.mg "list" = none)(hv:bootBuiltins "list" = some (.type "list"))(ho:PE X o to)
  (hbase:attributeBase o "keys" X.env (eval o X.env)=eval o X.env) (hline:(ap.endLine==cp.line)=true):PE X (.Call (.Name "list" p) [.Call (.Attribute o "keys" ap) [] [] cp] [] pos) (tLK to):=by
 intro pins s σ H Q I h;refine TV (gb I hg hm hv ?_ (by decide) (by decide));refine TX ?_ rfl rfl;show wpAny _ _ (spliced [(false,eval (.Call (.Attribute o "keys" ap) [] [] cp) X.env)]) _ _ s;refine Uc ?_;refine wpAny_Call_method0_late hbase hline (cy (ho pins s σ H _ I h) λu s1 aE=>?_);obtain⟨x,H1,I1,r1,a,kvs,ex,ea,q⟩:=aE;subst ex;cases r1;obtain⟨t1,t2,hd⟩:=qo I1 (.inl ⟨kvs,.inl ea⟩);obtain⟨hz,_,vs,rel,dd⟩:=oU I1.hok ea;refine⟨"dict","dict.keys",UO,Ux,PySem.F.type_dict_keys,t1,t2,Uw rfl (PySem.evalArgs_none ?_)⟩;refine Vq Ux dd.typeIs PySem.F.entry_dict_keys (PySem.F.args_dict_keys_1 _) (kdl_meets_keys (aG X.prog X.w) a hd) ⟨⟨vs,dd⟩,?_⟩;refine Us ?_;obtain⟨ep,da⟩:=dd.dictAt;have hlen:=rel.length;refine kdl_call (kdl_keys (knd:=aG X.prog X.w) (kvs:=vs) (ep:=ep) (d:=a) (r:=s1.heap.objs.size)) hh ⟨⟨_,To _ rfl,rfl,rfl⟩,da.push _⟩ (by rw[<-hlen];exact hz) λh' tk acc c k2 eD hacc=>?_;have hD:s1.heap.objs.size<=(s1.heap.push { cls:=.type "dict_keys",data:=.fields [.ref a].toArray }).objs.size:=by rw[Vd];exact Ue _
 have hn:H1 (s1.heap.push { cls:=.type "dict_keys",data:=.fields [.ref a].toArray }).objs.size=none:=I1.hok.fresh hD;refine⟨.ref _,_,I1.laid (t':=tk) (λb o z=>k2 b o (SY _ z)) hD (show bM X.prog X.w _ _ _ (.lst (kvs.map λkv=>kV kv.1)) from⟨?_,acc.toList,c,?_,?_⟩),rfl,q _ hn⟩
 ·rw[S1];exact hz
 ·exact ji (P:=X.prog) (w:=X.w) rel (by rw[Uv];exact hacc.1) λj v e=>hacc.2 j v (by rw[<-Uo];exact e)
 ·first|(rw[U6];exact eD)|simpa using eD
end
end L2
end
section
namespace L2
open PySem PySem.Spec PyProof.Rows
end L2
end
section
namespace L2
open PySem PySem.Spec PyProof.Rows PySem.W
end L2
end
section
namespace L2
open PySem PySem.Spec PyProof.Rows
section
variable {X:Cx}
theorem Gb:kK X (compareOp .Is) (λx y H Q=>∃b c,x=.bl b/\y=.bl c/\Q (.bl (b==c)) H):=by
 intro pins s σ H x y v u Q I rx ry h;obtain⟨b,c,rfl,rfl,q⟩:=h;cases rx;cases ry;refine wpAny_is_plain rfl (qc I q ?_);cases b<;>cases c<;>rfl
theorem Cw:kK X (compareOp .IsNot) (λx y H Q=>∃b c,x=.bl b/\y=.bl c/\Q (.bl (!(b==c))) H):=by
 intro pins s σ H x y v u Q I rx ry h;obtain⟨b,c,rfl,rfl,q⟩:=h;cases rx;cases ry;refine wpAny_isNot_plain rfl (qc I q ?_);cases b<;>cases c<;>rfl
end
end L2
end
section
namespace L2
open PySem PySem.Spec PyProof.Rows PySem.W
section
variable {X:Cx}
theorem xY(hh:X.A.handled=none)(hst:starEach [o] X.env=[(false,eval o X.env)])(hg:Gl X "list")(hm:X.mg "list" = none)(hv:bootBuiltins "list" = some (.type "list"))(ho:PE X o to):PE X (.Call (.Name "list" p) [o] [] pos) (tLK to):=by
 intro pins s σ H Q I h;refine TV (gb I hg hm hv ?_ (by decide) (by decide));refine TX ?_ hst rfl;rw[hst];show wpAny _ _ (spliced [(false,eval o X.env)]) _ _ s;refine Uc ?_;refine cy (ho pins s σ H _ I h) λu s1 aE=>?_;obtain⟨x,H1,I1,r1,a,kvs,ex,ea,q⟩:=aE;subst ex;cases r1;obtain⟨t1,t2,hd⟩:=qo I1 (.inl ⟨kvs,.inl ea⟩);obtain⟨hz,_,vs,rel,dd⟩:=oU I1.hok ea;refine Us ?_;obtain⟨ep,da⟩:=dd.dictAt;have hlen:=rel.length;refine kdl_call (kdl_dict (knd:=aG X.prog X.w) (kvs:=vs) (ep:=ep) (d:=a) hd) hh da (by rw[<-hlen];exact hz) λh' tk acc c k2 eD hacc=>?_;have hn:H1 s1.heap.objs.size=none:=I1.hok.fresh (S4 _);refine⟨.ref _,_,I1.laid (t':=tk) (λb o z=>k2 b o z) (S4 _) (show bM X.prog X.w _ _ _ (.lst (kvs.map λkv=>kV kv.1)) from⟨?_,acc.toList,c,?_,?_⟩),rfl,q _ hn⟩
 ·rw[S1];exact hz
 ·exact ji (P:=X.prog) (w:=X.w) rel (by rw[Uv];exact hacc.1) λj v e=>hacc.2 j v (by rw[<-Uo];exact e)
 ·first|(rw[U6];exact eD)|simpa using eD
end
section
variable {X:Cx}
theorem Inv.freeze(I:Inv X pins σ H s)(e:H a=some (.dK kvs))(ho:s.heap.get? a=some o):Inv X pins σ (upd H a (.jT o (.dK kvs))) s :=
 I.write (x:=a) (e:=a) (o:=.jT o (.dK kvs)) (h':=s.heap) (t':=s.toks) (by rw[e];trivial) (.inl rfl) (λb u _ q=>q) ⟨o,ho⟩ ⟨ho,I.hok a _ e⟩
theorem Inv.Ot{pins KQ:List (Addr×Obj)}{σ σ0:St}{H H0:Hp}{s s0:Shared}{kvs k0:List (Key×V)}(I0:Inv X KQ σ0 H0 s0)(e0:H0 a=some (.dK k0))(I:Inv X pins σ H s)(e:H a=some (.jT o (.dK kvs))):Inv X pins σ (upd H a (.dK kvs)) s:=by
 have nf:∀b,H b=none->b≠a:=λb z y=>by rw[y,e]at z;cases z
 refine⟨I.ok,I.os,I.bare,⟨I.base.keep,I.base.slot,λb ob q n hx=>?_,I.base.there,λb xs q=>?_,λb ob u q=>?_,λb ps q=>?_⟩,I.loc,I.cell,?_,λx c q=>?_,λp hp=>?_,λb u q=>?_,I.len⟩
 ·have z:=I.base.free b ob q n hx;rw[ak (nf b z)];exact z
 ·have z:=I.base.tups b xs q;rw[ak (λy=>by rw[y,e]at z;cases z)];exact z
 ·have z:=I.base.frzs b ob u q;have z0:=I0.base.frzs b ob u q;rw[ak (λy=>by rw[y,e0]at z0;cases z0)];exact z
 ·obtain⟨more,z⟩:=I.base.n5 b ps q;exact⟨more,by rw[ak (λy=>by rw[y,e]at z;cases z)];exact z⟩
 ·rw[ak (nf _ I.free)];exact I.free
 ·rw[ak (nf _ (I.gp x c q))];exact I.gp x c q
 ·obtain⟨q1,q2,q3⟩:=I.pin p hp;exact⟨q1,by rw[ak (nf _ q2)];exact q2,q3⟩
 ·by_cases hb:b=a
  ·subst hb;rw[aC]at q;cases q;obtain⟨_,z⟩:=(show bM X.prog X.w H s.heap b (.jT o (.dK kvs)) from I.hok b _ e);exact z
  ·rw[ak hb]at q;exact(I.hok b u q).stay (λc v _ z=>z) (λc z=>by rw[ak (λy=>by rw[y,e]at z;cases z)];exact z) λc xs z=>by rw[ak (λy=>by rw[y,e]at z;cases z)];exact z
def Ef(t:TE):TE:=λσ H Q=>∃a kvs,H a=some (.dK kvs)/\t σ H λv H'=>∃o,H' a=some (.jT o (.dK kvs))/\Q v (upd H' a (.dK kvs))
theorem Cy(h:PE X e t):PE X e (Ef t):=by
 intro pins s σ H Q I hh;obtain⟨a,kvs,ea,ht⟩:=hh;exact cy (h pins s σ H _ I ht) λv s1 ⟨x,H1,I1,r1,o,e1,q⟩=>⟨x,_,Inv.Ot I ea I1 e1,r1,q⟩
def PR(a:Addr)(o:Obj)(kvs:List (Key×V)):It :=
 ⟨λi H=>H a=some (.jT o (.dK kvs))/\i<kvs.length,λi H x H'=>H'=H/\∃kv,kvs[i]?=some kv/\x=kV kv.1,λi H=>H a=some (.jT o (.dK kvs))/\kvs.length<=i⟩
theorem zJ:∀{kvs:List (Key×V)} {vs:List (Key×Value)} {i:Nat} {kv:Key×V},KV kvs vs->kvs[i]?=some kv->∃v,vs[i]?=some (kv.1,v)
 |[],_,_,_,_,e=>by simp at e
 | p::kvs,_,0,kv,r,e=>by
  cases r with
  |@cons _ q _ qs hq t=>simp at e;subst e;exact⟨q.2,by rw[hq.1];rfl⟩
 | p::kvs,_,i+1,kv,r,e=>by
  cases r with
  |@cons _ q _ qs hq t=>obtain⟨v,hv⟩:=zJ t (by simpa using e);exact⟨v,by simpa using hv⟩
theorem xZ{P:Program}{w:World}{K:Frag}{tg:Expr}(a it:Addr){o:Obj}{es:Array DictEntry}{ep:Nat}{kvs:List (Key×V)}{vs:List (Key×Value)}(rel:KV kvs vs)
  (hd:o.ExactDict/\o.data=.dict es ep/\KeysOf (aG P w) es/\Pairs (aG P w) es.toList vs/\(vs.map (·.1)).Nodup) :
  Turn P w K tg (PR a o kvs) [it] it (λi h=>h.IsKeyIter it a i vs.length ep) where
 mem:=by simp
 obj:=λi h st b hb=>by
  have e:b=it:=by simpa using hb
  subst e;obtain⟨o,e,c,d⟩:=st;exact⟨o,e,λv z=>by rw[d]at z;cases z⟩
 keep:=λi h h' st k=>st.at λo e=>k it (by simp) o e
 item:=by intro X hP hw hK hc i pins s σ H E I hf st hg;subst hP hw hK;obtain⟨ha,hi⟩:=hg;obtain⟨hob,_⟩:=(show bM X.prog X.w H s.heap a (.jT o (.dK kvs)) from I.hok a _ ha);have hm:s.heap.DictAt (aG X.prog X.w) a vs ep:=⟨o,es,hob,hd⟩;obtain⟨v,hv⟩:=zJ rel (Tz hi);obtain⟨f0,f1,f2,f3,f4,f5⟩:=hf it (by simp);refine wpAny_pyNext_dict_item st hm hv λkey h' hkey st' sb=>?_;have I1:Inv X pins σ H { s with heap:=h' }:=I.turned (t':=s.toks) (λb o hb e=>(sb.2 b hb).trans e) f0 f1 f3 f4 f5;obtain⟨o',e,c,d⟩:=id st';exact⟨key,rfl,vc (s:={ s with heap:=h' }) e c d (by decide) ⟨kV kvs[i].1,H,I1,zH hkey,⟨rfl,kvs[i],Tz hi,rfl⟩,st',λb hb=>(hf b hb).1⟩⟩
 done:=by intro X hP hw hK hc i pins s σ H E I hf st hg;subst hP hw hK;obtain⟨ha,hi⟩:=hg;obtain⟨hob,_⟩:=(show bM X.prog X.w H s.heap a (.jT o (.dK kvs)) from I.hok a _ ha);have hm:s.heap.DictAt (aG X.prog X.w) a vs ep:=⟨o,es,hob,hd⟩;obtain⟨f0,f1,f2,f3,f4,f5⟩:=hf it (by simp);exact wpAny_pyNext_dict_end (I.ok.hd hc) st hm (List.getElem?_eq_none (by rw[<-rel.length];exact hi)) λh' eb=>⟨rfl,I.turned (t':=s.toks) (λb o hb e=>eb b o hb e) f0 f1 f3 f4 f5⟩
 self:=λ_ _ _ _ _ st h=>wpAny_pyIter_keyiter st h
def zK(tl:TE):TI:=λσ H R=>tl σ H λx H1=>∃a kvs,x=.ref a/\H1 a=some (.dK kvs)/\∀o,R (PR a o kvs) (upd H1 a (.jT o (.dK kvs)))
theorem Cz(hl:PE X l tl):PI X tg l (zK tl):=by
 intro pins s σ H R I h;refine cy (hl pins s σ H _ I h) λv s1 aE=>?_;obtain⟨x,H1,I1,r1,q1⟩:=aE;obtain⟨a,kvs,e,ea,q⟩:=q1;subst e;cases r1;obtain⟨hz,hsm,vs,rel,dd⟩:=oU I1.hok ea;obtain⟨ep,da⟩:=dd.dictAt;obtain⟨o,es,ho,r⟩:=id da;have I2:=I1.freeze ea ho;refine wpAny_pyIter_dict hsm da ?_;refine⟨s1.heap.objs.size,[s1.heap.objs.size],_,_,_,rfl,I2.kept (t':=s1.toks) λb o e=>SY _ e,xZ a _ rel r,⟨_,To _ rfl,rfl,rfl⟩,λb hb=>?_,q o⟩;have e:b=s1.heap.objs.size:=by simpa using hb
 subst e;exact I2.zb (S4 _) (I2.hok.fresh (S4 _))
structure KR (K:Frag) (C:Addr) (m:Str) (f:Addr):Prop where
 ga:specialIn K (.ref C) "__getattribute__" = some (some (.builtin "type.__getattribute__"))
 rd:PySem.W.readsIn K C (.type "type")=true
 at_:PySem.W.findCls K (.ref C) (.type "type") m=some (.val (.ref f))
 kp:keepIn K (.ref f)=true
structure PU (K:Frag) (C:Addr):Prop where
 ha:findIn K (.ref C) "__class__" = some (some (.builtin "object.__class__"))
 hn:specialIn K (.builtin "object.__class__") "__get__" = some (some (.builtin "getset_descriptor.__get__"))
 htk:PySem.W.takesIn K (.builtin "object.__class__")=some true
 hm:PySem.W.mroIn K C (.type "object")=some true
end
end L2
end
section
namespace L2
open PySem PySem.Spec PyProof.Rows
section
variable {X:Cx}
def PV(k:Int):Value->Bool
 |.int a _=>a==k
 |_=>false
def CA:V->List V->Hp->VK->Prop:=λx vs H Q=>∃(l:Addr) (ks:List Int) (i:Int),x=.ref l/\vs=[.int i]/\H l=some (.lst (ks.map V.int))/\i∈ks/\Q .non (upd H l (.lst ((ks.map V.int).eraseIdx (ks.idxOf i))))
theorem x6:Nj X "list.remove" CA:=by
 intro pins s σ H x vs v us Q I rx rv h;obtain⟨l,ks,i,rfl,rfl,hH,hi,q⟩:=h;cases rx;obtain⟨u,rfl,ru⟩:=rv.one;obtain⟨t,rfl⟩:=ru;obtain⟨z,its,n,r,hl,e⟩:=I.zm hH;have hk:ks.length=its.length:=by rw[<-hl,S1]
 have at':∀m (hm:m<ks.length),∃t,its[m]?=some (.int ks[m] t):=λm hm=>by
  obtain⟨w,hw,t,rfl⟩:=r.get (i:=m) (x:=V.int ks[m]) (by rw[Tq,Tz hm];rfl);exact⟨t,hw⟩
 have hj:ks.idxOf i<ks.length:=List.idxOf_lt_length_of_mem hi;have sz:its.toArray.size=ks.length:=by rw[Tc,hk]
 have val:∀m (hm:m<its.toArray.size),PV i its.toArray[m]=(ks[m]'(sz▸hm)==i):=λm hm=>by
  obtain⟨t,q⟩:=at' m (sz▸hm);have q2:its.toArray[m]=.int (ks[m]'(sz▸hm)) t:=by have:=Array.getElem?_eq_getElem hm;rw[List.getElem?_toArray,q]at this;exact(Tn this).symm
  rw[q2];rfl
 refine Vp F.slot_list_remove ⟨_,e,rfl⟩ F.entry_list_remove (F.args_list_remove_2 _ _)
  (MeetsSeq.list_remove l its.toArray n (.int i t) (PV i) (λy hy=>?_) (ks.idxOf i) (by rw[sz];exact hj) ?_ ?_ (by rw[Tc];omega)) ⟨e,?_⟩
 ·obtain⟨m,hm,rfl⟩:=List.mem_iff_getElem.mp (List.mem_toArray.mp hy);obtain⟨t',q⟩:=at' m (by omega);rw[Tz hm]at q;rw[Tn q];exact MeetsSeq.EqGives.int _ _ _ _
 ·rw[val];exact Vv.mpr (List.getElem_idxOf hj)
 ·intro m hm h2
  rw[val];exact T6.mpr λe=>by
   have:=List.not_of_lt_findIdx (p:=(· == i)) (xs:=ks) (i:=m) h2;exact nomatch this.symm.trans (Vv.mpr e)
 refine⟨.non,_,I.Cg (its':=its.eraseIdx (ks.idxOf i)) hH e ?_ (r.eraseIdx _) ?_,rfl,q⟩
 ·show its.toArray.eraseIdxIfInBounds _=(its.eraseIdx _).toArray;rw[List.eraseIdxIfInBounds_toArray]
 ·have:=oN (ks.map V.int) (ks.idxOf i);omega
end
end L2
end
section
namespace L2
open PySem PySem.Spec PyProof.Rows PySem.W
section
variable {prog:Program} {w:World} {A:Around} {E:Value->Shared->Prop} {s:Shared}
theorem vC{ns ns':List Int}(hp:ns'.Perm ns)(ho:Ordered true ns'):ns'=(sortI ns).reverse:=by
 have h2:ns'.Pairwise (· ≥ ·):=ho;have:=eq_sortI ((List.reverse_perm _).trans hp) (List.pairwise_reverse.mpr (h2.imp λ{a b} (q:a≥b)=>q));rw[<-this,List.reverse_reverse]
theorem lZ
  (h:wpAny (model prog w) A.in1 (collect x) (λvs s1=>∃ns,IntsAre vs ns/\vs.length<64/\∀h' vs',(∀b o,s1.heap.get? b=some o->h'.get? b=some o)->IntsAre vs' (sortI ns).reverse ->
   (∃e,h'.get? s1.heap.objs.size=some (seqObj "list" vs'.toArray e))->Q (.ref s1.heap.objs.size) { s1 with heap:=h' }) E s) :
  wpAny (model prog w) A (call (.builtin "sorted") [x] [(Str.ofString "reverse",.bool true)]) Q E s:=by
 refine call_function_entry_kw kind_sorted plain_sorted entry_sorted (args_sorted_rev _ _) ?_;unfold Builtin.«sorted»;refine S0 (m:=checkCount "sorted" 1 1 _) (Th ?_);apply S0;refine TY h (λvs s1 ⟨ns,hI,h64,hq⟩=>?_) λ_ _ z=>z;have big:vs.length<=sizeLine:=by rw[T7];omega
 apply S0;refine wpAny_newList ?_ big;have q:(s1.heap.push (seqObj "list" vs.toArray 0)).get? s1.heap.objs.size=some (seqObj "list" vs.toArray 0):=To _ rfl;apply S0;apply Uk;refine wpAny_call_entry_kw (s:={ s1 with heap:=s1.heap.push (seqObj "list" vs.toArray 0) }) slot_list_sort ⟨_,q,rfl⟩ entry_list_sort (list_sort_tree_rev q hI h64 λout ns' a1 a2 a3=>⟨_,rfl,Th ⟨_,rfl,?_⟩⟩) (args_list_sort_rev _ _);refine hq _ out.toList (λb o e=>?_) (by rw[<-vC a2 a3];exact a1) ?_
 ·rw[sortedHeap_old (Tp (S9 e)) (by rw[size_push'];exact UA (S9 e))];exact SY _ e
 ·rw[U6];exact sortedHeap_at q
end
section
variable {X:Cx}
def Rc(K:Frag)(te:TE):TE:=λσ H Q=>te σ H λx H1=>∃(p:Addr) (ns:List Int),x=.ref p/\fu K H1 p (ns.map V.int)/\ns.length<64/\∀l,H1 l=none->Q (.ref l) (upd H1 l (.lst ((sortI ns).reverse.map V.int)))
def tSKR(to:TE):TE:=λσ H Q=>to σ H λx H1=>∃(a:Addr) (kvs:List (Key×V)) (ns:List Int),x=.ref a/\H1 a=some (.dK kvs)/\kvs.map (·.1)=ns.map Sum.inl/\ns.length<64/\∀l,H1 l=none->Q (.ref l) (upd H1 l (.lst ((sortI ns).reverse.map V.int)))
theorem vD{c:Nat}(I:Inv X pins σ H s)(h:R [.bool true] s) :
  wpAny (model X.prog X.w) X.A (evalAll ((backToKw pos (keywordEach [⟨some "reverse",.Constant (.bool true) c cp,kp⟩] X.env)).map (·.2))) R X.xe s:=by
 show wpAny _ _ (evalAll [do let v <-eval (.Constant (.bool true) c cp) X.env;standAt pos;pure v]) _ _ s;exact wpAny_evalAll_cons (S0 (Constant_bool (S0 (Vk (Th (wpAny_evalAll_nil h))))))
theorem Gd{c:Nat}(hst:starEach [l] X.env=[(false,eval l X.env)])(hg:Gl X "sorted")(hm:X.mg "sorted" = none)(hv:bootBuiltins "sorted" = some (.builtin "sorted"))(hl:PE X l tl) :
  PE X (.Call (.Name "sorted" p) [l] [⟨some "reverse",.Constant (.bool true) c cp,kp⟩] pos) (Rc X.K tl):=by
 intro pins s σ H Q I h;refine TV (gb I hg hm hv ?_ (by decide) (by decide));refine callWith_kw ?_ (by rw[hst];rfl) (by rw[hst];rfl) rfl rfl;rw[hst];show wpAny _ _ (spliced [(false,eval l X.env)]) _ _ s;refine Uc (cy (hl pins s σ H _ I h) λu s1 aE=>?_);obtain⟨x,H1,I1,r1,a,ns,ex,hq,h64,q⟩:=aE;subst ex;cases r1;refine Us (vD I1 ?_);obtain⟨its,rv,pl,hz⟩:=I1.list hq;have hI:=intsAre_of rv;have hlen:=hI.length;show wpAny _ _ (call (.builtin "sorted") [.ref a] [(Str.ofString "reverse",.bool true)]) _ _ s1;refine sorted_ints_rev pl.isList hI (by omega) λout ns' a1 a2 a3=>?_;obtain⟨e,he⟩:=sortedAll_at s1.heap its out;have es:=vC a2 a3;subst es;have hn:H1 (s1.heap.objs.size+1)=none:=I1.hok.fresh (Ue _);refine⟨.ref (s1.heap.objs.size+1),_,I1.laid (t':=s1.toks) (λb o z=>sortedAll_old z) (Ue _) (show bM X.prog X.w _ _ _ (.lst ((sortI ns).reverse.map V.int)) from⟨?_,out.toList,e,gr a1,by simpa using he⟩),rfl,q _ hn⟩;rw[S1,Vb,(Um ns).length_eq,T7];omega
theorem Ge{c:Nat}(hh:X.A.handled=none)(hg:Gl X "sorted")(hm:X.mg "sorted" = none)(hv:bootBuiltins "sorted" = some (.builtin "sorted"))(ho:PE X o to)
  (hbase:attributeBase o "keys" X.env (eval o X.env)=eval o X.env) (hline:(ap.endLine==cp.line)=true):PE X (.Call (.Name "sorted" p) [.Call (.Attribute o "keys" ap) [] [] cp] [⟨some "reverse",.Constant (.bool true) c kcp,kp⟩] pos) (tSKR to):=by
 intro pins s σ H Q I h;refine TV (gb I hg hm hv ?_ (by decide) (by decide));refine callWith_kw ?_ rfl rfl rfl rfl;show wpAny _ _ (spliced [(false,eval (.Call (.Attribute o "keys" ap) [] [] cp) X.env)]) _ _ s;refine Uc ?_;refine wpAny_Call_method0_late hbase hline (cy (ho pins s σ H _ I h) λu s1 aE=>?_);obtain⟨x,H1,I1,r1,a,kvs,ns,ex,ea,ens,h64,q⟩:=aE;subst ex;cases r1;obtain⟨t1,t2,hd⟩:=qo I1 (.inl ⟨kvs,.inl ea⟩);obtain⟨hz,_,vs,rel,dd⟩:=oU I1.hok ea;refine⟨"dict","dict.keys",UO,Ux,PySem.F.type_dict_keys,t1,t2,Uw rfl (PySem.evalArgs_none ?_)⟩;refine Vq Ux dd.typeIs PySem.F.entry_dict_keys (PySem.F.args_dict_keys_1 _) (kdl_meets_keys (aG X.prog X.w) a hd) ⟨⟨vs,dd⟩,?_⟩;have I2:Inv X pins σ H1 { s1 with heap:=s1.heap.push { cls:=.type "dict_keys",data:=.fields [.ref a].toArray } }:=I1.kept (t':=s1.toks) λb ob q=>SY _ q;refine Us (vD I2 ?_);obtain⟨ep,da⟩:=dd.dictAt;have hlen:=rel.length;have view:(s1.heap.push { cls:=.type "dict_keys",data:=.fields [.ref a].toArray }).get? s1.heap.objs.size=some { cls:=.type "dict_keys",data:=.fields [.ref a].toArray }:=To _ rfl;refine lZ (kdu_collect (A:=X.A.in1) (kdl_keys (knd:=aG X.prog X.w) (kvs:=vs) (ep:=ep) (d:=a) (r:=s1.heap.objs.size)) (by simp[hh]) ⟨⟨_,view,rfl,rfl⟩,da.push _⟩ (by rw[<-hlen];exact hz) λh' tk acc k2 hacc=>?_);have hV:Vals (kvs.map λkv=>kV kv.1) acc.toList:=ji (P:=X.prog) (w:=X.w) rel (by rw[Uv];exact hacc.1) λj v e=>hacc.2 j v (by rw[<-Uo];exact e);have hk:(kvs.map λkv=>kV kv.1)=ns.map V.int:=by have:=TR (List.map kV) ens;rw[Tu,Tu]at this;exact this
 rw[hk]at hV;have hI:=intsAre_of hV;have lv:=hI.length;have k1:∀b o,s1.heap.get? b=some o->h'.get? b=some o:=λb o e=>k2 b o (SY _ e);have hD:s1.heap.objs.size<=h'.objs.size:=US (S9 (k2 _ _ view));refine⟨ns,hI,by rw[lv];exact h64,λh'' vs' k' hI' he=>?_⟩;obtain⟨e,he⟩:=he;dsimp only at k' he |-;have hn:H1 h'.objs.size=none:=I1.hok.fresh hD;refine⟨.ref h'.objs.size,_,I1.laid (t':=tk) (λb o z=>k' b o (k1 b o z)) hD (show bM X.prog X.w _ _ _ (.lst ((sortI ns).reverse.map V.int)) from⟨?_,_,e,gr hI',he⟩),rfl,q _ hn⟩;rw[S1,Vb,(Um _).length_eq,T7];omega
end
theorem dp_keys_none:typeLookup (.type "list") "keys" = pure none:=by rw[typeLookup_type,builtinLookup_eq_fast];kernel_rfl
theorem r6:entryFor table "dict.update.loop" = some Builtin.«dict.update.loop»:=entryFor_of_tree (by kernel_rfl)
theorem r8:plainId "dict.update.loop" = true:=by decide +kernel
section
variable {prog:Program} {w:World} {A:Around} {E:Value->Shared->Prop} {s:Shared}
theorem CB{k:Nat}(hx:s.heap.get? a=some o)(hc:o.cls=.type "list")(hdat:o.data=.seq xs k)(hd:o.dict=none)(hA:A.handled=none)
  (h:∀h' tk,(∀b u,s.heap.get? b=some u->h'.get? b=some u)->Q none { s with heap:=h',toks:=tk }) :
  wpAny (model prog w) A (getAttr? (.ref a) "keys") Q E s:=by
 obtain⟨c,dct,dat,sl⟩:=o;simp only at hc hdat hd;subst hc hdat hd;obtain⟨hp,g,d,tk,os⟩:=s;have hT:∀tk',(⟨hp,g,d,tk',os⟩:Shared).TypeIs (.ref a) "list":=λ_=>⟨_,hx,rfl⟩;have f1:=sub_AttributeError;have f3:=F.slot_list_getattribute.lookup;have f4:=F.slot_list_getattribute.bind (.ref a);have f5:=am_list_getattr_none;unfold getAttr? getAttrBy? getAttrBy
 repeat (any_goals (first|assumption|exact hT _|((with_reducible show wpAny _ _ (call (Value.builtin "list.__getattribute__") _ _) _ _ _);refine Vp F.slot_list_getattribute (hT _) am_entry_list_getattribute (F.args_list_getattribute_2 _ _) (meets_getattribute_miss_list a xs k sl "keys" _ dp_keys_none (by decide) (by decide)) ⟨hx,hA,λh' tk' e hx'=>?_⟩)|wp_step))
 obtain⟨t',u',he⟩:=hx'.there;show wpAny _ _ (getattributeRaised _ _ _ _ _ _ _) _ _ _;unfold getattributeRaised
 repeat (any_goals (first|assumption|wp_step))
 exact h _ _ hx'.keeps
variable {K:Type} [DecidableEq K] {knd:KeyKind prog w K}
def Gf(knd:KeyKind prog w K)(h:Heap)(r:Addr×K×Value):Prop:=∃key,h.IsTuple r.1 [key,r.2.2].toArray/\knd.is r.2.1 key=true
theorem vE{h0:Heap}(hl:h0.IsList l items)(hd0:h0.get? d=none)(hi0:h0.get? it=none)(hdi:d≠it)(hh:A.handled=none) :
  ∀(rest:List (Addr×K×Value)) (i:Nat) (kvs:List (K×Value)) (s:Shared),items.toList.drop i=rest.map (λr=>Value.ref r.1)->(∀r∈rest,Gf knd h0 r)->(∀b o,h0.get? b=some o->s.heap.get? b=some o)->s.heap.IsListIter it l i->s.heap.DictOf knd d kvs->kvs.length+rest.length<=sizeLine ->
   (∀h' tk,(∀b o,h0.get? b=some o->h'.get? b=some o)->h'.DictOf knd d (merged kvs (rest.map (·.2)))->Q .none { s with heap:=h',toks:=tk }) ->
   codeAny (model prog w) A (.builtin "dict.update.loop" ⟨[.ref d,.ref it,rawInt i,.none],[]⟩) (wants Q E) s
 | [],i,kvs,s,hr,_,hk,hit,hm,hz,h=>by
  refine codeAny_builtin r6 ?_;rw[Around.under_plainId r8];have hl1:s.heap.IsList l items:=by obtain⟨o,ho,r⟩:=hl;exact⟨o,hk _ _ ho,r⟩
  have hx:items[i]?=none:=by rw[<-Uo];exact List.getElem?_eq_none (by simpa using hr)
  show wpAny _ _ (pyNext (.ref it) >>= _) _ _ s;refine S0 (wpAny_pyNext_list_end (by simpa using hh) hit hl1 hx λh' eb=>?_);show wpAny _ _ (Builtin.Dict.addKeywords d [] >>= _) _ _ _;exact S0 (Th (Th (h h' s.toks (λb o e=>eb b o (λz=>by rw[z,hi0]at e;cases e) (hk b o e)) (hm.extBut eb hdi))))
 | r::rest,i,kvs,s,hr,hp,hk,hit,hm,hz,h=>by
  refine codeAny_builtin r6 ?_;rw[Around.under_plainId r8];have hl1:s.heap.IsList l items:=by obtain⟨o,ho,r⟩:=hl;exact⟨o,hk _ _ ho,r⟩
  have hx:items[i]?=some (.ref r.1):=by rw[<-Uo];have:=TR (·[0]?) hr;simpa using this
  obtain⟨key,⟨ot,PX,hct,n,hdt⟩,hkey⟩:=hp r S3;show wpAny _ _ (pyNext (.ref it) >>= _) _ _ s;refine S0 (wpAny_pyNext_list_item hit hl1 hx λh1 Ou sb=>?_);have hk1:∀b o,h0.get? b=some o->h1.get? b=some o:=λb o e=>by rw[sb.2 b (λz=>by rw[z,hi0]at e;cases e)];exact hk b o e
  have hm1:h1.DictOf knd d kvs:=hm.sameBut sb hdi;refine S0 (Uk (S0 (wpAny_tryCatch ?_)));unfold Builtin.Dict.pairItems;refine S0 (wpAny_typeOf (T:="tuple") ⟨ot,hk1 _ _ PX,hct⟩ ?_);rw[S7 (by decide)];refine S0 (wpAny_seqItems (hk1 _ _ PX) hdt (Th ?_));show wpAny _ _ (holding [key,r.2.2] (dictSet d key r.2.2)) _ _ _;refine Uk (wpAny_dictSet_pairs hkey hm1 (λh2 hm2 PY=>?_) (by simp only[length_cons]at hz;omega));refine Th ⟨Code.quiet_builtin _ (by decide +kernel),?_⟩;have Ov:h2.IsListIter it l (i+1):=by obtain⟨o,ho,q⟩:=Ou;exact⟨o,by rw[PY.2 it hdi.symm];exact ho,q⟩
  have hz2:=stored_length_le kvs r.2.1 r.2.2;refine vE hl hd0 hi0 hdi hh rest (i+1) (stored kvs r.2.1 r.2.2) _ ?_ (λq hq=>hp q (S2 _ hq)) (λb o e=>by
   show h2.get? b=some o;rw[PY.2 b (λz=>by rw[z,hd0]at e;cases e)];exact hk1 b o e) Ov hm2 (by simp only[length_cons]at hz;omega) λh' tk q1 q2=>h h' tk q1 q2
  rw[<-Vf,hr];rfl
theorem l0{l:Addr}{rows:List (Addr×K×Value)}{ol:Obj}{n:Nat}{Q:Value->Shared->Prop}(hl:s.heap.get? l=some ol)(hc:ol.cls=.type "list")(hdi:ol.dict=none)(hda:ol.data=.seq (rows.map λr=>Value.ref r.1).toArray n)
  (hp:∀r∈rows,Gf knd s.heap r) (hz:rows.length<=sizeLine) (hh:A.handled=none)
  (h:∀h' tk,(∀b o,s.heap.get? b=some o->h'.get? b=some o)->h'.DictOf knd s.heap.objs.size (merged [] (rows.map (·.2)))->Q (.ref s.heap.objs.size) { s with heap:=h',toks:=tk }) :
  wpAny (model prog w) A (call (.type "dict") [.ref l]) Q E s:=by
 refine callType_codes (Q₁:=λobj s₁=>obj=.ref s.heap.objs.size/\s₁={ s with heap:=s.heap.push { cls:=.type "dict",data:=.dict #[] } }) PySem.F.kt_called_dict (PySem.F.kt_typeCall_dict_1 _) PySem.F.entry_dict_init (kt_code_dict_new _ ⟨rfl,rfl⟩) ?_;rintro obj s₁ ⟨rfl,rfl⟩;have hnew:(s.heap.push { cls:=.type "dict",data:=.dict #[] }).DictOf knd s.heap.objs.size []:=Heap.DictOf.new s.heap;have hl1:(s.heap.push { cls:=.type "dict",data:=.dict #[] }).get? l=some ol:=SY _ hl;refine⟨hnew.typeIs,PySem.F.args_dict_init_2 _ _,?_⟩;unfold Builtin.«dict.__init__»;refine S0 ?_;unfold Builtin.Dict.selfAndRest;refine S0 (wpAny_notOrdered_dict hnew.typeIs ?_);show wpAny _ _ (pure (s.heap.objs.size,[Value.ref l])) _ _ _;refine Th ?_;show wpAny _ _ (Builtin.Dict.updateFrom "dict.__init__" s.heap.objs.size (.ref l) [] .none) _ _ _;unfold Builtin.Dict.updateFrom;refine S0 (wpAny_typeOf (T:="list") ⟨ol,hl1,hc⟩ ?_);rw[S7 (by decide)];refine S0 (CB hl1 hc hda hdi (by simpa using hh) λh1 SE k1=>?_);rw[S7 (show (Option.isNone (none:Option Value))=true from rfl)];refine S0 (wpAny_rule (S0 (UU (items:=(rows.map λr=>Value.ref r.1).toArray) ⟨ol,k1 _ _ hl1,hc,n,hda⟩ ?_)));have k0:∀b o,s.heap.get? b=some o->h1.get? b=some o:=λb o e=>k1 b o (SY _ e);have hd1:h1.DictOf knd s.heap.objs.size []:=hnew.keep k1;have hlt:s.heap.objs.size<h1.objs.size:=let ⟨_,_,_,hg,_⟩:=hd1;S9 hg
 have non:∀b,s.heap.objs.size<=b->s.heap.get? b=none:=λb hb=>by
  cases e:s.heap.get? b with
  |none=>rfl
  |some o=>exact absurd (S9 e) (Nat.not_lt.mpr hb)
 refine Th ⟨Code.quiet_builtin _ (by decide +kernel),?_⟩;refine vE (h0:=s.heap) (knd:=knd) (l:=l) (d:=s.heap.objs.size) (it:=h1.objs.size) ⟨ol,hl,hc,n,hda⟩ (non _ (S4 _)) (non _ (US hlt)) (Tp hlt) (by simpa using hh) rows 0 [] _ (by simp) hp (λb o e=>SY _ (k0 b o e)) ⟨_,To _ rfl,rfl,rfl⟩ (hd1.push _) (by simpa using hz) λh' tk q1 q2=>⟨rfl,h h' tk q1 q2⟩
end
section
variable {X:Cx}
theorem o4:∀(more kvs:List (Key×V)),((kvs++more).map (·.1)).Nodup->dI kvs more=kvs++more
 |[],kvs,_=>by simp[dI]
 | p::r,kvs,hn=>by
  have hf:¬ (kvs.any λkv=>decide (kv.1=p.1))=true:=by rw[List.any_eq_true];rintro⟨x,hx,he⟩;rw[TN,S5,Ug]at hn;exact hn.2.2 x.1 (TJ hx) p.1 S3 (Tj he)
  have e:dI kvs (p::r)=dI (kvs++[p]) r:=by show dI (putK kvs p.1 p.2) r=_;unfold putK;rw[S8 hf]
  rw[e,o4 r _ (by simpa using hn)];simp
def Eg(K:Frag):List V->Hp->VK->Prop:=λxs H Q=>∃(p:Addr) (rs:List (Addr×Key×V)),xs=[.ref p]/\fu K H p (rs.map λr=>V.ref r.1)/\(∀r∈rs,gS K H r.1 [kV r.2.1,r.2.2])/\∀l,H l=none->Q (.ref l) (upd H l (.dK (dI [] (rs.map (·.2)))))
theorem r9:∀{as:List Addr} {us:List Value},Vals (as.map V.ref) us->us=as.map Value.ref
 |[],_,r=>by cases r;rfl
 | a::as,_,r=>by
  cases r with
  |cons r1 r2=>cases r1;rw[r9 r2];rfl
theorem o5(I:Inv X pins σ H s):∀(rs:List (Addr×Key×V)),(∀r∈rs,gS X.K H r.1 [kV r.2.1,r.2.2])->∃rows:List (Addr×Key×Value),rows.map (·.1)=rs.map (·.1)/\(∀r∈rows,Gf (aG X.prog X.w) s.heap r)/\KV (rs.map (·.2)) (rows.map (·.2))
 |[],_=>⟨[],rfl,(λ_ h=>nomatch h),.nil⟩
 | r::rs,h=>by
  obtain⟨rows,e1,e2,e3⟩:=o5 I rs λq hq=>h q (S2 _ hq);obtain⟨its,rv,it,_⟩:=I.tuple (h r S3);obtain⟨u,v,rfl,ru,rv⟩:=vals2 rv;refine⟨(r.1,r.2.1,v)::rows,by rw[S5,S5,e1],λq hq=>?_,.cons ⟨rfl,rv⟩ e3⟩
  rcases Td.mp hq with rfl|hq
  ·exact⟨u,it,oQ ru⟩
  ·exact e2 q hq
theorem uE(hh:X.A.handled=none):b8 X (.type "dict") (Eg X.K):=by
 intro pins s σ H xs us Q I r h;obtain⟨p,rs,rfl,hq,ht,q⟩:=h;obtain⟨u,rfl,ru⟩:=vals1 r;cases ru;obtain⟨its,rv,⟨ol,n,g1,g2,g3,g4⟩,hz⟩:=I.list hq;obtain⟨rows,e1,e2,e3⟩:=o5 I rs ht;have ei:its=rows.map λr=>Value.ref r.1:=by
  have:(rs.map λr=>V.ref r.1)=(rs.map (·.1)).map V.ref:=by rw[Tu];rfl
  rw[this]at rv;rw[r9 rv,<-e1,Tu];rfl
 subst ei;have hl:rows.length=rs.length:=by have:=TR length e1;simpa using this
 have hz2:rs.length<=sizeLine:=by simpa using hz
 refine l0 (knd:=aG X.prog X.w) g1 g2 g3 g4 e2 (by rw[hl];exact hz2) hh λh' tk k dd=>?_;have hn:H s.heap.objs.size=none:=I.hok.fresh (S4 _);have hs:(s.heap.objs.size==sysModules)=false:=T6.mpr (UT I.big);refine⟨.ref _,_,I.laid (t':=tk) k (S4 _) (uv ?_ hs (e3.merge .nil) dd),rfl,q _ hn⟩;have:=gf (rs.map (·.2)) [];simp only[length_map,length_nil]at this;omega
def Rf(js:List (Option Nat))(d p a b:Nat):TE:=λσ H Q=>∃(da la:Addr) (kvs Gg:List (Key×V)) (f:Key->V),σ[d]?=some (some (.ref da))/\(dJ js σ)[b]?=some (some (.ref da))/\(dJ js σ)[a]?=some (some (.ref la))/\H da=some (.dK kvs)/\H la=some (.dK Gg)/\kvs.length<=sizeLine /\
 (∀kv∈kvs,∃k,eY kvs kv.1=some (kV k)/\eY Gg k=some (f kv.1))/\∀H' D,(∀c o,H c=some o->H' c=some o)->H' D=none->Q (.ref D) (upd H' D (.dK (dI [] (kvs.map λkv=>(kv.1,f kv.1)))))
theorem Gh{K:Frag}{js:List (Option Nat)}{d p a b:Nat}(hpa:p≠a)(Rg:p≠b)(hp:p<js.length){σ:St}{H:Hp}{Q:VK}(h:Rf js d p a b σ H Q) :
  NZ (Eg K) (oG (Ef (vq (zK (kL d)) js (lG p) mQ (FD (oG (kL p) (oG (rV (kL a) (rV (kL b) (kL p))) xE))))) xE) σ H Q:=by
 obtain⟨da,la,kvs,Gg,f,hd,hb,ha,ea,el,hz,hf,hQ⟩:=h;refine⟨da,kvs,ea,.ref da,hd,da,kvs,rfl,ea,λo D hD=>?_⟩;have Nl:D≠da:=λz=>by rw[z,aC]at hD;cases hD
 have PZ:H D=none:=by rw[ak Nl]at hD;exact hD
 refine⟨λi m σ' H'=>i+m=kvs.length /\ σ'.length=js.length /\ σ'[a]?=some (some (.ref la)) /\ σ'[b]?=some (some (.ref da))/\H' da=some (.jT o (.dK kvs))/\(∀c u,c≠da->H c=some u->H' c=some u) /\
   ∃rs:List (Addr×Key×V),rs.map (·.2)=(kvs.take i).map (λkv=>(kv.1,f kv.1))/\H' D=some (.lst (rs.map λr=>V.ref r.1))/\∀r∈rs,H' r.1=some (.tup [kV r.2.1,r.2.2]),⟨kvs.length,by omega,gg js σ,ha,hb,?_,λc u hc e=>?_,[],by simp,aC,(λr hr=>nomatch hr)⟩,?_⟩
 ·rw[ak Nl.symm,aC]
 ·rw[ak (aD e PZ),ak hc];exact e
 rintro i m σ' H' ⟨e1,e2,e3,e4,e5,e6,rs,r1,r2,r3⟩;have hrl:rs.length=min i kvs.length:=by have:=TR length r1;simpa using this
 cases m with
 |zero=>
  have hda:∀c u,H c=some u->upd H' da (.dK kvs) c=some u:=λc u e=>by
   by_cases hc:c=da
   ·subst hc;rw[aC];rw[ea]at e;exact e
   ·rw[ak hc];exact e6 c u hc e
  refine .inl ⟨⟨e5,by omega⟩,o,e5,D,rs,rfl,.of (by rw[ak Nl];exact r2),λr hr=>.inl (.inl ?_),λl hl=>?_⟩
  ·rw[ak (λz=>by have:=r3 r hr;rw[z,e5]at this;cases this)];exact r3 r hr
  ·rw[r1,List.take_of_length_le (by omega)];exact hQ _ l hda hl
 |succ m=>
  have hi:i<kvs.length:=by omega
  refine .inr ⟨⟨e5,hi⟩,_,λxS Ed w=>⟨m,Ub _,w⟩,λx H2 hy=>?_⟩;obtain⟨rfl,kv,hkv,rfl⟩:=hy;obtain⟨k,f1,f2⟩:=hf kv (Tr hkv);have g1:(σ'.set p (some (kV kv.1)))[p]?=some (some (kV kv.1)):=S6 (by omega);have g2:(σ'.set p (some (kV kv.1)))[a]?=some (some (.ref la)):=by rw[SX hpa];exact e3
  have g3:(σ'.set p (some (kV kv.1)))[b]?=some (some (.ref da)):=by rw[SX Rg];exact e4
  have rl:Rd H2 la (.dK Gg):=by
   by_cases hc:la=da
   ·subst hc;rw[ea]at el;cases el;exact .inr ⟨o,e5⟩
   ·exact .inl (e6 la _ hc el)
  refine⟨kV kv.1,g1,.ref la,g2,.ref da,g3,kV kv.1,g1,da,kV k,rfl,.inl ⟨kvs,kv.1,.inr ⟨o,e5⟩,rfl,f1.symm⟩,la,f kv.1,rfl,.inl ⟨Gg,k,rl,rfl,f2.symm⟩,by show 2<=sizeLine;decide,λc hc=>?_⟩;have P0:D≠c:=λz=>by rw[<-z,r2]at hc;cases hc
  have hca:da≠c:=λz=>by rw[<-z,e5]at hc;cases hc
  refine⟨rs.map λr=>V.ref r.1,by rw[ak P0];exact r2,by rw[S1];omega,by omega,by rw[U8];exact e2,g2,g3,by rw[ak Nl.symm,ak hca];exact e5,λc' u hc' e=>?_,rs++[(c,kv.1,f kv.1)],?_,?_,?_⟩
  ·rw[ak (aD e PZ),ak (aD (e6 c' u hc' e) hc)];exact e6 c' u hc' e
  ·rw[List.take_succ,hkv];simp[r1]
  ·rw[aC];simp
  ·intro r hr
   have hne:∀r:Addr×Key×V,H2 r.1=some (.tup [kV r.2.1,r.2.2])->r.1≠D:=λr e z=>by rw[z,r2]at e;cases e
   rcases Ua.mp hr with hr|hr
   ·rw[ak (hne r (r3 r hr)),ak (aD (r3 r hr) hc)];exact r3 r hr
   ·rw[Ti]at hr;subst hr;rw[ak P0.symm,aC]
end
end L2
end
section
namespace Hv
open PySem L2 PyProof.Rows
inductive Val
 |non|bl (b:Bool)|int (i:Int)|str (x:Str)|tup (vs:List Val)|rl (vs:List Val)|dc (ks:List Key) (vs:List Val)|ob (c:Nat) (xs:List Str) (vs:List Val)|ref (i:Nat)
inductive Ob
 |lst (xs:List Val)|dct (kvs:List (Key×Val))|ins (c:Nat) (fs:List (Str×Val))
abbrev Hs:=List Ob
inductive Out (α:Type)
 |ok (a:α) (h:Hs)|exc (c:Nat) (vs:List Val) (h:Hs)|no
abbrev M(α:Type):=Hs->Out α
def ret{α:Type}(a:α):M α:=λh=>.ok a h
def bnd{α β:Type}(m:M α)(f:α -> M β):M β:=λh=>match m h with
 |.ok a h'=>f a h'
 |.exc c vs h'=>.exc c vs h'
 |.no=>.no
def aS{α:Type}(o:Option α):M α:=λh=>match o with
 |some a=>.ok a h
 |none=>.no
def ask{α:Type}(f:Hs->Option α):M α:=λh=>aS (f h) h
def new(o:Ob):M Val:=λh=>.ok (.ref h.length) (h++[o])
def put(i:Nat)(o:Ob):M Unit:=λh=>.ok () (h.set i o)
def bf{α β:Type}(f:α -> Option β):List α -> Option (List β)
 |[]=>some []
 |a::r=>(f a).bind λb=>(bf f r).bind λbs=>some (b::bs)
inductive Eh|add|sub|mul|fdiv|mod|pow
 deriving DecidableEq
inductive Gi|eq|ne|lt|le|gt|ge|isn|ntn|yQ|nin
 deriving DecidableEq
inductive Bl|len|min|max|sorted|list|tuple|str|int|all|any|isin (T:String)
 deriving DecidableEq
inductive Me|join|append|extend|remove
 deriving DecidableEq
inductive uF|one (i:Nat)|tup (is:List Nat)
 deriving DecidableEq
inductive Ik|seq|range|enum|zip
 deriving DecidableEq
mutual
inductive IE
 |var (i:Nat)|cst (d:Val)|con (x:Str) (d:Val)|no
 |bin (o:Eh) (a b:IE)|neg (a:IE)|cmp (o:Gi) (a b:IE)|chn (o p:Gi) (a b c:IE)
 |and (a b:IE)|or (a b:IE)|not (a:IE)|ite (c a b:IE)
 |tup (es:jD)|lst (es:jD)|idx (a b:IE)|slc (a lo hi:IE)
 |call (j:Nat) (es:jD)|blt (b:Bl) (es:jD)|met (m:Me) (a:IE) (es:jD)
 |comp (N:List Str) (js:List (Option Nat)) (pat:uF) (k:Ik) (it:jD) (c elt:IE)
 |dct0
 |sset (a:IE)
 |dget (d k x:IE)
 |dct1 (k v:IE)
 |lkeys (d:IE)
 |sdef (d k x:IE)
 |svals (d:IE)
 |skeys (d:IE)
 |fld (n:Nat) (a:IE) (x:Str)
 |mth (a:IE) (m:Str) (js:List (Nat×Nat)) (es:jD)
 |rev (a s:IE)
 |dflt (N:List Str) (js:List (Option Nat)) (p q:Nat) (d w:IE)
 |isc (a:IE) (x:Str) (bs:List Bool)
inductive jD|nil|cons (e:IE) (es:jD)
end
abbrev Env:=List (Option Val)
mutual
inductive IS
 |expr (e:IE)|asg (p:uF) (e:IE)|aug (i:Nat) (o:Eh) (e:IE)|j4 (o i v:IE)
 |iff (c:IE) (a b:eO)|for (p:uF) (k:Ik) (it:jD) (body:eO)|whl (n:Nat) (c:IE) (body:eO)
 |ret (e:IE)|zL|brk|cnt|pass|never|setF (n:Nat) (a:IE) (x:Str) (v:IE)
inductive eO|nil|cons (s:IS) (r:eO)
end
def aA(h:Hs):Val->Option (List Val)
 |.rl vs=>some vs
 | .ref i=>match h[i]? with
  |some (.lst xs)=>some xs
  |_=>none
 |_=>none
def cF(h:Hs):Val->Option (List Val)
 |.tup vs=>some vs
 |v=>aA h v
def o6(h:Hs):Val->Option (List Val)
 |.tup vs=>some vs
 |.ref i=>aA h (.ref i)
 |_=>none
def aO:List Val->Option (List Int):=bf λv=>match v with
 |.int i=>some i
 |_=>none
def dM:List Val->Option (List Bool):=bf λv=>match v with
 |.bl i=>some i
 |_=>none
def jw:List Val->Option (List (List Int)):=bf λv=>match v with
 |.tup vs=>if vs.isEmpty then none else aO vs
 |_=>none
def toD:Nat->Hs->Val->Option PyData
 |0,_,_=>none
 |_+1,_,.non=>some .none
 |_+1,_,.bl b=>some (.bool b)
 |_+1,_,.int i=>some (.int i)
 |_+1,_,.str x=>if PyData.strOk x=true then some (.str x) else none
 |n+1,h,.tup vs=>(bf (toD n h) vs).bind λds=>some (.tuple ds)
 |n+1,h,.rl vs=>(bf (toD n h) vs).bind λds=>some (.list ds)
 |_+1,_,.dc _ _=>none
 |_+1,_,.ob _ _ _=>none
 |n+1,h,.ref i=>(aA h (.ref i)).bind λxs=>(bf (toD n h) xs).bind λds=>some (.list ds)
def yR(h:Hs)(v w:Val):Option Bool:=(toD 16 h v).bind λd=>(toD 16 h w).bind λe=>some (PyData.eqv d e)
def qA(x:List Int):List (List Int)->List (List Int)
 |[]=>[x]
 |y::r=>if HT.lexLt y x=true then y::qA x r else x::y::r
def j5:List (List Int)->List (List Int)
 |[]=>[]
 |x::r=>qA x (j5 r)
def jE(ks:List Int):Val:=.tup (ks.map .int)
def fG(xs:List Val):Option (List Val) :=
 if xs.length<64 then
  match aO xs with
  |some ns=>some ((sortI ns).map .int)
  |none=>(jw xs).bind λmj=>some ((j5 mj).map jE)
 else none
def qB:List Int->Option Val
 |[]=>none
 |a::r=>some (.int (r.foldl min a))
def qC:List Int->Option Val
 |[]=>none
 |a::r=>some (.int (r.foldl max a))
def eT(i j:Int):Bool:=(decide (-(2 ^ 64)<i)&&decide (i<2 ^ 64))||(decide (-(2 ^ 64)<j)&&decide (j<2 ^ 64))
def aI{α:Type}(c:Bool)(m:M α):M α:=λh=>if c=true then m h else .no
def kR(b:Int):Bool:=decide (0<b/\b<1606938044258990275541962092341162602522202993782792835301376)
def JI:Eh->Val->Val->M Val
 |.add,.int a,.int b=>ret (.int (a+b))
 |.add,.str a,.str b=>aI (decide (a.length+b.length<=sizeLine)) (ret (.str (a++b)))
 |.add,.tup a,.tup b=>aI (!a.isEmpty&&decide (a.length+b.length<=sizeLine)) (ret (.tup (a++b)))
 |.add,v,w=>bnd (ask λh=>aA h v) λa=>bnd (ask λh=>aA h w) λb=>aI (decide (a.length+b.length<=sizeLine)) (new (.lst (a++b)))
 |.sub,.int a,.int b=>ret (.int (a-b))
 |.mul,.int a,.int b=>aI (eT a b) (ret (.int (a*b)))
 |.fdiv,.int a,.int b=>aI (kR b) (ret (.int (a/b)))
 |.mod,.int a,.int b=>aI (decide (0<b)) (ret (.int (a%b)))
 |.pow,.int a,.int b=>aI (decide (0<=b/\b<=1000000/\a.natAbs<2 ^ 64)) (ret (.int (a ^ b.toNat)))
 |_,_,_=>aS none
def mZ:Val->Bool
 |.non=>true
 |_=>false
def bN(kvs:List (Key×Val))(k:Key):Option Val:=(kvs.find? λkv=>decide (kv.1=k)).map (·.2)
def jo(kvs:List (Key×Val))(k:Key)(v:Val):List (Key×Val) :=
 if (kvs.any λkv=>decide (kv.1=k))=true then kvs.map (λkv=>if kv.1=k then (kv.1,v) else kv) else kvs++[(k,v)]
def keyOf:Val->Option Key
 |.int i=>some (.inl i)
 |.str x=>some (.inr x)
 |_=>none
def KS(f d:PyData):Option Bool:=match f with
 |.list ds=>some (ds.any λy=>PyData.eqv y d)
 |.tuple ds=>some (ds.any λy=>PyData.eqv y d)
 |_=>none
def memD(h:Hs)(v w:Val):Option Bool:=(toD 16 h w).bind λf=>(toD 16 h v).bind λd=>KS f d
def sd(h:Hs)(v w:Val):Option Bool:=memD h v w
def Ei(v w:Val):Option Bool:=match w with
 |.non=>some (mZ v)
 | .bl b=>(match v with
  |.bl a=>some (a==b)
  |_=>none)
 |_=>none
def cop(h:Hs):Gi->Val->Val->Option Bool
 |.eq,v,w=>yR h v w
 |.ne,v,w=>(yR h v w).map (!·)
 |.lt,.int a,.int b=>some (decide (a<b))
 |.le,.int a,.int b=>some (decide (a<=b))
 |.gt,.int a,.int b=>some (decide (b<a))
 |.ge,.int a,.int b=>some (decide (b<=a))
 |.isn,v,w=>Ei v w
 |.ntn,v,w=>(Ei v w).map (!·)
 |.yQ,v,w=>sd h v w
 |.nin,v,w=>(sd h v w).map (!·)
 |_,_,_=>none
def cI(h:Hs):Val->Option Bool
 |.non=>some false
 |.bl b=>some b
 |.int i=>some (i != 0)
 |.str x=>if x.length<=sizeLine then some ((x.length:Int) != 0) else none
 |.tup vs=>some (!vs.isEmpty)
 |.rl vs=>some (!vs.isEmpty)
 |.dc ks _=>some (!ks.isEmpty)
 |.ob _ _ _=>none
 | .ref i=>match h[i]? with
  |some (.lst xs)=>some (!xs.isEmpty)
  |some (.dct xs)=>some (!xs.isEmpty)
  |_=>none
def iF(h:Hs):Val->Val->Option Val
 |.str x,.int i=>if x.length<=sizeLine then (gU x.cps.toList i).map λc=>.str ⟨[c].toArray⟩ else none
 |.tup vs,.int i=>gU vs i
 |.rl vs,.int i=>gU vs i
 | .ref j,.int i=>match h[j]? with
  |some (.dct kvs)=>bN kvs (.inl i)
  |_=>(aA h (.ref j)).bind λxs=>gU xs i
 | .ref j,.str x=>match h[j]? with
  |some (.dct kvs)=>bN kvs (.inr x)
  |_=>none
 |.dc ks vs,.int i=>bN (ks.zip vs) (.inl i)
 |.dc ks vs,.str x=>bN (ks.zip vs) (.inr x)
 |_,_=>none
def zM(h:Hs)(o:Val):Option Unit:=match o with
 | .ref i=>(match h[i]? with
  |some (.dct _)=>some ()
  |_=>none)
 |.dc _ _=>some ()
 |_=>none
def kT(h:Hs)(o:Val)(k:Key):Option (Option Val):=match o with
 | .ref i=>(match h[i]? with
  |some (.dct kvs)=>some (bN kvs k)
  |_=>none)
 |.dc ks vs=>some (bN (ks.zip vs) k)
 |_=>none
def j6(h:Hs)(o:Val):Option (List Key):=match o with
 | .ref i=>(match h[i]? with
  |some (.dct kvs)=>some (kvs.map (·.1))
  |_=>none)
 |.dc ks _=>some ks
 |_=>none
def zN:Key->Val
 |.inl i=>.int i
 |.inr x=>.str x
def o7:List Key->Option (List Int):=bf λk=>match k with
 |.inl i=>some i
 |.inr _=>none
def kU(h:Hs)(o:Val):Option (List Int):=(j6 h o).bind λks=>(o7 ks).bind λns=>if ns.length<64 then some (sortI ns).reverse else none
def jF(h:Hs)(o l:Val)(k:Key):Option (Key×Val):=(kT h o k).bind λr=>r.bind λv=>(keyOf v).bind λk2=>(kT h l k2).bind λr2=>r2.bind λu=>some (k,u)
def x8(h:Hs)(o l:Val):Option (List (Key×Val)):=(j6 h o).bind λks=>(j6 h l).bind λ_=>if ks.length<=1000/\ks.Nodup then bf (jF h o l) ks else none
def bU{α:Type}(ds:List α)(lo hi:Option Int):List α:=(ds.drop (HT.cT ds.length 0 lo)).take (HT.cT ds.length ds.length hi-HT.cT ds.length 0 lo)
def oj(v:Val)(lo hi:Option Int):M Val:=match v with
 |.tup vs=>aI (!(decide (HT.cT vs.length 0 lo=0)&&decide (HT.cT vs.length vs.length hi=vs.length))) (ret (.tup (bU vs lo hi)))
 |v=>bnd (ask λh=>aA h v) λxs=>new (.lst (bU xs lo hi))
def se(h:Hs):Val->Option String
 |.non=>some "NoneType" | .bl _=>some "bool" | .int _=>some "int" | .str _=>some "str" | .tup _=>some "tuple" | .rl _=>some "list" | .dc _ _=>some "dict" | .ob _ _ _=>none
 | .ref i=>match h[i]? with
  |some (.lst _)=>some "list"
  |some (.dct _)=>some "dict"
  |_=>none
def sf(T:String)(t:String):Option Bool :=
 if ["list","tuple","str","bool","int","dict"].contains T=true then some (decide (T=t\/(T = "int" /\ t = "bool"))) else none
def j7(h:Hs):Val->Option Nat
 |.str x=>if x.length<=sizeLine then some x.length else none
 |.tup vs=>some vs.length
 |.rl vs=>some vs.length
 |.dc ks _=>some ks.length
 | .ref i=>match h[i]? with
  |some (.lst xs)=>some xs.length
  |some (.dct xs)=>some xs.length
  |_=>none
 |_=>none
def blt:Bl->List Val->M Val
 |.len,[v]=>bnd (ask λh=>j7 h v) λn=>ret (.int n)
 |.min,[.int a,.int b]=>ret (.int (if b<a then b else a))
 |.max,[.int a,.int b]=>ret (.int (if b>a then b else a))
 |.min,[v]=>bnd (ask λh=>cF h v) λxs=>aS ((aO xs).bind qB)
 |.max,[v]=>bnd (ask λh=>cF h v) λxs=>aS ((aO xs).bind qC)
 |.sorted,[v]=>bnd (ask λh=>aA h v) λxs=>bnd (aS (fG xs)) λys=>new (.lst ys)
 |.list,[v]=>bnd (ask λh=>cF h v) λxs=>new (.lst xs)
 |.int,[.bl b]=>ret (.int (if b=true then 1 else 0))
 |.int,[.int i]=>ret (.int i)
 |.all,[v]=>bnd (ask λh=>aA h v) λxs=>bnd (aS (dM xs)) λbs=>ret (.bl (bs.all id))
 |.isin T,[v]=>bnd (ask λh=>se h v) λt=>bnd (aS (sf T t)) λb=>ret (.bl b)
 |_,_=>aS none
def met:Me->Val->List Val->M Val
 |.append,.ref i,[v]=>bnd (ask λh=>match h[i]? with|some (.lst xs)=>some xs|_=>none) λxs=>aI (decide (xs.length<sizeLine)) (bnd (put i (.lst (xs++[v]))) λ_=>ret .non)
 |.extend,.ref i,[v]=>bnd (ask λh=>match h[i]? with|some (.lst xs)=>some xs|_=>none) λxs=>bnd (ask λh=>o6 h v) λys=>aI (decide (xs.length+ys.length<=sizeLine)) (bnd (put i (.lst (xs++ys))) λ_=>ret .non)
 |.remove,.ref i,[.int k]=>bnd (ask λh=>match h[i]? with|some (.lst xs)=>some xs|_=>none) λxs=>bnd (aS (aO xs)) λks=>aI (decide (k∈ks)) (bnd (put i (.lst (xs.eraseIdx (ks.idxOf k)))) λ_=>ret .non)
 |_,_,_=>aS none
def recv(h:Hs):Me->Val->Option Unit
 |.join,.str _=>some ()
 |.append,.ref i=>match h[i]? with|some (.lst _)=>some ()|_=>none
 |.extend,.ref i=>match h[i]? with|some (.lst _)=>some ()|_=>none
 |.remove,.ref i=>match h[i]? with|some (.lst _)=>some ()|_=>none
 |_,_=>none
inductive Src
 |fix (xs:List Val)|live (i:Nat)|enum (i:Nat)|zip (v w:Val)
def bW:Nat->List Val->List Val
 |_,[]=>[]
 |i,d::r=>.tup [.int i,d]::bW (i+1) r
def KW:List Val->List Val->List Val
 |a::r,b::t=>.tup [a,b]::KW r t
 |_,_=>[]
def bY(lo:Int)(n:Nat):List Val:=(List.range n).map λ(i:Nat)=>Val.int (lo+(i:Int))
def inR(i:Int):Bool:=decide (-(2 ^ 62)<=i)&&decide (i<2 ^ 62)
def srcOf:Ik->List Val->Option Src
 |.seq,[.tup vs]=>some (.fix vs)
 |.seq,[.rl vs]=>some (.fix vs)
 |.seq,[.ref i]=>some (.live i)
 |.range,[.int n]=>if inR n then some (.fix (bY 0 n.toNat)) else none
 |.range,[.int a,.int b]=>if inR a&&inR b then some (.fix (bY a (b-a).toNat)) else none
 |.enum,[.rl vs]=>some (.fix (bW 0 vs))
 |.enum,[.ref i]=>some (.enum i)
 |.zip,[v,w]=>some (.zip v w)
 |_,_=>none
def Src.items(h:Hs):Src->Option (List Val)
 |.fix xs=>some xs
 |.live i=>aA h (.ref i)
 |.enum i=>(aA h (.ref i)).map (bW 0)
 |.zip v w=>(aA h v).bind λxs=>(aA h w).map λys=>KW xs ys
def bindAll:List Nat->List Val->Env->Option Env
 |[],[],env=>some env
 |i::is,d::ds,env=>bindAll is ds (env.set i (some d))
 |_,_,_=>none
def eV:uF->Val->Env->Option Env
 |.one i,d,env=>some (env.set i (some d))
 |.tup is,.tup ds,env=>bindAll is ds env
 |_,_,_=>none
def iL(js:List (Option Nat))(env:Env):Env:=js.map λo=>match o with
 |none=>none
 | some j=>match env[j]? with
  |some (some d)=>some d
  |_=>none
def dW(src:Src)(f:Val->M (Option Val)):Nat->Nat->List Val->M (List Val)
 |0,i,acc=>bnd (ask λh=>src.items h) λxs=>aI (decide (xs.length<=i)) (ret acc)
 | n+1,i,acc=>bnd (ask λh=>src.items h) λxs=>match xs[i]? with
  |none=>ret acc
  |some x=>bnd (f x) λo=>dW src f n (i+1) (match o with|some e=>acc++[e]|none=>acc)
def cJ:IE->Bool
 |.no=>true
 |_=>false
def fH:Val->Option Int
 |.int i=>some i
 |_=>none
def m5:Val->M Bool
 |.bl b=>ret b
 |_=>aS none
def P1(c:Nat)(φ:List Val->M Val)(vs:List Val):M Val:=bnd (new (.ins c [])) λo=>bnd (φ (o::vs)) λr=>match r with
 |.non=>ret o
 |_=>aS none
mutual
noncomputable def aH(Φ:Nat->List Val->M Val):IE->Env->M Val
 | .var i,env=>aS (match env[i]? with
  |some (some d)=>some d
  |_=>none)
 |.cst d,_=>ret d
 |.con _ d,_=>ret d
 |.no,_=>aS none
 |.bin o a b,env=>bnd (aH Φ a env) λx=>bnd (aH Φ b env) λy=>JI o x y
 |.neg _,_=>aS none
 |.cmp o a b,env=>bnd (aH Φ a env) λx=>bnd (aH Φ b env) λy=>bnd (ask λh=>cop h o x y) λt=>ret (.bl t)
 |.chn _ _ _ _ _,_=>aS none
 |.and a b,env=>bnd (aH Φ a env) λx=>bnd (m5 x) λt=>if t=true then bnd (aH Φ b env) λy=>bnd (m5 y) λu=>ret (.bl u) else ret (.bl false)
 |.or a b,env=>bnd (aH Φ a env) λx=>bnd (m5 x) λt=>if t=true then ret (.bl true) else bnd (aH Φ b env) λy=>bnd (m5 y) λu=>ret (.bl u)
 |.not a,env=>bnd (aH Φ a env) λx=>bnd (m5 x) λt=>ret (.bl (!t))
 |.ite _ _ _,_=>aS none
 |.tup es,env=>bnd (bg Φ es env) λds=>aI (decide (ds.length<=sizeLine)) (ret (.tup ds))
 |.lst es,env=>bnd (bg Φ es env) λds=>aI (decide (ds.length<=sizeLine)) (new (.lst ds))
 |.idx a b,env=>bnd (aH Φ a env) λx=>bnd (aH Φ b env) λy=>ask λh=>iF h x y
 |.slc a lo hi,env=>bnd (aH Φ a env) λx=>bnd (if cJ lo=true then ret none else bnd (aH Φ lo env) λv=>bnd (aS (fH v)) λi=>ret (some i)) λl=>
   bnd (if cJ hi=true then ret none else bnd (aH Φ hi env) λv=>bnd (aS (fH v)) λi=>ret (some i)) λu=>oj x l u
 |.call j es,env=>bnd (bg Φ es env) λds=>Φ j ds
 |.blt b es,env=>bnd (bg Φ es env) λds=>blt b ds
 |.met m a es,env=>bnd (aH Φ a env) λx=>bnd (ask λh=>recv h m x) λ_=>bnd (bg Φ es env) λds=>met m x ds
 | .comp _ js pat k it c elt,env=>bnd (bg Φ it env) λits=>bnd (aS (srcOf k its)) λsrc=>bnd (ask λh=>src.items h) λxs=>aI (decide (xs.length<=100000))
   (bnd (dW src (λd=>bnd (aS (eV pat d (iL js env))) λenv'=>bnd (if cJ c=true then ret true else bnd (aH Φ c env') λv=>ask λh=>cI h v) λt=>
    if t=true then bnd (aH Φ elt env') λe=>ret (some e) else ret none) xs.length 0 []) λys=>new (.lst ys))
 |.dct0,_=>new (.dct [])
 |.sset _,_=>aS none
 |.dget d k x,env=>bnd (aH Φ d env) λo=>bnd (ask λh=>zM h o) λ_=>bnd (aH Φ k env) λi=>bnd (aS (keyOf i)) λkk=>bnd (aH Φ x env) λz=>bnd (ask λh=>kT h o kk) λr=>ret (r.getD z)
 |.dct1 k v,env=>bnd (aH Φ k env) λx=>bnd (aS (keyOf x)) λkk=>bnd (aH Φ v env) λy=>new (.dct [(kk,y)])
 |.lkeys d,env=>bnd (aH Φ d env) λo=>bnd (ask λh=>j6 h o) λks=>new (.lst (ks.map zN))
 |.sdef _ _ _,_=>aS none
 |.svals _,_=>aS none
 |.skeys d,env=>bnd (aH Φ d env) λo=>bnd (ask λh=>kU h o) λns=>new (.lst (ns.map .int))
 |.fld _ _ _,_=>aS none
 |.mth _ _ _ _,_=>aS none
 |.rev a _,env=>bnd (aH Φ a env) λv=>bnd (ask λh=>aA h v) λxs=>bnd (aS (aO xs)) λns=>aI (decide (ns.length<64)) (new (.lst ((sortI ns).reverse.map .int)))
 |.dflt _ _ _ _ d w,env=>bnd (aH Φ d env) λo=>bnd (aH Φ w env) λv=>bnd (ask λh=>x8 h o v) λps=>new (.dct ps)
 |.isc _ _ _,_=>aS none
noncomputable def bg(Φ:Nat->List Val->M Val):jD->Env->M (List Val)
 |.nil,_=>ret []
 |.cons e es,env=>bnd (aH Φ e env) λd=>bnd (bg Φ es env) λds=>ret (d::ds)
end
inductive Fl
 |nx (env:Env)|rt (v:Val)|bk (env:Env)|ct (env:Env)
def forM(src:Src)(body:Val->Env->M Fl):Nat->Nat->Env->M Fl
 |0,i,env=>bnd (ask λh=>src.items h) λxs=>aI (decide (xs.length<=i)) (ret (.nx env))
 | n+1,i,env=>bnd (ask λh=>src.items h) λxs=>match xs[i]? with
  |none=>ret (.nx env)
  | some x=>bnd (body x env) λf=>match f with
   |.nx env'=>forM src body n (i+1) env'
   |.ct env'=>forM src body n (i+1) env'
   |.bk env'=>ret (.nx env')
   |.rt v=>ret (.rt v)
def sj(o i v:Val):M Unit:=match o with
 | .ref j=>bnd (ask λh=>h[j]?) λob=>match ob,i with
  |.lst xs,.int k=>bnd (aS (rR xs.length k)) λn=>put j (.lst (xs.set n v))
  |.dct kvs,i=>bnd (aS (keyOf i)) λk=>aI (decide (kvs.length<sizeLine)) (put j (.dct (jo kvs k v)))
  |_,_=>aS none
 |_=>aS none
mutual
noncomputable def fS(Φ:Nat->List Val->M Val):IS->Env->M Fl
 |.expr e,env=>bnd (aH Φ e env) λ_=>ret (.nx env)
 |.asg p e,env=>bnd (aH Φ e env) λv=>bnd (aS (eV p v env)) λenv'=>ret (.nx env')
 |.aug _ _ _,_=>aS none
 |.j4 o i v,env=>bnd (aH Φ v env) λx=>bnd (aH Φ o env) λy=>bnd (aH Φ i env) λz=>bnd (sj y z x) λ_=>ret (.nx env)
 |.iff c a b,env=>bnd (aH Φ c env) λx=>bnd (ask λh=>cI h x) λt=>if t=true then iM Φ a env else iM Φ b env
 |.for p k it body,env=>bnd (bg Φ it env) λits=>bnd (aS (srcOf k its)) λsrc=>bnd (ask λh=>src.items h) λxs=>
   forM src (λx env=>bnd (aS (eV p x env)) λenv'=>iM Φ body env') xs.length 0 env
 |.whl _ _ _,_=>aS none
 |.ret e,env=>bnd (aH Φ e env) λv=>ret (.rt v)
 |.zL,_=>ret (.rt .non)
 |.brk,env=>ret (.bk env)
 |.cnt,env=>ret (.ct env)
 |.pass,env=>ret (.nx env)
 |.never,_=>aS none
 |.setF _ _ _ _,_=>aS none
noncomputable def iM(Φ:Nat->List Val->M Val):eO->Env->M Fl
 |.nil,env=>ret (.nx env)
 | .cons s r,env=>bnd (fS Φ s env) λf=>match f with
  |.nx env'=>iM Φ r env'
  |f=>ret f
end
def kW(Φ:Nat->List Val->M Val)(n:Nat)(body:eO)(vs:List Val):M Val :=
 bnd (iM Φ body (vs.map some++replicate (n-vs.length) none)) λf=>match f with
  |.nx _=>ret .non
  |.rt v=>ret v
  |_=>aS none
theorem iN{b:Bool}(ho:o=.lt\/o=.le\/o=.gt\/o=.ge)(e:cop h o v w=some b):∃i j,v=.int i/\w=.int j:=by
 cases v with
 |int i=>
  cases w with
  |int j=>exact⟨i,j,rfl,rfl⟩
  |_=>rcases ho with rfl|rfl|rfl|rfl<;>cases e
 |_=>rcases ho with rfl|rfl|rfl|rfl<;>cases e
structure Bd where
 K:Frag
 cl:Nat->Addr
def Ej(K:Frag)(H:Hp)(a:Addr)(xs:List V):Prop :=
 (∃o,H a=some (.jT o (.lst xs)))\/fu K (λ_=>none) a xs
theorem Ej.sq{K:Frag}{H:Hp}{a:Addr}{xs:List V}(h:Ej K H a xs):fu K H a xs:=by
 rcases h with ⟨o,h⟩|(h|⟨o,h⟩)|h
 ·exact .inl (.inr ⟨o,h⟩)
 ·cases h
 ·cases h
 ·exact .inr h
mutual
noncomputable def VR(K:Frag)(ρ:List Addr)(H:Hp):Val->V->Prop
 |.non,x=>x=.non
 |.bl b,x=>x=.bl b
 |.int i,x=>x=.int i
 |.str s,x=>x=.str s
 |.tup vs,x=>∃a xs,x=.ref a/\gS K H a xs/\au K ρ H vs xs
 |.rl vs,x=>∃a xs,x=.ref a/\Ej K H a xs/\au K ρ H vs xs
 |.dc _ _,_=>False
 |.ob _ _ _,_=>False
 |.ref i,x=>∃a,x=.ref a /\ ρ[i]?=some a
noncomputable def au(K:Frag)(ρ:List Addr)(H:Hp):List Val->List V->Prop
 |[],xs=>xs=[]
 |v::vs,xs=>∃x r,xs=x::r/\VR K ρ H v x/\au K ρ H vs r
end
def dX(K:Frag)(ρ:List Addr)(H:Hp):List (Key×Val)->List (Key×V)->Prop
 |[],xs=>xs=[]
 |(k,v)::vs,xs=>∃x r,xs=(k,x)::r/\VR K ρ H v x/\dX K ρ H vs r
def Gj(K:Frag)(ρ:List Addr)(H:Hp):List (Str×Val)->List (Str×V)->Prop
 |[],xs=>xs=[]
 |(k,v)::vs,xs=>∃x r,xs=(k,x)::r/\VR K ρ H v x/\Gj K ρ H vs r
def OR(B:Bd)(ρ:List Addr)(H:Hp)(a:Addr):Ob->Prop
 |.lst xs=>∃ys,H a=some (.lst ys)/\au B.K ρ H xs ys
 |.dct kvs=>∃ks,H a=some (.dK ks)/\dX B.K ρ H kvs ks
 |.ins c fs=>∃dx gs,H a=some (.ins (B.cl c) dx gs)/\Gj B.K ρ H fs gs
structure HR (B:Bd) (ρ:List Addr) (h:Hs) (H:Hp):Prop where
 len:ρ.length=h.length
 nd:ρ.Nodup
 ob:∀(i:Nat) (o:Ob) (a:Addr),h[i]?=some o -> ρ[i]?=some a->OR B ρ H a o
def Mu:HO->Bool
 |.lst _=>true|.dK _=>true|.ins ..=>true
 |_=>false
structure Gw (ρ:List Addr) (H:Hp) (ρ':List Addr) (H':Hp):Prop where
 pre:ρ <+: ρ'
 firm:∀a o,H a=some o->Mu o=false->H' a=some o
structure Gr (ρ:List Addr) (H:Hp) (ρ':List Addr) (H':Hp):Prop where
 pre:ρ <+: ρ'
 keep:∀a o,H a=some o->a ∉ ρ -> H' a=some o
 firm:∀a o,H a=some o->Mu o=false->H' a=some o
 fresh:∀a,a ∈ ρ'->a ∉ ρ -> H a=none
section
variable {K:Frag} {B:Bd} {ρ ρ' ρ1 ρ2:List Addr} {H H' H1 H2:Hp} {h h':Hs}
theorem Gr.w(g:Gr ρ H ρ' H'):Gw ρ H ρ' H':=⟨g.pre,g.firm⟩
theorem Gr.refl:Gr ρ H ρ H:=⟨Tg _,λ_ _ e _=>e,λ_ _ e _=>e,λ_ e n=>absurd e n⟩
theorem Gr.trans(g:Gr ρ H ρ1 H1)(k:Gr ρ1 H1 ρ2 H2):Gr ρ H ρ2 H2 where
 pre:=g.pre.trans k.pre
 keep a o e n:=k.keep a o (g.keep a o e n) λz=>by rw[g.fresh a z n]at e;cases e
 firm a o e n:=k.firm a o (g.firm a o e n) n
 fresh a z n:=by
  by_cases hb:a ∈ ρ1
  ·exact g.fresh a hb n
  ·cases e:H a with
   |none=>rfl
   |some o=>have e1:=g.keep a o e n;rw[k.fresh a z hb]at e1;cases e1
theorem mq{i:Nat}(p:ρ <+: ρ')(e:ρ[i]?=some a):ρ'[i]?=some a:=by
 obtain⟨t,rfl⟩:=p;have hi:i < ρ.length:=(SW.mp e).1;rw[Tf hi];exact e
theorem Gw.Nm(g:Gw ρ H ρ' H')(e:gS K H a xs):gS K H' a xs:=by
 rcases e with (e|⟨o,e⟩)|e
 ·exact .inl (.inl (g.firm _ _ e rfl))
 ·exact .inl (.inr ⟨o,g.firm _ _ e rfl⟩)
 ·exact .inr e
theorem Gw.Gk(g:Gw ρ H ρ' H')(e:Ej K H a xs):Ej K H' a xs:=by
 rcases e with ⟨o,e⟩|e
 ·exact .inl ⟨o,g.firm _ _ e rfl⟩
 ·exact .inr e
mutual
theorem VR.jx(g:Gw ρ H ρ' H'):∀(v:Val) (x:V),VR K ρ H v x->VR K ρ' H' v x
 |.non,x,e=>by rw[VR]at e |-;exact e
 |.bl b,x,e=>by rw[VR]at e |-;exact e
 |.int b,x,e=>by rw[VR]at e |-;exact e
 |.str b,x,e=>by rw[VR]at e |-;exact e
 | .tup vs,x,e=>by
  rw[VR]at e |-;obtain⟨a,xs,rfl,q1,q2⟩:=e;exact⟨a,xs,rfl,g.Nm q1,au.jx g vs xs q2⟩
 | .rl vs,x,e=>by
  rw[VR]at e |-;obtain⟨a,xs,rfl,q1,q2⟩:=e;exact⟨a,xs,rfl,g.Gk q1,au.jx g vs xs q2⟩
 |.dc _ _,x,e=>by rw[VR]at e;exact e.elim
 |.ob _ _ _,x,e=>by rw[VR]at e;exact e.elim
 | .ref i,x,e=>by
  rw[VR]at e |-;obtain⟨a,rfl,q⟩:=e;exact⟨a,rfl,mq g.pre q⟩
theorem au.jx(g:Gw ρ H ρ' H'):∀(vs:List Val) (xs:List V),au K ρ H vs xs->au K ρ' H' vs xs
 |[],xs,e=>by rw[au]at e |-;exact e
 | v::vs,xs,e=>by
  rw[au]at e |-;obtain⟨x,r,rfl,q1,q2⟩:=e;exact⟨x,r,rfl,VR.jx g v x q1,au.jx g vs r q2⟩
end
theorem dX.jx(g:Gw ρ H ρ' H'):∀(vs:List (Key×Val)) (xs:List (Key×V)),dX K ρ H vs xs->dX K ρ' H' vs xs
 |[],xs,e=>e
 |(k,v)::vs,xs,⟨x,r,e,q1,q2⟩=>⟨x,r,e,VR.jx g v x q1,dX.jx g vs r q2⟩
theorem Gj.jx(g:Gw ρ H ρ' H'):∀(vs:List (Str×Val)) (xs:List (Str×V)),Gj K ρ H vs xs->Gj K ρ' H' vs xs
 |[],xs,e=>e
 |(k,v)::vs,xs,⟨x,r,e,q1,q2⟩=>⟨x,r,e,VR.jx g v x q1,Gj.jx g vs r q2⟩
theorem VR.up(g:Gr ρ H ρ' H')(v:Val)(x:V)(e:VR K ρ H v x):VR K ρ' H' v x:=VR.jx g.w v x e
theorem au.up(g:Gr ρ H ρ' H')(v:List Val)(x:List V)(e:au K ρ H v x):au K ρ' H' v x:=au.jx g.w v x e
theorem dX.up(g:Gr ρ H ρ' H')(v:List (Key×Val))(x:List (Key×V))(e:dX K ρ H v x):dX K ρ' H' v x:=dX.jx g.w v x e
theorem au.nil:au K ρ H [] []:=by rw[au]
theorem au.cons{v:Val}{vs:List Val}{x:V}{xs:List V}(a:VR K ρ H v x)(b:au K ρ H vs xs):au K ρ H (v::vs) (x::xs):=by rw[au];exact⟨x,xs,rfl,a,b⟩
theorem au.length:∀{vs:List Val} {xs:List V},au K ρ H vs xs->vs.length=xs.length
 |[],xs,e=>by rw[au]at e;subst e;rfl
 |v::vs,xs,e=>by rw[au]at e;obtain⟨x,r,rfl,_,q⟩:=e;simp[au.length q]
theorem au.get:∀{vs:List Val} {xs:List V} {i:Nat} {v:Val},au K ρ H vs xs->vs[i]?=some v->∃x,xs[i]?=some x/\VR K ρ H v x
 |[],xs,i,v,e,q=>by simp at q
 | w::vs,xs,0,v,e,q=>by
  rw[au]at e;obtain⟨x,r,rfl,a,_⟩:=e;simp at q;subst q;exact⟨x,rfl,a⟩
 | w::vs,xs,i+1,v,e,q=>by
  rw[au]at e;obtain⟨x,r,rfl,_,b⟩:=e;simp at q;obtain⟨y,q1,q2⟩:=au.get b q;exact⟨y,by simpa using q1,q2⟩
theorem au.append:∀{vs ws:List Val} {xs ys:List V},au K ρ H vs xs->au K ρ H ws ys->au K ρ H (vs++ws) (xs++ys)
 |[],ws,xs,ys,e,q=>by rw[au]at e;subst e;exact q
 | w::vs,ws,xs,ys,e,q=>by
  rw[au]at e;obtain⟨x,r,rfl,a,b⟩:=e;exact au.cons a (au.append b q)
theorem au.take:∀{vs:List Val} {xs:List V} (n:Nat),au K ρ H vs xs->au K ρ H (vs.take n) (xs.take n)
 |_,_,0,_=>by simp;exact au.nil
 |[],xs,n+1,e=>by rw[au]at e;subst e;simp;exact au.nil
 | w::vs,xs,n+1,e=>by
  rw[au]at e;obtain⟨x,r,rfl,a,b⟩:=e;exact au.cons a (au.take n b)
theorem au.drop:∀{vs:List Val} {xs:List V} (n:Nat),au K ρ H vs xs->au K ρ H (vs.drop n) (xs.drop n)
 |_,_,0,e=>by simpa using e
 |[],xs,n+1,e=>by rw[au]at e;subst e;simp;exact au.nil
 | w::vs,xs,n+1,e=>by
  rw[au]at e;obtain⟨x,r,rfl,a,b⟩:=e;exact au.drop n b
theorem au.cut(lo hi:Option Int)(e:au K ρ H vs xs):au K ρ H (bU vs lo hi) (rQ xs lo hi):=by
 unfold bU rQ;rw[e.length];exact au.take _ (au.drop _ e)
theorem au.gU{i:Int}(e:au K ρ H vs xs)(q:L2.gU vs i=some v):∃x,L2.gU xs i=some x/\VR K ρ H v x:=by
 unfold L2.gU at q |-;rw[e.length]at q;cases hi:L2.rR xs.length i with
 |none=>rw[hi]at q;cases q
 |some n=>rw[hi]at q;exact au.get e q
theorem au.set:∀{vs:List Val} {xs:List V} (n:Nat) {v:Val} {x:V},au K ρ H vs xs->VR K ρ H v x->au K ρ H (vs.set n v) (xs.set n x)
 |[],xs,n,v,x,e,q=>by rw[au]at e;subst e;simp;exact au.nil
 | w::vs,xs,0,v,x,e,q=>by
  rw[au]at e;obtain⟨y,r,rfl,a,b⟩:=e;exact au.cons q b
 | w::vs,xs,n+1,v,x,e,q=>by
  rw[au]at e;obtain⟨y,r,rfl,a,b⟩:=e;exact au.cons a (au.set n b q)
theorem au.one(e:au K ρ H [v] xs):∃x,xs=[x]/\VR K ρ H v x:=by
 rw[au]at e;obtain⟨x,r,rfl,a,b⟩:=e;rw[au]at b;subst b;exact⟨x,rfl,a⟩
theorem au.two(e:au K ρ H [v,w] xs):∃x y,xs=[x,y]/\VR K ρ H v x/\VR K ρ H w y:=by
 rw[au]at e;obtain⟨x,r,rfl,a,b⟩:=e;obtain⟨y,rfl,c⟩:=au.one b;exact⟨x,y,rfl,a,c⟩
theorem VR.int{i:Int}:VR K ρ H (.int i) (.int i):=by rw[VR]
theorem VR.str:VR K ρ H (.str i) (.str i):=by rw[VR]
theorem VR.bl{i:Bool}:VR K ρ H (.bl i) (.bl i):=by rw[VR]
theorem VR.non:VR K ρ H .non .non:=by rw[VR]
theorem VR.tup(q:gS K H a xs)(e:au K ρ H vs xs):VR K ρ H (.tup vs) (.ref a):=by rw[VR];exact⟨a,xs,rfl,q,e⟩
theorem VR.ref{i:Nat}(q:ρ[i]?=some a):VR K ρ H (.ref i) (.ref a):=by rw[VR];exact⟨a,rfl,q⟩
theorem au.ints:∀{ns:List Int} {xs:List V},au K ρ H (ns.map Val.int) xs↔xs=ns.map V.int
 |[],xs=>by simp[au]
 | n::ns,xs=>by
  simp only[map_cons];rw[au];constructor
  ·rintro⟨x,r,rfl,a,b⟩;rw[VR]at a;subst a;rw[(au.ints (ns:=ns)).mp b]
  ·rintro rfl;exact⟨_,_,rfl,VR.int,(au.ints (ns:=ns)).mpr rfl⟩
theorem au.bools:∀{ns:List Bool} {xs:List V},au K ρ H (ns.map Val.bl) xs↔xs=ns.map V.bl
 |[],xs=>by simp[au]
 | n::ns,xs=>by
  simp only[map_cons];rw[au];constructor
  ·rintro⟨x,r,rfl,a,b⟩;rw[VR]at a;subst a;rw[(au.bools (ns:=ns)).mp b]
  ·rintro rfl;exact⟨_,_,rfl,VR.bl,(au.bools (ns:=ns)).mpr rfl⟩
theorem au.tups:∀{mj:List (List Int)} {xs:List V},au K ρ H (mj.map jE) xs->∃rs:List (Addr×List Int),xs=rs.map (λr=>V.ref r.1)/\mj=rs.map (·.2)/\∀r∈rs,gS K H r.1 (r.2.map V.int)
 |[],xs,e=>by simp only[map_nil]at e;rw[au]at e;exact⟨[],e,rfl,λ_ z=>nomatch z⟩
 | ks::mj,xs,e=>by
  simp only[map_cons]at e;rw[au]at e;obtain⟨x,r,rfl,a,b⟩:=e;obtain⟨rs,e1,e2,e3⟩:=au.tups b;unfold jE at a;rw[VR]at a;obtain⟨p,ys,rfl,g1,g2⟩:=a;rw[au.ints.mp g2]at g1;refine⟨(p,ks)::rs,by rw[e1];rfl,by rw[e2];rfl,λr hr=>?_⟩
  rcases Td.mp hr with z|z
  ·rw[z];exact g1
  ·exact e3 r z
theorem au.vF:∀{rs:List (Addr×List Int)},(∀r∈rs,gS K H r.1 (r.2.map V.int))->au K ρ H ((rs.map (·.2)).map jE) (rs.map λr=>V.ref r.1)
 |[],_=>au.nil
 |r::rs,e=>au.cons (VR.tup (e r S3) (au.ints.mpr rfl)) (au.vF λq hq=>e q (S2 _ hq))
theorem OR.mu(q:OR B ρ H a o):∃u,H a=some u/\Mu u=true:=by
 cases o with
 |lst xs=>obtain⟨ys,e,_⟩:=q;exact⟨_,e,rfl⟩
 |dct xs=>obtain⟨ys,e,_⟩:=q;exact⟨_,e,rfl⟩
 |ins c fs=>obtain⟨dx,ys,e,_⟩:=q;exact⟨_,e,rfl⟩
theorem HR.mu(r:HR B ρ h H)(e:a ∈ ρ):∃u,H a=some u/\Mu u=true:=by
 obtain⟨i,hi,rfl⟩:=Vc e;have hi':i<h.length:=by rw[<-r.len];exact hi
 exact(r.ob i _ _ (Tz hi') (Tz hi)).mu
theorem HR.out(r:HR B ρ h H)(e:H p=none):p ∉ ρ:=λz=>by
 obtain⟨u,q,_⟩:=r.mu z;rw[e]at q;cases q
theorem OR.jx(g:Gw ρ H ρ' H')(e:H' a=H a)(q:OR B ρ H a o):OR B ρ' H' a o:=by
 cases o with
 |lst xs=>obtain⟨ys,e1,e2⟩:=q;exact⟨ys,e.trans e1,au.jx g _ _ e2⟩
 |dct xs=>obtain⟨ys,e1,e2⟩:=q;exact⟨ys,e.trans e1,dX.jx g _ _ e2⟩
 |ins c fs=>obtain⟨dx,ys,e1,e2⟩:=q;exact⟨dx,ys,e.trans e1,Gj.jx g _ _ e2⟩
theorem OR.up(g:Gr ρ H ρ' H')(e:H' a=H a)(q:OR B ρ H a o):OR B ρ' H' a o:=OR.jx g.w e q
theorem Gr.side(e:H p=none):Gr ρ H ρ (upd H p o) where
 pre:=Tg _
 keep a u q _:=by rw[ak (aD q e)];exact q
 firm a u q _:=by rw[ak (aD q e)];exact q
 fresh a z n:=absurd z n
theorem HR.side(r:HR B ρ h H)(e:H p=none):HR B ρ h (upd H p o) where
 len:=r.len
 nd:=r.nd
 ob i u a q1 q2:=by refine OR.up (Gr.side e) ?_ (r.ob i u a q1 q2);refine ak λz=>?_;subst z;exact r.out e (Tr q2)
theorem Gw.other(e:H p=some u)(hm:Mu u=true):Gw ρ H ρ (upd H p o) where
 pre:=Tg _
 firm a w q n:=by
  have:a≠p:=λz=>by subst z;rw[e]at q;cases q;rw[hm]at n;cases n
  rw[ak this];exact q
theorem HR.other(r:HR B ρ h H)(hp:p ∉ ρ)(e:H p=some u)(hm:Mu u=true):HR B ρ h (upd H p o) where
 len:=r.len
 nd:=r.nd
 ob i w a q1 q2:=OR.jx (Gw.other e hm) (ak λz=>by subst z;exact hp (Tr q2)) (r.ob i w a q1 q2)
theorem Gr.new(e:H p=none):Gr ρ H (ρ ++ [p]) (upd H p o) where
 pre:=TZ _ _
 keep a u q _:=by rw[ak (aD q e)];exact q
 firm a u q _:=by rw[ak (aD q e)];exact q
 fresh a z n:=by
  rcases Ua.mp z with z|z
  ·exact absurd z n
  ·rw[Ti.mp z];exact e
theorem HR.new(r:HR B ρ h H)(e:H p=none)(q:OR B (ρ ++ [p]) (upd H p o) p u):HR B (ρ ++ [p]) (h++[u]) (upd H p o) where
 len:=by simp[r.len]
 nd:=by rw[Ug];refine⟨r.nd,by simp,λa ha b hb=>?_⟩;rw[Ti.mp hb];rintro rfl;exact r.out e ha
 ob i v a q1 q2:=by
  by_cases hi:i<h.length
  ·rw[Tf hi]at q1;rw[Tf (by rw[r.len];exact hi)]at q2;refine OR.up (Gr.new e) (ak λz=>?_) (r.ob i v a q1 q2);subst z;exact r.out e (Tr q2)
  ·rw[Tw (by omega)]at q1
   rw[Tw (by rw[r.len];omega)]at q2;have hi0:i-h.length=0:=by have:=(SW.mp q1).1;simp at this;omega
   rw[hi0]at q1;rw[r.len,hi0]at q2;simp at q1 q2;subst q1;subst q2;exact q
theorem vG(r:HR B ρ h H):VR K (ρ ++ [p]) H' (.ref h.length) (.ref p):=VR.ref (by rw[<-r.len];simp)
theorem Ek{α:Type}:∀{l:List α} {i j:Nat} {a:α},l.Nodup->l[i]?=some a->l[j]?=some a->i=j
 |[],i,j,a,_,e,_=>by simp at e
 |b::l,0,0,a,_,_,_=>rfl
 | b::l,0,j+1,a,n,e,f=>by
  simp at e f;subst e;exact absurd (Tr f) (T5.mp n).1
 | b::l,i+1,0,a,n,e,f=>by
  simp at e f;subst f;exact absurd (Tr e) (T5.mp n).1
 | b::l,i+1,j+1,a,n,e,f=>by
  simp at e f;rw[Ek (T5.mp n).2 e f]
theorem Gr.put(hp:p ∈ ρ)(e:H p=some u)(hm:Mu u=true):Gr ρ H ρ (upd H p o) where
 pre:=Tg _
 keep a w q n:=by rw[ak λz=>n (by rw[z];exact hp)];exact q
 firm a w q n:=by
  have:a≠p:=λz=>by subst z;rw[e]at q;cases q;rw[hm]at n;cases n
  rw[ak this];exact q
 fresh a z n:=absurd z n
theorem HR.put{i:Nat}(r:HR B ρ h H)(hi:ρ[i]?=some p)(e:h[i]?=some w)(q:OR B ρ (upd H p o) p u):HR B ρ (h.set i u) (upd H p o) where
 len:=by simp[r.len]
 nd:=r.nd
 ob j v a q1 q2:=by
  obtain⟨z,k1,k2⟩:=(r.ob i w p e hi).mu
  by_cases hj:j=i
  ·subst hj;rw[hi]at q2;cases q2;have hlt:j<h.length:=(SW.mp e).1;rw[S6 hlt]at q1;cases q1;exact q
  ·rw[SX (λz=>hj z.symm)]at q1;refine OR.up (Gr.put (Tr hi) k1 k2) (ak λz=>?_) (r.ob j v a q1 q2);subst z;exact hj (Ek r.nd q2 hi)
theorem dN(r:HR B ρ h H)(q:VR B.K ρ H v x)(e:aA h v=some xs):∃a ys,x=.ref a/\fu B.K H a ys/\au B.K ρ H xs ys:=by
 cases v with
 |rl vs=>simp only[aA]at e;cases e;rw[VR]at q;obtain⟨a,ys,rfl,k1,k2⟩:=q;exact⟨a,ys,rfl,k1.sq,k2⟩
 |ref i=>
  simp only[aA]at e;split at e
  ·rename_i zs e1;cases e;rw[VR]at q;obtain⟨a,rfl,k1⟩:=q;obtain⟨ys,k2,k3⟩:=r.ob i _ a e1 k1;exact⟨a,ys,rfl,.inl (.inl k2),k3⟩
  ·cases e
 |_=>cases e
theorem jk{i:Nat}(r:HR B ρ h H)(q:VR B.K ρ H (.ref i) x)(e:h[i]?=some (.lst xs)):∃a ys,x=.ref a /\ ρ[i]?=some a/\H a=some (.lst ys)/\au B.K ρ H xs ys:=by
 rw[VR]at q;obtain⟨a,rfl,k1⟩:=q;obtain⟨ys,k2,k3⟩:=r.ob i _ a e k1;exact⟨a,ys,rfl,k1,k2,k3⟩
theorem uG(r:HR B ρ h H)(q:VR B.K ρ H v x)(e:cF h v=some xs):∃a ys,x=.ref a/\(fu B.K H a ys\/gS B.K H a ys)/\au B.K ρ H xs ys:=by
 cases v with
 |tup vs=>simp only[cF]at e;cases e;rw[VR]at q;obtain⟨a,ys,rfl,k1,k2⟩:=q;exact⟨a,ys,rfl,.inr k1,k2⟩
 |rl vs=>obtain⟨a,ys,e1,k1,k2⟩:=dN r q (show aA h (.rl vs)=some xs from e);exact⟨a,ys,e1,.inl k1,k2⟩
 |ref vs=>obtain⟨a,ys,e1,k1,k2⟩:=dN r q (show aA h (.ref vs)=some xs from e);exact⟨a,ys,e1,.inl k1,k2⟩
 |_=>cases e
theorem kX(r:HR B ρ h H):∀(n:Nat) (v:Val) (x:V) (d:PyData),VR B.K ρ H v x->toD n h v=some d->Den B.K H d x/\d.canLay0=true/\d.depth<=n:=by
 intro n
 induction n with
 |zero=>intro v x d _ e;simp only[toD]at e;cases e
 |succ n ih=>
  have all:∀(vs:List Val) (xs:List V) (ds:List PyData),au B.K ρ H vs xs->bf (toD n h) vs=some ds->cU B.K H ds xs/\PyData.canLayAll0 ds=true/\PyData.depthAll ds<=n:=by
   intro vs
   induction vs with
   |nil=>intro xs ds q e;simp only[bf]at e;cases e;rw[au]at q;subst q;exact⟨cU.nil,rfl,by simp[PyData.depthAll]⟩
   |cons v vs Rh=>intro xs ds q e;simp only[bf]at e;obtain⟨d,e1,e⟩:=SS.mp e;obtain⟨ds',e2,e⟩:=SS.mp e;cases e;rw[au]at q;obtain⟨x,r,rfl,q1,q2⟩:=q;obtain⟨a1,a2,a3⟩:=ih v x d q1 e1;obtain⟨b1,b2,b3⟩:=Rh r ds' q2 e2;refine⟨cU.cons a1 b1,by simp[PyData.canLayAll0,a2,b2],?_⟩;simp only[PyData.depthAll];omega
  intro v x d q e;cases v with
  |non=>simp only[toD]at e;cases e;rw[VR]at q;subst q;exact⟨Den.none,rfl,by simp[PyData.depth]⟩
  |bl b=>simp only[toD]at e;cases e;rw[VR]at q;subst q;exact⟨Den.bool,rfl,by simp[PyData.depth]⟩
  |int b=>simp only[toD]at e;cases e;rw[VR]at q;subst q;exact⟨Den.int,rfl,by simp[PyData.depth]⟩
  |str b=>
   simp only[toD]at e;split at e
   ·rename_i hs;cases e;rw[VR]at q;subst q;exact⟨Den.str,by simp[PyData.canLay0,hs],by simp[PyData.depth]⟩
   ·cases e
  |tup vs=>simp only[toD]at e;obtain⟨ds,e1,e⟩:=SS.mp e;cases e;rw[VR]at q;obtain⟨a,xs,rfl,q1,q2⟩:=q;obtain⟨b1,b2,b3⟩:=all vs xs ds q2 e1;exact⟨Den.tuple q1 b1,by simp[PyData.canLay0,b2],by simp only[PyData.depth];omega⟩
  |rl vs=>simp only[toD]at e;obtain⟨ds,e1,e⟩:=SS.mp e;cases e;rw[VR]at q;obtain⟨a,xs,rfl,q1,q2⟩:=q;obtain⟨b1,b2,b3⟩:=all vs xs ds q2 e1;exact⟨Den.list q1.sq b1,by simp[PyData.canLay0,b2],by simp only[PyData.depth];omega⟩
  |dc _ _=>rw[VR]at q;exact q.elim
  |ob _ _ _=>rw[VR]at q;exact q.elim
  |ref i=>simp only[toD]at e;obtain⟨vs,e0,e⟩:=SS.mp e;obtain⟨ds,e1,e⟩:=SS.mp e;cases e;obtain⟨a,xs,rfl,q1,q2⟩:=dN r q e0;obtain⟨b1,b2,b3⟩:=all vs xs ds q2 e1;exact⟨Den.list q1 b1,by simp[PyData.canLay0,b2],by simp only[PyData.depth];omega⟩
end
theorem kY(x:List Int):∀l,(qA x l).Perm (x::l)
 |[]=>.refl _
 | y::r=>by
  unfold qA;split
  ·exact((kY x r).cons y).trans (.swap _ _ _)
  ·exact .refl _
theorem m6:∀l,(j5 l).Perm l
 |[]=>.refl _
 |x::r=>(kY x _).trans ((m6 r).cons x)
theorem su{a b c:List Int}(h1:HT.lexLt b a=false)(h2:HT.lexLt c b=false):HT.lexLt c a=false:=by
 cases e:HT.lexLt c a with
 |false=>rfl
 |true=>
  rcases uz.oY c b a e with z|z
  ·rw[h2]at z;cases z
  ·rw[h1]at z;cases z
theorem sy{a b:List Int}(h:HT.lexLt a b=true):HT.lexLt b a=false:=by
 cases e:HT.lexLt b a with
 |false=>rfl
 |true=>have:=uz.fZ _ _ _ h e;rw[uz.gW]at this;cases this
theorem vH(x:List Int):∀l:List (List Int),l.Pairwise (λa b=>HT.lexLt b a=false)->(qA x l).Pairwise (λa b=>HT.lexLt b a=false)
 |[],_=>by simp[qA]
 | y::r,h=>by
  obtain⟨h1,h2⟩:=T4.mp h;unfold qA
  split
  ·rename_i hlt
   refine T4.mpr ⟨λz hz=>?_,vH x r h2⟩
   rcases Td.mp ((kY x r).mem_iff.mp hz) with rfl|hz
   ·exact sy hlt
   ·exact h1 z hz
  ·rename_i hlt
   refine T4.mpr ⟨λz hz=>?_,h⟩;have hxy:HT.lexLt y x=false:=by simpa using hlt
   rcases Td.mp hz with rfl|hz
   ·exact hxy
   ·exact su hxy (h1 z hz)
theorem sD:∀l,(j5 l).Pairwise (λa b=>HT.lexLt b a=false)
 |[]=>.nil
 |x::r=>vH x _ (sD r)
theorem zO(hp:l.Perm mj)(hs:l.Pairwise (λa b=>HT.lexLt b a=false)):l=j5 mj :=
 List.Perm.eq_of_pairwise (λa b _ _ h1 h2=>uz.fY a b h2 h1) hs (sD mj) (hp.trans (m6 mj).symm)
theorem x9{ns:List Int}{m:Int}(h:m∈ns)(h2:∀a∈ns,m<=a):qB ns=some (.int m):=by
 cases ns with
 |nil=>cases h
 |cons a r=>
  have key:∀(r:List Int) (a:Int),(r.foldl min a)∈a::r/\∀b∈a::r,r.foldl min a<=b:=by
   intro r
   induction r with
   |nil=>intro a;simp
   |cons c r ih=>
    intro a;obtain⟨q1,q2⟩:=ih (min a c);refine⟨?_,λb hb=>?_⟩
    ·show List.foldl min (min a c) r∈_
     rcases Td.mp q1 with z|z
     ·rw[z]
      rcases Int.le_total a c with hc|hc
      ·rw[Int.min_eq_left hc];exact S3
      ·rw[Int.min_eq_right hc];exact S2 _ S3
     ·exact S2 _ (S2 _ z)
    ·show List.foldl min (min a c) r<=b
     have q3:=q2 (min a c) S3
     rcases Td.mp hb with z|z
     ·subst z;omega
     ·rcases Td.mp z with z|z
      ·subst z;omega
      ·exact q2 b (S2 _ z)
  obtain⟨q1,q2⟩:=key r a;show some (Val.int (r.foldl min a))=_;rw[Int.le_antisymm (q2 m h) (h2 _ q1)]
theorem ya{ns:List Int}{m:Int}(h:m∈ns)(h2:∀a∈ns,a<=m):qC ns=some (.int m):=by
 cases ns with
 |nil=>cases h
 |cons a r=>
  have key:∀(r:List Int) (a:Int),(r.foldl max a)∈a::r/\∀b∈a::r,b<=r.foldl max a:=by
   intro r
   induction r with
   |nil=>intro a;simp
   |cons c r ih=>
    intro a;obtain⟨q1,q2⟩:=ih (max a c);refine⟨?_,λb hb=>?_⟩
    ·show List.foldl max (max a c) r∈_
     rcases Td.mp q1 with z|z
     ·rw[z]
      rcases Int.le_total a c with hc|hc
      ·rw[Int.max_eq_right hc];exact S2 _ S3
      ·rw[Int.max_eq_left hc];exact S3
     ·exact S2 _ (S2 _ z)
    ·show b<=List.foldl max (max a c) r
     have q3:=q2 (max a c) S3
     rcases Td.mp hb with z|z
     ·subst z;omega
     ·rcases Td.mp z with z|z
      ·subst z;omega
      ·exact q2 b (S2 _ z)
  obtain⟨q1,q2⟩:=key r a;show some (Val.int (r.foldl max a))=_;rw[Int.le_antisymm (h2 _ q1) (q2 m h)]
def Post(B:Bd)(EX:Nat->List V->Hp->Prop)(ρ:List Addr)(H:Hp){α:Type}(W:α -> Hs->List Addr->Hp->Prop):Out α -> Prop
 |.ok a h'=>∀ρ' H',Gr ρ H ρ' H'->HR B ρ' h' H'->W a h' ρ' H'
 |.exc c vs h'=>∀ρ' H' xs,Gr ρ H ρ' H'->HR B ρ' h' H'->au B.K ρ' H' vs xs->EX c xs H'
 |.no=>False
def WV(K:Frag)(Q:VK):Val->Hs->List Addr->Hp->Prop:=λv _ ρ' H'=>∀x,VR K ρ' H' v x->Q x H'
section
variable {B:Bd} {EX:Nat->List V->Hp->Prop} {ρ ρ':List Addr} {H H':Hp} {α β:Type} {W:β -> Hs->List Addr->Hp->Prop} {h h':Hs} {Q:VK}
theorem Post.up(g:Gr ρ H ρ' H')(p:Post B EX ρ H W o):Post B EX ρ' H' W o:=by
 cases o with
 |ok a h'=>exact λρ2 H2 g2 r=>p ρ2 H2 (g.trans g2) r
 |exc c vs h'=>exact λρ2 H2 xs g2 r=>p ρ2 H2 xs (g.trans g2) r
 |no=>exact p
theorem aM{c:Bool}(p:Post B EX ρ H W (aI c m h)):c=true/\Post B EX ρ H W (m h):=by
 unfold aI at p;split at p
 ·rename_i e;exact⟨e,p⟩
 ·exact p.elim
theorem ay(p:Post B EX ρ H W (bnd (ask f) g h)):∃a,f h=some a/\Post B EX ρ H W (g a h):=by
 unfold bnd ask aS at p;cases e:f h with
 |none=>rw[e]at p;exact p.elim
 |some a=>rw[e]at p;exact⟨a,rfl,p⟩
theorem cQ(r:HR B ρ h H)(p:Post B EX ρ H W (ask f h)):∃a,f h=some a/\W a h ρ H:=by
 unfold ask aS at p;cases e:f h with
 |none=>rw[e]at p;exact p.elim
 |some a=>rw[e]at p;exact⟨a,rfl,p ρ H Gr.refl r⟩
theorem bH(p:Post B EX ρ H W (bnd (aS o) g h)):∃a,o=some a/\Post B EX ρ H W (g a h):=by
 unfold bnd aS at p;cases e:o with
 |none=>rw[e]at p;exact p.elim
 |some a=>rw[e]at p;exact⟨a,rfl,p⟩
theorem ck(r:HR B ρ h H)(p:Post B EX ρ H W (aS o h)):∃a,o=some a/\W a h ρ H:=by
 unfold aS at p;cases e:o with
 |none=>rw[e]at p;exact p.elim
 |some a=>rw[e]at p;exact⟨a,rfl,p ρ H Gr.refl r⟩
theorem ai(r:HR B ρ h H)(p:Post B EX ρ H W (ret a h)):W a h ρ H:=p ρ H Gr.refl r
theorem m7(r:HR B ρ h H)(hp:H p=none)(q:OR B (ρ ++ [p]) (upd H p O) p o)(w:Post B EX ρ H (WV B.K Q) (new o h)):Q (.ref p) (upd H p O) :=
 w (ρ ++ [p]) (upd H p O) (Gr.new hp) (r.new hp q) _ (vG r)
theorem cC(r:HR B ρ h H)(hp:H p=none)(q:au B.K ρ H xs ys)(w:Post B EX ρ H (WV B.K Q) (new (.lst xs) h)):Q (.ref p) (upd H p (.lst ys)) :=
 m7 (o:=.lst xs) (O:=.lst ys) r hp ⟨ys,aC,au.up (Gr.new hp) _ _ q⟩ w
theorem m8(r:HR B ρ h H)(hp:H p=none)(q:au B.K ρ H xs ys)(w:Post B EX ρ H (WV B.K Q) (ret (Val.tup xs) h)):Q (.ref p) (upd H p (.tup ys)) :=
 w ρ (upd H p (.tup ys)) (Gr.side hp) (r.side hp) _ (VR.tup (gS.of aC) (au.up (Gr.side hp) _ _ q))
theorem az(p:Post B EX ρ H W (bnd m f h))(k:∀v h1 ρ1 x H1,Gr ρ H ρ1 H1->HR B ρ1 h1 H1->VR B.K ρ1 H1 v x->Post B EX ρ1 H1 W (f v h1)->Q x H1):Post B EX ρ H (WV B.K Q) (m h):=by
 unfold bnd at p;cases e:m h with
 |ok v h1=>rw[e]at p;exact λρ1 H1 g r x q=>k v h1 ρ1 x H1 g r q (Post.up g p)
 |exc c vs h1=>rw[e]at p;exact p
 |no=>rw[e]at p;exact p
theorem bz(p:Post B EX ρ H W (bnd m f h))(k:∀v h1 ρ1 H1,Gr ρ H ρ1 H1->HR B ρ1 h1 H1->Post B EX ρ1 H1 W (f v h1)->W' v h1 ρ1 H1):Post B EX ρ H W' (m h):=by
 unfold bnd at p;cases e:m h with
 |ok v h1=>rw[e]at p;exact λρ1 H1 g r=>k v h1 ρ1 H1 g r (Post.up g p)
 |exc c vs h1=>rw[e]at p;exact p
 |no=>rw[e]at p;exact p
end
theorem cR:∀{ds:List Val} {ns:List Int},aO ds=some ns->ds=ns.map .int
 |[],ns,e=>by simp only[aO,bf]at e;cases e;rfl
 | v::r,ns,e=>by
  simp only[aO,bf]at e;obtain⟨i,e1,e⟩:=SS.mp e;obtain⟨is,e2,e⟩:=SS.mp e;cases e;cases v<;>first|cases e1|skip
  rw[cR (show aO r=some is from e2)];rfl
theorem m9:∀{ds:List Val} {ns:List Bool},dM ds=some ns->ds=ns.map .bl
 |[],ns,e=>by simp only[dM,bf]at e;cases e;rfl
 | v::r,ns,e=>by
  simp only[dM,bf]at e;obtain⟨i,e1,e⟩:=SS.mp e;obtain⟨is,e2,e⟩:=SS.mp e;cases e;cases v<;>first|cases e1|skip
  rw[m9 (show dM r=some is from e2)];rfl
theorem o8:∀{ds:List Val} {mj:List (List Int)},jw ds=some mj->ds=mj.map jE/\∀ks∈mj,ks≠[]
 |[],ns,e=>by simp only[jw,bf]at e;cases e;exact⟨rfl,λ_ z=>nomatch z⟩
 | v::r,ns,e=>by
  simp only[jw,bf]at e;obtain⟨i,e1,e⟩:=SS.mp e;obtain⟨is,e2,e⟩:=SS.mp e;cases e;cases v<;>first|cases e1|skip
  rename_i vs;dsimp only at e1;split at e1
  ·cases e1
  ·rename_i hne
   obtain⟨q1,q2⟩:=o8 (show jw r=some is from e2);have e3:=cR e1;subst e3;refine⟨by rw[q1];rfl,λks hk=>?_⟩
   rcases Td.mp hk with z|z
   ·subst z;intro z;subst z;exact hne rfl
   ·exact q2 ks z
section
variable {X:Cx} {cl:Nat->Addr} {EX:Nat->List V->Hp->Prop}
abbrev bd(X:Cx)(cl:Nat->Addr):Bd:=⟨X.K,cl⟩
theorem CC:kK X (binaryOp .Add) (λx y H Q=>∃a b xs ys,x=.ref a/\y=.ref b/\fu X.K H a xs/\fu X.K H b ys/\xs.length+ys.length<=sizeLine/\∀p,H p=none->Q (.ref p) (upd H p (.lst (xs++ys)))):=by
 intro pins s σ H x y v u Q I rx ry h;obtain⟨l,l',xs,ys,rfl,rfl,q1,q3,hl,q⟩:=h;cases rx;cases ry;obtain⟨its,r1,Ri,z1⟩:=I.list q1;obtain⟨its',r2,Rj,z2⟩:=I.list q3;have l1:=r1.length;have l2:=r2.length;obtain⟨⟨oc,od,Rb,osl⟩,n1,e1,e2,_,e4⟩:=Ri;obtain⟨⟨SG,od',Rk,Ow⟩,n2,f1,f2,_,f4⟩:=Rj;cases e2;cases e4;cases f2;cases f4;refine concat_meets ⟨_,e1,rfl⟩ ⟨_,f1,rfl⟩ noFill_list_add seq_list_add PySem.F.slot_list_add PySem.F.entry_list_add (PySem.F.args_list_add_2 _ _) (list_addW l l' its.toArray its'.toArray n1 n2 od od' osl Ow (by simp only[size_toArray];omega)) ⟨e1,f1,?_⟩;have ea:its.toArray++its'.toArray=(its++its').toArray:=by simp
 rw[ea];have hn:H s.heap.objs.size=none:=I.hok.fresh (S4 _);exact⟨.ref s.heap.objs.size,_,I.N8 (t':=s.toks) (its:=its++its') (r1.append r2) (by rw[Tv];omega),rfl,q _ hn⟩
def zP:Eh->Operator
 |.add=>.Add|.sub=>.Sub|.mul=>.Mult|.fdiv=>.FloorDiv|.mod=>.Mod|.pow=>.Pow
def vI:Gi->CmpOp
 |.eq=>.Eq|.ne=>.NotEq|.lt=>.Lt|.le=>.LtE|.gt=>.Gt|.ge=>.GtE|.isn=>.Is|.ntn=>.IsNot|.yQ=>.In|.nin=>.NotIn
def rB(B:Bd)(EX:Nat->List V->Hp->Prop)(o:Eh):R2:=λx y H Q=>∃ρ h v w,HR B ρ h H/\VR B.K ρ H v x/\VR B.K ρ H w y/\Post B EX ρ H (WV B.K Q) (JI o v w h)
theorem kR.log{j:Int}(h:kR j=true):0<j/\j.natAbs.log2<9000:=by
 have h:=Tj h;refine⟨h.1,(Nat.log2_lt (by omega)).mpr ?_⟩;have e:j.natAbs<2 ^ 200:=by
  have:(2:Nat) ^ 200=1606938044258990275541962092341162602522202993782792835301376:=by decide
  omega
 exact Te e (Nat.pow_le_pow_right (by decide) (by decide))
theorem zQ:kK X (binaryOp .FloorDiv) (rI (λ_ j=>kR j=true) λi j=>.int (i/j)):=Nh λi j _ _ _ _ _ hc q=>by
 obtain⟨h1,h2⟩:=kR.log hc;exact PyProof.Rows.floordiv_int (by omega) (by rw[Int.fdiv_eq_ediv_of_nonneg i (by omega)];exact q) (.inl (PyProof.noPylong_of_log2 h2))
theorem ng(ho:o≠.add)(v w:Val)(h:Hs):(∃i j,v=.int i/\w=.int j)\/JI o v w h=.no:=by
 cases v with
 |int i=>
  cases w with
  |int j=>exact .inl ⟨i,j,rfl,rfl⟩
  |_=>right;cases o<;>first|rfl|exact absurd rfl ho
 |_=>right;cases o<;>first|rfl|exact absurd rfl ho
theorem Gm(o:Eh):kK X (binaryOp (zP o)) (rB (bd X cl) EX o):=by
 intro pins s σ H x y v' u' Q I rx ry hh;obtain⟨ρ,h,v,w,r,hv,hw,p⟩:=hh;have lists:Post (bd X cl) EX ρ H (WV X.K Q) (bnd (ask λh=>aA h v) (λa=>bnd (ask λh=>aA h w) λb=>aI (decide (a.length+b.length<=sizeLine)) (new (.lst (a++b)))) h)->wpAny (model X.prog X.w) X.A (binaryOp .Add v' u') (EP X pins σ Q) X.xe s:=by intro p;obtain⟨a,e1,p⟩:=ay p;obtain⟨b,e2,p⟩:=ay p;obtain⟨e3,p⟩:=aM p;have e3:=Tj e3;obtain⟨a1,KY,rfl,k1,k2⟩:=dN r hv e1;obtain⟨a2,Ox,rfl,k3,k4⟩:=dN r hw e2;exact CC pins s σ H _ _ v' u' Q I rx ry ⟨a1,a2,KY,Ox,rfl,rfl,k1,k3,by rw[<-k2.length,<-k4.length];exact e3,λq hq=>cC r hq (au.append k2 k4) p⟩
 cases o with
 |add=>
  cases v<;>cases w<;>first
   |exact lists p
   |skip
  ·rename_i a b;rw[VR]at hv hw;subst hv;subst hw;exact Fq pins s σ H _ _ _ _ Q I rx ry ⟨a,b,rfl,rfl,ai r p _ VR.int⟩
  ·rename_i a b;rw[VR]at hv hw;subst hv;subst hw;obtain⟨e,p⟩:=aM p;exact uf pins s σ H _ _ _ _ Q I rx ry ⟨a,b,rfl,rfl,Tj e,ai r p _ VR.str⟩
  ·rename_i a b
   rw[VR]at hv hw;obtain⟨a1,KY,rfl,k1,k2⟩:=hv;obtain⟨a2,Ox,rfl,k3,k4⟩:=hw;obtain⟨e,p⟩:=aM p;simp only[and_eq_true,not_eq_true',decide_eq_true_eq]at e;refine Ce pins s σ H _ _ _ _ Q I rx ry ⟨a1,a2,KY,Ox,rfl,rfl,k1,k3,?_,by rw[<-k2.length,<-k4.length];exact e.2,λz=>?_,λ_ q hq=>m8 r hq (au.append k2 k4) p⟩
   ·intro z;subst z
    have:=k2.length;cases a with
    |nil=>simp at e
    |cons _ _=>simp at this
   ·subst z
    have hb:b=[]:=by cases b with|nil=>rfl|cons _ _=>have:=k4.length;simp at this
    subst hb;rw[Uy]at p;exact ai r p _ (VR.tup k1 k2)
 |sub=>
  rcases ng (o:=.sub) (by intro z;cases z) v w h with ⟨i,j,rfl,rfl⟩|z
  case inr=>rw[z]at p;exact p.elim
  rw[VR]at hv hw;subst hv;subst hw;exact Ft pins s σ H _ _ _ _ Q I rx ry ⟨_,_,rfl,rfl,ai r p _ VR.int⟩
 |mul=>
  rcases ng (o:=.mul) (by intro z;cases z) v w h with ⟨i,j,rfl,rfl⟩|z
  case inr=>rw[z]at p;exact p.elim
  rw[VR]at hv hw;subst hv;subst hw;obtain⟨hm,p⟩:=aM p;refine Fv pins s σ H _ _ _ _ Q I rx ry ⟨_,_,rfl,rfl,?_,ai r p _ VR.int⟩;unfold eT at hm;simp only[or_eq_true,and_eq_true,decide_eq_true_eq]at hm;exact hm
 |fdiv=>
  rcases ng (o:=.fdiv) (by intro z;cases z) v w h with ⟨i,j,rfl,rfl⟩|z
  case inr=>rw[z]at p;exact p.elim
  rw[VR]at hv hw;subst hv;subst hw;obtain⟨hm,p⟩:=aM p;exact zQ pins s σ H _ _ _ _ Q I rx ry ⟨_,_,rfl,rfl,hm,ai r p _ VR.int⟩
 |mod=>
  rcases ng (o:=.mod) (by intro z;cases z) v w h with ⟨i,j,rfl,rfl⟩|z
  case inr=>rw[z]at p;exact p.elim
  rw[VR]at hv hw;subst hv;subst hw;obtain⟨hm,p⟩:=aM p;exact Fw pins s σ H _ _ _ _ Q I rx ry ⟨_,_,rfl,rfl,Tj hm,ai r p _ VR.int⟩
 |pow=>
  rcases ng (o:=.pow) (by intro z;cases z) v w h with ⟨i,j,rfl,rfl⟩|z
  case inr=>rw[z]at p;exact p.elim
  rw[VR]at hv hw;subst hv;subst hw;obtain⟨hm,p⟩:=aM p;have hm:=Tj hm;exact Fx pins s σ H _ _ _ _ Q I rx ry ⟨_,_,rfl,rfl,hm,ai r p _ VR.int⟩
end
section
variable {X:Cx} {cl:Nat->Addr} {EX:Nat->List V->Hp->Prop}
theorem sE{b:Bool}(e:yR h v w=some b):∃d f,toD 16 h v=some d/\toD 16 h w=some f/\b=PyData.eqv d f:=by
 unfold yR at e;obtain⟨d,e1,e⟩:=SS.mp e;obtain⟨f,e2,e⟩:=SS.mp e;exact⟨d,f,e1,e2,(Tn e).symm⟩
theorem vJ{K:Frag}{ρ:List Addr}{H:Hp}{v:Val}{x:V}(q:VR K ρ H v x):decide (x=.non)=mZ v:=by
 cases v<;>rw[VR]at q
 ·subst q;rfl
 ·subst q;rfl
 ·subst q;rfl
 ·subst q;rfl
 ·obtain⟨a,xs,rfl,_⟩:=q;rfl
 ·obtain⟨a,xs,rfl,_⟩:=q;rfl
 ·exact q.elim
 ·exact q.elim
 ·obtain⟨a,rfl,_⟩:=q;rfl
theorem Gn(hu:X.A.units+64<cLine)(neg:Bool):kK X (compareOp (if neg=true then .NotIn else .In)) (λx y H Q=>∃d f ds,Den X.K H d x/\Den X.K H f y/\d.canLay0=true/\f.canLay0=true/\d.depth<=16/\(f=.list ds\/f=.tuple ds)/\Q (.bl (if neg=true then !(ds.any λy=>PyData.eqv y d) else ds.any λy=>PyData.eqv y d)) H):=by
 intro pins s σ H x y v u Q I rx ry hh;obtain⟨d,f,ds,hd,hf,c1,c2,hz,e,q⟩:=hh;obtain⟨as,ra⟩:=Den.reads I d x v c1 hd rx;obtain⟨bs,rb⟩:=Den.reads I f y u c2 hf ry;have Nn:X.A.units+1+min (PyData.depthAll ds) d.depth<cLine:=by have:=Nat.min_le_right (PyData.depthAll ds) d.depth;omega
 rcases e with rfl|rfl
 ·have c3:PyData.canLayAll0 ds=true:=by simpa [PyData.canLay0] using c2
  cases neg with
  |true=>exact SeqAt.notIn_list_reads rb ra c3 c1 Nn ⟨.bl _,H,I,rfl,q⟩
  |false=>exact SeqAt.in_list_reads rb ra c3 c1 Nn ⟨.bl _,H,I,rfl,q⟩
 ·have c3:PyData.canLayAll0 ds=true:=by simpa [PyData.canLay0] using c2
  cases neg with
  |true=>exact SeqAt.notIn_tuple_reads rb ra c3 c1 Nn ⟨.bl _,H,I,rfl,q⟩
  |false=>exact SeqAt.in_tuple_reads rb ra c3 c1 Nn ⟨.bl _,H,I,rfl,q⟩
theorem dX.val{K:Frag}{ρ:List Addr}{H:Hp}(k:Key):∀{kvs:List (Key×Val)} {ks:List (Key×V)},dX K ρ H kvs ks->(bN kvs k=none->eY ks k=none)/\∀v,bN kvs k=some v->∃x,eY ks k=some x/\VR K ρ H v x
 | [],ks,e=>by
  have:ks=[]:=e;subst this;exact⟨λ_=>rfl,λv z=>by simp[bN]at z⟩
 | (k',v')::kvs,ks,⟨x,r,e,q1,q2⟩=>by
  subst e;obtain⟨a,b⟩:=dX.val k q2
  by_cases hk:k'=k
  ·subst hk;refine⟨λz=>by simp[bN]at z,λv z=>⟨x,by simp[eY],?_⟩⟩;simp[bN]at z;subst z;exact q1
  ·have e1:bN ((k',v')::kvs) k=bN kvs k:=by simp[bN,hk]
   have e2:eY ((k',x)::r) k=eY r k:=by simp[eY,hk]
   rw[e1,e2];exact⟨a,b⟩
theorem dX.length{K:Frag}{ρ:List Addr}{H:Hp}:∀{kvs:List (Key×Val)} {ks:List (Key×V)},dX K ρ H kvs ks->kvs.length=ks.length
 |[],ks,e=>by have:ks=[]:=e;subst this;rfl
 |(k',v')::kvs,ks,⟨x,r,e,q1,q2⟩=>by subst e;simp[dX.length q2]
theorem dX.any{K:Frag}{ρ:List Addr}{H:Hp}(k:Key):∀{kvs:List (Key×Val)} {ks:List (Key×V)},dX K ρ H kvs ks->(kvs.any λkv=>decide (kv.1=k))=(ks.any λkv=>decide (kv.1=k))
 |[],ks,e=>by have:ks=[]:=e;subst this;rfl
 |(k',v')::kvs,ks,⟨x,r,e,q1,q2⟩=>by subst e;simp only[List.any_cons];rw[dX.any k q2]
theorem dX.repl{K:Frag}{ρ:List Addr}{H:Hp}(k:Key){v:Val}{y:V}(q:VR K ρ H v y):∀{kvs:List (Key×Val)} {ks:List (Key×V)},dX K ρ H kvs ks->dX K ρ H (kvs.map λkv=>if kv.1=k then (kv.1,v) else kv) (ks.map λkv=>if kv.1=k then (kv.1,y) else kv)
 |[],ks,e=>by have:ks=[]:=e;subst this;rfl
 | (k',v')::kvs,ks,⟨x,r,e,q1,q2⟩=>by
  subst e;simp only[map_cons]
  by_cases hk:k'=k
  ·rw[S7 hk,S7 hk];exact⟨y,_,rfl,q,dX.repl k q q2⟩
  ·rw[S8 hk,S8 hk];exact⟨x,_,rfl,q1,dX.repl k q q2⟩
theorem dX.snoc{K:Frag}{ρ:List Addr}{H:Hp}(k:Key){v:Val}{y:V}(q:VR K ρ H v y):∀{kvs:List (Key×Val)} {ks:List (Key×V)},dX K ρ H kvs ks->dX K ρ H (kvs++[(k,v)]) (ks++[(k,y)])
 |[],ks,e=>by have:ks=[]:=e;subst this;exact⟨y,[],rfl,q,rfl⟩
 |(k',v')::kvs,ks,⟨x,r,e,q1,q2⟩=>by subst e;exact⟨x,_,rfl,q1,dX.snoc k q q2⟩
theorem dX.put{K:Frag}{ρ:List Addr}{H:Hp}(k:Key){v:Val}{y:V}(q:VR K ρ H v y){kvs:List (Key×Val)}{ks:List (Key×V)}(e:dX K ρ H kvs ks):dX K ρ H (jo kvs k v) (putK ks k y):=by
 unfold jo putK;rw[dX.any k e]
 split
 ·exact dX.repl k q e
 ·exact dX.snoc k q e
theorem zR{K:Frag}{ρ:List Addr}{H:Hp}{v:Val}{x:V}{k:Key}(q:VR K ρ H v x)(e:keyOf v=some k):x=kV k:=by
 cases v<;>simp only[keyOf]at e<;>first|cases e|skip
 ·rw[VR]at q;exact q
 ·rw[VR]at q;exact q
theorem vK(hu:X.A.units+64<cLine):JG X (λx y H Q=>∃a v,x=.ref a/\kO H a y (some v)/\Q v H):=by
 intro value slice pins s σ H x y v u Q I rx ry h hs;obtain⟨a,z,rfl,g,q⟩:=h;cases rx;have hT:=lI I g;unfold subscriptTail;refine S0 ?_;rw[getitemInPython_of_ne hT.not_modules];refine S0 (wpAny_specialOf hT PySem.F.slot_dict_getitem.lookup ?_);have fin:wpAny (model X.prog X.w) X.A (subscripted slice false (.ref a) u) (λr s₃=>wpAny (model X.prog X.w) X.A (letTemporaryGo value (.ref a) r >>= λ_=>pure r) (EP X pins σ Q) X.xe s₃) X.xe s:=by rw[hs];exact wpAny_operating (oV (by omega) I g ry λw' s' I' r'=>S0 (wpAny_letTemporaryGo (Th ⟨z,H,I',r',q⟩)))
 first
  |exact Th (S0 fin)
  |exact S0 (Th (S0 fin))
  |exact S0 fin
def rC(B:Bd)(o:Gi):R2:=λx y H Q=>∃ρ h v w b,HR B ρ h H/\VR B.K ρ H v x/\VR B.K ρ H w y/\cop h o v w=some b/\Q (.bl b) H
theorem zS{b:Bool}(e:memD h v w=some b):∃d f ds,toD 16 h v=some d/\toD 16 h w=some f/\(f=.list ds\/f=.tuple ds)/\b=ds.any λy=>PyData.eqv y d:=by
 unfold memD at e;obtain⟨f,e1,e⟩:=SS.mp e;obtain⟨d,e2,e⟩:=SS.mp e;cases f<;>simp only[KS]at e<;>first|cases e|skip
 ·exact⟨d,_,_,e2,e1,.inl rfl,rfl⟩
 ·exact⟨d,_,_,e2,e1,.inr rfl,rfl⟩
theorem zT(hu:X.A.units+64<cLine)(o:Gi):kK X (compareOp (vI o)) (rC (bd X cl) o):=by
 intro pins s σ H x y v' u' Q I rx ry hh;obtain⟨ρ,h,v,w,b,r,hv,hw,e,q⟩:=hh;have mem:∀(neg:Bool),sd h v w=some (if neg=true then !b else b)->wpAny (model X.prog X.w) X.A (compareOp (if neg=true then .NotIn else .In) v' u') (EP X pins σ Q) X.xe s:=by
  intro neg e;obtain⟨d,f,ds,e1,e2,e3,eb⟩:=zS e
  ·obtain⟨a1,a2,a3⟩:=kX r 16 v x d hv e1
   obtain⟨b1,b2,b3⟩:=kX r 16 w y f hw e2;refine Gn hu neg pins s σ H x y v' u' Q I rx ry ⟨d,f,ds,a1,b1,a2,b2,a3,e3,?_⟩;cases neg with
   |true=>rw[S7 rfl]at eb |-;rw[<-eb,Bool.not_not];exact q
   |false=>rw[S8 SV]at eb |-;rw[<-eb];exact q
 cases o with
 |eq=>obtain⟨d,f,e1,e2,rfl⟩:=sE (show yR h v w=some b by exact e);obtain⟨a1,a2,a3⟩:=kX r 16 v x d hv e1;obtain⟨b1,b2,b3⟩:=kX r 16 w y f hw e2;exact FZ hu pins s σ H x y v' u' Q I rx ry ⟨d,f,a1,b1,a2,b2,by omega,q⟩
 |ne=>have e':(yR h v w).map (!·)=some b:=e;obtain⟨c,e3,rfl⟩:=TF.mp e';obtain⟨d,f,e1,e2,rfl⟩:=sE e3;obtain⟨a1,a2,a3⟩:=kX r 16 v x d hv e1;obtain⟨b1,b2,b3⟩:=kX r 16 w y f hw e2;exact Ga hu pins s σ H x y v' u' Q I rx ry ⟨d,f,a1,b1,a2,b2,by omega,q⟩
 |lt=>obtain⟨i,j,rfl,rfl⟩:=iN (.inl rfl) e;cases e;rw[VR]at hv;rw[VR]at hw;subst hv;subst hw;exact Kg pins s σ H _ _ v' u' Q I rx ry ⟨_,_,rfl,rfl,q⟩
 |le=>obtain⟨i,j,rfl,rfl⟩:=iN (.inr (.inl rfl)) e;cases e;rw[VR]at hv;rw[VR]at hw;subst hv;subst hw;exact Kh pins s σ H _ _ v' u' Q I rx ry ⟨_,_,rfl,rfl,q⟩
 |gt=>obtain⟨i,j,rfl,rfl⟩:=iN (.inr (.inr (.inl rfl))) e;cases e;rw[VR]at hv;rw[VR]at hw;subst hv;subst hw;exact Kl pins s σ H _ _ v' u' Q I rx ry ⟨_,_,rfl,rfl,q⟩
 |ge=>obtain⟨i,j,rfl,rfl⟩:=iN (.inr (.inr (.inr rfl))) e;cases e;rw[VR]at hv;rw[VR]at hw;subst hv;subst hw;exact Km pins s σ H _ _ v' u' Q I rx ry ⟨_,_,rfl,rfl,q⟩
 |isn=>
  have e:Ei v w=some b:=e;cases w<;>first|(cases e;done)|skip
  ·cases e;rw[VR]at hw;subst hw;refine Fy pins s σ H x _ v' u' Q I rx ry ⟨rfl,?_⟩;rw[vJ hv];exact q
  ·cases v<;>first|(cases e;done)|skip
   cases e;rw[VR]at hv;rw[VR]at hw;subst hv;subst hw;exact Gb pins s σ H _ _ v' u' Q I rx ry ⟨_,_,rfl,rfl,q⟩
 |ntn=>
  have e:(Ei v w).map (!·)=some b:=e;cases w<;>first|(cases e;done)|skip
  ·cases e;rw[VR]at hw;subst hw;refine B5 pins s σ H x _ v' u' Q I rx ry ⟨rfl,?_⟩;rw[vJ hv];exact q
  ·cases v<;>first|(cases e;done)|skip
   cases e;rw[VR]at hv;rw[VR]at hw;subst hv;subst hw;exact Cw pins s σ H _ _ v' u' Q I rx ry ⟨_,_,rfl,rfl,q⟩
 |yQ=>exact mem false (by rw[S8 SV];exact e)
 |nin=>have e':(sd h v w).map (!·)=some b:=e;obtain⟨c,e3,rfl⟩:=TF.mp e';exact mem true (by rw[e3];simp)
theorem Gp{b:Bool}(r:HR B ρ h H)(q:VR B.K ρ H v x)(e:cI h v=some b):Fz B.K x H b:=by
 cases v with
 |non=>rw[VR]at q;subst q;exact(Tn e).symm
 |bl c=>rw[VR]at q;subst q;exact(Tn e).symm
 |int i=>rw[VR]at q;subst q;exact(Tn e).symm
 |str z=>
  rw[VR]at q;subst q;simp only[cI]at e;split at e
  ·rename_i hl;exact⟨hl,(Tn e).symm⟩
  ·cases e
 |tup vs=>rw[VR]at q;obtain⟨a,xs,rfl,q1,q2⟩:=q;refine .inr (.inl ⟨xs,q1,?_⟩);rw[<-Tn e];have:=q2.length;cases vs<;>cases xs<;>simp_all
 |rl vs=>rw[VR]at q;obtain⟨a,xs,rfl,q1,q2⟩:=q;refine .inl ⟨xs,q1.sq,?_⟩;rw[<-Tn e];have:=q2.length;cases vs<;>cases xs<;>simp_all
 |dc _ _=>rw[VR]at q;exact q.elim
 |ob _ _ _=>rw[VR]at q;exact q.elim
 |ref i=>
  rw[VR]at q;obtain⟨a,rfl,q1⟩:=q;simp only[cI]at e;split at e
  ·rename_i vs e1;obtain⟨xs,k1,k2⟩:=r.ob i _ a e1 q1;refine .inl ⟨xs,.inl (.inl k1),?_⟩;rw[<-Tn e];have:=k2.length;cases vs<;>cases xs<;>simp_all
  ·rename_i vs e1;obtain⟨xs,k1,k2⟩:=r.ob i _ a e1 q1;refine .inr (.inr ⟨xs,k1,?_⟩);rw[<-Tn e];have:=k2.length;cases vs<;>cases xs<;>simp_all
  ·cases e
def Oz(B:Bd):R2:=λx y H Q=>∃ρ h v w z,HR B ρ h H/\VR B.K ρ H v x/\VR B.K ρ H w y/\iF h v w=some z/\∀u,VR B.K ρ H z u->Q u H
theorem Gq(hu:X.A.units+64<cLine):JG X (Oz (bd X cl)):=by
 intro value slice pins s σ H x y v' u' Q I rx ry hh hs;obtain⟨ρ,h,v,w,z,r,hv,hw,e,q⟩:=hh;cases v with
 |str t=>
  cases w<;>first|cases e|skip
  rename_i i;change (if t.length<=sizeLine then (gU t.cps.toList i).map (λc=>Val.str ⟨[c].toArray⟩) else none)=some z at e;split at e
  ·rename_i hl;obtain⟨c,e1,rfl⟩:=TF.mp e;rw[VR]at hv;rw[VR]at hw;subst hv;subst hw;exact FJ value slice pins s σ H _ _ v' u' Q I rx ry ⟨t,i,c,rfl,rfl,hl,e1,q _ VR.str⟩ hs
  ·cases e
 |tup vs=>
  cases w<;>first|cases e|skip
  rename_i i;rw[VR]at hv;rw[VR]at hw;subst hw;obtain⟨a,xs,rfl,q1,q2⟩:=hv;obtain⟨t,e2,q3⟩:=au.gU q2 e;exact FI value slice pins s σ H _ _ v' u' Q I rx ry ⟨a,xs,i,t,rfl,rfl,q1,e2,q _ q3⟩ hs
 |rl vs=>
  cases w<;>first|cases e|skip
  rename_i i;rw[VR]at hv;rw[VR]at hw;subst hw;obtain⟨a,xs,rfl,q1,q2⟩:=hv;obtain⟨t,e2,q3⟩:=au.gU q2 e;exact vj value slice pins s σ H _ _ v' u' Q I rx ry ⟨a,xs,i,t,rfl,rfl,q1.sq,e2,q _ q3⟩ hs
 |ref j=>
  cases w with
  |int i=>
   change (match h[j]? with|some (.dct kvs)=>bN kvs (.inl i)|_=>(aA h (.ref j)).bind λxs=>gU xs i)=some z at e;split at e
   ·rename_i kvs e1;rw[VR]at hv;obtain⟨a,rfl,q1⟩:=hv;obtain⟨ks,k1,k2⟩:=r.ob j _ a e1 q1;obtain⟨t,e2,q3⟩:=(dX.val (.inl i) k2).2 z e;have g:kO H a (kV (.inl i)) (eY ks (.inl i)):=kO.k k1;rw[e2]at g;rw[VR]at hw;subst hw;exact vK hu value slice pins s σ H _ _ v' u' Q I rx ry ⟨a,t,rfl,g,q _ q3⟩ hs
   ·obtain⟨vs,e1,e⟩:=SS.mp e;obtain⟨a,xs,rfl,q1,q2⟩:=dN r hv e1;rw[VR]at hw;subst hw;obtain⟨t,e2,q3⟩:=au.gU q2 e;exact vj value slice pins s σ H _ _ v' u' Q I rx ry ⟨a,xs,i,t,rfl,rfl,q1,e2,q _ q3⟩ hs
  |str y=>
   change (match h[j]? with|some (.dct kvs)=>bN kvs (.inr y)|_=>none)=some z at e;split at e
   ·rename_i kvs e1;rw[VR]at hv;obtain⟨a,rfl,q1⟩:=hv;obtain⟨ks,k1,k2⟩:=r.ob j _ a e1 q1;obtain⟨t,e2,q3⟩:=(dX.val (.inr y) k2).2 z e;have g:kO H a (kV (.inr y)) (eY ks (.inr y)):=kO.k k1;rw[e2]at g;rw[VR]at hw;subst hw;exact vK hu value slice pins s σ H _ _ v' u' Q I rx ry ⟨a,t,rfl,g,q _ q3⟩ hs
   ·cases e
  |_=>cases e
 |dc _ _=>rw[VR]at hv;exact hv.elim
 |_=>cases w<;>cases e
def Rl(B:Bd)(EX:Nat->List V->Hp->Prop):V->Option Int->Option Int->Hp->VK->Prop:=λx lo hi H Q=>∃ρ h v,HR B ρ h H/\VR B.K ρ H v x/\Post B EX ρ H (WV B.K Q) (oj v lo hi h)
theorem Gs:Ni X (Rl (bd X cl) EX):=by
 intro pins s σ H x v' vl vu lo hi sl Q I rx hs pl pu hh;obtain⟨ρ,h,v,r,hv,p⟩:=hh;have lists:Post (bd X cl) EX ρ H (WV X.K Q) (bnd (ask λh=>aA h v) (λxs=>new (.lst (bU xs lo hi))) h)->∃T id,typeLookup (.type T) "__getitem__" = pure (some (.builtin id))/\s.TypeIs v' T/\wpAny (model X.prog X.w) X.A (getItem v' (.ref sl)) (EP X pins σ Q) X.xe s:=by intro p;obtain⟨a,e1,p⟩:=ay p;obtain⟨a1,KY,rfl,k1,k2⟩:=dN r hv e1;exact Cf pins s σ H _ v' vl vu lo hi sl Q I rx hs pl pu ⟨a1,KY,rfl,k1,λq hq=>cC r hq (au.cut lo hi k2) p⟩
 cases v with
 |tup vs=>simp only[oj]at p;rw[VR]at hv;obtain⟨a,xs,rfl,q1,q2⟩:=hv;obtain⟨e,p⟩:=aM p;refine FH pins s σ H _ v' vl vu lo hi sl Q I rx hs pl pu ⟨a,xs,rfl,q1,?_,λq hq=>m8 r hq (au.cut lo hi q2) p⟩;rw[<-q2.length];simp only[not_eq_true',Bool.and_eq_false_iff,decide_eq_false_iff_not]at e;rintro⟨z1,z2⟩;exact e.elim (λk=>k z1) λk=>k z2
 |_=>exact lists p
end
end Hv
end
section
set_option backward.match.sparseCases false
namespace Hv
open PySem L2 PyProof.Rows
section
variable {X:Cx} {cl:Nat->Addr} {EX:Nat->List V->Hp->Prop}
def BP(B:Bd)(EX:Nat->List V->Hp->Prop)(b:Bl):List V->Hp->VK->Prop:=λxs H Q=>∃ρ h vs,HR B ρ h H/\au B.K ρ H vs xs/\Post B EX ρ H (WV B.K Q) (blt b vs h)
theorem Gu:b8 X (.builtin "len") (BP (bd X cl) EX .len):=by
 intro pins s σ H xs us Q I rr hh;obtain⟨ρ,h,vs,r,hv,p⟩:=hh
 match vs,p with
 |[v],p=>
  obtain⟨n,e,p⟩:=ay p;obtain⟨x,rfl,hx⟩:=au.one hv;have fin:=ai r p _ VR.int;cases v with
  |str z=>
   simp only[j7]at e;split at e
   ·rename_i hl;cases e;rw[VR]at hx;subst hx;exact L2.jY pins s σ H _ us Q I rr ⟨_,z.length,rfl,⟨hl,rfl⟩,fin⟩
   ·cases e
  |tup vs=>simp only[j7]at e;cases e;rw[VR]at hx;obtain⟨a,ys,rfl,q1,q2⟩:=hx;refine L2.jY pins s σ H _ us Q I rr ⟨_,ys.length,rfl,.inr ⟨ys,q1,rfl⟩,?_⟩;rw[<-q2.length];exact fin
  |rl vs=>simp only[j7]at e;cases e;rw[VR]at hx;obtain⟨a,ys,rfl,q1,q2⟩:=hx;refine L2.jY pins s σ H _ us Q I rr ⟨_,ys.length,rfl,.inl ⟨ys,q1.sq,rfl⟩,?_⟩;rw[<-q2.length];exact fin
  |dc _ _=>rw[VR]at hx;exact hx.elim
  |ob _ _ _=>rw[VR]at hx;exact hx.elim
  |ref i=>
   rw[VR]at hx;obtain⟨a,rfl,q1⟩:=hx;simp only[j7]at e;split at e
   ·rename_i vs e1;cases e;obtain⟨ys,k1,k2⟩:=r.ob i _ a e1 q1;refine L2.jY pins s σ H _ us Q I rr ⟨_,ys.length,rfl,.inl ⟨ys,.inl (.inl k1),rfl⟩,?_⟩;rw[<-k2.length];exact fin
   ·rename_i vs e1;cases e;obtain⟨ks,k1,k2⟩:=r.ob i _ a e1 q1;refine xR pins s σ H _ us Q I rr ⟨a,ks,rfl,k1,?_⟩;rw[<-k2.length];exact fin
   ·cases e
  |_=>simp only[j7]at e;cases e
theorem Gv(hc:X.calm=true):b8 X (.builtin "min") (BP (bd X cl) EX .min):=by
 intro pins s σ H xs us Q I rr hh;obtain⟨ρ,h,vs,r,hv,p⟩:=hh;have seq:∀v,vs=[v]->Post (bd X cl) EX ρ H (WV X.K Q) (bnd (ask λh=>cF h v) (λxs=>aS ((aO xs).bind qB)) h)->wpAny (model X.prog X.w) X.A (call (.builtin "min") us) (EP X pins σ Q) X.xe s:=by
  rintro v rfl p;obtain⟨zs,e,p⟩:=ay p;obtain⟨x,rfl,hx⟩:=au.one hv;obtain⟨a,ys,rfl,q1,q2⟩:=uG r hx e;obtain⟨m,e1,p⟩:=ck r p;obtain⟨ns,e2,e3⟩:=SS.mp e1;rw[cR e2]at q2;rw[au.ints.mp q2]at q1;have hne:0<ns.length:=by cases ns with|nil=>cases e3|cons _ _=>simp
  refine qw hc pins s σ H _ us Q I rr ⟨a,ns,rfl,q1,hne,λm hm hmin=>?_⟩;rw[x9 hm hmin]at e3;cases e3;exact p _ VR.int
 match vs,p with
 |[.int a,.int b],p=>obtain⟨x,y,rfl,hx,hy⟩:=au.two hv;rw[VR]at hx;rw[VR]at hy;subst hx;subst hy;exact xD hc pins s σ H _ us Q I rr ⟨a,b,rfl,ai r p _ VR.int⟩
 |[v],p=>exact seq v rfl (by cases v<;>exact p)
theorem Gx(hc:X.calm=true):b8 X (.builtin "max") (BP (bd X cl) EX .max):=by
 intro pins s σ H xs us Q I rr hh;obtain⟨ρ,h,vs,r,hv,p⟩:=hh;have seq:∀v,vs=[v]->Post (bd X cl) EX ρ H (WV X.K Q) (bnd (ask λh=>cF h v) (λxs=>aS ((aO xs).bind qC)) h)->wpAny (model X.prog X.w) X.A (call (.builtin "max") us) (EP X pins σ Q) X.xe s:=by
  rintro v rfl p;obtain⟨zs,e,p⟩:=ay p;obtain⟨x,rfl,hx⟩:=au.one hv;obtain⟨a,ys,rfl,q1,q2⟩:=uG r hx e;obtain⟨m,e1,p⟩:=ck r p;obtain⟨ns,e2,e3⟩:=SS.mp e1;rw[cR e2]at q2;rw[au.ints.mp q2]at q1;have hne:0<ns.length:=by cases ns with|nil=>cases e3|cons _ _=>simp
  refine qy hc pins s σ H _ us Q I rr ⟨a,ns,rfl,q1,hne,λm hm hmin=>?_⟩;rw[ya hm hmin]at e3;cases e3;exact p _ VR.int
 match vs,p with
 |[.int a,.int b],p=>obtain⟨x,y,rfl,hx,hy⟩:=au.two hv;rw[VR]at hx;rw[VR]at hy;subst hx;subst hy;exact xC hc pins s σ H _ us Q I rr ⟨a,b,rfl,ai r p _ VR.int⟩
 |[v],p=>exact seq v rfl (by cases v<;>exact p)
theorem yb:b8 X (.builtin "sorted") (BP (bd X cl) EX .sorted):=by
 intro pins s σ H xs us Q I rr hh;obtain⟨ρ,h,vs,r,hv,p⟩:=hh
 match vs,p with
 |[v],p=>
  obtain⟨zs,e,p⟩:=ay p;obtain⟨out,e1,p⟩:=bH p;obtain⟨x,rfl,hx⟩:=au.one hv;obtain⟨a,ys,rfl,q1,q2⟩:=dN r hx e;unfold fG at e1;split at e1
  ·rename_i h64
   cases e2:aO zs with
   |some ns=>rw[e2]at e1;cases e1;rw[cR e2]at q2 h64;rw[au.ints.mp q2]at q1;rw[S1]at h64;exact kP pins s σ H _ us Q I rr ⟨a,ns,rfl,q1,h64,λl hl=>cC r hl (au.ints.mpr rfl) p⟩
   |none=>rw[e2]at e1;obtain⟨mj,e3,e4⟩:=SS.mp e1;cases e4;obtain⟨g1,g2⟩:=o8 e3;rw[g1]at q2 h64;obtain⟨rs,r1,r2,r3⟩:=au.tups q2;rw[r1]at q1;rw[S1,r2,S1]at h64;refine kQ pins s σ H _ us Q I rr ⟨a,rs,rfl,q1,h64,λp hp=>⟨r3 p hp,g2 _ (by rw[r2];exact TJ hp)⟩,λl qs hl hp hs=>?_⟩;have e4:qs.map (·.2)=j5 mj:=zO (by rw[r2];exact hp.map _) (UB.mpr hs);rw[<-e4]at p;exact cC r hl (au.vF λz hz=>r3 z (hp.mem_iff.mp hz)) p
  ·cases e1
theorem CD:b8 X (.type "list") (BP (bd X cl) EX .list):=by
 intro pins s σ H xs us Q I rr hh;obtain⟨ρ,h,vs,r,hv,p⟩:=hh
 match vs,p with
 |[v],p=>obtain⟨zs,e,p⟩:=ay p;obtain⟨x,rfl,hx⟩:=au.one hv;obtain⟨a,ys,rfl,q1,q2⟩:=uG r hx e;exact qk pins s σ H _ us Q I rr ⟨a,ys,rfl,q1,λl hl=>cC r hl q2 p⟩
theorem zU:b8 X (.type "tuple") (BP (bd X cl) EX .tuple):=by
 intro pins s σ H xs us Q I rr hh;obtain⟨ρ,h,vs,r,hv,p⟩:=hh;exact(show False from p).elim
theorem Gy:b8 X (.type "str") (BP (bd X cl) EX .str):=by
 intro pins s σ H xs us Q I rr hh;obtain⟨ρ,h,vs,r,hv,p⟩:=hh;exact(show False from p).elim
theorem Gz:b8 X (.type "int") (BP (bd X cl) EX .int):=by
 intro pins s σ H xs us Q I rr hh;obtain⟨ρ,h,vs,r,hv,p⟩:=hh
 match vs,p with
 |[.int i],p=>obtain⟨x,rfl,hx⟩:=au.one hv;rw[VR]at hx;subst hx;exact oF pins s σ H _ us Q I rr (.inl ⟨i,rfl,ai r p _ VR.int⟩)
 |[.bl i],p=>obtain⟨x,rfl,hx⟩:=au.one hv;rw[VR]at hx;subst hx;exact oF pins s σ H _ us Q I rr (.inr ⟨i,rfl,ai r p _ VR.int⟩)
theorem GA(hc:X.calm=true):b8 X (.builtin "all") (BP (bd X cl) EX .all):=by
 intro pins s σ H xs us Q I rr hh;obtain⟨ρ,h,vs,r,hv,p⟩:=hh
 match vs,p with
 |[v],p=>obtain⟨zs,e,p⟩:=ay p;obtain⟨bs,e1,p⟩:=bH p;obtain⟨x,rfl,hx⟩:=au.one hv;obtain⟨a,ys,rfl,q1,q2⟩:=dN r hx e;rw[m9 e1]at q2;rw[au.bools.mp q2]at q1;exact oi hc pins s σ H _ us Q I rr ⟨a,bs,rfl,q1,ai r p _ VR.bl⟩
theorem GB(hc:X.calm=true):b8 X (.builtin "any") (BP (bd X cl) EX .any):=by
 intro pins s σ H xs us Q I rr hh;obtain⟨ρ,h,vs,r,hv,p⟩:=hh;exact(show False from p).elim
def Rm(B:Bd)(EX:Nat->List V->Hp->Prop)(T:String):List V->Hp->VK->Prop:=λxs H Q=>∃ρ h v x,xs=[x,.ty T]/\HR B ρ h H/\VR B.K ρ H v x/\Post B EX ρ H (WV B.K Q) (blt (.isin T) [v] h)
theorem CF(K:Frag)(t T:String)(ht:t∈["NoneType","bool","int","str","list","tuple","dict"])(hT:T∈["list","tuple","str","bool","int","dict"]) :
  kitOne K (.type t) (.type T)=some (decide (T=t\/(T = "int" /\ t = "bool"))):=by
 simp only[mem_cons,not_mem_nil,or_false]at ht hT
 rcases ht with rfl|rfl|rfl|rfl|rfl|rfl|rfl<;>rcases hT with rfl|rfl|rfl|rfl|rfl|rfl<;>rfl
theorem CG{T:String}:b8 X (.builtin "isinstance") (Rm (bd X cl) EX T):=by
 intro pins s σ H xs us Q I rr hh;obtain⟨ρ,h,v,x,rfl,r,hx,p⟩:=hh;obtain⟨u,w',rfl,r1,r2⟩:=vals2 rr;cases r2;obtain⟨t,e,p⟩:=ay p;obtain⟨b,e1,p⟩:=bH p;have q:=ai r p _ VR.bl;unfold sf at e1;split at e1
 ·rename_i Rn
  have hT:T∈["list","tuple","str","bool","int","dict"]:=by simpa using Rn
  cases e1;have fin:∀tk,EP X pins σ Q (.bool (decide (T=t\/(T = "int" /\ t = "bool")))) { s with toks:=tk }:=λtk=>⟨.bl _,H,I.tok _,rfl,q⟩;have tab:=λht=>CF X.K t T ht hT;cases v with
  |non=>rw[VR]at hx;subst hx;cases r1;simp only[se]at e;cases e;exact Uj PySem.W.kitx_none I.qa Ut (tab (by simp)) (λz=>nomatch z) fin
  |bl c=>rw[VR]at hx;subst hx;cases r1;simp only[se]at e;cases e;exact Uj PySem.W.kitx_bool I.qa Ut (tab (by simp)) (λz=>nomatch z) fin
  |int i=>rw[VR]at hx;subst hx;obtain⟨t',rfl⟩:=r1;simp only[se]at e;cases e;exact Uj PySem.W.kitx_int I.qa Ut (tab (by simp)) (λz=>nomatch z) fin
  |str i=>rw[VR]at hx;subst hx;obtain⟨t',rfl⟩:=r1;simp only[se]at e;cases e;exact Uj PySem.W.kitx_str I.qa Ut (tab (by simp)) (λz=>nomatch z) fin
  |tup vs=>rw[VR]at hx;obtain⟨a,ys,rfl,q1,_⟩:=hx;cases r1;simp only[se]at e;cases e;obtain⟨_,_,⟨o,e1,e2,_⟩,_⟩:=I.tuple q1;exact Uj PySem.W.kitx_tuple I.qa ⟨o,e1,e2⟩ (tab (by simp)) (λz=>nomatch z) fin
  |rl vs=>rw[VR]at hx;obtain⟨a,ys,rfl,q1,_⟩:=hx;cases r1;simp only[se]at e;cases e;obtain⟨_,_,⟨o,n,e1,e2,_⟩,_⟩:=I.list q1.sq;exact Uj kitx_list I.qa ⟨o,e1,e2⟩ (tab (by simp)) (λz=>nomatch z) fin
  |dc _ _=>rw[VR]at hx;exact hx.elim
  |ob _ _ _=>rw[VR]at hx;exact hx.elim
  |ref i=>
   rw[VR]at hx;obtain⟨a,rfl,q1⟩:=hx;cases r1;simp only[se]at e;split at e
   ·rename_i vs e1;cases e;obtain⟨ys,k1,k2⟩:=r.ob i _ a e1 q1;obtain⟨_,_,⟨o,n,e1,e2,_⟩,_⟩:=I.list (xs:=ys) (.inl (.inl k1));exact Uj kitx_list I.qa ⟨o,e1,e2⟩ (tab (by simp)) (λz=>nomatch z) fin
   ·rename_i vs e1;cases e;obtain⟨ks,k1,k2⟩:=r.ob i _ a e1 q1;obtain⟨_,_,vs,_,p⟩:=(show bM X.prog X.w H s.heap a (.dK ks) from I.hok a _ k1);obtain⟨o,es,ep,h1,h2,_⟩:=p;exact Uj PySem.W.kitx_dict I.qa ⟨o,h1,h2.1⟩ (tab (by simp)) (λz=>nomatch z) fin
   ·cases e
 ·cases e1
def KZ(B:Bd)(EX:Nat->List V->Hp->Prop)(m:Me):V->List V->Hp->VK->Prop:=λx xs H Q=>∃ρ h v vs,HR B ρ h H/\VR B.K ρ H v x/\au B.K ρ H vs xs/\Post B EX ρ H (WV B.K Q) (met m v vs h)
theorem CH:JH X "str.join" (KZ (bd X cl) EX .join):=by
 intro pins s σ H x xs u us Q I ru rr hh;obtain⟨ρ,h,v,vs,r,hv,hvs,p⟩:=hh;exact(show False from p).elim
theorem ni{i:Nat}(r:HR B ρ h H)(hi:ρ[i]?=some a)(e:h[i]?=some u)(eU:H a=some U)(hm:Mu U=true)(q:OR B ρ (upd H a O) a o)
  (p:Post B EX ρ H (WV B.K Q) (bnd (put i o) (λ_=>ret Val.non) h)):Q .non (upd H a O) :=
 p ρ (upd H a O) (Gr.put (Tr hi) eU hm) (r.put hi e q) _ VR.non
theorem yc:JH X "list.append" (KZ (bd X cl) EX .append):=by
 intro pins s σ H x xs v' us Q I rx rv hh;obtain⟨ρ,h,v,vs,r,hv,hvs,p⟩:=hh
 match v,vs,p with
 |.ref i,[w],p=>
  obtain⟨zs,e,p⟩:=ay p;split at e
  ·rename_i zs' e1;cases e;obtain⟨e2,p⟩:=aM p;obtain⟨a,ys,rfl,q0,q1,q2⟩:=jk r hv e1;obtain⟨y,rfl,hy⟩:=au.one hvs;refine oO pins s σ H _ _ v' us Q I rx rv ⟨a,ys,y,rfl,rfl,q1,by rw[<-q2.length];exact Tj e2,?_⟩;have g:Gr ρ H ρ (upd H a (.lst (ys++[y]))):=Gr.put (Tr q0) q1 rfl;exact ni (o:=.lst (zs++[w])) r q0 e1 q1 rfl ⟨_,aC,au.append (au.up g _ _ q2) (au.up g _ _ (au.cons hy au.nil))⟩ p
  ·cases e
theorem yd:JH X "list.extend" (KZ (bd X cl) EX .extend):=by
 intro pins s σ H x xs v' us Q I rx rv hh;obtain⟨ρ,h,v,vs,r,hv,hvs,p⟩:=hh
 match v,vs,p with
 |.ref i,[w],p=>
  obtain⟨zs,e,p⟩:=ay p;split at e
  ·rename_i zs' e1;cases e
   obtain⟨ws,e3,p⟩:=ay p;obtain⟨e2,p⟩:=aM p;have e2:=Tj e2;obtain⟨a,ys,rfl,q0,q1,q2⟩:=jk r hv e1;obtain⟨y,rfl,hy⟩:=au.one hvs;have fin:∀(bs:List V),au X.K ρ H ws bs->Q .non (upd H a (.lst (ys++bs))):=λbs hb=>by
    have g:Gr ρ H ρ (upd H a (.lst (ys++bs))):=Gr.put (Tr q0) q1 rfl;exact ni (o:=.lst (zs++ws)) r q0 e1 q1 rfl ⟨_,aC,au.append (au.up g _ _ q2) (au.up g _ _ hb)⟩ p
   cases w with
   |tup ts=>simp only[o6]at e3;cases e3;rw[VR]at hy;obtain⟨b,bs,rfl,k1,k2⟩:=hy;exact uD pins s σ H _ _ v' us Q I rx rv ⟨a,b,ys,bs,rfl,rfl,q1,k1,by rw[<-q2.length,<-k2.length];exact e2,fin bs k2⟩
   |ref j=>
    simp only[o6,aA]at e3;split at e3
    ·rename_i ts e4;cases e3;obtain⟨b,bs,rfl,k0,k1,k2⟩:=jk r hy e4;exact xH pins s σ H _ _ v' us Q I rx rv ⟨a,b,ys,bs,rfl,rfl,q1,k1,by rw[<-q2.length,<-k2.length];exact e2,fin bs k2⟩
    ·cases e3
   |_=>simp only[o6]at e3;cases e3
  ·cases e
theorem au.era{K:Frag}{ρ:List Addr}{H:Hp}:∀{vs:List Val} {xs:List V} (n:Nat),au K ρ H vs xs->au K ρ H (vs.eraseIdx n) (xs.eraseIdx n)
 |[],_,n,e=>by rw[au]at e;subst e;exact au.nil
 | _::_,_,n,e=>by
  rw[au]at e;obtain⟨x,r,rfl,e1,e2⟩:=e;cases n with
  |zero=>exact e2
  |succ n=>exact au.cons e1 (au.era n e2)
theorem ye:JH X "list.remove" (KZ (bd X cl) EX .remove):=by
 intro pins s σ H x xs v' us Q I rx rv hh;obtain⟨ρ,h,v,vs,r,hv,hvs,p⟩:=hh
 match v,vs,p with
 |.ref i,[.int k],p=>
  obtain⟨zs,e,p⟩:=ay p;split at e
  ·rename_i zs' e1;cases e;obtain⟨ks,e3,p⟩:=bH p;obtain⟨e2,p⟩:=aM p;have e3:=cR e3;subst e3;obtain⟨a,ys,rfl,q0,q1,q2⟩:=jk r hv e1;have hys:=au.ints.mp q2;subst hys;obtain⟨y,rfl,hy⟩:=au.one hvs;rw[VR]at hy;subst hy;refine x6 pins s σ H _ _ v' us Q I rx rv ⟨a,ks,k,rfl,rfl,q1,Tj e2,?_⟩;have g:Gr ρ H ρ (upd H a (.lst ((ks.map V.int).eraseIdx (ks.idxOf k)))):=Gr.put (Tr q0) q1 rfl;exact ni (o:=.lst ((ks.map Val.int).eraseIdx (ks.idxOf k))) r q0 e1 q1 rfl ⟨_,aC,au.era _ (au.up g _ _ q2)⟩ p
  ·cases e
end
def gu(f:Str->Pos->Bool):Expr->Bool
 |.Name a b=>f a b
 |_=>false
theorem cX{f:Str->Pos->Bool}{P:Expr->Prop}{e:Expr}(h:gu f e=true)(H:∀a b,f a b=true->P (.Name a b)):P e:=by
 cases e<;>first|exact H _ _ h|exact(SV h).elim
def qD(f:Const->Nat->Pos->Bool):Expr->Bool
 |.Constant a b c=>f a b c
 |_=>false
theorem nj{f:Const->Nat->Pos->Bool}{P:Expr->Prop}{e:Expr}(h:qD f e=true)(H:∀a b c,f a b c=true->P (.Constant a b c)):P e:=by
 cases e<;>first|exact H _ _ _ h|exact(SV h).elim
def K0(f:Expr->Operator->Expr->Pos->Bool):Expr->Bool
 |.BinOp a b c d=>f a b c d
 |_=>false
theorem GC{f:Expr->Operator->Expr->Pos->Bool}{P:Expr->Prop}{e:Expr}(h:K0 f e=true)(H:∀a b c d,f a b c d=true->P (.BinOp a b c d)):P e:=by
 cases e<;>first|exact H _ _ _ _ h|exact(SV h).elim
def OA(f:UnaryOp->Expr->Pos->Bool):Expr->Bool
 |.UnaryOp a b c=>f a b c
 |_=>false
theorem K1{f:UnaryOp->Expr->Pos->Bool}{P:Expr->Prop}{e:Expr}(h:OA f e=true)(H:∀a b c,f a b c=true->P (.UnaryOp a b c)):P e:=by
 cases e<;>first|exact H _ _ _ h|exact(SV h).elim
def K3(f:Expr->List CmpOp->List Expr->Pos->Bool):Expr->Bool
 |.Compare a b c d=>f a b c d
 |_=>false
theorem GD{f:Expr->List CmpOp->List Expr->Pos->Bool}{P:Expr->Prop}{e:Expr}(h:K3 f e=true)(H:∀a b c d,f a b c d=true->P (.Compare a b c d)):P e:=by
 cases e<;>first|exact H _ _ _ _ h|exact(SV h).elim
def qE(f:BoolOp->List Expr->Pos->Bool):Expr->Bool
 |.BoolOp a b c=>f a b c
 |_=>false
theorem o9{f:BoolOp->List Expr->Pos->Bool}{P:Expr->Prop}{e:Expr}(h:qE f e=true)(H:∀a b c,f a b c=true->P (.BoolOp a b c)):P e:=by
 cases e<;>first|exact H _ _ _ h|exact(SV h).elim
def GF(f:List Expr->Nat->Pos->Bool):Expr->Bool
 |.Tuple a b c=>f a b c
 |_=>false
theorem zV{f:List Expr->Nat->Pos->Bool}{P:Expr->Prop}{e:Expr}(h:GF f e=true)(H:∀a b c,f a b c=true->P (.Tuple a b c)):P e:=by
 cases e<;>first|exact H _ _ _ h|exact(SV h).elim
def K4(f:List Expr->Pos->Bool):Expr->Bool
 |.List a b=>f a b
 |_=>false
theorem GG{f:List Expr->Pos->Bool}{P:Expr->Prop}{e:Expr}(h:K4 f e=true)(H:∀a b,f a b=true->P (.List a b)):P e:=by
 cases e<;>first|exact H _ _ h|exact(SV h).elim
def yf(f:Expr->Expr->Pos->Bool):Expr->Bool
 |.Subscript a b c=>f a b c
 |_=>false
theorem nk{f:Expr->Expr->Pos->Bool}{P:Expr->Prop}{e:Expr}(h:yf f e=true)(H:∀a b c,f a b c=true->P (.Subscript a b c)):P e:=by
 cases e<;>first|exact H _ _ _ h|exact(SV h).elim
def K5(f:Option Expr->Option Expr->Option Expr->Pos->Bool):Expr->Bool
 |.Slice a b c d=>f a b c d
 |_=>false
theorem GH{f:Option Expr->Option Expr->Option Expr->Pos->Bool}{P:Expr->Prop}{e:Expr}(h:K5 f e=true)(H:∀a b c d,f a b c d=true->P (.Slice a b c d)):P e:=by
 cases e<;>first|exact H _ _ _ _ h|exact(SV h).elim
def vL(f:Expr->List Expr->List Keyword->Pos->Bool):Expr->Bool
 |.Call a b c d=>f a b c d
 |_=>false
theorem qF{f:Expr->List Expr->List Keyword->Pos->Bool}{P:Expr->Prop}{e:Expr}(h:vL f e=true)(H:∀a b c d,f a b c d=true->P (.Call a b c d)):P e:=by
 cases e<;>first|exact H _ _ _ _ h|exact(SV h).elim
def El(f:Expr->Str->Pos->Bool):Expr->Bool
 |.Attribute a b c=>f a b c
 |_=>false
theorem CI{f:Expr->Str->Pos->Bool}{P:Expr->Prop}{e:Expr}(h:El f e=true)(H:∀a b c,f a b c=true->P (.Attribute a b c)):P e:=by
 cases e<;>first|exact H _ _ _ h|exact(SV h).elim
def zW(f:Expr->List Comprehension->Scope->Pos->Bool):Expr->Bool
 |.ListComp a b c d=>f a b c d
 |_=>false
theorem vM{f:Expr->List Comprehension->Scope->Pos->Bool}{P:Expr->Prop}{e:Expr}(h:zW f e=true)(H:∀a b c d,f a b c d=true->P (.ListComp a b c d)):P e:=by
 cases e<;>first|exact H _ _ _ _ h|exact(SV h).elim
def zX(f:List (Option Expr)->List Expr->Pos->Bool):Expr->Bool
 |.Dict a b c=>f a b c
 |_=>false
theorem vN{f:List (Option Expr)->List Expr->Pos->Bool}{P:Expr->Prop}{e:Expr}(h:zX f e=true)(H:∀a b c,f a b c=true->P (.Dict a b c)):P e:=by
 cases e<;>first|exact H _ _ _ h|exact(SV h).elim
section
variable {α:Type} {f:α -> Bool} {g:α -> List α -> Bool} {P:List α -> Prop} {Q:Option α -> Prop} {l:List α} {b:Bool} {o:Option α}
def nq(l:List α)(b:Bool):Bool:=l.isEmpty&&b
theorem gX(h:nq l b=true)(H:b=true->P []):P l:=by
 cases l with
 |nil=>exact H h
 |cons _ _=>cases h
def kC(f:α -> List α -> Bool):List α -> Bool
 |a::r=>f a r
 |[]=>false
theorem uH(h:kC g l=true)(H:∀a r,g a r=true->P (a::r)):P l:=by
 cases l with
 |nil=>cases h
 |cons a r=>exact H a r h
def k1(f:α -> Bool):List α -> Bool:=kC λa r=>nq r (f a)
theorem jq(h:k1 f l=true)(H:∀a,f a=true->P [a]):P l:=by
 apply uH h;intro a r h;apply gX h;intro h;exact H a h
def k2(f:α -> α -> Bool):List α -> Bool:=kC λa r=>k1 (f a) r
theorem K6{f:α -> α -> Bool}(h:k2 f l=true)(H:∀a b,f a b=true->P [a,b]):P l:=by
 apply uH h;intro a r h;apply jq h;intro b h;exact H a b h
def zY(l:Option α)(b:Bool):Bool:=l.isNone&&b
theorem vO(h:zY o b=true)(H:b=true->Q none):Q o:=by
 cases o with
 |none=>exact H h
 |some _=>cases h
def vP(f:α -> Bool)(l:Option α):Bool:=l.any f
theorem qG(h:vP f o=true)(H:∀a,f a=true->Q (some a)):Q o:=by
 cases o with
 |none=>cases h
 |some a=>exact H a h
def GI[DecidableEq α](a b:α)(c:Bool):Bool:=decide (a=b)&&c
theorem vQ[DecidableEq α]{P:α -> Prop}{a d:α}(h:GI a d b=true)(H:b=true->P d):P a:=by
 rw[GI,Ul,decide_eq_true_eq]at h;rw[h.1];exact H h.2
end
def Em(f:Str->Pos->List Expr->Pos->Bool):Expr->Bool:=vL λg l k p=>gu (λx q=>nq k (f x q l p)) g
theorem lK{f:Str->Pos->List Expr->Pos->Bool}{P:Expr->Prop}{e:Expr}(h:Em f e=true)(H:∀x q l p,f x q l p=true->P (.Call (.Name x q) l [] p)):P e:=by
 apply qF h;intro g l k p h;apply cX h;intro x q h;apply gX h;intro h;exact H x q l p h
def K7(f:Expr->Str->Pos->List Expr->Pos->Bool):Expr->Bool:=vL λg l k p=>El (λo x q=>nq k (f o x q l p)) g
theorem vR{f:Expr->Str->Pos->List Expr->Pos->Bool}{P:Expr->Prop}{e:Expr}(h:K7 f e=true)(H:∀o x q l p,f o x q l p=true->P (.Call (.Attribute o x q) l [] p)):P e:=by
 apply qF h;intro g l k p h;apply CI h;intro o x q h;apply gX h;intro h;exact H o x q l p h
def GJ(f:Expr->Expr->List Expr->Int->Bool)(c:Comprehension):Bool:=f c.target c.iter c.ifs c.is_async
theorem zZ{f:Expr->Expr->List Expr->Int->Bool}{P:Comprehension->Prop}{c:Comprehension}(h:GJ f c=true)(H:∀a b d i,f a b d i=true->P ⟨a,b,d,i⟩):P c:=by
 cases c;exact H _ _ _ _ h
def K8(f:Str->Bool):Const->Bool
 |.str s=>f s
 |_=>false
theorem GK{f:Str->Bool}{P:Const->Prop}{e:Const}(h:K8 f e=true)(H:∀s,f s=true->P (.str s)):P e:=by
 cases e<;>first|exact H _ h|exact(SV h).elim
theorem P4{a b:Bool}(h:(a||b)=true):a=true\/b=true:=by
 cases a with
 |true=>exact .inl rfl
 |false=>exact .inr h
def z5(f:Expr->Pos->Bool):Stmt->Bool
 |.Expr a b=>f a b
 |_=>false
theorem vS{f:Expr->Pos->Bool}{P:Stmt->Prop}{e:Stmt}(h:z5 f e=true)(H:∀a b,f a b=true->P (.Expr a b)):P e:=by
 cases e<;>first|exact H _ _ h|exact(SV h).elim
def GL(f:List Expr->Expr->Pos->Bool):Stmt->Bool
 |.Assign a b c=>f a b c
 |_=>false
theorem z6{f:List Expr->Expr->Pos->Bool}{P:Stmt->Prop}{e:Stmt}(h:GL f e=true)(H:∀a b c,f a b c=true->P (.Assign a b c)):P e:=by
 cases e<;>first|exact H _ _ _ h|exact(SV h).elim
def OC(f:Expr->Operator->Expr->Pos->Bool):Stmt->Bool
 |.AugAssign a b c d=>f a b c d
 |_=>false
def P5(f:Expr->List Stmt->List Stmt->Pos->Bool):Stmt->Bool
 |.If a b c d=>f a b c d
 |_=>false
theorem K9{f:Expr->List Stmt->List Stmt->Pos->Bool}{P:Stmt->Prop}{e:Stmt}(h:P5 f e=true)(H:∀a b c d,f a b c d=true->P (.If a b c d)):P e:=by
 cases e<;>first|exact H _ _ _ _ h|exact(SV h).elim
def La(f:Expr->Expr->List Stmt->List Stmt->Pos->Bool):Stmt->Bool
 |.For a b c d i=>f a b c d i
 |_=>false
theorem GN{f:Expr->Expr->List Stmt->List Stmt->Pos->Bool}{P:Stmt->Prop}{e:Stmt}(h:La f e=true)(H:∀a b c d i,f a b c d i=true->P (.For a b c d i)):P e:=by
 cases e<;>first|exact H _ _ _ _ _ h|exact(SV h).elim
def GO(f:Expr->List Stmt->List Stmt->Pos->Bool):Stmt->Bool
 |.While a b c d=>f a b c d
 |_=>false
def GP(f:Option Expr->Pos->Bool):Stmt->Bool
 |.Return a b=>f a b
 |_=>false
theorem z7{f:Option Expr->Pos->Bool}{P:Stmt->Prop}{e:Stmt}(h:GP f e=true)(H:∀a b,f a b=true->P (.Return a b)):P e:=by
 cases e<;>first|exact H _ _ h|exact(SV h).elim
def Lb(f:Pos->Bool):Stmt->Bool
 |.Break a=>f a
 |_=>false
theorem GQ{f:Pos->Bool}{P:Stmt->Prop}{e:Stmt}(h:Lb f e=true)(H:∀a,f a=true->P (.Break a)):P e:=by
 cases e<;>first|exact H _ h|exact(SV h).elim
def Lc(f:Pos->Bool):Stmt->Bool
 |.Continue a=>f a
 |_=>false
theorem GR{f:Pos->Bool}{P:Stmt->Prop}{e:Stmt}(h:Lc f e=true)(H:∀a,f a=true->P (.Continue a)):P e:=by
 cases e<;>first|exact H _ h|exact(SV h).elim
def En(f:Pos->Bool):Stmt->Bool
 |.Pass a=>f a
 |_=>false
theorem CJ{f:Pos->Bool}{P:Stmt->Prop}{e:Stmt}(h:En f e=true)(H:∀a,f a=true->P (.Pass a)):P e:=by
 cases e<;>first|exact H _ h|exact(SV h).elim
def GS(f:Nat->Bool):IE->Bool
 |.var i=>f i
 |_=>false
theorem qH{f:Nat->Bool}{P:IE->Prop}{e:IE}(h:GS f e=true)(H:∀i,f i=true->P (.var i)):P e:=by
 cases e<;>first|exact H _ h|exact(SV h).elim
def Ld(f:Option Str->Expr->Pos->Bool)(c:Keyword):Bool:=f c.arg c.value c.pos
theorem GU{f:Option Str->Expr->Pos->Bool}{P:Keyword->Prop}{c:Keyword}(h:Ld f c=true)(H:∀a b d,f a b d=true->P ⟨a,b,d⟩):P c:=by
 cases c;exact H _ _ _ h
def P6(f:Bool->Bool):Const->Bool
 |.bool b=>f b
 |_=>false
theorem Le{f:Bool->Bool}{P:Const->Prop}{c:Const}(h:P6 f c=true)(H:∀b,f b=true->P (.bool b)):P c:=by
 cases c<;>first|exact H _ h|exact(SV h).elim
def GV(f:Str->Pos->List Expr->Pos->Bool):Expr->Bool:=vL λg l k p=>gu (λx q=>k1 (Ld λn v _=>vP (λm=>qD (λc _ _=>P6 (λb=>b&&m==("reverse":Str)&&f x q l p) c) v) n) k) g
theorem z8{f:Str->Pos->List Expr->Pos->Bool}{P:Expr->Prop}{e:Expr}(h:GV f e=true)(H:∀x q l c cp kp p,f x q l p=true->P (.Call (.Name x q) l [⟨some "reverse",.Constant (.bool true) c cp,kp⟩] p)):P e:=by
 apply qF h;intro g l k p h;apply cX h;intro x q h;apply jq h;intro kw h;apply GU h;intro n v kp h;apply qG h;intro m h;apply nj h;intro c cn cp h;apply Le h;intro b h;rw[Ul,Ul,Vv]at h;obtain⟨⟨h1,h2⟩,h3⟩:=h;subst h1;subst h2;exact H x q l cn cp kp p h3
end Hv
end
section
namespace Hv
open PySem L2 PyProof.Rows
structure Tb where
 nc:Nat
 Lf:List Str
 GW:List (Nat×Str×Nat)
 GX:List (Str×Str×Nat)
 isc:List (Str×List Bool)
structure mw where
 N:List Str
 sc:Scope
 fns:List (Str×Nat)
 cons:List (Str×Val)
 tb:Tb
def j8(sc:Scope)(x:Str):Bool:=(sc.names.lookup x==some .local||sc.names.lookup x==some .cell||sc.names.lookup x==some .free) && !(x==("__debug__":Str)) && !(x==("__classdict__":Str))
def vU(sc:Scope)(x:Str):Bool:=sc.names.lookup x==some .globalImplicit && !(x==("__debug__":Str)) && !(x==("__name__":Str))
def z9:Const->Val->Bool
 |.none,.non=>true
 |.bool a,.bl b=>a==b
 |.int a,.int b=>a==b
 |.str a,.str b=>a==b
 |_,_=>false
def GY(o:Eh)(op:Operator):Bool:=decide (op=zP o)
def Lg(o:Gi)(op:CmpOp):Bool:=decide (op=vI o)
def Lh:Bl->Str
 |.len=>"len" | .min=>"min" | .max=>"max" | .sorted=>"sorted" | .list=>"list" | .tuple=>"tuple" | .str=>"str" | .int=>"int" | .all=>"all" | .any=>"any" | .isin _=>"isinstance"
def noStar:Expr->Bool
 |.Starred ..=>false
 |_=>true
def mz:Expr->Bool
 |.Slice ..=>false
 |_=>true
def CK:Expr->Bool
 |.Name ..=>true|.Call ..=>true|.Subscript ..=>true|.List ..=>true|.Tuple ..=>true|.ListComp ..=>true|.Attribute ..=>true|.BinOp ..=>true
 |_=>false
def superB:Expr->Bool
 |.Call (.Name _ _) [] [] _=>false
 |_=>true
def Eo(scope xsc:Scope):Scope :=
 { scope with names:=scope.names.map λ(n,k)=>if (k==.free&&xsc.kind==.function&&xsc.names.lookup n==some .cell) then (n,.cell) else (n,k) }
def mw.nZ(Γ:mw)(scope:Scope)(N':List Str):mw:={ Γ with N:=N',sc:=Eo scope Γ.sc }
def sF(Γ:mw):uF->Expr->Bool
 |.one i,.Name x _=>Γ.N[i]?==some x && Γ.sc.names.lookup x==some .local
 | .tup is,.Tuple es _ _=>es.length==is.length&&(is.zip es).all λp=>match p.2 with
  |.Name x _=>Γ.N[p.1]?==some x && Γ.sc.names.lookup x==some .local
  |_=>false
 |_,_=>false
def sG:uF->List Nat
 |.one i=>[i]
 |.tup is=>is
def Ro:Me->Str
 |.join=>"join" | .append=>"append" | .extend=>"extend" | .remove=>"remove"
def uI:Val->Val->Bool
 |.non,.non=>true
 |.bl a,.bl b=>a==b
 |.int a,.int b=>a==b
 |.str a,.str b=>a==b
 |_,_=>false
def Ep(Γ:mw)(N':List Str)(js:List (Option Nat))(p q i j:Nat):Expr->Bool:=zW λe1 q1 scope _=>GF (λls _ _=>k2 (λa b=>gu (λy1 _=>yf (λl r _=>gu (λy2 _=>yf (λl2 r2 _=>gu (λy3 _=>gu (λy4 _=>k1 (GJ λtg iter ifs ia=>gu (λt tp=>gu (λdn _=>nq ifs (
  ia==0&&fX Γ.N Γ.sc scope N' js&&decide (N'.Nodup)&&sF (Γ.nZ scope N') (.one p) (.Name t tp)&&js[p]?==some none&&js[q]?==some (some j)&&js[js.idxOf (some i)]?==some (some i)&&p != q&&p != js.idxOf (some i) &&
   (N'[p]?==some y1&&j8 (Γ.nZ scope N').sc y1)&&(N'[q]?==some y2&&j8 (Γ.nZ scope N').sc y2)&&(N'[js.idxOf (some i)]?==some y3&&j8 (Γ.nZ scope N').sc y3)&&(N'[p]?==some y4&&j8 (Γ.nZ scope N').sc y4)&&(Γ.N[i]?==some dn&&j8 Γ.sc dn))) iter) tg) q1) r2) l2) r) l) b) a) ls) e1
def GZ:jD->Bool
 |.nil=>true
 |.cons ..=>false
theorem Aa{b:Bool}(h:(GZ es&&b)=true):es=.nil/\b=true:=by
 cases es with
 |nil=>exact⟨rfl,h⟩
 |cons _ _=>cases h
mutual
noncomputable def bF(Γ:mw):IE->Expr->Bool
 |.var i,e=>gu (λx _=>Γ.N[i]?==some x&&j8 Γ.sc x) e
 |.cst d,e=>qD (λc _ _=>z9 c d) e
 |.con x d,e=>gu (λy _=>x==y&&vU Γ.sc x && Γ.cons.any λp=>p.1==x&&uI p.2 d) e
 |.no,_=>false
 |.bin o a b,e=>K0 (λl op r _=>GY o op&&bF Γ a l&&bF Γ b r) e
 |.neg a,e=>OA (λq1 l _=>GI q1 .USub (bF Γ a l)) e
 |.cmp o a b,e=>K3 (λl q1 q2 _=>k1 (λop=>k1 (λr=>Lg o op && !behindInMarks op r&&bF Γ a l&&bF Γ b r) q2) q1) e
 |.chn _ _ _ _ _,_=>false
 |.and a b,e=>qE (λq1 q2 pos=>GI q1 .And (kC (λl q3=>kC (λm r=>bF Γ a l&&(match r with|[]=>bF Γ b m|n::r'=>bF Γ b (.BoolOp .And (m::n::r') pos))) q3) q2)) e
 |.or a b,e=>qE (λq1 q2 pos=>GI q1 .Or (kC (λl q3=>kC (λm r=>bF Γ a l&&(match r with|[]=>bF Γ b m|n::r'=>bF Γ b (.BoolOp .Or (m::n::r') pos))) q3) q2)) e
 |.not a,e=>OA (λq1 l _=>GI q1 .Not (bF Γ a l)) e
 |.ite _ _ _,_=>false
 |.tup es,e=>GF (λls _ _=>aR Γ es ls) e
 |.lst es,e=>K4 (λls _=>aR Γ es ls) e
 |.idx a b,e=>yf (λl r _=>mz r&&bF Γ a l&&bF Γ b r) e
 |.slc a lo hi,e=>yf (λl q1 _=>K5 (λl' h' q2 _=>zY q2 (bF Γ a l&&(match l' with|none=>cJ lo|some e=>!cJ lo&&bF Γ lo e)&&(match h' with|none=>cJ hi|some e=>!cJ hi&&bF Γ hi e))) q1) e
 |.call j es,e=>Em (λx _ args _=>vU Γ.sc x && Γ.fns[j]?==some (x,args.length)&&decide (args.length<1000)&&aR Γ es args) e
 | .blt b es,e=>Em (λx _ args _=>vU Γ.sc x&&x==Lh b&&(match b with
   |.isin T=>(match args with|[a,.Name y _]=>vU Γ.sc y&&y==(T:Str)&&["list","tuple","str","bool","int","dict"].contains T&&aR Γ es [a]|_=>false)
   |_=>!args.isEmpty&&aR Γ es args)) e
 |.met m a es,e=>K7 (λo x ap args cp=>x==Ro m&&superB o && !args.isEmpty&&decide (args.length<29)&&ap.endLine==cp.line&&bF Γ a o&&aR Γ es args) e
 | .comp N' js pat k it c elt,e=>zW (λe q1 scope _=>k1 (λq2=>GJ (λtg iter ifs q3=>GI q3 0 (fX Γ.N Γ.sc scope N' js&&vV Γ k it iter&&decide (N'.Nodup)&&sF (Γ.nZ scope N') pat tg&&((sG pat).all λi=>js[i]?==some none)&&(match k,pat with|.enum,.one _=>false|.zip,.one _=>false|_,_=>true) &&
   (match ifs with|[]=>cJ c|[t]=>!cJ c&&bF (Γ.nZ scope N') c t|_=>false)&&bF (Γ.nZ scope N') elt e)) q2) q1) e
 |.dct0,e=>zX (λq1 q2 _=>nq q1 (nq q2 (true))) e
 |.sset _,_=>false
 |.dget d k x,e=>K7 (λo m ap q1 cp=>k2 (λa b=>m==("get":Str)&&superB o&&noStar a&&noStar b&&ap.endLine==cp.line&&bF Γ d o&&bF Γ k a&&bF Γ x b) q1) e
 |.dct1 k v,e=>zX (λq1 q2 _=>k1 (λq3=>vP (λa=>k1 (λb=>bF Γ k a&&bF Γ v b) q2) q3) q1) e
 |.lkeys d,e=>Em (λx _ q1 _=>k1 (λq2=>K7 (λo m ap q3 cp=>nq q3 (x==("list":Str)&&m==("keys":Str)&&vU Γ.sc x&&superB o&&ap.endLine==cp.line&&bF Γ d o)) q2) q1) e||Em (λx _ q1 _=>k1 (λq2=>gu (λy q=>x==("list":Str)&&vU Γ.sc x&&bF Γ d (.Name y q)) q2) q1) e
 |.sdef _ _ _,_=>false
 |.svals _,_=>false
 |.skeys d,e=>GV (λx _ q1 _=>k1 (λq2=>K7 (λo m ap q3 cp=>nq q3 (x==("sorted":Str)&&m==("keys":Str)&&vU Γ.sc x&&superB o&&ap.endLine==cp.line&&bF Γ d o)) q2) q1) e
 |.fld _ _ _,_=>false
 |.rev a _,e=>GV (λx _ q1 _=>k1 (λl=>x==("sorted":Str)&&vU Γ.sc x&&noStar l&&bF Γ a l) q1) e
 |.dflt N' js p q d w,e=>GS (λi=>GS (λj=>Em (λx _ q1 _=>k1 (λe1=>x==("dict":Str)&&vU Γ.sc x&&Ep Γ N' js p q i j e1) q1) e) w) d
 |.isc _ _ _,_=>false
 |.mth _ _ _ _,_=>false
noncomputable def aR(Γ:mw):jD->List Expr->Bool
 |.nil,ls=>ls.isEmpty
 | .cons e es,ls=>match ls with
  |l::ls=>noStar l&&bF Γ e l&&aR Γ es ls
  |[]=>false
noncomputable def vV(Γ:mw)(k:Ik):jD->Expr->Bool
 |.nil,_=>false
 | .cons e es,l=>match k with
  |.seq=>GZ es&&(CK l&&bF Γ e l)
  |.range=>Em (λx _ as _=>kC (λa args=>x==("range":Str)&&vU Γ.sc x&&noStar a&&bF Γ e a&&aR Γ es args&&decide (args.length<2)) as) l
  |.enum=>GZ es&&Em (λx _ as _=>k1 (λa=>x==("enumerate":Str)&&vU Γ.sc x&&noStar a&&bF Γ e a) as) l
  |.zip=>false
end
abbrev Fn:=Nat->List Val->M Val
def cD(K:Frag)(ρ:List Addr)(env:Env)(σ:L2.St)(H:Hp):Prop:=∀(i:Nat) (v:Val),env[i]?=some (some v)->∃x,σ[i]?=some (some x)/\VR K ρ H v x
theorem cD.jx{K:Frag}{ρ ρ':List Addr}{env:Env}{σ:L2.St}{H H':Hp}(e:cD K ρ env σ H)(g:Gw ρ H ρ' H'):cD K ρ' env σ H':=λi v q=>by
 obtain⟨x,q1,q2⟩:=e i v q;exact⟨x,q1,VR.jx g v x q2⟩
theorem cD.up{K:Frag}{ρ ρ':List Addr}{env:Env}{σ:L2.St}{H H':Hp}(e:cD K ρ env σ H)(g:Gr ρ H ρ' H'):cD K ρ' env σ H':=e.jx g.w
def Rp(K:Frag)(Q:List V->Hp->Prop):List Val->Hs->List Addr->Hp->Prop:=λvs _ ρ' H'=>∀xs,au K ρ' H' vs xs->Q xs H'
def WT(Q:Bool->Hp->Prop):Bool->Hs->List Addr->Hp->Prop:=λb _ _ H'=>Q b H'
def JJ(Φ:Fn)(ir:IE)(env:Env):M Bool:=bnd (aH Φ ir env) λx=>ask λh=>cI h x
def tV(Φ:Fn)(B:Bd)(EX:Nat->List V->Hp->Prop)(ir:IE):TE:=λσ H Q=>∃ρ env h,cD B.K ρ env σ H/\HR B ρ h H/\Post B EX ρ H (WV B.K Q) (aH Φ ir env h)
def P7(Φ:Fn)(B:Bd)(EX:Nat->List V->Hp->Prop)(dB:jD):TA:=λσ H Q=>∃ρ env h,cD B.K ρ env σ H/\HR B ρ h H/\Post B EX ρ H (Rp B.K Q) (bg Φ dB env h)
def tT(Φ:Fn)(B:Bd)(EX:Nat->List V->Hp->Prop)(ir:IE):TT:=λσ H Q=>∃ρ env h,cD B.K ρ env σ H/\HR B ρ h H/\Post B EX ρ H (WT Q) (JJ Φ ir env h)
theorem _root_.L2.PE.imp(h:PE X e t)(i:∀σ H Q,t' σ H Q->t σ H Q):PE X e t':=λpins s σ H Q I hw=>h pins s σ H Q I (i σ H Q hw)
theorem _root_.L2.PT.imp(h:PT X e t)(i:∀σ H Q,t' σ H Q->t σ H Q):PT X e t':=λpins s σ H Q I hw=>h pins s σ H Q I (i σ H Q hw)
theorem _root_.L2.PA.imp(h:PA X es t)(i:∀σ H Q,t' σ H Q->t σ H Q):PA X es t':=λpos pins s σ H Q I hw=>h pos pins s σ H Q I (i σ H Q hw)
theorem _root_.L2.PO.imp(h:PO X e t)(i:∀σ H Q,t' σ H Q->t σ H Q):PO X e t':=λpins s σ H Q I hw=>h pins s σ H Q I (i σ H Q hw)
theorem _root_.L2.PI.imp(h:PI X tg iter t)(i:∀σ H R,t' σ H R->t σ H R):PI X tg iter t':=λpins s σ H R I hw=>h pins s σ H R I (i σ H R hw)
theorem aV{α β γ:Type}(m:M α)(f:α -> M β)(g:β -> M γ):bnd (bnd m f) g=bnd m λx=>bnd (f x) g:=by
 funext h;show (match (match m h with|.ok a h'=>f a h'|.exc c vs h'=>.exc c vs h'|.no=>.no) with|.ok a h'=>g a h'|.exc c vs h'=>.exc c vs h'|.no=>.no)=(match m h with|.ok a h'=>bnd (f a) g h'|.exc c vs h'=>.exc c vs h'|.no=>.no);cases m h<;>rfl
theorem cK{α β:Type}(a:α)(f:α -> M β):bnd (ret a) f=f a:=rfl
def uJ(B:Bd)(n:Nat)(φ:List Val->M Val):Sp:=λxs H Q _=>∃ρ h vs,vs.length=n/\HR B ρ h H/\au B.K ρ H vs xs/\Post B (λ_ _ _=>False) ρ H (WV B.K Q) (φ vs h)
def JK(P:Program)(w:World)(B:Bd)(mg:Str->Option Value)(base:Heap)(k:Nat)(j:Nat)(x:Str)(n:Nat)(φ:List Val->M Val):Prop :=
 (n<1000/\((∃(f:Addr) (fd:FuncData) (ps:List Str),ps.length=n/\mg x=some (.ref f)/\keepIn B.K (.ref f)=true/\Binds B.K fd ps []/\fR P w B.K mg base zx k f fd ps (uJ B n φ)) \/
  ∃(c:Nat) (f:Addr) (fd:FuncData) (ps:List Str) (φ0:List Val->M Val),φ = P1 c φ0/\ps.length=n+1/\mg x=some (.ref (B.cl c))/\Mk B.K (B.cl c) f/\Binds B.K fd ps []/\fR P w B.K mg base zx k f fd ps (uJ B (n+1) φ0))) \/
 (1000<=n/\∃(fd:FuncData) (ps:List Str),ps.length=n-1000/\Binds B.K fd ps []/\fR P w B.K mg base zx k (B.cl (1000+j)) fd ps (uJ B (n-1000) φ))
def bltNames:List Str:=["len","min","max","sorted","list","tuple","str","all","any","isinstance","range","enumerate","int","bool","dict","set","zip"]
structure Ctx (Φ:Fn) (Γ:mw) (k:Nat) (X:Cx) (cl:Nat->Addr) (EX:Nat->List V->Hp->Prop):Prop where
 N:X.N = Γ.N
 sc:X.env.scope = Γ.sc
 calm:X.calm=true
 room:dH (k+1) X.A
 lV:∀c xs H,¬ EX c xs H
 fns:∀j x n,Γ.fns[j]?=some (x,n)->JK X.prog X.w (bd X cl) X.mg X.base k j x n (Φ j)
 cls:∀c,c < Γ.tb.nc->Pz X.K (cl c)/\∀x ∈ Γ.tb.Lf,ze X.K (cl c) x
 GW:∀p ∈ Γ.tb.GW,Meth X.K (cl p.1) p.2.1 (cl (1000+p.2.2))
 GX:∀p ∈ Γ.tb.GX,∃C,X.mg p.1=some (.ref C)/\KR X.K C p.2.1 (cl (1000+p.2.2))
 isc:∀p ∈ Γ.tb.isc,∃C,X.mg p.1=some (.ref C)/\∀c b,p.2[c]?=some b->PU X.K (cl c)/\kitOne X.K (.ref (cl c)) (.ref C)=some b
 cons:∀p ∈ Γ.cons,∃v u,X.mg p.1=some u/\RelV v u/\∀K ρ H,VR K ρ H p.2 v
 blt:∀x∈bltNames,X.mg x=none
section
variable {Φ:Fn} {Γ:mw} {k:Nat} {X:Cx} {cl:Nat->Addr} {EX:Nat->List V->Hp->Prop}
theorem Ctx.units(c:Ctx Φ Γ k X cl EX):X.A.units+64<cLine:=c.room.units
theorem Ctx.vis(c:Ctx Φ Γ k X cl EX)(h:j8 Γ.sc x=true):JQ X.env.scope x/\(x==("__debug__":Str))=false/\(x==("__classdict__":Str))=false:=by
 unfold j8 at h;simp only[and_eq_true,or_eq_true,beq_iff_eq,not_eq_true']at h;obtain⟨⟨h1,h2⟩,h3⟩:=h;refine⟨?_,h2,h3⟩;unfold JQ;rw[c.sc]
 rcases h1 with (z|z)|z
 ·exact .inl z
 ·exact .inr (.inl z)
 ·exact .inr (.inr z)
theorem Ctx.gl(c:Ctx Φ Γ k X cl EX)(h:vU Γ.sc x=true):Gl X x/\(x==("__debug__":Str))=false/\x ≠ "__name__":=by
 unfold vU at h;simp only[and_eq_true,beq_iff_eq,not_eq_true']at h;obtain⟨⟨h1,h2⟩,h3⟩:=h;refine⟨?_,h2,λz=>by rw[z]at h3;simp at h3⟩;show X.env.scope.names.lookup x=_;rw[c.sc];exact h1
theorem Ctx.nZ(c:Ctx Φ Γ k X cl EX)(scope:Scope)(N':List Str)(cls:List (Str×Addr))(C:Addr)(s:Shared)(H:Hp)(fp:List Addr):Ctx Φ (Γ.nZ scope N') k (bA X scope N' cls C s H fp) cl EX:=by
 refine⟨rfl,?_,c.calm,c.room,c.lV,c.fns,c.cls,c.GW,c.GX,c.isc,c.cons,c.blt⟩;show relabel scope X.env=Eo scope Γ.sc;rw[<-c.sc];rfl
theorem bh(h:noStar e=true):starEach (e::es) env=(false,eval e env)::starEach es env:=by
 cases e<;>first|rfl|(simp[noStar]at h)
theorem gv:∀{es:List Expr} {dB:jD},aR Γ dB es=true->(backTo pos (starEach es env)).any (·.1)=false
 |[],_,_=>rfl
 |e::es,.nil,h=>by simp[aR]at h
 | e::es,.cons i dB,h=>by
  simp only[aR,and_eq_true]at h;rw[bh h.1.1];show (false||(backTo pos (starEach es env)).any (·.1))=false;rw[gv (dB:=dB) h.2];rfl
theorem Ab(h:aR Γ dB es=true):(backTo pos (starEach es env)).all (λx=>!x.1)=true:=by
 have q:=gv (pos:=pos) (env:=env) h;rw[all_eq_true];intro x hx;have:=List.any_eq_false.mp q x hx;simpa using this
theorem uK(h:mz e=true):vh e:=by
 intro o i;cases e<;>first|rfl|(simp[mz]at h)
theorem super_ok(h:superB e=true):attributeBase e x env whole=whole:=by
 cases e<;>first
  |rfl
  |skip
 rename_i f args kws pos;cases f<;>first
  |rfl
  |skip
 cases args with
 |cons a r=>rfl
 |nil=>
  cases kws with
  |cons a r=>rfl
  |nil=>simp[superB]at h
theorem cL(q:PE X e (tV Φ (bd X cl) EX ir))(he:∀whole,isTrue e X.env whole=(do let v <-whole;standAt e.pos;holding [v] (truthy v))):PT X e (tT Φ (bd X cl) EX ir) :=
 (zc q he).imp λσ H Q ⟨ρ,env,h,hE,r,p⟩=>⟨ρ,env,h,hE,r,az p λv h1 ρ1 x H1 g1 r1 q1 p1=>by
  obtain⟨b,e,w⟩:=cQ r1 p1;exact⟨b,Gp r1 q1 e,w⟩⟩
theorem Er(h:PT X (.BoolOp op vs pos) t):PW X (.BoolOp op vs pos) t:=λwhole pins s σ H Q I hw=>h pins s σ H Q I hw
def bV(Φ:Fn)(ir:IE):Prop:=∀(Γ:mw) (k:Nat) (X:Cx) (cl:Nat->Addr) (EX:Nat->List V->Hp->Prop) (e:Expr),Ctx Φ Γ k X cl EX->bF Γ ir e=true->PE X e (tV Φ (bd X cl) EX ir)/\PT X e (tT Φ (bd X cl) EX ir)
def jr(Φ:Fn)(dB:jD):Prop:=(∀(Γ:mw) (k:Nat) (X:Cx) (cl:Nat->Addr) (EX:Nat->List V->Hp->Prop) (es:List Expr),Ctx Φ Γ k X cl EX->aR Γ dB es=true->PA X es (P7 Φ (bd X cl) EX dB))/\match dB with
 |.nil=>True
 | .cons e r=>bV Φ e/\match r with
  |.nil=>True
  |.cons e' _=>bV Φ e'
theorem CL(h:GY o op=true):op=zP o:=Tj h
theorem CM(h:Lg o op=true):op=vI o:=Tj h
theorem gY(hs:∀env h,aH Φ ir env h=.no):bV Φ ir:=by
 intro Γ k X cl EX e c h;exact⟨λpins s σ H Q I ⟨ρ,env,h,hE,r,p⟩=>by rw[hs]at p;exact p.elim,λpins s σ H Q I ⟨ρ,env,h,hE,r,p⟩=>by unfold JJ bnd at p;rw[hs]at p;exact p.elim⟩
theorem Hf{i:Nat}:bV Φ (.var i):=by
 intro Γ k X cl EX e c h;apply cX h;intro x pos h;simp only[and_eq_true,beq_iff_eq]at h;obtain⟨v1,v2,v3⟩:=c.vis h.2;have q:PE X (.Name x pos) (tV Φ (bd X cl) EX (.var i)):=by refine(qb (by rw[c.N];exact h.1) v1 v2 v3).imp λσ H Q aE=>?_;obtain⟨ρ,env,h,hE,r,p⟩:=aE;rw[aH.eq_def]at p;dsimp only at p;obtain⟨d,e1,w⟩:=ck r p;split at e1<;>cases e1;rename_i e1;obtain⟨x,e2,e3⟩:=hE i d e1;exact⟨x,e2,w x e3⟩
 exact⟨q,cL q λ_=>rfl⟩
theorem Hg:bV Φ (.cst d):=by
 intro Γ k X cl EX e c h;apply nj h;intro cc j pos h;have q:PE X (.Constant cc j pos) (tV Φ (bd X cl) EX (.cst d)):=by
  unfold z9 at h;split at h<;>first|cases h|skip
  ·refine E1.imp λσ H Q aE=>?_;obtain⟨ρ,env,h,hE,r,p⟩:=aE;simp only[aH]at p;exact ai r p _ VR.non
  ·cases eq_of_beq h;refine JW.imp λσ H Q aE=>?_;obtain⟨ρ,env,h,hE,r,p⟩:=aE;simp only[aH]at p;exact ai r p _ VR.bl
  ·cases eq_of_beq h;refine EZ.imp λσ H Q aE=>?_;obtain⟨ρ,env,h,hE,r,p⟩:=aE;simp only[aH]at p;exact ai r p _ VR.int
  ·cases eq_of_beq h;refine E2.imp λσ H Q aE=>?_;obtain⟨ρ,env,h,hE,r,p⟩:=aE;simp only[aH]at p;exact ai r p _ VR.str
 exact⟨q,cL q λ_=>rfl⟩
theorem yg(h:uI a b=true):a=b:=by
 unfold uI at h;split at h<;>first|rfl|(cases eq_of_beq h;rfl)|cases h
theorem Hh:bV Φ (.con x d):=by
 intro Γ k X cl EX e c h;apply cX h;intro y pos h;simp only[and_eq_true,beq_iff_eq]at h;obtain⟨⟨h1,h2⟩,h3⟩:=h;subst h1;obtain⟨g1,g2,g3⟩:=c.gl h2;obtain⟨p,hp,h4⟩:=List.any_eq_true.mp h3;simp only[and_eq_true,beq_iff_eq]at h4;obtain⟨v,u,m1,m2,m3⟩:=c.cons p hp;rw[h4.1]at m1;have q:PE X (.Name x pos) (tV Φ (bd X cl) EX (.con x d)):=by refine(BS g1 m1 m2 g2).imp λσ H Q aE=>?_;obtain⟨ρ,env,h,hE,r,p⟩:=aE;simp only[aH]at p;exact ai r p _ (by rw[<-yg h4.2];exact m3 _ _ _)
 exact⟨q,cL q λ_=>rfl⟩
theorem Li:bV Φ .no:=by
 intro Γ k X cl EX e c h
 (conv at h=>lhs;whnf);cases h
theorem Ac:jr Φ .nil:=by
 refine⟨fun Γ k X cl EX es c h=>?_,trivial⟩;rw[aR]at h;cases es with
 |cons a r=>cases h
 |nil=>refine qd.imp λσ H Q aE=>?_;obtain⟨ρ,env,h,hE,r,p⟩:=aE;simp only[bg]at p;exact ai r p _ au.nil
theorem vW(h1:bV Φ e)(h2:jr Φ es):jr Φ (.cons e es):=by
 refine⟨fun Γ k X cl EX ls c h=>?_,h1,?_⟩
 ·rw[aR.eq_def]at h;dsimp only at h
  cases ls with
  |nil=>cases h
  |cons l ls=>simp only[and_eq_true]at h;refine(jh (h1 Γ k X cl EX l c h.1.2).1 (h2.1 Γ k X cl EX ls c h.2) (bh h.1.1)).imp λσ H Q aE=>?_;obtain⟨ρ,env,h,hE,r,p⟩:=aE;simp only[bg]at p;refine⟨ρ,env,h,hE,r,az p λv h1 ρ1 x H1 g1 r1 q1 p1=>⟨ρ1,env,h1,hE.up g1,r1,bz p1 λvs h2 ρ2 H2 g2 r2 p2 xs q2=>?_⟩⟩;exact ai r2 p2 _ (au.cons (VR.up g2 _ _ q1) q2)
 ·cases es with
  |nil=>trivial
  |cons e' r=>exact h2.2.1
theorem Hi(ha:bV Φ a)(hb:bV Φ b):bV Φ (.bin o a b):=by
 intro Γ k X cl EX e c h;apply GC h;intro l op r pos h;simp only[and_eq_true]at h;obtain⟨⟨h1,h2⟩,h3⟩:=h;have eo:op=zP o:=CL h1;subst eo;have q:PE X (.BinOp l (zP o) r pos) (tV Φ (bd X cl) EX (.bin o a b)):=by refine(Ke (Gm (cl:=cl) (EX:=EX) o) (ha Γ k X cl EX l c h2).1 (hb Γ k X cl EX r c h3).1).imp λσ H Q aE=>?_;obtain⟨ρ,env,h,hE,r,p⟩:=aE;simp only[aH]at p;exact⟨ρ,env,h,hE,r,az p λv h1 ρ1 x H1 g1 r1 q1 p1=>⟨ρ1,env,h1,hE.up g1,r1,az p1 λw h2 ρ2 y H2 g2 r2 q2 p2=>⟨ρ2,h2,v,w,r2,VR.up g2 _ _ q1,q2,p2⟩⟩⟩
 exact⟨q,cL q λ_=>rfl⟩
theorem Hj(ha:bV Φ a):bV Φ (.neg a):=gY λ_ _=>rfl
theorem Hl(ha:bV Φ a)(hb:bV Φ b):bV Φ (.cmp o a b):=by
 intro Γ k X cl EX e c h;apply GD h;intro l q1 q2 pos h;apply jq h;intro op h;apply jq h;intro r h;simp only[and_eq_true,not_eq_true']at h;obtain⟨⟨⟨h1,h4⟩,h2⟩,h3⟩:=h;have eo:op=vI o:=CM h1;subst eo;refine⟨(B6 (zT (cl:=cl) c.units o) (ha Γ k X cl EX l c h2).1 (hb Γ k X cl EX r c h3).1 h4).imp λσ H Q ⟨ρ,env,h,hE,r,p⟩=>?_,(B7 (zT (cl:=cl) c.units o) (ha Γ k X cl EX l c h2).1 (hb Γ k X cl EX r c h3).1 h4).imp λσ H Q ⟨ρ,env,h,hE,r,p⟩=>?_⟩
 ·simp only[aH]at p;refine⟨ρ,env,h,hE,r,az p λv h1 ρ1 x H1 g1 r1 q1 p1=>⟨ρ1,env,h1,hE.up g1,r1,az p1 λw h2 ρ2 y H2 g2 r2 q2 p2=>?_⟩⟩;obtain⟨t,e,p3⟩:=ay p2;exact⟨ρ2,h2,v,w,t,r2,VR.up g2 _ _ q1,q2,e,ai r2 p3 _ VR.bl⟩
 ·simp only[JJ,aH,aV,cK]at p;refine⟨ρ,env,h,hE,r,az p λv h1 ρ1 x H1 g1 r1 q1 p1=>⟨ρ1,env,h1,hE.up g1,r1,az p1 λw h2 ρ2 y H2 g2 r2 q2 p2=>?_⟩⟩;obtain⟨t,e,p3⟩:=ay p2;obtain⟨t',e',w'⟩:=cQ r2 p3;cases (show some t=some t' from e');exact⟨ρ2,h2,v,w,t,r2,VR.up g2 _ _ q1,q2,e,t,rfl,w'⟩
theorem Ho(ha:bV Φ a)(hb:bV Φ b)(hd:bV Φ d):bV Φ (.chn o o' a b d):=gY λ_ _=>rfl
end
section
variable {B:Bd} {EX:Nat->List V->Hp->Prop} {ρ:List Addr} {H:Hp} {β:Type} {W:β -> Hs->List Addr->Hp->Prop} {h:Hs}
theorem post_bool(p:Post B EX ρ H W (bnd (m5 v) f h)):∃t,v=.bl t/\Post B EX ρ H W (f t h):=by
 cases v with
 |bl t=>exact⟨t,rfl,p⟩
 |_=>exact p.elim
theorem kZ(p:Post B EX ρ H W (bnd m F h))(k:∀v h1,Post B EX ρ H W (F v h1)->∃t,cI h1 v=some t/\∀ρ1 H1,Gr ρ H ρ1 H1->HR B ρ1 h1 H1->Q t H1) :
  Post B EX ρ H (WT Q) (bnd m (λx=>ask λh=>cI h x) h):=by
 unfold bnd at p |-;cases e:m h with
 |ok v h1=>
  rw[e]at p;obtain⟨t,e1,q⟩:=k v h1 p;show Post B EX ρ H (WT Q) (ask (λh=>cI h v) h1);have e2:ask (λh=>cI h v) h1=.ok t h1:=by unfold ask aS;dsimp only;rw[e1]
  rw[e2];exact λρ1 H1 g r=>q ρ1 H1 g r
 |exc c vs h1=>rw[e]at p;exact p
 |no=>rw[e]at p;exact p
end
section
variable {Φ:Fn} {Γ:mw} {k:Nat} {X:Cx} {cl:Nat->Addr} {EX:Nat->List V->Hp->Prop}
theorem Hq(ha:bV Φ a)(hb:bV Φ b):bV Φ (.and a b):=by
 intro Γ k X cl EX e c h;apply o9 h;intro q1 q2 pos h;apply vQ h;intro h;apply uH h;intro l q3 h;apply uH h;intro m r h;simp only[and_eq_true]at h;obtain⟨h1,h2⟩:=h;have hB:PE X (.BoolOp .And (m::r) pos) (tV Φ (bd X cl) EX b)/\PW X (.BoolOp .And (m::r) pos) (tT Φ (bd X cl) EX b):=by
  cases r with
  |nil=>exact⟨yV (hb Γ k X cl EX m c h2).1,BV (hb Γ k X cl EX m c h2).2⟩
  |cons n r'=>exact⟨(hb Γ k X cl EX _ c h2).1,Er (hb Γ k X cl EX _ c h2).2⟩
 refine⟨(E7 (ha Γ k X cl EX l c h1).1 hB.1).imp λσ H Q ⟨ρ,env,h,hE,r,p⟩=>?_,(E5 (ha Γ k X cl EX l c h1).2 hB.2).pt.imp λσ H Q ⟨ρ,env,h,hE,r,p⟩=>?_⟩
 ·simp only[aH]at p
  refine⟨ρ,env,h,hE,r,az p λv h1 ρ1 x H1 g1 r1 q1 p1=>?_⟩;obtain⟨t,rfl,p2⟩:=post_bool p1;rw[VR]at q1;refine⟨t,q1,?_⟩;cases t with
  |true=>rw[S7 rfl]at p2 |-;refine⟨ρ1,env,h1,hE.up g1,r1,az p2 λw h2 ρ2 y H2 g2 r2 q2 p3=>?_⟩;obtain⟨u,rfl,p4⟩:=post_bool p3;exact ai r2 p4 _ q2
  |false=>rw[S8 SV]at p2 |-;exact ai r1 p2 _ VR.bl
 ·simp only[JJ,aH,aV]at p
  refine⟨ρ,env,h,hE,r,kZ p λv h1 p1=>?_⟩;obtain⟨t,rfl,p2⟩:=post_bool p1;refine⟨t,rfl,λρ1 H1 g1 r1=>?_⟩;have p2:=Post.up g1 p2;cases t with
  |true=>rw[S7 rfl]at p2 |-;simp only[aV,cK]at p2;refine⟨ρ1,env,h1,hE.up g1,r1,kZ p2 λw h2 p3=>?_⟩;obtain⟨u,rfl,p4⟩:=post_bool p3;exact⟨u,rfl,λρ2 H2 g2 r2=>by obtain⟨t',e',w'⟩:=cQ r2 (Post.up g2 p4);cases (show some u=some t' from e');exact w'⟩
  |false=>rw[S8 SV]at p2 |-;obtain⟨t',e',w'⟩:=cQ r1 (show Post _ _ ρ1 H1 _ (ask (λh=>cI h (.bl false)) h1) from p2);cases (show some false=some t' from e');exact w'
theorem Lj(ha:bV Φ a)(hb:bV Φ b):bV Φ (.or a b):=by
 intro Γ k X cl EX e c h;apply o9 h;intro q1 q2 pos h;apply vQ h;intro h;apply uH h;intro l q3 h;apply uH h;intro m r h;simp only[and_eq_true]at h;obtain⟨h1,h2⟩:=h;have hB:PE X (.BoolOp .Or (m::r) pos) (tV Φ (bd X cl) EX b)/\PW X (.BoolOp .Or (m::r) pos) (tT Φ (bd X cl) EX b):=by
  cases r with
  |nil=>exact⟨yV (hb Γ k X cl EX m c h2).1,E4 (hb Γ k X cl EX m c h2).2⟩
  |cons n r'=>exact⟨(hb Γ k X cl EX _ c h2).1,Er (hb Γ k X cl EX _ c h2).2⟩
 refine⟨(J0 (ha Γ k X cl EX l c h1).1 hB.1).imp λσ H Q ⟨ρ,env,h,hE,r,p⟩=>?_,(JX (ha Γ k X cl EX l c h1).2 hB.2).pt.imp λσ H Q ⟨ρ,env,h,hE,r,p⟩=>?_⟩
 ·simp only[aH]at p
  refine⟨ρ,env,h,hE,r,az p λv h1 ρ1 x H1 g1 r1 q1 p1=>?_⟩;obtain⟨t,rfl,p2⟩:=post_bool p1;rw[VR]at q1;refine⟨t,q1,?_⟩;cases t with
  |false=>rw[S8 SV]at p2 |-;refine⟨ρ1,env,h1,hE.up g1,r1,az p2 λw h2 ρ2 y H2 g2 r2 q2 p3=>?_⟩;obtain⟨u,rfl,p4⟩:=post_bool p3;exact ai r2 p4 _ q2
  |true=>rw[S7 rfl]at p2 |-;exact ai r1 p2 _ VR.bl
 ·simp only[JJ,aH,aV]at p
  refine⟨ρ,env,h,hE,r,kZ p λv h1 p1=>?_⟩;obtain⟨t,rfl,p2⟩:=post_bool p1;refine⟨t,rfl,λρ1 H1 g1 r1=>?_⟩;have p2:=Post.up g1 p2;cases t with
  |false=>rw[S8 SV]at p2 |-;simp only[aV,cK]at p2;refine⟨ρ1,env,h1,hE.up g1,r1,kZ p2 λw h2 p3=>?_⟩;obtain⟨u,rfl,p4⟩:=post_bool p3;exact⟨u,rfl,λρ2 H2 g2 r2=>by obtain⟨t',e',w'⟩:=cQ r2 (Post.up g2 p4);cases (show some u=some t' from e');exact w'⟩
  |true=>rw[S7 rfl]at p2 |-;obtain⟨t',e',w'⟩:=cQ r1 (show Post _ _ ρ1 H1 _ (ask (λh=>cI h (.bl true)) h1) from p2);cases (show some true=some t' from e');exact w'
theorem Hr(ha:bV Φ a):bV Φ (.not a):=by
 intro Γ k X cl EX e c h;apply K1 h;intro q1 l pos h;apply vQ h;intro h;refine⟨(E8 (ha Γ k X cl EX l c h).1).imp λσ H Q ⟨ρ,env,h,hE,r,p⟩=>?_,(E6 (ha Γ k X cl EX l c h).2).imp λσ H Q ⟨ρ,env,h,hE,r,p⟩=>?_⟩
 ·simp only[aH]at p;refine⟨ρ,env,h,hE,r,az p λv h1 ρ1 x H1 g1 r1 q1 p1=>?_⟩;obtain⟨t,rfl,p2⟩:=post_bool p1;rw[VR]at q1;exact⟨t,q1,ai r1 p2 _ VR.bl⟩
 ·simp only[JJ,aH,aV]at p;refine⟨ρ,env,h,hE,r,kZ p λv h1 p1=>?_⟩;obtain⟨t,rfl,p2⟩:=post_bool p1;refine⟨t,rfl,λρ1 H1 g1 r1=>?_⟩;obtain⟨t',e',w'⟩:=cQ r1 (show Post _ _ ρ1 H1 _ (ask (λh=>cI h (.bl (!t))) h1) from Post.up g1 p2);cases (show some (!t)=some t' from e');exact w'
theorem Ht(ht:bV Φ t)(ha:bV Φ a)(hb:bV Φ b):bV Φ (.ite t a b):=gY λ_ _=>rfl
theorem Hu(hs:jr Φ es):bV Φ (.tup es):=by
 intro Γ k X cl EX e c h;apply zV h;intro ls x1 pos h;have q:PE X (.Tuple ls x1 pos) (tV Φ (bd X cl) EX (.tup es)):=by refine(zf (hs.1 Γ k X cl EX ls c h)).imp λσ H Q aE=>?_;obtain⟨ρ,env,h,hE,r,p⟩:=aE;simp only[aH]at p;refine⟨ρ,env,h,hE,r,bz p λvs h1 ρ1 H1 g1 r1 p1 xs q1=>?_⟩;obtain⟨e1,p2⟩:=aM p1;exact⟨by rw[<-q1.length];exact Tj e1,λq hq=>m8 r1 hq q1 p2⟩
 exact⟨q,cL q λ_=>rfl⟩
theorem Hw(hs:jr Φ es):bV Φ (.lst es):=by
 intro Γ k X cl EX e c h;apply GG h;intro ls pos h;have q:PE X (.List ls pos) (tV Φ (bd X cl) EX (.lst es)):=by refine(FE (hs.1 Γ k X cl EX ls c h)).imp λσ H Q aE=>?_;obtain⟨ρ,env,h,hE,r,p⟩:=aE;simp only[aH]at p;refine⟨ρ,env,h,hE,r,bz p λvs h1 ρ1 H1 g1 r1 p1 xs q1=>?_⟩;obtain⟨e1,p2⟩:=aM p1;exact⟨by rw[<-q1.length];exact Tj e1,λq hq=>cC r1 hq q1 p2⟩
 exact⟨q,cL q λ_=>rfl⟩
theorem CN:bV Φ .dct0:=by
 intro Γ k X cl EX e c h;apply vN h;intro q1 q2 pos h;apply gX h;intro h;apply gX h;intro h;have q:PE X (.Dict [] [] pos) (tV Φ (bd X cl) EX .dct0):=by refine(zp (X:=X) (pos:=pos)).imp λσ H Q aE=>?_;obtain⟨ρ,env,h,hE,r,p⟩:=aE;simp only[aH]at p;exact λa ha=>m7 (o:=.dct []) (O:=.dK []) r ha ⟨[],aC,(by rw[dX])⟩ p
 exact⟨q,cL q λ_=>rfl⟩
theorem Hx(ha:bV Φ a)(hb:bV Φ b):bV Φ (.idx a b):=by
 intro Γ k X cl EX e c h;apply nk h;intro l r pos h;simp only[and_eq_true]at h;have q:PE X (.Subscript l r pos) (tV Φ (bd X cl) EX (.idx a b)):=by refine(Kr (Gq (cl:=cl) c.units) (ha Γ k X cl EX l c h.1.2).1 (hb Γ k X cl EX r c h.2).1 (uK h.1.1)).imp λσ H Q aE=>?_;obtain⟨ρ,env,h,hE,r,p⟩:=aE;simp only[aH]at p;refine⟨ρ,env,h,hE,r,az p λv h1 ρ1 x H1 g1 r1 q1 p1=>⟨ρ1,env,h1,hE.up g1,r1,az p1 λw h2 ρ2 y H2 g2 r2 q2 p2=>?_⟩⟩;obtain⟨z,e,w'⟩:=cQ r2 p2;exact⟨ρ2,h2,v,w,z,r2,VR.up g2 _ _ q1,q2,e,w'⟩
 exact⟨q,cL q λ_=>rfl⟩
def Lk(Φ:Fn)(ir:IE)(env:Env):M (Option Int):=if cJ ir=true then ret none else bnd (aH Φ ir env) λv=>bnd (aS (fH v)) λi=>ret (some i)
def tP(Φ:Fn)(B:Bd)(EX:Nat->List V->Hp->Prop)(ir:IE):TO:=λσ H Q=>∃ρ env h,cD B.K ρ env σ H/\HR B ρ h H/\Post B EX ρ H (λo _ _ H'=>Q o H') (Lk Φ ir env h)
theorem yh{i:Int}(h:fH d=some i):d=.int i:=by cases d<;>cases h;rfl
theorem vX(hi:bV Φ ir)(c:Ctx Φ Γ k X cl EX)(h:(match o with|none=>cJ ir|some e=>!cJ ir&&bF Γ ir e)=true):PO X o (tP Φ (bd X cl) EX ir):=by
 cases o with
 |none=>refine Cc.imp λσ H Q aE=>?_;obtain⟨ρ,env,h',hE,r,p⟩:=aE;unfold Lk at p;rw[S7 h]at p;exact ai r p
 |some e=>simp only[and_eq_true,not_eq_true']at h;refine(Cd (hi Γ k X cl EX e c h.2).1).imp λσ H Q aE=>?_;obtain⟨ρ,env,h',hE,r,p⟩:=aE;unfold Lk at p;rw[S8 (by rw[h.1];exact SV)]at p;refine⟨ρ,env,h',hE,r,az p λv h1 ρ1 x H1 g1 r1 q1 p1=>?_⟩;obtain⟨i,e1,p2⟩:=bH p1;cases yh e1;rw[VR]at q1;exact⟨i,q1,ai r1 p2⟩
theorem Hy{a lo hi:IE}(ha:bV Φ a)(hl:bV Φ lo)(hh:bV Φ hi):bV Φ (.slc a lo hi):=by
 intro Γ k X cl EX e c h;apply nk h;intro l q1 pos h;apply GH h;intro l' h' q2 p2 h;apply vO h;intro h;simp only[and_eq_true]at h;have q:PE X (.Subscript l (.Slice l' h' none p2) pos) (tV Φ (bd X cl) EX (.slc a lo hi)):=by refine(zl (Gs (cl:=cl) (EX:=EX)) (ha Γ k X cl EX l c h.1.1).1 (vX hl c h.1.2) (vX hh c h.2)).imp λσ H Q aE=>?_;obtain⟨ρ,env,h,hE,r,p⟩:=aE;simp only[aH]at p;refine⟨ρ,env,h,hE,r,az p λv h1 ρ1 x H1 g1 r1 q1 p1=>⟨ρ1,env,h1,hE.up g1,r1,bz (m:=Lk Φ lo env) p1 λlo' h2 ρ2 H2 g2 r2 p3=>⟨ρ2,env,h2,(hE.up g1).up g2,r2,bz (m:=Lk Φ hi env) p3 λhi' h3 ρ3 H3 g3 r3 p4=>?_⟩⟩⟩;exact⟨ρ3,h3,v,r3,VR.up (g2.trans g3) _ _ q1,p4⟩
 exact⟨q,cL q λ_=>rfl⟩
theorem Hz(ha:bV Φ a)(hs:bV Φ sx):bV Φ (.rev a sx):=by
 intro Γ k X cl EX e c h;apply z8 h;intro x p q1 cc cp kp pos h;apply jq h;intro l h;simp only[and_eq_true,beq_iff_eq]at h;obtain⟨⟨⟨h1,h2⟩,h3⟩,h4⟩:=h;subst h1;have q:PE X (.Call (.Name "sorted" p) [l] [⟨some "reverse",.Constant (.bool true) cc cp,kp⟩] pos) (tV Φ (bd X cl) EX (.rev a sx)):=by refine(Gd (bh h3) (c.gl h2).1 (c.blt _ (by decide)) (by decide +kernel) (ha Γ k X cl EX l c h4).1).imp λσ H Q aE=>?_;obtain⟨ρ,env,h,hE,r,p⟩:=aE;simp only[aH]at p;refine⟨ρ,env,h,hE,r,az p λv h1 ρ1 x H1 g1 r1 q1 p1=>?_⟩;obtain⟨xs,e2,p2⟩:=ay p1;obtain⟨ad,ys,rfl,k1,k2⟩:=dN r1 q1 e2;obtain⟨ns,e3,p3⟩:=bH p2;obtain⟨e4,p4⟩:=aM p3;rw[cR e3]at k2;cases au.ints.mp k2;exact⟨ad,ns,rfl,k1,Tj e4,λl hl=>cC r1 hl (au.ints.mpr rfl) p4⟩
 exact⟨q,cL q λ_=>rfl⟩
theorem j9:∀{dB:jD} {ls:List Expr} {vs:List Val} {h h':Hs},aR Γ dB ls=true->bg Φ dB env h=.ok vs h'->vs.length=ls.length:=by
 intro dB
 induction dB using jD.rec (motive_1:=λ_=>True) with
 |nil=>
  intro ls ds h h' a b;rw[aR]at a;simp only[bg,ret]at b;cases b;cases ls with
  |nil=>rfl
  |cons _ _=>cases a
 |cons e es _ ih=>
  intro ls ds h h' a b;rw[aR.eq_def]at a;dsimp only at a;cases ls with
  |nil=>cases a
  |cons l ls=>
   simp only[and_eq_true]at a;simp only[bg,bnd]at b;cases e1:aH Φ e env h with
   |ok v h1=>
    rw[e1]at b;dsimp only at b;cases e2:bg Φ es env h1 with
    |ok vs h2=>rw[e2]at b;cases b;simp[ih a.2 e2]
    |exc _ _ _=>rw[e2]at b;cases b
    |no=>rw[e2]at b;cases b
   |exc _ _ _=>rw[e1]at b;cases b
   |no=>rw[e1]at b;cases b
 |_=>trivial
theorem fh{α β:Type}{W:β -> Hs->List Addr->Hp->Prop}{W':α -> Hs->List Addr->Hp->Prop}{m:M α}{f:α -> M β}(p:Post B EX ρ H W (bnd m f h))(k:∀v h1 ρ1 H1,m h=.ok v h1->Gr ρ H ρ1 H1->HR B ρ1 h1 H1->Post B EX ρ1 H1 W (f v h1)->W' v h1 ρ1 H1):Post B EX ρ H W' (m h):=by
 unfold bnd at p;cases e:m h with
 |ok v h1=>rw[e]at p;exact λρ1 H1 g r=>k v h1 ρ1 H1 e g r (Post.up g p)
 |exc c vs h1=>rw[e]at p;exact p
 |no=>rw[e]at p;exact p
theorem gZ{α:Type}{h:Hs}{W:α -> Hs->List Addr->Hp->Prop}{o:Out α}(n:∀c xs H,¬ EX c xs H)(p:Post B EX ρ H W o):Post B (λ_ _ _=>False) ρ H W o:=by
 cases o with
 |ok a h'=>exact p
 |exc c vs h'=>exact λρ' H' xs g r q=>n _ _ _ (p ρ' H' xs g r q)
 |no=>exact p
theorem vY{n c:Nat}{φ0:List Val->M Val}(r:HR B ρ h H)(hv:au B.K ρ H vs xs)(hl:vs.length=n)(p:Post B (λ_ _ _=>False) ρ H (WV B.K Q) (P1 c φ0 vs h))
  (nx:H x=none) (nd:H dx=none) (ne:dx≠x):uJ B (n+1) φ0 (.ref x::xs) (upd (upd H dx (.own x)) x (.ins (B.cl c) dx [])) (λv H2=>v=.non/\Q (.ref x) H2) E:=by
 have r1:HR B ρ h (upd H dx (.own x)):=r.side nd;have P8:(upd H dx (.own x)) x=none:=by rw[ak λz=>ne z.symm];exact nx
 have g:Gr ρ H (ρ ++ [x]) (upd (upd H dx (.own x)) x (.ins (B.cl c) dx [])):=(Gr.side nd).trans (Gr.new P8);have r2:HR B (ρ ++ [x]) (h++[.ins c []]) (upd (upd H dx (.own x)) x (.ins (B.cl c) dx [])):=r1.new P8 ⟨dx,[],aC,rfl⟩;have hx:(ρ ++ [x])[h.length]?=some x:=by rw[<-r.len];simp
 refine⟨ρ ++ [x],h++[.ins c []],.ref h.length::vs,by simp[hl],r2,au.cons (VR.ref hx) (au.up g _ _ hv),?_⟩;have p2:Post B (λ_ _ _=>False) (ρ ++ [x]) (upd (upd H dx (.own x)) x (.ins (B.cl c) dx [])) (WV B.K Q) (bnd (φ0 (.ref h.length::vs)) (λr=>match r with|.non=>ret (.ref h.length)|_=>aS none) (h++[.ins c []])):=Post.up g p;refine bz p2 λv h1 ρ1 H1 g1 r3 p3 y hy=>?_;cases v<;>first|exact p3.elim|skip
 rw[VR]at hy;exact⟨hy,ai r3 p3 _ (VR.ref (mq g1.pre hx))⟩
theorem CO{j:Nat}{k:Nat}(hs:jr Φ es)(c:Ctx Φ Γ k X cl EX)
  (h:(vU Γ.sc x && Γ.fns[j]?==some (x,args.length)&&decide (args.length<1000)&&aR Γ es args)=true):PE X (.Call (.Name x p) args [] pos) (tV Φ (bd X cl) EX (.call j es))/\PT X (.Call (.Name x p) args [] pos) (tT Φ (bd X cl) EX (.call j es)):=by
 simp only[and_eq_true,beq_iff_eq,decide_eq_true_eq]at h;obtain⟨⟨⟨h1,h2⟩,h3⟩,h4⟩:=h;obtain⟨g1,g2,g3⟩:=c.gl h1;have room:dH k X.A:=c.room.mono (Ue k);have q:PE X (.Call (.Name x p) args [] pos) (tV Φ (bd X cl) EX (.call j es)):=by
  rcases c.fns j x _ h2 with ⟨_,⟨f,fd,ps,f1,f2,f3,f4,f5⟩|⟨cc,f,fd,ps,φ0,f0,f1,f2,f3,f4,f5⟩⟩|⟨z,_⟩
  ·cases args with
   |nil=>
    cases es with
    |cons i dB=>rw[aR.eq_def]at h4;cases h4
    |nil=>refine(zh f5 room g1 f2 f3 f4 .nil vo g2).imp λσ H Q aE=>?_;obtain⟨ρ,env,h,hE,r,p⟩:=aE;simp only[aH,bg,cK]at p;exact⟨ρ,h,[],rfl,r,au.nil,gZ (h:=h) c.lV p⟩
   |cons l ls=>
    cases es with
    |nil=>rw[aR]at h4;cases h4
    |cons i dB=>have h5:=h4;rw[aR.eq_def]at h5;dsimp only at h5;simp only[and_eq_true]at h5;refine(B8 f5 room g1 f2 f3 f4 .nil vo (hs.1 Γ k X cl EX _ c h4) g2 (bh h5.1.1) (gv h5.2)).imp λσ H Q aE=>?_;obtain⟨ρ,env,h,hE,r,p⟩:=aE;simp only[aH]at p;refine⟨ρ,env,h,hE,r,fh p λvs h1 ρ1 H1 e1 g1 r1 p1 xs q1=>⟨ρ1,h1,vs,j9 h4 e1,r1,by rw[Uy];exact q1,gZ (h:=h1) c.lV p1⟩⟩
  ·cases args with
   |nil=>
    cases es with
    |cons i dB=>rw[aR.eq_def]at h4;cases h4
    |nil=>refine(zj f3 f5 c.room g1 f2 f4 .nil vo g2).imp λσ H Q aE=>?_;obtain⟨ρ,env,h,hE,r,p⟩:=aE;simp only[aH,bg,cK]at p;intro y dy ny OE OF;rw[f0]at p;exact vY (B:=bd X cl) r au.nil rfl (gZ (h:=h) c.lV p) ny OE OF
   |cons l ls=>
    cases es with
    |nil=>rw[aR]at h4;cases h4
    |cons i dB=>have h5:=h4;rw[aR.eq_def]at h5;dsimp only at h5;simp only[and_eq_true]at h5;refine(B9 f3 f5 c.room g1 f2 f4 .nil vo (hs.1 Γ k X cl EX _ c h4) g2 (bh h5.1.1) (gv h5.2)).imp λσ H Q aE=>?_;obtain⟨ρ,env,h,hE,r,p⟩:=aE;simp only[aH]at p;refine⟨ρ,env,h,hE,r,fh p λvs h1 ρ1 H1 e1 g1 r1 p1 xs q1 y dy ny OE OF=>?_⟩;rw[f0]at p1;rw[Uy];exact vY (B:=bd X cl) r1 q1 (j9 h4 e1) (gZ (h:=h1) c.lV p1) ny OE OF
  ·omega
 exact⟨q,cL q λ_=>rfl⟩
theorem CP{j:Nat}(hs:jr Φ es):bV Φ (.call j es):=by
 intro Γ k X cl EX e c h;apply lK h;intro x _ args _ h;exact CO hs c h
theorem HD{n:Nat}(ha:bV Φ a):bV Φ (.fld n a x):=gY λ_ _=>rfl
theorem HE(ha:bV Φ a)(hs:jr Φ es):bV Φ (.mth a m js es):=gY λ_ _=>rfl
end
section
variable {Φ:Fn} {Γ:mw} {k:Nat} {X:Cx} {cl:Nat->Addr} {EX:Nat->List V->Hp->Prop}
theorem HF:bootBuiltins "all" = some (.builtin "all"):=by decide +kernel
theorem HG:bootBuiltins "any" = some (.builtin "any"):=by decide +kernel
theorem pe:bootBuiltins "sorted" = some (.builtin "sorted"):=by decide +kernel
theorem HH:bootBuiltins "min" = some (.builtin "min"):=by decide +kernel
theorem HJ:bootBuiltins "max" = some (.builtin "max"):=by decide +kernel
theorem mC:bootBuiltins "list" = some (.type "list"):=by decide +kernel
theorem sH:bootBuiltins "tuple" = some (.type "tuple"):=by decide +kernel
theorem Ad:bootBuiltins "str" = some (.type "str"):=by decide +kernel
theorem Ae:bootBuiltins "int" = some (.type "int"):=by decide +kernel
theorem CQ:bootBuiltins "bool" = some (.type "bool"):=by decide +kernel
theorem vZ:bootBuiltins "dict" = some (.type "dict"):=by decide +kernel
theorem CS:bootBuiltins "isinstance" = some (.builtin "isinstance"):=by decide +kernel
theorem sI:bg Φ #[e] env=bnd (aH Φ e env) λd=>ret [d]:=by
 simp only[bg,cK]
theorem six{T:String}(h:["list","tuple","str","bool","int","dict"].contains T=true):T = "list" \/ T = "tuple" \/ T = "str" \/ T = "bool" \/ T = "int" \/ T = "dict":=by simpa using h
theorem CT{T:String}(h:["list","tuple","str","bool","int","dict"].contains T=true):(T:Str)∈bltNames/\bootBuiltins (T:Str)=some (.type T)/\(T:Str) ≠ "__name__" /\ ((T:Str)==("__debug__":Str))=false:=by
 rcases six h with rfl|rfl|rfl|rfl|rfl|rfl
 ·exact⟨by decide,mC,by decide,by decide⟩
 ·exact⟨by decide,sH,by decide,by decide⟩
 ·exact⟨by decide,Ad,by decide,by decide⟩
 ·exact⟨by decide,CQ,by decide,by decide⟩
 ·exact⟨by decide,Ae,by decide,by decide⟩
 ·exact⟨by decide,vZ,by decide,by decide⟩
theorem CU{T:String}(hs:jr Φ es):bV Φ (.blt (.isin T) es):=by
 intro Γ k X cl EX e c h;apply lK h;intro x p args pos h;simp only[and_eq_true,beq_iff_eq]at h;obtain⟨⟨h1,h2⟩,h3⟩:=h;subst h2;obtain⟨g1,g2,g3⟩:=c.gl h1;split at h3<;>first|cases h3|skip
 rename_i a y yp;simp only[and_eq_true,beq_iff_eq]at h3;obtain⟨⟨⟨k1,k2⟩,k3⟩,k4⟩:=h3;obtain⟨b1,b2,b3,b4⟩:=CT k3;obtain⟨y1,y2,y3⟩:=c.gl k1;subst k2;cases es with
 |nil=>rw[aR]at k4;cases k4
 |cons i dB=>
  rw[aR.eq_def]at k4;dsimp only at k4;simp only[and_eq_true]at k4;cases dB with
  |cons j dB=>have:=k4.2;rw[aR.eq_def]at this;cases this
  |nil=>
   have q:PE X (.Call (.Name (Lh (.isin T)) p) [a,.Name (T:Str) yp] [] pos) (tV Φ (bd X cl) EX (.blt (.isin T) #[i])):=by refine(fy (CG (cl:=cl) (EX:=EX) (T:=T)) g1 (c.blt _ (show ("isinstance":Str)∈bltNames by decide)) CS (jh (hs.2.1 Γ k X cl EX a c k4.1.2).1 (jh (BU (v:=.ty T) y1 (c.blt _ b1) b2 rfl b3 b4) qd) (bh k4.1.1)) g3 g2 (bh k4.1.1)).imp λσ H Q aE=>?_;obtain⟨ρ,env,h,hE,r,p⟩:=aE;simp only[aH,sI,aV,cK]at p;exact⟨ρ,env,h,hE,r,az p λv h1 ρ1 x H1 g1 r1 q1 p1=>⟨ρ1,h1,v,x,rfl,r1,q1,p1⟩⟩
   exact⟨q,cL q λ_=>rfl⟩
theorem CV(ha:bV Φ a):bV Φ (.sset a):=gY λ_ _=>rfl
theorem CW{d k x:IE}(hd:bV Φ d)(hk:bV Φ k)(hx:bV Φ x):bV Φ (.dget d k x):=by
 intro Γ n X cl EX e c h;apply vR h;intro o m ap q1 cp h;apply K6 h;intro a b h;simp only[and_eq_true,beq_iff_eq]at h;obtain⟨⟨⟨⟨⟨⟨⟨h1,h2⟩,h3⟩,h4⟩,h5⟩,h6⟩,h7⟩,h8⟩:=h;subst h1;have st:starEach [a,b] X.env=[(false,eval a X.env),(false,eval b X.env)]:=by rw[bh h3,bh h4];rfl
 have m2:M2 X o "get" ap a b cp:=⟨super_ok h2,by rw[st];rfl,by rw[h5];exact UD _,by rw[st];rfl⟩;have q:PE X (.Call (.Attribute o "get" ap) [a,b] [] cp) (tV Φ (bd X cl) EX (.dget d k x)):=by
  refine(zu (by have:=c.units;omega) (hd Γ n X cl EX o c h6).1 (hk Γ n X cl EX a c h7).1 (hx Γ n X cl EX b c h8).1 m2).imp λσ H Q aE=>?_;obtain⟨ρ,env,h,hE,r,p⟩:=aE;simp only[aH]at p;refine⟨ρ,env,h,hE,r,az p λv h1 ρ1 y H1 g1 r1 q1 p1=>?_⟩;obtain⟨u0,e1,pA⟩:=ay p1;clear p1;cases v<;>first|(cases e1;done)|(rw[VR]at q1;exact q1.elim)|skip
  rename_i i;rw[VR]at q1;obtain⟨ad,rfl,q1⟩:=q1;have hdc:∃kvs,h1[i]?=some (.dct kvs):=by
   change (match h1[i]? with|some (.dct _)=>some ()|_=>none)=some _ at e1;split at e1
   ·rename_i kvs e2;exact⟨kvs,e2⟩
   ·cases e1
  obtain⟨kvs,e2⟩:=hdc;obtain⟨ks,k1,k2⟩:=r1.ob i _ ad e2 q1;refine⟨ad,rfl,.inl ⟨ks,.inl k1⟩,ρ1,env,h1,hE.up g1,r1,az pA λw h2 ρ2 y2 H2 g2 r2 q2 p2=>?_⟩;obtain⟨kk,e3,p2⟩:=bH p2;refine⟨ρ2,env,h2,(hE.up g1).up g2,r2,az p2 λz h3 ρ3 y3 H3 g3 r3 q3 p3=>?_⟩;obtain⟨rr,e4,p3⟩:=ay p3;have q4:ρ3[i]?=some ad:=mq (g2.trans g3).pre q1;have Rq:∃kvs,h3[i]?=some (.dct kvs)/\rr=bN kvs kk:=by
   change (match h3[i]? with|some (.dct kvs)=>some (bN kvs kk)|_=>none)=some rr at e4;split at e4
   ·rename_i kvs e2;cases e4;exact⟨kvs,e2,rfl⟩
   ·cases e4
  obtain⟨OG,e5,rfl⟩:=Rq;obtain⟨Rr,k3,k4⟩:=r3.ob i _ ad e5 q4;have ek:y2=kV kk:=by
   cases w<;>first|(cases e3;done)|skip
   ·cases e3;rw[VR]at q2;exact q2
   ·cases e3;rw[VR]at q2;exact q2
  refine⟨eY Rr kk,by rw[ek];exact kO.k k3,?_⟩;cases ev:bN OG kk with
  |none=>rw[ev]at p3;rw[(dX.val kk k4).1 ev];exact ai r3 p3 _ q3
  |some z'=>obtain⟨t,e6,q6⟩:=(dX.val kk k4).2 z' ev;rw[ev]at p3;rw[e6];exact ai r3 p3 _ q6
 exact⟨q,cL q λ_=>rfl⟩
theorem v5{K:Frag}{ρ:List Addr}{H:Hp}:∀{kvs:List (Key×Val)} {ks:List (Key×V)},dX K ρ H kvs ks->au K ρ H ((kvs.map (·.1)).map zN) (ks.map λkv=>kV kv.1)
 |[],ks,q=>by rw[dX]at q;subst q;exact rfl
 | (k,v)::kvs,ks,q=>by
  rw[dX]at q;obtain⟨x,r,rfl,_,q⟩:=q;refine⟨kV k,_,rfl,?_,v5 q⟩;cases k with
  |inl i=>exact VR.int
  |inr s=>exact VR.str
theorem pq{jB:Unit}:∀(σ:L2.St) (H:Hp) (Q:VK),tV Φ (bd X cl) EX (.lkeys d) σ H Q->tLK (tV Φ (bd X cl) EX d) σ H Q:=λσ H Q ⟨ρ,env,h,hE,r,p⟩=>by
 simp only[aH]at p;refine⟨ρ,env,h,hE,r,az p λv h1 ρ1 y H1 g1 r1 q1 p1=>?_⟩;obtain⟨OH,e1,pA⟩:=ay p1;clear p1;cases v<;>first|(cases e1;done)|(rw[VR]at q1;exact q1.elim)|skip
 rename_i i;rw[VR]at q1;obtain⟨ad,rfl,q1⟩:=q1;have hdc:∃kvs,h1[i]?=some (.dct kvs)/\OH=kvs.map (·.1):=by
  change (match h1[i]? with|some (.dct kvs)=>some (kvs.map (·.1))|_=>none)=some _ at e1;split at e1
  ·rename_i kvs e2;cases e1;exact⟨kvs,e2,rfl⟩
  ·cases e1
 obtain⟨kvs,e2,rfl⟩:=hdc;obtain⟨ks,k1,k2⟩:=r1.ob i _ ad e2 q1;exact⟨ad,ks,rfl,k1,λl hl=>cC r1 hl (v5 k2) pA⟩
theorem Af(hd:bV Φ d):bV Φ (.lkeys d):=by
 intro Γ n X cl EX e c h
 rcases P4 h with h|h
 ·apply lK h;intro x p q1 pos h
  apply jq h;intro q2 h;apply vR h;intro o m ap q3 cp h;apply gX h;intro h;simp only[and_eq_true,beq_iff_eq]at h;obtain⟨⟨⟨⟨⟨h1,h2⟩,h3⟩,h4⟩,h5⟩,h6⟩:=h;subst h1;subst h2;have q:PE X (.Call (.Name "list" p) [.Call (.Attribute o "keys" ap) [] [] cp] [] pos) (tV Φ (bd X cl) EX (.lkeys d)):=by have qe:=(hd Γ n X cl EX o c h6).1;intro pins s σ H Q I hh;have hdl:X.A.handled=none:=I.ok.hd c.calm;exact((zI hdl (c.gl h3).1 (c.blt _ (by decide)) mC qe (super_ok h4) (by rw[h5];exact UD _)).imp (pq (jB:=()))) pins s σ H Q I hh
  exact⟨q,cL q λ_=>rfl⟩
 ·apply lK h;intro x p q1 pos h
  apply jq h;intro q2 h;apply cX h;intro y qp h;simp only[and_eq_true,beq_iff_eq]at h;obtain⟨⟨h1,h3⟩,h6⟩:=h;subst h1;have q:PE X (.Call (.Name "list" p) [.Name y qp] [] pos) (tV Φ (bd X cl) EX (.lkeys d)):=by have qe:=(hd Γ n X cl EX _ c h6).1;intro pins s σ H Q I hh;have hdl:X.A.handled=none:=I.ok.hd c.calm;exact((xY hdl (bh rfl) (c.gl h3).1 (c.blt _ (by decide)) mC qe).imp (pq (jB:=()))) pins s σ H Q I hh
  exact⟨q,cL q λ_=>rfl⟩
theorem CY{d k x:IE}(hd:bV Φ d)(hk:bV Φ k)(hx:bV Φ x):bV Φ (.sdef d k x):=gY λ_ _=>rfl
theorem qI{α β:Type}{f:α -> β}:∀{l:List α},(l.map f).Nodup->∀a∈l,∀b∈l,f a=f b->a=b
 | x::l,h,a,ha,b,hb,e=>by
  rw[S5,T5]at h
  rcases Td.mp ha with e1|ha2
  ·rcases Td.mp hb with e2|hb2
   ·rw[e1,e2]
   ·rw[e1]at e;exact(h.1 (e▸TJ hb2)).elim
  ·rcases Td.mp hb with e2|hb2
   ·rw[e2]at e;exact(h.1 (e▸TJ ha2)).elim
   ·exact qI h.2 a ha2 b hb2 e
theorem qJ{K:Frag}{ρ:List Addr}{H:Hp}:∀{kvs:List (Key×Val)} {ks:List (Key×V)},dX K ρ H kvs ks->ks.map (·.1)=kvs.map (·.1)
 |[],ks,q=>by rw[dX]at q;subst q;rfl
 | (k,v)::kvs,ks,q=>by
  rw[dX]at q;obtain⟨x,r,rfl,_,q⟩:=q;rw[S5,S5,qJ q]
theorem v7:∀{ks:List Key} {ns:List Int},o7 ks=some ns->ks=ns.map Sum.inl
 |[],ns,e=>by cases e;rfl
 | k::ks,ns,e=>by
  unfold o7 at e;rw[bf]at e;obtain⟨i,e1,e⟩:=SS.mp e;obtain⟨r,e2,e⟩:=SS.mp e;cases e;cases k with
  |inl j=>cases e1;rw[v7 e2];rfl
  |inr _=>cases e1
theorem yi{jB:Unit}:∀(σ:L2.St) (H:Hp) (Q:VK),tV Φ (bd X cl) EX (.skeys d) σ H Q->tSKR (tV Φ (bd X cl) EX d) σ H Q:=λσ H Q ⟨ρ,env,h,hE,r,p⟩=>by
 simp only[aH]at p;refine⟨ρ,env,h,hE,r,az p λv h1 ρ1 y H1 g1 r1 q1 p1=>?_⟩;obtain⟨SH,e1,pA⟩:=ay p1;clear p1;unfold kU at e1;obtain⟨OH,e5,e6⟩:=SS.mp e1;clear e1;obtain⟨ns,e3,e4⟩:=SS.mp e6;clear e6;have e1:=e5;clear e5;cases v<;>first|(cases e1;done)|(rw[VR]at q1;exact q1.elim)|skip
 rename_i i;rw[VR]at q1;obtain⟨ad,rfl,q1⟩:=q1;have hdc:∃kvs,h1[i]?=some (.dct kvs)/\OH=kvs.map (·.1):=by
  change (match h1[i]? with|some (.dct kvs)=>some (kvs.map (·.1))|_=>none)=some _ at e1;split at e1
  ·rename_i kvs e2;cases e1;exact⟨kvs,e2,rfl⟩
  ·cases e1
 obtain⟨kvs,e2,rfl⟩:=hdc;obtain⟨ks,k1,k2⟩:=r1.ob i _ ad e2 q1
 by_cases hl:ns.length<64
 ·rw[S7 hl]at e4;cases e4;exact⟨ad,ks,ns,rfl,k1,(qJ k2).trans (v7 e3),hl,λl hl=>cC r1 hl (au.ints.mpr rfl) pA⟩
 ·rw[S8 hl]at e4;cases e4
theorem Ag(hd:bV Φ d):bV Φ (.skeys d):=by
 intro Γ n X cl EX e c h;apply z8 h;intro x p q1 cc kcp kp pos h;apply jq h;intro q2 h;apply vR h;intro o m ap q3 cp h;apply gX h;intro h;simp only[and_eq_true,beq_iff_eq]at h;obtain⟨⟨⟨⟨⟨h1,h2⟩,h3⟩,h4⟩,h5⟩,h6⟩:=h;subst h1;subst h2;have q:PE X (.Call (.Name "sorted" p) [.Call (.Attribute o "keys" ap) [] [] cp] [⟨some "reverse",.Constant (.bool true) cc kcp,kp⟩] pos) (tV Φ (bd X cl) EX (.skeys d)):=by have qe:=(hd Γ n X cl EX o c h6).1;intro pins s σ H Q I hh;have hdl:X.A.handled=none:=I.ok.hd c.calm;exact((Ge hdl (c.gl h3).1 (c.blt _ (by decide)) pe qe (super_ok h4) (by rw[h5];exact UD _)).imp (yi (jB:=()))) pins s σ H Q I hh
 exact⟨q,cL q λ_=>rfl⟩
theorem Ah(hd:bV Φ d):bV Φ (.svals d):=gY λ_ _=>rfl
theorem HK(hs:jr Φ es):bV Φ (.blt b es):=by
 cases b with
 |isin T=>exact CU hs
 |_=>
  intro Γ k X cl EX e c h;apply lK h;intro x p args pos h;simp only[and_eq_true,beq_iff_eq]at h;obtain⟨⟨h1,h2⟩,h3⟩:=h;subst h2;obtain⟨g1,g2,g3⟩:=c.gl h1;cases args with
  |nil=>cases h3.1
  |cons l ls=>
   cases es with
   |nil=>have:=h3.2;rw[aR]at this;cases this
   |cons i dB=>
    have h5:=h3.2;rw[aR.eq_def]at h5;dsimp only at h5;simp only[and_eq_true]at h5;have hA:=hs.1 Γ k X cl EX _ c h3.2;have st:=bh (env:=X.env) (es:=ls) h5.1.1;have an:=gv (pos:=pos) (env:=X.env) h5.2;refine(λq=>⟨q,cL q λ_=>rfl⟩) ?_
    first
     |refine(fy (Gu (cl:=cl) (EX:=EX)) g1 (c.blt _ (by decide)) PySem.boot_len hA g3 g2 st an).imp λσ H Q ⟨ρ,env,h,hE,r,p⟩=>?_
     |refine(fy (Gv (cl:=cl) (EX:=EX) c.calm) g1 (c.blt _ (by decide)) HH hA g3 g2 st an).imp λσ H Q ⟨ρ,env,h,hE,r,p⟩=>?_
     |refine(fy (Gx (cl:=cl) (EX:=EX) c.calm) g1 (c.blt _ (by decide)) HJ hA g3 g2 st an).imp λσ H Q ⟨ρ,env,h,hE,r,p⟩=>?_
     |refine(fy (yb (cl:=cl) (EX:=EX)) g1 (c.blt _ (by decide)) pe hA g3 g2 st an).imp λσ H Q ⟨ρ,env,h,hE,r,p⟩=>?_
     |refine(fy (GA (cl:=cl) (EX:=EX) c.calm) g1 (c.blt _ (by decide)) HF hA g3 g2 st an).imp λσ H Q ⟨ρ,env,h,hE,r,p⟩=>?_
     |refine(fy (GB (cl:=cl) (EX:=EX) c.calm) g1 (c.blt _ (by decide)) HG hA g3 g2 st an).imp λσ H Q ⟨ρ,env,h,hE,r,p⟩=>?_
     |refine(gq (CD (cl:=cl) (EX:=EX)) g1 (c.blt _ (by decide)) mC hA g3 g2 st an).imp λσ H Q ⟨ρ,env,h,hE,r,p⟩=>?_
     |refine(gq (zU (cl:=cl) (EX:=EX)) g1 (c.blt _ (by decide)) sH hA g3 g2 st an).imp λσ H Q ⟨ρ,env,h,hE,r,p⟩=>?_
     |refine(gq (Gy (cl:=cl) (EX:=EX)) g1 (c.blt _ (by decide)) Ad hA g3 g2 st an).imp λσ H Q ⟨ρ,env,h,hE,r,p⟩=>?_
     |refine(gq (Gz (cl:=cl) (EX:=EX)) g1 (c.blt _ (by decide)) Ae hA g3 g2 st an).imp λσ H Q ⟨ρ,env,h,hE,r,p⟩=>?_
    simp only[aH]at p;exact⟨ρ,env,h,hE,r,bz p λvs h1 ρ1 H1 g1 r1 p1 xs q1=>⟨ρ1,h1,vs,r1,q1,p1⟩⟩
def P9:Me->String
 |.join=>"str" | .append=>"list" | .extend=>"list" | .remove=>"list"
theorem CZ(r:HR B ρ h H)(q:VR B.K ρ H v x)(e:recv h m v=some ()):N7 B.K (P9 m) x H:=by
 cases m<;>cases v<;>simp only[recv]at e<;>first|cases e|skip
 ·rw[VR]at q;subst q;rfl
 all_goals
  split at e
  ·rename_i xs e1;obtain⟨a,ys,rfl,q0,q1,q2⟩:=jk r q e1;exact .inl ⟨rfl,ys,.inl (.inl q1)⟩
  ·cases e
theorem HL(ha:bV Φ a)(hs:jr Φ es):bV Φ (.met m a es):=by
 intro Γ k X cl EX e c h;apply vR h;intro o x ap args cp h;simp only[and_eq_true,beq_iff_eq]at h;obtain⟨⟨⟨⟨⟨⟨h1,h2⟩,h3⟩,h4⟩,h5⟩,h6⟩,h7⟩:=h;subst h1;cases args with
 |nil=>cases h3
 |cons l ls=>
  have hA:=hs.1 Γ k X cl EX _ c h7;have h8:noStar l=true/\∃dB,aR Γ dB ls=true:=by
   cases es with
   |nil=>rw[aR]at h7;cases h7
   |cons i dB=>rw[aR.eq_def]at h7;dsimp only at h7;simp only[and_eq_true]at h7;exact⟨h7.1.1,dB,h7.2⟩
  obtain⟨n1,dB,n2⟩:=h8;have st:=bh (env:=X.env) (es:=ls) n1;have an:=gv (pos:=cp) (env:=X.env) n2;have few:((backTo cp (starEach (l::ls) X.env)).all (λx=>!x.1)&&(backToKw cp (keywordEach [] X.env)).all (λx=>x.1.isSome)
   && decide ((l::ls).length+([]:List Keyword).length+(if ([]:List Keyword).isEmpty then 0 else 1)<30))=true:=by
   rw[Ab h7];have:(l::ls).length<29:=Tj h4;simp only[Bool.true_and,and_eq_true];exact⟨rfl,decide_eq_true (by simp at this |-;omega)⟩
  have hl:(ap.endLine==cp.line)=true:=by rw[h5];exact UD _
  refine(λq=>⟨q,cL q λ_=>rfl⟩) ?_;have fin:∀(T:String) (r:V->List V->Hp->VK->Prop),(∀x xs H Q,KZ (bd X cl) EX m x xs H Q->r x xs H Q)->T=P9 m->∀σ H Q,tV Φ (bd X cl) EX (.met m a es) σ H Q->PD X.K T r (tV Φ (bd X cl) EX a) (P7 Φ (bd X cl) EX es) σ H Q:=by rintro T rr hr rfl σ H Q ⟨ρ,env,h,hE,r,p⟩;simp only[aH]at p;refine⟨ρ,env,h,hE,r,az p λv h1 ρ1 x H1 g1 r1 q1 p1=>?_⟩;obtain⟨_,e1,p2⟩:=ay p1;refine⟨CZ r1 q1 e1,ρ1,env,h1,hE.up g1,r1,bz p2 λvs h2 ρ2 H2 g2 r2 p3 xs q2=>hr _ _ _ _ ⟨ρ2,h2,v,vs,r2,VR.up g2 _ _ q1,q2,p3⟩⟩
  cases m with
  |join=>exact(vm PySem.F.plainAttrs_str PySem.F.slot_str_join PySem.F.type_str_join (CH (cl:=cl) (EX:=EX)) (ha Γ k X cl EX o c h6).1 hA (super_ok h2) few hl st an).imp (fin _ _ (λ_ _ _ _ z=>z) rfl)
  |append=>exact(vm UP PySem.F.slot_list_append PySem.F.type_list_append (yc (cl:=cl) (EX:=EX)) (ha Γ k X cl EX o c h6).1 hA (super_ok h2) few hl st an).imp (fin _ _ (λ_ _ _ _ z=>z) rfl)
  |extend=>exact(vm UP PySem.F.slot_list_extend PySem.F.type_list_extend (yd (cl:=cl) (EX:=EX)) (ha Γ k X cl EX o c h6).1 hA (super_ok h2) few hl st an).imp (fin _ _ (λ_ _ _ _ z=>z) rfl)
  |remove=>exact(vm UP PySem.F.slot_list_remove PySem.F.type_list_remove (ye (cl:=cl) (EX:=EX)) (ha Γ k X cl EX o c h6).1 hA (super_ok h2) few hl st an).imp (fin _ _ (λ_ _ _ _ z=>z) rfl)
end
theorem _root_.L2.PI.or(h:PI X tg iter t)(h':PI X tg iter t'):PI X tg iter (λσ H R=>t σ H R\/t' σ H R):=λpins s σ H R I hw=>hw.elim (h pins s σ H R I) (h' pins s σ H R I)
structure Walks (B:Bd) (src:Src) (J:It) (ρ1:List Addr) (H1:Hp):Prop where
 stop:∀{ρ h H i xs},Gw ρ1 H1 ρ H->HR B ρ h H->src.items h=some xs->xs.length<=i->J.stop i H
 go:∀{ρ h H i xs v},Gw ρ1 H1 ρ H->HR B ρ h H->src.items h=some xs->xs[i]?=some v->J.go i H
 ua:∀{ρ h H i xs v y H'},Gw ρ1 H1 ρ H->HR B ρ h H->src.items h=some xs->xs[i]?=some v->J.ua i H y H'->Gr ρ H ρ H'/\HR B ρ h H'/\VR B.K ρ H' v y
section
variable {B:Bd} {ρ1:List Addr} {H1:Hp} {a:Addr}
theorem yj(q:gS B.K H1 a xs)(e:au B.K ρ1 H1 vs xs):Walks B (.fix vs) (NR B.K a) ρ1 H1 where
 stop:=λg r hi hl=>by
  cases hi;exact⟨xs,g.Nm q,by rw[<-e.length];exact hl⟩
 go:=λg r hi hv=>by
  cases hi;obtain⟨x,k1,_⟩:=e.get hv;exact⟨xs,x,g.Nm q,k1⟩
 ua:=λg r hi hv y=>by
  cases hi;obtain⟨rfl,y⟩:=y;obtain⟨x,k1,k2⟩:=e.get hv;have:=y xs (g.Nm q);rw[k1]at this;cases this;exact⟨Gr.refl,r,VR.jx g _ _ k2⟩
theorem Ai(q:Ej B.K H1 a xs)(e:au B.K ρ1 H1 vs xs):Walks B (.fix vs) (Nd B.K a) ρ1 H1 where
 stop:=λg r hi hl=>by
  cases hi;exact⟨xs,(g.Gk q).sq,by rw[<-e.length];exact hl⟩
 go:=λg r hi hv=>by
  cases hi;obtain⟨x,k1,_⟩:=e.get hv;exact⟨xs,x,(g.Gk q).sq,k1⟩
 ua:=λg r hi hv y=>by
  cases hi;obtain⟨rfl,y⟩:=y;obtain⟨x,k1,k2⟩:=e.get hv;have:=y xs (g.Gk q).sq;rw[k1]at this;cases this;exact⟨Gr.refl,r,VR.jx g _ _ k2⟩
theorem jl{i:Nat}(q:ρ1[i]?=some a)(g:Gw ρ1 H1 ρ H)(r:HR B ρ h H)(hi:(Src.live i).items h=some xs):∃ys,fu B.K H a ys/\au B.K ρ H xs ys:=by
 obtain⟨b,ys,e,k1,k2⟩:=dN r (VR.ref (mq g.pre q)) (show aA h (.ref i)=some xs from hi);cases e;exact⟨ys,k1,k2⟩
theorem uL{i:Nat}(q:ρ1[i]?=some a):Walks B (.live i) (Nd B.K a) ρ1 H1 where
 stop:=λg r hi hl=>by
  obtain⟨ys,k1,k2⟩:=jl q g r hi;exact⟨ys,k1,by rw[<-k2.length];exact hl⟩
 go:=λg r hi hv=>by
  obtain⟨ys,k1,k2⟩:=jl q g r hi;obtain⟨x,k3,_⟩:=k2.get hv;exact⟨ys,x,k1,k3⟩
 ua:=λg r hi hv y=>by
  obtain⟨ys,k1,k2⟩:=jl q g r hi;obtain⟨rfl,y⟩:=y;obtain⟨x,k3,k4⟩:=k2.get hv;have:=y ys k1;rw[k3]at this;cases this;exact⟨Gr.refl,r,k4⟩
theorem gh(lo:Int)(n:Nat):(bY lo n).length=n:=by unfold bY;simp
theorem lM{lo:Int}{n:Nat}:Walks B (.fix (bY lo n)) (J9 lo n) ρ1 H1 where
 stop:=λg r hi hl=>by
  cases hi;rw[gh]at hl;exact hl
 go:=λg r hi hv=>by
  cases hi;have:=(SW.mp hv).1;rw[gh]at this;exact this
 ua:=λ{ρ h H i xs v y H'} g r hi hv y'=>by
  cases hi;obtain⟨rfl,rfl⟩:=y';have hl:=(SW.mp hv).1;rw[gh]at hl;have e:(bY lo n)[i]?=some (.int (lo+i)):=by unfold bY;simp[hl]
  rw[e]at hv;cases hv;exact⟨Gr.refl,r,VR.int⟩
theorem eZ:∀(i:Nat) (ds:List Val),(bW i ds).length=ds.length
 |_,[]=>rfl
 |i,d::r=>by simp[bW,eZ (i+1) r]
theorem pB:∀(k:Nat) (ds:List Val) (i:Nat) (d:Val),ds[i]?=some d->(bW k ds)[i]?=some (.tup [.int ((k+i:Nat):Int),d])
 |_,[],_,_,h=>by simp at h
 |k,e::r,0,d,h=>by simp at h;subst h;simp[bW]
 | k,e::r,i+1,d,h=>by
  have:=pB (k+1) r i d (by simpa using h);simp only[bW,List.getElem?_cons_succ];rw[this];have e1:k+1+i=k+(i+1):=by omega
  rw[e1]
theorem k7{i:Nat}(e:(bW 0 ds)[i]?=some v):∃d,ds[i]?=some d/\v=.tup [.int (i:Int),d]:=by
 have hl:=(SW.mp e).1;rw[eZ]at hl;have e1:=pB 0 ds i ds[i] (Tz hl);rw[e]at e1;cases e1;exact⟨ds[i],Tz hl,by rw[Nat.zero_add]⟩
theorem sJ{i:Nat}(r:HR B ρ h H)(k1:fu B.K H a ys)(k2:au B.K ρ H xs ys)(hv:(bW 0 xs)[i]?=some v)(hy:(KH B.K a).ua i H y H'):Gr ρ H ρ H'/\HR B ρ h H'/\VR B.K ρ H' v y:=by
 obtain⟨p,w,hn,rfl,rfl,hy⟩:=hy;obtain⟨d,e1,rfl⟩:=k7 hv;obtain⟨x,k3,k4⟩:=k2.get e1;have:=hy ys k1;rw[k3]at this;cases this;exact⟨Gr.side hn,r.side hn,VR.tup (gS.of aC) (au.cons VR.int (au.cons (VR.up (Gr.side hn) _ _ k4) au.nil))⟩
theorem sL(q:Ej B.K H1 a xs)(e:au B.K ρ1 H1 vs xs):Walks B (.fix (bW 0 vs)) (KH B.K a) ρ1 H1 where
 stop:=λg r hi hl=>by
  cases hi;rw[eZ]at hl;exact⟨xs,(g.Gk q).sq,by rw[<-e.length];exact hl⟩
 go:=λg r hi hv=>by
  cases hi;obtain⟨d,e1,_⟩:=k7 hv;obtain⟨x,k1,_⟩:=e.get e1;exact⟨xs,x,(g.Gk q).sq,k1⟩
 ua:=λg r hi hv y=>by
  cases hi;exact sJ r (g.Gk q).sq (au.jx g _ _ e) hv y
theorem sM{i:Nat}(q:ρ1[i]?=some a):Walks B (.enum i) (KH B.K a) ρ1 H1 where
 stop:=λg r hi hl=>by
  obtain⟨zs,e1,rfl⟩:=TF.mp hi;obtain⟨ys,k1,k2⟩:=jl q g r e1;rw[eZ]at hl;exact⟨ys,k1,by rw[<-k2.length];exact hl⟩
 go:=λg r hi hv=>by
  obtain⟨zs,e1,rfl⟩:=TF.mp hi;obtain⟨ys,k1,k2⟩:=jl q g r e1;obtain⟨d,e2,_⟩:=k7 hv;obtain⟨x,k3,_⟩:=k2.get e2;exact⟨ys,x,k1,k3⟩
 ua:=λg r hi hv y=>by
  obtain⟨zs,e1,rfl⟩:=TF.mp hi;obtain⟨ys,k1,k2⟩:=jl q g r e1;exact sJ r k1 k2 hv y
end
section
variable {Φ:Fn} {Γ:mw} {k:Nat} {X:Cx} {cl:Nat->Addr} {EX:Nat->List V->Hp->Prop}
def JL(Φ:Fn)(ik:Ik)(it:jD)(env:Env):M Src:=bnd (bg Φ it env) λits=>aS (srcOf ik its)
def tI(Φ:Fn)(B:Bd)(EX:Nat->List V->Hp->Prop)(ik:Ik)(it:jD):TI:=λσ H R=>∃ρ env h,cD B.K ρ env σ H/\HR B ρ h H /\
 Post B EX ρ H (λsrc h' ρ' H'=>(∃xs,src.items h'=some xs)/\∀J,Walks B src J ρ' H'->R J H') (JL Φ ik it env h)
theorem Es(hs:jr Φ it)(c:Ctx Φ Γ k X cl EX)(h:vV Γ ik it iter=true)(ht:ik=.enum\/ik=.zip->∃es kk pos,tg=.Tuple es kk pos):PI X tg iter (tI Φ (bd X cl) EX ik it)/\∀x,foldedSetIterable iter X.env x=pure x:=by
 cases it with
 |nil=>rw[vV]at h;cases h
 |cons e es=>
  cases ik with
  |seq=>
   replace h:=Aa h;obtain⟨rfl,h⟩:=h;simp only[and_eq_true]at h;have q:=(hs.2.1 Γ k X cl EX iter c h.2).1;refine⟨((B3 q).or (Fi q)).imp λσ H R ⟨ρ,env,h,hE,r,p⟩=>?_,λx=>?_⟩
   ·simp only[JL,sI,aV,cK]at p
    have key:∀(Q:VK),(∀v h1 ρ1 x H1,aH Φ e env h=.ok v h1->Gr ρ H ρ1 H1->HR (bd X cl) ρ1 h1 H1->VR X.K ρ1 H1 v x->Post (bd X cl) EX ρ1 H1 (λsrc h' ρ' H'=>(∃xs,src.items h'=some xs)/\∀J,Walks (bd X cl) src J ρ' H'->R J H') (aS (srcOf .seq [v]) h1)->Q x H1)->tV Φ (bd X cl) EX e σ H Q:=λQ kk=>
     ⟨ρ,env,h,hE,r,fh p λv h1 ρ1 H1 e1 g1 r1 p1 x q1=>kk v h1 ρ1 x H1 e1 g1 r1 q1 p1⟩
    cases ev:aH Φ e env h with
    |ok v h1=>
     cases v with
     |tup vs=>refine .inr (key _ λv h1 ρ1 x H1 e1 g1 r1 q1 p1=>?_);rw[ev]at e1;cases e1;obtain⟨src,e2,w1,w2⟩:=ck r1 p1;cases e2;rw[VR]at q1;obtain⟨a,xs,rfl,k1,k2⟩:=q1;exact⟨a,rfl,⟨xs,k1⟩,w2 _ (yj k1 k2)⟩
     |rl vs=>refine .inl (key _ λv h1 ρ1 x H1 e1 g1 r1 q1 p1=>?_);rw[ev]at e1;cases e1;obtain⟨src,e2,w1,w2⟩:=ck r1 p1;cases e2;rw[VR]at q1;obtain⟨a,xs,rfl,k1,k2⟩:=q1;exact⟨a,rfl,⟨xs,k1.sq⟩,w2 _ (Ai k1 k2)⟩
     |ref i=>refine .inl (key _ λv h1 ρ1 x H1 e1 g1 r1 q1 p1=>?_);rw[ev]at e1;cases e1;obtain⟨src,e2,⟨zs,w1⟩,w2⟩:=ck r1 p1;cases e2;have q0:=q1;rw[VR]at q1;obtain⟨a,rfl,k1⟩:=q1;obtain⟨b,ys,e3,k2,k3⟩:=dN r1 q0 (show aA h1 (.ref i)=some zs from w1);cases e3;exact⟨a,rfl,⟨ys,k2⟩,w2 _ (uL k1)⟩
     |_=>refine .inl (key _ λv h1 ρ1 x H1 e1 g1 r1 q1 p1=>?_);rw[ev]at e1;cases e1;obtain⟨src,e2,_⟩:=ck r1 p1;cases e2
    |exc _ _ _=>exact .inl (key _ λv h1 ρ1 x H1 e1=>by rw[ev]at e1;cases e1)
    |no=>exact .inl (key _ λv h1 ρ1 x H1 e1=>by rw[ev]at e1;cases e1)
   ·cases iter<;>first|rfl|(exact absurd h.1 SV)
  |range=>
   apply lK h;intro x xp q1 pos h;apply uH h;intro a args h;simp only[and_eq_true,beq_iff_eq]at h;obtain⟨⟨⟨⟨⟨h1,h2⟩,h3⟩,h4⟩,h5⟩,h6⟩:=h;subst h1;obtain⟨g1,g2,g3⟩:=c.gl h2;have hm:=c.blt _ (show ("range":Str)∈bltNames by decide);refine⟨?_,λx=>rfl⟩;have hA:=hs.1 Γ k X cl EX (a::args) c (by rw[aR.eq_def];simp[h3,h4,h5]);cases args with
   |nil=>
    cases es with
    |cons i dB=>rw[aR.eq_def]at h5;cases h5
    |nil=>
     refine(xy g1 hm hA (bh h3)).imp λσ H R aE=>?_;obtain⟨ρ,env,h,hE,r,p⟩:=aE;refine⟨ρ,env,h,hE,r,fh p λvs h1 ρ1 H1 e1 Qa r1 p1 xs q1=>?_⟩;obtain⟨src,e2,w1,w2⟩:=ck r1 p1
     match vs,e2 with
     |[.int n],e2=>
      change (if inR n=true then some (Src.fix (bY 0 n.toNat)) else none)=some src at e2;split at e2
      ·rename_i hn;cases e2;simp only[inR,and_eq_true,decide_eq_true_eq]at hn;obtain⟨x,rfl,hx⟩:=au.one q1;rw[VR]at hx;subst hx;exact⟨n,rfl,hn.1,hn.2,w2 _ lM⟩
      ·cases e2
     |[.int _,.int _],e2=>have:=j9 (Γ:=Γ) (ls:=[a]) (by rw[aR.eq_def];simp[h3,h4,aR]) e1;simp at this
   |cons b args=>
    cases args with
    |cons _ _=>have:=Tj h6;simp only[length_cons]at this;omega
    |nil=>
     have hb:noStar b=true:=by
      cases es with
      |nil=>rw[aR]at h5;cases h5
      |cons i dB=>rw[aR.eq_def]at h5;dsimp only at h5;simp only[and_eq_true]at h5;exact h5.1.1
     refine(xA g1 hm hA (by rw[bh h3,bh hb];rfl) (by rw[bh hb];rfl)).imp λσ H R aE=>?_;obtain⟨ρ,env,h,hE,r,p⟩:=aE;refine⟨ρ,env,h,hE,r,fh p λvs h1 ρ1 H1 e1 Qa r1 p1 xs q1=>?_⟩;obtain⟨src,e2,w1,w2⟩:=ck r1 p1
     match vs,e2 with
     |[.int _],e2=>have:=j9 (Γ:=Γ) (ls:=[a,b]) (by rw[aR.eq_def];simp[h3,h4,h5]) e1;simp at this
     |[.int lo,.int hi],e2=>
      change (if (inR lo&&inR hi)=true then some (Src.fix (bY lo (hi-lo).toNat)) else none)=some src at e2;split at e2
      ·rename_i hn;cases e2;simp only[inR,and_eq_true,decide_eq_true_eq]at hn;obtain⟨x,y,rfl,hx,hy⟩:=au.two q1;rw[VR]at hx;rw[VR]at hy;subst hx;subst hy;exact⟨lo,hi,rfl,⟨hn.1.1,hn.1.2,hn.2.1,hn.2.2⟩,w2 _ lM⟩
      ·cases e2
  |enum=>
   replace h:=Aa h;obtain⟨rfl,h⟩:=h;apply lK h;intro x xp q1 pos h;apply jq h;intro a h;simp only[and_eq_true,beq_iff_eq]at h;obtain⟨⟨⟨h1,h2⟩,h3⟩,h4⟩:=h;subst h1;obtain⟨g1,g2,g3⟩:=c.gl h2;have hm:=c.blt _ (show ("enumerate":Str)∈bltNames by decide);obtain⟨SJ,tk,tp,rfl⟩:=ht (.inl rfl);refine⟨?_,λx=>rfl⟩;have hA:=hs.1 Γ k X cl EX [a] c (by rw[aR.eq_def];simp[h3,h4,aR]);refine(Ct g1 hm hA (bh h3)).imp λσ H R aE=>?_;obtain⟨ρ,env,h,hE,r,p⟩:=aE;refine⟨ρ,env,h,hE,r,fh p λvs h1 ρ1 H1 e1 Qa r1 p1 xs q1=>?_⟩;obtain⟨src,e2,⟨zs,w1⟩,w2⟩:=ck r1 p1
   match vs,e2 with
   |[.rl ws],e2=>cases e2;obtain⟨x,rfl,hx⟩:=au.one q1;rw[VR]at hx;obtain⟨b,ys,rfl,k1,k2⟩:=hx;exact⟨b,rfl,⟨ys,k1.sq⟩,w2 _ (sL k1 k2)⟩
   |[.ref i],e2=>cases e2;obtain⟨x,rfl,hx⟩:=au.one q1;obtain⟨us,w3,_⟩:=TF.mp w1;obtain⟨b,ys,rfl,k2,k3⟩:=dN r1 hx w3;rw[VR]at hx;obtain⟨b',e3,k1⟩:=hx;cases e3;exact⟨b,rfl,⟨ys,k2⟩,w2 _ (sM k1)⟩
  |zip=>cases h
end
section
variable {Φ:Fn} {Γ:mw} {k:Nat} {X:Cx} {cl:Nat->Addr} {EX:Nat->List V->Hp->Prop}
def nt:List Nat->JD
 |[]=>J6
 |i::is=>D7 (lG i) (nt is)
def yk(K:Frag):uF->TG
 |.one i=>lG i
 |.tup is=>J7 K is.length (nt is)
def gi:List Nat->List V->L2.St->L2.St
 |i::is,v::vs,σ=>gi is vs (σ.set i (some v))
 |_,_,σ=>σ
theorem k8:∀{is:List Nat} {vs:List V} {σ:L2.St} {H:Hp} {Q:L2.St->Hp->Prop},vs.length=is.length->Q (gi is vs σ) H->nt is vs σ H Q
 |[],[],_,_,_,_,h=>⟨rfl,h⟩
 |i::is,v::vs,σ,H,Q,hl,h=>⟨v,vs,rfl,k8 (by simpa using hl) h⟩
theorem pC(hnd:X.N.Nodup):∀{is:List Nat} {es:List Expr},es.length=is.length->(∀p∈is.zip es,∃x pos,p.2=.Name x pos/\X.N[p.1]?=some x/\X.env.scope.names.lookup x=some .local)->JE X es (nt is)
 |[],[],_,_=>u9
 | i::is,e::es,hl,h=>by
  obtain⟨x,pos,rfl,h1,h2⟩:=h (i,e) (by simp);exact rL (l9 hnd h1 (.inl h2) (.inr h2)) (pC hnd (by simpa using hl) λp hp=>h p (by simp[hp]))
theorem fJ:∀{es:List Expr},(∀e∈es,∃x pos,e=.Name x pos)->(assignEach es env).length=es.length/\(assignEach es env).findIdx? (·.1)=none
 |[],_=>⟨rfl,rfl⟩
 | e::es,h=>by
  obtain⟨x,pos,rfl⟩:=h e S3;obtain⟨h1,h2⟩:=fJ (env:=env) (es:=es) λe he=>h e (S2 _ he);have e1:assignEach (Expr.Name x pos::es) env=(false,assign (Expr.Name x pos) env)::assignEach es env:=rfl;rw[e1];refine⟨by simp[h1],?_⟩;rw[List.findIdx?_cons,h2];rfl
theorem Aj{i:Nat}(h:sF Γ (.one i) tg=true):∃x p,tg=.Name x p:=by
 cases tg<;>first|exact⟨_,_,rfl⟩|exact absurd h SV
theorem sN{is:List Nat}(h:sF Γ (.tup is) tg=true):∃es k p,tg=.Tuple es k p:=by
 cases tg<;>first|exact⟨_,_,_,rfl⟩|exact absurd h SV
theorem Ak(c:Ctx Φ Γ k X cl EX)(hnd:X.N.Nodup)(h:sF Γ pat tg=true):PG X tg (yk X.K pat):=by
 cases pat with
 |one i=>obtain⟨x,xp,rfl⟩:=Aj h;simp only[sF,and_eq_true,beq_iff_eq]at h;obtain⟨h1,h2⟩:=h;exact l9 hnd (by rw[c.N];exact h1) (.inl (by rw[c.sc];exact h2)) (.inr (by rw[c.sc];exact h2))
 |tup is=>
  obtain⟨es,kk,pos,rfl⟩:=sN h
  ·
   simp only[sF,and_eq_true,beq_iff_eq,all_eq_true]at h;obtain⟨h1,h2⟩:=h;have names:∀p∈is.zip es,∃x pos,p.2=.Name x pos/\X.N[p.1]?=some x/\X.env.scope.names.lookup x=some .local:=λp hp=>by
    have q:=h2 p hp;cases ep:p.2<;>rw[ep]at q<;>simp at q;rename_i x pos';exact⟨x,pos',rfl,by rw[c.N];exact q.1,by rw[c.sc];exact q.2⟩
   have all:∀e∈es,∃x pos,e=.Name x pos:=λe he=>by
    obtain⟨n,hn,rfl⟩:=Vc he;have hm:(is[n]'(by omega),es[n])∈is.zip es:=UY.mpr ⟨n,by rw[UE];simp[hn]⟩;obtain⟨x,pos,q,_⟩:=names _ hm;exact⟨x,pos,q⟩
   obtain⟨l1,l2⟩:=fJ (env:=X.env) all;exact yZ c.calm (pC hnd h1 names) (by rw[l1,h1]) l2
def sO(Γ:mw):uF->Expr->Bool
 |.one i,.Name x _=>Γ.N[i]?==some x&&(Γ.sc.names.lookup x==some .local || Γ.sc.names.lookup x==some .cell)
 | .tup is,.Tuple es _ _=>es.length==is.length&&(is.zip es).all λp=>match p.2 with
  |.Name x _=>Γ.N[p.1]?==some x&&(Γ.sc.names.lookup x==some .local || Γ.sc.names.lookup x==some .cell)
  |_=>false
 |_,_=>false
theorem nu(hfn:∀x,X.fn x=true)(hnd:X.N.Nodup):∀{is:List Nat} {es:List Expr},es.length=is.length->(∀p∈is.zip es,∃x pos,p.2=.Name x pos/\X.N[p.1]?=some x/\Loc X.env.scope x)->JE X es (nt is)
 |[],[],_,_=>u9
 | i::is,e::es,hl,h=>by
  obtain⟨x,pos,rfl,h1,h2⟩:=h (i,e) (by simp);exact rL (l9 hnd h1 h2 (.inl (hfn x))) (nu hfn hnd (by simpa using hl) λp hp=>h p (by simp[hp]))
theorem nv{i:Nat}(h:sO Γ (.one i) tg=true):∃x p,tg=.Name x p:=by
 cases tg<;>first|exact⟨_,_,rfl⟩|exact absurd h SV
theorem kc{is:List Nat}(h:sO Γ (.tup is) tg=true):∃es k p,tg=.Tuple es k p:=by
 cases tg<;>first|exact⟨_,_,_,rfl⟩|exact absurd h SV
theorem v8(c:Ctx Φ Γ k X cl EX)(hfn:∀x,X.fn x=true)(hnd:X.N.Nodup)(h:sO Γ pat tg=true):PG X tg (yk X.K pat):=by
 have loc:∀x,(Γ.sc.names.lookup x==some .local || Γ.sc.names.lookup x==some .cell)=true->Loc X.env.scope x:=λx e=>by
  unfold L2.Loc;rw[c.sc];simpa using e
 cases pat with
 |one i=>obtain⟨x,pos,rfl⟩:=nv h;simp only[sO,and_eq_true,beq_iff_eq]at h;obtain⟨h1,h2⟩:=h;exact l9 hnd (by rw[c.N];exact h1) (loc _ h2) (.inl (hfn _))
 |tup is=>
  obtain⟨es,kk,pos,rfl⟩:=kc h
  ·
   simp only[sO,and_eq_true,beq_iff_eq,all_eq_true]at h;obtain⟨h1,h2⟩:=h;have names:∀p∈is.zip es,∃x pos,p.2=.Name x pos/\X.N[p.1]?=some x/\Loc X.env.scope x:=λp hp=>by
    have q:=h2 p hp;cases ep:p.2<;>rw[ep]at q<;>first|cases q|skip
    rename_i x pos';simp only[and_eq_true,beq_iff_eq]at q;exact⟨x,pos',rfl,by rw[c.N];exact q.1,loc _ q.2⟩
   have all:∀e∈es,∃x pos,e=.Name x pos:=λe he=>by
    obtain⟨n,hn,rfl⟩:=Vc he;have hm:(is[n]'(by omega),es[n])∈is.zip es:=UY.mpr ⟨n,by rw[UE];simp[hn]⟩;obtain⟨x,pos,q,_⟩:=names _ hm;exact⟨x,pos,q⟩
   obtain⟨l1,l2⟩:=fJ (env:=X.env) all;exact yZ c.calm (nu hfn hnd h1 names) (by rw[l1,h1]) l2
theorem cD.set{K:Frag}{ρ:List Addr}{env:Env}{σ:L2.St}{H:Hp}{i:Nat}{v:Val}{x:V}(e:cD K ρ env σ H)(hl:env.length = σ.length)(q:VR K ρ H v x):cD K ρ (env.set i (some v)) (σ.set i (some x)) H:=λj w hj=>by
 by_cases hij:i=j
 ·subst hij
  have hi:i<env.length:=by have:=(SW.mp hj).1;simpa using this
  rw[S6 hi]at hj;cases hj;exact⟨x,by rw[S6 (by rw[<-hl];exact hi)],q⟩
 ·rw[SX hij]at hj;rw[SX hij];exact e j w hj
theorem jG{K:Frag}{ρ:List Addr}{H:Hp}:∀{is:List Nat} {ds:List Val} {xs:List V} {env env':Env} {σ:L2.St},bindAll is ds env=some env'->au K ρ H ds xs->cD K ρ env σ H->env.length = σ.length->cD K ρ env' (gi is xs σ) H/\env'.length=(gi is xs σ).length/\(gi is xs σ).length = σ.length/\xs.length=is.length
 | [],[],xs,env,env',σ,e,q,hE,hl=>by
  rw[au]at q;subst q;simp only[bindAll]at e;cases e;exact⟨hE,hl,rfl,rfl⟩
 | i::is,d::ds,xs,env,env',σ,e,q,hE,hl=>by
  rw[au]at q;obtain⟨x,r,rfl,q1,q2⟩:=q;simp only[bindAll]at e;obtain⟨a1,a2,a3,a4⟩:=jG e q2 (hE.set hl q1) (by simp[hl]);exact⟨a1,a2,by rw[show gi (i::is) (x::r) σ = gi is r (σ.set i (some x)) from rfl,a3];simp,by simp[a4]⟩
 |[],_::_,_,_,_,_,e,_,_,_=>by simp[bindAll]at e
 |_::_,[],_,_,_,_,e,_,_,_=>by simp[bindAll]at e
theorem v9{K:Frag}{ρ:List Addr}{H:Hp}{pat:uF}{v:Val}{x:V}{env env':Env}{σ:L2.St}{Q:L2.St->Hp->Prop}(e:eV pat v env=some env')(q:VR K ρ H v x)(hE:cD K ρ env σ H)(hl:env.length = σ.length)
  (kk:∀σ',cD K ρ env' σ' H->env'.length = σ'.length -> σ'.length = σ.length->Q σ' H):yk K pat x σ H Q:=by
 cases pat with
 |one i=>simp only[eV]at e;cases e;exact kk _ (hE.set hl q) (by simp[hl]) (by simp)
 |tup is=>
  cases v<;>simp only[eV]at e<;>first|cases e|skip
  rw[VR]at q;obtain⟨a,xs,rfl,q1,q2⟩:=q;obtain⟨a1,a2,a3,a4⟩:=jG e q2 hE hl;exact⟨a,xs,rfl,q1,a4,k8 a4 (kk _ a1 a2 a3)⟩
theorem jm{α β:Type}{W:β -> Hs->List Addr->Hp->Prop}{W':α -> Hs->List Addr->Hp->Prop}{m:M α}{f:α -> M β}(g:Gr ρ H ρ' H')(p:Post B EX ρ H W (bnd m f h))
  (kk:∀v h1 ρ2 H2,m h=.ok v h1->Post B EX ρ H W (f v h1)->Gr ρ' H' ρ2 H2->HR B ρ2 h1 H2->W' v h1 ρ2 H2):Post B EX ρ' H' W' (m h):=by
 unfold bnd at p;cases e:m h with
 |ok v h1=>rw[e]at p;exact λρ2 H2 g2 r2=>kk v h1 ρ2 H2 e p g2 r2
 |exc c vs h1=>rw[e]at p;exact λρ2 H2 xs g2 r2 q=>p ρ2 H2 xs (g.trans g2) r2 q
 |no=>rw[e]at p;exact p
theorem HR.adopt(r:HR B ρ h H)(hD:D ∉ ρ)(q:OR B (ρ ++ [D]) H D u):HR B (ρ ++ [D]) (h++[u]) H where
 len:=by simp[r.len]
 nd:=by rw[Ug];refine⟨r.nd,by simp,λa ha b hb=>?_⟩;rw[Ti.mp hb];rintro rfl;exact hD ha
 ob i v a q1 q2:=by
  by_cases hi:i<h.length
  ·rw[Tf hi]at q1;rw[Tf (by rw[r.len];exact hi)]at q2;exact OR.jx ⟨TZ _ _,λ_ _ e _=>e⟩ rfl (r.ob i v a q1 q2)
  ·rw[Tw (by omega)]at q1
   rw[Tw (by rw[r.len];omega)]at q2;have hi0:i-h.length=0:=by have:=(SW.mp q1).1;simp at this;omega
   rw[hi0]at q1;rw[r.len,hi0]at q2;simp at q1 q2;subst q1;subst q2;exact q
theorem Gr.over(g:Gr ρ H ρ' H')(hD:H D=none):Gr ρ H ρ' (upd H' D o) where
 pre:=g.pre
 keep a u e n:=by rw[ak (aD e hD)];exact g.keep a u e n
 firm a u e n:=by rw[ak (aD e hD)];exact g.firm a u e n
 fresh:=g.fresh
theorem Gr.adopt(g:Gr ρ H ρ' H')(hD:H D=none):Gr ρ H (ρ'++[D]) H' where
 pre:=g.pre.trans (TZ _ _)
 keep:=g.keep
 firm:=g.firm
 fresh a z n:=by
  rcases Ua.mp z with z|z
  ·exact g.fresh a z n
  ·rw[Ti.mp z];exact hD
theorem C0{K:Frag}{ρ:List Addr}{env:Env}{σ:L2.St}{H:Hp}{js:List (Option Nat)}(e:cD K ρ env σ H):cD K ρ (iL js env) (dJ js σ) H:=λi v q=>by
 unfold iL at q;rw[Tq]at q;cases hj:js[i]? with
 |none=>rw[hj]at q;cases q
 |some o=>
  rw[hj]at q;simp only[map_some]at q;cases o with
  |none=>cases q
  |some j=>
   dsimp only at q;cases ej:env[j]? with
   |none=>rw[ej]at q;cases q
   |some w=>
    cases w with
    |none=>rw[ej]at q;cases q
    |some d=>rw[ej]at q;cases q;obtain⟨x,q1,q2⟩:=e j _ ej;refine⟨x,?_,q2⟩;unfold dJ;rw[Tq,hj];simp only[map_some];rw[q1]
theorem Am{K:Frag}{ρ:List Addr}{env:Env}{σ σ':L2.St}{H:Hp}{js:List (Option Nat)}{pat:uF}(hp:(sG pat).all (λi=>js[i]?==some none)=true)(e:cD K ρ (iL js env) σ H)(hs:∀i,i∉sG pat -> σ'[i]? = σ[i]?):cD K ρ (iL js env) σ' H:=λi v q=>by
 have hi:i∉sG pat:=λz=>by
  have h1:=all_eq_true.mp hp i z;have h2:js[i]?=some none:=eq_of_beq h1;unfold iL at q;rw[Tq,h2]at q;cases q
 obtain⟨x,q1,q2⟩:=e i v q;exact⟨x,(hs i hi).trans q1,q2⟩
theorem nC:∀{is:List Nat} {xs:List V} {σ:L2.St} {i:Nat},i∉is->(gi is xs σ)[i]? = σ[i]?
 |[],xs,σ,i,_=>by cases xs<;>rfl
 |j::is,[],σ,i,_=>rfl
 | j::is,x::xs,σ,i,h=>by
  rw[show gi (j::is) (x::xs) σ = gi is xs (σ.set j (some x)) from rfl,nC λz=>h (S2 _ z),SX λz=>h (by rw[z];exact S3)]
theorem An{K:Frag}{ρ:List Addr}{H:Hp}{pat:uF}{v:Val}{x:V}{env env':Env}{σ:L2.St}{Q:L2.St->Hp->Prop}(e:eV pat v env=some env')(q:VR K ρ H v x)(hE:cD K ρ env σ H)(hl:env.length = σ.length)
  (kk:∀σ',cD K ρ env' σ' H -> σ'.length = σ.length->(∀i,i∉sG pat -> σ'[i]? = σ[i]?)->Q σ' H):yk K pat x σ H Q:=by
 cases pat with
 |one i=>simp only[eV]at e;cases e;exact kk _ (hE.set hl q) (by simp) λj hj=>SX λz=>hj (by rw[z];exact Ti.mpr rfl)
 |tup is=>
  cases v<;>simp only[eV]at e<;>first|cases e|skip
  rw[VR]at q;obtain⟨a,xs,rfl,q1,q2⟩:=q;obtain⟨a1,a2,a3,a4⟩:=jG e q2 hE hl;exact⟨a,xs,rfl,q1,a4,k8 a4 (kk _ a1 a3 λj hj=>nC hj)⟩
theorem nD(hs:jr Φ it)(hc:bV Φ t)(he:bV Φ elt)(c:Ctx Φ Γ k X cl EX)(h:bF Γ (.comp N' js pat ik it t elt) e=true) :
  ∃e' tg iter ifs scope pos wi g tt te,e=.ListComp e' [⟨tg,iter,ifs,0⟩] scope pos/\fX X.N X.env.scope scope N' js=true/\PI X tg iter wi/\(∀cls C s H fp,PG (bA X scope N' cls C s H fp) tg g)/\(∀cls C s H fp,Cq (bA X scope N' cls C s H fp) ifs tt) /\
   (∀cls C s H fp,PE (bA X scope N' cls C s H fp) e' te)/\(∀x,foldedSetIterable iter X.env x=pure x)/\∀σ H Q,tV Φ (bd X cl) EX (.comp N' js pat ik it t elt) σ H Q->vq wi js g tt te σ H Q:=by
 apply vM h;intro e' q1 scope pos h;apply jq h;intro q2 h;apply zZ h;intro tg iter ifs q3 h;apply vQ h;intro h;simp only[and_eq_true]at h;obtain⟨⟨⟨⟨⟨⟨⟨h1,h2⟩,h3⟩,h4⟩,h5⟩,h6⟩,h7⟩,h8⟩:=h;have hnd:N'.Nodup:=Tj h3;have hen:ik=.enum\/ik=.zip->∃es kk pos,tg=.Tuple es kk pos:=by
  intro hz;cases pat with
  |one i=>rcases hz with rfl|rfl<;>cases h6
  |tup is=>exact sN h4
 obtain⟨hi,hf⟩:=Es hs c h2 hen
 let tt:TT:=if cJ t=true then mQ else tT Φ (bd X cl) EX t
 have N1:∀cls C s H fp,Cq (bA X scope N' cls C s H fp) ifs tt:=λcls C s H fp=>by
  have c':=c.nZ scope N' cls C s H fp;cases ifs with
  |nil=>have:cJ t=true:=h7;show Cq _ [] (if cJ t=true then mQ else tT Φ (bd X cl) EX t);rw[S7 this];exact vp
  |cons a r=>
   cases r with
   |cons _ _=>cases h7
   |nil=>simp only[and_eq_true,not_eq_true']at h7;show Cq _ [a] (if cJ t=true then mQ else tT Φ (bd X cl) EX t);rw[S8 (by rw[h7.1];exact SV)];exact Cr (hc _ _ _ _ _ _ c' h7.2).2
 refine⟨e',tg,iter,ifs,scope,pos,_,yk X.K pat,tt,tV Φ (bd X cl) EX elt,rfl,by rw[c.N,c.sc];exact h1,hi,λcls C s H fp=>Ak (c.nZ scope N' cls C s H fp) hnd h4,N1,λcls C s H fp=>(he _ _ _ _ _ _ (c.nZ scope N' cls C s H fp) h8).1,hf,λσ H Q ⟨ρ,env,h,hE,r,p⟩=>?_⟩
 ·skip
  simp only[aH]at p
  let f:Val->M (Option Val):=λd=>bnd (aS (eV pat d (iL js env))) λenv'=>bnd (if cJ t=true then ret true else bnd (aH Φ t env') λv=>ask λh=>cI h v) λt=>
    if t=true then bnd (aH Φ elt env') λe=>ret (some e) else ret none
  have p':Post (bd X cl) EX ρ H (WV X.K Q) (bnd (JL Φ ik it env) (λsrc=>bnd (ask λh=>src.items h) λxs=>aI (decide (xs.length<=100000)) (bnd (dW src f xs.length 0 []) λys=>new (.lst ys))) h):=by unfold JL;rw[aV];exact p
  refine⟨ρ,env,h,hE,r,bz p' λsrc h1 ρ1 H1 g1 r1 p1=>?_⟩;obtain⟨xs,e1,p2⟩:=ay p1;obtain⟨e2,p3⟩:=aM p2;have e2:=Tj e2;refine⟨⟨xs,e1⟩,λJ wk D hD=>?_⟩;have SK:(100000:Nat)<sizeLine:=by rw[T7];decide
  refine⟨λi m σ' H'=>∃ρ' h' acc ys,Gr ρ1 H1 ρ' H'/\HR (bd X cl) ρ' h' H'/\D ∉ ρ'/\H' D=some (.lst ys)/\au X.K ρ' H' acc ys/\cD X.K ρ' (iL js env) σ' H' /\ σ'.length=js.length/\acc.length<=i/\i+m=xs.length /\
   Post (bd X cl) EX ρ1 H1 (WV X.K Q) (bnd (dW src f m i acc) (λys=>new (.lst ys)) h'),⟨xs.length,ρ1,h1,[],[],Gr.side hD,r1.side hD,r1.out hD,aC,au.nil,(C0 (hE.up g1)).up (Gr.side hD),gg js σ,S4 _,by omega,p3⟩,?_⟩
  rintro i m σ' H' ⟨ρ',h',acc,ys,w1,w2,w3,w4,w5,w6,w7,w8,w9,qK⟩;have fin:∀p:Post (bd X cl) EX ρ1 H1 (WV X.K Q) (new (.lst acc) h'),Q (.ref D) H':=λp=>by
   refine p (ρ'++[D]) H' (w1.adopt hD) (w2.adopt w3 ⟨ys,w4,au.jx ⟨TZ _ _,λ_ _ e _=>e⟩ _ _ w5⟩) _ (VR.ref (by rw[<-w2.len];simp))
  cases m with
  |zero=>
   simp only[dW,aV]at qK;obtain⟨xs',k1,qK⟩:=ay qK;have Ll:Post (bd X cl) EX ρ1 H1 (WV X.K Q) (bnd (aI (decide (xs'.length<=i)) (ret acc)) (λys=>new (.lst ys)) h'):=qK;unfold aI at Ll
   by_cases hl:xs'.length<=i
   ·have:bnd (λh=>if decide (xs'.length<=i)=true then ret acc h else Out.no) (λys=>new (.lst ys)) h'=new (.lst acc) h':=by
     unfold bnd;dsimp only;rw[S7 (decide_eq_true hl)];rfl
    rw[this] at Ll;exact .inl ⟨wk.stop w1.w w2 k1 hl,fin Ll⟩
   ·have:bnd (λh=>if decide (xs'.length<=i)=true then ret acc h else Out.no) (λys=>new (.lst ys)) h'=Out.no:=by
     unfold bnd;dsimp only;rw[S8 (by rw[decide_eq_false hl];exact SV)]
    rw[this] at Ll;exact Ll.elim
  |succ m=>
   simp only[dW,aV]at qK;obtain⟨xs',k1,qK⟩:=ay qK;cases hx:xs'[i]? with
   |none=>rw[hx]at qK;exact .inl ⟨wk.stop w1.w w2 k1 (Uq.mp hx),fin qK⟩
   |some v=>
    rw[hx]at qK;dsimp only at qK;refine .inr ⟨wk.go w1.w w2 k1 hx,_,λxS Ed w=>⟨m,Ub _,w⟩,λy H2 hy=>?_⟩;obtain⟨z1,z2,z3⟩:=wk.ua w1.w w2 k1 hx hy;simp only[aV]at qK;simp only[f,aV]at qK;obtain⟨env',k2,qK⟩:=bH qK;refine An k2 z3 (w6.up z1) (by rw[w7];simp[iL]) λσ2 Np hl2 hout=>?_;have Lm:H2 D=some (.lst ys):=z1.keep _ _ w4 w3;have G2:Gr ρ1 H1 ρ' H2:=w1.trans z1;have body:∀(b:Bool) (h3:Hs) (ρ3:List Addr) (H3:Hp),Gr ρ' H2 ρ3 H3->HR (bd X cl) ρ3 h3 H3->Post (bd X cl) EX ρ1 H1 (WV X.K Q) (bnd (if b=true then bnd (aH Φ elt env') λe=>ret (some e) else ret none) (λo=>bnd (dW src f m (i+1) (match o with|some e=>acc++[e]|none=>acc)) λys=>new (.lst ys)) h3) ->
      (if b=true then tV Φ (bd X cl) EX elt σ2 H3 (λy H4=>∃ys,H4 D=some (.lst ys)/\ys.length<sizeLine/\(λσ' H'=>∃ρ' h' acc ys,Gr ρ1 H1 ρ' H'/\HR (bd X cl) ρ' h' H'/\D ∉ ρ'/\H' D=some (.lst ys)/\au X.K ρ' H' acc ys/\cD X.K ρ' (iL js env) σ' H' /\ σ'.length=js.length/\acc.length<=i+1/\i+1+m=xs.length /\
       Post (bd X cl) EX ρ1 H1 (WV X.K Q) (bnd (dW src f m (i+1) acc) (λys=>new (.lst ys)) h')) σ2 (upd H4 D (.lst (ys++[y]))))
      else (λσ' H'=>∃ρ' h' acc ys,Gr ρ1 H1 ρ' H'/\HR (bd X cl) ρ' h' H'/\D ∉ ρ'/\H' D=some (.lst ys)/\au X.K ρ' H' acc ys/\cD X.K ρ' (iL js env) σ' H' /\ σ'.length=js.length/\acc.length<=i+1/\i+1+m=xs.length /\
       Post (bd X cl) EX ρ1 H1 (WV X.K Q) (bnd (dW src f m (i+1) acc) (λys=>new (.lst ys)) h')) σ2 H3):=by
     intro b h3 ρ3 H3 g3 r3 p5;have OI:D ∉ ρ3:=λz=>by have:=g3.fresh D z w3;rw[Lm]at this;cases this
     have OJ:H3 D=some (.lst ys):=g3.keep _ _ Lm w3;have E3:cD X.K ρ3 (iL js env) σ2 H3:=(Am h5 (w6.up z1) hout).up g3;cases b with
     |true=>
      rw[S7 rfl]at p5 |-;simp only[aV,cK]at p5;refine⟨ρ3,env',h3,Np.up g3,r3,jm (G2.trans g3) p5 λv4 h4 ρ4 H4 _ p6 g4 r4 y4 q4=>?_⟩;have Qc:D ∉ ρ4:=λz=>by have:=g4.fresh D z OI;rw[OJ]at this;cases this
      have OL:H4 D=some (.lst ys):=g4.keep _ _ OJ OI;have gw:Gw ρ4 H4 ρ4 (upd H4 D (.lst (ys++[y4]))):=Gw.other OL rfl;have la:=w5.length;refine⟨ys,OL,by omega,ρ4,h4,acc++[v4],ys++[y4],((G2.trans g3).trans g4).over hD,r4.other Qc OL rfl,Qc,aC,au.append (au.jx gw _ _ (au.up ((z1.trans g3).trans g4) _ _ w5)) (au.jx gw _ _ (au.cons q4 au.nil)),(E3.up g4).jx gw,by rw[hl2,w7],by simp;omega,by omega,p6⟩
     |false=>rw[S8 SV]at p5 |-;exact⟨ρ3,h3,acc,ys,G2.trans g3,r3,OI,OJ,au.up (z1.trans g3) _ _ w5,E3,by rw[hl2,w7],by omega,by omega,p5⟩
    show (if cJ t=true then mQ else tT Φ (bd X cl) EX t) σ2 H2 _
    by_cases hn:cJ t=true
    ·rw[S7 hn];rw[S7 hn,cK]at qK;exact body true h' ρ' H2 Gr.refl z2 qK
    ·rw[S8 hn];rw[S8 hn]at qK;exact⟨ρ',env',h',Np,z2,jm G2 qK λb h3 ρ3 H3 _ p5 g3 r3=>body b h3 ρ3 H3 g3 r3 p5⟩
theorem C1(hs:jr Φ it)(hc:bV Φ t)(he:bV Φ elt):bV Φ (.comp N' js pat ik it t elt):=by
 intro Γ k X cl EX e c h;obtain⟨e',tg,iter,ifs,scope,pos,wi,g,tt,te,rfl,h1,h2,h3,h4,h5,h6,h7⟩:=nD hs hc he c h;have q:=(vt (pos:=pos) h1 c.calm h2 h3 h4 h5 h6).imp h7;exact⟨q,cL q λ_=>rfl⟩
theorem C2{k v:IE}(hk:bV Φ k)(hv:bV Φ v):bV Φ (.dct1 k v):=by
 intro Γ n X cl EX e c h;apply vN h;intro q1 q2 pos h;apply jq h;intro q3 h;apply qG h;intro a h;apply jq h;intro b h;simp only[and_eq_true]at h;have q:PE X (.Dict [some a] [b] pos) (tV Φ (bd X cl) EX (.dct1 k v)):=by
  refine(Co (zq (hk Γ n X cl EX a c h.1).1 (hv Γ n X cl EX b c h.2).1 Cn) rfl rfl (by simp) (by simp)).imp λσ H Q aE=>?_;obtain⟨ρ,env,h,hE,r,p⟩:=aE;intro D hD;have g0:Gr ρ H ρ (upd H D (.dK [])):=Gr.side hD;simp only[aH]at p;refine⟨ρ,env,h,hE.up g0,r.side hD,jm g0 p λx h1 ρ1 H1 _ p1 g1 r1 y1 q1=>?_⟩;obtain⟨kk,e1,p1⟩:=bH p1;refine⟨ρ1,env,h1,(hE.up g0).up g1,r1,jm (g0.trans g1) p1 λy h2 ρ2 H2 _ p2 g2 r2 y2 q2=>?_⟩;have Qd:D ∉ ρ:=r.out hD;have Lm:D ∉ ρ2:=λz=>by have:=(g1.trans g2).fresh D z Qd;rw[aC]at this;cases this
  have e2:H2 D=some (.dK []):=(g1.trans g2).keep D _ aC Qd;have ek:y1=kV kk:=by
   cases x<;>first|(cases e1;done)|skip
   ·cases e1;rw[VR]at q1;exact q1
   ·cases e1;rw[VR]at q1;exact q1
  refine⟨e2,[(kk,y2)],by rw[ek];rfl,by simp,?_⟩;have gw:Gw ρ2 H2 (ρ2++[D]) (upd H2 D (.dK (dI [] [(kk,y2)]))):=⟨TZ _ _,(Gw.other (ρ:=ρ2) e2 rfl).firm⟩;exact p2 (ρ2++[D]) _ ((((g0.trans g1).trans g2).over hD).adopt hD) ((r2.other Lm e2 rfl).adopt Lm ⟨[(kk,y2)],aC,y2,[],rfl,VR.jx gw _ _ q2,rfl⟩) _ (vG r2)
 exact⟨q,cL q λ_=>rfl⟩
theorem Gr.ext(g:∀a o,H a=some o->H' a=some o):Gr ρ H ρ H':=⟨Tg _,λa o e _=>g a o e,λa o e _=>g a o e,λa z n=>absurd z n⟩
theorem HR.ext(r:HR B ρ h H)(g:∀a o,H a=some o->H' a=some o):HR B ρ h H':=⟨r.len,r.nd,λi u a q1 q2=>OR.up (Gr.ext g) (by
 obtain⟨w,e,_⟩:=(r.ob i u a q1 q2).mu;rw[e,g a w e]) (r.ob i u a q1 q2)⟩
theorem Ao{K:Frag}{ρ:List Addr}{h:Hs}{H:Hp}{o:Val}{x:V}{ks:List Key}(q:VR K ρ H o x)(e:j6 h o=some ks):∃n a kvs,o=.ref n/\x=.ref a /\ ρ[n]?=some a/\h[n]?=some (.dct kvs)/\ks=kvs.map (·.1):=by
 cases o<;>first|(cases e;done)|(rw[VR]at q;exact q.elim)|skip
 rename_i n;rw[VR]at q;obtain⟨ad,rfl,q1⟩:=q;change (match h[n]? with|some (.dct kvs)=>some (kvs.map (·.1))|_=>none)=some _ at e;split at e
 ·rename_i kvs e5;cases e;exact⟨n,ad,kvs,rfl,rfl,q1,e5,rfl⟩
 ·cases e
theorem wc{K:Frag}{ρ:List Addr}{H:Hp}{h:Hs}{o l:Val}{f:Key->V}(hf:∀k b,jF h o l k=some b->b.1=k/\VR K ρ H b.2 (f k)):∀(ks:List Key) (ps:List (Key×Val)),bf (jF h o l) ks=some ps->dX K ρ H ps (ks.map λk=>(k,f k))/\∀k∈ks,∃b,jF h o l k=some b
 |[],ps,e=>by cases e;exact⟨rfl,λ_ h=>nomatch h⟩
 | k::ks,ps,e=>by
  rw[bf]at e;obtain⟨b,e1,e⟩:=SS.mp e;obtain⟨bs,e2,e⟩:=SS.mp e;cases e;obtain⟨q1,q2⟩:=wc hf ks bs e2;obtain⟨h1,h2⟩:=hf k b e1;refine⟨?_,λk' hk=>?_⟩
  ·obtain⟨b1,b2⟩:=b;cases h1;exact⟨_,_,rfl,h2,q1⟩
  ·rcases Td.mp hk with rfl|hk
   ·exact⟨b,e1⟩
   ·exact q2 k' hk
def Rt(Γ:mw)(N':List Str)(js:List (Option Nat))(p q i j:Nat)(e:Expr):Prop:=∃y1 p1 y2 p2 y3 p3 y4 p4 s2 s1 tk tq t tp dn dp ia scope pos,e=.ListComp (.Tuple [.Name y1 p1,.Subscript (.Name y2 p2) (.Subscript (.Name y3 p3) (.Name y4 p4) s2) s1] tk tq) [⟨.Name t tp,.Name dn dp,[],ia⟩] scope pos /\
  (ia==0&&fX Γ.N Γ.sc scope N' js&&decide (N'.Nodup)&&sF (Γ.nZ scope N') (.one p) (.Name t tp)&&js[p]?==some none&&js[q]?==some (some j)&&js[js.idxOf (some i)]?==some (some i)&&p != q&&p != js.idxOf (some i) &&
   (N'[p]?==some y1&&j8 (Γ.nZ scope N').sc y1)&&(N'[q]?==some y2&&j8 (Γ.nZ scope N').sc y2)&&(N'[js.idxOf (some i)]?==some y3&&j8 (Γ.nZ scope N').sc y3)&&(N'[p]?==some y4&&j8 (Γ.nZ scope N').sc y4)&&(Γ.N[i]?==some dn&&j8 Γ.sc dn))=true
theorem yl{p q i j:Nat}(h:Ep Γ N' js p q i j e=true):Rt Γ N' js p q i j e:=by
 apply vM h;intro e1 q1 scope pos h;apply zV h;intro ls tk tq h;apply K6 h;intro a b h;apply cX h;intro y1 p1 h;apply nk h;intro l r s1 h;apply cX h;intro y2 p2 h;apply nk h;intro l2 r2 s2 h;apply cX h;intro y3 p3 h;apply cX h;intro y4 p4 h;apply jq h;intro g h;apply zZ h;intro tg iter ifs ia h;apply cX h;intro t tp h;apply cX h;intro dn dp h;apply gX h;intro h;exact⟨_,_,_,_,_,_,_,_,_,_,_,_,_,_,_,_,_,_,_,rfl,h⟩
theorem C3{p q:Nat}:bV Φ (.dflt N' js p q d w):=by
 intro Γ k X cl EX e c h;apply qH h;intro i h;apply qH h;intro j h;apply lK h;intro x xp q1 pos h;apply jq h;intro e1 h;simp only[and_eq_true,beq_iff_eq]at h;obtain⟨⟨Ru,Rv⟩,hh⟩:=h;subst Ru;obtain⟨y1,p1,y2,p2,y3,p3,y4,p4,s2,s1,tk,tq,t,tp,dn,dp,ia,scope,cpos,e0,h⟩:=yl hh;clear hh;subst e0;generalize hb:js.idxOf (some i)=b at h;simp only[and_eq_true,beq_iff_eq,bne_iff_ne,ne_eq]at h;obtain⟨⟨⟨⟨⟨⟨⟨⟨⟨⟨⟨⟨⟨h0,h1⟩,h2⟩,h3⟩,h4⟩,h5⟩,h6⟩,h7⟩,h8⟩,h9⟩,Rw⟩,h11⟩,h12⟩,Qe⟩:=h;subst h0;have hnd:N'.Nodup:=Tj h2;have nm:∀{x:Str} {i:Nat} {pos:Pos} (_:N'[i]?=some x/\j8 (Γ.nZ scope N').sc x=true) cls C s H fp,PE (bA X scope N' cls C s H fp) (.Name x pos) (kL i):=λhx cls C s H fp=>by
  obtain⟨v1,v2,v3⟩:=(c.nZ scope N' cls C s H fp).vis hx.2;exact qb hx.1 v1 v2 v3
 obtain⟨v1,v2,v3⟩:=c.vis Qe.2;have hpl:p<js.length:=(SW.mp h4).1;have hu:∀cls C s H fp,(bA X scope N' cls C s H fp).A.units+1<cLine:=λcls C s H fp=>by have:=(c.nZ scope N' cls C s H fp).units;omega
 obtain⟨g1,g2,g3⟩:=c.gl Rv;have q:PE X (.Call (.Name "dict" xp) [.ListComp (.Tuple [.Name y1 p1,.Subscript (.Name y2 p2) (.Subscript (.Name y3 p3) (.Name y4 p4) s2) s1] tk tq) [⟨.Name t tp,.Name dn dp,[],0⟩] scope cpos] [] pos) (tV Φ (bd X cl) EX (.dflt N' js p q (.var i) (.var j))):=by
  intro pins s σ H Q I hh;have hdl:X.A.handled=none:=I.ok.hd c.calm;refine((gq (uE hdl) g1 (c.blt _ (show ("dict":Str)∈bltNames by decide)) vZ (jh (Cy (vt (wi:=zK (kL i)) (js:=js) (g:=lG p) (tt:=mQ) (te:=FD (oG (kL p) (oG (rV (kL q) (rV (kL b) (kL p))) xE))) (by rw[c.N,c.sc];exact h1) c.calm (Cz (qb (by rw[c.N];exact Qe.1) v1 v2 v3)) (λcls C s H fp=>Ak (c.nZ scope N' cls C s H fp) hnd h3) (λ_ _ _ _ _=>vp)
   (λcls C s H fp=>zf (jh (nm h9 cls C s H fp) (jh (vn (hu cls C s H fp) (nm Rw cls C s H fp) (vn (hu cls C s H fp) (nm h11 cls C s H fp) (nm h12 cls C s H fp) λ_ _=>rfl) λ_ _=>rfl) qd))) λx=>rfl)) qd) g3 g2 rfl rfl).imp λσ H Q aE=>?_) pins s σ H Q I hh
  obtain⟨ρ,env,h,hE,r,pp⟩:=aE;refine Gh h7 h8 hpl ?_;simp only[aH]at pp;obtain⟨o,e1,pp⟩:=bH pp;obtain⟨u,e3,pp⟩:=bH pp;obtain⟨ps,e4,Rx⟩:=ay pp;split at e1<;>cases e1;rename_i e1;split at e3<;>cases e3;rename_i e3;obtain⟨x,s1,q1⟩:=hE i o e1;obtain⟨y,s2,q2⟩:=hE j u e3;unfold x8 at e4;obtain⟨ks,e5,e4⟩:=SS.mp e4;obtain⟨ls,e6,e4⟩:=SS.mp e4;obtain⟨n,da,kvs,rfl,rfl,a1,a2,rfl⟩:=Ao q1 e5;obtain⟨m,la,Gg,rfl,rfl,b1,b2,rfl⟩:=Ao q2 e6;obtain⟨Nq,k1,k2⟩:=r.ob n _ da a2 a1;obtain⟨Qf,l1,l2⟩:=r.ob m _ la b2 b1;split at e4
  case isFalse=>cases e4
  case isTrue hz=>
  have ch:∀k,∃x,∀b,jF h (.ref n) (.ref m) k=some b->b.1=k/\VR (bd X cl).K ρ H b.2 x/\∃k2,eY Nq k=some (L2.kV k2)/\eY Qf k2=some x:=λk=>by
   cases eb:jF h (.ref n) (.ref m) k with
   |none=>exact⟨.non,λb hb=>nomatch hb⟩
   |some b=>
    unfold jF at eb;obtain⟨r1,c1,eb⟩:=SS.mp eb;obtain⟨v,c2,eb⟩:=SS.mp eb;obtain⟨Nr,c3,eb⟩:=SS.mp eb;obtain⟨r2,c4,eb⟩:=SS.mp eb;obtain⟨z,c5,eb⟩:=SS.mp eb;cases eb;have f1:bN kvs k=some v:=by change (match h[n]? with|some (.dct kvs)=>some (bN kvs k)|_=>none)=some r1 at c1;rw[a2]at c1;cases c1;exact c2
    have f2:bN Gg Nr=some z:=by change (match h[m]? with|some (.dct kvs)=>some (bN kvs Nr)|_=>none)=some r2 at c4;rw[b2]at c4;cases c4;exact c5
    obtain⟨x1,d1,d2⟩:=(dX.val k k2).2 v f1;obtain⟨x2,d3,d4⟩:=(dX.val Nr l2).2 z f2;refine⟨x2,λb hb=>?_⟩;cases hb;exact⟨rfl,d4,Nr,by rw[d1,zR d2 c3],d3⟩
  obtain⟨f,hf⟩:=Classical.axiomOfChoice ch;obtain⟨w1,w2⟩:=wc (K:=(bd X cl).K) (ρ:=ρ) (H:=H) (f:=f) (λk b hb=>⟨(hf k b hb).1,(hf k b hb).2.1⟩) _ ps e4;have ek:=qJ k2;have el:Nq.length=kvs.length:=by have:=TR length ek;simpa using this
  have hlen:kvs.length<=1000:=by simpa using hz.1
  have em:(Nq.map λkv=>(kv.1,f kv.1))=(kvs.map (·.1)).map λk=>(k,f k):=by rw[<-ek,Tu];rfl
  refine⟨da,la,Nq,Qf,f,s1,?_,?_,k1,l1,by rw[el,T7];omega,λkv hkv=>?_,λH' D ext hD=>?_⟩
  ·unfold dJ;rw[Tq,h6];show some (match σ[i]? with|some (some v)=>some v|_=>none)=_;rw[s1]
  ·unfold dJ;rw[Tq,h5];show some (match σ[j]? with|some (some v)=>some v|_=>none)=_;rw[s2]
  ·obtain⟨b,hb⟩:=w2 kv.1 (by rw[<-ek];exact TJ hkv);exact(hf kv.1 b hb).2.2
  ·rw[o4 _ _ (by rw[UN,Tu];exact ek▸hz.2),UN,em];have r':=r.ext ext;exact m7 (o:=.dct ps) r' hD ⟨_,aC,dX.up (Gr.new hD) _ _ (dX.up (Gr.ext ext) _ _ w1)⟩ (Post.up (Gr.ext ext) Rx)
 exact⟨q,cL q λ_=>rfl⟩
theorem HM(ha:bV Φ a):bV Φ (.isc a x bs):=gY λ_ _=>rfl
theorem k9:(∀ir,bV Φ ir)/\∀dB,jr Φ dB:=by
 have one:∀ir,bV Φ ir:=by
  intro ir;exact IE.rec (motive_1:=λir=>bV Φ ir) (motive_2:=λdB=>jr Φ dB) (λ_=>Hf) (λ_=>Hg) (λ_ _=>Hh) Li (λ_ _ _ a b=>Hi a b) (λ_ a=>Hj a) (λ_ _ _ a b=>Hl a b) (λ_ _ _ _ _ a b c=>Ho a b c)
   (λ_ _ a b=>Hq a b) (λ_ _ a b=>Lj a b) (λ_ a=>Hr a) (λ_ _ _ a b c=>Ht a b c) (λ_ a=>Hu a) (λ_ a=>Hw a) (λ_ _ a b=>Hx a b) (λ_ _ _ a b c=>Hy a b c) (λ_ _ a=>CP a) (λ_ _ a=>HK a)
   (λ_ _ _ a b=>HL a b) (λ_ _ _ _ _ _ _ a b c=>C1 a b c) CN (λ_ a=>CV a) (λ_ _ _ a b c=>CW a b c) (λ_ _ a b=>C2 a b) (λ_ a=>Af a) (λ_ _ _ a b c=>CY a b c) (λ_ a=>Ah a) (λ_ a=>Ag a) (λ_ _ _ a=>HD a) (λ_ _ _ _ a b=>HE a b) (λ_ _ a b=>Hz a b) (λ_ _ _ _ _ _ _ _=>C3) (λ_ _ _ a=>HM a) Ac (λ_ _ a b=>vW a b) ir
 refine⟨one,λdB=>?_⟩
 induction dB using jD.rec (motive_1:=λ_=>True) with
 |nil=>exact Ac
 |cons e es _ ih=>exact vW (one e) ih
 |_=>trivial
end
def nE:Expr->Bool
 |.ListComp ..=>false|.SetComp ..=>false|.DictComp ..=>false
 |_=>true
def Ln:Expr->Bool
 |.Tuple ..=>false
 |_=>true
def OM:Expr->Bool
 |.SetComp ..=>false|.DictComp ..=>false
 |_=>true
mutual
noncomputable def Lo(Γ:mw):IS->Stmt->Bool
 |.expr e,s=>z5 (λx _=>nE x&&bF Γ e x) s
 |.asg p e,s=>GL (λq1 x _=>k1 (λtg=>sO Γ p tg&&bF Γ e x&&(match p with|.one _=>OM x|.tup _=>nE x&&Ln x)) q1) s
 |.aug i o e,s=>OC (λq1 op v _=>gu (λx _=>Γ.N[i]?==some x&&(Γ.sc.names.lookup x==some .local || Γ.sc.names.lookup x==some .cell)&&GY o op&&(match o with|.pow=>false|_=>true)&&bF Γ e v) q1) s
 |.j4 o i v,s=>GL (λq1 x _=>k1 (λq2=>yf (λa b _=>mz b&&nE x&&bF Γ o a&&bF Γ i b&&bF Γ v x) q2) q1) s
 |.iff c a b,s=>P5 (λt x y _=>bF Γ c t&&bJ Γ a x&&bJ Γ b y) s
 |.for p k it body,s=>La (λtg iter x q1 _=>nq q1 (sO Γ p tg&&vV Γ k it iter&&(match k,p with|.enum,.one _=>false|.zip,.one _=>false|_,_=>true)&&bJ Γ body x)) s
 |.whl _ c body,s=>GO (λt x q1 _=>nq q1 (bF Γ c t&&bJ Γ body x)) s
 |.ret e,s=>GP (λq1 _=>vP (λx=>bF Γ e x) q1) s
 |.zL,s=>GP (λq1 _=>zY q1 (true)) s
 |.brk,s=>Lb (λ_=>true) s
 |.cnt,s=>Lc (λ_=>true) s
 |.pass,s=>En (λ_=>true) s||z5 (λq1 _=>qD (λq2 _ _=>K8 (λ_=>true) q2) q1) s
 |.never,_=>true
 |.setF _ _ _ _,_=>false
noncomputable def bJ(Γ:mw):eO->List Stmt->Bool
 |.nil,ls=>ls.isEmpty
 | .cons s r,ls=>match ls with
  |l::ls=>Lo Γ s l&&bJ Γ r ls
  |[]=>false
end
structure HN (Φ:Fn) (Γ:mw) (k:Nat) (X:Cx) (cl:Nat->Addr) (EX:Nat->List V->Hp->Prop):Prop extends Ctx Φ Γ k X cl EX where
 fn:∀x,X.fn x=true
 nd:X.N.Nodup
 kind:X.env.scope.kind=.function
 xe:PassesOwn (model X.prog X.w) X.A X.env X.xe
def WF(K:Frag)(D:Ends):Fl->Hs->List Addr->Hp->Prop
 |.nx env',_,ρ',H'=>∀σ',cD K ρ' env' σ' H'->env'.length = σ'.length->D.nx σ' H'
 |.rt v,_,ρ',H'=>∀x,VR K ρ' H' v x->D.rt x H'
 |.bk env',_,ρ',H'=>∀σ',cD K ρ' env' σ' H'->env'.length = σ'.length->D.bk σ' H'
 |.ct env',_,ρ',H'=>∀σ',cD K ρ' env' σ' H'->env'.length = σ'.length->D.ct σ' H'
def tS(Φ:Fn)(B:Bd)(EX:Nat->List V->Hp->Prop)(ir:IS):TS:=λD σ H=>∃ρ env h,cD B.K ρ env σ H/\env.length = σ.length/\HR B ρ h H/\Post B EX ρ H (WF B.K D) (fS Φ ir env h)
def Ry(Φ:Fn)(B:Bd)(EX:Nat->List V->Hp->Prop)(ir:eO):TS:=λD σ H=>∃ρ env h,cD B.K ρ env σ H/\env.length = σ.length/\HR B ρ h H/\Post B EX ρ H (WF B.K D) (iM Φ ir env h)
theorem _root_.L2.PS.imp(h:PS X e t)(i:∀D σ H,t' D σ H->t D σ H):PS X e t':=λpins s σ H D I hw=>h pins s σ H D I (i D σ H hw)
theorem _root_.L2.t9.imp(h:t9 X e t)(i:∀D σ H,t' D σ H->t D σ H):t9 X e t':=λpins s σ H D I hw=>h pins s σ H D I (i D σ H hw)
section
variable {Φ:Fn} {Γ:mw} {k:Nat} {X:Cx} {cl:Nat->Addr} {EX:Nat->List V->Hp->Prop}
def sP(Φ:Fn)(ir:IS):Prop:=∀(Γ:mw) (k:Nat) (X:Cx) (cl:Nat->Addr) (EX:Nat->List V->Hp->Prop) (st:Stmt),HN Φ Γ k X cl EX->Lo Γ ir st=true->PS X st (tS Φ (bd X cl) EX ir)
def qL(Φ:Fn)(dB:eO):Prop:=∀(Γ:mw) (k:Nat) (X:Cx) (cl:Nat->Addr) (EX:Nat->List V->Hp->Prop) (st:List Stmt),HN Φ Γ k X cl EX->bJ Γ dB st=true->t9 X st (Ry Φ (bd X cl) EX dB)
theorem kg{n:Nat}(h:nE e=true):swapsWith e t n env=pure false:=by
 cases e<;>first|rfl|(exact absurd h SV)
theorem JM(ir:IE)(c:Ctx Φ Γ k X cl EX)(h:bF Γ ir e=true):PE X e (tV Φ (bd X cl) EX ir):=(k9.1 ir Γ k X cl EX e c h).1
theorem Rz(ir:IE)(c:Ctx Φ Γ k X cl EX)(h:bF Γ ir e=true):PT X e (tT Φ (bd X cl) EX ir):=(k9.1 ir Γ k X cl EX e c h).2
theorem Aq(hs:∀env h,fS Φ ir env h=.no):sP Φ ir:=by
 intro Γ k X cl EX st c h;refine rK.imp λD σ H ⟨ρ,env,h,hE,hl,r,p⟩=>?_;rw[hs]at p;exact p.elim
theorem HP:sP Φ (.expr e):=by
 intro Γ k X cl EX st c h;apply vS h;intro x _ h;simp only[and_eq_true]at h;refine(BY (JM e c.toCtx h.2) (kg h.1)).imp λD σ H aE=>?_;obtain⟨ρ,env,h,hE,hl,r,p⟩:=aE;simp only[fS]at p;exact⟨ρ,env,h,hE,r,az p λv h1 ρ1 x H1 g1 r1 q1 p1=>ai r1 p1 σ (hE.up g1) hl⟩
theorem Lp:sP Φ (.asg p e):=by
 intro Γ k X cl EX st c h;apply z6 h;intro q1 x pos h;apply jq h;intro tg h;simp only[and_eq_true]at h;obtain⟨⟨h1,h2⟩,h3⟩:=h;have hg:=v8 c.toCtx c.fn c.nd h1;have he:=JM e c.toCtx h2;have fin:∀D σ H,tS Φ (bd X cl) EX (.asg p e) D σ H->B0 (tV Φ (bd X cl) EX e) (yk X.K p) D σ H:=λD σ H ⟨ρ,env,h,hE,hl,r,pp⟩=>by
  simp only[fS]at pp;refine⟨ρ,env,h,hE,r,az pp λv h1 ρ1 x H1 g1 r1 q1 p1=>?_⟩;obtain⟨env',e1,p2⟩:=bH p1;exact v9 e1 q1 (hE.up g1) hl λσ' ON hl' _=>ai r1 p2 σ' ON hl'
 have RA:(assignEach [tg] X.env).map (·.2)=[assign tg X.env]:=by
  cases p with
  |one i=>obtain⟨t,tp,rfl⟩:=nv h1;rfl
  |tup is=>obtain⟨es,kk,tp,rfl⟩:=kc h1;rfl
 cases p with
 |tup is=>
  simp only[and_eq_true]at h3;refine(y9 he hg ?_ ?_ RA).imp fin
  ·show swapsWith x (some tg) _ _=_;exact kg h3.1
  ·obtain⟨es,kk,tp,rfl⟩:=kc h1;cases x<;>first|rfl|(exact absurd h3.2 SV)
 |one i=>
  obtain⟨t,tp,rfl⟩:=nv h1
  ·
   simp only[sO,and_eq_true,beq_iff_eq]at h1;have loc:L2.Loc X.env.scope t:=by unfold L2.Loc;rw[c.sc];simpa using h1.2
   have pl:nE x=true->PS X (.Assign [.Name t tp] x pos) (tS Φ (bd X cl) EX (.asg (.one i) e)):=λhx=>(za c.nd (by rw[c.N];exact h1.1) loc he (kg hx) (.inl (c.fn t))).imp fin;cases x with
   |ListComp e' gens scope p2=>
    cases hb:(X.env.kindOf t==some .local&&tp.line==p2.line && !(scope.names.any λ(n,k)=>n==t&&(k==.local||k==.cell))) with
    |false=>
     refine(za c.nd (by rw[c.N];exact h1.1) loc he ?_ (.inl (c.fn t))).imp fin;have bk:(X.env.blockKind==.function)=true:=by unfold Env.blockKind;rw[c.kind];rfl
     show (pure (X.env.blockKind==.function&&X.env.kindOf t==some .local&&tp.line==p2.line && !(scope.names.any λ(n,k)=>n==t&&(k==.local||k==.cell))):Sem Bool)=pure false;rw[bk,Uu,hb]
    |true=>
     have bk:(X.env.blockKind==.function)=true:=by unfold Env.blockKind;rw[c.kind];rfl
     have hsw:swapsWith (.ListComp e' gens scope p2) (some (.Name t tp)) pos.line X.env=pure true:=by show (pure (X.env.blockKind==.function&&X.env.kindOf t==some .local&&tp.line==p2.line && !(scope.names.any λ(n,k)=>n==t&&(k==.local||k==.cell))):Sem Bool)=pure true;rw[bk,Uu,hb]
     cases e with
     |comp N' js pat ik it Lq elt=>obtain⟨e2,SM,iter,ifs,OO,pos2,wi,g,tt,te,q0,q1,q2,q3,q4,q5,q6,q7⟩:=nD (k9.2 it) (k9.1 Lq) (k9.1 elt) c.toCtx h2;cases q0;refine(Cs c.nd (by rw[c.N];exact h1.1) loc q1 c.calm q2 q3 q4 q5 hsw (.inl (c.fn t)) q6).imp λD σ H hh=>?_;exact q7 σ H _ (fin D σ H hh)
     |dflt N' js p q d w=>apply qH h2;intro i2 h2;apply qH h2;intro j2 h2;cases h2
     |_=>first|exact absurd h2 SV|(rw[bF.eq_def]at h2;cases h2)
   |SetComp _ _ _ _=>exact absurd h3 SV
   |DictComp _ _ _ _ _=>exact absurd h3 SV
   |_=>exact pl rfl
theorem Lr{i:Nat}:sP Φ (.aug i o e):=Aq λ_ _=>rfl
def Ls(B:Bd)(EX:Nat->List V->Hp->Prop):Fe:=λo i v H Q=>∃ρ h a b w,HR B ρ h H/\VR B.K ρ H a o/\VR B.K ρ H b i/\VR B.K ρ H w v/\Post B EX ρ H (λ_ _ _ H'=>Q H') (sj a b w h)
theorem HQ(hu:X.A.units+64<cLine):Ff X (Ls (bd X cl) EX):=by
 intro pins s σ H o i v ov iv u Q I ro ri rv hh;obtain⟨ρ,h,a,b,w,r,ha,hb,hw,p⟩:=hh;cases a with
 |ref j=>
  simp only[sj]at p;obtain⟨ob,e1,p⟩:=ay p;have dict:∀kvs,ob=.dct kvs->Post (bd X cl) EX ρ H (λ_ _ _ H'=>Q H') (bnd (aS (keyOf b)) (λk=>aI (decide (kvs.length<sizeLine)) (put j (.dct (jo kvs k w)))) h)->wpAny (model X.prog X.w) X.A (setItem ov iv u) (λ_ s'=>∃H',L2.Inv X pins σ H' s'/\Q H') X.xe s:=by rintro kvs rfl p;obtain⟨kk,e2,p⟩:=bH p;obtain⟨e3,p⟩:=aM p;have e3:=Tj e3;rw[VR]at ha;obtain⟨A,rfl,k1⟩:=ha;obtain⟨ks,k2,k3⟩:=r.ob j _ A e1 k1;cases ro;have ek:=zR hb e2;subst ek;refine xN (by omega) I (Ck.k (v:=v) k2 (by rw[<-k3.length];exact e3)) ri rv λs' I'=>⟨_,I',?_⟩;have g:Gr ρ H ρ (upd H A (.dK (putK ks kk v))):=Gr.put (Tr k1) k2 rfl;exact p ρ _ g (r.put k1 e1 (u:=.dct (jo kvs kk w)) ⟨_,aC,dX.put kk (VR.up g _ _ hw) (dX.up g _ _ k3)⟩)
  cases ob with
  |lst xs=>
   cases b<;>first|(exact p.elim)|skip
   rename_i n _;obtain⟨jj,e2,p⟩:=bH p;obtain⟨A,ys,rfl,k1,k2,k3⟩:=jk r ha e1;rw[VR]at hb;subst hb;refine set_list pins s σ H _ _ v ov iv u Q I ro ri rv ⟨A,ys,n,jj,rfl,rfl,k2,by rw[<-k3.length];exact e2,?_⟩;have g:Gr ρ H ρ (upd H A (.lst (ys.set jj v))):=Gr.put (Tr k1) k2 rfl;exact p ρ _ g (r.put k1 e1 (u:=.lst (xs.set jj w)) ⟨_,aC,au.set jj (au.up g _ _ k3) (VR.up g _ _ hw)⟩)
  |dct kvs=>exact dict kvs rfl (by cases b<;>exact p)
  |ins c fs=>cases b<;>exact p.elim
 |_=>exact p.elim
theorem HS:sP Φ (.j4 o i v):=by
 intro Γ k X cl EX st c h;apply z6 h;intro q1 x pos h;apply jq h;intro q2 h;apply nk h;intro a b sp h;simp only[and_eq_true]at h;obtain⟨⟨⟨⟨h1,h2⟩,h3⟩,h4⟩,h5⟩:=h;have RB:PG X (.Subscript a b sp) (J8 (tV Φ (bd X cl) EX o) (tV Φ (bd X cl) EX i) (Ls (bd X cl) EX)):=Fg (JM o c.toCtx h3) (JM i c.toCtx h4) (HQ c.units) (by
  intro v;cases b<;>first|rfl|(exact absurd h1 SV))
 refine(y9 (JM v c.toCtx h5) RB (kg (t:=some (.Subscript a b sp)) (n:=pos.line) (env:=X.env) h2) (by cases x<;>rfl) rfl).imp λD σ H aE=>?_;obtain⟨ρ,env,h,hE,hl,r,p⟩:=aE;simp only[fS]at p;refine⟨ρ,env,h,hE,r,az p λw h1 ρ1 x1 H1 g1 r1 q1 p1=>⟨ρ1,env,h1,hE.up g1,r1,az p1 λw2 h2 ρ2 x2 H2 g2 r2 q2 p2=>⟨ρ2,env,h2,(hE.up g1).up g2,r2,az p2 λw3 h3 ρ3 x3 H3 g3 r3 q3 p3=>?_⟩⟩⟩;refine⟨ρ3,h3,w2,w3,w,r3,VR.up g3 _ _ q2,q3,VR.up (g2.trans g3) _ _ q1,bz p3 λ_ h4 ρ4 H4 g4 r4 p4=>?_⟩;exact ai r4 p4 σ (((hE.up g1).up g2).up g3 |>.up g4) hl
theorem Lu(ha:qL Φ a)(hb:qL Φ b):sP Φ (.iff t a b):=by
 intro Γ k X cl EX st c h;apply K9 h;intro tt x y pos h;simp only[and_eq_true]at h;refine(J5 (Rz t c.toCtx h.1.1) (ha Γ k X cl EX x c h.1.2) (hb Γ k X cl EX y c h.2)).imp λD σ H aE=>?_;obtain⟨ρ,env,h,hE,hl,r,p⟩:=aE;simp only[fS]at p;refine⟨ρ,env,h,hE,r,kZ p λv h1 p1=>?_⟩;obtain⟨s,e1,p2⟩:=ay p1;refine⟨s,e1,λρ1 H1 g1 r1=>?_⟩;have p2:=Post.up g1 p2;cases s with
 |true=>rw[S7 rfl]at p2 |-;exact⟨ρ1,env,h1,hE.up g1,hl,r1,p2⟩
 |false=>rw[S8 SV]at p2 |-;exact⟨ρ1,env,h1,hE.up g1,hl,r1,p2⟩
theorem Lv(hb:qL Φ body):sP Φ (.for p ik it body):=by
 intro Γ k X cl EX st c h;apply GN h;intro tg iter x q1 pos h;apply gX h;intro h;simp only[and_eq_true]at h;obtain⟨⟨⟨h1,h2⟩,h3⟩,h4⟩:=h;have hen:ik=.enum\/ik=.zip->∃es kk pos,tg=.Tuple es kk pos:=by
  intro hz;cases p with
  |one i=>rcases hz with rfl|rfl<;>cases h3
  |tup is=>exact kc h1
 obtain⟨hi,hf⟩:=Es (k9.2 it) c.toCtx h2 hen;refine(Fj c.xe c.calm hi (v8 c.toCtx c.fn c.nd h1) (hb Γ k X cl EX x c h4) hf).imp λD σ H aE=>?_;obtain⟨ρ,env,h,hE,hl,r,pp⟩:=aE;simp only[fS]at pp;have p':Post (bd X cl) EX ρ H (WF X.K D) (bnd (JL Φ ik it env) (λsrc=>bnd (ask λh=>src.items h) λxs=>forM src (λx env=>bnd (aS (eV p x env)) λenv'=>iM Φ body env') xs.length 0 env) h):=by unfold JL;rw[aV];exact pp
 refine⟨ρ,env,h,hE,r,bz p' λsrc h1 ρ1 H1 g1 r1 p1=>?_⟩;obtain⟨xs,e1,p2⟩:=ay p1;refine⟨⟨xs,e1⟩,λJ wk=>?_⟩;refine⟨λi m σ' H'=>∃ρ' env' h',Gr ρ1 H1 ρ' H'/\cD X.K ρ' env' σ' H'/\env'.length = σ'.length/\HR (bd X cl) ρ' h' H'/\Post (bd X cl) EX ρ' H' (WF X.K D) (forM src (λx env=>bnd (aS (eV p x env)) λenv'=>iM Φ body env') m i env' h'),
  ⟨xs.length,ρ1,env,h1,Gr.refl,hE.up g1,hl,r1,p2⟩,?_⟩
 rintro i m σ' H' ⟨ρ',env',h',w1,w2,w3,w4,w5⟩;cases m with
 |zero=>simp only[forM]at w5;obtain⟨xs',k1,w5⟩:=ay w5;obtain⟨k2,w5⟩:=aM w5;exact .inl ⟨wk.stop w1.w w4 k1 (Tj k2),ai w4 w5 σ' w2 w3⟩
 |succ m=>
  simp only[forM]at w5;obtain⟨xs',k1,w5⟩:=ay w5;cases hx:xs'[i]? with
  |none=>rw[hx]at w5;exact .inl ⟨wk.stop w1.w w4 k1 (Uq.mp hx),ai w4 w5 σ' w2 w3⟩
  |some v=>
   rw[hx]at w5;dsimp only at w5;refine .inr ⟨wk.go w1.w w4 k1 hx,_,λxS Ed w=>⟨m,Ub _,w⟩,λy H2 hy=>?_⟩;obtain⟨z1,z2,z3⟩:=wk.ua w1.w w4 k1 hx hy;rw[aV]at w5;obtain⟨gj,k2,w5⟩:=bH w5;refine v9 k2 z3 (w2.up z1) w3 λσ2 Np hl2 _=>⟨ρ',gj,h',Np,hl2,z2,bz (Post.up z1 w5) λf h3 ρ3 H3 g3 r3 p3=>?_⟩;cases f with
   |nx C4=>exact λσ3 Lw hl3=>⟨ρ3,C4,h3,(w1.trans z1).trans g3,Lw,hl3,r3,p3⟩
   |ct C4=>exact λσ3 Lw hl3=>⟨ρ3,C4,h3,(w1.trans z1).trans g3,Lw,hl3,r3,p3⟩
   |bk C4=>exact λσ3 Lw hl3=>ai r3 p3 σ3 Lw hl3
   |rt v=>exact(ai r3 p3:WF X.K D (.rt v) h3 ρ3 H3)
theorem Lx{n:Nat}(hb:qL Φ body):sP Φ (.whl n t body):=Aq λ_ _=>rfl
theorem Ly:sP Φ (.ret e):=by
 intro Γ k X cl EX st c h;apply z7 h;intro q1 _ h;apply qG h;intro x h;refine(Fc (JM e c.toCtx h)).imp λD σ H aE=>?_;obtain⟨ρ,env,h,hE,hl,r,p⟩:=aE;simp only[fS]at p;exact⟨ρ,env,h,hE,r,az p λv h1 ρ1 x H1 g1 r1 q1 p1=>ai r1 p1 x q1⟩
theorem HU:sP Φ .zL:=by
 intro Γ k X cl EX st c h;apply z7 h;intro q1 _ h;apply vO h;intro h;refine BZ.imp λD σ H aE=>?_;obtain⟨ρ,env,h,hE,hl,r,p⟩:=aE;simp only[fS]at p;exact ai r p _ VR.non
theorem Lz:sP Φ .brk:=by
 intro Γ k X cl EX st c h;apply GQ h;intro _ h;refine yY.imp λD σ H aE=>?_;obtain⟨ρ,env,h,hE,hl,r,p⟩:=aE;simp only[fS]at p;exact ai r p σ hE hl
theorem LA:sP Φ .cnt:=by
 intro Γ k X cl EX st c h;apply GR h;intro _ h;refine rJ.imp λD σ H aE=>?_;obtain⟨ρ,env,h,hE,hl,r,p⟩:=aE;simp only[fS]at p;exact ai r p σ hE hl
theorem HV:sP Φ .pass:=by
 intro Γ k X cl EX st c h
 rcases P4 h with h|h
 ·apply CJ h;intro _ h;refine BX.imp λD σ H aE=>?_;obtain⟨ρ,env,h,hE,hl,r,p⟩:=aE;simp only[fS]at p;exact ai r p σ hE hl
 ·apply vS h;intro q1 _ h;apply nj h;intro q2 _ _ h;apply GK h;intro _ h;refine Fb.imp λD σ H aE=>?_;obtain⟨ρ,env,h,hE,hl,r,p⟩:=aE;simp only[fS]at p;exact ai r p σ hE hl
theorem C5:sP Φ .never:=by
 intro Γ k X cl EX st c h;refine rK.imp λD σ H aE=>?_;obtain⟨ρ,env,h,hE,hl,r,p⟩:=aE;simp only[fS]at p;exact p.elim
theorem HW{n:Nat}:sP Φ (.setF n a x v):=Aq λ_ _=>rfl
theorem HX:qL Φ .nil:=by
 intro Γ k X cl EX st c h;rw[bJ]at h;cases st with
 |cons _ _=>cases h
 |nil=>refine BW.imp λD σ H aE=>?_;obtain⟨ρ,env,h,hE,hl,r,p⟩:=aE;simp only[iM]at p;exact ai r p σ hE hl
theorem C6(h1:sP Φ s)(h2:qL Φ ss):qL Φ (.cons s ss):=by
 intro Γ k X cl EX st c h;rw[bJ.eq_def]at h;dsimp only at h;cases st with
 |nil=>cases h
 |cons l ls=>
  simp only[and_eq_true]at h;refine(yX (h1 Γ k X cl EX l c h.1) (h2 Γ k X cl EX ls c h.2)).imp λD σ H aE=>?_;obtain⟨ρ,env,h,hE,hl,r,p⟩:=aE;simp only[iM]at p;refine⟨ρ,env,h,hE,hl,r,bz p λf h1 ρ1 H1 g1 r1 p1=>?_⟩;cases f with
  |nx env'=>exact λσ' ON hl'=>⟨ρ1,env',h1,ON,hl',r1,p1⟩
  |rt v=>exact(ai r1 p1:WF X.K D (.rt v) h1 ρ1 H1)
  |bk env'=>exact(ai r1 p1:WF X.K D (.bk env') h1 ρ1 H1)
  |ct env'=>exact(ai r1 p1:WF X.K D (.ct env') h1 ρ1 H1)
theorem Ar:∀dB,qL Φ dB:=by
 intro dB;exact eO.rec (motive_1:=λs=>sP Φ s) (motive_2:=λss=>qL Φ ss) (λ_=>HP) (λ_ _=>Lp) (λ_ _ _=>Lr) (λ_ _ _=>HS) (λ_ _ _ a b=>Lu a b) (λ_ _ _ _ a=>Lv a) (λ_ _ _ a=>Lx a) (λ_=>Ly) HU Lz LA HV C5 (λ_ _ _ _=>HW)
  HX (λ_ _ a b=>C6 a b) dB
end
abbrev Row:=Str×Nat×(List Val->M Val)
def look(fs:List Row)(j:Nat):List Val->M Val:=match fs[j]? with
 |some r=>r.2.2
 |none=>λ_=>aS none
def dD(P:Program)(w:World)(B:Bd)(mg:Str->Option Value)(base:Heap)(k:Nat)(fs:List Row):Prop:=∀(j:Nat) (r:Row),fs[j]?=some r->JK P w B mg base k j r.1 r.2.1 r.2.2
def bB(N P:List Str)(sc:Scope):Bool :=
 sc.kind==.function && !sc.isCoroutine && !sc.isGenerator&&decide N.Nodup&&N.take P.length==P&&(P.all λx=>sc.names.lookup x==some .local||sc.names.lookup x==some .cell)&&(sc.names.all λy=>y.2 != .free)
theorem As(h:bB N P sc=true):mh N P sc:=by
 unfold bB at h;simp only[and_eq_true,beq_iff_eq,not_eq_true',decide_eq_true_eq,all_eq_true,or_eq_true,bne_iff_ne]at h;obtain⟨⟨⟨⟨⟨⟨h1,h2⟩,h3⟩,h4⟩,h5⟩,h6⟩,h7⟩:=h;exact⟨h1,h2,h3,h4,h5,h6,h7⟩
structure Base (K:Frag) (cl:Nat->Addr) (mg:Str->Option Value) (cons:List (Str×Val)) (tb:Tb):Prop where
 blt:∀x∈bltNames,mg x=none
 cons:∀p∈cons,∃v u,mg p.1=some u/\RelV v u/\∀K ρ H,VR K ρ H p.2 v
 cls:∀c,c<tb.nc->Pz K (cl c)/\∀x∈tb.Lf,ze K (cl c) x
 GW:∀p∈tb.GW,Meth K (cl p.1) p.2.1 (cl (1000+p.2.2))
 GX:∀p∈tb.GX,∃C,mg p.1=some (.ref C)/\KR K C p.2.1 (cl (1000+p.2.2))
 isc:∀p∈tb.isc,∃C,mg p.1=some (.ref C)/\∀c b,p.2[c]?=some b->PU K (cl c)/\kitOne K (.ref (cl c)) (.ref C)=some b
section
variable {P:Program} {w:World} {K:Frag} {cl:Nat->Addr} {mg:Str->Option Value} {base:Heap} {k:Nat} {fs:List Row} {cons:List (Str×Val)} {tb:Tb}
theorem Et{x qual:Str}{st:Stmt}{f:Addr}{fd:FuncData}{N ps:List Str}{body:eO}(T:Base K cl mg cons tb)(A:dD P w ⟨K,cl⟩ mg base k fs)(F:Ec K x qual st f fd)(hS:bB N ps (ah st)=true)
  (hc:bJ ⟨N,ah st,fs.map (λr=>(r.1,r.2.1)),cons,tb⟩ body (aJ st)=true):fR P w K mg base zx (k+2) f fd ps (uJ ⟨K,cl⟩ ps.length (kW (look fs) N.length body)):=by
 have S:=As hS;refine F.ok S (λvs H Q E h=>?_) (λcdv A' outer s H vs Q E hr h=>?_)
 ·obtain⟨ρ,h,ws,h1,_,h2,_⟩:=h;rw[<-h2.length,h1]
 ·obtain⟨ρ,h,ws,hl,r,hv,p⟩:=h
  have lv:=hv.length
  let X:Cx:=(uo zx P w K mg base N qual (ah st) f cdv A' outer s H E).J1
  have c:HN (look fs) ⟨N,ah st,fs.map (λr=>(r.1,r.2.1)),cons,tb⟩ k X cl (λ_ _ _=>False):=by
   refine { N:=rfl,sc:=rfl,calm:=rfl,room:=hr,lV:=λ_ _ _ z=>z,fns:=λj x n e=>?_,cls:=T.cls,GW:=T.GW,GX:=T.GX,isc:=T.isc,cons:=T.cons,blt:=T.blt,fn:=λ_=>rfl,nd:=S.nd,kind:=S.kind,xe:=PassesOwn.never };have e':(fs.map (λr=>(r.1,r.2.1)))[j]?=some (x,n):=e;rw[Tq]at e';cases er:fs[j]? with
   |none=>rw[er]at e';cases e'
   |some r=>rw[er]at e';cases e';have:=A j r er;unfold look;rw[er];exact this
  refine⟨_,Ar body _ k X cl _ (aJ st) c hc,ρ,ws.map some++replicate (N.length-ws.length) none,h,λi v e=>?_,?_,r,bz p λfl h1 ρ1 H1 g1 r1 p1=>?_⟩
  ·by_cases hi:i<ws.length
   ·rw[Tf (by simpa using hi)]at e
    rw[Tq]at e;cases ei:ws[i]? with
    |none=>rw[ei]at e;cases e
    |some w'=>rw[ei]at e;cases e;obtain⟨y,q1,q2⟩:=hv.get ei;refine⟨y,?_,q2⟩;show (vs.map some++_)[i]?=_;rw[Tf (by rw[S1,<-lv];exact hi),Tq,q1];rfl
   ·rw[Tw (by simp;omega)]at e;have:=Tr e;rw[Vg]at this;exact absurd this.2 (by simp)
  ·show _=(vs.map some++_).length;simp[lv]
  ·cases fl with
   |nx env'=>exact λσ' _ _=>ai r1 p1 _ VR.non
   |rt v=>exact(ai r1 p1:WV K Q v h1 ρ1 H1)
   |bk env'=>exact p1.elim
   |ct env'=>exact p1.elim
theorem _root_.Hv.JK.mono{j:Nat}{n:Nat}(g:JK P w B mg base k j x n φ):JK P w B mg base (k+2) j x n φ:=by
 have le:k<=k+2:=Nat.le_add_right _ _
 rcases g with ⟨h,⟨f,fd,ps,q1,q2,q3,q4,q5⟩|⟨c,f,fd,ps,φ0,q0,q1,q2,q3,q4,q5⟩⟩|⟨h,fd,ps,q1,q4,q5⟩
 ·exact .inl ⟨h,.inl ⟨f,fd,ps,q1,q2,q3,q4,q5.mono le⟩⟩
 ·exact .inl ⟨h,.inr ⟨c,f,fd,ps,φ0,q0,q1,q2,q3,q4,q5.mono le⟩⟩
 ·exact .inr ⟨h,fd,ps,q1,q4,q5.mono le⟩
theorem all_nil:dD P w ⟨K,cl⟩ mg base k []:=λj r e=>by simp at e
theorem C7{r0:Row}(A:dD P w ⟨K,cl⟩ mg base k fs)(g:JK P w ⟨K,cl⟩ mg base (k+2) fs.length r0.1 r0.2.1 r0.2.2):dD P w ⟨K,cl⟩ mg base (k+2) (fs++[r0]):=λj r e=>by
 by_cases hj:j<fs.length
 ·rw[Tf hj]at e;exact(A j r e).mono
 ·rw[Tw (by omega)]at e
  have hj0:j-fs.length=0:=by have:=(SW.mp e).1;simp at this;omega
  rw[hj0]at e;simp at e;subst e;rw[show j=fs.length by omega];exact g
theorem Au{x qual:Str}{st:Stmt}{f:Addr}{fd:FuncData}{N ps:List Str}{body:eO}(T:Base K cl mg cons tb)(A:dD P w ⟨K,cl⟩ mg base k fs)(F:Ec K x qual st f fd)(hm:mg x=some (.ref f))(hb:Binds K fd ps [])(Av:ps.length<1000)(hS:bB N ps (ah st)=true)
  (hc:bJ ⟨N,ah st,fs.map (λr=>(r.1,r.2.1)),cons,tb⟩ body (aJ st)=true):dD P w ⟨K,cl⟩ mg base (k+2) (fs++[(x,ps.length,kW (look fs) N.length body)]) :=
 C7 (r0:=(x,ps.length,kW (look fs) N.length body)) A (.inl ⟨Av,.inl ⟨f,fd,ps,rfl,hm,F.kp,hb,Et T A F hS hc⟩⟩)
end
def om(K:Frag)(x qual:Str)(st:Stmt)(f:Addr):Prop:=∃fd,Ec K x qual st f fd
section
variable {α:Type} {p:List α -> Prop}
theorem Qg:∀{us:List α},us.length=1->(∀a,p [a])->p us
 |[a],_,h=>h a
theorem ln2:∀{us:List α},us.length=2->(∀a b,p [a,b])->p us
 |[a,b],_,h=>h a b
theorem RC:∀{us:List α},us.length=3->(∀a b c,p [a,b,c])->p us
 |[a,b,c],_,h=>h a b c
theorem RD:∀{us:List α},us.length=4->(∀a b c d,p [a,b,c,d])->p us
 |[a,b,c,d],_,h=>h a b c d
end
def RE(x qual:Str)(st:Stmt)(ps:List Str):Prop:=∀(kV doc pm:Value) (an:Option Addr) (cdv ct:Value) (us:List Value),us.length=ps.length->bindArgs (fnOf x qual (j0 st) (aJ st) (ah st) .none kV doc pm an cdv ct) ⟨us,[]⟩=pure (ps.zip us)
section
variable {P:Program} {w:World} {K:Frag} {cl:Nat->Addr} {mg:Str->Option Value} {base:Heap} {k:Nat} {fs:List Row} {cons:List (Str×Val)} {tb:Tb} {x i y qual:Str} {st:Stmt} {f:Addr} {N ps:List Str} {body:eO} (T:Base K cl mg cons tb) (A:dD P w ⟨K,cl⟩ mg base k fs)
include T A
theorem cY(F:om K x qual st f)(hm:mg x=some (.ref f))(hS:bB N ps (ah st)=true)
  (hc:bJ ⟨N,ah st,fs.map (λr=>(r.1,r.2.1)),cons,tb⟩ body (aJ st)=true) (Av:ps.length<1000) (hb:RE x qual st ps):dD P w ⟨K,cl⟩ mg base (k+2) (fs++[(x,ps.length,kW (look fs) N.length body)]):=F.elim λ_ F=>Au T A F hm (F.binds hb) Av hS hc
end
theorem HY{K:Frag}{cl:Nat->Addr}{φ:List Val->M Val}{H:Hp}{a:Addr}{ns:List Int}(hO:zv H)(hS:fu K H a (ns.map V.int))(h:∃h',φ [.rl (ns.map .int)] []=.ok (.bl true) h') :
  uJ ⟨K,cl⟩ 1 φ [.ref a] H (λv _=>v=.bl true) λ_ _ _=>False:=by
 obtain⟨h',e⟩:=h;have sr:Ej K H a (ns.map V.int):=by
  rcases hS with (z|z)|z
  ·rcases hO a with y|⟨o,xs,y⟩
   ·rw[y]at z;cases z
   ·rw[y]at z;cases z
  ·exact .inl z
  ·exact .inr (.inr z)
 refine⟨[],[],[.rl (ns.map .int)],rfl,⟨rfl,Vu,λi o a e=>by simp at e⟩,au.cons (by rw[VR];exact⟨a,_,rfl,sr,au.ints.mpr rfl⟩) au.nil,?_⟩;rw[e];intro ρ' H' g r x q;rw[VR]at q;exact q
def Nt(K:Frag):Sp:=λvs H Q _=>∃(a:Addr) (ns:List Int),vs=[.ref a]/\zv H/\fu K H a (ns.map V.int)/\ns.length<=63/\∀H',Q (.bl true) H'
theorem HZ{K:Frag}{cl:Nat->Addr}{φ:List Val->M Val}(hφ:∀ns:List Int,ns.length<=63->∃h',φ [.rl (ns.map .int)] []=.ok (.bl true) h')(vs:List V)(H:Hp)(Q:VK)(E:XK)(h:Nt K vs H Q E):uJ ⟨K,cl⟩ 1 φ vs H Q E:=by
 obtain⟨a,ns,rfl,hO,hS,hl,hq⟩:=h;obtain⟨ρ,h,vs,q1,q2,q3,q4⟩:=HY (cl:=cl) hO hS (hφ ns hl);refine⟨ρ,h,vs,q1,q2,q3,?_⟩;revert q4;cases φ vs h with
 |ok v h'=>exact λq4 ρ' H' g r x hx=>by rw[show x=_ from q4 ρ' H' g r x hx];exact hq H'
 |exc c ws h'=>exact λq4=>q4
 |no=>exact λq4=>q4
theorem walk{l:PySem.W.OpenLaw}{q:Program}{loose:List Str}{XP:(Str->Option Value)->Heap->Prop}{YP:World->Heap->Prop}{d:DefRec}{K:Params->Frag}{k:Nat}{x:Str}(hn:l.most=some 63)(hdf:d.params.defaults=[])(hr:dH k callerA)
  (hY:∀(w:World) (h:Heap),YP w h->(K w.params).In h)
  (F:∀(w:World) (mg:Str->Option Value) (fa:Addr) (h:Heap),(K w.params).In h->h.Ns mainGlobals mg->mg d.name=some (.ref fa) ->
   ∃fd:FuncData,(∀(s:Shared) (u:Value),BindsTo s fd ⟨[u],[]⟩ [(x,u)])/\∀base:Heap,(K w.params).In base->base.Ns mainGlobals mg->fR l.prog w (K w.params) mg base zx k fa fd [x] (Nt (K w.params))) :
  PySem.W.WalkO q loose XP YP l.row.toRowW d [] (λf vs=>PySem.call f vs) :=
 L2.Cp (n:=63) (k:=k) (x:=x) (CX:=λ_=>zx) (sp:=λw=>Nt (K w.params)) hn (by decide) hdf hr hY F (λ_ _ a ns hl hO hS=>⟨a,ns,rfl,hO,hS,hl,λ_=>rfl⟩) λ_ _ _ _ _ z=>z
end Hv
end
section
namespace Hv
open PySem L2
inductive Pr (α:Type)
 |ok (a:α)|exc (c:Nat) (ds:List Val)|no
def pb{α β:Type}(m:Pr α)(f:α -> Pr β):Pr β:=match m with
 |.ok a=>f a
 |.exc c ds=>.exc c ds
 |.no=>.no
def pl{α:Type}(o:Option α):Pr α:=match o with
 |some a=>.ok a
 |none=>.no
def pg{α:Type}(c:Bool)(m:Pr α):Pr α:=if c=true then m else .no
inductive Mk
 |sh|nw|ow
def pD:Mk->Bool
 |.ow=>false
 |_=>true
def Ia:Mk->Bool
 |.nw=>true
 |_=>false
abbrev aK:=List (Option (Mk×Val))
abbrev FV:=Bool×Val
mutual
noncomputable def jU:Val->Bool
 |.rl _=>false
 |.dc _ _=>false
 |.ob _ _ _=>false
 |.ref _=>false
 |.tup vs=>bP vs
 |.non=>true
 |.bl _=>true
 |.int _=>true
 |.str _=>true
noncomputable def bP:List Val->Bool
 |[]=>true
 |v::vs=>jU v&&bP vs
end
def jH(f:Bool)(d:Val):Mk:=if (f && !jU d)=true then .nw else .sh
def putD(ks:List Key)(ds:List Val)(k:Key)(d:Val):Val:=.dc ((jo (ks.zip ds) k d).map (·.1)) ((jo (ks.zip ds) k d).map (·.2))
def jI:Eh->Val->Val->Pr FV
 |.add,.int a,.int b=>.ok (true,.int (a+b))
 |.add,.str a,.str b=>pg (decide (a.length+b.length<=sizeLine)) (.ok (true,.str (a++b)))
 |.add,.tup a,.tup b=>pg (!a.isEmpty&&decide (a.length+b.length<=sizeLine)) (.ok (bP (a++b),.tup (a++b)))
 |.add,.rl a,.rl b=>pg (decide (a.length+b.length<=sizeLine)) (.ok (bP (a++b),.rl (a++b)))
 |.sub,.int a,.int b=>.ok (true,.int (a-b))
 |.mul,.int a,.int b=>pg (eT a b) (.ok (true,.int (a*b)))
 |.fdiv,.int a,.int b=>pg (kR b) (.ok (true,.int (a/b)))
 |.mod,.int a,.int b=>pg (decide (0<b)) (.ok (true,.int (a%b)))
 |.pow,.int a,.int b=>pg (decide (0<=b/\b<=1000000/\a.natAbs<2 ^ 64)) (.ok (true,.int (a ^ b.toNat)))
 |_,_,_=>.no
def Aw(v:Val)(lo hi:Option Int):Pr FV:=match v with
 |.tup vs=>pg (!(decide (HT.cT vs.length 0 lo=0)&&decide (HT.cT vs.length vs.length hi=vs.length))) (.ok (bP (bU vs lo hi),.tup (bU vs lo hi)))
 |.rl vs=>.ok (bP (bU vs lo hi),.rl (bU vs lo hi))
 |_=>.no
def gk:Bl->List Val->Pr FV
 |.len,[v]=>pb (pl (j7 [] v)) λn=>.ok (true,.int n)
 |.min,[.int a,.int b]=>.ok (true,.int (if b<a then b else a))
 |.max,[.int a,.int b]=>.ok (true,.int (if b>a then b else a))
 |.min,[v]=>pb (pl (cF [] v)) λxs=>pb (pl ((aO xs).bind qB)) λm=>.ok (true,m)
 |.max,[v]=>pb (pl (cF [] v)) λxs=>pb (pl ((aO xs).bind qC)) λm=>.ok (true,m)
 |.sorted,[.rl xs]=>pb (pl (fG xs)) λys=>.ok (true,.rl ys)
 |.list,[v]=>pb (pl (cF [] v)) λxs=>.ok (bP xs,.rl xs)
 |.int,[.bl b]=>.ok (true,.int (if b=true then 1 else 0))
 |.int,[.int i]=>.ok (true,.int i)
 |.all,[.rl xs]=>pb (pl (dM xs)) λbs=>.ok (true,.bl (bs.all id))
 |.isin T,[v]=>pb (pl (se [] v)) λt=>pb (pl (sf T t)) λb=>.ok (true,.bl b)
 |_,_=>.no
def fT:Ik->List Val->Option (List Val)
 |.seq,[.tup vs]=>some vs
 |.seq,[.rl vs]=>some vs
 |.range,[.int n]=>if inR n then some (bY 0 n.toNat) else none
 |.range,[.int a,.int b]=>if inR a&&inR b then some (bY a (b-a).toNat) else none
 |.enum,[.rl vs]=>some (bW 0 vs)
 |_,_=>none
def Ax(k:Ik)(ds:List Val):Option (List Val):=match k with
 |.zip=>none
 |k=>fT k ds
def bq:List Nat->List Val->aK->Option aK
 |[],[],env=>some env
 |i::is,d::ds,env=>bq is ds (env.set i (some (.sh,d)))
 |_,_,_=>none
def cZ:uF->Val->aK->Option aK
 |.one i,d,env=>some (env.set i (some (.sh,d)))
 |.tup is,.tup ds,env=>bq is ds env
 |_,_,_=>none
def iD(js:List (Option Nat))(env:aK):aK:=js.map λo=>match o with
 |none=>none
 | some j=>match env[j]? with
  |some (some d)=>some d
  |_=>none
def f6(f:Val->Pr (Option FV)):List Val->Pr (Bool×List Val)
 |[]=>.ok (true,[])
 |x::r=>pb (f x) λo=>pb (f6 f r) λp=>.ok (match o with|some e=>(e.1&&p.1,e.2::p.2)|none=>p)
def nF:Val->Pr Bool
 |.bl b=>.ok b
 |_=>.no
def gm(env:aK):IE->Option FV
 | .var i=>match env[i]? with
  |some (some (_,d))=>some (jU d,d)
  |_=>none
 |_=>none
def isVar:IE->Bool
 |.var _=>true
 |_=>false
mutual
noncomputable def aT(Ψ:Nat->List Val->Pr FV):IE->aK->Pr FV
 | .var i,env=>match env[i]? with
  |some (some (m,d))=>pg (pD m) (.ok (jU d,d))
  |_=>.no
 |.cst d,_=>.ok (jU d,d)
 |.con _ d,_=>.ok (jU d,d)
 |.no,_=>.no
 |.bin o a b,env=>pb (if isVar a=true then pl (gm env a) else aT Ψ a env) λx=>pb (if isVar b=true then pl (gm env b) else aT Ψ b env) λy=>jI o x.2 y.2
 |.neg _,_=>.no
 |.cmp o a b,env=>pb (if isVar a=true then pl (gm env a) else aT Ψ a env) λx=>pb (if isVar b=true then pl (gm env b) else aT Ψ b env) λy=>pb (pl (cop [] o x.2 y.2)) λt=>.ok (true,.bl t)
 |.chn _ _ _ _ _,_=>.no
 |.and a b,env=>pb (aT Ψ a env) λx=>pb (nF x.2) λt=>if t=true then pb (aT Ψ b env) λy=>pb (nF y.2) λu=>.ok (true,.bl u) else .ok (true,.bl false)
 |.or a b,env=>pb (aT Ψ a env) λx=>pb (nF x.2) λt=>if t=true then .ok (true,.bl true) else pb (aT Ψ b env) λy=>pb (nF y.2) λu=>.ok (true,.bl u)
 |.not a,env=>pb (aT Ψ a env) λx=>pb (nF x.2) λt=>.ok (true,.bl (!t))
 |.ite _ _ _,_=>.no
 |.tup es,env=>pb (sQ Ψ es env) λp=>pg (decide (p.2.length<=sizeLine)) (.ok (p.1,.tup p.2))
 |.lst es,env=>pb (sQ Ψ es env) λp=>pg (decide (p.2.length<=sizeLine)) (.ok (p.1,.rl p.2))
 |.idx a b,env=>pb (if isVar a=true then pl (gm env a) else aT Ψ a env) λx=>pb (aT Ψ b env) λy=>pb (pl (iF [] x.2 y.2)) λz=>.ok (jU z,z)
 |.slc a lo hi,env=>pb (if isVar a=true then pl (gm env a) else aT Ψ a env) λx=>pb (if cJ lo=true then .ok none else pb (aT Ψ lo env) λv=>pb (pl (fH v.2)) λi=>.ok (some i)) λl=>
   pb (if cJ hi=true then .ok none else pb (aT Ψ hi env) λv=>pb (pl (fH v.2)) λi=>.ok (some i)) λu=>Aw x.2 l u
 |.call j es,env=>pb (sQ Ψ es env) λp=>Ψ j p.2
 |.blt b es,env=>pb (gn Ψ es env) λds=>gk b ds
 | .met m a es,env=>match m with
  |.join=>.no
  |_=>.no
 | .comp _ js pat k it c elt,env=>pb (gn Ψ it env) λits=>pb (pl (Ax k its)) λxs=>pg (decide (xs.length<=100000))
   (pb (f6 (λd=>pb (pl (cZ pat d (iD js env))) λenv'=>pb (if cJ c=true then .ok true else pb (aT Ψ c env') λv=>pl (cI [] v.2)) λt=>
    if t=true then pb (aT Ψ elt env') λe=>.ok (some e) else .ok none) xs) λp=>.ok (p.1,.rl p.2))
 |.dct0,_=>.ok (true,.dc [] [])
 |.sset _,_=>.no
 |.dget d k x,env=>pb (if isVar d=true then pl (gm env d) else aT Ψ d env) λo=>pb (pl (zM [] o.2)) λ_=>pb (aT Ψ k env) λi=>pb (pl (keyOf i.2)) λkk=>pb (aT Ψ x env) λz=>pb (pl (kT [] o.2 kk)) λr=>.ok (jU (r.getD z.2),r.getD z.2)
 |.dct1 k v,env=>pb (aT Ψ k env) λx=>pb (pl (keyOf x.2)) λkk=>pb (aT Ψ v env) λy=>.ok (y.1,.dc [kk] [y.2])
 |.lkeys d,env=>pb (if isVar d=true then pl (gm env d) else aT Ψ d env) λo=>pb (pl (j6 [] o.2)) λks=>.ok (true,.rl (ks.map zN))
 |.sdef ..,_=>.no
 |.svals _,_=>.no
 |.skeys d,env=>pb (if isVar d=true then pl (gm env d) else aT Ψ d env) λo=>pb (pl (kU [] o.2)) λns=>.ok (true,.rl (ns.map .int))
 |.fld _ _ _,_=>.no
 |.mth _ _ _ _,_=>.no
 | .rev a _,env=>pb (if isVar a=true then pl (gm env a) else aT Ψ a env) λx=>match x.2 with
  |.rl xs=>pb (pl (aO xs)) λns=>pg (decide (ns.length<64)) (.ok (true,.rl ((sortI ns).reverse.map .int)))
  |_=>.no
 |.dflt _ _ _ _ d w,env=>pb (if isVar d=true then pl (gm env d) else aT Ψ d env) λo=>pb (if isVar w=true then pl (gm env w) else aT Ψ w env) λv=>pb (pl (x8 [] o.2 v.2)) λps=>.ok (bP (ps.map (·.2)),.dc (ps.map (·.1)) (ps.map (·.2)))
 |.isc _ _ _,_=>.no
noncomputable def sQ(Ψ:Nat->List Val->Pr FV):jD->aK->Pr (Bool×List Val)
 |.nil,_=>.ok (true,[])
 |.cons e es,env=>pb (aT Ψ e env) λd=>pb (sQ Ψ es env) λp=>.ok (d.1&&p.1,d.2::p.2)
noncomputable def gn(Ψ:Nat->List Val->Pr FV):jD->aK->Pr (List Val)
 |.nil,_=>.ok []
 |.cons e es,env=>pb (if isVar e=true then pl (gm env e) else aT Ψ e env) λd=>pb (gn Ψ es env) λp=>.ok (d.2::p)
end
def Qh(Ψ:Nat->List Val->Pr FV)(e:IE)(env:aK):Pr FV:=if isVar e=true then pl (gm env e) else aT Ψ e env
inductive we
 |nx (env:aK)|rt (p:FV)|bk (env:aK)|ct (env:aK)
mutual
noncomputable def oq:IS->List Nat
 |.expr (.met .append (.var i) _)=>[i]
 |.expr (.met .extend (.var i) _)=>[i]
 |.j4 (.var i) _ _=>[i]
 |.iff _ a b=>gx a++gx b
 |.for _ _ _ b=>gx b
 |.whl _ _ b=>gx b
 |_=>[]
noncomputable def gx:eO->List Nat
 |.nil=>[]
 |.cons s r=>oq s++gx r
end
def stored:uF->List Nat
 |.one i=>[i]
 |.tup is=>is
mutual
noncomputable def l5:IS->List Nat
 |.asg p _=>stored p
 |.aug i _ _=>[i]
 |.iff _ a b=>jy a++jy b
 |.for p _ _ b=>stored p++jy b
 |.whl _ _ b=>jy b
 |_=>[]
noncomputable def jy:eO->List Nat
 |.nil=>[]
 |.cons s r=>l5 s++jy r
end
def OP:IE->Bool
 |.lst _=>true
 |.comp ..=>true
 |.slc ..=>true
 |.blt .list _=>true
 |.blt .sorted _=>true
 |.dct0=>true
 |.dct1 ..=>true
 |_=>false
def gy(body:Val->aK->Pr we):List Val->aK->Pr we
 |[],env=>.ok (.nx env)
 | x::r,env=>pb (body x env) λf=>match f with
  |.nx env'=>gy body r env'
  |.ct env'=>gy body r env'
  |.bk env'=>.ok (.nx env')
  |.rt p=>.ok (.rt p)
def Qi:Mk->Mk
 |.ow=>.sh
 |m=>m
def Qj:Option (Mk×Val)->Option (Mk×Val)
 |none=>none
 |some (m,d)=>some (Qi m,d)
def jT(env:aK):aK:=env.map Qj
def C8(env:aK):jD->Option (Val×Val)
 | .cons (.var i) #[.var j]=>match env[i]?,env[j]? with
  |some (some (.nw,d)),some (some (.nw,e))=>some (d,e)
  |_,_=>none
 |_=>none
def C9(Ψ:Nat->List Val->Pr FV)(es:jD)(env:aK):Pr FV:=match C8 env es with
 |some p=>.ok (true,.tup [p.1,p.2])
 |none=>aT Ψ (.tup es) (jT env)
def Nu(Ψ:Nat->List Val->Pr FV)(e:IE)(env:aK):Pr FV:=match e with
 | .var i=>match env[i]? with
  | some (some (m,d))=>if pD m=true then .ok (jU d||Ia m,d) else match d with
   |.rl ds=>.ok (bP ds,.rl ds)
   |.dc ks ds=>.ok (bP ds,.dc ks ds)
   |_=>.no
  |_=>.no
 |.call j es=>aT Ψ (.call j es) (jT env)
 |.tup es=>C9 Ψ es env
 |e=>aT Ψ e env
def Ay(p:uF)(it:jD)(body:eO):Bool:=match it with
 |.cons (.var i) .nil=>!(gx body).contains i && !(jy body).contains i && !(stored p).contains i
 |_=>true
mutual
noncomputable def cz(Ψ:Nat->List Val->Pr FV)(ms:List Nat):IS->aK->Pr we
 | .expr e,env=>match e with
  | .met .append (.var i) #[a]=>match env[i]? with
   |some (some (.ow,.rl ds))=>pb (aT Ψ a env) λx=>pg (decide (ds.length<sizeLine)) (.ok (.nx (env.set i (some (.ow,.rl (ds++[x.2]))))))
   |_=>.no
  | .met .extend (.var i) #[a]=>match env[i]? with
   | some (some (.ow,.rl ds))=>pb (aT Ψ a env) λx=>match x.2 with
    |.tup vs=>pg (decide (ds.length+vs.length<=sizeLine)) (.ok (.nx (env.set i (some (.ow,.rl (ds++vs))))))
    |_=>.no
   |_=>.no
  |e=>pb (aT Ψ e env) λ_=>.ok (.nx env)
 | .asg p e,env=>match p with
  | .one i=>if ms.contains i=true then pg (OP e) (pb (aT Ψ e env) λx=>match x.2 with
    |.rl ds=>.ok (.nx (env.set i (some (.ow,.rl ds))))
    |.dc ks ds=>.ok (.nx (env.set i (some (.ow,.dc ks ds))))
    |_=>.no) else pb (aT Ψ e env) λx=>.ok (.nx (env.set i (some (jH x.1 x.2,x.2))))
  |.tup is=>pg (is.all λi=>!ms.contains i) (pb (aT Ψ e env) λx=>pb (pl (cZ (.tup is) x.2 env)) λenv'=>.ok (.nx env'))
 |.aug _ _ _,_=>.no
 | .j4 o i v,env=>match o with
  | .var j=>pb (aT Ψ v env) λx=>match env[j]? with
   |some (some (.ow,.rl ds))=>pb (aT Ψ i env) λz=>pb (pl (fH z.2)) λk=>pb (pl (rR ds.length k)) λn=>.ok (.nx (env.set j (some (.ow,.rl (ds.set n x.2)))))
   |some (some (.ow,.dc ks ds))=>pb (aT Ψ i env) λz=>pb (pl (keyOf z.2)) λk=>pg (decide (ks.length<sizeLine)) (.ok (.nx (env.set j (some (.ow,putD ks ds k x.2)))))
   |_=>.no
  |_=>.no
 |.iff c a b,env=>pb (Qh Ψ c env) λx=>pb (pl (cI [] x.2)) λt=>if t=true then jz Ψ ms a env else jz Ψ ms b env
 |.for p k it body,env=>pg (Ay p it body&&(stored p).all λi=>!ms.contains i) (pb (gn Ψ it env) λits=>pb (pl (fT k its)) λxs=>
   gy (λx env=>pb (pl (cZ p x env)) λenv'=>jz Ψ ms body env') xs env)
 |.whl _ _ _,_=>.no
 |.ret e,env=>pb (Nu Ψ e env) λp=>.ok (.rt p)
 |.zL,_=>.ok (.rt (true,.non))
 |.brk,env=>.ok (.bk env)
 |.cnt,env=>.ok (.ct env)
 |.pass,env=>.ok (.nx env)
 |.never,_=>.no
 |.setF _ _ _ _,_=>.no
noncomputable def jz(Ψ:Nat->List Val->Pr FV)(ms:List Nat):eO->aK->Pr we
 |.nil,env=>.ok (.nx env)
 | .cons s r,env=>pb (cz Ψ ms s env) λf=>match f with
  |.nx env'=>jz Ψ ms r env'
  |f=>.ok f
end
def fU(Ψ:Nat->List Val->Pr FV)(n:Nat)(body:eO)(ds:List Val):Pr FV :=
 pb (jz Ψ (gx body) body (ds.map (λd=>some (.sh,d))++replicate (n-ds.length) none)) λf=>match f with
  |.nx _=>.ok (true,.non)
  |.rt p=>.ok p
  |_=>.no
abbrev AP:=Option Nat->Prop
def Fr(n:Nat):AP:=λo=>match o with
 |none=>False
 |some k=>n<=k
theorem Fr.le{n m:Nat}(h:n<=m):∀o,Fr m o->Fr n o
 |none,e=>e
 |some k,e=>Tt h e
mutual
noncomputable def Dn(A:AP)(h:Hs):Val->Val->Prop
 |.non,v=>v=.non
 |.bl b,v=>v=.bl b
 |.int i,v=>v=.int i
 |.str x,v=>v=.str x
 |.tup ds,v=>∃vs,v=.tup vs/\aq A h ds vs
 |.rl ds,v=>(∃vs,v=.rl vs/\A none/\aq A h ds vs)\/∃i vs,v=.ref i/\A (some i)/\h[i]?=some (.lst vs)/\aq A h ds vs
 |.dc ks ds,v=>∃i kvs,v=.ref i/\A (some i)/\h[i]?=some (.dct kvs)/\kvs.map (·.1)=ks/\aq A h ds (kvs.map (·.2))
 |.ob c xs ds,v=>∃i fs,v=.ref i/\A (some i)/\h[i]?=some (.ins c fs)/\fs.map (·.1)=xs/\aq A h ds (fs.map (·.2))
 |.ref _,_=>False
noncomputable def aq(A:AP)(h:Hs):List Val->List Val->Prop
 |[],vs=>vs=[]
 |d::ds,vs=>∃v r,vs=v::r/\Dn A h d v/\aq A h ds r
end
section
variable {A A':AP} {h h' h1:Hs}
mutual
theorem Dn.mono(hA:∀i,A i->A' i)(hh:∀(i:Nat) (o:Ob),A (some i)->h[i]?=some o->h'[i]?=some o):∀(d v:Val),Dn A h d v->Dn A' h' d v
 |.non,v,e=>by rw[Dn]at e |-;exact e
 |.bl _,v,e=>by rw[Dn]at e |-;exact e
 |.int _,v,e=>by rw[Dn]at e |-;exact e
 |.str _,v,e=>by rw[Dn]at e |-;exact e
 | .tup ds,v,e=>by
  rw[Dn]at e |-;obtain⟨vs,rfl,q⟩:=e;exact⟨vs,rfl,aq.mono hA hh ds vs q⟩
 | .rl ds,v,e=>by
  rw[Dn]at e |-
  rcases e with ⟨vs,rfl,n,q⟩|⟨i,vs,rfl,a,g,q⟩
  ·exact .inl ⟨vs,rfl,hA _ n,aq.mono hA hh ds vs q⟩
  ·exact .inr ⟨i,vs,rfl,hA _ a,hh i _ a g,aq.mono hA hh ds vs q⟩
 | .dc ks ds,v,e=>by
  rw[Dn]at e |-;obtain⟨i,kvs,rfl,a,g,k,q⟩:=e;exact⟨i,kvs,rfl,hA _ a,hh i _ a g,k,aq.mono hA hh ds _ q⟩
 | .ob c xs ds,v,e=>by
  rw[Dn]at e |-;obtain⟨i,kvs,rfl,a,g,k,q⟩:=e;exact⟨i,kvs,rfl,hA _ a,hh i _ a g,k,aq.mono hA hh ds _ q⟩
 |.ref _,v,e=>by rw[Dn]at e;exact e.elim
theorem aq.mono(hA:∀i,A i->A' i)(hh:∀(i:Nat) (o:Ob),A (some i)->h[i]?=some o->h'[i]?=some o):∀(ds vs:List Val),aq A h ds vs->aq A' h' ds vs
 |[],vs,e=>by rw[aq]at e |-;exact e
 | d::ds,vs,e=>by
  rw[aq]at e |-;obtain⟨v,r,rfl,q1,q2⟩:=e;exact⟨v,r,rfl,Dn.mono hA hh d v q1,aq.mono hA hh ds r q2⟩
end
theorem bC{i:Nat}(p:h<+:h')(e:h[i]?=some o):h'[i]?=some o:=by
 obtain⟨t,rfl⟩:=p;have hi:i<h.length:=(SW.mp e).1;rw[Tf hi];exact e
theorem Dn.ext(p:h<+:h')(e:Dn A h d v):Dn A h' d v:=Dn.mono (λ_ a=>a) (λ_ _ _ q=>bC p q) d v e
theorem aq.ext(p:h<+:h')(e:aq A h d v):aq A h' d v:=aq.mono (λ_ a=>a) (λ_ _ _ q=>bC p q) d v e
theorem Dn.dF(hA:∀i,A i->A' i)(e:Dn A h d v):Dn A' h d v:=Dn.mono hA (λ_ _ _ q=>q) d v e
theorem aq.dF(hA:∀i,A i->A' i)(e:aq A h d v):aq A' h d v:=aq.mono hA (λ_ _ _ q=>q) d v e
mutual
theorem g9:∀(d v:Val),jU d=true->(Dn A h d v↔v=d)
 |.non,v,_=>by rw[Dn]
 |.bl _,v,_=>by rw[Dn]
 |.int _,v,_=>by rw[Dn]
 |.str _,v,_=>by rw[Dn]
 | .tup ds,v,e=>by
  rw[jU]at e;rw[Dn];constructor
  ·rintro⟨vs,rfl,q⟩;rw[(aP ds vs e).mp q]
  ·rintro rfl;exact⟨ds,rfl,(aP ds ds e).mpr rfl⟩
 |.rl _,v,e=>by rw[jU]at e;cases e
 |.dc _ _,v,e=>by rw[jU]at e;cases e
 |.ob _ _ _,v,e=>by rw[jU]at e;cases e
 |.ref _,v,e=>by rw[jU]at e;cases e
theorem aP:∀(ds vs:List Val),bP ds=true->(aq A h ds vs↔vs=ds)
 |[],vs,_=>by rw[aq]
 | d::ds,vs,e=>by
  rw[bP,Ul]at e;rw[aq];constructor
  ·rintro⟨v,r,rfl,q1,q2⟩;rw[(g9 d v e.1).mp q1,(aP ds r e.2).mp q2]
  ·rintro rfl;exact⟨d,ds,rfl,(g9 d d e.1).mpr rfl,(aP ds ds e.2).mpr rfl⟩
end
theorem aq.nil:aq A h [] []:=by rw[aq]
theorem aq.cons{d v:Val}{ds vs:List Val}(a:Dn A h d v)(b:aq A h ds vs):aq A h (d::ds) (v::vs):=by rw[aq];exact⟨v,vs,rfl,a,b⟩
theorem aq.length:∀{ds vs:List Val},aq A h ds vs->ds.length=vs.length
 |[],vs,e=>by rw[aq]at e;subst e;rfl
 |d::ds,vs,e=>by rw[aq]at e;obtain⟨v,r,rfl,_,q⟩:=e;simp[aq.length q]
theorem aq.get:∀{ds vs:List Val} {i:Nat} {d:Val},aq A h ds vs->ds[i]?=some d->∃v,vs[i]?=some v/\Dn A h d v
 |[],vs,i,d,e,q=>by simp at q
 | c::ds,vs,0,d,e,q=>by
  rw[aq]at e;obtain⟨v,r,rfl,a,_⟩:=e;simp at q;subst q;exact⟨v,rfl,a⟩
 | c::ds,vs,i+1,d,e,q=>by
  rw[aq]at e;obtain⟨v,r,rfl,_,b⟩:=e;simp at q;obtain⟨w,q1,q2⟩:=aq.get b q;exact⟨w,by simpa using q1,q2⟩
theorem aq.append:∀{ds es vs ws:List Val},aq A h ds vs->aq A h es ws->aq A h (ds++es) (vs++ws)
 |[],es,vs,ws,e,q=>by rw[aq]at e;subst e;exact q
 | d::ds,es,vs,ws,e,q=>by
  rw[aq]at e;obtain⟨v,r,rfl,a,b⟩:=e;exact aq.cons a (aq.append b q)
theorem aq.take:∀{ds vs:List Val} (n:Nat),aq A h ds vs->aq A h (ds.take n) (vs.take n)
 |_,_,0,_=>by simp;exact aq.nil
 |[],vs,n+1,e=>by rw[aq]at e;subst e;simp;exact aq.nil
 | d::ds,vs,n+1,e=>by
  rw[aq]at e;obtain⟨v,r,rfl,a,b⟩:=e;exact aq.cons a (aq.take n b)
theorem aq.drop:∀{ds vs:List Val} (n:Nat),aq A h ds vs->aq A h (ds.drop n) (vs.drop n)
 |_,_,0,e=>by simpa using e
 |[],vs,n+1,e=>by rw[aq]at e;subst e;simp;exact aq.nil
 | d::ds,vs,n+1,e=>by
  rw[aq]at e;obtain⟨v,r,rfl,a,b⟩:=e;exact aq.drop n b
theorem aq.cut(lo hi:Option Int)(e:aq A h ds vs):aq A h (bU ds lo hi) (bU vs lo hi):=by
 unfold bU;rw[e.length];exact aq.take _ (aq.drop _ e)
theorem aq.set:∀{ds vs:List Val} (n:Nat) {d v:Val},aq A h ds vs->Dn A h d v->aq A h (ds.set n d) (vs.set n v)
 |[],vs,n,d,v,e,q=>by rw[aq]at e;subst e;simp;exact aq.nil
 | c::ds,vs,0,d,v,e,q=>by
  rw[aq]at e;obtain⟨w,r,rfl,a,b⟩:=e;exact aq.cons q b
 | c::ds,vs,n+1,d,v,e,q=>by
  rw[aq]at e;obtain⟨w,r,rfl,a,b⟩:=e;exact aq.cons a (aq.set n b q)
theorem aq.gU{i:Int}(e:aq A h ds vs)(q:L2.gU ds i=some d):∃v,L2.gU vs i=some v/\Dn A h d v:=by
 unfold L2.gU at q |-;rw[e.length]at q;cases hi:L2.rR vs.length i with
 |none=>rw[hi]at q;cases q
 |some n=>rw[hi]at q;exact aq.get e q
def OD(A:AP)(h:Hs)(d:Val)(a:Nat):Prop:=match d with
 |.rl ds=>∃vs,h[a]?=some (.lst vs)/\aq A h ds vs
 |.dc ks ds=>∃kvs,h[a]?=some (.dct kvs)/\kvs.map (·.1)=ks/\aq A h ds (kvs.map (·.2))
 |_=>False
theorem OD.mono{a:Nat}(e:OD A h d a)(ho:∀o,h[a]?=some o->h'[a]?=some o)(hq:∀ds vs,aq A h ds vs->aq A' h' ds vs):OD A' h' d a:=by
 cases d with
 |rl ds=>obtain⟨vs,g,q⟩:=e;exact⟨vs,ho _ g,hq _ _ q⟩
 |dc ks ds=>obtain⟨kvs,g,k,q⟩:=e;exact⟨kvs,ho _ g,k,hq _ _ q⟩
 |_=>exact False.elim e
theorem OD.ext{a:Nat}(p:h<+:h')(e:OD A h d a):OD A h' d a:=e.mono (λ_ g=>bC p g) λ_ _ q=>q.ext p
theorem OD.lt{a:Nat}(e:OD A h d a):a<h.length:=by
 cases d with
 |rl ds=>obtain⟨vs,g,q⟩:=e;exact(SW.mp g).1
 |dc ks ds=>obtain⟨kvs,g,k,q⟩:=e;exact(SW.mp g).1
 |_=>exact False.elim e
theorem OD.dn{a:Nat}(e:OD A h d a)(ha:A (.some a)):Dn A h d (.ref a):=by
 cases d with
 |rl ds=>obtain⟨vs,g,q⟩:=e;rw[Dn];exact .inr ⟨a,vs,rfl,ha,g,q⟩
 |dc ks ds=>obtain⟨kvs,g,k,q⟩:=e;rw[Dn];exact⟨a,kvs,rfl,ha,g,k,q⟩
 |_=>exact False.elim e
def OB(A:AP)(h:Hs)(d:Val)(o:Ob):Prop:=match d with
 |.rl ds=>∃vs,o=.lst vs/\aq A h ds vs
 |.dc ks ds=>∃kvs,o=.dct kvs/\kvs.map (·.1)=ks/\aq A h ds (kvs.map (·.2))
 |_=>False
theorem OB.od{a:Nat}(e:OB A h d o)(g:h'[a]?=.some o)(hq:∀ds vs,aq A h ds vs->aq A' h' ds vs):OD A' h' d a:=by
 cases d with
 |rl ds=>obtain⟨vs,rfl,q⟩:=e;exact⟨vs,g,hq _ _ q⟩
 |dc ks ds=>obtain⟨kvs,rfl,k,q⟩:=e;exact⟨kvs,g,k,hq _ _ q⟩
 |_=>exact False.elim e
def DB(A:AP)(h:Hs)(d v:Val):Prop:=Dn A h d v\/∃i,v=.ref i/\OD A h d i
theorem DB.all(e:DB A h d v):Dn (λ_=>True) h d v:=by
 rcases e with e|⟨i,rfl,q⟩
 ·exact e.dF λ_ _=>trivial
 ·exact(q.mono (A':=λ_=>True) (λ_ g=>g) λ_ _ z=>z.dF λ_ _=>trivial).dn trivial
theorem DB.ext(p:h<+:h')(e:DB A h d v):DB A h' d v:=by
 rcases e with e|⟨i,rfl,q⟩
 ·exact .inl (e.ext p)
 ·exact .inr ⟨i,rfl,q.ext p⟩
theorem DB.dc(e:DB A h (.dc ks ds) v):∃i kvs,v=.ref i/\h[i]?=some (.dct kvs)/\kvs.map (·.1)=ks/\aq A h ds (kvs.map (·.2)):=by
 rcases e with e|⟨i,rfl,kvs,g,k,q⟩
 ·rw[Dn]at e;obtain⟨i,kvs,rfl,_,g,k,q⟩:=e;exact⟨i,kvs,rfl,g,k,q⟩
 ·exact⟨i,kvs,rfl,g,k,q⟩
theorem DB.lst(e:DB A h (.rl ds) v):∃vs,aA h v=some vs/\aq A h ds vs:=by
 rcases e with e|⟨i,rfl,vs,g,q⟩
 ·rw[Dn]at e
  rcases e with ⟨vs,rfl,_,q⟩|⟨i,vs,rfl,_,g,q⟩
  ·exact⟨vs,rfl,q⟩
  ·exact⟨vs,by simp[aA,g],q⟩
 ·exact⟨vs,by simp[aA,g],q⟩
theorem DB.seq(e:DB A h d v)(q:cF [] d=some ds):∃vs,cF h v=some vs/\aq A h ds vs:=by
 cases d with
 |tup es=>
  simp only[cF]at q;cases q
  rcases e with e|⟨_,_,e1⟩
  ·rw[Dn]at e;obtain⟨vs,rfl,q⟩:=e;exact⟨vs,rfl,q⟩
  ·exact False.elim e1
 |rl es=>simp only[cF,aA]at q;cases q;obtain⟨vs,q1,q2⟩:=e.lst;refine⟨vs,?_,q2⟩;cases v<;>first|(simp[aA]at q1;done)|exact q1
 |ref i=>simp[cF,aA]at q
 |_=>simp[cF,aA]at q
theorem DB.int{i:Int}(e:DB A h (.int i) v):v=.int i:=by
 rcases e with e|⟨_,_,e1⟩
 ·rw[Dn]at e;exact e
 ·exact False.elim e1
theorem DB.str(e:DB A h (.str i) v):v=.str i:=by
 rcases e with e|⟨_,_,e1⟩
 ·rw[Dn]at e;exact e
 ·exact False.elim e1
theorem DB.bl{i:Bool}(e:DB A h (.bl i) v):v=.bl i:=by
 rcases e with e|⟨_,_,e1⟩
 ·rw[Dn]at e;exact e
 ·exact False.elim e1
theorem DB.tup(e:DB A h (.tup ds) v):∃vs,v=.tup vs/\aq A h ds vs:=by
 rcases e with e|⟨_,_,e1⟩
 ·rw[Dn]at e;exact e
 ·exact False.elim e1
theorem qM:∀(n:Nat) (d v:Val) (p:PyData),Dn (λ_=>True) h d v->toD n [] d=some p->toD n h v=some p:=by
 intro n
 induction n with
 |zero=>intro d v p _ e;simp[toD]at e
 |succ n ih=>
  have all:∀(ds vs:List Val) (ps:List PyData),aq (λ_=>True) h ds vs->bf (toD n []) ds=some ps->bf (toD n h) vs=some ps:=by
   intro ds
   induction ds with
   |nil=>intro vs ps q e;rw[aq]at q;subst q;exact e
   |cons d ds RG=>intro vs ps q e;rw[aq]at q;obtain⟨v,r,rfl,q1,q2⟩:=q;simp only[bf]at e |-;obtain⟨x,e1,e⟩:=SS.mp e;obtain⟨xs,e2,e⟩:=SS.mp e;rw[ih d v x q1 e1,RG r xs q2 e2];exact e
  intro d v p q e;cases d with
  |non=>rw[Dn]at q;subst q;exact e
  |bl b=>rw[Dn]at q;subst q;exact e
  |int b=>rw[Dn]at q;subst q;exact e
  |str b=>rw[Dn]at q;subst q;exact e
  |tup ds=>rw[Dn]at q;obtain⟨vs,rfl,q⟩:=q;simp only[toD]at e |-;obtain⟨ps,e1,e⟩:=SS.mp e;rw[all ds vs ps q e1];exact e
  |rl ds=>
   rw[Dn]at q;simp only[toD]at e;obtain⟨ps,e1,e⟩:=SS.mp e
   rcases q with ⟨vs,rfl,_,q⟩|⟨i,vs,rfl,_,g,q⟩
   ·simp only[toD];rw[all ds vs ps q e1];exact e
   ·simp only[toD,aA,g,bind_some];rw[all ds vs ps q e1];exact e
  |dc ks ds=>simp[toD]at e
  |ob c xs ds=>simp[toD]at e
  |ref i=>rw[Dn]at q;exact q.elim
theorem Eu{b:Bool}(a:DB A h d v)(c:DB A h e w)(q:yR [] d e=some b):yR h v w=some b:=by
 unfold yR at q |-;obtain⟨x,e1,q⟩:=SS.mp q;obtain⟨y,e2,q⟩:=SS.mp q;rw[qM 16 d v x a.all e1,qM 16 e w y c.all e2];exact q
theorem Az(a:DB A h d v):mZ v=mZ d:=by
 rcases a with a|⟨i,rfl,q⟩
 ·cases d<;>rw[Dn]at a
  ·subst a;rfl
  ·subst a;rfl
  ·subst a;rfl
  ·subst a;rfl
  ·obtain⟨vs,rfl,_⟩:=a;rfl
  ·rcases a with ⟨vs,rfl,_⟩|⟨i,vs,rfl,_⟩<;>rfl
  ·obtain⟨i,kvs,rfl,_⟩:=a;rfl
  ·obtain⟨i,kvs,rfl,_⟩:=a;rfl
  ·exact a.elim
 ·cases d<;>first|exact False.elim q|rfl
theorem AA{b:Bool}(a:DB A h d v)(c:DB A h e w)(q:sd [] d e=some b):sd h v w=some b:=by
 have data:memD [] d e=some b->memD h v w=some b:=λq=>by
  unfold memD at q |-;obtain⟨x,e1,q⟩:=SS.mp q;obtain⟨y,e2,q⟩:=SS.mp q;rw[qM 16 e w x c.all e1,qM 16 d v y a.all e2];exact q
 exact data q
theorem AB{b:Bool}(a:DB A h d v)(c:DB A h e w)(q:Ei d e=some b):Ei v w=some b:=by
 cases e<;>first|(cases q;done)|skip
 ·have:w=.non:=by
   rcases c with c|⟨_,_,e1⟩
   ·rw[Dn]at c;exact c
   ·exact False.elim e1
  subst this;show some (mZ v)=_;rw[Az a];exact q
 ·have:=c.bl;subst this
  cases d<;>first|(cases q;done)|skip
  have:=a.bl;subst this;exact q
theorem Ib{b:Bool}(a:DB A h d v)(c:DB A h e w)(q:cop [] o d e=some b):cop h o v w=some b:=by
 cases o with
 |eq=>exact Eu a c q
 |ne=>obtain⟨x,e1,e2⟩:=TF.mp (show (yR [] d e).map _=some b from q);show (yR h v w).map _=_;rw[Eu a c e1];exact TR some e2
 |isn=>exact AB a c q
 |ntn=>obtain⟨x,e1,e2⟩:=TF.mp (show (Ei d e).map _=some b from q);show (Ei v w).map _=_;rw[AB a c e1];exact TR some e2
 |yQ=>exact AA a c q
 |nin=>obtain⟨x,e1,e2⟩:=TF.mp (show (sd [] d e).map _=some b from q);show (sd h v w).map _=_;rw[AA a c e1];exact TR some e2
 |lt=>obtain⟨i,j,rfl,rfl⟩:=iN (.inl rfl) q;have:=a.int;subst this;have:=c.int;subst this;exact q
 |le=>obtain⟨i,j,rfl,rfl⟩:=iN (.inr (.inl rfl)) q;have:=a.int;subst this;have:=c.int;subst this;exact q
 |gt=>obtain⟨i,j,rfl,rfl⟩:=iN (.inr (.inr (.inl rfl))) q;have:=a.int;subst this;have:=c.int;subst this;exact q
 |ge=>obtain⟨i,j,rfl,rfl⟩:=iN (.inr (.inr (.inr rfl))) q;have:=a.int;subst this;have:=c.int;subst this;exact q
theorem qN{b:Bool}(a:DB A h d v)(q:cI [] d=some b):cI h v=some b:=by
 cases d with
 |rl ds=>
  obtain⟨vs,q1,q2⟩:=a.lst;have l:=q2.length;have e:(!ds.isEmpty) = !vs.isEmpty:=by cases ds<;>cases vs<;>simp_all
  simp only[cI]at q;rw[e]at q;cases v<;>simp only[aA]at q1<;>first|(cases q1;done)|skip
  ·cases q1;exact q
  ·split at q1<;>cases q1;rename_i g;simp only[cI,g];exact q
 |tup ds=>
  obtain⟨vs,rfl,q2⟩:=a.tup;have l:=q2.length;have e:(!ds.isEmpty) = !vs.isEmpty:=by cases ds<;>cases vs<;>simp_all
  simp only[cI]at q |-;rw[<-e];exact q
 |dc ks ds=>obtain⟨i,kvs,rfl,g,hk,_⟩:=a.dc;subst hk;simp only[cI,g]at q |-;rw[<-q];cases kvs<;>rfl
 |ob c xs ds=>cases q
 |ref i=>
  rcases a with a|⟨_,_,e1⟩
  ·rw[Dn]at a;exact a.elim
  ·exact False.elim e1
 |non=>
  rcases a with a|⟨_,_,e1⟩
  ·rw[Dn]at a;subst a;exact q
  ·exact False.elim e1
 |bl b=>have:=a.bl;subst this;exact q
 |int b=>have:=a.int;subst this;exact q
 |str b=>have:=a.str;subst this;exact q
theorem Ic{n:Nat}(a:DB A h d v)(q:j7 [] d=some n):j7 h v=some n:=by
 cases d with
 |rl ds=>
  obtain⟨vs,q1,q2⟩:=a.lst;have l:=q2.length;simp only[j7]at q;rw[l]at q;cases v<;>simp only[aA]at q1<;>first|(cases q1;done)|skip
  ·cases q1;exact q
  ·split at q1<;>cases q1;rename_i g;simp only[j7,g];exact q
 |tup ds=>obtain⟨vs,rfl,q2⟩:=a.tup;simp only[j7]at q |-;rw[<-q2.length];exact q
 |dc ks ds=>obtain⟨i,kvs,rfl,g,hk,_⟩:=a.dc;subst hk;simp only[j7,g]at q |-;rw[<-q];simp
 |str b=>have:=a.str;subst this;exact q
 |_=>simp[j7]at q
theorem LB{t:String}(a:DB A h d v)(q:se [] d=some t):se h v=some t:=by
 cases d with
 |rl ds=>
  obtain⟨vs,q1,q2⟩:=a.lst;cases v<;>simp only[aA]at q1<;>first|(cases q1;done)|skip
  ·exact q
  ·split at q1<;>cases q1;rename_i g;simp only[se,g];exact q
 |tup ds=>obtain⟨vs,rfl,q2⟩:=a.tup;exact q
 |dc ks ds=>obtain⟨i,kvs,rfl,g,hk,_⟩:=a.dc;simp only[se,g]at q |-;exact q
 |ob c xs ds=>cases q
 |ref i=>
  rcases a with a|⟨_,_,e1⟩
  ·rw[Dn]at a;exact a.elim
  ·exact False.elim e1
 |non=>
  rcases a with a|⟨_,_,e1⟩
  ·rw[Dn]at a;subst a;exact q
  ·exact False.elim e1
 |bl b=>have:=a.bl;subst this;exact q
 |int b=>have:=a.int;subst this;exact q
 |str b=>have:=a.str;subst this;exact q
theorem kh:∀{kvs:List (Key×Val)} {ks:List Key} {ds:List Val} {z:Val},kvs.map (·.1)=ks->aq A h ds (kvs.map (·.2))->bN (ks.zip ds) k=some z->∃v,bN kvs k=some v/\Dn A h z v
 |[],ks,ds,z,hk,q,e=>by subst hk;simp[bN]at e
 | (k',v')::kvs,ks,ds,z,hk,q,e=>by
  subst hk;have l:=q.length;cases ds with
  |nil=>simp at l
  |cons d ds=>
   simp only[map_cons]at q;rw[aq]at q;obtain⟨v,r,e1,q1,q2⟩:=q;cases e1
   by_cases hkk:k'=k
   ·subst hkk;simp[bN]at e |-;subst e;exact q1
   ·have e':bN ((kvs.map (·.1)).zip ds) k=some z:=by simpa [bN,hkk] using e
    obtain⟨w,a1,a2⟩:=kh rfl q2 e';exact⟨w,by simpa [bN,hkk] using a1,a2⟩
theorem DB.nG{j:Nat}(c:DB A h (.ref j) v):False:=by
 rcases c with c|⟨_,_,e1⟩
 ·rw[Dn]at c;exact c
 ·exact e1
theorem wg:∀{kvs:List (Key×Val)} {ds:List Val},aq A h ds (kvs.map (·.2))->bN ((kvs.map (·.1)).zip ds) k=none->bN kvs k=none
 |[],ds,q,e=>rfl
 | (k',v')::kvs,ds,q,e=>by
  cases ds with
  |nil=>rw[aq]at q;cases q
  |cons d ds=>
   rw[S5,aq]at q;obtain⟨v,r,eq,q1,q2⟩:=q;cases eq;unfold bN at e |-;rw[S5,zip_cons_cons,U9]at e;rw[U9]
   by_cases hk:k'=k
   ·simp[hk]at e
   ·simp only[hk,decide_false]at e |-;exact wg q2 e
theorem qO(a:Dn A h d v)(e:keyOf d=some kk):keyOf v=some kk:=by
 cases d<;>first|(cases e;done)|skip
 ·rw[Dn]at a;subst a;exact e
 ·rw[Dn]at a;subst a;exact e
theorem Ie(a:DB A h o v)(e:kT [] o k=some r):∃r',kT h v k=some r'/\∀z z',Dn A h z z'->Dn A h (r.getD z) (r'.getD z'):=by
 cases o<;>first|(cases e;done)|(exact(DB.nG a).elim)|skip
 rename_i ks ds;obtain⟨i,kvs,rfl,g,hk,q⟩:=a.dc;cases e;have eg:kT h (.ref i) k=some (bN kvs k):=by show (match h[i]? with|some (.dct kvs)=>some (bN kvs k)|_=>none)=_;rw[g]
 refine⟨_,eg,λz z' hz=>?_⟩;cases ev:bN (ks.zip ds) k with
 |none=>subst hk;rw[wg q ev];exact hz
 |some d=>obtain⟨u,e1,e2⟩:=kh hk q ev;rw[e1];exact e2
theorem ki(a:DB A h o v)(e:j6 [] o=some ks):j6 h v=some ks:=by
 cases o<;>first|(cases e;done)|(exact(DB.nG a).elim)|skip
 obtain⟨i,kvs,rfl,g,hk,q⟩:=a.dc;cases e;show (match h[i]? with|some (.dct kvs)=>some (kvs.map (λkv:Key×Val=>kv.1))|_=>none)=_;rw[g];exact TR some hk
theorem kj:∀ks:List Key,bP (ks.map zN)=true
 |[]=>rfl
 |.inl _::ks=>by rw[S5,bP,kj ks];rfl
 |.inr _::ks=>by rw[S5,bP,kj ks];rfl
theorem Dc{u:Unit}(a:DB A h o v)(e:zM [] o=some u):zM h v=some u:=by
 cases o<;>first|(cases e;done)|(exact(DB.nG a).elim)|skip
 obtain⟨i,kvs,rfl,g,hk,q⟩:=a.dc;show (match h[i]? with|some (.dct _)=>some ()|_=>none)=_;rw[g]
theorem Ig(a:DB A h d v)(c:Dn A h e w)(q:iF [] d e=some z):∃u,iF h v w=some u/\Dn A h z u:=by
 cases e with
 |int i=>
  rw[Dn]at c;subst c;cases d with
  |str x=>
   have:=a.str;subst this;refine⟨z,q,?_⟩;change (if x.length<=sizeLine then (gU x.cps.toList i).map (λc=>Val.str ⟨[c].toArray⟩) else none)=some z at q;split at q
   ·obtain⟨c,_,rfl⟩:=TF.mp q;rw[Dn]
   ·cases q
  |tup ds=>obtain⟨vs,rfl,q2⟩:=a.tup;exact q2.gU q
  |rl ds=>
   obtain⟨vs,q1,q2⟩:=a.lst;obtain⟨u,q3,q4⟩:=q2.gU q;refine⟨u,?_,q4⟩;cases v<;>simp only[aA]at q1<;>first|(cases q1;done)|skip
   ·cases q1;exact q3
   ·split at q1<;>cases q1;rename_i g;unfold iF;simp only[aA,g,bind_some];exact q3
  |dc ks ds=>obtain⟨i',kvs,rfl,g,hk,q2⟩:=a.dc;obtain⟨u,q3,q4⟩:=kh hk q2 q;refine⟨u,?_,q4⟩;show (match h[i']? with|some (.dct kvs)=>bN kvs (.inl i)|_=>(aA h (.ref i')).bind λxs=>gU xs i)=_;rw[g];exact q3
  |ref j=>exact(DB.nG a).elim
  |_=>cases q
 |str x=>
  rw[Dn]at c;subst c;cases d with
  |dc ks ds=>obtain⟨i',kvs,rfl,g,hk,q2⟩:=a.dc;obtain⟨u,q3,q4⟩:=kh hk q2 q;refine⟨u,?_,q4⟩;show (match h[i']? with|some (.dct kvs)=>bN kvs (.inr x)|_=>none)=_;rw[g];exact q3
  |ref j=>exact(DB.nG a).elim
  |_=>cases q
 |_=>cases d<;>first|(cases q;done)|exact(DB.nG a).elim
end
def Up(A:AP)(h:Hs):Prop:=∀k,h.length<=k->A (some k)
def Rel(A:AP)(h:Hs){α β:Type}(R:α -> Hs -> β -> Prop)(o:Out β):Pr α -> Prop
 |.ok a=>∃b h',o=.ok b h'/\h<+:h'/\R a h' b
 |.exc c es=>∃ws h',o=.exc c ws h'/\h<+:h'/\aq A h' es ws
 |.no=>True
def RV(A:AP)(h:Hs):FV->Hs->Val->Prop:=λx h' v=>Dn A h' x.2 v/\(x.1=true->Dn (Fr h.length) h' x.2 v)
def RH(A:AP)(h:Hs):Bool×List Val->Hs->List Val->Prop:=λx h' v=>aq A h' x.2 v/\(x.1=true->aq (Fr h.length) h' x.2 v)
def OQ(A:AP):FV->Hs->Val->Prop:=λx h' v=>DB A h' x.2 v
def Dd(A:AP)(h:Hs):List Val->List Val->Prop
 |[],vs=>vs=[]
 |d::ds,vs=>∃v r,vs=v::r/\DB A h d v/\Dd A h ds r
def ER(A:AP)(aa:aK)(env:Env)(h:Hs):Prop:=∀(i:Nat) (f:Mk) (d:Val),aa[i]?=some (some (f,d)) ->
 if pD f=false then ∃a,env[i]?=some (some (.ref a))/\OD A h d a else ∃v,env[i]?=some (some v)/\Dn A h d v
section
variable {A:AP} {h h1:Hs} {α β γ δ:Type}
theorem Up.ext(u:Up A h)(p:h<+:h1):Up A h1:=λk hk=>u k (Tt p.length_le hk)
theorem ER.ext(e:ER A aa env h)(p:h<+:h1):ER A aa env h1:=λi f d q=>by
 have:=e i f d q;revert this;generalize pD f=t;intro this;cases t with
 |false=>rw[S7 rfl]at this |-;obtain⟨a,k2,k3⟩:=this;exact⟨a,k2,k3.ext p⟩
 |true=>rw[S8 (by decide)]at this |-;obtain⟨v,k1,k2⟩:=this;exact⟨v,k1,k2.ext p⟩
theorem af(r:Rel A h R (m h) p)(k:∀a h1 b,h<+:h1->R a h1 b->Rel A h1 R' (f b h1) (F a)):Rel A h R' (bnd m f h) (pb p F):=by
 unfold bnd;cases p with
 |ok a=>
  obtain⟨b,h1,e,q,r⟩:=r;rw[e];show Rel A h R' (f b h1) (F a);have:=k a h1 b q r;cases e2:F a with
  |ok c=>rw[e2]at this;obtain⟨d,h2,e3,q2,r2⟩:=this;exact⟨d,h2,e3,q.trans q2,r2⟩
  |exc c es=>rw[e2]at this;obtain⟨d,h2,e3,q2,r2⟩:=this;exact⟨d,h2,e3,q.trans q2,r2⟩
  |no=>trivial
 |exc c es=>obtain⟨ws,h1,e,q,r⟩:=r;rw[e];exact⟨ws,h1,rfl,q,r⟩
 |no=>trivial
theorem av(r:R a h b):Rel A h R (ret b h) (.ok a):=⟨b,h,rfl,Tg _,r⟩
theorem aZ(r:∀a,o=some a->∃b,o'=some b/\R a h b):Rel A h R (aS o' h) (pl o):=by
 cases o with
 |none=>trivial
 |some a=>obtain⟨b,rfl,q⟩:=r a rfl;exact⟨b,h,rfl,Tg _,q⟩
theorem bZ(r:∀a,o=some a->∃b,f h=some b/\R a h b):Rel A h R (ask f h) (pl o):=aZ r
theorem bO{c c':Bool}(e:c=true->c'=true)(r:c=true->Rel A h R (m h) p):Rel A h R (aI c' m h) (pg c p):=by
 unfold aI pg;cases c with
 |true=>rw[S7 (e rfl),S7 rfl];exact r rfl
 |false=>rw[S8 SV];trivial
theorem sR(r:Rel A h R o p)(k:∀a h' b,h<+:h'->R a h' b->R' a h' b):Rel A h R' o p:=by
 cases p with
 |ok a=>obtain⟨b,h',e,q,r⟩:=r;exact⟨b,h',e,q,k a h' b q r⟩
 |exc c es=>exact r
 |no=>trivial
theorem b9(o:Ob):h<+:h++[o]:=TZ _ _
theorem dY(o:Ob):(h++[o])[h.length]?=some o:=by simp
theorem e9{f:Bool}{h0:Hs}(u:Up A h)(p:h0<+:h)(q:aq A h xs vs)(g:f=true->aq (Fr h0.length) h xs vs):Rel A h (RV A h0) (new (.lst vs) h) (.ok (f,.rl xs)):=by
 refine⟨_,_,rfl,b9 _,?_,λhf=>?_⟩
 ·show Dn A _ (.rl xs) _;rw[Dn];exact .inr ⟨_,vs,rfl,u _ (S4 _),dY _,q.ext (b9 _)⟩
 ·show Dn _ _ (.rl xs) _;rw[Dn];exact .inr ⟨_,vs,rfl,p.length_le,dY _,(g hf).ext (b9 _)⟩
theorem nH{h0:Hs}(q:Dn A h d v):RV A h0 (jU d,d) h v:=⟨q,λhi=>(g9 d v hi).mpr ((g9 d v hi).mp q)⟩
theorem dZ(q:aq A h ds vs)(hi:bP ds=true):aq A' h' ds vs:=(aP ds vs hi).mpr ((aP ds vs hi).mp q)
theorem ic{i:Int}{h0:Hs}{f:Bool}:RV A h0 (f,.int i) h (.int i):=⟨by rw[Dn],λ_=>by rw[Dn]⟩
theorem lN{i:Bool}{h0:Hs}{f:Bool}:RV A h0 (f,.bl i) h (.bl i):=⟨by rw[Dn],λ_=>by rw[Dn]⟩
theorem Ih{h0:Hs}{f:Bool}:RV A h0 (f,.str i) h (.str i):=⟨by rw[Dn],λ_=>by rw[Dn]⟩
theorem RV.br{h0:Hs}(r:RV A h0 x h v):OQ A x h v:=.inl r.1
theorem De(ho:o≠.add)(v w:Val):(∃i j,v=.int i/\w=.int j)\/jI o v w=.no:=by
 cases v with
 |int i=>
  cases w with
  |int j=>exact .inl ⟨i,j,rfl,rfl⟩
  |_=>right;cases o<;>first|rfl|exact absurd rfl ho
 |_=>right;cases o<;>first|rfl|exact absurd rfl ho
theorem Df{h0:Hs}(u:Up A h)(p:h0<+:h)(a:DB A h d v)(c:DB A h e w):Rel A h (RV A h0) (JI o v w h) (jI o d e):=by
 have ii:o≠.add->(∃i j,d=.int i/\e=.int j)\/jI o d e=.no:=λho=>De ho d e;cases o with
 |add=>
  cases d<;>cases e<;>first|trivial|skip
  ·have:=a.int;subst this;have:=c.int;subst this;exact av ic
  ·have:=a.str;subst this;have:=c.str;subst this;exact bO (λz=>z) λ_=>av Ih
  ·rename_i xs ys
   obtain⟨vs,rfl,q1⟩:=a.tup;obtain⟨ws,rfl,q2⟩:=c.tup;have l1:=q1.length;have l2:=q2.length;refine bO (λz=>?_) λ_=>av ⟨?_,λhi=>?_⟩
   ·rw[l1,l2]at z
    have:xs.isEmpty=vs.isEmpty:=by cases xs<;>cases vs<;>simp_all
    rw[<-this];exact z
   ·show Dn A h (.tup _) _;rw[Dn];exact⟨_,rfl,q1.append q2⟩
   ·show Dn _ h (.tup _) _;rw[Dn];exact⟨_,rfl,dZ (q1.append q2) hi⟩
  ·rename_i xs ys
   obtain⟨vs,e1,q1⟩:=a.lst;obtain⟨ws,e2,q2⟩:=c.lst;have eb:JI .add v w=bnd (ask λh=>aA h v) λa=>bnd (ask λh=>aA h w) λb=>aI (decide (a.length+b.length<=sizeLine)) (new (.lst (a++b))):=by
    cases v<;>simp only[aA]at e1<;>first|(cases e1;done)|skip
    all_goals cases w<;>simp only[aA]at e2<;>first|(cases e2;done)|rfl
   have ev:JI .add v w h=aI (decide (vs.length+ws.length<=sizeLine)) (new (.lst (vs++ws))) h:=by rw[eb];unfold bnd ask aS;dsimp only;rw[e1];dsimp only;rw[e2]
   rw[ev];refine bO (λz=>?_) λ_=>e9 u p (q1.append q2) λhi=>dZ (q1.append q2) hi;rw[<-q1.length,<-q2.length];exact z
 |_=>
  rcases ii (by intro z;cases z) with ⟨i,j,rfl,rfl⟩|z
  case inr=>rw[z];trivial
  have:=a.int;subst this;have:=c.int;subst this
  first
   |exact av ic
   |exact bO (λz=>z) λ_=>av ic
theorem Dg{lo hi:Option Int}{h0:Hs}(u:Up A h)(p:h0<+:h)(a:DB A h d v):Rel A h (RV A h0) (oj v lo hi h) (Aw d lo hi):=by
 cases d with
 |tup ds=>
  obtain⟨vs,rfl,q⟩:=a.tup;have l:=q.length;simp only[Aw,oj];refine bO (λz=>?_) λ_=>av ⟨?_,λhi=>?_⟩
  ·rw[l]at z;exact z
  ·show Dn A h (.tup _) _;rw[Dn];exact⟨_,rfl,q.cut lo hi⟩
  ·show Dn _ h (.tup _) _;rw[Dn];exact⟨_,rfl,dZ (q.cut _ _) hi⟩
 |rl ds=>
  obtain⟨vs,e1,q⟩:=a.lst;have ev:oj v lo hi h=new (.lst (bU vs lo hi)) h:=by
   have:oj v lo hi=bnd (ask λh=>aA h v) λxs=>new (.lst (bU xs lo hi)):=by cases v<;>simp only[aA]at e1<;>first|(cases e1;done)|rfl
   rw[this];unfold bnd ask aS;dsimp only;rw[e1]
  rw[ev];exact e9 u p (q.cut lo hi) λhh=>dZ (q.cut lo hi) hh
 |_=>trivial
theorem Dd.one(e:Dd A h [d] vs):∃v,vs=[v]/\DB A h d v:=by
 obtain⟨v,r,rfl,a,b⟩:=e;cases (show r=[] from b);exact⟨v,rfl,a⟩
theorem Dh{ns:List Int}(q:aq A h ds vs)(e:aO ds=some ns):vs=ds:=by
 have:bP ds=true:=by
  clear q
  induction ds generalizing ns with
  |nil=>rfl
  |cons d ds ih=>
   simp only[aO,bf]at e;obtain⟨i,e1,e⟩:=SS.mp e;obtain⟨is,e2,e⟩:=SS.mp e;cases d<;>first|(cases e1;done)|skip
   rw[bP,jU,Uu];exact ih e2
 exact(aP ds vs this).mp q
theorem AD(q:aq A h ds vs)(e:dM ds=some ns):vs=ds:=by
 have:bP ds=true:=by
  clear q
  induction ds generalizing ns with
  |nil=>rfl
  |cons d ds ih=>
   simp only[dM,bf]at e;obtain⟨i,e1,e⟩:=SS.mp e;obtain⟨is,e2,e⟩:=SS.mp e;cases d<;>first|(cases e1;done)|skip
   rw[bP,jU,Uu];exact ih e2
 exact(aP ds vs this).mp q
theorem nI:∀{ds:List Val} {ns:List Int},aO ds=some ns->bP ds=true
 |[],_,_=>rfl
 | d::ds,ns,e=>by
  simp only[aO,bf]at e;obtain⟨i,e1,e⟩:=SS.mp e;obtain⟨is,e2,e⟩:=SS.mp e;cases d<;>first|(cases e1;done)|skip
  rw[bP,jU,Uu];exact nI (show aO ds=some is from e2)
theorem sS:∀{ds:List Val} {ns:List (List Int)},jw ds=some ns->bP ds=true
 |[],_,_=>rfl
 | d::ds,ns,e=>by
  simp only[jw,bf]at e;obtain⟨i,e1,e⟩:=SS.mp e;obtain⟨is,e2,e⟩:=SS.mp e;cases d<;>first|(cases e1;done)|skip
  rename_i vs;dsimp only at e1;split at e1
  ·cases e1
  ·rw[bP,jU,nI e1,Uu];exact sS (show jw ds=some is from e2)
theorem aW:∀ns:List Int,bP (ns.map .int)=true
 |[]=>rfl
 |n::ns=>by rw[S5,bP,jU,Uu];exact aW ns
theorem ko:∀mj:List (List Int),bP (mj.map jE)=true
 |[]=>rfl
 |n::ns=>by rw[S5,bP,jE,jU,aW,Uu];exact ko ns
theorem pF(e:fG xs=some ys):bP xs=true/\bP ys=true:=by
 unfold fG at e;split at e
 ·cases e2:aO xs with
  |some ns=>rw[e2]at e;cases e;exact⟨nI e2,aW _⟩
  |none=>rw[e2]at e;obtain⟨mj,e3,e4⟩:=SS.mp e;cases e4;exact⟨sS e3,ko _⟩
 ·cases e
theorem Di{h0:Hs}(u:Up A h)(p:h0<+:h)(a:Dd A h ds vs):Rel A h (RV A h0) (blt b vs h) (gk b ds):=by
 have mm:∀(f:List Int->Option Val) (d:Val),(∀ns m,f ns=some m->∃i,m=.int i)->∀v,DB A h d v->Rel A h (RV A h0) (bnd (ask λh=>cF h v) (λxs=>aS ((aO xs).bind f)) h) (pb (pl (cF [] d)) λxs=>pb (pl ((aO xs).bind f)) λm=>.ok (true,m)):=by
  intro f d hf v hv;refine af (R:=λxs h' ws=>aq A h' xs ws) (bZ λxs e=>hv.seq e) λxs h1 ws q1 q=>?_;have:aS ((aO ws).bind f) h1=bnd (aS ((aO ws).bind f)) (λm=>ret m) h1:=by unfold bnd aS;cases (aO ws).bind f<;>rfl
  rw[this];refine af (R:=λm _ m'=>m'=m/\∃i,m=.int i) (aZ λm e=>?_) λm h2 m' _ hm=>?_
  ·obtain⟨ns,e1,e2⟩:=SS.mp e;rw[Dh q e1];exact⟨m,e,rfl,hf ns m e2⟩
  ·obtain⟨rfl,i,rfl⟩:=hm;exact av ic
 have hmin:∀ns m,qB ns=some m->∃i,m=Val.int i:=λns m e=>by cases ns<;>simp[qB]at e;exact⟨_,e.symm⟩
 have OS:∀ns m,qC ns=some m->∃i,m=Val.int i:=λns m e=>by cases ns<;>simp[qC]at e;exact⟨_,e.symm⟩
 match ds,a with
 |[],a=>cases b<;>trivial
 |[d],a=>
  obtain⟨v,rfl,hv⟩:=a.one;cases b with
  |len=>exact af (R:=λn _ m=>m=n) (bZ λn e=>⟨n,Ic hv e,rfl⟩) λn h1 m _ e=>by subst e;exact av ic
  |min=>
   have e1:gk .min [d]=pb (pl (cF [] d)) λxs=>pb (pl ((aO xs).bind qB)) λm=>.ok (true,m):=by cases d<;>rfl
   have e2:blt .min [v]=bnd (ask λh=>cF h v) λxs=>aS ((aO xs).bind qB):=by cases v<;>rfl
   rw[e1,e2];exact mm qB d hmin v hv
  |max=>
   have e1:gk .max [d]=pb (pl (cF [] d)) λxs=>pb (pl ((aO xs).bind qC)) λm=>.ok (true,m):=by cases d<;>rfl
   have e2:blt .max [v]=bnd (ask λh=>cF h v) λxs=>aS ((aO xs).bind qC):=by cases v<;>rfl
   rw[e1,e2];exact mm qC d OS v hv
  |sorted=>
   cases d<;>first|trivial|skip
   rename_i xs;obtain⟨ws,e1,q⟩:=hv.lst;have ev:bnd (ask λh=>aA h v) (λxs=>bnd (aS (fG xs)) λys=>new (.lst ys)) h=bnd (aS (fG ws)) (λys=>new (.lst ys)) h:=by unfold bnd ask aS;dsimp only;rw[e1]
   show Rel A h (RV A h0) (bnd (ask λh=>aA h v) (λxs=>bnd (aS (fG xs)) λys=>new (.lst ys)) h) _;rw[ev];refine af (R:=λys _ zs=>zs=ys/\bP ys=true) (aZ λys e=>?_) λys h1 zs q1 hz=>?_
   ·obtain⟨i1,i2⟩:=pF e;rw[(aP xs ws i1).mp q];exact⟨ys,e,rfl,i2⟩
   ·obtain⟨rfl,hi⟩:=hz;exact e9 (u.ext q1) (p.trans q1) ((aP _ _ hi).mpr rfl) λ_=>(aP _ _ hi).mpr rfl
  |list=>refine af (R:=λxs h' ws=>aq A h' xs ws) (bZ λxs e=>hv.seq e) λxs h1 ws q1 q=>?_;exact e9 (u.ext q1) (p.trans q1) q λhi=>dZ q hi
  |tuple=>trivial
  |str=>trivial
  |int=>
   cases d<;>first|trivial|skip
   ·have:=hv.bl;subst this;exact av ic
   ·have:=hv.int;subst this;exact av ic
  |all=>
   cases d<;>first|trivial|skip
   rename_i xs;obtain⟨ws,e1,q⟩:=hv.lst;have ev:bnd (ask λh=>aA h v) (λxs=>bnd (aS (dM xs)) λbs=>ret (Val.bl (bs.all id))) h=bnd (aS (dM ws)) (λbs=>ret (Val.bl (bs.all id))) h:=by unfold bnd ask aS;dsimp only;rw[e1]
   show Rel A h (RV A h0) (bnd (ask λh=>aA h v) (λxs=>bnd (aS (dM xs)) λbs=>ret (Val.bl (bs.all id))) h) _;rw[ev];exact af (R:=λys _ zs=>zs=ys) (aZ λys e=>⟨ys,by rw[AD q e];exact e,rfl⟩) λys h1 zs q1 hz=>by subst hz;exact av lN
  |any=>trivial
  |isin T=>refine af (R:=λn _ m=>m=n) (bZ λn e=>⟨n,LB hv e,rfl⟩) λn h1 m _ e=>?_;subst e;exact af (R:=λn _ m=>m=n) (aZ λn e=>⟨n,e,rfl⟩) λn h1 m _ e=>by subst e;exact av lN
 |[d,e],a=>
  obtain⟨v,r,rfl,hv,hr⟩:=a;obtain⟨w,rfl,hw⟩:=Dd.one hr;cases b<;>first|trivial|(cases d<;>trivial)|skip
  ·cases d<;>cases e<;>first|trivial|skip
   have:=hv.int;subst this;have:=hw.int;subst this;exact av ic
  ·cases d<;>cases e<;>first|trivial|skip
   have:=hv.int;subst this;have:=hw.int;subst this;exact av ic
 |x::y::z::t,a=>cases b<;>first|trivial|(cases x<;>trivial)|(cases x<;>cases y<;>trivial)
end
def Imp(φ:List Val->M Val)(ψ:List Val->Pr FV):Prop:=∀(A:AP) (h:Hs) (ds vs:List Val),Up A h->aq A h ds vs->Rel A h (RV A h) (φ vs h) (ψ ds)
section
variable {Φ:Nat->List Val->M Val} {Ψ:Nat->List Val->Pr FV} {A:AP} {h h1:Hs}
theorem cg{x y:Bool}(f:(x&&y)=true):x=true/\y=true:=Bool.and_eq_true_iff.mp f
theorem l6{x y z:Bool}(f:(x&&y&&z)=true):(x=true/\y=true)/\z=true:=⟨cg (cg f).1,(cg f).2⟩
def bD(Φ:Nat->List Val->M Val)(Ψ:Nat->List Val->Pr FV)(ir:IE):Prop:=∀(aa:aK) (env:Env) (A:AP) (h:Hs),Up A h->ER A aa env h->Rel A h (RV A h) (aH Φ ir env h) (aT Ψ ir aa)
def jt(Φ:Nat->List Val->M Val)(Ψ:Nat->List Val->Pr FV)(dB:jD):Prop:=(∀(aa:aK) (env:Env) (A:AP) (h:Hs),Up A h->ER A aa env h->Rel A h (RH A h) (bg Φ dB env h) (sQ Ψ dB aa)) /\
 ∀(aa:aK) (env:Env) (A:AP) (h:Hs),Up A h->ER A aa env h->Rel A h (λds h' vs=>Dd A h' ds vs) (bg Φ dB env h) (gn Ψ dB aa)
theorem RV.up{h0 h':Hs}(p:h0<+:h)(r:RV A h x h' v):RV A h0 x h' v:=⟨r.1,λf=>(r.2 f).dF (Fr.le p.length_le)⟩
theorem Ii{h0:Hs}(p:h0<+:h)(r:Rel A h (RV A h) o x):Rel A h (RV A h0) o x:=sR r λ_ _ _ _ q=>q.up p
theorem LC{i:Nat}(e:ER A aa env h):Rel A h (OQ A) (aH Φ (.var i) env h) (pl (gm aa (.var i))):=by
 rw[aH];refine aZ λx hx=>?_;simp only[gm]at hx;split at hx
 ·rename_i f d hd
  cases hx;have:=e i f d hd;revert this;generalize pD f=t;intro this;cases t with
  |false=>rw[S7 rfl]at this;obtain⟨a,k2,k3⟩:=this;exact⟨.ref a,by rw[k2],.inr ⟨a,rfl,k3⟩⟩
  |true=>rw[S8 (by decide)]at this;obtain⟨v,k1,k2⟩:=this;exact⟨v,by rw[k1],.inl k2⟩
 ·cases hx
theorem jJ(o:bD Φ Ψ ir)(u:Up A h)(e:ER A aa env h):Rel A h (OQ A) (aH Φ ir env h) (if isVar ir=true then pl (gm aa ir) else aT Ψ ir aa):=by
 by_cases hv:isVar ir=true
 ·rw[S7 hv];cases ir<;>first|(cases hv;done)|exact LC e
 ·rw[S8 hv];exact sR (o aa env A h u e) λ_ _ _ _ q=>q.br
theorem Dj{α β:Type}{R:α -> Hs -> β -> Prop}{c:Bool}{o:Out β}{p:Pr α}(r:c=true->Rel A h R o p):Rel A h R o (pg c p):=by
 unfold pg;cases c with
 |true=>rw[S7 rfl];exact r rfl
 |false=>rw[S8 SV];trivial
theorem v_var{i:Nat}:bD Φ Ψ (.var i):=λaa env A h u e=>by
 rw[aH,aT];cases hv:aa[i]? with
 |none=>trivial
 |some o=>
  cases o with
  |none=>trivial
  |some fd=>
   obtain⟨f,d⟩:=fd;refine Dj λhf=>?_
   ·have:=e i f d hv;rw[S8 (by simp[hf])]at this;obtain⟨v,k1,k2⟩:=this;rw[k1];exact⟨v,h,rfl,Tg _,nH k2⟩
theorem Dk{α:Type}{f:Hs->Option α}:ask f h=bnd (ask f) (λz=>ret z) h:=by unfold bnd ask aS;cases f h<;>rfl
theorem wj(f:jU d=true):Dn A h d d:=(g9 d d f).mpr rfl
theorem LD(f:jU d=true):bD Φ Ψ (.cst d):=λaa env A h u e=>by rw[aH,aT];exact av (nH (wj f))
theorem LF(f:jU d=true):bD Φ Ψ (.con x d):=λaa env A h u e=>by rw[aH,aT];exact av (nH (wj f))
theorem OT:bD Φ Ψ .no:=λaa env A h u e=>by rw[aT];trivial
theorem LG(ha:bD Φ Ψ a)(hb:bD Φ Ψ b):bD Φ Ψ (.bin o a b):=λaa env A h u e=>by
 rw[aH,aT];exact af (jJ ha u e) λx h1 v p1 q1=>af (jJ hb (u.ext p1) (e.ext p1)) λy h2 w p2 q2=>Df ((u.ext p1).ext p2) (p1.trans p2) (DB.ext p2 q1) q2
theorem LH(ha:bD Φ Ψ a):bD Φ Ψ (.neg a):=λaa env A h u e=>by rw[aT];trivial
theorem LI(ha:bD Φ Ψ a)(hb:bD Φ Ψ b):bD Φ Ψ (.cmp o a b):=λaa env A h u e=>by
 rw[aH,aT];exact af (jJ ha u e) λx h1 v p1 q1=>af (jJ hb (u.ext p1) (e.ext p1)) λy h2 w p2 q2=>
  af (R:=λt _ t'=>t'=t) (bZ λt et=>⟨t,Ib (DB.ext p2 q1) q2 et,rfl⟩) λt h3 t' p3 et=>by subst et;exact av lN
theorem LJ(ha:bD Φ Ψ a)(hb:bD Φ Ψ b)(hc:bD Φ Ψ c):bD Φ Ψ (.chn o o' a b c):=λaa env A h u e=>by rw[aT];trivial
theorem iO(q:Dn A h d v):Rel A h (λt _ t'=>t'=t) (m5 v h) (nF d):=by
 cases d<;>first|trivial|skip
 rw[Dn]at q;subst q;exact av rfl
theorem v_and(ha:bD Φ Ψ a)(hb:bD Φ Ψ b):bD Φ Ψ (.and a b):=λaa env A h u e=>by
 rw[aH,aT];refine af (ha aa env A h u e) λx h1 v p1 q1=>af (iO q1.1) λt h2 t' p2 et=>?_;subst et;cases t' with
 |true=>rw[S7 rfl,S7 rfl];exact af (hb aa env A h2 ((u.ext p1).ext p2) ((e.ext p1).ext p2)) λy h3 w p3 q3=>af (iO q3.1) λt h2 t' p2 et=>by subst et;exact av lN
 |false=>rw[S8 SV,S8 SV];exact av lN
theorem v_or(ha:bD Φ Ψ a)(hb:bD Φ Ψ b):bD Φ Ψ (.or a b):=λaa env A h u e=>by
 rw[aH,aT];refine af (ha aa env A h u e) λx h1 v p1 q1=>af (iO q1.1) λt h2 t' p2 et=>?_;subst et;cases t' with
 |false=>rw[S8 SV,S8 SV];exact af (hb aa env A h2 ((u.ext p1).ext p2) ((e.ext p1).ext p2)) λy h3 w p3 q3=>af (iO q3.1) λt h2 t' p2 et=>by subst et;exact av lN
 |true=>rw[S7 rfl,S7 rfl];exact av lN
theorem v_not(ha:bD Φ Ψ a):bD Φ Ψ (.not a):=λaa env A h u e=>by
 rw[aH,aT];exact af (ha aa env A h u e) λx h1 v p1 q1=>af (iO q1.1) λt h2 t' p2 et=>by subst et;exact av lN
theorem v_ite(hc:bD Φ Ψ c)(ha:bD Φ Ψ a)(hb:bD Φ Ψ b):bD Φ Ψ (.ite c a b):=λaa env A h u e=>by rw[aT];trivial
theorem Ew:jt Φ Ψ .nil:=⟨λaa env A h u e=>by rw[bg,sQ];exact av ⟨aq.nil,λ_=>aq.nil⟩,λaa env A h u e=>by rw[bg,gn];exact av rfl⟩
theorem AE(he:bD Φ Ψ e)(hs:jt Φ Ψ es):jt Φ Ψ (.cons e es):=by
 refine⟨λaa env A h u er=>?_,λaa env A h u er=>?_⟩
 ·rw[bg,sQ]
  refine af (he aa env A h u er) λx h1 v p1 q1=>af (hs.1 aa env A h1 (u.ext p1) (er.ext p1)) λy h2 vs p2 q2=>?_;refine av ⟨aq.cons (q1.1.ext p2) q2.1,λhf=>?_⟩;have hf':x.1=true/\y.1=true:=by simpa using hf
  exact aq.cons ((q1.2 hf'.1).ext p2) ((q2.2 hf'.2).dF (Fr.le p1.length_le))
 ·rw[bg,gn];refine af (jJ he u er) λx h1 v p1 q1=>af (hs.2 aa env A h1 (u.ext p1) (er.ext p1)) λy h2 vs p2 q2=>?_;exact av ⟨v,vs,rfl,DB.ext p2 q1,q2⟩
theorem LK(hs:jt Φ Ψ es):bD Φ Ψ (.tup es):=λaa env A h u e=>by
 rw[aH,aT];refine af (hs.1 aa env A h u e) λx h1 vs p1 q1=>bO (λz=>by rw[<-q1.1.length];exact z) λ_=>av ⟨?_,λhf=>?_⟩
 ·show Dn A h1 (.tup _) _;rw[Dn];exact⟨vs,rfl,q1.1⟩
 ·show Dn _ h1 (.tup _) _;rw[Dn];exact⟨vs,rfl,q1.2 hf⟩
theorem Ij:bD Φ Ψ .dct0:=λaa env A h u e=>by
 rw[aH,aT];refine⟨_,_,rfl,b9 _,?_,λhf=>?_⟩
 ·show Dn A _ (.dc [] []) _;rw[Dn];exact⟨_,[],rfl,u _ (S4 _),dY _,rfl,aq.nil⟩
 ·show Dn _ _ (.dc [] []) _;rw[Dn];exact⟨_,[],rfl,S4 _,dY _,rfl,aq.nil⟩
theorem Il(hk:bD Φ Ψ k)(hv:bD Φ Ψ v):bD Φ Ψ (.dct1 k v):=λaa env A h u e=>by
 rw[aH,aT];refine af (hk aa env A h u e) λx h1 w p1 q1=>af (R:=λkk _ kk'=>kk'=kk) (aZ λkk ek=>⟨kk,qO q1.1 ek,rfl⟩) λkk h2 kk' p2 hkk=>?_;subst hkk;refine af (hv aa env A h2 ((u.ext p1).ext p2) ((e.ext p1).ext p2)) λy h3 z p3 q3=>?_;have p:=(p1.trans p2).trans p3;refine⟨_,_,rfl,b9 _,?_,λhf=>?_⟩
 ·show Dn A _ (.dc [kk'] [y.2]) _;rw[Dn];exact⟨_,[(kk',z)],rfl,u _ p.length_le,dY _,rfl,aq.cons (q3.1.ext (b9 _)) aq.nil⟩
 ·show Dn _ _ (.dc [kk'] [y.2]) _;rw[Dn];exact⟨_,[(kk',z)],rfl,p.length_le,dY _,rfl,aq.cons (((q3.2 hf).dF (Fr.le (p1.trans p2).length_le)).ext (b9 _)) aq.nil⟩
theorem Im(hd:bD Φ Ψ d)(hk:bD Φ Ψ k)(hx:bD Φ Ψ x):bD Φ Ψ (.dget d k x):=λaa env A h u e=>by
 rw[aH,aT];refine af (jJ hd u e) λo h1 v p1 q1=>af (R:=λ_ _ _=>True) (bZ λt et=>⟨t,Dc q1 et,trivial⟩) λ_ h2 _ p2 _=>?_;refine af (hk aa env A h2 ((u.ext p1).ext p2) ((e.ext p1).ext p2)) λi h3 w p3 q3=>af (R:=λkk _ kk'=>kk'=kk) (aZ λkk ek=>⟨kk,qO q3.1 ek,rfl⟩) λkk h4 kk' p4 hkk=>?_;subst hkk;have Qk:=((p1.trans p2).trans p3).trans p4;refine af (hx aa env A h4 (u.ext Qk) (e.ext Qk)) λz h5 z' p5 q5=>?_;refine af (R:=λr h' r'=>∀a b,Dn A h5 a b->Dn A h' (r.getD a) (r'.getD b)) (bZ λr er=>?_) λr h6 r' p6 hr=>av (nH (hr _ _ q5.1));obtain⟨r',e1,e2⟩:=Ie (DB.ext ((p2.trans p3).trans (p4.trans p5)) q1) er;exact⟨r',e1,e2⟩
theorem Dl(hd:bD Φ Ψ d):bD Φ Ψ (.lkeys d):=λaa env A h u e=>by
 rw[aH,aT];refine af (jJ hd u e) λo h1 v p1 q1=>af (R:=λks _ ks'=>ks'=ks) (bZ λks ek=>⟨ks,ki q1 ek,rfl⟩) λks h2 ks' p2 hk=>?_;subst hk;exact e9 ((u.ext p1).ext p2) (p1.trans p2) ((aP _ _ (kj ks')).mpr rfl) λ_=>(aP _ _ (kj ks')).mpr rfl
theorem Dm(hd:bD Φ Ψ d):bD Φ Ψ (.skeys d):=λaa env A h u e=>by
 rw[aH,aT];refine af (jJ hd u e) λo h1 v p1 q1=>af (R:=λns _ ns'=>ns'=ns) (bZ λns en=>⟨ns,?_,rfl⟩) λns h2 ns' p2 hk=>?_
 ·unfold kU at en |-;obtain⟨ks,e1,e2⟩:=SS.mp en;rw[ki q1 e1];exact e2
 ·subst hk;exact e9 ((u.ext p1).ext p2) (p1.trans p2) ((aP _ _ (aW ns')).mpr rfl) λ_=>(aP _ _ (aW ns')).mpr rfl
theorem sU:∀{xs:List Val} {ns:List Int},aO xs=some ns->xs=ns.map .int
 |[],ns,e=>by cases e;rfl
 | x::xs,ns,e=>by
  unfold aO at e;rw[bf]at e;obtain⟨i,e1,e⟩:=SS.mp e;obtain⟨r,e2,e⟩:=SS.mp e;cases e;cases x<;>simp at e1;subst e1;rw[sU e2];rfl
theorem wm(a:DB A h o v)(e:kT [] o k=some (some d)):∃z,kT h v k=some (some z)/\Dn A h d z:=by
 cases o<;>first|(cases e;done)|(exact(DB.nG a).elim)|skip
 rename_i ks ds;obtain⟨i,kvs,rfl,g,hk,q⟩:=a.dc;have ev:bN (ks.zip ds) k=some d:=Tn e;obtain⟨u,e1,e2⟩:=kh hk q ev;refine⟨u,?_,e2⟩;show (match h[i]? with|some (.dct kvs)=>some (bN kvs k)|_=>none)=_;rw[g,<-e1]
theorem AF(a:DB A h o v)(b:DB A h l z):∀(ks:List Key) (ps:List (Key×Val)),bf (jF [] o l) ks=some ps->∃ps',bf (jF h v z) ks=some ps'/\ps'.map (·.1)=ps.map (·.1)/\aq A h (ps.map (·.2)) (ps'.map (·.2))
 |[],ps,e=>by cases e;exact⟨[],rfl,rfl,aq.nil⟩
 | k::ks,ps,e=>by
  rw[bf]at e;obtain⟨b1,e1,e⟩:=SS.mp e;obtain⟨bs,e2,e⟩:=SS.mp e;cases e;obtain⟨ps',q1,q2,q3⟩:=AF a b ks bs e2;unfold jF at e1;obtain⟨r1,c1,e1⟩:=SS.mp e1;obtain⟨d,c2,e1⟩:=SS.mp e1;obtain⟨k2,c3,e1⟩:=SS.mp e1;obtain⟨r2,c4,e1⟩:=SS.mp e1;obtain⟨y,c5,e1⟩:=SS.mp e1;cases e1;cases c2;cases c5;obtain⟨d',f1,f2⟩:=wm a c1;obtain⟨y',f3,f4⟩:=wm b c4;refine⟨(k,y')::ps',?_,by rw[S5,S5,q2],aq.cons f4 q3⟩;rw[bf,q1];unfold jF;rw[f1];show ((keyOf d').bind _).bind _=_;rw[qO f2 c3];show ((kT h z k2).bind _).bind _=_;rw[f3];rfl
theorem Io{p q:Nat}(hd:bD Φ Ψ d)(hw:bD Φ Ψ w):bD Φ Ψ (.dflt N' js p q d w):=λaa env A h u e=>by
 rw[aH,aT];refine af (jJ hd u e) λo h1 v p1 q1=>af (jJ hw (u.ext p1) (e.ext p1)) λx h2 z p2 q2=>af (R:=λps h' ps'=>ps'.map (·.1)=ps.map (·.1)/\aq A h' (ps.map (·.2)) (ps'.map (·.2))) (bZ λps en=>?_) λps h3 ps' p3 hk=>?_
 ·unfold x8 at en |-
  obtain⟨ks,e1,Ip⟩:=SS.mp en;obtain⟨ls,e2,Ex⟩:=SS.mp Ip;clear en Ip;rw[ki (DB.ext p2 q1) e1,ki q2 e2];split at Ex
  ·rename_i hz;obtain⟨ps',f1,f2⟩:=AF (DB.ext p2 q1) q2 ks ps Ex;refine⟨ps',?_,f2⟩;show (if ks.length<=1000/\ks.Nodup then bf (jF h2 v z) ks else none)=_;rw[S7 hz];exact f1
  ·cases Ex
 ·have pp:=(p1.trans p2).trans p3
  refine⟨_,_,rfl,b9 _,?_,λhf=>?_⟩
  ·show Dn A _ (.dc (ps.map (·.1)) (ps.map (·.2))) _;rw[Dn];exact⟨_,ps',rfl,u _ pp.length_le,dY _,hk.1,hk.2.ext (b9 _)⟩
  ·show Dn _ _ (.dc (ps.map (·.1)) (ps.map (·.2))) _;rw[Dn];exact⟨_,ps',rfl,pp.length_le,dY _,hk.1,dZ hk.2 hf⟩
theorem LL(ha:bD Φ Ψ a):bD Φ Ψ (.isc a x bs):=λaa env A h u e=>by rw[aT];trivial
theorem Iq(ha:bD Φ Ψ a):bD Φ Ψ (.sset a):=λaa env A h u e=>by rw[aT];trivial
theorem LM(hs:jt Φ Ψ es):bD Φ Ψ (.lst es):=λaa env A h u e=>by
 rw[aH,aT];exact af (hs.1 aa env A h u e) λx h1 vs p1 q1=>bO (λz=>by rw[<-q1.1.length];exact z) λ_=>e9 (u.ext p1) p1 q1.1 q1.2
theorem LN(ha:bD Φ Ψ a)(hb:bD Φ Ψ b):bD Φ Ψ (.idx a b):=λaa env A h u e=>by
 rw[aH,aT];refine af (jJ ha u e) λx h1 v p1 q1=>af (hb aa env A h1 (u.ext p1) (e.ext p1)) λy h2 w p2 q2=>?_;rw[Dk];exact af (R:=λz h' z'=>Dn A h' z z') (bZ λz ez=>Ig (DB.ext p2 q1) q2.1 ez) λz h3 z' p3 q3=>av (nH q3)
theorem kq(o:bD Φ Ψ ir)(u:Up A h)(e:ER A aa env h) :
  Rel A h (λ(t:Option Int) _ t'=>t'=t) ((if cJ ir=true then ret none else bnd (aH Φ ir env) λv=>bnd (aS (fH v)) λi=>ret (some i)) h) (if cJ ir=true then .ok none else pb (aT Ψ ir aa) λv=>pb (pl (fH v.2)) λi=>.ok (some i)):=by
 by_cases hn:cJ ir=true
 ·rw[S7 hn,S7 hn];exact av rfl
 ·rw[S8 hn,S8 hn]
  refine af (o aa env A h u e) λx h1 v p1 q1=>af (R:=λt _ t'=>t'=t) (aZ λi ei=>?_) λt h2 t' p2 et=>by subst et;exact av rfl
  obtain⟨f,d⟩:=x;have q:=q1.1;cases d<;>first|(cases ei;done)|skip
  dsimp only at q;rw[Dn]at q;subst q;exact⟨i,ei,rfl⟩
theorem LO(ha:bD Φ Ψ a)(hl:bD Φ Ψ lo)(hh:bD Φ Ψ hi):bD Φ Ψ (.slc a lo hi):=λaa env A h u e=>by
 rw[aH,aT];refine af (jJ ha u e) λx h1 v p1 q1=>af (kq hl (u.ext p1) (e.ext p1)) λl h2 l' p2 el=>af (kq hh ((u.ext p1).ext p2) ((e.ext p1).ext p2)) λr h3 r' p3 er=>?_;subst el;subst er;exact Dg (((u.ext p1).ext p2).ext p3) ((p1.trans p2).trans p3) (DB.ext (p2.trans p3) q1)
theorem LP(ha:bD Φ Ψ a)(hs:bD Φ Ψ sx):bD Φ Ψ (.rev a sx):=λaa env A h u e=>by
 rw[aH,aT];refine af (jJ ha u e) λx h1 v p1 q1=>?_;obtain⟨f,d⟩:=x;cases d<;>first|trivial|skip
 rename_i xs;obtain⟨vs,e1,e2⟩:=DB.lst q1;have ea:∀(F:List Val->M Val),bnd (ask λh=>aA h v) F h1=F vs h1:=λF=>by unfold bnd ask aS;dsimp only;rw[e1]
 rw[ea];show Rel A h1 _ _ (pb (pl (aO xs)) _);refine af (R:=λns h' ns'=>ns'=ns) (aZ λns en=>⟨ns,?_,rfl⟩) λns h2 ns' p2 en=>?_
 ·have ei:=sU en;subst ei;rw[(aP _ _ (aW ns)).mp e2];exact en
 ·subst en;refine bO (λz=>z) λ_=>?_;exact e9 ((u.ext p1).ext p2) (p1.trans p2) ((aP _ _ (aW _)).mpr rfl) λ_=>(aP _ _ (aW _)).mpr rfl
theorem Ir{j:Nat}(hΦ:∀j,Imp (Φ j) (Ψ j))(hs:jt Φ Ψ es):bD Φ Ψ (.call j es):=λaa env A h u e=>by
 rw[aH,aT];exact af (hs.1 aa env A h u e) λx h1 vs p1 q1=>Ii p1 (hΦ j A h1 x.2 vs (u.ext p1) q1.1)
theorem LQ{n:Nat}(ha:bD Φ Ψ a):bD Φ Ψ (.fld n a x):=λaa env A h u e=>by rw[aT];trivial
theorem LR(hΦ:∀j,Imp (Φ j) (Ψ j))(ha:bD Φ Ψ a)(hs:jt Φ Ψ es):bD Φ Ψ (.mth a m js es):=λaa env A h u e=>by rw[aT];trivial
theorem LS(hs:jt Φ Ψ es):bD Φ Ψ (.blt b es):=λaa env A h u e=>by
 rw[aH,aT];exact af (hs.2 aa env A h u e) λx h1 vs p1 q1=>Di (u.ext p1) p1 q1
theorem LU(ha:bD Φ Ψ a)(hs:jt Φ Ψ es):bD Φ Ψ (.met m a es):=λaa env A h u e=>by
 cases m with
 |join=>rw[aT];trivial
 |_=>rw[aT]<;>first|trivial|(intro z;cases z)
def SrcR(A:AP)(h:Hs)(xs:List Val)(src:Src):Prop:=∃ws,aq A h xs ws/\∀h',h<+:h'->src.items h'=some ws
theorem gz{lo:Int}{n:Nat}:aq A h (bY lo n) (bY lo n):=by
 unfold bY;generalize List.range n=l
 induction l with
 |nil=>exact aq.nil
 |cons a l ih=>exact aq.cons (by rw[Dn]) ih
theorem eu:∀{xs ws:List Val} (i:Nat),aq A h xs ws->aq A h (bW i xs) (bW i ws)
 |[],ws,i,q=>by rw[aq]at q;subst q;exact aq.nil
 | x::xs,ws,i,q=>by
  rw[aq]at q;obtain⟨w,r,rfl,a,b⟩:=q;exact aq.cons (by rw[Dn];exact⟨_,rfl,aq.cons (by rw[Dn]) (aq.cons a aq.nil)⟩) (eu (i+1) b)
theorem wo{ds vs:List Val}(a:DB A h (.rl ds) v):∃ws,aq A h ds ws/\((v=.rl ws)\/∃i,v=.ref i/\∀h',h<+:h'->aA h' (.ref i)=some ws):=by
 rcases a with a|⟨i,rfl,vs,g,q⟩
 ·rw[Dn]at a
  rcases a with ⟨vs,rfl,_,q⟩|⟨i,vs,rfl,_,g,q⟩
  ·exact⟨vs,q,.inl rfl⟩
  ·exact⟨vs,q,.inr ⟨i,rfl,λh' p=>by simp[aA,bC p g]⟩⟩
 ·exact⟨vs,q,.inr ⟨i,rfl,λh' p=>by simp[aA,bC p g]⟩⟩
theorem wu(a:Dd A h ds vs):Rel A h (λxs h' src=>SrcR A h' xs src) (aS (srcOf k vs) h) (pl (Ax k ds)):=by
 refine aZ λxs e=>?_;cases k with
 |seq=>
  match ds,e with
  |[.tup es],e=>cases e;obtain⟨v,rfl,hv⟩:=a.one;obtain⟨ws,rfl,q⟩:=hv.tup;exact⟨.fix ws,rfl,ws,q,λ_ _=>rfl⟩
  |[.rl es],e=>
   cases e;obtain⟨v,rfl,hv⟩:=a.one;obtain⟨ws,q,rfl|⟨i,rfl,g⟩⟩:=wo (vs:=[]) hv
   ·exact⟨.fix ws,rfl,ws,q,λ_ _=>rfl⟩
   ·exact⟨.live i,rfl,ws,q,λh' p=>g h' p⟩
 |range=>
  match ds,e with
  |[.int n],e=>
   obtain⟨v,rfl,hv⟩:=a.one;have:=hv.int;subst this;change (if inR n=true then some (bY 0 n.toNat) else none)=some _ at e;split at e
   ·rename_i hn;cases e;exact⟨.fix _,S7 hn,_,gz,λ_ _=>rfl⟩
   ·cases e
  |[.int n,.int m],e=>
   obtain⟨v,r,rfl,hv,hr⟩:=a;obtain⟨w,rfl,hw⟩:=Dd.one hr;have:=hv.int;subst this;have:=hw.int;subst this;change (if (inR n&&inR m)=true then some (bY n (m-n).toNat) else none)=some _ at e;split at e
   ·rename_i hn;cases e;exact⟨.fix _,S7 hn,_,gz,λ_ _=>rfl⟩
   ·cases e
 |enum=>
  match ds,e with
  |[.rl es],e=>
   cases e;obtain⟨v,rfl,hv⟩:=a.one;obtain⟨ws,q,rfl|⟨i,rfl,g⟩⟩:=wo (vs:=[]) hv
   ·exact⟨.fix _,rfl,_,eu 0 q,λ_ _=>rfl⟩
   ·exact⟨.enum i,rfl,_,eu 0 q,λh' p=>by simp[Src.items,g h' p]⟩
 |zip=>cases e
theorem wz:∀{is:List Nat} {ds vs:List Val} {aa ao:aK} {env:Env},bq is ds aa=some ao->aq A h ds vs->ER A aa env h->(∀i∈is,i<aa.length->i<env.length)->∃env',bindAll is vs env=some env'/\ER A ao env' h
 | [],[],vs,aa,ao,env,e,q,er,_=>by
  rw[aq]at q;subst q;simp only[bq]at e;cases e;exact⟨env,rfl,er⟩
 | i::is,d::ds,vs,aa,ao,env,e,q,er,hl=>by
  rw[aq]at q;obtain⟨v,r,rfl,q1,q2⟩:=q;simp only[bq]at e;have RI:ER A (aa.set i (some (.sh,d))) (env.set i (some v)) h:=λj f d' hj=>by
   by_cases hij:i=j
   ·subst hij
    have hi:i<aa.length:=by have:=(SW.mp hj).1;simpa using this
    rw[S6 hi]at hj;cases hj;rw[S8 (by decide)];exact⟨v,by rw[S6 (hl i S3 hi)],q1⟩
   ·rw[SX hij]at hj;rw[SX hij];exact er j f d' hj
  simp only[bindAll];exact wz e q2 RI λj hj hl'=>by simpa using hl j (S2 _ hj) (by simpa using hl')
 |[],_::_,_,_,_,_,e,_,_,_=>by simp[bq]at e
 |_::_,[],_,_,_,_,e,_,_,_=>by simp[bq]at e
theorem sV(e:cZ p d aa=some ao)(q:Dn A h d v)(er:ER A aa env h)(hl:aa.length<=env.length):∃env',eV p v env=some env'/\ER A ao env' h:=by
 cases p with
 |one i=>
  simp only[cZ]at e;cases e;refine⟨_,rfl,λj f d' hj=>?_⟩
  by_cases hij:i=j
  ·subst hij
   have hi:i<aa.length:=by have:=(SW.mp hj).1;simpa using this
   rw[S6 hi]at hj;cases hj;rw[S8 (by decide)];exact⟨v,by rw[S6 (by omega)],q⟩
  ·rw[SX hij]at hj;rw[SX hij];exact er j f d' hj
 |tup is=>
  cases d<;>simp only[cZ]at e<;>first|(cases e;done)|skip
  rw[Dn]at q;obtain⟨vs,rfl,q⟩:=q;exact wz e q er λi _ hi=>by omega
theorem wB(e:ER A aa env h):ER A (iD js aa) (iL js env) h:=λi f d q=>by
 unfold iD at q;rw[Tq]at q;cases hj:js[i]? with
 |none=>rw[hj]at q;cases q
 |some o=>
  rw[hj]at q;simp only[map_some]at q;cases o with
  |none=>cases q
  |some j=>
   dsimp only at q;cases ej:aa[j]? with
   |none=>rw[ej]at q;cases q
   |some w=>
    cases w with
    |none=>rw[ej]at q;cases q
    |some fd=>
     rw[ej]at q;cases q;have:=e j f d ej;revert this;generalize pD f=t;intro this;cases t with
     |false=>rw[S7 rfl]at this |-;obtain⟨a,k2,k3⟩:=this;refine⟨a,?_,k3⟩;unfold iL;rw[Tq,hj];simp only[map_some];rw[k2]
     |true=>rw[S8 (by decide)]at this |-;obtain⟨v,k1,k2⟩:=this;refine⟨v,?_,k2⟩;unfold iL;rw[Tq,hj];simp only[map_some];rw[k1]
theorem nJ :
  ∀(xs:List Val) (vs:List Val) (i:Nat) (acc:List Val) (h:Hs),hb<+:h->Up A h->(∀h',h<+:h'->src.items h'=some ws)->ws.drop i=vs->aq A h xs vs ->
   (∀x v h',h<+:h'->Dn A h' x v->Rel A h' (λo h'' o'=>match o,o' with|some e,some e'=>RV A hb e h'' e'|none,none=>True|_,_=>False) (f v h') (g x)) ->
   Rel A h (λp h' ys=>∃zs,ys=acc++zs/\aq A h' p.2 zs/\(p.1=true->aq (Fr hb.length) h' p.2 zs)) (dW src f vs.length i acc h) (f6 g xs)
 | [],vs,i,acc,h,Ql,u,hi,hd,q,hf=>by
  rw[aq]at q;subst q;have hl:ws.length<=i:=U7.mp hd;have ev:dW src f ([]:List Val).length i acc h=.ok acc h:=by show dW src f 0 i acc h=_;simp only[dW];unfold bnd ask aS aI;dsimp only;rw[hi h (Tg _)];dsimp only;rw[S7 (decide_eq_true hl)];rfl
  rw[ev,f6];exact⟨acc,h,rfl,Tg _,[],by simp,aq.nil,λ_=>aq.nil⟩
 | x::xs,vs,i,acc,h,Ql,u,hi,hd,q,hf=>by
  rw[aq]at q;obtain⟨v,r,rfl,q1,q2⟩:=q;have hv:ws[i]?=some v:=by have:=TR (λl=>l[0]?) hd;simpa using this
  have hr:ws.drop (i+1)=r:=by
   have:ws.drop (i+1)=(ws.drop i).drop 1:=by rw[Vf]
   rw[this,hd];rfl
  have ev:dW src f (v::r).length i acc h=bnd (f v) (λo=>dW src f r.length (i+1) (match o with|some e=>acc++[e]|none=>acc)) h:=by show dW src f (r.length+1) i acc h=_;simp only[dW];unfold bnd ask aS;dsimp only;rw[hi h (Tg _)];dsimp only;rw[hv];try rfl
  rw[ev,f6];refine af (hf x v h (Tg _) q1) λo h1 o' p1 ho=>?_;have ih:=λacc'=>nJ xs r (i+1) acc' h1 (Ql.trans p1) (u.ext p1) (λh' p=>hi h' (p1.trans p)) hr (q2.ext p1) λx v h' p=>hf x v h' (p1.trans p);cases o' with
  |some e'=>
   cases o with
   |none=>exact ho.elim
   |some e=>
    have ih:=ih (acc++[e']);cases e2:f6 g xs with
    |ok p=>
     rw[e2]at ih;obtain⟨ys,h2,e3,p2,zs,rfl,z1,z2⟩:=ih;refine⟨_,h2,e3,p2,e'::zs,by simp,aq.cons (ho.1.ext p2) z1,λhp=>?_⟩;have Qm:e.1=true/\p.1=true:=by simpa using hp
     exact aq.cons ((ho.2 Qm.1).ext p2) (z2 Qm.2)
    |exc c es=>rw[e2]at ih;exact ih
    |no=>trivial
  |none=>
   cases o with
   |some e'=>exact ho.elim
   |none=>
    have ih:=ih acc;cases e2:f6 g xs with
    |ok p=>rw[e2]at ih;obtain⟨ys,h2,e3,p2,zs,rfl,z1,z2⟩:=ih;exact⟨_,h2,e3,p2,zs,rfl,z1,z2⟩
    |exc c es=>rw[e2]at ih;exact ih
    |no=>trivial
theorem Iu(hs:jt Φ Ψ it)(hc:bD Φ Ψ c)(he:bD Φ Ψ elt):bD Φ Ψ (.comp N js pat k it c elt):=λaa env A h u e=>by
 rw[aH,aT];refine af (hs.2 aa env A h u e) λds h1 vs p1 q1=>af (wu q1) λxs h2 src p2 q2=>?_;obtain⟨ws,q3,q4⟩:=q2;have l:=q3.length;have ev:∀(F:List Val->M Val),bnd (ask λh=>src.items h) F h2=F ws h2:=λF=>by unfold bnd ask aS;dsimp only;rw[q4 h2 (Tg _)]
 rw[ev];refine bO (λz=>by rw[<-l];exact z) λ_=>?_;have u2:=(u.ext p1).ext p2;have e2:=(e.ext p1).ext p2;refine af (nJ (hb:=h) xs ws 0 [] h2 (p1.trans p2) u2 q4 rfl q3 λx v h' p' qx=>?_) λp h3 ys p3 hp=>?_
 ·refine af (R:=λao _ env'=>∃_:ER A ao env' h',True) (aZ λao ev'=>?_) λao h4 env' p4 he'=>?_
  ·obtain⟨env',a1,a2⟩:=sV ev' qx (wB (e2.ext p')) (by simp[iD,iL]);exact⟨env',a1,a2,trivial⟩
  ·obtain⟨er,_⟩:=he'
   have er:=er.ext p4;have u4:=(u2.ext p').ext p4;have Lq:Rel A h4 (λt _ t'=>t'=t) ((if cJ c=true then ret true else bnd (aH Φ c env') λv=>ask λh=>cI h v) h4) (if cJ c=true then .ok true else pb (aT Ψ c ao) λv=>pl (cI [] v.2)):=by
    by_cases hn:cJ c=true
    ·rw[S7 hn,S7 hn];exact av rfl
    ·rw[S8 hn,S8 hn];exact af (hc ao env' A h4 u4 er) λy h5 w p5 q5=>bZ λt et=>⟨t,qN q5.br et,rfl⟩
   refine af Lq λt h5 t' p5 et=>?_;subst et;cases t' with
   |true=>rw[S7 rfl,S7 rfl];exact af (he ao env' A h5 (u4.ext p5) (er.ext p5)) λy h6 w p6 q6=>av (q6.up ((p1.trans p2).trans (p'.trans (p4.trans p5))))
   |false=>rw[S8 SV,S8 SV];exact av trivial
 ·obtain⟨zs,rfl,z1,z2⟩:=hp;exact e9 (u2.ext p3) ((p1.trans p2).trans p3) z1 z2
mutual
noncomputable def cH:IE->Bool
 |.cst d=>jU d
 |.con _ d=>jU d
 |.bin _ a b=>cH a&&cH b
 |.neg a=>cH a
 |.cmp _ a b=>cH a&&cH b
 |.chn _ _ a b c=>cH a&&cH b&&cH c
 |.and a b=>cH a&&cH b
 |.or a b=>cH a&&cH b
 |.not a=>cH a
 |.ite a b c=>cH a&&cH b&&cH c
 |.tup es=>kr es
 |.lst es=>kr es
 |.idx a b=>cH a&&cH b
 |.slc a b c=>cH a&&cH b&&cH c
 |.call _ es=>kr es
 |.blt _ es=>kr es
 |.met _ a es=>cH a&&kr es
 |.comp _ _ _ _ es a b=>kr es&&cH a&&cH b
 |.var _=>true
 |.no=>true
 |.dct0=>true
 |.sset a=>cH a
 |.dget a b c=>cH a&&cH b&&cH c
 |.dct1 a b=>cH a&&cH b
 |.lkeys a=>cH a
 |.sdef ..=>false
 |.svals _=>false
 |.skeys a=>cH a
 |.fld _ a _=>cH a
 |.mth a _ _ es=>cH a&&kr es
 |.rev a b=>cH a&&cH b
 |.dflt _ _ _ _ a b=>cH a&&cH b
 |.isc a _ _=>cH a
noncomputable def kr:jD->Bool
 |.nil=>true
 |.cons e es=>cH e&&kr es
end
theorem v_all(hΦ:∀j,Imp (Φ j) (Ψ j)):(∀ir,cH ir=true->bD Φ Ψ ir)/\∀dB,kr dB=true->jt Φ Ψ dB:=by
 have one:∀ir,cH ir=true->bD Φ Ψ ir:=by
  intro ir;refine IE.rec (motive_1:=λir=>cH ir=true->bD Φ Ψ ir) (motive_2:=λdB=>kr dB=true->jt Φ Ψ dB) ?_ ?_ ?_ ?_ ?_ ?_ ?_ ?_ ?_ ?_ ?_ ?_ ?_ ?_ ?_ ?_ ?_ ?_ ?_ ?_ ?_ ?_ ?_ ?_ ?_ ?_ ?_ ?_ ?_ ?_ ?_ ?_ ?_ ?_ ?_ ir
  ·exact λ_ _=>v_var
  ·exact λ_ f=>LD f
  ·exact λ_ _ f=>LF f
  ·exact λ_=>OT
  ·intro _ _ _ a b f;have f:=cg f;exact LG (a f.1) (b f.2)
  ·intro _ a f;exact LH (a f)
  ·intro _ _ _ a b f;have f:=cg f;exact LI (a f.1) (b f.2)
  ·intro _ _ _ _ _ a b c f;have f:=l6 f;exact LJ (a f.1.1) (b f.1.2) (c f.2)
  ·intro _ _ a b f;have f:=cg f;exact v_and (a f.1) (b f.2)
  ·intro _ _ a b f;have f:=cg f;exact v_or (a f.1) (b f.2)
  ·intro _ a f;exact v_not (a f)
  ·intro _ _ _ a b c f;have f:=l6 f;exact v_ite (a f.1.1) (b f.1.2) (c f.2)
  ·intro _ a f;exact LK (a f)
  ·intro _ a f;exact LM (a f)
  ·intro _ _ a b f;have f:=cg f;exact LN (a f.1) (b f.2)
  ·intro _ _ _ a b c f;have f:=l6 f;exact LO (a f.1.1) (b f.1.2) (c f.2)
  ·intro _ _ a f;exact Ir hΦ (a f)
  ·intro _ _ a f;exact LS (a f)
  ·intro _ _ _ a b f;have f:=cg f;exact LU (a f.1) (b f.2)
  ·intro _ _ _ _ _ _ _ a b c f;have f:=l6 f;exact Iu (a f.1.1) (b f.1.2) (c f.2)
  ·exact λ_=>Ij
  ·intro _ a f;exact Iq (a f)
  ·intro _ _ _ a b c f;have f:=l6 f;exact Im (a f.1.1) (b f.1.2) (c f.2)
  ·intro _ _ a b f;have f:=cg f;exact Il (a f.1) (b f.2)
  ·intro _ a f;exact Dl (a f)
  ·intro _ _ _ _ _ _ f;exact nomatch (show false=true from f)
  ·intro _ _ f;exact nomatch (show false=true from f)
  ·intro _ a f;exact Dm (a f)
  ·intro _ _ _ a f;exact LQ (a f)
  ·intro _ _ _ _ a b f;have f:=cg f;exact LR hΦ (a f.1) (b f.2)
  ·intro _ _ a b f;have f:=cg f;exact LP (a f.1) (b f.2)
  ·intro _ _ _ _ _ _ a b f;have f:=cg f;exact Io (a f.1) (b f.2)
  ·intro _ _ _ a f;exact LL (a f)
  ·exact λ_=>Ew
  ·intro _ _ a b f;have f:=cg f;exact AE (a f.1) (b f.2)
 refine⟨one,λdB=>?_⟩
 induction dB using jD.rec (motive_1:=λ_=>True) with
 |nil=>exact λ_=>Ew
 |cons e es _ ih=>exact λf=>by have f:=cg f;exact AE (one e f.1) (ih f.2)
 |_=>trivial
end
section
variable {A A':AP} {h h':Hs}
mutual
theorem Dn.move(hn:A none->A' none)(hh:∀(i:Nat) (o:Ob),A (some i)->h[i]?=some o->A' (some i)/\h'[i]?=some o):∀(d v:Val),Dn A h d v->Dn A' h' d v
 |.non,v,e=>by rw[Dn]at e |-;exact e
 |.bl _,v,e=>by rw[Dn]at e |-;exact e
 |.int _,v,e=>by rw[Dn]at e |-;exact e
 |.str _,v,e=>by rw[Dn]at e |-;exact e
 | .tup ds,v,e=>by
  rw[Dn]at e |-;obtain⟨vs,rfl,q⟩:=e;exact⟨vs,rfl,aq.move hn hh ds vs q⟩
 | .rl ds,v,e=>by
  rw[Dn]at e |-
  rcases e with ⟨vs,rfl,n,q⟩|⟨i,vs,rfl,a,g,q⟩
  ·exact .inl ⟨vs,rfl,hn n,aq.move hn hh ds vs q⟩
  ·exact .inr ⟨i,vs,rfl,(hh i _ a g).1,(hh i _ a g).2,aq.move hn hh ds vs q⟩
 | .dc ks ds,v,e=>by
  rw[Dn]at e |-;obtain⟨i,kvs,rfl,a,g,k,q⟩:=e;exact⟨i,kvs,rfl,(hh i _ a g).1,(hh i _ a g).2,k,aq.move hn hh ds _ q⟩
 | .ob c xs ds,v,e=>by
  rw[Dn]at e |-;obtain⟨i,kvs,rfl,a,g,k,q⟩:=e;exact⟨i,kvs,rfl,(hh i _ a g).1,(hh i _ a g).2,k,aq.move hn hh ds _ q⟩
 |.ref _,v,e=>by rw[Dn]at e;exact e.elim
theorem aq.move(hn:A none->A' none)(hh:∀(i:Nat) (o:Ob),A (some i)->h[i]?=some o->A' (some i)/\h'[i]?=some o):∀(ds vs:List Val),aq A h ds vs->aq A' h' ds vs
 |[],vs,e=>by rw[aq]at e |-;exact e
 | d::ds,vs,e=>by
  rw[aq]at e |-;obtain⟨v,r,rfl,q1,q2⟩:=e;exact⟨v,r,rfl,Dn.move hn hh d v q1,aq.move hn hh ds r q2⟩
end
end
def Al(A0:AP)(O:Nat->Option Nat):AP:=λo=>A0 o/\∀i,o.isSome=true->O i≠o
structure SR (A0:AP) (h0:Hs) (aa:aK) (env:Env) (h:Hs) (O:Nat->Option Nat):Prop where
 len:aa.length=env.length
 sh:∀(i:Nat) (m:Mk) (d:Val),aa[i]?=some (some (m,d))->pD m=true->∃v,env[i]?=some (some v)/\Dn (Al A0 O) h d v/\(Ia m=true->Dn (Al (Fr h0.length) O) h d v)
 ow:∀(i:Nat) (d:Val),aa[i]?=some (some (.ow,d))->∃a,env[i]?=some (some (.ref a))/\O i=some a/\OD (Al A0 O) h d a
 own:∀i a,O i=some a->h0.length<=a/\a<h.length/\∃d,aa[i]?=some (some (.ow,d))
 inj:∀i j a,O i=some a->O j=some a->i=j
 pre:h0<+:h
 up:Up A0 h0
structure Fm (m:List Nat) (aa:aK) (env:Env) (h:Hs) (O:Nat->Option Nat) (ao:aK) (env':Env) (h':Hs) (O':Nat->Option Nat):Prop where
 le:h.length<=h'.length
 keep:∀k,k<h.length->(∀i,O i≠some k)->h'[k]?=h[k]?/\∀i,O' i≠some k
 stay:∀i,i∉m->O' i=O i/\ao[i]?=aa[i]?/\env'[i]?=env[i]?/\∀a,O i=some a->h'[a]?=h[a]?
def RF(A0:AP)(h0:Hs)(m:List Nat)(aa:aK)(env:Env)(h:Hs)(O:Nat->Option Nat):we->Hs->Fl->Prop
 |.nx ao,h',.nx env'=>∃O',SR A0 h0 ao env' h' O'/\Fm m aa env h O ao env' h' O'
 |.bk ao,h',.bk env'=>∃O',SR A0 h0 ao env' h' O'/\Fm m aa env h O ao env' h' O'
 |.ct ao,h',.ct env'=>∃O',SR A0 h0 ao env' h' O'/\Fm m aa env h O ao env' h' O'
 |.rt p,h',.rt v=>Dn A0 h' p.2 v/\(p.1=true->Dn (Fr h0.length) h' p.2 v)/\h0<+:h'
 |_,_,_=>False
def fV(A0:AP)(h0:Hs){α β:Type}(R:α -> Hs -> β -> Prop)(o:Out β):Pr α -> Prop
 |.ok f=>∃g h',o=.ok g h'/\R f h' g
 |.exc c es=>∃ws h',o=.exc c ws h'/\h0<+:h'/\aq A0 h' es ws
 |.no=>True
section
variable {A0:AP} {h0:Hs} {aa:aK} {env:Env} {h h1:Hs} {O:Nat->Option Nat} {m:List Nat}
theorem SR.er(s:SR A0 h0 aa env h O):ER (Al A0 O) aa env h:=λi f d e=>by
 cases f with
 |ow=>rw[S7 (show pD .ow=false by decide)];obtain⟨a,k2,_,k3⟩:=s.ow i d e;exact⟨a,k2,k3⟩
 |sh=>rw[S8 (by decide)];obtain⟨v,k1,k2,_⟩:=s.sh i _ d e rfl;exact⟨v,k1,k2⟩
 |nw=>rw[S8 (by decide)];obtain⟨v,k1,k2,_⟩:=s.sh i _ d e rfl;exact⟨v,k1,k2⟩
theorem SR.ym(s:SR A0 h0 aa env h O):Up (Al A0 O) h:=λk hk=>⟨s.up k (Tt s.pre.length_le hk),λi _ e=>by have:=(s.own i k e).2.1;omega⟩
theorem SR.ext(s:SR A0 h0 aa env h O)(p:h<+:h1):SR A0 h0 aa env h1 O where
 len:=s.len
 sh i m d e hm:=by obtain⟨v,k1,k2,k3⟩:=s.sh i m d e hm;exact⟨v,k1,k2.ext p,λz=>(k3 z).ext p⟩
 ow i d e:=by obtain⟨a,k2,k3,k4⟩:=s.ow i d e;exact⟨a,k2,k3,k4.ext p⟩
 own i a e:=by obtain⟨k1,k2,k3⟩:=s.own i a e;exact⟨k1,Te k2 p.length_le,k3⟩
 inj:=s.inj
 pre:=s.pre.trans p
 up:=s.up
theorem gA(p:h<+:h1){k:Nat}(hk:k<h.length):h1[k]?=h[k]?:=by
 obtain⟨t,rfl⟩:=p;rw[Tf hk]
theorem Fm.refl(s:SR A0 h0 aa env h O)(p:h<+:h1):Fm m aa env h O aa env h1 O where
 le:=p.length_le
 keep k hk n:=⟨gA p hk,n⟩
 stay i _:=⟨rfl,rfl,rfl,λa e=>gA p (s.own i a e).2.1⟩
theorem Fm.trans{ku gB:aK}{qP gj:Env}{h2:Hs}{O1 O2:Nat->Option Nat}(a:Fm m aa env h O ku qP h1 O1)(b:Fm m ku qP h1 O1 gB gj h2 O2):Fm m aa env h O gB gj h2 O2 where
 le:=Tt a.le b.le
 keep k hk n:=by obtain⟨a1,a2⟩:=a.keep k hk n;obtain⟨b1,b2⟩:=b.keep k (Te hk a.le) a2;exact⟨b1.trans a1,b2⟩
 stay i hi:=by obtain⟨a1,a2,a3,a4⟩:=a.stay i hi;obtain⟨b1,b2,b3,b4⟩:=b.stay i hi;exact⟨b1.trans a1,b2.trans a2,b3.trans a3,λc e=>(b4 c (a1.trans e)).trans (a4 c e)⟩
theorem Fm.dF{m':List Nat}(hm:∀i∈m,i∈m')(a:Fm m aa env h O ao env' h1 O'):Fm m' aa env h O ao env' h1 O':=⟨a.le,a.keep,λi hi=>a.stay i λz=>hi (hm i z)⟩
theorem RF.pre(s:SR A0 h0 aa env h O)(p:h<+:h1)(r:RF A0 h0 m aa env h1 O f h' g):RF A0 h0 m aa env h O f h' g:=by
 cases f<;>cases g<;>first|exact r.elim|exact r|(obtain⟨O',a,b⟩:=r;exact⟨O',a,(Fm.refl s p).trans b⟩)
theorem RF.dF{m':List Nat}(hm:∀i∈m,i∈m')(r:RF A0 h0 m aa env h O f h' g):RF A0 h0 m' aa env h O f h' g:=by
 cases f<;>cases g<;>first|exact r.elim|exact r|(obtain⟨O',a,b⟩:=r;exact⟨O',a,b.dF hm⟩)
theorem RF.seq{ku:aK}{qP:Env}{O1:Nat->Option Nat}(a:Fm m aa env h O ku qP h1 O1)(r:RF A0 h0 m ku qP h1 O1 f h' g):RF A0 h0 m aa env h O f h' g:=by
 cases f<;>cases g<;>first|exact r.elim|exact r|(obtain⟨O',b,c⟩:=r;exact⟨O',b,a.trans c⟩)
theorem bK{α β γ δ:Type}{R:α -> Hs -> β -> Prop}{R':γ -> Hs -> δ -> Prop}{mm:M β}{f:β -> M δ}{p:Pr α}{F:α -> Pr γ}(s:SR A0 h0 aa env h O)(r:Rel (Al A0 O) h R (mm h) p)(k:∀a h1 b,h<+:h1->R a h1 b->fV A0 h0 R' (f b h1) (F a)):fV A0 h0 R' (bnd mm f h) (pb p F):=by
 unfold bnd;cases p with
 |ok a=>obtain⟨b,h1,e,q,r⟩:=r;rw[e];exact k a h1 b q r
 |exc c es=>obtain⟨ws,h1,e,q,r⟩:=r;rw[e];exact⟨ws,h1,rfl,s.pre.trans q,r.dF λ_ z=>z.1⟩
 |no=>trivial
theorem bu{α β:Type}{R:α -> Hs -> β -> Prop}{a:α}{b:β}(r:R a h b):fV A0 h0 R (ret b h) (.ok a):=⟨b,h,rfl,r⟩
theorem gC{α β:Type}{R R':α -> Hs -> β -> Prop}{o:Out β}{p:Pr α}(r:fV A0 h0 R o p)(k:∀a h' b,R a h' b->R' a h' b):fV A0 h0 R' o p:=by
 cases p with
 |ok a=>obtain⟨b,h',e,r⟩:=r;exact⟨b,h',e,k a h' b r⟩
 |exc c es=>exact r
 |no=>trivial
theorem nK{α β γ δ:Type}{R:α -> Hs -> β -> Prop}{R':γ -> Hs -> δ -> Prop}{mm:M β}{f:β -> M δ}{p:Pr α}{F:α -> Pr γ}(r:fV A0 h0 R (mm h) p)(k:∀a h1 b,R a h1 b->fV A0 h0 R' (f b h1) (F a)):fV A0 h0 R' (bnd mm f h) (pb p F):=by
 unfold bnd;cases p with
 |ok a=>obtain⟨b,h1,e,r⟩:=r;rw[e];exact k a h1 b r
 |exc c es=>obtain⟨ws,h1,e,q,r⟩:=r;rw[e];exact⟨ws,h1,rfl,q,r⟩
 |no=>trivial
theorem jn{α β:Type}{R:α -> Hs -> β -> Prop}{c:Bool}{o:Out β}{p:Pr α}(r:c=true->fV A0 h0 R o p):fV A0 h0 R o (pg c p):=by
 unfold pg;cases c with
 |true=>rw[S7 rfl];exact r rfl
 |false=>rw[S8 SV];trivial
def eW(O:Nat->Option Nat)(i:Nat):Nat->Option Nat:=λj=>if j=i then none else O j
theorem mD:Al A0 O none->Al A0 O none:=id
theorem iP:Al A0 O none->Al A0 O' none:=λh=>⟨h.1,λ_ z=>by cases z⟩
theorem ig{i:Nat}:∀k,Al A0 O k->Al A0 (eW O i) k:=λk ⟨a,b⟩=>⟨a,λj z=>by unfold eW;split;(cases k<;>simp_all);exact b j z⟩
theorem SR.setM(s:SR A0 h0 aa env h O){i:Nat}{mk:Mk}{d v:Val}(Iv:pD mk=true)(q:Dn (Al A0 O) h d v)(qn:Ia mk=true->Dn (Al (Fr h0.length) O) h d v):SR A0 h0 (aa.set i (some (mk,d))) (env.set i (some v)) h (eW O i)/\Fm [i] aa env h O (aa.set i (some (mk,d))) (env.set i (some v)) h (eW O i):=by
 refine⟨⟨by simp[s.len],λj m' d' e hm'=>?_,λj d' e=>?_,λj a e=>?_,λj l a e1 e2=>?_,s.pre,s.up⟩,S4 _,λk hk n=>⟨rfl,λj=>?_⟩,λj hj=>?_⟩
 ·by_cases hij:i=j
  ·subst hij
   have hi:i<aa.length:=by have:=(SW.mp e).1;simpa using this
   rw[S6 hi]at e;cases e;exact⟨v,by rw[S6 (by rw[<-s.len];exact hi)],q.dF ig,λz=>(qn z).dF ig⟩
  ·rw[SX hij]at e;rw[SX hij];obtain⟨w,k1,k2,k3⟩:=s.sh j m' d' e hm';exact⟨w,k1,k2.dF ig,λz=>(k3 z).dF ig⟩
 ·by_cases hij:i=j
  ·subst hij
   have hi:i<aa.length:=by have:=(SW.mp e).1;simpa using this
   rw[S6 hi]at e;cases e;cases Iv
  ·rw[SX hij]at e;rw[SX hij];obtain⟨a,k2,k3,k4⟩:=s.ow j d' e;exact⟨a,k2,by unfold eW;rw[S8 (λz=>hij z.symm)];exact k3,k4.mono (λ_ g=>g) λ_ _ z=>z.dF ig⟩
 ·unfold eW at e
  split at e
  ·cases e
  ·rename_i hj;obtain⟨k1,k2,d',k3⟩:=s.own j a e;exact⟨k1,k2,d',by rw[SX (λz=>hj z.symm)];exact k3⟩
 ·unfold eW at e1 e2
  split at e1
  ·cases e1
  ·split at e2
   ·cases e2
   ·exact s.inj j l a e1 e2
 ·unfold eW;split;simp;exact n j
 ·have hj':j≠i:=by simpa using hj
  exact⟨by unfold eW;rw[S8 hj'],SX (λz=>hj' z.symm),SX (λz=>hj' z.symm),λ_ _=>rfl⟩
theorem SR.set(s:SR A0 h0 aa env h O){i:Nat}(q:Dn (Al A0 O) h d v):SR A0 h0 (aa.set i (some (.sh,d))) (env.set i (some v)) h (eW O i)/\Fm [i] aa env h O (aa.set i (some (.sh,d))) (env.set i (some v)) h (eW O i):=s.setM rfl q λz=>nomatch z
theorem SR.binds:∀{is:List Nat} {ds vs:List Val} {aa:aK} {env:Env} {O:Nat->Option Nat} {ao:aK},SR A0 h0 aa env h O->bq is ds aa=some ao->aq (Al A0 O) h ds vs ->
  ∃env' O',bindAll is vs env=some env'/\SR A0 h0 ao env' h O'/\Fm is aa env h O ao env' h O'
 | [],[],vs,aa,env,O,ao,s,e,q=>by
  rw[aq]at q;subst q;simp only[bq]at e;cases e;exact⟨env,O,rfl,s,Fm.refl s (Tg _)⟩
 | i::is,d::ds,vs,aa,env,O,ao,s,e,q=>by
  rw[aq]at q;obtain⟨v,r,rfl,q1,q2⟩:=q;simp only[bq]at e;obtain⟨s1,f1⟩:=s.set (i:=i) q1;obtain⟨env',O',b1,b2,b3⟩:=SR.binds s1 e (q2.dF ig);refine⟨env',O',by simp only[bindAll];exact b1,b2,(f1.dF λj hj=>?_).trans (b3.dF λj hj=>S2 _ hj)⟩;rw[Ti.mp hj];exact S3
 |[],_::_,_,_,_,_,_,_,e,_=>by simp[bq]at e
 |_::_,[],_,_,_,_,_,_,e,_=>by simp[bq]at e
theorem SR.bind(s:SR A0 h0 aa env h O)(e:cZ p d aa=some ao)(q:Dn (Al A0 O) h d v):∃env' O',eV p v env=some env'/\SR A0 h0 ao env' h O'/\Fm (stored p) aa env h O ao env' h O':=by
 cases p with
 |one i=>simp only[cZ]at e;cases e;obtain⟨s1,f1⟩:=s.set (i:=i) q;exact⟨_,_,rfl,s1,f1⟩
 |tup is=>
  cases d<;>simp only[cZ]at e<;>first|(cases e;done)|skip
  rw[Dn]at q;obtain⟨vs,rfl,q⟩:=q;exact s.binds e q
theorem Dp{a:Nat}(p:h0<+:h)(ha:h0.length<=a):h0<+:h.set a o:=by
 obtain⟨t,rfl⟩:=p;rw[List.set_append_right _ _ ha];exact TZ _ _
theorem SR.put(s:SR A0 h0 aa env h O){i a:Nat}{d d1:Val}(e:aa[i]?=some (some (.ow,d)))(ha:O i=some a)(q:OB (Al A0 O) h d1 ob) :
  SR A0 h0 (aa.set i (some (.ow,d1))) env (h.set a ob) O/\Fm [i] aa env h O (aa.set i (some (.ow,d1))) env (h.set a ob) O:=by
 obtain⟨o1,o2,_⟩:=s.own i a ha;have hi:i<aa.length:=(SW.mp e).1;have mv:∀{A0:AP} (k:Nat) (o:Ob),Al A0 O k->h[k]?=some o->Al A0 O k/\(h.set a ob)[k]?=some o:=λk o hk g=>⟨hk,by rw[SX λz=>hk.2 i rfl (by rw[<-z];exact ha)];exact g⟩;obtain⟨a0,e2,e3,_⟩:=s.ow i d e;refine⟨⟨by simp[s.len],λj m' d' ej hm'=>?_,λj d' ej=>?_,λj b ej=>?_,s.inj,Dp s.pre o1,s.up⟩,by simp,λk hk n=>⟨?_,n⟩,λj hj=>?_⟩
 ·by_cases hij:i=j
  ·subst hij;rw[S6 hi]at ej;cases ej;cases hm'
  ·rw[SX hij]at ej;obtain⟨w,k1,k2,k3⟩:=s.sh j m' d' ej hm';exact⟨w,k1,Dn.move mD mv _ _ k2,λz=>Dn.move mD mv _ _ (k3 z)⟩
 ·by_cases hij:i=j
  ·subst hij;rw[S6 hi]at ej;cases ej;rw[ha]at e3;cases e3;exact⟨a,e2,ha,q.od (by rw[S6 o2]) λ_ _ z=>aq.move mD mv _ _ z⟩
  ·rw[SX hij]at ej;obtain⟨a1,k2,k3,k4⟩:=s.ow j d' ej;have:a≠a1:=λz=>hij (s.inj i j a ha (by rw[z];exact k3));exact⟨a1,k2,k3,k4.mono (λ_ g=>by rw[SX this];exact g) λ_ _ z=>aq.move mD mv _ _ z⟩
 ·obtain⟨k1,k2,d',k3⟩:=s.own j b ej
  refine⟨k1,by simp[k2],?_⟩
  by_cases hij:i=j
  ·subst hij;exact⟨_,by rw[S6 hi]⟩
  ·exact⟨d',by rw[SX hij];exact k3⟩
 ·rw[SX λz=>n i (by rw[<-z];exact ha)]
 ·have hj':j≠i:=by simpa using hj
  exact⟨rfl,SX (λz=>hj' z.symm),rfl,λb eb=>by rw[SX λz=>hj' (s.inj j i b eb (by rw[<-z];exact ha))]⟩
def ou(O:Nat->Option Nat)(i a:Nat):Nat->Option Nat:=λj=>if j=i then some a else O j
theorem SR.fresh(s:SR A0 h0 aa env h O){i:Nat}{d1:Val}{h2:Hs}(p:h<+:h2)(q:OB (Al A0 O) h2 d1 ob) :
  SR A0 h0 (aa.set i (some (.ow,d1))) (env.set i (some (.ref h2.length))) (h2++[ob]) (if i<aa.length then ou O i h2.length else eW O i) /\
   Fm [i] aa env h O (aa.set i (some (.ow,d1))) (env.set i (some (.ref h2.length))) (h2++[ob]) (if i<aa.length then ou O i h2.length else eW O i):=by
 have pp:h<+:h2++[ob]:=p.trans (TZ _ _);have s2:=s.ext p;have mv:∀{A0:AP} (j:Nat),∀(k:Nat) (o:Ob),Al A0 O k->h2[k]?=some o->Al A0 (if i<aa.length then ou O i h2.length else eW O i) k/\(h2++[ob])[k]?=some o:=λ{A0} j k o hk g=>by
  have hlt:k<h2.length:=(SW.mp g).1;refine⟨?_,by rw[Tf hlt];exact g⟩
  split
  ·refine⟨hk.1,λl _=>?_⟩
   unfold ou
   split
   ·intro z;cases z;omega
   ·exact hk.2 l rfl
  ·exact ig k hk
 by_cases hi:i<aa.length
 ·rw[S7 hi]at mv |-
  refine⟨⟨by simp[s.len],λj m' d' ej hm'=>?_,λj d' ej=>?_,λj b ej=>?_,λj l b e1 e2=>?_,s.pre.trans pp,s.up⟩,pp.length_le,λk hk n=>⟨gA pp hk,λl=>?_⟩,λj hj=>?_⟩
  ·by_cases hij:i=j
   ·subst hij;rw[S6 hi]at ej;cases ej;cases hm'
   ·rw[SX hij]at ej;rw[SX hij];obtain⟨w,k1,k2,k3⟩:=s2.sh j m' d' ej hm';exact⟨w,k1,Dn.move iP (mv 0) _ _ k2,λz=>Dn.move iP (mv 0) _ _ (k3 z)⟩
  ·by_cases hij:i=j
   ·subst hij;rw[S6 hi]at ej;cases ej;exact⟨h2.length,by rw[S6 (by rw[<-s.len];exact hi)],by unfold ou;rw[S7 rfl],q.od (by simp) λ_ _ z=>aq.move iP (mv 0) _ _ z⟩
   ·rw[SX hij]at ej;rw[SX hij];obtain⟨a1,k2,k3,k4⟩:=s2.ow j d' ej;have hlt:a1<h2.length:=k4.lt;exact⟨a1,k2,by unfold ou;rw[S8 λz=>hij z.symm];exact k3,k4.mono (λ_ g=>by rw[Tf hlt];exact g) λ_ _ z=>aq.move iP (mv 0) _ _ z⟩
  ·unfold ou at ej
   split at ej
   ·rename_i hj;cases ej;subst hj;exact⟨Tt s.pre.length_le p.length_le,by simp,_,by rw[S6 hi]⟩
   ·rename_i hj;obtain⟨k1,k2,d',k3⟩:=s2.own j b ej;exact⟨k1,by simp;omega,d',by rw[SX λz=>hj z.symm];exact k3⟩
  ·unfold ou at e1 e2
   split at e1
   ·rename_i h1;cases e1
    split at e2
    ·rename_i h3;rw[h1,h3]
    ·have:=(s2.own l _ e2).2.1;omega
   ·split at e2
    ·cases e2;have:=(s2.own j _ e1).2.1;omega
    ·exact s.inj j l b e1 e2
  ·unfold ou;split
   ·intro z;cases z;have:=p.length_le;omega
   ·exact n l
  ·have hj':j≠i:=by simpa using hj
   exact⟨by unfold ou;rw[S8 hj'],SX (λz=>hj' z.symm),SX (λz=>hj' z.symm),λb eb=>gA pp (s.own j b eb).2.1⟩
 ·rw[S8 hi]at mv |-
  have e1:aa.set i (some (.ow,d1))=aa:=UH (by omega);have e2:env.set i (some (.ref h2.length))=env:=UH (by rw[<-s.len];omega);have e3:eW O i=O:=by
   funext j;unfold eW;split
   ·rename_i hj;subst hj
    cases e:O j with
    |none=>rfl
    |some a=>obtain⟨_,_,d,k⟩:=s.own j a e;exact absurd (SW.mp k).1 hi
   ·rfl
  rw[e1,e2,e3];exact⟨s.ext pp,Fm.refl s pp⟩
end
section
variable {Φ:Nat->List Val->M Val} {Ψ:Nat->List Val->Pr FV} {A:AP} {h h1:Hs}
def isRef:Val->Bool
 |.rl _=>true
 |.dc _ _=>true
 |_=>false
def RN(A:AP)(h:Hs):FV->Hs->Val->Prop:=λx h' v=>isRef x.2=true->∃h2 o,h'=h2++[o]/\v=.ref h2.length/\h<+:h2/\OB A h2 x.2 o
def Ey(Φ:Nat->List Val->M Val)(Ψ:Nat->List Val->Pr FV)(ir:IE):Prop:=∀(aa:aK) (env:Env) (A:AP) (h:Hs),Up A h->ER A aa env h->Rel A h (RN A h) (aH Φ ir env h) (aT Ψ ir aa)
theorem iQ{f:Bool}{h0:Hs}(p:h0<+:h)(q:aq A h xs vs):Rel A h (RN A h0) (new (.lst vs) h) (.ok (f,.rl xs)) :=
 ⟨_,_,rfl,b9 _,λ_=>⟨h,.lst vs,rfl,rfl,p,vs,rfl,q⟩⟩
theorem Iw:Ey Φ Ψ .dct0:=λaa env A h u e=>by
 rw[aH,aT];exact⟨_,_,rfl,b9 _,λ_=>⟨h,.dct [],rfl,rfl,Tg _,[],rfl,rfl,aq.nil⟩⟩
theorem Iz(hk:bD Φ Ψ k)(hv:bD Φ Ψ v):Ey Φ Ψ (.dct1 k v):=λaa env A h u e=>by
 rw[aH,aT];refine af (hk aa env A h u e) λx h1 w p1 q1=>af (R:=λkk _ kk'=>kk'=kk) (aZ λkk ek=>⟨kk,qO q1.1 ek,rfl⟩) λkk h2 kk' p2 hkk=>?_;subst hkk;refine af (hv aa env A h2 ((u.ext p1).ext p2) ((e.ext p1).ext p2)) λy h3 z p3 q3=>?_;exact⟨_,_,rfl,b9 _,λ_=>⟨h3,.dct [(kk',z)],rfl,rfl,(p1.trans p2).trans p3,[(kk',z)],rfl,rfl,aq.cons q3.1 aq.nil⟩⟩
theorem LV(hs:jt Φ Ψ es):Ey Φ Ψ (.lst es):=λaa env A h u e=>by
 rw[aH,aT];exact af (hs.1 aa env A h u e) λx h1 vs p1 q1=>bO (λz=>by rw[<-q1.1.length];exact z) λ_=>iQ p1 q1.1
theorem LW(ha:bD Φ Ψ a)(hl:bD Φ Ψ lo)(hh:bD Φ Ψ hi):Ey Φ Ψ (.slc a lo hi):=λaa env A h u e=>by
 rw[aH,aT];refine af (jJ ha u e) λx h1 v p1 q1=>af (kq hl (u.ext p1) (e.ext p1)) λl h2 l' p2 el=>af (kq hh ((u.ext p1).ext p2) ((e.ext p1).ext p2)) λr h3 r' p3 er=>?_;subst el;subst er;have q1:=DB.ext (p2.trans p3) q1;obtain⟨f,d⟩:=x;cases d with
 |tup ds=>obtain⟨vs,rfl,q⟩:=DB.tup q1;have l:=q.length;simp only[Aw,oj];exact bO (λz=>by rw[l]at z;exact z) λ_=>av λe=>by cases e
 |rl ds=>
  obtain⟨vs,e1,q⟩:=DB.lst q1;have ev:oj v l' r' h3=new (.lst (bU vs l' r')) h3:=by
   have:oj v l' r'=bnd (ask λh=>aA h v) λxs=>new (.lst (bU xs l' r')):=by cases v<;>simp only[aA]at e1<;>first|(cases e1;done)|rfl
   rw[this];unfold bnd ask aS;dsimp only;rw[e1]
  rw[ev];exact iQ ((p1.trans p2).trans p3) (q.cut l' r')
 |_=>trivial
theorem ID(hs:jt Φ Ψ es):Ey Φ Ψ (.blt .list es):=λaa env A h u e=>by
 rw[aH,aT];refine af (hs.2 aa env A h u e) λds h1 vs p1 q1=>?_
 match ds,q1 with
 |[],q1=>trivial
 |[d],q1=>obtain⟨v,rfl,hv⟩:=q1.one;exact af (R:=λxs h' ws=>aq A h' xs ws) (bZ λxs e=>hv.seq e) λxs h2 ws p2 q=>iQ (p1.trans p2) q
 |_::_::_,_=>trivial
theorem AG(hs:jt Φ Ψ es):Ey Φ Ψ (.blt .sorted es):=λaa env A h u e=>by
 rw[aH,aT];refine af (hs.2 aa env A h u e) λds h1 vs p1 q1=>?_
 match ds,q1 with
 |[],q1=>trivial
 |[d],q1=>
  obtain⟨v,rfl,hv⟩:=q1.one;cases d<;>first|trivial|skip
  rename_i xs;obtain⟨ws,e1,q⟩:=hv.lst;have ev:bnd (ask λh=>aA h v) (λxs=>bnd (aS (fG xs)) λys=>new (.lst ys)) h1=bnd (aS (fG ws)) (λys=>new (.lst ys)) h1:=by unfold bnd ask aS;dsimp only;rw[e1]
  show Rel A h1 (RN A h) (bnd (ask λh=>aA h v) (λxs=>bnd (aS (fG xs)) λys=>new (.lst ys)) h1) _;rw[ev];refine af (R:=λys _ zs=>zs=ys/\bP ys=true) (aZ λys e=>?_) λys h2 zs p2 hz=>?_
  ·obtain⟨i1,i2⟩:=pF e;rw[(aP xs ws i1).mp q];exact⟨ys,e,rfl,i2⟩
  ·obtain⟨rfl,hi⟩:=hz;exact iQ (p1.trans p2) ((aP _ _ hi).mpr rfl)
 |x::_::_,_=>cases x<;>trivial
theorem IF(hs:jt Φ Ψ it)(hc:bD Φ Ψ c)(he:bD Φ Ψ elt):Ey Φ Ψ (.comp N js pat k it c elt):=λaa env A h u e=>by
 rw[aH,aT];refine af (hs.2 aa env A h u e) λds h1 vs p1 q1=>af (wu q1) λxs h2 src p2 q2=>?_;obtain⟨ws,q3,q4⟩:=q2;have l:=q3.length;have ev:∀(F:List Val->M Val),bnd (ask λh=>src.items h) F h2=F ws h2:=λF=>by unfold bnd ask aS;dsimp only;rw[q4 h2 (Tg _)]
 rw[ev];refine bO (λz=>by rw[<-l];exact z) λ_=>?_;have u2:=(u.ext p1).ext p2;have e2:=(e.ext p1).ext p2;refine af (nJ (hb:=h) xs ws 0 [] h2 (p1.trans p2) u2 q4 rfl q3 λx v h' p' qx=>?_) λp h3 ys p3 hp=>?_
 ·refine af (R:=λao _ env'=>∃_:ER A ao env' h',True) (aZ λao ev'=>?_) λao h4 env' p4 he'=>?_
  ·obtain⟨env',a1,a2⟩:=sV ev' qx (wB (e2.ext p')) (by simp[iD,iL]);exact⟨env',a1,a2,trivial⟩
  ·obtain⟨er,_⟩:=he'
   have er:=er.ext p4;have u4:=(u2.ext p').ext p4;have Lq:Rel A h4 (λt _ t'=>t'=t) ((if cJ c=true then ret true else bnd (aH Φ c env') λv=>ask λh=>cI h v) h4) (if cJ c=true then .ok true else pb (aT Ψ c ao) λv=>pl (cI [] v.2)):=by
    by_cases hn:cJ c=true
    ·rw[S7 hn,S7 hn];exact av rfl
    ·rw[S8 hn,S8 hn];exact af (hc ao env' A h4 u4 er) λy h5 w p5 q5=>bZ λt et=>⟨t,qN q5.br et,rfl⟩
   refine af Lq λt h5 t' p5 et=>?_;subst et;cases t' with
   |true=>rw[S7 rfl,S7 rfl];exact af (he ao env' A h5 (u4.ext p5) (er.ext p5)) λy h6 w p6 q6=>av (q6.up ((p1.trans p2).trans (p'.trans (p4.trans p5))))
   |false=>rw[S8 SV,S8 SV];exact av trivial
 ·obtain⟨zs,rfl,z1,z2⟩:=hp;exact iQ ((p1.trans p2).trans p3) z1
theorem LX(hΦ:∀j,Imp (Φ j) (Ψ j))(hf:OP e=true)(ho:cH e=true):Ey Φ Ψ e:=by
 have V:=v_all hΦ;cases e<;>first|(cases hf;done)|skip
 ·exact LV (V.2 _ ho)
 ·have ho:=l6 ho;exact LW (V.1 _ ho.1.1) (V.1 _ ho.1.2) (V.1 _ ho.2)
 ·rename_i b es
  change kr _=true at ho;cases b<;>first|(cases hf;done)|skip
  ·exact AG (V.2 _ ho)
  ·exact ID (V.2 _ ho)
 ·have ho:=l6 ho;exact IF (V.2 _ ho.1.1) (V.1 _ ho.1.2) (V.1 _ ho.2)
 ·exact Iw
 ·have ho:=cg ho;exact Iz (V.1 _ ho.1) (V.1 _ ho.2)
mutual
noncomputable def OU:IS->Bool
 |.expr e=>cH e
 |.asg _ e=>cH e
 |.aug _ _ e=>cH e
 |.j4 o i v=>cH o&&cH i&&cH v
 |.iff c a b=>cH c&&nL a&&nL b
 |.for _ _ it b=>kr it&&nL b
 |.whl _ c b=>cH c&&nL b
 |.ret e=>cH e
 |_=>true
noncomputable def nL:eO->Bool
 |.nil=>true
 |.cons s r=>OU s&&nL r
end
def mS(s:IS):List Nat:=oq s++l5 s
def Dq(s:eO):List Nat:=gx s++jy s
variable {ms:List Nat}
def wC(Φ:Nat->List Val->M Val)(Ψ:Nat->List Val->Pr FV)(ms:List Nat)(s:IS):Prop:=∀(A0:AP) (h0:Hs) (aa:aK) (env:Env) (h:Hs) (O:Nat->Option Nat),SR A0 h0 aa env h O->fV A0 h0 (RF A0 h0 (mS s) aa env h O) (fS Φ s env h) (cz Ψ ms s aa)
def qQ(Φ:Nat->List Val->M Val)(Ψ:Nat->List Val->Pr FV)(ms:List Nat)(s:eO):Prop:=∀(A0:AP) (h0:Hs) (aa:aK) (env:Env) (h:Hs) (O:Nat->Option Nat),SR A0 h0 aa env h O->fV A0 h0 (RF A0 h0 (Dq s) aa env h O) (iM Φ s env h) (jz Ψ ms s aa)
theorem AH(he:bD Φ Ψ e)(hx:∀aa,cz Ψ ms (.expr e) aa=pb (aT Ψ e aa) λ_=>.ok (.nx aa)):wC Φ Ψ ms (.expr e):=λA0 h0 aa env h O s=>by
 rw[fS,hx];exact bK s (he aa env _ h s.ym s.er) λx h1 v p1 q1=>bu ⟨O,s.ext p1,Fm.refl s p1⟩
theorem aj{α β γ:Type}(m:M α)(f:α -> M β)(g:β -> M γ):bnd (bnd m f) g=bnd m λx=>bnd (f x) g:=by
 funext h;show (match (match m h with|.ok a h'=>f a h'|.exc c vs h'=>.exc c vs h'|.no=>.no) with|.ok a h'=>g a h'|.exc c vs h'=>.exc c vs h'|.no=>.no)=(match m h with|.ok a h'=>bnd (f a) g h'|.exc c vs h'=>.exc c vs h'|.no=>.no);cases m h<;>rfl
theorem bw{α β:Type}{m:M α}{f:α -> M β}{a:α}{h h1:Hs}(e:m h=.ok a h1):bnd m f h=f a h1:=by unfold bnd;rw[e]
theorem dg{i:Nat}(e:env[i]?=some (some v)):aH Φ (.var i) env h=.ok v h:=by rw[aH,e];rfl
theorem yo{i:Nat}(ha:bD Φ Ψ a):wC Φ Ψ ms (.expr (.met .append (.var i) #[a])):=λA0 h0 aa env h O s=>by
 rw[fS,cz];try dsimp only
 split
 ·rename_i ds hv
  obtain⟨b,e2,e3,vs,e4,e5⟩:=s.ow i _ hv;have ev:bnd (aH Φ (.met .append (.var i) #[a]) env) (λ_=>ret (Fl.nx env)) h=bnd (aH Φ a env) (λv=>bnd (met .append (.ref b) [v]) λ_=>ret (Fl.nx env)) h:=by
   rw[aH,aj,bw (dg e2)];rw[aj,bw (a:=()) (h1:=h) (by unfold ask aS;simp[recv,e4])];rw[aj,bg,aj]
   congr 1
  rw[ev];refine bK s (ha aa env _ h s.ym s.er) λx h1 v p1 q1=>jn λhg=>?_;have s1:=s.ext p1;obtain⟨s2,f2⟩:=s1.put (d1:=.rl (ds++[x.2])) (ob:=.lst (vs++[v])) hv e3 ⟨_,rfl,(e5.ext p1).append (aq.cons q1.1 aq.nil)⟩;have l:=e5.length;refine⟨.nx env,h1.set b (.lst (vs++[v])),?_,O,s2,(Fm.refl s p1).trans (f2.dF λj hj=>?_)⟩
  ·have g:=bC p1 e4;unfold met bnd ask aS aI put ret;dsimp only;rw[g];dsimp only;rw[S7 (by rw[<-l];exact hg)]
  ·rw[Ti.mp hj];exact TU _ S3
 ·trivial
theorem yq{i:Nat}(ha:bD Φ Ψ a):wC Φ Ψ ms (.expr (.met .extend (.var i) #[a])):=λA0 h0 aa env h O s=>by
 rw[fS,cz];try dsimp only
 split
 ·rename_i ds hv
  obtain⟨b,e2,e3,vs,e4,e5⟩:=s.ow i _ hv;have ev:bnd (aH Φ (.met .extend (.var i) #[a]) env) (λ_=>ret (Fl.nx env)) h=bnd (aH Φ a env) (λv=>bnd (met .extend (.ref b) [v]) λ_=>ret (Fl.nx env)) h:=by
   rw[aH,aj,bw (dg e2)];rw[aj,bw (a:=()) (h1:=h) (by unfold ask aS;simp[recv,e4])];rw[aj,bg,aj]
   congr 1
  rw[ev];refine bK s (ha aa env _ h s.ym s.er) λx h1 v p1 q1=>?_;obtain⟨f,d⟩:=x;cases d<;>first|trivial|skip
  rename_i ts;have q:=q1.1;dsimp only at q;rw[Dn]at q;obtain⟨ws,rfl,q⟩:=q;refine jn λhg=>?_;have s1:=s.ext p1;obtain⟨s2,f2⟩:=s1.put (d1:=.rl (ds++ts)) (ob:=.lst (vs++ws)) hv e3 ⟨_,rfl,(e5.ext p1).append q⟩;have l:=e5.length;have l2:=q.length;refine⟨.nx env,h1.set b (.lst (vs++ws)),?_,O,s2,(Fm.refl s p1).trans (f2.dF λj hj=>?_)⟩
  ·have g:=bC p1 e4;unfold met bnd ask aS aI put ret o6;dsimp only;rw[g];dsimp only;rw[S7 (by rw[<-l,<-l2];exact hg)]
  ·rw[Ti.mp hj];exact TU _ S3
 ·trivial
theorem Dr(hΦ:∀j,Imp (Φ j) (Ψ j))(ho:cH e=true):wC Φ Ψ ms (.expr e):=by
 have V:=v_all hΦ;have gen:(∀aa,cz Ψ ms (.expr e) aa=pb (aT Ψ e aa) λ_=>.ok (.nx aa))->wC Φ Ψ ms (.expr e):=λhx=>AH (V.1 e ho) hx;cases e with
 |met m a es=>
  cases m with
  |join=>exact gen λaa=>by rw[cz]<;>(intros;simp_all)
  |append=>
   cases a with
   |var i=>
    cases es with
    |nil=>exact gen λaa=>by rw[cz]<;>(intros;simp_all)
    |cons x r=>
     cases r with
     |nil=>exact yo (V.1 x (cg (cg ho).2).1)
     |cons _ _=>exact gen λaa=>by rw[cz]<;>(intros;simp_all)
   |_=>exact gen λaa=>by rw[cz]<;>(intros;simp_all)
  |extend=>
   cases a with
   |var i=>
    cases es with
    |nil=>exact gen λaa=>by rw[cz]<;>(intros;simp_all)
    |cons x r=>
     cases r with
     |nil=>exact yq (V.1 x (cg (cg ho).2).1)
     |cons _ _=>exact gen λaa=>by rw[cz]<;>(intros;simp_all)
   |_=>exact gen λaa=>by rw[cz]<;>(intros;simp_all)
  |remove=>exact gen λaa=>by rw[cz]<;>(intros;simp_all)
 |_=>exact gen λaa=>by rw[cz]<;>(intros;simp_all)
end
section
variable {Φ:Nat->List Val->M Val} {Ψ:Nat->List Val->Pr FV} {ms:List Nat}
theorem AI{i:Nat}{l:List Nat}(h:i∈l):∀j∈[i],j∈l:=λj hj=>by rw[Ti.mp hj];exact h
theorem IG(hΦ:∀j,Imp (Φ j) (Ψ j))(ho:cH e=true):wC Φ Ψ ms (.asg p e):=λA0 h0 aa env h O s=>by
 have V:=(v_all hΦ).1 e ho;cases p with
 |one i=>
  rw[fS,cz];try dsimp only
  split
  ·refine jn λhf=>?_
   refine bK s (LX hΦ hf ho aa env _ h s.ym s.er) λx h1 v p1 q1=>?_;obtain⟨f,d⟩:=x;cases d<;>first|trivial|skip
   ·obtain⟨h2,vs,rfl,rfl,p2,q2⟩:=q1 rfl;obtain⟨s2,f2⟩:=s.fresh (i:=i) p2 q2;exact⟨_,_,rfl,_,s2,f2.dF (AI (by simp[mS,l5,stored]))⟩
   ·obtain⟨h2,vs,rfl,rfl,p2,q2⟩:=q1 rfl;obtain⟨s2,f2⟩:=s.fresh (i:=i) p2 q2;exact⟨_,_,rfl,_,s2,f2.dF (AI (by simp[mS,l5,stored]))⟩
  ·refine bK s (V aa env _ h s.ym s.er) λx h1 v p1 q1=>?_
   have hnw:Ia (jH x.1 x.2)=true->Dn (Al (Fr h0.length) O) h1 x.2 v:=λz=>by
    have hx:x.1=true:=by
     unfold jH at z;split at z
     ·rename_i hh;simp only[and_eq_true]at hh;exact hh.1
     ·cases z
    refine(q1.2 hx).dF λo ho=>?_;cases o with
    |none=>exact ho.elim
    |some k=>exact⟨Tt s.pre.length_le ho,λj _ e=>by have:=(s.own j k e).2.1;have ho':h.length<=k:=ho;omega⟩
   have hrd:pD (jH x.1 x.2)=true:=by unfold jH;split<;>rfl
   obtain⟨s2,f2⟩:=(s.ext p1).setM (i:=i) hrd q1.1 hnw;exact⟨_,_,rfl,_,s2,(Fm.refl s p1).trans (f2.dF (AI (by simp[mS,l5,stored])))⟩
 |tup is=>
  rw[fS,cz];try dsimp only
  refine jn λhf=>bK s (V aa env _ h s.ym s.er) λx h1 v p1 q1=>?_;have s1:=s.ext p1;refine bK s1 (R:=λao h' env'=>∃O',SR A0 h0 ao env' h' O'/\Fm (stored (.tup is)) aa env h1 O ao env' h' O') (aZ λao ev=>?_) λao h2 env' p2 hh=>?_
  ·obtain⟨env',O',b1,b2,b3⟩:=s1.bind ev q1.1;exact⟨env',b1,O',b2,b3⟩
  ·obtain⟨O',b2,b3⟩:=hh;exact bu ⟨O',b2,(Fm.refl s p1).trans (b3.dF λj hj=>by simp only[mS,l5];exact TH _ hj)⟩
theorem II{i:Nat}(hΦ:∀j,Imp (Φ j) (Ψ j))(ho:cH e=true):wC Φ Ψ ms (.aug i o e):=λA0 h0 aa env h O s=>by rw[cz];trivial
theorem wD(k:Key)(l:List (Key×Val)):(l.any λkv=>decide (kv.1=k))=((l.map (·.1)).any λx=>decide (x=k)):=by
 rw[List.any_map];rfl
theorem wF(e:Dn A h d v):∀{kvs:List (Key×Val)} {ds:List Val},aq A h ds (kvs.map (·.2)) ->
  aq A h ((((kvs.map (·.1)).zip ds).map λkv=>if kv.1=k then (kv.1,d) else kv).map (·.2)) ((kvs.map λkv=>if kv.1=k then (kv.1,v) else kv).map (·.2))
 |[],ds,q=>by simp only[map_nil,List.zip_nil_left];exact aq.nil
 | (k',v')::kvs,ds,q=>by
  have l:=q.length;cases ds with
  |nil=>simp at l
  |cons d' ds=>
   simp only[map_cons]at q;rw[aq]at q;obtain⟨v1,r,e1,q1,q2⟩:=q;cases e1;simp only[map_cons,zip_cons_cons];refine aq.cons ?_ (wF e q2)
   by_cases hk:k'=k
   ·rw[S7 hk,S7 hk];exact e
   ·rw[S8 hk,S8 hk];exact q1
theorem lO(k:Key)(d:Val)(l:List (Key×Val)):(l.map λkv=>if kv.1=k then (kv.1,d) else kv).map (·.1)=l.map (·.1):=by
 rw[Tu];refine TQ λx _=>?_;show (if x.1=k then (x.1,d) else x).1=x.1
 split<;>rfl
theorem Ds(hk:kvs.map (·.1)=ks)(q:aq A h ds (kvs.map (·.2)))(e:Dn A h d v) :
  (jo kvs k v).map (·.1)=(jo (ks.zip ds) k d).map (·.1)/\aq A h ((jo (ks.zip ds) k d).map (·.2)) ((jo kvs k v).map (·.2)):=by
 subst hk;have l:=q.length;rw[S1]at l;have z1:((kvs.map (·.1)).zip ds).map (·.1)=kvs.map (·.1):=List.map_fst_zip (by rw[S1];omega);have z2:((kvs.map (·.1)).zip ds).map (·.2)=ds:=List.map_snd_zip (by rw[S1];omega);unfold jo;rw[wD,wD,z1]
 split
 ·rw[lO,lO,z1];exact⟨rfl,wF e q⟩
 ·rw[TN,TN,TN,TN,z1,z2];exact⟨rfl,q.append (aq.cons e aq.nil)⟩
theorem Dt(hΦ:∀j,Imp (Φ j) (Ψ j))(ho:cH o=true)(hi:cH i=true)(hv:cH v=true):wC Φ Ψ ms (.j4 o i v):=λA0 h0 aa env h O s=>by
 have V:=(v_all hΦ).1;cases o with
 |var j=>
  rw[fS,cz];refine bK s (V v hv aa env _ h s.ym s.er) λx h1 w p1 q1=>?_;have s1:=s.ext p1
  split
  ·rename_i ds hj
   obtain⟨b,e2,e3,vs,e4,e5⟩:=s1.ow j _ hj;rw[bw (dg e2)];refine bK s1 (V i hi aa env _ h1 s1.ym s1.er) λz h2 u p2 q2=>?_;have s2:=s1.ext p2;obtain⟨f,d⟩:=z;have q:=q2.1;cases d<;>first|trivial|skip
   dsimp only at q;rw[Dn]at q;subst q;rename_i kk;have g:=bC p2 e4;have l:=e5.length;show fV A0 h0 _ _ (pb (pl (rR ds.length kk)) _);cases hn:rR ds.length kk with
   |none=>trivial
   |some n=>obtain⟨s3,f3⟩:=s2.put (d1:=.rl (ds.set n x.2)) (ob:=.lst (vs.set n w)) hj e3 ⟨_,rfl,(e5.ext p2).set n (q1.1.ext p2)⟩;refine⟨.nx env,h2.set b (.lst (vs.set n w)),?_,O,s3,(Fm.refl s (p1.trans p2)).trans (f3.dF (AI (by simp[mS,oq])))⟩;rw[l]at hn;simp only[sj];unfold bnd ask aS put ret;dsimp only;rw[g];dsimp only;rw[hn]
  ·rename_i ks ds hj
   obtain⟨b,e2,e3,kvs,e4,ek,e5⟩:=s1.ow j _ hj;rw[bw (dg e2)];refine bK s1 (V i hi aa env _ h1 s1.ym s1.er) λz h2 u p2 q2=>?_;have s2:=s1.ext p2;obtain⟨f,d⟩:=z;have q:=q2.1;dsimp only at q;show fV A0 h0 _ _ (pb (pl (keyOf d)) _);cases hk:keyOf d with
   |none=>trivial
   |some kk=>
    have hu:keyOf u=some kk:=by
     cases d<;>simp only[keyOf]at hk<;>first|(cases hk;done)|skip
     all_goals (rw[Dn]at q;subst q;exact hk)
    show fV A0 h0 _ _ (pg _ _);refine jn λhl=>?_;have g:=bC p2 e4;obtain⟨k1,k2⟩:=Ds (k:=kk) ek (e5.ext p2) (q1.1.ext p2);obtain⟨s3,f3⟩:=s2.put (d1:=putD ks ds kk x.2) (ob:=.dct (jo kvs kk w)) hj e3 ⟨_,rfl,k1,k2⟩;refine⟨.nx env,h2.set b (.dct (jo kvs kk w)),?_,O,s3,(Fm.refl s (p1.trans p2)).trans (f3.dF (AI (by simp[mS,oq])))⟩;have hl':decide (kvs.length<sizeLine)=true:=by rw[<-ek,S1]at hl;exact hl
    simp only[sj];unfold bnd ask aS put ret aI;dsimp only;rw[g];dsimp only;rw[hu];dsimp only;rw[S7 hl']
  ·trivial
 |_=>rw[cz]<;>first|trivial|(intros;simp_all)
theorem IJ(hΦ:∀j,Imp (Φ j) (Ψ j))(hc:cH c=true)(ha:qQ Φ Ψ ms a)(hb:qQ Φ Ψ ms b):wC Φ Ψ ms (.iff c a b):=λA0 h0 aa env h O s=>by
 have V:=(v_all hΦ).1 c hc;rw[fS,cz];refine bK s (jJ V s.ym s.er) λx h1 v p1 q1=>?_;have s1:=s.ext p1;refine bK s1 (R:=λt _ t'=>t'=t) (bZ λt et=>⟨t,qN q1 et,rfl⟩) λt h2 t' p2 et=>?_;subst et;have s2:=s1.ext p2;cases t' with
 |true=>
  rw[S7 rfl,S7 rfl];refine gC (ha A0 h0 aa env h2 O s2) λf h' g r=>(r.pre s (p1.trans p2)).dF λi hi=>?_;simp only[Dq,mS,oq,l5,mem_append]at hi |-
  rcases hi with z|z
  ·exact .inl (.inl z)
  ·exact .inr (.inl z)
 |false=>
  rw[S8 SV,S8 SV];refine gC (hb A0 h0 aa env h2 O s2) λf h' g r=>(r.pre s (p1.trans p2)).dF λi hi=>?_;simp only[Dq,mS,oq,l5,mem_append]at hi |-
  rcases hi with z|z
  ·exact .inl (.inr z)
  ·exact .inr (.inr z)
def uM(h:Hs)(O:Nat->Option Nat)(m:List Nat)(src:Src)(ws:List Val):Prop :=
 ∀h':Hs,(∀k,k<h.length->(∀i,O i≠some k)->h'[k]?=h[k]?)->(∀i,i∉m->∀a,O i=some a->h'[a]?=h[a]?)->src.items h'=some ws
theorem dO{i:Nat}(e:h[i]?=some (.lst ws)):(Src.live i).items h=some ws:=by simp[Src.items,aA,e]
theorem dP{i:Nat}(e:h[i]?=some (.lst ws)):(Src.enum i).items h=some (bW 0 ws):=by simp[Src.items,aA,e]
theorem sW{A0:AP}{h0:Hs}{m:List Nat}(hb:∀aa env h O x v,SR A0 h0 aa env h O->Dn (Al A0 O) h x v->fV A0 h0 (RF A0 h0 m aa env h O) (body v env h) (bodyV x aa))
  {ku:aK} {qP:Env} {h1:Hs} {O1:Nat->Option Nat} (st:uM h1 O1 m src ws) :
  ∀(xs vs:List Val) (i:Nat) (aa:aK) (env:Env) (h:Hs) (O:Nat->Option Nat),SR A0 h0 aa env h O->Fm m ku qP h1 O1 aa env h O->ws.drop i=vs->aq (Al A0 O) h xs vs ->
   fV A0 h0 (RF A0 h0 m ku qP h1 O1) (forM src body vs.length i env h) (gy bodyV xs aa)
 | [],vs,i,aa,env,h,O,s,f,hd,q=>by
  rw[aq]at q;subst q;have hl:ws.length<=i:=U7.mp hd;have hi:=st h (λk hk n=>(f.keep k hk n).1) (λj hj a e=>(f.stay j hj).2.2.2 a e);rw[gy];refine⟨.nx env,h,?_,O,s,f⟩;show forM src body 0 i env h=_;simp only[forM];unfold bnd ask aS aI;dsimp only;rw[hi];dsimp only;rw[S7 (decide_eq_true hl)];rfl
 | x::xs,vs,i,aa,env,h,O,s,f,hd,q=>by
  rw[aq]at q;obtain⟨v,r,rfl,q1,q2⟩:=q;have hv:ws[i]?=some v:=by have:=TR (λl=>l[0]?) hd;simpa using this
  have hr:ws.drop (i+1)=r:=by
   have:ws.drop (i+1)=(ws.drop i).drop 1:=by rw[Vf]
   rw[this,hd];rfl
  have hi:=st h (λk hk n=>(f.keep k hk n).1) (λj hj a e=>(f.stay j hj).2.2.2 a e);have ev:forM src body (v::r).length i env h=bnd (body v env) (λf=>match f with
   |.nx env'=>forM src body r.length (i+1) env'
   |.ct env'=>forM src body r.length (i+1) env'
   |.bk env'=>ret (.nx env')
   |.rt v=>ret (.rt v)) h:=by
   show forM src body (r.length+1) i env h=_;simp only[forM];unfold bnd ask aS;dsimp only;rw[hi];dsimp only;rw[hv];try rfl
  rw[ev,gy];refine nK (hb aa env h O x v s q1) λfl h2 gl hr2=>?_;have go:∀ao env' O',SR A0 h0 ao env' h2 O'->Fm m aa env h O ao env' h2 O'->fV A0 h0 (RF A0 h0 m ku qP h1 O1) (forM src body r.length (i+1) env' h2) (gy bodyV xs ao):=λao env' O' s' f'=>by
   refine sW hb st xs r (i+1) ao env' h2 O' s' (f.trans f') hr (aq.move iP (λk o hk g=>?_) _ _ q2);have hlt:k<h.length:=(SW.mp g).1;obtain⟨a1,a2⟩:=f'.keep k hlt λi=>hk.2 i rfl;exact⟨⟨hk.1,λi _=>a2 i⟩,a1.trans g⟩
  cases fl<;>cases gl<;>first|exact hr2.elim|skip
  ·obtain⟨O',s',f'⟩:=hr2;exact go _ _ O' s' f'
  ·exact bu hr2
  ·obtain⟨O',s',f'⟩:=hr2;exact bu ⟨O',s',f.trans f'⟩
  ·obtain⟨O',s',f'⟩:=hr2;exact go _ _ O' s' f'
theorem AJ{A0:AP}{m:List Nat}(q:Dn (Al A0 O) h d v)(e:fT k [d]=some xs):∃src ws,srcOf k [v]=some src/\aq (Al A0 O) h xs ws/\src.items h=some ws/\uM h O m src ws:=by
 have lst:∀es,d=.rl es->(∃ws,v=.rl ws/\aq (Al A0 O) h es ws)\/∃a ws,v=.ref a/\h[a]?=some (.lst ws)/\aq (Al A0 O) h es ws/\∀h':Hs,(∀k,k<h.length->(∀i,O i≠some k)->h'[k]?=h[k]?)->h'[a]?=some (Ob.lst ws):=by
  rintro es rfl;rw[Dn]at q
  rcases q with ⟨ws,rfl,_,q⟩|⟨a,ws,rfl,al,g,q⟩
  ·exact .inl ⟨ws,rfl,q⟩
  ·exact .inr ⟨a,ws,rfl,g,q,λh' hk=>(hk a (SW.mp g).1 λi=>al.2 i rfl).trans g⟩
 cases k with
 |seq=>
  cases d<;>first|(cases e;done)|skip
  ·cases e;rw[Dn]at q;obtain⟨ws,rfl,q⟩:=q;exact⟨.fix ws,ws,rfl,q,rfl,λ_ _ _=>rfl⟩
  ·cases e
   rcases lst _ rfl with ⟨ws,rfl,q'⟩|⟨a,ws,rfl,g,q',st⟩
   ·exact⟨.fix ws,ws,rfl,q',rfl,λ_ _ _=>rfl⟩
   ·exact⟨.live a,ws,rfl,q',dO g,λh' hk _=>dO (st h' hk)⟩
 |range=>
  cases d<;>first|(cases e;done)|skip
  rw[Dn]at q;subst q;rename_i n;change (if inR n=true then some (bY 0 n.toNat) else none)=some _ at e;split at e
  ·rename_i hn;cases e;exact⟨.fix _,_,S7 hn,gz,rfl,λ_ _ _=>rfl⟩
  ·cases e
 |enum=>
  cases d<;>first|(cases e;done)|skip
  cases e
  rcases lst _ rfl with ⟨ws,rfl,q'⟩|⟨a,ws,rfl,g,q',st⟩
  ·exact⟨.fix _,_,rfl,eu 0 q',rfl,λ_ _ _=>rfl⟩
  ·exact⟨.enum a,_,rfl,eu 0 q',dP g,λh' hk _=>dP (st h' hk)⟩
 |zip=>cases e
theorem AK{α β γ δ:Type}{R:α -> Hs -> β -> Prop}{R':γ -> Hs -> δ -> Prop}{m:M β}{f:β -> M δ}{p:Pr α}{F:α -> Pr γ}(r:Rel A h R (m h) p)(k:∀a h1 b,p=.ok a->h<+:h1->R a h1 b->Rel A h1 R' (f b h1) (F a)):Rel A h R' (bnd m f h) (pb p F):=by
 unfold bnd;cases p with
 |ok a=>
  obtain⟨b,h1,e,q,r⟩:=r;rw[e];show Rel A h R' (f b h1) (F a);have:=k a h1 b rfl q r;cases e2:F a with
  |ok c=>rw[e2]at this;obtain⟨d,h2,e3,q2,r2⟩:=this;exact⟨d,h2,e3,q.trans q2,r2⟩
  |exc c es=>rw[e2]at this;obtain⟨d,h2,e3,q2,r2⟩:=this;exact⟨d,h2,e3,q.trans q2,r2⟩
  |no=>trivial
 |exc c es=>obtain⟨ws,h1,e,q,r⟩:=r;rw[e];exact⟨ws,h1,rfl,q,r⟩
 |no=>trivial
theorem AL{e e2:IE}(h:gn Ψ (.cons e (.cons e2 r)) aa=.ok ds):2<=ds.length:=by
 rw[gn,gn]at h;cases h1:(if isVar e=true then pl (gm aa e) else aT Ψ e aa) with
 |ok a=>
  rw[h1]at h;cases h2:(if isVar e2=true then pl (gm aa e2) else aT Ψ e2 aa) with
  |ok b=>
   rw[h2]at h;cases h3:gn Ψ r aa with
   |ok c=>rw[h3]at h;cases h;simp
   |exc _ _=>rw[h3]at h;cases h
   |no=>rw[h3]at h;cases h
  |exc _ _=>rw[h2]at h;cases h
  |no=>rw[h2]at h;cases h
 |exc _ _=>rw[h1]at h;cases h
 |no=>rw[h1]at h;cases h
theorem AM{d1 d2:Val}(ex:fT k [d1,d2]=some xs):k=.range/\∃n m,d1=.int n/\d2=.int m/\(inR n&&inR m)=true/\xs=bY n (m-n).toNat:=by
 cases k with
 |seq=>cases d1<;>cases ex
 |enum=>cases d1<;>cases ex
 |zip=>cases ex
 |range=>
  cases d1<;>first|(cases ex;done)|skip
  cases d2<;>first|(cases ex;done)|skip
  rename_i n m;change (if (inR n&&inR m)=true then some (bY n (m-n).toNat) else none)=some xs at ex
  by_cases hn:(inR n&&inR m)=true
  ·rw[S7 hn]at ex;cases ex;exact⟨rfl,n,m,rfl,rfl,hn,rfl⟩
  ·rw[S8 hn]at ex;cases ex
theorem uN{d1 d2 d3:Val}:fT k (d1::d2::d3::r)=none:=by
 cases k with
 |seq=>cases d1<;>rfl
 |enum=>cases d1<;>rfl
 |zip=>rfl
 |range=>cases d1<;>first|rfl|(cases d2<;>rfl)
theorem Du{A0:AP}{h0:Hs}{m:List Nat}(hΦ:∀j,Imp (Φ j) (Ψ j))(hi:kr it=true)(s:SR A0 h0 aa env h O)(hm:∀i,it=.cons (.var i) .nil->i∉m) :
  Rel (Al A0 O) h (λxs h' src=>∃ws,aq (Al A0 O) h' xs ws/\src.items h'=some ws/\uM h' O m src ws) (bnd (bg Φ it env) (λits=>aS (srcOf k its)) h) (pb (gn Ψ it aa) λits=>pl (fT k its)):=by
 have V:=v_all hΦ;cases it with
 |nil=>rw[gn];cases k<;>trivial
 |cons e es=>
  cases es with
  |nil=>
   replace hi:=cg hi
   by_cases hv:isVar e=true
   ·cases e<;>first|(cases hv;done)|skip
    rename_i i;rw[gn,gn,S7 hv];simp only[gm];cases hx:aa[i]? with
    |none=>trivial
    |some o=>
     cases o with
     |none=>trivial
     |some fd=>
      obtain⟨f,d⟩:=fd;show Rel _ _ _ _ (pl (fT k [d]));cases hf:pD f with
      |false=>
       have hf:f=.ow:=by cases f<;>first|rfl|cases hf
       subst hf;obtain⟨a,e2,e3,e4⟩:=s.ow i d hx;have ev:bnd (bg Φ #[.var i] env) (λits=>aS (srcOf k its)) h=aS (srcOf k [.ref a]) h:=by rw[bg,bg,aj,bw (dg e2)];rfl
       rw[ev];refine aZ λxs ex=>?_;have hd:∃ds,d=.rl ds:=by cases d<;>first|exact⟨_,rfl⟩|exact False.elim e4|(cases k<;>cases ex)
       obtain⟨ds,rfl⟩:=hd;obtain⟨vs,e4,e5⟩:=e4;have st:∀h':Hs,(∀i,i∉m->∀a,O i=some a->h'[a]?=h[a]?)->h'[a]?=some (Ob.lst vs):=λh' hs=>(hs i (hm i rfl) a e3).trans e4;cases k with
       |seq=>cases ex;exact⟨.live a,rfl,vs,e5,dO e4,λh' _ hs=>dO (st h' hs)⟩
       |range=>cases ex
       |enum=>cases ex;exact⟨.enum a,rfl,_,eu 0 e5,dP e4,λh' _ hs=>dP (st h' hs)⟩
       |zip=>cases ex
      |true=>
       obtain⟨v,e1,e2,_⟩:=s.sh i f d hx hf;have ev:bnd (bg Φ #[.var i] env) (λits=>aS (srcOf k its)) h=aS (srcOf k [v]) h:=by rw[bg,bg,aj,bw (dg e1)];rfl
       rw[ev];refine aZ λxs ex=>?_;obtain⟨src,ws,a1,a2,a3,a4⟩:=AJ (m:=m) e2 ex;exact⟨src,a1,ws,a2,a3,a4⟩
   ·rw[gn,gn,S8 hv]
    have ev:bnd (bg Φ #[e] env) (λits=>aS (srcOf k its)) h=bnd (aH Φ e env) (λv=>aS (srcOf k [v])) h:=by rw[bg,bg,aj];rfl
    rw[ev];have ep:(pb (pb (aT Ψ e aa) λd=>pb (Pr.ok ([]:List Val)) λp=>Pr.ok (d.2::p)) λits=>pl (fT k its))=pb (aT Ψ e aa) λd=>pl (fT k [d.2]):=by cases aT Ψ e aa<;>rfl
    rw[ep];refine af (V.1 e hi.1 aa env _ h s.ym s.er) λx h1 v p1 q1=>aZ λxs ex=>?_;obtain⟨src,ws,a1,a2,a3,a4⟩:=AJ (m:=m) q1.1 ex;exact⟨src,a1,ws,a2,a3,a4⟩
  |cons e2 r=>
   have V2:=V.2 _ hi;refine AK (V2.2 aa env _ h s.ym s.er) λds h1 vs eb p1 q1=>aZ λxs ex=>?_;have hl:2<=ds.length:=AL eb
   match ds,q1 with
   |[],q1=>cases k<;>cases ex
   |[d],q1=>simp at hl
   |[d1,d2],q1=>obtain⟨v,rr,rfl,hv,hr⟩:=q1;obtain⟨w,rfl,hw⟩:=Dd.one hr;obtain⟨rfl,n,m',rfl,rfl,hn,rfl⟩:=AM ex;have:=hv.int;subst this;have:=hw.int;subst this;exact⟨.fix _,S7 hn,_,gz,rfl,λ_ _ _=>rfl⟩
   |d1::d2::d3::dr,q1=>rw[uN]at ex;cases ex
theorem IK(hΦ:∀j,Imp (Φ j) (Ψ j))(hi:kr it=true)(hb:qQ Φ Ψ ms body):wC Φ Ψ ms (.for p k it body):=λA0 h0 aa env h O s=>by
 rw[fS,cz];refine jn λhg=>?_;rw[Ul]at hg;have hm:∀i,it=.cons (.var i) .nil->i∉mS (.for p k it body):=by
  rintro i rfl z;simp only[Ay,and_eq_true,not_eq_true',List.contains_eq_mem,decide_eq_false_iff_not]at hg;simp only[mS,oq,l5,mem_append]at z
  rcases z with z|z|z
  ·exact hg.1.1.1 z
  ·exact hg.1.2 z
  ·exact hg.1.1.2 z
 have ev:∀(F:Src->M Fl),bnd (bg Φ it env) (λits=>bnd (aS (srcOf k its)) F) h=bnd (bnd (bg Φ it env) λits=>aS (srcOf k its)) F h:=λF=>by rw[aj]
 have ep:∀(F:List Val->Pr we),pb (gn Ψ it aa) (λits=>pb (pl (fT k its)) F)=pb (pb (gn Ψ it aa) λits=>pl (fT k its)) F:=λF=>by cases gn Ψ it aa<;>rfl
 rw[ev,ep];refine bK s (Du (m:=mS (.for p k it body)) hΦ hi s hm) λxs h1 src p1 hx=>?_;obtain⟨ws,q1,q2,st⟩:=hx;have s1:=s.ext p1;have l:=q1.length;have OV:∀(F:List Val->M Fl),bnd (ask λh=>src.items h) F h1=F ws h1:=λF=>by unfold bnd ask aS;dsimp only;rw[q2]
 rw[OV];refine gC (sW (m:=mS (.for p k it body)) (λao env' h' O' x v s' qx=>?_) st xs ws 0 aa env h1 O s1 (Fm.refl s1 (Tg _)) rfl q1) λf h' g r=>r.pre s p1;refine bK s' (R:=λgB h2 gj=>∃O2,SR A0 h0 gB gj h2 O2/\Fm (stored p) ao env' h' O' gB gj h2 O2) (aZ λgB e2=>?_) λgB h2 gj p2 hh=>?_
 ·obtain⟨gj,O2,b1,b2,b3⟩:=s'.bind e2 qx;exact⟨gj,b1,O2,b2,b3⟩
 ·obtain⟨O2,b2,b3⟩:=hh
  refine gC (hb A0 h0 gB gj h2 O2 b2) λf h'' g r=>RF.seq (b3.dF λi hi=>?_) (r.dF λi hi=>?_)
  ·simp only[mS,oq,l5,mem_append];exact .inr (.inl hi)
  ·simp only[Dq,mS,oq,l5,mem_append]at hi |-
   rcases hi with z|z
   ·exact .inl z
   ·exact .inr (.inr z)
theorem IL{n:Nat}(hΦ:∀j,Imp (Φ j) (Ψ j))(hc:cH c=true)(hb:qQ Φ Ψ ms body):wC Φ Ψ ms (.whl n c body):=λA0 h0 aa env h O s=>by rw[cz];trivial
theorem Ez:pD (Qi m)=true:=by cases m<;>rfl
theorem SR.fr{A0:AP}{h0:Hs}(s:SR A0 h0 aa env h O):ER A0 (jT aa) env h:=λi f d e=>by
 unfold jT at e;rw[Tq]at e;cases hx:aa[i]? with
 |none=>rw[hx]at e;cases e
 |some o=>
  rw[hx]at e;cases o with
  |none=>cases e
  |some fd=>
   obtain⟨m,d'⟩:=fd;cases e;rw[S8 (by rw[Ez];decide)];cases hm:pD m with
   |false=>
    have hm:m=.ow:=by cases m<;>first|rfl|cases hm
    subst hm;obtain⟨a,e2,e3,e4⟩:=s.ow i d hx;exact⟨_,e2,(e4.mono (A':=A0) (λ_ g=>g) λ_ _ z=>z.dF λ_ y=>y.1).dn (s.up a (s.own i a e3).1)⟩
   |true=>obtain⟨v,e1,e2,_⟩:=s.sh i m d hx hm;exact⟨v,e1,e2.dF λ_ z=>z.1⟩
theorem pG{A0:AP}{h0:Hs}{α β γ δ:Type}{R:α -> Hs -> β -> Prop}{R':γ -> Hs -> δ -> Prop}{mm:M β}{f:β -> M δ}{p:Pr α}{F:α -> Pr γ}(s:SR A0 h0 aa env h O)(r:Rel A0 h R (mm h) p)(k:∀a h1 b,h<+:h1->R a h1 b->fV A0 h0 R' (f b h1) (F a)):fV A0 h0 R' (bnd mm f h) (pb p F):=by
 unfold bnd;cases p with
 |ok a=>obtain⟨b,h1,e,q,r⟩:=r;rw[e];exact k a h1 b q r
 |exc c es=>obtain⟨ws,h1,e,q,r⟩:=r;rw[e];exact⟨ws,h1,rfl,s.pre.trans q,r⟩
 |no=>trivial
theorem yr(h:C8 env es=some p):∃i j,es=.cons (.var i) #[.var j]/\env[i]?=some (some (.nw,p.1))/\env[j]?=some (some (.nw,p.2)):=by
 unfold C8 at h;split at h
 ·split at h
  ·rename_i a b;cases h;exact⟨_,_,rfl,a,b⟩
  ·cases h
 ·cases h
theorem IM(hΦ:∀j,Imp (Φ j) (Ψ j))(ho:cH e=true):wC Φ Ψ ms (.ret e):=λA0 h0 aa env h O s=>by
 have V:=(v_all hΦ).1 e ho;have gen:Nu Ψ e aa=aT Ψ e aa->fV A0 h0 (RF A0 h0 (mS (.ret e)) aa env h O) (fS Φ (.ret e) env h) (cz Ψ ms (.ret e) aa):=λhe=>by
  rw[fS,cz,he];exact bK s (V aa env _ h s.ym s.er) λx h1 v p1 q1=>bu ⟨q1.1.dF λ_ z=>z.1,λf=>(q1.2 f).dF (Fr.le s.pre.length_le),s.pre.trans p1⟩
 cases e with
 |var i=>
  rw[fS,cz];simp only[Nu];cases hx:aa[i]? with
  |none=>trivial
  |some o=>
   cases o with
   |none=>trivial
   |some fd=>
    obtain⟨f,d⟩:=fd;cases hf:pD f with
    |false=>
     have hf:f=.ow:=by cases f<;>first|rfl|cases hf
     subst hf;obtain⟨a,e2,e3,e4⟩:=s.ow i d hx;rw[bw (dg e2)];have ha:=s.own i a e3;cases d<;>first|exact False.elim e4|skip
     ·refine⟨_,h,rfl,?_,λhi=>?_,s.pre⟩
      ·exact(e4.mono (A':=A0) (λ_ g=>g) λ_ _ z=>z.dF λ_ y=>y.1).dn (s.up a ha.1)
      ·obtain⟨vs,e4,e5⟩:=e4;show Dn _ h (.rl _) (.ref a);rw[Dn];exact .inr ⟨a,vs,rfl,ha.1,e4,dZ e5 hi⟩
     ·refine⟨_,h,rfl,?_,λhi=>?_,s.pre⟩
      ·exact(e4.mono (A':=A0) (λ_ g=>g) λ_ _ z=>z.dF λ_ y=>y.1).dn (s.up a ha.1)
      ·obtain⟨kvs,e4,ek,e5⟩:=e4;show Dn _ h (.dc _ _) (.ref a);rw[Dn];exact⟨a,kvs,rfl,ha.1,e4,ek,dZ e5 hi⟩
    |true=>
     obtain⟨v,e1,e2,e3⟩:=s.sh i f d hx hf;rw[bw (dg e1)];dsimp only;rw[S7 hf];refine⟨_,h,rfl,e2.dF λ_ z=>z.1,λhi=>?_,s.pre⟩
     rcases(Vs _ _).mp hi with hi|hi
     ·exact(g9 d v hi).mpr ((g9 d v hi).mp e2)
     ·exact(e3 hi).dF λ_ z=>z.1
 |call j es=>rw[fS,cz];exact pG s (V (jT aa) env A0 h (s.up.ext s.pre) s.fr) λx h1 v p1 q1=>bu ⟨q1.1,λf=>(q1.2 f).dF (Fr.le s.pre.length_le),s.pre.trans p1⟩
 |tup es=>
  rw[fS,cz];change fV A0 h0 _ _ (pb (C9 Ψ es aa) _);unfold C9
  split
  ·rename_i pp hp
   obtain⟨i,j,he,hi,hj⟩:=yr hp;subst he;obtain⟨v,e1,e2,e3⟩:=s.sh i .nw _ hi rfl;obtain⟨w,k1,k2,k3⟩:=s.sh j .nw _ hj rfl;have ev:aH Φ (.tup #[.var i,.var j]) env h=.ok (.tup [v,w]) h:=by rw[aH,bg,bg,bg];rw[bw (a:=[v,w]) (h1:=h) (by rw[bw (dg e1),bw (a:=[w]) (h1:=h) (by rw[bw (dg k1)];rfl)];rfl)];rfl
   rw[bw ev];refine⟨_,h,rfl,?_,λ_=>?_,s.pre⟩
   ·show Dn A0 h (.tup _) _;rw[Dn];exact⟨_,rfl,aq.cons (e2.dF λ_ z=>z.1) (aq.cons (k2.dF λ_ z=>z.1) aq.nil)⟩
   ·show Dn (Fr h0.length) h (.tup _) _;rw[Dn];exact⟨_,rfl,aq.cons ((e3 rfl).dF λ_ z=>z.1) (aq.cons ((k3 rfl).dF λ_ z=>z.1) aq.nil)⟩
  exact pG s (V (jT aa) env A0 h (s.up.ext s.pre) s.fr) λx h1 v p1 q1=>bu ⟨q1.1,λf=>(q1.2 f).dF (Fr.le s.pre.length_le),s.pre.trans p1⟩
 |_=>exact gen rfl
theorem IP:qQ Φ Ψ ms .nil:=λA0 h0 aa env h O s=>by rw[iM,jz];exact bu ⟨O,s,Fm.refl s (Tg _)⟩
theorem Dv(ha:wC Φ Ψ ms a)(hr:qQ Φ Ψ ms r):qQ Φ Ψ ms (.cons a r):=λA0 h0 aa env h O s=>by
 rw[iM,jz];have w1:∀i∈mS a,i∈Dq (.cons a r):=λi hi=>by
  simp only[mS,Dq,gx,jy,mem_append]at hi |-
  rcases hi with z|z
  ·exact .inl (.inl z)
  ·exact .inr (.inl z)
 have w2:∀i∈Dq r,i∈Dq (.cons a r):=λi hi=>by
  simp only[Dq,gx,jy,mem_append]at hi |-
  rcases hi with z|z
  ·exact .inl (.inr z)
  ·exact .inr (.inr z)
 refine nK (ha A0 h0 aa env h O s) λf h1 g rr=>?_;have rr:=rr.dF w1;cases f<;>cases g<;>first|exact rr.elim|skip
 ·obtain⟨O',s',f'⟩:=rr;exact gC (hr A0 h0 _ _ h1 O' s') λf h' g r'=>RF.seq f' (r'.dF w2)
 ·exact bu rr
 ·exact bu rr
 ·exact bu rr
theorem LY(hΦ:∀j,Imp (Φ j) (Ψ j)):∀ss,nL ss=true->qQ Φ Ψ ms ss:=by
 intro ss;refine eO.rec (motive_1:=λs=>OU s=true->wC Φ Ψ ms s) (motive_2:=λss=>nL ss=true->qQ Φ Ψ ms ss) ?_ ?_ ?_ ?_ ?_ ?_ ?_ ?_ ?_ ?_ ?_ ?_ ?_ ?_ ?_ ?_ ss
 ·exact λe f=>Dr hΦ f
 ·exact λp e f=>IG hΦ f
 ·exact λi o e f=>II hΦ f
 ·intro o i v f;have f:=l6 f;exact Dt hΦ f.1.1 f.1.2 f.2
 ·intro c a b ia ib f;have f:=l6 f;exact IJ hΦ f.1.1 (ia f.1.2) (ib f.2)
 ·intro p k it b ib f;have f:=cg f;exact IK hΦ f.1 (ib f.2)
 ·intro n c b ib f;have f:=cg f;exact IL hΦ f.1 (ib f.2)
 ·exact λe f=>IM hΦ f
 ·exact λ_ A0 h0 aa env h O s=>by rw[fS,cz];exact bu ⟨by rw[Dn],λ_=>by rw[Dn],s.pre⟩
 ·exact λ_ A0 h0 aa env h O s=>by rw[fS,cz];exact bu ⟨O,s,Fm.refl s (Tg _)⟩
 ·exact λ_ A0 h0 aa env h O s=>by rw[fS,cz];exact bu ⟨O,s,Fm.refl s (Tg _)⟩
 ·exact λ_ A0 h0 aa env h O s=>by rw[fS,cz];exact bu ⟨O,s,Fm.refl s (Tg _)⟩
 ·exact λ_ A0 h0 aa env h O s=>by rw[cz];trivial
 ·exact λ_ _ _ _ _ A0 h0 aa env h O s=>by rw[cz];trivial
 ·exact λ_=>IP
 ·intro a r ia ir f;have f:=cg f;exact Dv (ia f.1) (ir f.2)
theorem LZ{n:Nat}(u:Up A h)(q:aq A h ds vs):SR A h (ds.map (λd=>some (.sh,d))++replicate (n-ds.length) none) (vs.map some++replicate (n-vs.length) none) h (λ_=>none):=by
 have l:=q.length;have al:∀k,A k->Al A (λ_=>none) k:=λk hk=>⟨hk,λi z e=>by subst e;cases z⟩;have get:∀(i:Nat) (f:Mk) (d:Val),(ds.map (λd=>some (.sh,d))++replicate (n-ds.length) none:aK)[i]?=some (some (f,d))->f=.sh/\ds[i]?=some d:=λi f d e=>by
  by_cases hi:i<ds.length
  ·rw[Tf (by simpa using hi),Tq]at e
   cases ei:ds[i]? with
   |none=>rw[ei]at e;cases e
   |some d'=>rw[ei]at e;cases e;exact⟨rfl,rfl⟩
  ·rw[Tw (by simp;omega)]at e;have:=Tr e;rw[Vg]at this;exact absurd this.2 (by simp)
 refine⟨by simp[l],λi m d e hm=>?_,λi d e=>?_,(λi a e=>nomatch e),(λi j a e=>nomatch e),Tg _,u⟩
 ·obtain⟨hm',e⟩:=get i m d e;obtain⟨v,k1,k2⟩:=q.get e;have hi:i<vs.length:=(SW.mp k1).1;exact⟨v,by rw[Tf (by simpa using hi),Tq,k1];rfl,k2.dF al,λz=>by subst hm';cases z⟩
 ·obtain⟨z,_⟩:=get i .ow d e;cases z
theorem b6{n:Nat}(hΦ:∀j,Imp (Φ j) (Ψ j))(ho:nL body=true):Imp (kW Φ n body) (fU Ψ n body):=λA h ds vs u q=>by
 have l:=q.length;have s:=LZ (n:=n) u q;unfold kW fU;have r:=nK (R':=λx h' v=>h<+:h'/\RV A h x h' v) (LY (ms:=gx body) hΦ body ho A h _ _ h _ s) (f:=λf=>match f with
  |.nx _=>ret .non
  |.rt v=>ret v
  |_=>aS none) (F:=λf=>match f with
  |.nx _=>.ok (true,.non)
  |.rt p=>.ok p
  | _=>.no) λf h1 g rr=>by
   cases f<;>cases g<;>first|exact rr.elim|skip
   ·obtain⟨O',s',_⟩:=rr;exact bu ⟨s'.pre,by show Dn _ _ Val.non _;rw[Dn],λ_=>by show Dn _ _ Val.non _;rw[Dn]⟩
   ·exact bu ⟨rr.2.2,rr.1,rr.2.1⟩
   ·trivial
   ·trivial
 revert r;generalize (pb (jz Ψ (gx body) body (ds.map (λd=>some (.sh,d))++replicate (n-ds.length) none)) _)=p;intro r;cases p with
 |ok x=>obtain⟨v,h',e,a,b⟩:=r;exact⟨v,h',e,a,b⟩
 |exc c es=>exact r
 |no=>trivial
end
abbrev bQ:=List Val->Pr FV
def aF(gs:List bQ)(j:Nat):bQ:=match gs[j]? with
 |some g=>g
 |none=>λ_=>.no
def ff(fs:List Row)(gs:List bQ):Prop:=fs.length=gs.length/\∀(j:Nat) (r:Row) (g:bQ),fs[j]?=some r->gs[j]?=some g->Imp r.2.2 g
theorem AN:ff [] []:=⟨rfl,λj r g e=>by simp at e⟩
theorem aL(a:ff fs gs)(j:Nat):Imp (look fs j) (aF gs j):=by
 unfold look aF;cases e:fs[j]? with
 |none=>
  have:gs[j]?=none:=by have:=Uq.mp e;exact Uq.mpr (by rw[<-a.1];exact this)
  rw[this];exact λ_ _ _ _ _ _=>trivial
 |some r=>
  cases e2:gs[j]? with
  |none=>exact λ_ _ _ _ _ _=>trivial
  |some g=>exact a.2 j r g e e2
theorem aN{k:Nat}(a:ff fs gs)(i:Imp f g):ff (fs++[(x,k,f)]) (gs++[g]):=by
 refine⟨by simp[a.1],λj r g' e1 e2=>?_⟩
 by_cases hj:j<fs.length
 ·rw[Tf hj]at e1;rw[Tf (by rw[<-a.1];exact hj)]at e2;exact a.2 j r g' e1 e2
 ·rw[Tw (by omega)]at e1
  rw[Tw (by rw[<-a.1];omega)]at e2;have hj0:j-fs.length=0:=by have:=(SW.mp e1).1;simp at this;omega
  rw[<-a.1]at e2;rw[hj0]at e1 e2;simp at e1 e2;subst e1;subst e2;exact i
section
variable {α β γ:Type}
theorem bR(a:α)(f:α -> Pr β):pb (.ok a) f=f a:=rfl
theorem IQ(c:Prop)[Decidable c](m n:Pr α)(f:α -> Pr β):pb (if c then m else n) f=if c then pb m f else pb n f:=by split<;>rfl
theorem iE(m:Pr α)(f:α -> Pr β)(g:β -> Pr γ):pb (pb m f) g=pb m λx=>pb (f x) g:=by cases m<;>rfl
theorem iu(a:α):pl (some a)=.ok a:=rfl
theorem Dw(m:Pr α):pg true m=m:=rfl
theorem IT(c:Prop)[Decidable c](m:Pr α):pg (decide c) m=if c then m else .no:=by unfold pg;simp
theorem qR{c:Bool}(h:c=true)(m:Pr α):pg c m=m:=by rw[h];rfl
end
theorem AO{f:Bool}:pD (jH f d)=true:=by unfold jH;split<;>rfl
theorem L0:pD .sh=true:=rfl
theorem L1:pD .nw=true:=rfl
theorem L3:pD .ow=false:=rfl
theorem L4:Ia .sh=false:=rfl
theorem L5:Ia .nw=true:=rfl
theorem IU{f:Bool}{i:Int}:jH f (.int i)=.sh:=by cases f<;>rfl
theorem L6{f:Bool}{i:Bool}:jH f (.bl i)=.sh:=by cases f<;>rfl
theorem IV{f:Bool}:jH f (.str i)=.sh:=by cases f<;>rfl
theorem IW{f:Bool}:jH f .non=.sh:=by cases f<;>rfl
theorem OW:jH false d=.sh:=rfl
theorem L7:jH true (.rl ds)=.nw:=rfl
theorem L8:jH true (.dc ks ds)=.nw:=rfl
theorem sX(Q:List Val->aK->Prop):∀(xs done:List Val) (env:aK),Q done env->(∀(pre:List Val) (x:Val) (post:List Val) (env:aK),done++xs=pre++x::post->Q pre env->∃env',(body x env=.ok (.nx env')\/body x env=.ok (.ct env'))/\Q (pre++[x]) env')->∃env',gy body xs env=.ok (.nx env')/\Q (done++xs) env'
 |[],done,env,q,_=>⟨env,rfl,by rw[Uy];exact q⟩
 | x::xs,done,env,q,h=>by
  obtain⟨env',e,q'⟩:=h done x xs env rfl q;have eq:done++x::xs=done++[x]++xs:=by simp
  obtain⟨gj,e2,q2⟩:=sX Q xs (done++[x]) env' q' (by rw[<-eq];exact h);refine⟨gj,?_,by rw[eq];exact q2⟩;rw[gy]
  rcases e with e|e<;>(rw[e,bR];exact e2)
section
variable {a b:Int} {x y:Str} {t:Bool} {vs ws:List Val} {v:Val}
theorem Ma:jI .add (.int a) (.int b)=.ok (true,.int (a+b)):=rfl
theorem Mb:jI .sub (.int a) (.int b)=.ok (true,.int (a-b)):=rfl
theorem pH(h:eT a b=true):jI .mul (.int a) (.int b)=.ok (true,.int (a*b)):=by simp only[jI];exact qR h _
theorem lg(h:kR b=true):jI .fdiv (.int a) (.int b)=.ok (true,.int (a/b)):=by simp only[jI];exact qR h _
theorem eX(h:decide (0<b)=true):jI .mod (.int a) (.int b)=.ok (true,.int (a%b)):=by simp only[jI];exact qR h _
theorem EA(h:decide (0<=b/\b<=1000000/\a.natAbs<2 ^ 64)=true):jI .pow (.int a) (.int b)=.ok (true,.int (a ^ b.toNat)):=by simp only[jI];exact qR h _
theorem OX:cop [] .lt (.int a) (.int b)=some (decide (a<b)):=rfl
theorem OY:cop [] .le (.int a) (.int b)=some (decide (a<=b)):=rfl
theorem OZ:cop [] .gt (.int a) (.int b)=some (decide (b<a)):=rfl
theorem O0:cop [] .ge (.int a) (.int b)=some (decide (b<=a)):=rfl
theorem O3:cop [] .eq (.int a) (.int b)=some (decide (a=b)):=by
 show some (a==b)=_
 congr 1
theorem O4:cop [] .ne (.int a) (.int b)=some (!decide (a=b)):=by
 show some (!(a==b))=_
 congr 1
theorem Mc:cop [] .isn v .non=some (mZ v):=by cases v<;>rfl
theorem Mf:cop [] .ntn v .non=some (!mZ v):=by cases v<;>rfl
theorem EB:cI [] (.bl t)=some t:=rfl
theorem Mg:cI [] (.int a)=some (a != 0):=rfl
theorem Mh:cI [] (.rl vs)=some (!vs.isEmpty):=rfl
theorem Mi:cI [] (.tup vs)=some (!vs.isEmpty):=rfl
theorem Mj:gk .len [.rl vs]=.ok (true,.int vs.length):=rfl
theorem Ml:gk .len [.tup vs]=.ok (true,.int vs.length):=rfl
theorem Mm:gk .min [.int a,.int b]=.ok (true,.int (if b<a then b else a)):=rfl
theorem Mn:gk .max [.int a,.int b]=.ok (true,.int (if b>a then b else a)):=rfl
theorem IX:gk .min [.tup [.int a,.int b]]=.ok (true,.int (min a b)):=rfl
theorem IY:gk .max [.tup [.int a,.int b]]=.ok (true,.int (max a b)):=rfl
theorem IZ:gk .list [.rl vs]=.ok (bP vs,.rl vs):=rfl
theorem Ja:gk .list [.tup vs]=.ok (bP vs,.rl vs):=rfl
theorem Mp:gk .int [.bl t]=.ok (true,.int (if t=true then 1 else 0)):=rfl
theorem Mq(h:gU vs a=some v):iF [] (.rl vs) (.int a)=some v:=h
theorem bT(h:gU vs a=some v):iF [] (.tup vs) (.int a)=some v:=h
end
theorem kB:gU (v::vs) (0:Int)=some v:=by
 have:=qi (xs:=v::vs) (j:=0) (v:=v) rfl;exact this
theorem jK:gU (u::v::vs) (1:Int)=some v:=by
 have:=qi (xs:=u::v::vs) (j:=1) (v:=v) rfl;exact this
theorem lq{T:String}{t:String}(h1:se [] v=some t)(h2:sf T t=some true):gk (.isin T) [v]=.ok (true,.bl true):=by
 show pb (pl (se [] v)) _=_;rw[h1,iu,bR,h2];rfl
theorem uO{T:String}{t:String}(h1:se [] v=some t)(h2:sf T t=some false):gk (.isin T) [v]=.ok (true,.bl false):=by
 show pb (pl (se [] v)) _=_;rw[h1,iu,bR,h2];rfl
theorem ne_self(h:toD 16 [] d=some p)(hp:p.canLay0=true):cop [] .ne d d=some false:=by
 simp only[cop,yR,h,bind_some];rw[SeqAt.eqv_refl p hp];rfl
theorem Mr:fT .seq [.tup vs]=some vs:=rfl
theorem eB:fT .seq [.rl vs]=some vs:=rfl
theorem Jb:Ax .seq ds=fT .seq ds:=rfl
theorem Jc:Ax .range ds=fT .range ds:=rfl
theorem Jd:Ax .enum ds=fT .enum ds:=rfl
theorem EC:fT .enum [.rl vs]=some (bW 0 vs):=rfl
theorem ED{lo hi:Option Int}:Aw (.rl vs) lo hi=.ok (bP (bU vs lo hi),.rl (bU vs lo hi)):=rfl
theorem bx{i:Nat}:cZ (.one i) d env=some (env.set i (some (.sh,d))):=rfl
theorem AQ{i j:Nat}:cZ (.tup [i,j]) (.tup [d,e]) env=some ((env.set i (some (.sh,d))).set j (some (.sh,e))):=rfl
theorem sY{α β:Type}(f:α -> β)(ds:List α)(lo hi:Option Int):bU (ds.map f) lo hi=(bU ds lo hi).map f:=by
 unfold bU;simp only[length_map,List.map_take,List.map_drop]
theorem lu:∀(i:Nat) (ds:List Val),(bW i ds).length=ds.length
 |_,[]=>rfl
 |i,d::r=>by rw[bW,TM,lu (i+1) r,TM]
theorem gD{α β γ:Type}{f:β -> Option γ}{g:α -> β}{k:α -> γ}:∀(xs:List α),(∀x∈xs,f (g x)=some (k x))->bf f (xs.map g)=some (xs.map k)
 |[],_=>rfl
 | x::r,h=>by
  rw[S5,bf,h x S3,gD r λy hy=>h y (S2 _ hy)];rfl
theorem ints_map(xs:List Int):aO (xs.map .int)=some xs:=by
 have:=gD (f:=λv=>match v with|.int i=>some i|_=>none) (g:=Val.int) (k:=id) xs λ_ _=>rfl;rw[Vh]at this;exact this
theorem uP(mj:List (List Int))(h:∀k∈mj,k≠[])(hl:mj.length<64):fG (mj.map jE)=some ((j5 mj).map jE):=by
 unfold fG;rw[S7 (by rw[S1];exact hl)];cases mj with
 |nil=>rfl
 |cons k r=>
  have e:aO (List.map jE (k::r))=none:=by unfold aO ;rw[S5,bf];rfl
  rw[e];have e2:jw (List.map jE (k::r))=some (k::r):=by
   have:=gD (f:=λv=>match v with|.tup vs=>if vs.isEmpty then none else aO vs|_=>none) (g:=jE) (k:=id) (k::r) λx hx=>by
    have hx:=h x hx;show (if (x.map Val.int).isEmpty=true then none else aO (x.map .int))=some x;rw[S8 (by simpa using hx),ints_map]
   rw[Vh]at this;exact this
  show (jw (List.map jE (k::r))).bind _=_;rw[e2];rfl
theorem uQ{α:Type}(xs:List α):dM (xs.map λ_=>Val.bl true)=some (xs.map λ_=>true):=gD (g:=λ_=>Val.bl true) (k:=λ_=>true) xs λ_ _=>rfl
theorem all_true{α:Type}(xs:List α):gk .all [.rl (xs.map λ_=>Val.bl true)]=.ok (true,.bl true):=by
 show pb (pl (dM _)) _=_;rw[uQ,iu,bR]
 congr 3
 simp
theorem AR{jB:aK}{β:Type}{k:we->Pr β}(G:Pr β -> Prop)(Q:List Val->aK->Prop)(h0:Q [] jB)
  (step:∀(pre:List Val) (x:Val) (env:aK),x∈xs->pre.length<xs.length->Q pre env->∃env',body x env=.ok (.nx env')/\Q (pre++[x]) env')
  (post:∀env',Q xs env'->G (k (.nx env'))):G (pb (gy body xs jB) k):=by
 obtain⟨env',e,q⟩:=sX Q xs [] jB h0 (λpre x post env ep q=>by
  rw[UN]at ep;obtain⟨env',e,q'⟩:=step pre x env (by rw[ep];simp) (by rw[ep];simp) q;exact⟨env',.inl e,q'⟩)
 rw[e,bR];exact post env' (by rw[UN]at q;exact q)
theorem uR{α:Type}{n:Nat}(f:α -> Val)(g:α -> PyData)(xs:List α)(e:∀x∈xs,toD n h (f x)=some (g x)):toD (n+1) h (.rl (xs.map f))=some (.list (xs.map g)):=by
 show (bf (toD n h) _).bind _=_;rw[gD xs e];rfl
theorem Dy{α:Type}{n:Nat}(f:α -> Val)(g:α -> PyData)(xs:List α)(e:∀x∈xs,toD n h (f x)=some (g x)):toD (n+1) h (.tup (xs.map f))=some (.tuple (xs.map g)):=by
 show (bf (toD n h) _).bind _=_;rw[gD xs e];rfl
theorem AS{n:Nat}(ks:List Int):toD (n+2) h (jE ks)=some (.tuple (ks.map .int)):=Dy _ _ ks λ_ _=>rfl
theorem iw{α:Type}(g:α -> PyData):∀(xs:List α),(∀x∈xs,(g x).canLay0=true)->PyData.canLayAll0 (xs.map g)=true
 |[],_=>by simp[PyData.canLayAll0]
 | x::r,h=>by
  rw[S5,PyData.canLayAll0,h x S3,iw g r λy hy=>h y (S2 _ hy)];rfl
theorem pI{α:Type}(enc:α -> Val)(Q:List α -> aK->Prop):∀(us done:List α) (env:aK),Q done env->(∀(pre:List α) (u:α) (post:List α) (env:aK),done++us=pre++u::post->Q pre env->∃env',body (enc u) env=.ok (.nx env')/\Q (pre++[u]) env')->∃env',gy body (us.map enc) env=.ok (.nx env')/\Q (done++us) env'
 |[],done,env,q,_=>⟨env,rfl,by rw[Uy];exact q⟩
 | x::xs,done,env,q,h=>by
  obtain⟨env',e,q'⟩:=h done x xs env rfl q;have eq:done++x::xs=done++[x]++xs:=by simp
  obtain⟨gj,e2,q2⟩:=pI enc Q xs (done++[x]) env' q' (by rw[<-eq];exact h);refine⟨gj,?_,by rw[eq];exact q2⟩;rw[S5,gy,e,bR];exact e2
theorem bX{α:Type}(enc:α -> Val){us:List α}{jB:aK}{β:Type}{k:we->Pr β}(G:Pr β -> Prop)(Q:List α -> aK->Prop)(h0:Q [] jB)
  (step:∀(pre:List α) (u:α) (post:List α) (env:aK),us=pre++u::post->Q pre env->∃env',body (enc u) env=.ok (.nx env')/\Q (pre++[u]) env')
  (post:∀env',Q us env'->G (k (.nx env'))):G (pb (gy body (us.map enc) jB) k):=by
 obtain⟨env',e,q⟩:=pI enc Q us [] jB h0 (λpre x post env ep q=>step pre x post env ep q);rw[e,bR];exact post env' q
abbrev jA(xs:List Int)(g:Int->Val):Val:=.dc (xs.map Sum.inl) (xs.map g)
def ly(g:Int->Val)(x:Int)(v:Val):Int->Val:=λy=>if y=x then v else g y
theorem qS(xs:List Int)(g:Int->Val):(xs.map (Sum.inl:Int->Key)).zip (xs.map g)=xs.map λx=>((Sum.inl x:Key),g x):=by
 induction xs with
 |nil=>rfl
 |cons x r ih=>simp only[map_cons,zip_cons_cons,ih]
theorem iy{xs:List Int}{x:Int}(h:x∈xs):iF [] (jA xs g) (.int x)=some (g x):=by
 show bN _ _=_;rw[qS];unfold bN
 induction xs with
 |nil=>simp at h
 |cons y r ih=>
  rw[S5,U9]
  by_cases e:y=x
  ·subst e;simp
  ·have:((Sum.inl y:Key)=Sum.inl x)=False:=by simp[e]
   simp only[this,decide_false];exact ih (by rcases Td.mp h with h|h;exact absurd h.symm e;exact h)
theorem AV(xs:List Int)(g:Int->Val)(x:Int):((xs.map λx=>((Sum.inl x:Key),g x)).any λkv=>decide (kv.1=Sum.inl x))=decide (x∈xs):=by
 induction xs with
 |nil=>rfl
 |cons y r ih=>
  rw[S5,U4,ih]
  by_cases e:y=x
  ·subst e;simp
  ·have e':¬ x=y:=λh=>e h.symm;simp[e,e']
theorem qT{xs:List Int}{x:Int}(h:x∈xs):putD (xs.map Sum.inl) (xs.map g) (.inl x) v=jA xs (ly g x v):=by
 unfold putD jo;rw[qS,AV,S7 (by simpa using h)];unfold jA;rw[Tu,Tu]
 congr 1
 ·refine TQ λy _=>?_
  show ((if (Sum.inl y:Key)=Sum.inl x then ((Sum.inl y:Key),v) else (Sum.inl y,g y)).1)=_
  split<;>rfl
 ·rw[Tu,Tu]
  refine TQ λy _=>?_;show ((if (Sum.inl y:Key)=Sum.inl x then ((Sum.inl y:Key),v) else (Sum.inl y,g y)).2)=_;unfold ly
  by_cases e:y=x
  ·rw[S7 (by rw[e]),S7 e]
  ·rw[S8 (by simpa using e),S8 e]
theorem wG{xs:List Int}{x:Int}(h:x∉xs):putD (xs.map Sum.inl) (xs.map g) (.inl x) v=jA (xs++[x]) (ly g x v):=by
 unfold putD jo;rw[qS,AV,S8 (by simpa using h)];unfold jA;simp only[map_append,List.map_map,map_cons,map_nil]
 congr 1
 congr 1
 ·refine TQ λy hy=>?_;show g y=ly g x v y;unfold ly;rw[S8 (λe:y=x=>h (e▸hy))]
 ·simp[ly]
theorem dQ{xs:List Int}(h:∀x∈xs,g x=g' x):jA xs g=jA xs g':=by
 unfold jA;rw[TQ h]
theorem lP{x:Int}:keyOf (.int x)=some (.inl x):=rfl
theorem Dz(a b:Int):PyData.eqv (.int a) (.int b)=decide (a=b):=by
 show (a==b)=_
 by_cases h:a=b<;>simp[h]
theorem EE{xs:List Int}{x:Int}:cop [] .yQ (.int x) (.rl (xs.map .int))=some (decide (x∈xs)):=by
 show (toD 16 [] (.rl (xs.map .int))).bind _=_;rw[uR Val.int PyData.int xs λ_ _=>rfl];show some ((xs.map PyData.int).any λy=>PyData.eqv y (.int x))=_
 congr 1
 induction xs with
 |nil=>rfl
 |cons y r ih=>
  rw[S5,U4,ih,Dz]
  by_cases e:y=x
  ·subst e;simp
  ·have e':¬ x=y:=λh=>e h.symm;simp[e,e']
theorem Je{xs:List Int}{x:Int}:cop [] .nin (.int x) (.rl (xs.map .int))=some (!decide (x∈xs)):=by
 show (cop [] .yQ (.int x) (.rl (xs.map .int))).map _=_;rw[EE];rfl
theorem nM(x:Int):∀(ns ks:List Int),x∈fF ks ns↔x∈ks\/x∈ns
 |[],ks=>by simp[fF]
 | k::r,ks=>by
  rw[fF,nM x r,mY]
  split
  ·rename_i h
   constructor
   ·rintro(h'|h')
    ·exact .inl h'
    ·exact .inr (S2 _ h')
   ·rintro(h'|h')
    ·exact .inl h'
    ·rcases Td.mp h' with h'|h'
     ·exact .inl (h'▸h)
     ·exact .inr h'
  ·simp[or_assoc]
theorem jL:∀(ns ks:List Int),ks.Nodup->(fF ks ns).Nodup
 |[],ks,h=>h
 | k::r,ks,h=>by
  rw[fF];refine jL r _ ?_;rw[mY]
  split
  ·exact h
  ·rename_i hk;rw[Ug];exact⟨h,by simp,λa ha b hb=>by simp at hb;subst hb;exact λe=>hk (e▸ha)⟩
def j4(ns:List Int):List Int:=sortI (fF [] ns)
inductive Way (es:List (Int×Int)):Int->Int->Prop
 |refl (a:Int):Way es a a
 |fwd {a b c:Int}:Way es a b->(b,c)∈es->Way es a c
 |bwd {a b c:Int}:Way es a b->(c,b)∈es->Way es a c
theorem Way.trans{a b c:Int}(h:Way es a b)(k:Way es b c):Way es a c:=by
 induction k with
 |refl=>exact h
 |fwd _ m ih=>exact .fwd ih m
 |bwd _ m ih=>exact .bwd ih m
theorem Way.symm{a b:Int}(h:Way es a b):Way es b a:=by
 induction h with
 |refl=>exact .refl _
 |fwd _ m ih=>exact(Way.bwd (.refl _) m).trans ih
 |bwd _ m ih=>exact(Way.fwd (.refl _) m).trans ih
theorem Way.mono(hs:∀e∈es,e∈fs){a b:Int}(h:Way es a b):Way fs a b:=by
 induction h with
 |refl=>exact .refl _
 |fwd _ m ih=>exact .fwd ih (hs _ m)
 |bwd _ m ih=>exact .bwd ih (hs _ m)
theorem Way.const{α:Type}(f:Int -> α)(hf:∀e∈es,f e.1=f e.2){a b:Int}(h:Way es a b):f a=f b:=by
 induction h with
 |refl=>rfl
 |fwd _ m ih=>exact ih.trans (hf _ m)
 |bwd _ m ih=>exact ih.trans (hf _ m).symm
structure t6 (ps:List Int) (es:List (Int×Int)) (f:Int->Int):Prop where
 yQ:∀x∈ps,f x∈ps
 way:∀x∈ps,Way es x (f x)
 same:∀e∈es,f e.1=f e.2
theorem t6.iff{ps:List Int}(h:t6 ps es f){x y:Int}(hx:x∈ps)(hy:y∈ps):f x=f y↔Way es x y:=by
 constructor
 ·intro e;have:=(h.way y hy).symm;rw[<-e]at this;exact(h.way x hx).trans this
 ·exact λw=>w.const f h.same
theorem t6.start(ps:List Int):t6 ps [] id:=⟨λx h=>h,λx _=>.refl x,λe h=>by simp at h⟩
theorem t6.step{ps:List Int}(h:t6 ps es f){a b:Int}(ha:a∈ps)(hb:b∈ps)(kept gone:Int)(hk:(kept=f a/\gone=f b)\/(kept=f b/\gone=f a)):t6 ps (es++[(a,b)]) (λx=>if f x=gone then kept else f x):=by
 have up:∀{x y},Way es x y->Way (es++[(a,b)]) x y:=λw=>w.mono λe he=>TU _ he;have ab:Way (es++[(a,b)]) a b:=.fwd (.refl _) (by simp);refine⟨λx hx=>?_,λx hx=>?_,λe he=>?_⟩
 ·split
  ·rcases hk with ⟨k,_⟩|⟨k,_⟩<;>rw[k]<;>exact h.yQ _ (by assumption)
  ·exact h.yQ x hx
 ·split
  ·rename_i e
   have w1:=up (h.way x hx);rw[e]at w1;refine w1.trans ?_
   rcases hk with ⟨k,g⟩|⟨k,g⟩
   ·rw[k,g];exact((up (h.way b hb)).symm.trans ab.symm).trans (up (h.way a ha))
   ·rw[k,g];exact((up (h.way a ha)).symm.trans ab).trans (up (h.way b hb))
  ·exact up (h.way x hx)
 ·rcases Ua.mp he with he|he
  ·rw[h.same e he]
  ·rw[Ti]at he
   subst he
   rcases hk with ⟨k,g⟩|⟨k,g⟩
   ·rw[k,g];rw[S7 (rfl:f b=f b)];split<;>rfl
   ·rw[k,g];rw[S7 (rfl:f a=f a)];split<;>rfl
abbrev T3:=Int×Int×Int
def l3(t:T3):List Int:=[t.1,t.2.1,t.2.2]
def aB(t:T3):Val:=.tup [.int t.1,.int t.2.1,.int t.2.2]
def qU(x:T3):List T3->List T3
 |[]=>[x]
 |y::r=>if HT.lexLt (l3 y) (l3 x)=true then y::qU x r else x::y::r
def cG:List T3->List T3
 |[]=>[]
 |x::r=>qU x (cG r)
theorem sZ(x:T3):∀l:List T3,qA (l3 x) (l.map l3)=(qU x l).map l3
 |[]=>rfl
 | y::r=>by
  rw[S5,qA,qU]
  split
  ·rw[S5,sZ x r]
  ·rfl
theorem pJ:∀l:List T3,j5 (l.map l3)=(cG l).map l3
 |[]=>rfl
 |x::r=>by rw[S5,j5,pJ r,sZ];rfl
theorem lz(x:T3):∀l:List T3,(qU x l).Perm (x::l)
 |[]=>.refl _
 | y::r=>by
  rw[qU]
  split
  ·exact((lz x r).cons y).trans (List.Perm.swap ..)
  ·exact .refl _
theorem bS:∀l:List T3,(cG l).Perm l
 |[]=>.refl _
 |x::r=>(lz x _).trans ((bS r).cons x)
theorem DA(ts:List T3)(hl:ts.length<64):fG (ts.map aB)=some ((cG ts).map aB):=by
 have e:∀us:List T3,us.map aB=(us.map l3).map jE:=λus=>by rw[Tu];rfl
 rw[e,uP _ (λk hk=>by obtain⟨t,_,rfl⟩:=T8.mp hk;simp[l3]) (by rw[S1];exact hl),pJ,e]
theorem tu(hl:ts.length<64):gk .sorted [.rl (ts.map aB)]=.ok (true,.rl ((cG ts).map aB)):=by
 show pb (pl (fG _)) _=_;rw[DA ts hl];rfl
def wH(ts:List T3):Prop:=ts.Pairwise λa b=>a.1<b.1
theorem wI(x:T3):∀l:List T3,wH l->(∀y∈l,y.1≠x.1)->wH (qU x l)
 |[],_,_=>by simp[qU,wH]
 | y::r,h,hn=>by
  unfold wH at *;rw[T4]at h;have ny:y.1≠x.1:=hn y S3;rw[qU];have lx:HT.lexLt (l3 y) (l3 x)=decide (y.1<x.1):=by show HT.lexLt (y.1::_) (x.1::_)=_;rw[HT.fz,S8 ny]
  rw[lx]
  by_cases c:y.1<x.1
  ·rw[S7 (by simpa using c),T4]
   refine⟨λz hz=>?_,wI x r h.2 λz hz=>hn z (S2 _ hz)⟩
   rcases Td.mp ((lz x r).mem_iff.mp hz) with hz|hz
   ·rw[hz];exact c
   ·exact h.1 z hz
  ·rw[S8 (by simpa using c),T4,T4]
   refine⟨λz hz=>?_,h⟩;have:x.1<y.1:=by omega
   rcases Td.mp hz with hz|hz
   ·rw[hz];exact this
   ·have:=h.1 z hz;omega
theorem iR:∀l:List T3,(l.map (·.1)).Nodup->wH (cG l)
 |[],_=>.nil
 | x::r,h=>by
  rw[S5,T5]at h;refine wI x _ (iR r h.2) λy hy e=>h.1 ?_;rw[(bS r).mem_iff]at hy;exact T8.mpr ⟨y,hy,e⟩
def turnT(t:T3):T3:=(t.1,if t.2.2<t.2.1 then t.2.2 else t.2.1,if t.2.2>t.2.1 then t.2.2 else t.2.1)
def aQ(p q:Int)(ts:List T3):Val:=.tup [.tup [.int p,.int q],.rl (ts.map aB)]
theorem wJ(p q:Int)(ts:List T3):cop [] .ne (aQ p q ts) (aQ p q ts)=some false:=by
 have h1:toD 15 [] (.tup [.int p,.int q])=some (.tuple [.int p,.int q]):=rfl;have h2:toD 15 [] (.rl (ts.map aB))=some (.list (ts.map λt=>.tuple ((l3 t).map .int))):=uR aB _ ts λt _=>AS (l3 t);have h:toD 16 [] (aQ p q ts)=some (.tuple [.tuple [.int p,.int q],.list (ts.map λt=>.tuple ((l3 t).map .int))]):=by show (bf (toD 15 []) _).bind _=_;rw[bf,h1,bf,h2,bf];rfl
 refine ne_self h ?_;have hi:∀xs:List Int,PyData.canLayAll0 (xs.map PyData.int)=true:=λxs=>iw _ _ λ_ _=>by rw[PyData.canLay0]
 have h3:PyData.canLayAll0 (ts.map λt=>.tuple ((l3 t).map .int))=true:=iw _ _ λt _=>by rw[PyData.canLay0];exact hi _
 have h4:=hi [p,q];simp only[map_cons,map_nil]at h4;rw[PyData.canLay0,PyData.canLayAll0,PyData.canLay0,h4,PyData.canLayAll0,PyData.canLay0,h3,PyData.canLayAll0];rfl
theorem iz{i j k:Nat}:cZ (.tup [i,j,k]) (aB t) env=some (((env.set i (some (.sh,.int t.1))).set j (some (.sh,.int t.2.1))).set k (some (.sh,.int t.2.2))):=rfl
theorem yt{α:Type}(ds:List α)(lo:Int)(n:Nat)(h:0<=lo):(bU ds (some lo) (some (lo+n))).length<=n:=by
 unfold bU HT.cT;dsimp only;rw[S8 (by omega),S8 (by omega)];simp only[List.length_take,List.length_drop];omega
theorem nN{α:Type}(enc:α -> Val)(g:α -> FV):∀(us:List α),(∀u∈us,f (enc u)=.ok (some (g u)))->f6 f (us.map enc)=.ok (us.all λu=>(g u).1,us.map λu=>(g u).2)
 |[],_=>rfl
 | x::xs,h=>by
  rw[S5,f6,h x S3,bR,nN enc g xs λy hy=>h y (S2 _ hy),bR];rfl
theorem dR{α:Type}(enc dec:α -> Val)(us:List α)(h:∀u∈us,f (enc u)=.ok (some (true,dec u))):f6 f (us.map enc)=.ok (true,us.map dec):=by
 rw[nN enc (λu=>(true,dec u)) us h];simp
theorem jM{α:Type}(enc dec:α -> Val)(t:α -> Bool):∀(us:List α),(∀u∈us,f (enc u)=.ok (if t u=true then some (true,dec u) else none))->f6 f (us.map enc)=.ok (true,(us.filter t).map dec)
 |[],_=>rfl
 | x::xs,h=>by
  rw[S5,f6,h x S3,bR,jM enc dec t xs λy hy=>h y (S2 _ hy),bR]
  by_cases hx:t x=true
  ·rw[S7 hx,List.filter_cons_of_pos hx];rfl
  ·rw[S8 hx,List.filter_cons_of_neg hx]
theorem DC:∀m,m<67->∀d,d<67->0<m->0<d->(m*d)%67≠0:=by decide +kernel
theorem DE{m c i j:Int}(hm:0<m/\m<67)(hi:0<=i/\i<67)(hj:0<=j/\j<67)(e:(m*i+c)%67=(m*j+c)%67):i=j:=by
 have key:∀i j:Int,0<=i->j<67->i<j->(m*i+c)%67=(m*j+c)%67->False:=by
  intro i j h0 h1 hlt e;obtain⟨a,ha⟩:=UQ (show 0<=m by omega);obtain⟨d,hd⟩:=UQ (show 0<=j-i by omega);have p:=DC a (by omega) d (by omega) (by omega) (by omega);have:m*j=m*i+m*(j-i):=by rw[Int.mul_sub];omega
  rw[this]at e;have e2:(m*(j-i))%67=0:=by omega
  rw[ha,hd]at e2;apply p;have:((a*d:Nat):Int)%67=0:=by rw[Int.natCast_mul];exact e2
  omega
 rcases Int.lt_trichotomy i j with h|h|h
 ·exact(key i j hi.1 hj.2 h e).elim
 ·exact h
 ·exact(key j i hj.1 hi.2 h e.symm).elim
def bG(aa:aK):aK:=aa.map λo=>match o with
 |some (.nw,.tup _)=>none
 |some (_,d)=>some (.sh,d)
 |none=>none
def f7(aa:aK):aK:=aa.map λo=>match o with
 |some (.sh,d)=>some (.sh,d)
 |_=>none
def EF(Ψ:Nat->List Val->Pr FV)(e:IE)(env:aK):Pr FV:=match aT Ψ e (f7 env) with
 |.ok x=>.ok x
 |_=>pb (aT Ψ e (bG env)) λx=>pg x.1 (.ok x)
def DF(_:IE)(_:uF)(_:Ik)(_:eO):Option (Nat×Nat):=none
def gE:List Val->Option (List (List Int)):=bf λv=>match v with
 |.rl es=>aO es
 |_=>none
def O5(env:aK)(iq:Nat×Nat):Pr we:=match env[iq.1]? with
 |some (some (.ow,.rl ds))=>pb (pl (gE ds)) λls=>pg ((ls.all λl=>decide (l.length+ls.length<sizeLine))&&decide (iq.2<env.length)) (.ok (.nx ((env.set iq.1 none).set iq.2 none)))
 |_=>.no
def new2:IE->Option (IE×IE)
 |.lst #[a,b]=>some (a,b)
 |_=>none
def AW:List Val->Option Nat
 |[]=>some 0
 |.rl es::r=>(AW r).bind λn=>some (max es.length n)
 |_=>none
def Ms(ds:List Val):Option (Mk×Val):=match AW ds with
 |some n=>some (.nw,.tup [.int ((n+1:Nat):Int),.int ds.length])
 |none=>none
def Jf:List Val->Int->Option Int
 |[.int n,.int l],j=>if 0<=j/\j<l then some n else none
 |_,_=>none
inductive XK
 |app (i:Nat) (a:IE)
 |apI (i:Nat) (j:Int) (a:IE)
 |ext (i:Nat) (a:IE)
 |rem (i:Nat) (j a:IE)
def XK.ie:XK->IE
 |.app i a=>.met .append (.var i) #[a]
 |.apI i j a=>.met .append (.idx (.var i) (.cst (.int j))) #[a]
 |.ext i a=>.met .extend (.var i) #[a]
 |.rem i j a=>.met .remove (.idx (.var i) j) #[a]
def XK.at:XK->Nat
 |.app i _=>i
 |.apI i _ _=>i
 |.ext i _=>i
 |.rem i _ _=>i
def xV:IE->Option Nat
 |.var i=>some i
 |_=>none
def xX:IE->Option (IE×IE)
 |.idx a b=>some (a,b)
 |_=>none
def xI:IE->Option Val
 |.cst d=>some d
 |_=>none
def xM:IE->Option (Me×IE×jD)
 |.met m a es=>some (m,a,es)
 |_=>none
def xO:jD->Option IE
 |.cons a .nil=>some a
 |_=>none
def xJ(o:IE):Option (Nat×Int):=(xX o).bind λy=>(xV y.1).bind λx=>(xI y.2).bind λd=>(fH d).bind λj=>some (x,j)
def RJ:Me->IE->IE->Option XK
 |.append,a,x=>(match xV a with|some i=>some (.app i x)|none=>(xJ a).bind λy=>some (.apI y.1 y.2 x))
 |.extend,a,x=>(xV a).bind λi=>some (.ext i x)
 |.remove,a,x=>(xX a).bind λy=>(xV y.1).bind λi=>some (.rem i y.2 x)
 |_,_,_=>none
def Mt(e:IE):Option XK:=(xM e).bind λm=>(xO m.2.2).bind λx=>RJ m.1 m.2.1 x
section
variable {e:IE}
theorem DG{i:Nat}(h:xV e=some i):e=.var i:=by
 cases e<;>first|(cases h;rfl)|exact nomatch (show none=some _ from h)
theorem Mv(h:xX e=some y):e=.idx y.1 y.2:=by
 cases e<;>first|(cases h;rfl)|exact nomatch (show none=some _ from h)
theorem O6(h:xI e=some d):e=.cst d:=by
 cases e<;>first|(cases h;rfl)|exact nomatch (show none=some _ from h)
theorem O7(h:xM e=some y):e=.met y.1 y.2.1 y.2.2:=by
 cases e<;>first|(cases h;rfl)|exact nomatch (show none=some _ from h)
theorem O8(h:xO es=some e):es=.cons e .nil:=by
 cases es with
 |nil=>cases h
 |cons a r=>
  cases r with
  |nil=>cases h;rfl
  |cons _ _=>cases h
theorem O9(h:xJ e=some y):e=.idx (.var y.1) (.cst (.int y.2)):=by
 obtain⟨z,h1,h⟩:=SS.mp h;obtain⟨x,h2,h⟩:=SS.mp h;obtain⟨d,h3,h⟩:=SS.mp h;obtain⟨j,h4,h⟩:=SS.mp h;cases h;rw[Mv h1,DG h2,O6 h3];cases d<;>first|(cases h4;rfl)|cases h4
theorem Mw(h:Mt e=some k):e=k.ie:=by
 obtain⟨⟨m,a,es⟩,h1,h⟩:=SS.mp h;obtain⟨x,h2,h⟩:=SS.mp h;rw[O7 h1,O8 h2];clear h1 h2;cases m with
 |append=>
  cases h3:xV a with
  |some i=>change (match xV a with|some i=>some (XK.app i x)|none=>(xJ a).bind λy=>some (XK.apI y.1 y.2 x))=some k at h;rw[h3]at h;cases h;rw[DG h3];rfl
  |none=>change (match xV a with|some i=>some (XK.app i x)|none=>(xJ a).bind λy=>some (XK.apI y.1 y.2 x))=some k at h;rw[h3]at h;obtain⟨y,h4,h⟩:=SS.mp h;cases h;rw[O9 h4];rfl
 |extend=>obtain⟨i,h3,h⟩:=SS.mp h;cases h;rw[DG h3];rfl
 |remove=>obtain⟨y,h3,h⟩:=SS.mp h;obtain⟨i,h4,h⟩:=SS.mp h;cases h;rw[Mv h3,DG h4];rfl
 |_=>cases h
end
def DH(Ψ:Nat->List Val->Pr FV):XK->aK->Pr we
 |.app _ _,_=>.no
 | .apI i j a,env=>match env[i]? with
  | some (some (.ow,.tup ds))=>match gU ds j with
   |some (.rl es)=>pb (aT Ψ a (bG env)) λx=>pg (decide (es.length<sizeLine)) (.ok (.nx (env.set i (Ms ds))))
   |_=>.no
  |some (some (.nw,.tup ds))=>pb (pl (Jf ds j)) λn=>pb (aT Ψ a (bG env)) λx=>pg (decide (n<sizeLine)) (.ok (.nx (env.set i none)))
  |_=>.no
 | .ext i a,env=>match env[i]? with
  | some (some (.ow,.rl ds))=>pb (aT Ψ a (bG env)) λx=>match x.2 with
   |.rl es=>pg (x.1&&bP (ds++es)&&decide (ds.length+es.length<=sizeLine)) (.ok (.nx (env.set i (some (.ow,.rl (ds++es))))))
   |_=>.no
  |_=>.no
 | .rem i j a,env=>match env[i]? with
  |some (some (.nw,.rl ds))=>pb (aT Ψ j (bG env)) λz=>pb (pl (fH z.2)) λk=>pb (pl (rR ds.length k)) λn=>pb (pl (gE ds)) λls=>pb (pl ls[n]?) λl=>
    pb (aT Ψ a (bG env)) λx=>pb (pl (fH x.2)) λm=>pg (decide (m∈l)) (.ok (.nx (env.set i (some (.nw,.rl (ds.set n (.rl ((l.eraseIdx (l.idxOf m)).map .int))))))))
  |_=>.no
mutual
noncomputable def cA(Ψ:Nat->List Val->Pr FV)(sp:List Nat):IS->aK->Pr we
 | .expr e,env=>match Mt e with
  |some k=>DH Ψ k env
  |none=>.no
 | .asg p e,env=>match p with
  | .one i=>if sp.contains i=true then (match new2 e with
    |some ab=>pb (aT Ψ ab.1 (bG env)) λx=>pb (aT Ψ ab.2 (bG env)) λy=>pb (pl (gE [x.2,y.2])) λ_=>pg (x.1&&y.1) (.ok (.nx (env.set i (some (.nw,.rl [x.2,y.2])))))
    |none=>pb (aT Ψ e (bG env)) λx=>pg x.1 (.ok (.nx (env.set i (some (.ow,x.2))))))
    else pb (EF Ψ e env) λx=>.ok (.nx (env.set i (some (.sh,x.2))))
  |.tup is=>pb (EF Ψ e env) λx=>pb (pl (cZ (.tup is) x.2 env)) λenv'=>.ok (.nx env')
 |.j4 _ _ _,_=>.no
 |.iff c a b,env=>pb (aT Ψ c (bG env)) λx=>pb (pl (cI [] x.2)) λt=>if t=true then dG Ψ sp a env else dG Ψ sp b env
 | .for p k it body,env=>match it with
  | .cons e .nil=>match DF e p k body with
   |some iq=>O5 env iq
   |none=>pb (EF Ψ e env) λx=>pb (pl (fT k [x.2])) λxs=>gy (λx env=>pb (pl (cZ p x env)) λenv'=>dG Ψ sp body env') xs env
  |_=>.no
 |.ret e,env=>pb (aT Ψ e (bG env)) λp=>.ok (.rt p)
 |.brk,env=>.ok (.bk env)
 |.cnt,env=>.ok (.ct env)
 |.pass,env=>.ok (.nx env)
 |.aug ..,_=>.no
 |.whl ..,_=>.no
 |.zL,_=>.no
 |.never,_=>.no
 |.setF ..,_=>.no
noncomputable def dG(Ψ:Nat->List Val->Pr FV)(sp:List Nat):eO->aK->Pr we
 |.nil,env=>.ok (.nx env)
 | .cons s r,env=>pb (cA Ψ sp s env) λf=>match f with
  |.nx env'=>dG Ψ sp r env'
  |f=>.ok f
end
mutual
noncomputable def Pa:IS->List Nat
 |.expr e=>(match Mt e with|some k=>[k.at]|none=>[])
 |.j4 o _ _=>(match xJ o with|some y=>[y.1]|none=>[])
 |.iff _ a b=>iS a++iS b
 | .for p k it b=>match it with
  | .cons e .nil=>match DF e p k b with
   |some iq=>[iq.1]
   |none=>iS b
  |_=>iS b
 |_=>[]
noncomputable def iS:eO->List Nat
 |.nil=>[]
 |.cons s r=>Pa s++iS r
end
theorem Pb{sp:List Nat}(h:Mt e=some k):cA Ψ sp (.expr e) env=DH Ψ k env:=by rw[cA,h]
def Jg(Ψ:Nat->List Val->Pr FV)(n:Nat)(body:eO)(ds:List Val):Pr FV :=
 pb (dG Ψ (iS body) body (ds.map (λd=>some (.sh,d))++replicate (n-ds.length) none)) λf=>match f with
  |.nx _=>.ok (true,.non)
  |.rt p=>.ok p
  |_=>.no
abbrev UR:=Nat->Nat->Prop
def AU(U:UR):AP:=λo=>match o with
 |none=>True
 |some k=>∀i,¬ U i k
def RU(U:UR)(i:Nat):AP:=λo=>match o with
 |none=>False
 |some k=>U i k
def NN(U:UR)(i:Nat)(h:Hs)(d v:Val):Prop:=∃(b:Nat) (bs:List Nat) (ds:List Val) (ls:List (List Int)),v=.ref b/\d=.rl ds/\gE ds=some ls/\U i b/\h[b]?=some (.lst (bs.map .ref))/\bs.length=ls.length/\(b::bs).Nodup /\
 ∀(k c:Nat) (l:List Int),bs[k]?=some c->ls[k]?=some l->U i c/\h[c]?=some (.lst (l.map .int))
theorem NN.move{i:Nat}(q:NN U i h d v)(m:∀(c:Nat) (o:Ob),U i c->h[c]?=some o->U' i c/\h'[c]?=some o):NN U' i h' d v:=by
 obtain⟨b,bs,ds,ls,e1,e2,e3,e4,e5,e6,e7,e8⟩:=q;exact⟨b,bs,ds,ls,e1,e2,e3,(m b _ e4 e5).1,(m b _ e4 e5).2,e6,e7,λk c l a z=>m c _ (e8 k c l a z).1 (e8 k c l a z).2⟩
theorem iT:∀{ds:List Val} {ls:List (List Int)},gE ds=some ls->ds=ls.map λl=>.rl (l.map .int)
 |[],ls,e=>by simp only[gE,bf]at e;cases e;rfl
 | d::ds,ls,e=>by
  simp only[gE,bf]at e;obtain⟨x,e1,e⟩:=SS.mp e;obtain⟨y,e2,e⟩:=SS.mp e;cases e;rw[iT (show gE ds=some y from e2)];cases d<;>first|(cases e1;done)|skip
  rw[cR e1];rfl
theorem wK:∀(l:List Int),aO (l.map .int)=some l
 |[]=>rfl
 |a::l=>by have ih:=wK l;simp only[aO,map_cons,bf]at ih |-;rw[ih];rfl
theorem wL:∀(ls:List (List Int)),gE (ls.map λl=>.rl (l.map .int))=some ls
 |[]=>rfl
 | l::ls=>by
  have h1:aO (l.map .int)=some l:=by
   induction l with
   |nil=>rfl
   |cons a l ih=>simp only[aO,map_cons,bf]at ih |-;rw[ih];rfl
  have h2:=wL ls;simp only[gE,map_cons,bf]at h2 |-;rw[h1,h2];rfl
theorem NN.dn{i:Nat}(q:NN U i h d v)(hA:∀k,U i k->A (some k)):Dn A h d v:=by
 obtain⟨b,bs,ds,ls,rfl,rfl,e3,e4,e5,e6,e7,e8⟩:=q;rw[iT e3,Dn];refine .inr ⟨b,_,rfl,hA _ e4,e5,?_⟩;clear e5 e7 e3 e4
 induction ls generalizing bs with
 | nil=>cases bs with
  |nil=>rw[UC,UC,aq]
  |cons _ _=>cases e6
 |cons l ls ih=>
  cases bs with
  |nil=>cases e6
  |cons c bs=>refine aq.cons ?_ (ih bs (Nat.succ.inj e6) λk c l a z=>e8 (k+1) c l a z);rw[Dn];exact .inr ⟨c,_,rfl,hA _ (e8 0 c l rfl rfl).1,(e8 0 c l rfl rfl).2,(aP _ _ (aW l)).mpr rfl⟩
def NT(U:UR)(i:Nat)(h:Hs)(d v:Val):Prop:=∃(n:Int) (ws:List Val),d=.tup [.int n,.int ws.length]/\v=.tup ws/\∀w∈ws,∃(b:Nat) (xs:List Val),w=.ref b/\U i b/\h[b]?=some (.lst xs)/\(xs.length:Int)<=n
def NQ(U:UR)(i:Nat)(h:Hs)(d v:Val):Prop:=NN U i h d v\/NT U i h d v
theorem NQ.move{i:Nat}(q:NQ U i h d v)(m:∀(c:Nat) (o:Ob),U i c->h[c]?=some o->U' i c/\h'[c]?=some o):NQ U' i h' d v:=by
 rcases q with q|⟨n,ws,e1,e2,e3⟩
 ·exact .inl (q.move m)
 ·refine .inr ⟨n,ws,e1,e2,λw hw=>?_⟩;obtain⟨b,xs,k1,k2,k3,k4⟩:=e3 w hw;exact⟨b,xs,k1,(m b _ k2 k3).1,(m b _ k2 k3).2,k4⟩
theorem NQ.dn{i:Nat}(q:NQ U i h d v)(n:∀ds,d≠.tup ds)(hA:∀k,U i k->A (some k)):Dn A h d v:=by
 rcases q with q|⟨_,_,e1,_⟩
 ·exact q.dn hA
 ·exact(n _ e1).elim
structure SL (aa:aK) (env:Env) (h:Hs) (U:UR):Prop where
 len:aa.length=env.length
 sh:∀(i:Nat) (d:Val),aa[i]?=some (some (.sh,d))->∃v,env[i]?=some (some v)/\Dn (AU U) h d v
 un:∀(i:Nat) (d:Val),aa[i]?=some (some (.ow,d))->∃v,env[i]?=some (some v)/\Dn (RU U i) h d v
 nn:∀(i:Nat) (d:Val),aa[i]?=some (some (.nw,d))->∃v,env[i]?=some (some v)/\NQ U i h d v
 ub:∀i k,U i k->k<h.length
 DI:∀i j k,U i k->U j k->i=j
structure KU (h:Hs) (U:UR) (h':Hs) (U':UR):Prop where
 le:h.length<=h'.length
 keep:∀k,k<h.length->(∀i,¬ U i k)->h'[k]?=h[k]?/\∀i,¬ U' i k
def Pc(U:UR)(i:Nat):UR:=λj k=>j≠i/\U j k
def yu(U:UR)(i n m:Nat):UR:=λj k=>if j=i then n<=k/\k<m else U j k
def cV{α β:Type}(R:α -> Hs -> β -> Prop)(o:Out β):Pr α -> Prop
 |.ok a=>∃b h',o=.ok b h'/\R a h' b
 |_=>True
def RL(h:Hs)(U:UR):we->Hs->Fl->Prop
 |.nx ao,h',.nx env'=>∃U',SL ao env' h' U'/\KU h U h' U'
 |.bk ao,h',.bk env'=>∃U',SL ao env' h' U'/\KU h U h' U'
 |.ct ao,h',.ct env'=>∃U',SL ao env' h' U'/\KU h U h' U'
 |.rt p,h',.rt v=>RV (λ_=>True) h p h' v/\∃U',KU h U h' U'
 |_,_,_=>False
section
variable {α β γ δ:Type} {h h1 h2:Hs} {U U1 U2:UR} {aa:aK} {env:Env}
theorem aU(r:cV R (m h) p)(k:∀a h1 b,R a h1 b->cV R' (f b h1) (F a)):cV R' (bnd m f h) (pb p F):=by
 unfold bnd;cases p with
 |ok a=>obtain⟨b,h1,e,q⟩:=r;rw[e];exact k a h1 b q
 |exc c es=>trivial
 |no=>trivial
theorem DJ(r:Rel A h R o p):cV (λa h' b=>h<+:h'/\R a h' b) o p:=by
 cases p with
 |ok a=>exact r
 |exc c es=>trivial
 |no=>trivial
theorem cB(r:R a h b):cV R (ret b h) (.ok a):=⟨b,h,rfl,r⟩
theorem kD(r:∀a,o=some a->∃b,o'=some b/\R a h b):cV R (aS o' h) (pl o):=by
 cases o with
 |none=>trivial
 |some a=>obtain⟨b,rfl,q⟩:=r a rfl;exact⟨b,h,rfl,q⟩
theorem iA{c:Bool}(r:c=true->cV R o p):cV R o (pg c p):=by
 unfold pg;cases c with
 |true=>rw[S7 rfl];exact r rfl
 |false=>rw[S8 SV];trivial
theorem gF(r:cV R o p)(k:∀a h' b,R a h' b->R' a h' b):cV R' o p:=by
 cases p with
 |ok a=>obtain⟨b,h',e,r⟩:=r;exact⟨b,h',e,k a h' b r⟩
 |exc c es=>trivial
 |no=>trivial
theorem KU.refl(s:SL aa env h U)(p:h<+:h1):KU h U h1 U:=⟨p.length_le,λk hk n=>⟨gA p hk,n⟩⟩
theorem KU.trans(a:KU h U h1 U1)(b:KU h1 U1 h2 U2):KU h U h2 U2 where
 le:=Tt a.le b.le
 keep k hk n:=by obtain⟨a1,a2⟩:=a.keep k hk n;obtain⟨b1,b2⟩:=b.keep k (Te hk a.le) a2;exact⟨b1.trans a1,b2⟩
theorem RL.seq(a:KU h U h1 U1)(r:RL h1 U1 f h' g):RL h U f h' g:=by
 cases f<;>cases g<;>first|exact r.elim|(obtain⟨O',b,c⟩:=r;exact⟨O',b,a.trans c⟩)|(obtain⟨⟨b,c⟩,O',d⟩:=r;exact⟨⟨b,λz=>(c z).dF (Fr.le a.le)⟩,O',a.trans d⟩)
theorem SL.ext(s:SL aa env h U)(p:h<+:h1):SL aa env h1 U where
 len:=s.len
 sh i d e:=by obtain⟨v,k1,k2⟩:=s.sh i d e;exact⟨v,k1,k2.ext p⟩
 un i d e:=by obtain⟨v,k1,k2⟩:=s.un i d e;exact⟨v,k1,k2.ext p⟩
 nn i d e:=by obtain⟨v,k1,k2⟩:=s.nn i d e;exact⟨v,k1,k2.move λ_ _ a g=>⟨a,bC p g⟩⟩
 ub i k e:=Te (s.ub i k e) p.length_le
 DI:=s.DI
theorem SL.flat(s:SL aa env h U):ER (λ_=>True) (bG aa) env h:=λi f d q=>by
 unfold bG at q;rw[Tq]at q;cases e:aa[i]? with
 |none=>rw[e]at q;cases q
 |some o=>
  rw[e]at q;cases o with
  |none=>cases q
  |some fd=>
   obtain⟨g,d'⟩:=fd;cases g with
   |nw=>cases d'<;>first|(cases q;done)|(cases q;rw[S8 (by decide)];obtain⟨v,k1,k2⟩:=s.nn i _ e;exact⟨v,k1,k2.dn (λ_ z=>nomatch z) λ_ _=>trivial⟩)
   |ow=>cases q;rw[S8 (by decide)];obtain⟨v,k1,k2⟩:=s.un i _ e;exact⟨v,k1,k2.dF λ_ _=>trivial⟩
   |sh=>cases q;rw[S8 (by decide)];obtain⟨v,k1,k2⟩:=s.sh i _ e;exact⟨v,k1,k2.dF λ_ _=>trivial⟩
theorem SL.hide(s:SL aa env h U):ER (AU U) (f7 aa) env h:=λi f d q=>by
 unfold f7 at q;rw[Tq]at q;cases e:aa[i]? with
 |none=>rw[e]at q;cases q
 |some o=>
  rw[e]at q;cases o with
  |none=>cases q
  |some fd=>
   obtain⟨g,d'⟩:=fd;cases g with
   |ow=>cases q
   |nw=>cases q
   |sh=>cases q;rw[S8 (by decide)];exact s.sh i _ e
theorem SL.up(s:SL aa env h U):Up (AU U) h:=λk hk i z=>by have:=s.ub i k z;omega
theorem uS{i:Nat}:∀o,AU U o->AU (Pc U i) o
 |none,_=>trivial
 |some k,n=>λj z=>n j z.2
theorem SL.gen(s:SL aa env h U){i:Nat}(hl:env'.length=env.length)(he:∀j,j≠i->env'[j]?=env[j]?)
  (mA:∀(k:Nat) (b:Ob),AU U (some k)->h[k]?=some b->AU U' (some k)/\h'[k]?=some b) (mR:∀j,j≠i->∀(k:Nat) (b:Ob),U j k->h[k]?=some b->U' j k/\h'[k]?=some b)
  (ub:∀j k,U' j k->k<h'.length) (DI:∀j l k,U' j k->U' l k->j=l)
  (at':∀m d,i<aa.length->o=some (m,d)->∃v,env'[i]?=some (some v)/\match m with
   |.sh=>Dn (AU U') h' d v
   |.ow=>Dn (RU U' i) h' d v
   |.nw=>NQ U' i h' d v):SL (aa.set i o) env' h' U':=by
 have off:∀(j:Nat) (m:Mk) (d:Val),(aa.set i o)[j]?=some (some (m,d))->(j=i/\i<aa.length/\o=some (m,d))\/(j≠i/\aa[j]?=some (some (m,d))):=λj m d e=>by
  by_cases hij:i=j
  ·subst hij
   have hi:i<aa.length:=by have:=(SW.mp e).1;simpa using this
   rw[S6 hi]at e;cases e;exact .inl ⟨rfl,hi,rfl⟩
  ·rw[SX hij]at e;exact .inr ⟨λz=>hij z.symm,e⟩
 refine⟨by simp[s.len,hl],λj d e=>?_,λj d e=>?_,λj d e=>?_,ub,DI⟩
 ·rcases off j _ _ e with ⟨rfl,a,b⟩|⟨n,e⟩
  ·exact at' _ _ a b
  ·obtain⟨w,k1,k2⟩:=s.sh j d e;exact⟨w,(he j n).trans k1,Dn.move (λ_=>trivial) mA _ _ k2⟩
 ·rcases off j _ _ e with ⟨rfl,a,b⟩|⟨n,e⟩
  ·exact at' _ _ a b
  ·obtain⟨w,k1,k2⟩:=s.un j d e;exact⟨w,(he j n).trans k1,Dn.move (A:=RU U j) (A':=RU U' j) (λz=>False.elim z) (λk b a g=>mR j n k b a g) _ _ k2⟩
 ·rcases off j _ _ e with ⟨rfl,a,b⟩|⟨n,e⟩
  ·exact at' _ _ a b
  ·obtain⟨w,k1,k2⟩:=s.nn j d e;exact⟨w,(he j n).trans k1,k2.move λk b=>mR j n k b⟩
theorem wM{i:Nat}:∀j,j≠i->(env.set i v)[j]?=env[j]?:=λj n=>SX λz=>n z.symm
theorem SL.at_(s:SL aa env h U){i:Nat}(hi:i<aa.length):(env.set i (some v))[i]?=some (some v):=S6 (by rw[<-s.len];exact hi)
theorem SL.set(s:SL aa env h U){i:Nat}(q:Dn (AU U) h d v):SL (aa.set i (some (.sh,d))) (env.set i (some v)) h (Pc U i)/\KU h U h (Pc U i) :=
 ⟨s.gen (by simp) wM (λk b a g=>⟨uS _ a,g⟩) (λj n k b a g=>⟨⟨n,a⟩,g⟩) (λj k e=>s.ub j k e.2) (λj l k a b=>s.DI j l k a.2 b.2) (λm d' hi e=>by cases e;exact⟨v,s.at_ hi,q.dF uS⟩),S4 _,λk hk n=>⟨rfl,λj z=>n j z.2⟩⟩
theorem SL.Mx(s:SL aa env h U)(p:h<+:h1){i:Nat}(q:Dn (Fr h.length) h1 d v):SL (aa.set i (some (.ow,d))) (env.set i (some v)) h1 (yu U i h.length h1.length)/\KU h U h1 (yu U i h.length h1.length):=by
 have no:∀k j,k<h.length->¬ U j k->¬ yu U i h.length h1.length j k:=λk j hk n z=>by
  unfold yu at z;split at z
  ·omega
  ·exact n z
 refine⟨s.gen (by simp) wM (λk o a g=>⟨λj=>no k j (SW.mp g).1 (a j),bC p g⟩) (λj n k b a g=>⟨?_,bC p g⟩) (λj k e=>?_) (λj l k e1 e2=>?_) (λm d' hi e=>?_),p.length_le,λk hk n=>⟨gA p hk,λj=>no k j hk (n j)⟩⟩
 ·unfold yu;rw[S8 n];exact a
 ·unfold yu at e
  split at e
  ·exact e.2
  ·exact Te (s.ub j k e) p.length_le
 ·unfold yu at e1 e2
  split at e1<;>split at e2
  ·rename_i a b;rw[a,b]
  ·have:=s.ub l k e2;omega
  ·have:=s.ub j k e1;omega
  ·exact s.DI j l k e1 e2
 ·cases e;refine⟨v,s.at_ hi,Dn.move (A:=Fr h.length) (λz=>False.elim z) (λk o a g=>⟨?_,g⟩) _ _ q⟩;show yu U i h.length h1.length i k;unfold yu;rw[S7 rfl];exact⟨a,(SW.mp g).1⟩
theorem SL.binds:∀{is:List Nat} {ds vs:List Val} {aa:aK} {env:Env} {U:UR} {ao:aK},SL aa env h U->bq is ds aa=some ao->aq (AU U) h ds vs ->
  ∃env' U',bindAll is vs env=some env'/\SL ao env' h U'/\KU h U h U'
 | [],[],vs,aa,env,U,ao,s,e,q=>by
  rw[aq]at q;subst q;simp only[bq]at e;cases e;exact⟨env,U,rfl,s,KU.refl s (Tg _)⟩
 | i::is,d::ds,vs,aa,env,U,ao,s,e,q=>by
  rw[aq]at q;obtain⟨v,r,rfl,q1,q2⟩:=q;simp only[bq]at e;obtain⟨s1,f1⟩:=s.set (i:=i) q1;obtain⟨env',U',b1,b2,b3⟩:=SL.binds s1 e (q2.dF uS);exact⟨env',U',by simp only[bindAll];exact b1,b2,f1.trans b3⟩
 |[],_::_,_,_,_,_,_,_,e,_=>by simp[bq]at e
 |_::_,[],_,_,_,_,_,_,e,_=>by simp[bq]at e
theorem SL.bind(s:SL aa env h U)(e:cZ p d aa=some ao)(q:Dn (AU U) h d v):∃env' U',eV p v env=some env'/\SL ao env' h U'/\KU h U h U':=by
 cases p with
 |one i=>simp only[cZ]at e;cases e;obtain⟨s1,f1⟩:=s.set (i:=i) q;exact⟨_,_,rfl,s1,f1⟩
 |tup is=>
  cases d<;>simp only[cZ]at e<;>first|(cases e;done)|skip
  rw[Dn]at q;obtain⟨vs,rfl,q⟩:=q;exact s.binds e q
theorem SL.My(s:SL aa env h U){i b:Nat}(hb:U i b) (at':∀m d,i<aa.length->x=some (m,d)->∃v,env[i]?=some (some v)/\match m with
   |.sh=>Dn (AU U) (h.set b o) d v
   |.ow=>Dn (RU U i) (h.set b o) d v
   |.nw=>NQ U i (h.set b o) d v):SL (aa.set i x) env (h.set b o) U/\KU h U (h.set b o) U :=
 ⟨s.gen rfl (λ_ _=>rfl) (λk b' a g=>⟨a,by rw[SX λz=>a i (by rw[<-z];exact hb)];exact g⟩) (λj n k b' a g=>⟨a,by rw[SX λz=>n (s.DI j i k a (by rw[<-z];exact hb))];exact g⟩)
  (λj k e=>by rw[U8];exact s.ub j k e) s.DI at',by simp,λk hk n=>⟨by rw[SX λz=>n i (by rw[<-z];exact hb)],n⟩⟩
theorem SL.Mz(s:SL aa env h U){i b:Nat}(hb:U i b):SL (aa.set i none) env (h.set b o) U/\KU h U (h.set b o) U:=s.My hb λ_ _ _ e=>nomatch e
theorem SL.EG(s:SL aa env h U){i b:Nat}(hb:U i b):SL (aa.set i none) env (h.set b o) U/\KU h U (h.set b o) U:=s.Mz hb
theorem SL.regrow(s:SL aa env h U){i b:Nat}{mk:Mk}{d dn w:Val}{o:Ob}(e:aa[i]?=some (some (mk,d)))(ee:env[i]?=some (some w))(hb:U i b)(nw:Dn (RU U i) (h.set b o) dn w) :
  SL (aa.set i (some (.ow,dn))) env (h.set b o) U/\KU h U (h.set b o) U:=s.My hb λ_ _ _ e=>by cases e;exact⟨w,ee,nw⟩
theorem SL.toN(s:SL aa env h U){i:Nat}(hlt:i<aa.length)(ee:env[i]?=some (some w))(q:NQ U i h d w):SL (aa.set i (some (.nw,d))) env h U :=
 s.gen rfl (λ_ _=>rfl) (λ_ _ a g=>⟨a,g⟩) (λ_ _ _ _ a g=>⟨a,g⟩) s.ub s.DI λ_ _ _ e=>by cases e;exact⟨w,ee,q⟩
theorem SL.grow(s:SL aa env h U){i b:Nat}(e:aa[i]?=some (some (.ow,d)))(ee:env[i]?=some (some (.ref b)))(hb:U i b)(hi:bP ds=true)(hv:vs=ds) :
  SL (aa.set i (some (.ow,.rl ds))) env (h.set b (.lst vs)) U/\KU h U (h.set b (.lst vs)) U :=
 s.regrow e ee hb (by rw[Dn];exact .inr ⟨b,vs,rfl,hb,by rw[S6 (s.ub i b hb)],(aP _ _ hi).mpr hv⟩)
end
section
variable {Φ:Nat->List Val->M Val} {Ψ:Nat->List Val->Pr FV} {sp:List Nat} {aa:aK} {env:Env} {h:Hs} {U:UR}
theorem qV(V:bD Φ Ψ e)(s:SL aa env h U):cV (λx h' v=>h<+:h'/\Dn (AU U) h' x.2 v) (aH Φ e env h) (EF Ψ e aa):=by
 have r1:=V (f7 aa) env (AU U) h s.up s.hide;have r2:=V (bG aa) env (λ_=>True) h (λ_ _=>trivial) s.flat
 have go:cV (λx h' v=>h<+:h'/\Dn (AU U) h' x.2 v) (aH Φ e env h) (pb (aT Ψ e (bG aa)) λx=>pg x.1 (.ok x)):=by
  cases e2:aT Ψ e (bG aa) with
  |ok x=>
   rw[e2]at r2;obtain⟨v,h',ev,p,q⟩:=r2;show cV _ _ (pg x.1 (.ok x));refine iA λhx=>⟨v,h',ev,p,(q.2 hx).dF λo z=>?_⟩;cases o with
   |none=>exact False.elim z
   |some k=>exact s.up k z
  |exc c es=>trivial
  |no=>trivial
 unfold EF;cases e1:aT Ψ e (f7 aa) with
 |ok x=>rw[e1]at r1;obtain⟨v,h',ev,p,q⟩:=r1;exact⟨v,h',ev,p,q.1⟩
 |exc c es=>exact go
 |no=>exact go
theorem cM(V:bD Φ Ψ e)(s:SL aa env h U):cV (λx h' v=>h<+:h'/\RV (λ_=>True) h x h' v) (aH Φ e env h) (aT Ψ e (bG aa)):=DJ (V (bG aa) env (λ_=>True) h (λ_ _=>trivial) s.flat)
def yv(Φ:Nat->List Val->M Val)(Ψ:Nat->List Val->Pr FV)(sp:List Nat)(s:IS):Prop:=∀(aa:aK) (env:Env) (h:Hs) (U:UR),SL aa env h U->cV (RL h U) (fS Φ s env h) (cA Ψ sp s aa)
def tw(Φ:Nat->List Val->M Val)(Ψ:Nat->List Val->Pr FV)(sp:List Nat)(s:eO):Prop:=∀(aa:aK) (env:Env) (h:Hs) (U:UR),SL aa env h U->cV (RL h U) (iM Φ s env h) (dG Ψ sp s aa)
theorem wN{b:Nat}{h1:Hs}(g:h1[b]?=some (.lst vs))(hl:decide (vs.length<sizeLine)=true):bnd (met .append (.ref b) [v]) (λ_=>ret (Fl.nx env)) h1=.ok (.nx env) (h1.set b (.lst (vs++[v]))):=by
 simp only[met];unfold bnd ask aS aI put ret;dsimp only;rw[g];dsimp only;rw[S7 hl]
theorem AX{i:Nat}(ha:bD Φ Ψ a):yv Φ Ψ sp (.expr (.met .extend (.var i) #[a])):=λaa env h U s=>by
 rw[fS,cA];try dsimp only
 change cV (RL h U) _ (DH Ψ (.ext i a) aa);unfold DH;try dsimp only
 split
 ·rename_i ds hv
  obtain⟨w,e2,q⟩:=s.un i _ hv;rw[Dn]at q
  rcases q with ⟨_,_,n,_⟩|⟨b,vs,rfl,hb,e4,e5⟩
  ·exact False.elim n
  have ev:bnd (aH Φ (.met .extend (.var i) #[a]) env) (λ_=>ret (Fl.nx env)) h=bnd (aH Φ a env) (λv=>bnd (met .extend (.ref b) [v]) λ_=>ret (Fl.nx env)) h:=by
   rw[aH,aj,bw (dg e2)];rw[aj,bw (a:=()) (h1:=h) (by unfold ask aS;simp[recv,e4])];rw[aj,bg,aj]
   congr 1
  rw[ev];refine aU (cM ha s) λx h1 v aE=>?_;obtain⟨p1,q1⟩:=aE;obtain⟨f,d⟩:=x;cases d<;>first|trivial|skip
  rename_i es;refine iA λhg=>?_;have hg:=l6 hg;have r:=q1.2 hg.1.1;dsimp only at r;rw[Dn]at r
  rcases r with ⟨_,_,n,_⟩|⟨c,ws,rfl,hc,e6,e7⟩
  ·exact False.elim n
  have s1:=s.ext p1;have l:=e5.length;have l2:=e7.length;have g4:=bC p1 e4;have eq:vs++ws=ds++es:=(aP (A:=λ_=>True) (h:=h1) _ _ hg.1.2).mp (((e5.dF λ_ _=>trivial).ext p1).append (e7.dF λ_ _=>trivial));obtain⟨s2,f2⟩:=s1.grow hv e2 hb hg.1.2 eq;refine⟨.nx env,h1.set b (.lst (vs++ws)),?_,U,s2,(KU.refl s p1).trans f2⟩;unfold met bnd ask aS aI put ret o6 aA;dsimp only;rw[g4];dsimp only;rw[e6];dsimp only;rw[S7 (by rw[<-l,<-l2];exact hg.2)]
 ·trivial
theorem wO{α β:Type}{f:α -> β}:∀(l:List α) (n:Nat),(l.map f).eraseIdx n=(l.eraseIdx n).map f
 |[],_=>rfl
 |_::_,0=>rfl
 |a::l,n+1=>TR (f a :: ·) (wO l n)
theorem AY{i:Nat}(hj:bD Φ Ψ j)(ha:bD Φ Ψ a):yv Φ Ψ sp (.expr (.met .remove (.idx (.var i) j) #[a])):=λaa env h U s=>by
 rw[fS,cA];try dsimp only
 change cV (RL h U) _ (DH Ψ (.rem i j a) aa);unfold DH;try dsimp only
 split
 ·rename_i ds hv
  obtain⟨w,e2,q⟩:=s.nn i _ hv
  rcases q with ⟨b,bs,ds',ls,rfl,ed,el,hb,e5,e6,e7,e8⟩|⟨_,_,ed,_⟩<;>cases ed
  have ev:bnd (aH Φ (.met .remove (.idx (.var i) j) #[a]) env) (λ_=>ret (Fl.nx env)) h=bnd (aH Φ j env) (λz=>bnd (ask λh=>iF h (.ref b) z) λo=>bnd (ask λh=>recv h .remove o) λ_=>bnd (aH Φ a env) λv=>bnd (met .remove o [v]) λ_=>ret (Fl.nx env)) h:=by
   rw[aH,aj,aH,aj,bw (dg e2),aj];refine congrFun ?_ h
   congr 1;funext z
   congr 1;funext o
   rw[aj]
   congr 1;funext _
   rw[aj,bg,aj]
   congr 1
  rw[ev];refine aU (cM hj s) λz h1 z' aE=>?_;obtain⟨p1,q1⟩:=aE;cases ek:fH z.2 with
  |none=>trivial
  |some k=>
   obtain⟨f,zz⟩:=z;cases zz<;>first|(cases ek;done)|skip
   cases ek;have ez:z'=.int k:=(g9 _ _ rfl).mp q1.1;subst ez;show cV (RL h U) _ (pb (pl (rR ds.length k)) _);cases en:rR ds.length k with
   |none=>trivial
   |some n=>
    show cV (RL h U) _ (pb (pl (gE ds)) _);rw[el];show cV (RL h U) _ (pb (pl ls[n]?) _);cases eL:ls[n]? with
    |none=>trivial
    |some l=>
     have dl:ds.length=ls.length:=by rw[iT el,S1]
     have hn:n<bs.length:=by rw[e6];exact(SW.mp eL).1
     have eb:bs[n]?=some bs[n]:=Tz hn;obtain⟨hc,gc⟩:=e8 n _ l eb eL;have g1:=bC p1 e5;have Qn:=bC p1 gc;rw[bw (a:=Val.ref bs[n]) (h1:=h1) (by
      unfold ask aS iF aA;dsimp only;rw[g1];dsimp only;rw[bind_some,show gU (bs.map Val.ref) k=some (.ref bs[n]) from by unfold gU;rw[S1,e6,<-dl,en];simp[hn]])]
     rw[bw (a:=()) (h1:=h1) (by unfold ask aS recv;dsimp only;rw[Qn])];show cV (RL h U) _ (pb (aT Ψ a (bG aa)) _);refine aU (cM ha (s.ext p1)) λx h2 v aE=>?_;obtain⟨p2,q2⟩:=aE;cases em:fH x.2 with
     |none=>trivial
     |some m=>
      obtain⟨f2,xx⟩:=x;cases xx<;>first|(cases em;done)|skip
      cases em;have ex:v=.int m:=(g9 _ _ rfl).mp q2.1;subst ex;show cV (RL h U) _ (pg (decide (m∈l)) _);refine iA λhm=>?_;have s2:=(s.ext p1).ext p2;have g2:=bC p2 g1;have Qo:=bC p2 Qn;have hl:bs[n]<h2.length:=(SW.mp Qo).1;have nd:=T5.mp e7;have RK:bs[n]≠b:=λz=>nd.1 (z▸U3 hn);have nn:NN U i (h2.set bs[n] (.lst ((l.eraseIdx (l.idxOf m)).map .int))) (.rl (ds.set n (.rl ((l.eraseIdx (l.idxOf m)).map .int)))) (.ref b):=by
       refine⟨b,bs,_,ls.set n (l.eraseIdx (l.idxOf m)),rfl,rfl,?_,hb,by rw[SX RK];exact g2,by rw[U8];exact e6,e7,λk' c l' a' z'=>?_⟩
       ·rw[iT el,<-wL (ls.set n (l.eraseIdx (l.idxOf m))),List.map_set]
       ·by_cases hk:n=k'
        ·subst hk;rw[eb]at a';cases a';rw[S6 (by rw[<-e6];exact hn)]at z';cases z';exact⟨hc,by rw[S6 hl]⟩
        ·rw[SX hk]at z'
         obtain⟨y1,y2⟩:=e8 k' c l' a' z';refine⟨y1,?_⟩;have hk':k'<bs.length:=(SW.mp a').1;have ne:bs[n]≠c:=λz=>hk (by
          have:bs[k']=c:=(SW.mp a').2;exact(List.getElem_inj nd.2).mp (z.trans this.symm))
         rw[SX ne];exact bC p2 (bC p1 y2)
      obtain⟨s3,f3⟩:=s2.regrow (o:=.lst ((l.eraseIdx (l.idxOf m)).map .int)) hv e2 hc (nn.dn λk hk=>hk);have hlt:i<aa.length:=(SW.mp hv).1;have s4:=s3.toN (i:=i) (by simpa using hlt) e2 (.inl nn);rw[set_set]at s4;refine⟨.nx env,_,?_,U,s4,(KU.refl s (p1.trans p2)).trans f3⟩;unfold met bnd ask aS aI put ret;dsimp only;rw[Qo];dsimp only;rw[wK];dsimp only;rw[S7 hm,wO]
 ·trivial
theorem tB{i:Nat}:∀{ds vs:List Val} {m:Nat},AW ds=some m->aq (RU U i) h ds vs->∀w∈vs,∃(b:Nat) (xs:List Val),w=.ref b/\U i b/\h[b]?=some (.lst xs)/\xs.length<=m
 |[],vs,m,e,q,w,hw=>by rw[aq]at q;subst q;cases hw
 | d::ds,vs,m,e,q,w,hw=>by
  rw[aq]at q;obtain⟨v,r,rfl,q1,q2⟩:=q;cases d<;>first|(cases e;done)|skip
  rename_i es;simp only[AW]at e;obtain⟨n,e1,e⟩:=SS.mp e;cases e
  rcases Td.mp hw with rfl|hw
  ·rw[Dn]at q1
   rcases q1 with ⟨_,_,n,_⟩|⟨b,xs,rfl,hb,e4,e5⟩
   ·exact False.elim n
   exact⟨b,xs,rfl,hb,e4,by rw[<-e5.length];exact Nat.le_max_left _ _⟩
  ·obtain⟨b,xs,k1,k2,k3,k4⟩:=tB e1 q2 w hw;exact⟨b,xs,k1,k2,k3,Tt k4 (Nat.le_max_right _ _)⟩
theorem yw{i:Nat}{j:Int}(ha:bD Φ Ψ a):yv Φ Ψ sp (.expr (.met .append (.idx (.var i) (.cst (.int j))) #[a])):=λaa env h U s=>by
 rw[fS,cA];try dsimp only
 change cV (RL h U) _ (DH Ψ (.apI i j a) aa);unfold DH;try dsimp only
 split
 ·rename_i ds hv
  split
  ·rename_i es hj
   obtain⟨w,e2,q⟩:=s.un i _ hv;rw[Dn]at q;obtain⟨ws,rfl,q⟩:=q;have qq:=q;obtain⟨u,hu,q⟩:=q.gU hj;rw[Dn]at q
   rcases q with ⟨_,_,n,_⟩|⟨b,vs,rfl,hb,e4,e5⟩
   ·exact False.elim n
   have er:aH Φ (.idx (.var i) (.cst (.int j))) env h=.ok (.ref b) h:=by rw[aH,bw (dg e2),aH];unfold bnd ask aS ret;dsimp only;rw[show iF h (.tup ws) (.int j)=some (.ref b) from hu]
   have ev:bnd (aH Φ (.met .append (.idx (.var i) (.cst (.int j))) #[a]) env) (λ_=>ret (Fl.nx env)) h=bnd (aH Φ a env) (λv=>bnd (met .append (.ref b) [v]) λ_=>ret (Fl.nx env)) h:=by
    rw[aH,aj,bw er];rw[aj,bw (a:=()) (h1:=h) (by unfold ask aS;simp[recv,e4])];rw[aj,bg,aj]
    congr 1
   rw[ev];refine aU (cM ha s) λx h1 v ⟨p1,q1⟩=>iA λhg=>?_;have s1:=s.ext p1;have l:=e5.length;have run:=wN (env:=env) (v:=v) (bC p1 e4) (by rw[<-l];exact hg);unfold Ms;cases em:AW ds with
   |none=>obtain⟨s2,f2⟩:=s1.EG (o:=.lst (vs++[v])) hb;exact⟨_,_,run,_,s2,(KU.refl s p1).trans f2⟩
   |some m=>
    obtain⟨s2,f2⟩:=s1.Mz (i:=i) (o:=.lst (vs++[v])) hb;have hlt:i<aa.length:=(SW.mp hv).1;have RM:b<h1.length:=s1.ub i b hb;have s3:=s2.toN (i:=i) (d:=.tup [.int ((m+1:Nat):Int),.int ds.length]) (by simpa using hlt) e2 (.inr ⟨_,ws,by rw[qq.length],rfl,λw hw=>by
     obtain⟨c,xs,k1,k2,k3,k4⟩:=tB em qq w hw
     by_cases hcb:b=c
     ·subst hcb;refine⟨b,vs++[v],k1,k2,by rw[S6 RM],?_⟩;rw[k3]at e4;cases e4;simp only[length_append,List.length_singleton];omega
     ·exact⟨c,xs,k1,k2,by rw[SX hcb];exact bC p1 k3,by omega⟩⟩)
    rw[set_set]at s3;exact⟨_,_,run,_,s3,(KU.refl s p1).trans f2⟩
  ·trivial
 ·rename_i ds hv
  obtain⟨w,e2,q⟩:=s.nn i _ hv
  rcases q with ⟨b,bs,ds',ls,rfl,ed,_⟩|⟨n,ws,ed,rfl,q⟩
  ·cases ed
  cases ed
  by_cases hj:0<=j/\j<(ws.length:Int)
  ·have en:Jf [.int n,.int ws.length] j=some n:=S7 hj
   rw[en];show cV (RL h U) _ (pb (aT Ψ a (bG aa)) _);have hj':j.toNat<ws.length:=by omega
   have hu:gU ws j=some ws[j.toNat]:=by unfold gU rR;rw[S7 hj.1,S7 hj.2];simp[hj']
   obtain⟨b,xs,eb,hb,e4,e5⟩:=q _ (U3 hj');rw[eb]at hu;have er:aH Φ (.idx (.var i) (.cst (.int j))) env h=.ok (.ref b) h:=by rw[aH,bw (dg e2),aH];unfold bnd ask aS ret;dsimp only;rw[show iF h (.tup ws) (.int j)=some (.ref b) from hu]
   have ev:bnd (aH Φ (.met .append (.idx (.var i) (.cst (.int j))) #[a]) env) (λ_=>ret (Fl.nx env)) h=bnd (aH Φ a env) (λv=>bnd (met .append (.ref b) [v]) λ_=>ret (Fl.nx env)) h:=by
    rw[aH,aj,bw er];rw[aj,bw (a:=()) (h1:=h) (by unfold ask aS;simp[recv,e4])];rw[aj,bg,aj]
    congr 1
   rw[ev];refine aU (cM ha s) λx h1 v ⟨p1,q1⟩=>iA λhg=>?_;have s1:=s.ext p1;have hg:=Tj hg;have run:=wN (env:=env) (v:=v) (bC p1 e4) (decide_eq_true (by omega));obtain⟨s2,f2⟩:=s1.EG (o:=.lst (xs++[v])) hb;exact⟨_,_,run,_,s2,(KU.refl s p1).trans f2⟩
  ·have en:Jf [.int n,.int ws.length] j=none:=S8 hj;rw[en];trivial
 ·trivial
theorem nO{n:Nat}{l:List Int}(q:Dn (Fr n) h (.rl (l.map .int)) v):∃b,v=.ref b/\n<=b/\h[b]?=some (.lst (l.map .int)):=by
 rw[Dn]at q
 rcases q with ⟨_,_,n,_⟩|⟨b,vs,rfl,hb,e4,e5⟩
 ·exact False.elim n
 exact⟨b,rfl,hb,by rw[e4,(aP _ _ (aW l)).mp e5]⟩
theorem Jh{i:Nat}(hab:new2 e=some ab)(ha:bD Φ Ψ ab.1)(hb:bD Φ Ψ ab.2)(s:SL aa env h U):cV (RL h U) (bnd (aH Φ e env) (λv=>bnd (aS (eV (.one i) v env)) λenv'=>ret (Fl.nx env')) h)
  (pb (aT Ψ ab.1 (bG aa)) λx=>pb (aT Ψ ab.2 (bG aa)) λy=>pb (pl (gE [x.2,y.2])) λ_=>pg (x.1&&y.1) (.ok (.nx (aa.set i (some (.nw,.rl [x.2,y.2])))))):=by
 have ee:e=.lst #[ab.1,ab.2]:=by
  unfold new2 at hab;split at hab
  ·cases hab;rfl
  ·cases hab
 rw[ee];have ev:∀K:Val->M Fl,bnd (aH Φ (.lst #[ab.1,ab.2]) env) K h=bnd (aH Φ ab.1 env) (λv=>bnd (aH Φ ab.2 env) λw=>bnd (new (.lst [v,w])) K) h:=λK=>by
  rw[aH,bg,bg,bg,aj,aj];refine congrFun ?_ h
  congr 1;funext v;rw[aj,aj]
  congr 1
 rw[ev];refine aU (cM ha s) λx h1 v ⟨p1,q1⟩=>aU (cM hb (s.ext p1)) λy h2 w ⟨p2,q2⟩=>?_;cases el:gE [x.2,y.2] with
 |none=>trivial
 |some ls=>
  show cV _ _ (pg _ _);refine iA λhx=>?_;have hx:=cg hx;have r1:=q1.2 hx.1;have r2:=q2.2 hx.2;have em:=iT el
  match ls,em with
  |[_],em=>exact nomatch (UI em).2
  |_::_::_::_,em=>exact nomatch (UI (UI em).2).2
  |[l1,l2],em=>
   have e1:x.2=.rl (l1.map .int):=(UI em).1;have e2:y.2=.rl (l2.map .int):=(UI (UI em).2).1;rw[e1]at r1;rw[e2]at r2;obtain⟨b1,rfl,n1,g1⟩:=nO r1;obtain⟨b2,rfl,n2,g2⟩:=nO r2;have SN:=(SW.mp g1).1;have SO:=(SW.mp g2).1;have g1:=bC p2 g1;have z1:=p1.length_le;have z2:=p2.length_le;have p3:h2<+:h2++[.lst [.ref b1,.ref b2]]:=TZ _ _;have sz:(h2++[Ob.lst [.ref b1,.ref b2]]).length=h2.length+1:=by simp
   have nn:NN (yu U i h.length (h2++[Ob.lst [.ref b1,.ref b2]]).length) i (h2++[.lst [.ref b1,.ref b2]]) (.rl [x.2,y.2]) (.ref h2.length):=by
    have rg:∀k,h.length<=k->k<h2.length+1->yu U i h.length (h2++[Ob.lst [.ref b1,.ref b2]]).length i k:=λk a b=>by
     unfold yu;rw[S7 rfl,sz];exact⟨a,b⟩
    refine⟨h2.length,[b1,b2],_,_,rfl,rfl,el,rg _ (by omega) (by omega),by simp,rfl,?_,λk c l a z=>?_⟩
    ·simp only[List.nodup_cons,mem_cons,not_mem_nil,List.nodup_nil,or_false,not_false_eq_true,and_true,not_or];omega
    ·match k,a,z with
     |0,a,z=>cases a;cases z;exact⟨rg _ (by omega) (by omega),bC p3 g1⟩
     |1,a,z=>cases a;cases z;exact⟨rg _ (by omega) (by omega),bC p3 g2⟩
   obtain⟨s2,f2⟩:=s.Mx ((p1.trans p2).trans p3) (i:=i) (d:=.rl [x.2,y.2]) (v:=.ref h2.length) (nn.dn λk hk=>by
    unfold yu at hk;rw[S7 rfl]at hk;exact hk.1)
   by_cases hi:i<aa.length
   ·have s3:=s2.toN (i:=i) (by simpa using hi) (by rw[S6 (by rw[<-s.len];exact hi)]) (.inl nn);rw[set_set]at s3;exact⟨_,_,rfl,_,s3,f2⟩
   ·rw[UH (by omega)]at s2 |-;exact⟨_,_,rfl,_,s2,f2⟩
theorem MA(V:bD Φ Ψ e)(V2:∀ab,new2 e=some ab->bD Φ Ψ ab.1/\bD Φ Ψ ab.2):yv Φ Ψ sp (.asg p e):=λaa env h U s=>by
 cases p with
 |one i=>
  rw[fS,cA];try dsimp only
  split
  ·split
   ·rename_i ab hab;exact Jh hab (V2 _ hab).1 (V2 _ hab).2 s
   ·refine aU (cM V s) λx h1 v ⟨p1,q1⟩=>iA λhx=>?_;obtain⟨s2,f2⟩:=s.Mx p1 (i:=i) (q1.2 hx);exact⟨_,_,rfl,_,s2,f2⟩
  ·refine aU (qV V s) λx h1 v aE=>?_;obtain⟨p1,q1⟩:=aE;obtain⟨s2,f2⟩:=(s.ext p1).set (i:=i) q1;exact⟨_,_,rfl,_,s2,(KU.refl s p1).trans f2⟩
 |tup is=>
  rw[fS,cA];try dsimp only
  refine aU (qV V s) λx h1 v aE=>?_;obtain⟨p1,q1⟩:=aE;have s1:=s.ext p1;refine aU (R:=λao h' env'=>∃U',SL ao env' h' U'/\KU h1 U h' U') (kD λao ev=>?_) λao h2 env' hh=>?_
  ·obtain⟨env',U',b1,b2,b3⟩:=s1.bind ev q1;exact⟨env',b1,U',b2,b3⟩
  ·obtain⟨U',b2,b3⟩:=hh;exact cB ⟨U',b2,(KU.refl s p1).trans b3⟩
theorem MB(V:bD Φ Ψ c)(ha:tw Φ Ψ sp a)(hb:tw Φ Ψ sp b):yv Φ Ψ sp (.iff c a b):=λaa env h U s=>by
 rw[fS,cA];refine aU (cM V s) λx h1 v aE=>?_;obtain⟨p1,q1⟩:=aE;refine aU (R:=λt h' t'=>h'=h1/\t'=t) (kD λt ht=>⟨t,qN (.inl q1.1) ht,rfl,rfl⟩) λt h2 t' aE=>?_;obtain⟨e1,e2⟩:=aE;subst e1;subst e2;have s1:=s.ext p1;cases t' with
 |true=>rw[S7 rfl,S7 rfl];exact gF (ha aa env _ U s1) λf h' g r=>r.seq (KU.refl s p1)
 |false=>rw[S8 SV,S8 SV];exact gF (hb aa env _ U s1) λf h' g r=>r.seq (KU.refl s p1)
theorem MC(V:bD Φ Ψ e):yv Φ Ψ sp (.ret e):=λaa env h U s=>by
 rw[fS,cA];exact aU (cM V s) λx h1 v ⟨p1,q1⟩=>cB ⟨q1,U,KU.refl s p1⟩
def Pd(h:Hs)(U:UR)(src:Src)(ws:List Val):Prop:=∀h':Hs,(∀k,k<h.length->(∀i,¬ U i k)->h'[k]?=h[k]?)->src.items h'=some ws
theorem MD(q:Dn (AU U) h d v)(e:fT k [d]=some xs):∃src ws,srcOf k [v]=some src/\aq (AU U) h xs ws/\src.items h=some ws/\Pd h U src ws:=by
 have lst:∀es,d=.rl es->(∃ws,v=.rl ws/\aq (AU U) h es ws)\/∃a ws,v=.ref a/\h[a]?=some (.lst ws)/\aq (AU U) h es ws/\∀h':Hs,(∀k,k<h.length->(∀i,¬ U i k)->h'[k]?=h[k]?)->h'[a]?=some (Ob.lst ws):=by
  rintro es rfl;rw[Dn]at q
  rcases q with ⟨ws,rfl,_,q⟩|⟨a,ws,rfl,al,g,q⟩
  ·exact .inl ⟨ws,rfl,q⟩
  ·exact .inr ⟨a,ws,rfl,g,q,λh' hk=>(hk a (SW.mp g).1 al).trans g⟩
 cases k with
 |seq=>
  cases d<;>simp only[fT]at e<;>first|(cases e;done)|skip
  ·cases e;rw[Dn]at q;obtain⟨ws,rfl,q⟩:=q;exact⟨.fix ws,ws,rfl,q,rfl,λ_ _=>rfl⟩
  ·cases e
   rcases lst _ rfl with ⟨ws,rfl,q'⟩|⟨a,ws,rfl,g,q',st⟩
   ·exact⟨.fix ws,ws,rfl,q',rfl,λ_ _=>rfl⟩
   ·exact⟨.live a,ws,rfl,q',dO g,λh' hk=>dO (st h' hk)⟩
 |range=>
  cases d<;>simp only[fT]at e<;>first|(cases e;done)|skip
  rw[Dn]at q;subst q;split at e
  ·rename_i hn;cases e;exact⟨.fix _,_,by simp only[srcOf];rw[S7 hn],gz,rfl,λ_ _=>rfl⟩
  ·cases e
 |enum=>
  cases d<;>simp only[fT]at e<;>first|(cases e;done)|skip
  cases e
  rcases lst _ rfl with ⟨ws,rfl,q'⟩|⟨a,ws,rfl,g,q',st⟩
  ·exact⟨.fix _,_,rfl,eu 0 q',rfl,λ_ _=>rfl⟩
  ·exact⟨.enum a,_,rfl,eu 0 q',dP g,λh' hk=>dP (st h' hk)⟩
 |zip=>cases e
theorem tD(hb:∀aa env h U x v,SL aa env h U->Dn (AU U) h x v->cV (RL h U) (body v env h) (bodyV x aa))
  {h1:Hs} {U1:UR} (st:Pd h1 U1 src ws) :
  ∀(xs vs:List Val) (i:Nat) (aa:aK) (env:Env) (h:Hs) (U:UR),SL aa env h U->KU h1 U1 h U->ws.drop i=vs->aq (AU U) h xs vs ->
   cV (RL h1 U1) (forM src body vs.length i env h) (gy bodyV xs aa)
 | [],vs,i,aa,env,h,U,s,f,hd,q=>by
  rw[aq]at q;subst q;have hl:ws.length<=i:=U7.mp hd;have hi:=st h (λk hk n=>(f.keep k hk n).1);rw[gy];refine⟨.nx env,h,?_,U,s,f⟩;show forM src body 0 i env h=_;simp only[forM];unfold bnd ask aS aI;dsimp only;rw[hi];dsimp only;rw[S7 (decide_eq_true hl)];try rfl
 | x::xs,vs,i,aa,env,h,U,s,f,hd,q=>by
  rw[aq]at q;obtain⟨v,r,rfl,q1,q2⟩:=q;have hv:ws[i]?=some v:=by have:=TR (λl=>l[0]?) hd;simpa using this
  have hr:ws.drop (i+1)=r:=by
   have:ws.drop (i+1)=(ws.drop i).drop 1:=by rw[Vf]
   rw[this,hd];rfl
  have hi:=st h (λk hk n=>(f.keep k hk n).1);have ev:forM src body (v::r).length i env h=bnd (body v env) (λf=>match f with
   |.nx env'=>forM src body r.length (i+1) env'
   |.ct env'=>forM src body r.length (i+1) env'
   |.bk env'=>ret (.nx env')
   |.rt v=>ret (.rt v)) h:=by
   show forM src body (r.length+1) i env h=_;simp only[forM];unfold bnd ask aS;dsimp only;rw[hi];dsimp only;rw[hv];try rfl
  rw[ev,gy];refine aU (hb aa env h U x v s q1) λfl h2 gl hr2=>?_;have go:∀ao env' U',SL ao env' h2 U'->KU h U h2 U'->cV (RL h1 U1) (forM src body r.length (i+1) env' h2) (gy bodyV xs ao):=λao env' U' s' f'=>by
   refine tD hb st xs r (i+1) ao env' h2 U' s' (f.trans f') hr (aq.move (A:=AU U) (λ_=>trivial) (λk o hk g=>?_) _ _ q2);have hlt:k<h.length:=(SW.mp g).1;obtain⟨a1,a2⟩:=f'.keep k hlt hk;exact⟨a2,a1.trans g⟩
  cases fl<;>cases gl<;>first|exact hr2.elim|skip
  ·obtain⟨U',s',f'⟩:=hr2;exact go _ _ U' s' f'
  ·exact cB (RL.seq (f:=.rt _) (g:=.rt _) f hr2)
  ·obtain⟨U',s',f'⟩:=hr2;exact cB ⟨U',s',f.trans f'⟩
  ·obtain⟨U',s',f'⟩:=hr2;exact go _ _ U' s' f'
theorem ME(V:bD Φ Ψ e)(hb:tw Φ Ψ sp body):yv Φ Ψ sp (.for p k #[e] body):=λaa env h U s=>by
 rw[cA];try dsimp only
 have hsp:DF e p k body=none:=rfl;rw[hsp];dsimp only;rw[fS];have ev:∀(F:List Val->M Fl),bnd (bg Φ #[e] env) F h=bnd (aH Φ e env) (λv=>F [v]) h:=λF=>by
  rw[bg,bg,aj];rfl
 rw[ev];refine aU (qV V s) λx h1 v aE=>?_;obtain⟨p1,q1⟩:=aE;have s1:=s.ext p1;refine aU (R:=λxs h' src=>h'=h1/\∃ws,aq (AU U) h1 xs ws/\src.items h1=some ws/\Pd h1 U src ws) (kD λxs ex=>?_) λxs h2 src ⟨e2,ws,q2,q3,st⟩=>?_
 ·obtain⟨src,ws,a1,a2,a3,a4⟩:=MD q1 ex;exact⟨src,a1,rfl,ws,a2,a3,a4⟩
 ·subst e2
  have OV:∀(F:List Val->M Fl),bnd (ask λh=>src.items h) F h2=F ws h2:=λF=>by unfold bnd ask aS;dsimp only;rw[q3]
  rw[OV];refine gF (tD (λao env' h' U' x v s' qx=>?_) st xs ws 0 aa env h2 U s1 (KU.refl s1 (Tg _)) rfl q2) λf h' g r=>r.seq (KU.refl s p1);refine aU (R:=λgB h2 gj=>∃U2,SL gB gj h2 U2/\KU h' U' h2 U2) (kD λgB e2=>?_) λgB h2 gj hh=>?_
  ·obtain⟨gj,U2,b1,b2,b3⟩:=s'.bind e2 qx;exact⟨gj,b1,U2,b2,b3⟩
  ·obtain⟨U2,b2,b3⟩:=hh;exact gF (hb gB gj h2 U2 b2) λf h'' g r=>r.seq b3
theorem MF:tw Φ Ψ sp .nil:=λaa env h U s=>by rw[iM,dG];exact cB ⟨U,s,KU.refl s (Tg _)⟩
theorem Ji(ha:yv Φ Ψ sp a)(hr:tw Φ Ψ sp r):tw Φ Ψ sp (.cons a r):=λaa env h U s=>by
 rw[iM,dG];refine aU (ha aa env h U s) λf h1 g q=>?_;cases f<;>cases g<;>first|exact q.elim|skip
 ·obtain⟨U1,s1,f1⟩:=q;exact gF (hr _ _ h1 U1 s1) λf h' g r=>r.seq f1
 ·exact cB q
 ·exact cB q
 ·exact cB q
theorem oz(e:∀aa,cA Ψ sp s aa=.no):yv Φ Ψ sp s:=λaa env h U _=>by rw[e];trivial
theorem AZ{i:Nat}:yv Φ Ψ sp (.expr (.met .append (.var i) #[a])):=oz λaa=>by rw[cA];rfl
theorem Jj(V:∀e,cH e=true->bD Φ Ψ e)(ho:cH e=true):yv Φ Ψ sp (.expr e):=by
 cases hk:Mt e with
 |none=>exact oz λaa=>by rw[cA,hk]
 |some k=>
  cases Mw hk;cases k with
  |app i a=>exact AZ
  |apI i j a=>exact yw (V a (cg (cg ho).2).1)
  |ext i a=>exact AX (V a (cg (cg ho).2).1)
  |rem i j a=>exact AY (V j (cg (cg ho).1).2) (V a (cg (cg ho).2).1)
theorem MG(hi:bD Φ Ψ i)(hv:bD Φ Ψ v):yv Φ Ψ sp (.j4 o i v):=oz λaa=>by rw[cA]
theorem MH(hΦ:∀j,Imp (Φ j) (Ψ j)):∀ss,nL ss=true->tw Φ Ψ sp ss:=by
 have V:=(v_all hΦ).1;intro ss;refine eO.rec (motive_1:=λs=>OU s=true->yv Φ Ψ sp s) (motive_2:=λss=>nL ss=true->tw Φ Ψ sp ss) ?_ ?_ ?_ ?_ ?_ ?_ ?_ ?_ ?_ ?_ ?_ ?_ ?_ ?_ ?_ ?_ ss
 ·intro e f;exact Jj V f
 ·intro p e f;exact MA (V e f) λab hab=>by
   have ee:e=.lst #[ab.1,ab.2]:=by
    unfold new2 at hab;split at hab
    ·cases hab;rfl
    ·cases hab
   subst ee;have f:(cH ab.1&&(cH ab.2&&true))=true:=f;have f:=cg f;exact⟨V _ f.1,V _ (cg f.2).1⟩
 ·intro i o e f;exact oz λaa=>by rw[cA]
 ·intro o i v f;have f:=l6 f;exact MG (V i f.1.2) (V v f.2)
 ·intro c a b ha hb f;have f:=l6 f;exact MB (V c f.1.1) (ha f.1.2) (hb f.2)
 ·intro p k it b hb f
  have f:=cg f;cases it with
  |nil=>exact oz λaa=>by rw[cA.eq_def]<;>rfl
  |cons e es=>
   cases es with
   |nil=>exact ME (V e (cg f.1).1) (hb f.2)
   |cons _ _=>exact oz λaa=>by rw[cA];intro _ z;cases z
 ·intro n c b _ f;exact oz λaa=>by rw[cA]
 ·intro e f;exact MC (V e f)
 ·intro _;exact oz λaa=>by rw[cA]
 ·intro _ aa env h U s;rw[fS,cA];exact cB ⟨U,s,KU.refl s (Tg _)⟩
 ·intro _ aa env h U s;rw[fS,cA];exact cB ⟨U,s,KU.refl s (Tg _)⟩
 ·intro _ aa env h U s;rw[fS,cA];exact cB ⟨U,s,KU.refl s (Tg _)⟩
 ·intro _;exact oz λaa=>by rw[cA]
 ·intro _ _ _ _ _;exact oz λaa=>by rw[cA]
 ·intro _;exact MF
 ·intro a r ha hr f;have f:=cg f;exact Ji (ha f.1) (hr f.2)
theorem aq.at:∀{ds vs:List Val} {i:Nat} {d:Val},aq A h ds vs->ds[i]?=some d->∃v,vs[i]?=some v/\Dn A h d v
 |[],vs,i,d,q,e=>by cases e
 | d::ds,vs,0,d',q,e=>by
  rw[aq]at q;obtain⟨v,r,rfl,q1,q2⟩:=q;cases e;exact⟨v,rfl,q1⟩
 | d::ds,vs,i+1,d',q,e=>by
  rw[aq]at q;obtain⟨v,r,rfl,q1,q2⟩:=q;exact aq.at (i:=i) q2 e
theorem MI{n:Nat}(q:aq A h ds vs):SL (ds.map (λd=>some (.sh,d))++replicate (n-ds.length) none) (vs.map some++replicate (n-vs.length) none) h (λ_ _=>False):=by
 have l:=q.length;have here:∀(i:Nat) (m:Mk) (d:Val),(ds.map (λd=>some (Mk.sh,d))++replicate (n-ds.length) none)[i]?=some (some (m,d))->m=.sh/\ds[i]?=some d:=λi m d e=>by
  by_cases hi:i<ds.length
  ·rw[Tf (by simpa using hi),Tq,Tz hi]at e;cases e;exact⟨rfl,Tz hi⟩
  ·rw[Tw (by simpa using hi)]at e;cases (Vg.mp (Tr e)).2
 refine⟨by simp[l],λi d e=>?_,λi d e=>?_,λi d e=>?_,λ_ _ z=>z.elim,λ_ _ _ z=>z.elim⟩
 ·obtain⟨_,e⟩:=here i _ d e;obtain⟨v,e2,q2⟩:=q.at e;refine⟨v,?_,q2.dF λo _=>by cases o<;>first|trivial|exact λ_ z=>z⟩;have hi:=(SW.mp e2).1;rw[Tf (by simpa using hi),Tq,e2];rfl
 ·cases (here i _ d e).1
 ·cases (here i _ d e).1
theorem yx{n:Nat}(hΦ:∀j,Imp (Φ j) (Ψ j))(ho:nL body=true){ns:List Int}{f:Bool}(e:Jg Ψ n body [.rl (ns.map .int)]=.ok (f,.bl true)):∃h',kW Φ n body [.rl (ns.map .int)] []=.ok (.bl true) h':=by
 have s:SL ([(Val.rl (ns.map .int))].map (λd=>some (.sh,d))++replicate (n-1) none) ([(Val.rl (ns.map .int))].map some++replicate (n-1) none) [] (λ_ _=>False):=MI (A:=λ_=>True) (h:=[]) (n:=n) (ds:=[.rl (ns.map .int)]) (vs:=[.rl (ns.map .int)]) (aq.cons (by rw[Dn];exact .inl ⟨_,rfl,trivial,(aP _ _ (aW ns)).mpr rfl⟩) aq.nil);have r:=MH (sp:=iS body) hΦ body ho _ _ [] _ s;unfold Jg at e;show ∃h',bnd (iM Φ body ([(Val.rl (ns.map .int))].map some++replicate (n-1) none)) _ []=_;change pb (dG Ψ (iS body) body ([(Val.rl (ns.map .int))].map (λd=>some (.sh,d))++replicate (n-1) none)) _=_ at e;cases e1:dG Ψ (iS body) body ([(Val.rl (ns.map .int))].map (λd=>some (.sh,d))++replicate (n-1) none) with
 |ok fl=>
  rw[e1]at e r;obtain⟨g,h',eg,q⟩:=r;unfold bnd;rw[eg];cases fl with
  |rt p=>
   cases g<;>first|exact q.elim|skip
   change Pr.ok p=_ at e;cases e;have q:Dn (λ_=>True) h' (.bl true) _:=q.1.1;rw[Dn]at q;subst q;exact⟨h',rfl⟩
  |nx _=>cases e
  |bk _=>cases e
  |ct _=>cases e
 |exc c es=>rw[e1]at e;cases e
 |no=>rw[e1]at e;cases e
end
end Hv
end
section
namespace K15
open PySem L2 Hv
abbrev Ba:List PySem.Str:=["_law_script","_law_k"]
abbrev Jk:List PySem.Str:=["_law_poles_here","_law_ties_here","_law_rows"]
abbrev Jl:List PySem.Str:=["_law_script","_law_seat","_law_k","_law_one","_law_two","_law_step","_law_shift","_law_number_here"]
abbrev Jm:List PySem.Str:=["_law_script","_law_many","_law_one"]
abbrev Jo:List PySem.Str:=["_law_script","_law_start","_law_most","_law_many","_law_ties_here","_law_k","_law_cell","_law_one","_law_other"]
abbrev MJ:List PySem.Str:=["_law_script","_law_start","_law_most","_law_many"]
abbrev Jp:List PySem.Str:=["_law_script","_law_many","_law_nets_here","_law_start"]
abbrev Jq:List PySem.Str:=["_law_net_here","_law_cell","_law_row","_law_number_here","_law_tie","_law_at"]
abbrev Jr:List PySem.Str:=["_law_net_here","_law_row","_law_marks_here","_law_place","_law_name","_law_one","_law_other","_law_old","_law_new"]
abbrev DK:List PySem.Str:=["_law_net_here","_law_row"]
abbrev Bb:List PySem.Str:=["_law_net_here","_law_row","_law_marks_here","_law_least_here","_law_place"]
abbrev Bc:List PySem.Str:=["poles","ties","named","name","one","other"]
abbrev Be:List PySem.Str:=["net","tie","name","one","other"]
abbrev f9:List PySem.Str:=["net","tie"]
abbrev pK:List PySem.Str:=["net","row","left","tie"]
abbrev Bf:List PySem.Str:=["net","tie","ends","places","poles","ties","name","one","other"]
abbrev tE:List PySem.Str:=["_law_found","_law_many"]
abbrev tF:List PySem.Str:=["_law_found","_law_due"]
abbrev EH:List PySem.Str:=["_law_script","_law_k","_law_net_here","_law_row","_law_handed","_law_names","_law_rest","_law_at","_law_due","_law_out","_law_together","_law_other"]
def top(i:Nat):Stmt:=PySem.Challenge.pw_linkorcut_k15_rows_taken.main.body.getD i (.Pass ⟨0,0,0,0⟩)
def cons:List (Str×Val):=[]
def tb:Tb:=⟨0,[],[],[],[]⟩
def dh:eO:=#[.iff (.cmp .lt (!1) (.blt .len #[!0])) #[.ret (.idx (!0) (!1))] .nil,.ret (¬0)]
def iU:eO:=#[.asg (.one 2) (.comp ["_law_name","_law_one","_law_other"] [none,none,none] (.tup [0,1,2]) .seq #[!1] .no (.tup #[!0,.blt .min #[!1,!2],.blt .max #[!1,!2]])),.ret (.tup #[.tup #[.blt .min #[!0],.blt .max #[!0]],.blt .sorted #[!2]])]
def eE:eO:=#[.asg (.one 3) (.call 0 #[!0,!1]),.asg (.one 4) (.call 0 #[!0,.bin .add (!1) (¬1)]),.asg (.one 5) (¬1),.asg (.one 6) (¬0),.iff (.cmp .gt (.bin .mod (!3) (¬3)) (¬0)) #[.asg (.one 5) (.bin .add (.bin .mod (!3) (.bin .pow (¬10) (¬57))) (¬1))] .nil,.iff (.cmp .gt (.bin .mod (!4) (¬3)) (¬0)) #[.asg (.one 6) (.bin .mod (!4) (.bin .pow (¬10) (¬57)))] .nil,.asg (.one 7) (.bin .add (.bin .mul (!5) (.bin .mod (.bin .add (.bin .mul (.bin .add (¬1) (.bin .mod (.bin .fdiv (!4) (¬3)) (¬66))) (!2)) (.bin .mod (.bin .fdiv (!3) (¬3)) (¬67))) (¬67))) (!6)),.iff (.cmp .eq (.bin .mod (!4) (¬7)) (¬3)) #[.ret (.bin .sub (.bin .sub (.bin .pow (¬10) (¬60)) (¬1)) (!7))] .nil,.ret (!7)]
def fK:eO:=#[.asg (.one 2) (.call 2 #[!0,¬2,¬0]),.iff (.or (.cmp .eq (!1) (¬1)) (.cmp .eq (.bin .mod (.bin .fdiv (.call 0 #[!0,¬4]) (¬8)) (¬5)) (¬4))) #[.ret (.tup #[!2,!2])] .nil,.ret (.tup #[!2,.call 2 #[!0,¬2,¬1]])]
def gG:eO:=#[.asg (.one 4) (.lst .nil),.for (.tup [5,6]) .enum #[.slc (!0) (!1) (.bin .add (!1) (!2))] #[.asg (.one 7) (.call 2 #[!0,¬2,.bin .mod (.bin .mod (.bin .mul (!6) (¬48271)) (¬10007)) (!3)]),.asg (.one 8) (.call 2 #[!0,¬2,.bin .mod (.bin .mod (.bin .mul (!6) (¬16807)) (¬10009)) (!3)]),.expr (.met .append (!4) #[.tup #[.call 2 #[!0,¬0,!5],!7,!8]])],.ret (!4)]
def gH:eO:=#[.asg (.one 1) (.bin .add (¬1) (.bin .mod (.call 0 #[!0,¬4]) (¬8))),.asg (.one 2) (.lst .nil),.for (.one 3) .seq #[.lst #[¬5,¬19,¬33,¬47]] #[.iff (.or (.cmp .eq (!3) (¬5)) (.cmp .lt (!3) (.blt .len #[!0]))) #[.expr (.met .append (!2) #[.call 1 #[.call 3 #[!0,!1],.call 4 #[!0,!3,¬14,!1]]])] .nil],.ret (!2)]
def gI:eO:=#[.asg (.one 2) (.lst .nil),.asg (.one 3) (.bin .mod (!1) (¬2147483647)),.for (.one 4) .seq #[.idx (!0) (¬1)] #[.asg (.one 3) (.bin .mod (.bin .add (.bin .mul (!3) (¬48271)) (¬7919)) (¬2147483647)),.iff (.cmp .eq (.bin .mod (.bin .fdiv (!3) (¬64)) (¬2)) (¬0)) #[.asg (.one 5) (.bin .mod (.bin .fdiv (!3) (¬128)) (.bin .add (.blt .len #[!2]) (¬1))),.asg (.one 2) (.bin .add (.bin .add (.slc (!2) .no (!5)) (.lst #[.idx (!4) (¬0)])) (.slc (!2) (!5) .no))] .nil],.ret (!2)]
def fL:eO:=#[.asg (.one 2) .dct0,.for (.one 3) .seq #[.bin .add (.bin .add (.blt .list #[.idx (!0) (¬0)]) (.comp ["_law_tie"] [none] (.one 0) .seq #[.idx (!0) (¬1)] .no (.idx (!0) (¬1)))) (.comp ["_law_tie"] [none] (.one 0) .seq #[.idx (!0) (¬1)] .no (.idx (!0) (¬2)))] #[.j4 (!2) (!3) (!3)],.for (.tup [4,5,6]) .seq #[.idx (!0) (¬1)] #[.iff (.cmp .yQ (!4) (!1)) #[.asg (.one 7) (.idx (!2) (!6)),.asg (.one 8) (.idx (!2) (!5)),.for (.one 3) .seq #[.lkeys (!2)] #[.iff (.cmp .eq (.idx (!2) (!3)) (!7)) #[.j4 (!2) (!3) (!8)] .nil]] .nil],.ret (!2)]
def fM:eO:=#[.asg (.one 2) (.call 7 #[!0,!1]),.asg (.one 3) .dct0,.for (.one 4) .seq #[.skeys (!2)] #[.j4 (!3) (.idx (!2) (!4)) (!4)],.ret (.dflt ["_law_place","_law_least_here","_law_marks_here"] [none,some 3,some 2] 0 1 (!2) (!3))]
def cj:eO:=#[.asg (.one 2) (.lst .nil),.for (.tup [3,4,5]) .seq #[!1] #[.expr (.met .append (!2) #[.tup #[!3,.blt .min #[!4,!5],.blt .max #[!4,!5]]])],.ret (.tup #[.tup #[.blt .min #[.idx (!0) (¬0),.idx (!0) (¬1)],.blt .max #[.idx (!0) (¬0),.idx (!0) (¬1)]],.blt .sorted #[!2]])]
def fN:eO:=#[.ret (.call 9 #[.idx (!0) (¬0),.idx (!0) (¬1)])]
def fO:eO:=#[.for (.tup [2,3,4]) .seq #[.idx (!0) (¬1)] #[.iff (.cmp .eq (!2) (!1)) #[.ret (.tup #[!3,!4])] .nil],.never]
def fP:eO:=#[.expr (.call 11 #[!0,!1]),.ret (.comp ["each","tie"] [none,some 1] (.one 0) .seq #[.idx (!0) (¬1)] (.cmp .ne (.idx (!0) (¬0)) (!1)) (!0))]
def di:eO:=#[.ret (.call 9 #[.idx (!0) (¬0),.call 12 #[!0,!1]])]
def fQ:eO:=#[.asg (.one 2) (.call 10 #[!0]),.for (.one 3) .seq #[!1] #[.asg (.one 2) (.call 13 #[!2,!3])],.ret (!2)]
def iV:eO:=#[.asg (.one 2) (.call 11 #[!0,!1]),.asg (.one 3) (.dct1 (.idx (!2) (¬1)) (.idx (!2) (¬0))),.asg (.one 4) (.tup #[.dget (!3) (.idx (.idx (!0) (¬0)) (¬0)) (.idx (.idx (!0) (¬0)) (¬0)),.dget (!3) (.idx (.idx (!0) (¬0)) (¬1)) (.idx (.idx (!0) (¬0)) (¬1))]),.asg (.one 5) (.lst .nil),.for (.tup [6,7,8]) .seq #[.call 12 #[!0,!1]] #[.expr (.met .append (!5) #[.tup #[!6,.dget (!3) (!7) (!7),.dget (!3) (!8) (!8)]])],.ret (.call 9 #[!4,!5])]
def dj:eO:=#[.asg (.one 2) (.call 10 #[!0]),.for (.one 3) .seq #[!1] #[.asg (.one 2) (.call 15 #[!2,!3])],.ret (!2)]
def eF:eO:=#[.iff (.or (.not (.blt (.isin "tuple") #[!0])) (.cmp .ne (.blt .len #[!0]) (!1))) #[.ret (.cst (.bl false))] .nil,.ret (.blt .all #[.comp ["_law_one"] [none] (.one 0) .seq #[!0] .no (.and (.blt (.isin "int") #[!0]) (.not (.blt (.isin "bool") #[!0])))])]
def cN:eO:=#[.iff (.or (.not (.blt (.isin "tuple") #[!0])) (.or (.cmp .ne (.blt .len #[!0]) (¬2)) (.not (.call 17 #[.idx (!0) (¬0),¬2])))) #[.ret (.cst (.bl false))] .nil,.iff (.or (.not (.blt (.isin "list") #[.idx (!0) (¬1)])) (.not (.blt .all #[.comp ["_law_tie"] [none] (.one 0) .seq #[.idx (!0) (¬1)] .no (.call 17 #[!0,¬3])]))) #[.ret (.cst (.bl false))] .nil,.ret (.cmp .eq (!0) (!1))]
def iW:eO:=#[.for (.tup [1,2]) .enum #[.call 5 #[!0]] #[.asg (.one 3) (.call 6 #[!2,.call 0 #[!0,.bin .add (¬5) (!1)]]),.asg (.one 4) (.tup #[.idx (!2) (¬0),.blt .list #[.idx (!2) (¬1)]]),.asg (.one 5) (.blt .list #[!3]),.asg (.one 6) (.comp ["_law_tie","_law_row"] [none,some 3] (.one 0) .seq #[.idx (!2) (¬1)] (.cmp .nin (.idx (!0) (¬0)) (!1)) (!0)),.asg (.one 7) (.call 8 #[!2,!3]),.asg (.one 8) (.call 1 #[.tup #[.idx (!7) (.idx (.idx (!2) (¬0)) (¬0)),.idx (!7) (.idx (.idx (!2) (¬0)) (¬1))],.comp ["_law_name","_law_one","_law_other","_law_at"] [none,none,none,some 7] (.tup [0,1,2]) .seq #[!6] .no (.tup #[!0,.idx (!3) (!1),.idx (!3) (!2)])]),.asg (.one 9) (.call 14 #[!4,!5]),.asg (.one 10) (.call 16 #[!4,!5]),.iff (.or (.not (.call 18 #[!9,.tup #[.idx (!2) (¬0),!6]])) (.not (.call 18 #[!10,!8]))) #[.ret (.cst (.bl false))] .nil,.expr (.met .append (.idx (!9) (¬1)) #[.tup #[¬7,¬0,¬0]]),.expr (.met .append (.idx (!10) (¬1)) #[.tup #[¬7,¬0,¬0]]),.iff (.or (.cmp .ne (!4) (!2)) (.cmp .ne (!5) (!3))) #[.ret (.cst (.bl false))] .nil,.asg (.one 11) (.rev (!3) .no),.iff (.not (.call 18 #[.call 14 #[!4,!11],.tup #[.idx (!2) (¬0),!6]])) #[.ret (.cst (.bl false))] .nil,.iff (.not (.call 18 #[.call 16 #[!4,!11],!8])) #[.ret (.cst (.bl false))] .nil],.ret (.cst (.bl true))]
def MK:List Row:=[]
def lQ:List Val->M Val:=kW (look MK) 2 dh
def ML:List Row:=MK++[(("_law_cell_at":Str),2,lQ)]
def wQ:List Val->M Val:=kW (look ML) 3 iU
def MM:List Row:=ML++[(("_law_net":Str),2,wQ)]
def nP:List Val->M Val:=kW (look MM) 8 eE
def MN:List Row:=MM++[(("_law_number":Str),3,nP)]
def pL:List Val->M Val:=kW (look MN) 3 fK
def MO:List Row:=MN++[(("_law_poles":Str),2,pL)]
def tG:List Val->M Val:=kW (look MO) 9 gG
def MP:List Row:=MO++[(("_law_ties":Str),4,tG)]
def tH:List Val->M Val:=kW (look MP) 4 gH
def MQ:List Row:=MP++[(("_law_nets":Str),1,tH)]
def tK:List Val->M Val:=kW (look MQ) 6 gI
def MR:List Row:=MQ++[(("_law_some":Str),2,tK)]
def pM:List Val->M Val:=kW (look MR) 9 fL
def MS:List Row:=MR++[(("_law_marks":Str),2,pM)]
def pN:List Val->M Val:=kW (look MS) 5 fM
def MT:List Row:=MS++[(("_law_least":Str),2,pN)]
def iX:List Val->M Val:=kW (look MT) 6 cj
def Bg:List Row:=MT++[(("put_in_order":Str),2,iX)]
def pO:List Val->M Val:=kW (look Bg) 1 fN
def Bh:List Row:=Bg++[(("own_net":Str),1,pO)]
def pP:List Val->M Val:=kW (look Bh) 5 fO
def Bj:List Row:=Bh++[(("ends_of":Str),2,pP)]
def pQ:List Val->M Val:=kW (look Bj) 2 fP
def Bk:List Row:=Bj++[(("without":Str),2,pQ)]
def lR:List Val->M Val:=kW (look Bk) 2 di
def Bm:List Row:=Bk++[(("taken_out":Str),2,lR)]
def pR:List Val->M Val:=kW (look Bm) 4 fQ
def Bo:List Row:=Bm++[(("all_out":Str),2,pR)]
def wR:List Val->M Val:=kW (look Bo) 9 iV
def Bp:List Row:=Bo++[(("drawn":Str),2,wR)]
def lS:List Val->M Val:=kW (look Bp) 4 dj
def Bq:List Row:=Bp++[(("all_drawn":Str),2,lS)]
def nQ:List Val->M Val:=kW (look Bq) 2 eF
def Br:List Row:=Bq++[(("_law_wholes":Str),2,nQ)]
def kE:List Val->M Val:=kW (look Br) 2 cN
def DL:List Row:=Br++[(("_law_same_net":Str),2,kE)]
def Bs:List Val->M Val:=kW (look DL) 12 iW
def Pe:List bQ:=[]
def aX:bQ:=fU (aF Pe) 2 dh
def Pf:List bQ:=Pe++[aX]
def iB:bQ:=fU (aF Pf) 3 iU
def Nv:List bQ:=Pf++[iB]
def dS:bQ:=fU (aF Nv) 8 eE
def MU:List bQ:=Nv++[dS]
def gJ:bQ:=fU (aF MU) 3 fK
def Nx:List bQ:=MU++[gJ]
def iY:bQ:=fU (aF Nx) 9 gG
def Js:List bQ:=Nx++[iY]
def iZ:bQ:=fU (aF Js) 4 gH
def Pg:List bQ:=Js++[iZ]
def ja:bQ:=fU (aF Pg) 6 gI
def Ph:List bQ:=Pg++[ja]
def gK:bQ:=fU (aF Ph) 9 fL
def Ny:List bQ:=Ph++[gK]
def gM:bQ:=fU (aF Ny) 5 fM
def Pj:List bQ:=Ny++[gM]
def bL:bQ:=fU (aF Pj) 6 cj
def DM:List bQ:=Pj++[bL]
def fj:bQ:=fU (aF DM) 1 fN
def Jt:List bQ:=DM++[fj]
def fk:bQ:=fU (aF Jt) 5 fO
def DN:List bQ:=Jt++[fk]
def fm:bQ:=fU (aF DN) 2 fP
def Bt:List bQ:=DN++[fm]
def eG:bQ:=fU (aF Bt) 2 di
def Bu:List bQ:=Bt++[eG]
def fq:bQ:=fU (aF Bu) 4 fQ
def yy:List bQ:=Bu++[fq]
def kF:bQ:=fU (aF yy) 9 iV
def Bv:List bQ:=yy++[kF]
def cS:bQ:=fU (aF Bv) 4 dj
def Ju:List bQ:=Bv++[cS]
def cP:bQ:=fU (aF Ju) 2 eF
def DO:List bQ:=Ju++[cP]
def cE:bQ:=fU (aF DO) 2 cN
def kG:List bQ:=DO++[cE]
def EI:bQ:=Jg (aF kG) 12 iW
theorem iG:aF Nv 0=aX:=rfl
theorem jb:aF MU 0=aX:=rfl
theorem ju:aF MU 2=dS:=rfl
theorem jN:aF Nx 2=dS:=rfl
theorem jv:aF Js 0=aX:=rfl
theorem l7:aF Js 1=iB:=rfl
theorem kH:aF Js 3=gJ:=rfl
theorem lA:aF Js 4=iY:=rfl
theorem jO:aF Ny 7=gK:=rfl
theorem gO:aF DM 9=bL:=rfl
theorem jP:aF DN 11=fk:=rfl
theorem fW:aF Bt 9=bL:=rfl
theorem jc:aF Bt 12=fm:=rfl
theorem jQ:aF Bu 10=fj:=rfl
theorem jd:aF Bu 13=eG:=rfl
theorem iH:aF yy 9=bL:=rfl
theorem lB:aF yy 11=fk:=rfl
theorem lC:aF yy 12=fm:=rfl
theorem je:aF Bv 10=fj:=rfl
theorem jR:aF Bv 15=kF:=rfl
theorem dm:aF DO 17=cP:=rfl
theorem lD:aF kG 0=aX:=rfl
theorem qW:aF kG 1=iB:=rfl
theorem oA:aF kG 5=iZ:=rfl
theorem oB:aF kG 6=ja:=rfl
theorem nR:aF kG 8=gM:=rfl
theorem jf:aF kG 14=fq:=rfl
theorem gP:aF kG 16=cS:=rfl
theorem dw:aF kG 18=cE:=rfl
theorem i0:ff MK Pe:=AN
theorem tL:Imp lQ aX:=b6 (aL i0) (by decide +kernel)
theorem i1:ff ML Pf:=aN i0 tL
theorem DP:Imp wQ iB:=b6 (aL i1) (by decide +kernel)
theorem i2:ff MM Nv:=aN i1 DP
theorem uT:Imp nP dS:=b6 (aL i2) (by decide +kernel)
theorem i3:ff MN MU:=aN i2 uT
theorem yz:Imp pL gJ:=b6 (aL i3) (by decide +kernel)
theorem i4:ff MO Nx:=aN i3 yz
theorem Bw:Imp tG iY:=b6 (aL i4) (by decide +kernel)
theorem i5:ff MP Js:=aN i4 Bw
theorem Bx:Imp tH iZ:=b6 (aL i5) (by decide +kernel)
theorem i6:ff MQ Pg:=aN i5 Bx
theorem By:Imp tK ja:=b6 (aL i6) (by decide +kernel)
theorem i7:ff MR Ph:=aN i6 By
theorem yC:Imp pM gK:=b6 (aL i7) (by decide +kernel)
theorem i8:ff MS Ny:=aN i7 yC
theorem yD:Imp pN gM:=b6 (aL i8) (by decide +kernel)
theorem i9:ff MT Pj:=aN i8 yD
theorem nS:Imp iX bL:=b6 (aL i9) (by decide +kernel)
theorem Qp:ff Bg DM:=aN i9 nS
theorem yE:Imp pO fj:=b6 (aL Qp) (by decide +kernel)
theorem Qq:ff Bh Jt:=aN Qp yE
theorem yF:Imp pP fk:=b6 (aL Qq) (by decide +kernel)
theorem i12:ff Bj DN:=aN Qq yF
theorem yG:Imp pQ fm:=b6 (aL i12) (by decide +kernel)
theorem Qs:ff Bk Bt:=aN i12 yG
theorem tM:Imp lR eG:=b6 (aL Qs) (by decide +kernel)
theorem Qt:ff Bm Bu:=aN Qs tM
theorem yH:Imp pR fq:=b6 (aL Qt) (by decide +kernel)
theorem Qu:ff Bo yy:=aN Qt yH
theorem DQ:Imp wR kF:=b6 (aL Qu) (by decide +kernel)
theorem Qv:ff Bp Bv:=aN Qu DQ
theorem tN:Imp lS cS:=b6 (aL Qv) (by decide +kernel)
theorem Qw:ff Bq Ju:=aN Qv tN
theorem uU:Imp nQ cP:=b6 (aL Qw) (by decide +kernel)
theorem Qx:ff Br DO:=aN Qw uU
theorem qX:Imp kE cE:=b6 (aL Qx) (by decide +kernel)
theorem RO:ff DL kG:=aN Qx qX
theorem DR{ns:List Int}{f:Bool}(e:EI [.rl (ns.map .int)]=.ok (f,.bl true)):∃h',Bs [.rl (ns.map .int)] []=.ok (.bl true) h':=yx (aL RO) (by decide +kernel) e
theorem c0:bB Ba Ba (ah (top 14))=true:=by decide +kernel
theorem d0:bJ ⟨Ba,ah (top 14),MK.map (λr=>(r.1,r.2.1)),cons,tb⟩ dh (aJ (top 14))=true:=by decide +kernel
theorem c1:bB Jk ["_law_poles_here","_law_ties_here"] (ah (top 18))=true:=by decide +kernel
theorem d1:bJ ⟨Jk,ah (top 18),ML.map (λr=>(r.1,r.2.1)),cons,tb⟩ iU (aJ (top 18))=true:=by decide +kernel
theorem c2:bB Jl ["_law_script","_law_seat","_law_k"] (ah (top 15))=true:=by decide +kernel
theorem d2:bJ ⟨Jl,ah (top 15),MM.map (λr=>(r.1,r.2.1)),cons,tb⟩ eE (aJ (top 15))=true:=by decide +kernel
theorem c3:bB Jm ["_law_script","_law_many"] (ah (top 17))=true:=by decide +kernel
theorem d3:bJ ⟨Jm,ah (top 17),MN.map (λr=>(r.1,r.2.1)),cons,tb⟩ fK (aJ (top 17))=true:=by decide +kernel
theorem c4:bB Jo MJ (ah (top 16))=true:=by decide +kernel
theorem d4:bJ ⟨Jo,ah (top 16),MO.map (λr=>(r.1,r.2.1)),cons,tb⟩ gG (aJ (top 16))=true:=by decide +kernel
theorem c5:bB Jp ["_law_script"] (ah (top 19))=true:=by decide +kernel
theorem d5:bJ ⟨Jp,ah (top 19),MP.map (λr=>(r.1,r.2.1)),cons,tb⟩ gH (aJ (top 19))=true:=by decide +kernel
theorem c6:bB Jq ["_law_net_here","_law_cell"] (ah (top 23))=true:=by decide +kernel
theorem d6:bJ ⟨Jq,ah (top 23),MQ.map (λr=>(r.1,r.2.1)),cons,tb⟩ gI (aJ (top 23))=true:=by decide +kernel
theorem c7:bB Jr DK (ah (top 22))=true:=by decide +kernel
theorem d7:bJ ⟨Jr,ah (top 22),MR.map (λr=>(r.1,r.2.1)),cons,tb⟩ fL (aJ (top 22))=true:=by decide +kernel
theorem c8:bB Bb DK (ah (top 24))=true:=by decide +kernel
theorem d8:bJ ⟨Bb,ah (top 24),MS.map (λr=>(r.1,r.2.1)),cons,tb⟩ fM (aJ (top 24))=true:=by decide +kernel
theorem c9:bB Bc ["poles","ties"] (ah (top 4))=true:=by decide +kernel
theorem d9:bJ ⟨Bc,ah (top 4),MT.map (λr=>(r.1,r.2.1)),cons,tb⟩ cj (aJ (top 4))=true:=by decide +kernel
theorem DS:bB ["net"] ["net"] (ah (top 5))=true:=by decide +kernel
theorem MV:bJ ⟨["net"],ah (top 5),Bg.map (λr=>(r.1,r.2.1)),cons,tb⟩ fN (aJ (top 5))=true:=by decide +kernel
theorem DT:bB Be f9 (ah (top 6))=true:=by decide +kernel
theorem MW:bJ ⟨Be,ah (top 6),Bh.map (λr=>(r.1,r.2.1)),cons,tb⟩ fO (aJ (top 6))=true:=by decide +kernel
theorem c12:bB f9 f9 (ah (top 8))=true:=by decide +kernel
theorem RP:bJ ⟨f9,ah (top 8),Bj.map (λr=>(r.1,r.2.1)),cons,tb⟩ fP (aJ (top 8))=true:=by decide +kernel
theorem RQ:bB f9 f9 (ah (top 9))=true:=by decide +kernel
theorem RS:bJ ⟨f9,ah (top 9),Bk.map (λr=>(r.1,r.2.1)),cons,tb⟩ di (aJ (top 9))=true:=by decide +kernel
theorem RT:bB pK ["net","row"] (ah (top 11))=true:=by decide +kernel
theorem RW:bJ ⟨pK,ah (top 11),Bm.map (λr=>(r.1,r.2.1)),cons,tb⟩ fQ (aJ (top 11))=true:=by decide +kernel
theorem RX:bB Bf f9 (ah (top 10))=true:=by decide +kernel
theorem RY:bJ ⟨Bf,ah (top 10),Bo.map (λr=>(r.1,r.2.1)),cons,tb⟩ iV (aJ (top 10))=true:=by decide +kernel
theorem RZ:bB pK ["net","row"] (ah (top 12))=true:=by decide +kernel
theorem R0:bJ ⟨pK,ah (top 12),Bp.map (λr=>(r.1,r.2.1)),cons,tb⟩ dj (aJ (top 12))=true:=by decide +kernel
theorem R1:bB tE tE (ah (top 20))=true:=by decide +kernel
theorem R3:bJ ⟨tE,ah (top 20),Bq.map (λr=>(r.1,r.2.1)),cons,tb⟩ eF (aJ (top 20))=true:=by decide +kernel
theorem R4:bB tF tF (ah (top 21))=true:=by decide +kernel
theorem R5:bJ ⟨tF,ah (top 21),Br.map (λr=>(r.1,r.2.1)),cons,tb⟩ cN (aJ (top 21))=true:=by decide +kernel
theorem R6:bB EH ["_law_script"] (ah (top 25))=true:=by decide +kernel
theorem R7:bJ ⟨EH,ah (top 25),DL.map (λr=>(r.1,r.2.1)),cons,tb⟩ iW (aJ (top 25))=true:=by decide +kernel
section
variable {P:Program} {w:World} {K:Frag} {mg:Str->Option Value} {base:Heap}
theorem all_mk{l:PySem.W.OpenLaw}{h:Heap}{fa:Addr}(X:K.In h)(G:h.Ns mainGlobals mg)(R8:mg "law" = some (.ref fa))(hφ:∀ns:List Int,ns.length<=63->∃h',Bs [.rl (ns.map .int)] []=.ok (.bl true) h'){a0:Addr}{a1:Addr}{a2:Addr}{a3:Addr}{a4:Addr}{a5:Addr}{a6:Addr}{a7:Addr}{a8:Addr}{a9:Addr}{Qy:Addr}{Qz:Addr}{QA:Addr}{QB:Addr}{QC:Addr}{QD:Addr}{QE:Addr}{QF:Addr}{QG:Addr}{QH:Addr}
  (A0:nsIn K mainGlobals "_law_cell_at" = some (some (.ref a0)))
  (F0:om K "_law_cell_at" "_law_cell_at" (top 14) a0)
  (A1:nsIn K mainGlobals "_law_net" = some (some (.ref a1)))
  (F1:om K "_law_net" "_law_net" (top 18) a1)
  (A2:nsIn K mainGlobals "_law_number" = some (some (.ref a2)))
  (F2:om K "_law_number" "_law_number" (top 15) a2)
  (A3:nsIn K mainGlobals "_law_poles" = some (some (.ref a3)))
  (F3:om K "_law_poles" "_law_poles" (top 17) a3)
  (A4:nsIn K mainGlobals "_law_ties" = some (some (.ref a4)))
  (F4:om K "_law_ties" "_law_ties" (top 16) a4)
  (A5:nsIn K mainGlobals "_law_nets" = some (some (.ref a5)))
  (F5:om K "_law_nets" "_law_nets" (top 19) a5)
  (A6:nsIn K mainGlobals "_law_some" = some (some (.ref a6)))
  (F6:om K "_law_some" "_law_some" (top 23) a6)
  (A7:nsIn K mainGlobals "_law_marks" = some (some (.ref a7)))
  (F7:om K "_law_marks" "_law_marks" (top 22) a7)
  (A8:nsIn K mainGlobals "_law_least" = some (some (.ref a8)))
  (F8:om K "_law_least" "_law_least" (top 24) a8)
  (A9:nsIn K mainGlobals "put_in_order" = some (some (.ref a9)))
  (F9:om K "put_in_order" "put_in_order" (top 4) a9)
  (A10:nsIn K mainGlobals "own_net" = some (some (.ref Qy)))
  (F10:om K "own_net" "own_net" (top 5) Qy)
  (A11:nsIn K mainGlobals "ends_of" = some (some (.ref Qz)))
  (F11:om K "ends_of" "ends_of" (top 6) Qz)
  (A12:nsIn K mainGlobals "without" = some (some (.ref QA)))
  (F12:om K "without" "without" (top 8) QA)
  (A13:nsIn K mainGlobals "taken_out" = some (some (.ref QB)))
  (F13:om K "taken_out" "taken_out" (top 9) QB)
  (A14:nsIn K mainGlobals "all_out" = some (some (.ref QC)))
  (F14:om K "all_out" "all_out" (top 11) QC)
  (A15:nsIn K mainGlobals "drawn" = some (some (.ref QD)))
  (F15:om K "drawn" "drawn" (top 10) QD)
  (A16:nsIn K mainGlobals "all_drawn" = some (some (.ref QE)))
  (F16:om K "all_drawn" "all_drawn" (top 12) QE)
  (A17:nsIn K mainGlobals "_law_wholes" = some (some (.ref QF)))
  (F17:om K "_law_wholes" "_law_wholes" (top 20) QF)
  (A18:nsIn K mainGlobals "_law_same_net" = some (some (.ref QG)))
  (F18:om K "_law_same_net" "_law_same_net" (top 21) QG)
  (A19:nsIn K mainGlobals "law" = some (some (.ref QH)))
  (F19:om K "law" "law" (top 25) QH)
  (Z:∀x∈bltNames,nsIn K mainGlobals x=some none) :
  ∃fd:FuncData,(∀(s:Shared) (v:Value),BindsTo s fd ⟨[v],[]⟩ [("_law_script",v)])/\∀base:Heap,K.In base->base.Ns mainGlobals mg->fR l.prog w K mg base zx 40 fa fd ["_law_script"] (Nt K):=by
 have e:=R8.symm.trans (TL X G A19);cases e;obtain⟨cl,hcl⟩:∃cl:Nat->Addr,cl=λn=>0:=⟨_,rfl⟩;have T:Base K cl mg cons tb:=by
  subst hcl;refine⟨λx hx=>?_,λp hp=>?_,λc hc=>?_,λp hp=>?_,λp hp=>?_,λp hp=>?_⟩
  ·exact PySem.W.mg_none_of X G (Z x hx)
  ·simp[cons]at hp
  ·exact absurd hc (Nat.not_lt_zero _)
  ·simp[tb]at hp
  ·simp[tb]at hp
  ·simp[tb]at hp
 obtain⟨fd,F⟩:=F19;obtain⟨_,_,_,_,_,_,_,_,_,e,_⟩:=F.ex;refine⟨fd,λs v=>by rw[e];exact .of_eq rfl,λbase _ _=>?_⟩;have G0:dD l.prog w ⟨K,cl⟩ mg base 0 MK:=all_nil;have G1:dD l.prog w ⟨K,cl⟩ mg base 2 ML:=cY (x:="_law_cell_at") (N:=Ba) (ps:=Ba) (body:=dh) T G0 F0 (TL X G A0) c0 d0 (by decide) (by intro _ _ _ _ _ _ _ l;apply ln2 l;intros;rfl);have G2:dD l.prog w ⟨K,cl⟩ mg base 4 MM:=cY (x:="_law_net") (N:=Jk) (ps:=["_law_poles_here","_law_ties_here"]) (body:=iU) T G1 F1 (TL X G A1) c1 d1 (by decide) (by intro _ _ _ _ _ _ _ l;apply ln2 l;intros;rfl);have G3:dD l.prog w ⟨K,cl⟩ mg base 6 MN:=cY (x:="_law_number") (N:=Jl) (ps:=["_law_script","_law_seat","_law_k"]) (body:=eE) T G2 F2 (TL X G A2) c2 d2 (by decide) (by intro _ _ _ _ _ _ _ l;apply RC l;intros;rfl);have G4:dD l.prog w ⟨K,cl⟩ mg base 8 MO:=cY (x:="_law_poles") (N:=Jm) (ps:=["_law_script","_law_many"]) (body:=fK) T G3 F3 (TL X G A3) c3 d3 (by decide) (by intro _ _ _ _ _ _ _ l;apply ln2 l;intros;rfl);have G5:dD l.prog w ⟨K,cl⟩ mg base 10 MP:=cY (x:="_law_ties") (N:=Jo) (ps:=MJ) (body:=gG) T G4 F4 (TL X G A4) c4 d4 (by decide) (by intro _ _ _ _ _ _ _ l;apply RD l;intros;rfl);have G6:dD l.prog w ⟨K,cl⟩ mg base 12 MQ:=cY (x:="_law_nets") (N:=Jp) (ps:=["_law_script"]) (body:=gH) T G5 F5 (TL X G A5) c5 d5 (by decide) (by intro _ _ _ _ _ _ _ l;apply Qg l;intros;rfl);have G7:dD l.prog w ⟨K,cl⟩ mg base 14 MR:=cY (x:="_law_some") (N:=Jq) (ps:=["_law_net_here","_law_cell"]) (body:=gI) T G6 F6 (TL X G A6) c6 d6 (by decide) (by intro _ _ _ _ _ _ _ l;apply ln2 l;intros;rfl);have G8:dD l.prog w ⟨K,cl⟩ mg base 16 MS:=cY (x:="_law_marks") (N:=Jr) (ps:=DK) (body:=fL) T G7 F7 (TL X G A7) c7 d7 (by decide) (by intro _ _ _ _ _ _ _ l;apply ln2 l;intros;rfl);have G9:dD l.prog w ⟨K,cl⟩ mg base 18 MT:=cY (x:="_law_least") (N:=Bb) (ps:=DK) (body:=fM) T G8 F8 (TL X G A8) c8 d8 (by decide) (by intro _ _ _ _ _ _ _ l;apply ln2 l;intros;rfl);have R9:dD l.prog w ⟨K,cl⟩ mg base 20 Bg:=cY (x:="put_in_order") (N:=Bc) (ps:=["poles","ties"]) (body:=cj) T G9 F9 (TL X G A9) c9 d9 (by decide) (by intro _ _ _ _ _ _ _ l;apply ln2 l;intros;rfl);have Sa:dD l.prog w ⟨K,cl⟩ mg base 22 Bh:=cY (x:="own_net") (N:=["net"]) (ps:=["net"]) (body:=fN) T R9 F10 (TL X G A10) DS MV (by decide) (by intro _ _ _ _ _ _ _ l;apply Qg l;intros;rfl);have Sb:dD l.prog w ⟨K,cl⟩ mg base 24 Bj:=cY (x:="ends_of") (N:=Be) (ps:=f9) (body:=fO) T Sa F11 (TL X G A11) DT MW (by decide) (by intro _ _ _ _ _ _ _ l;apply ln2 l;intros;rfl);have Sd:dD l.prog w ⟨K,cl⟩ mg base 26 Bk:=cY (x:="without") (N:=f9) (ps:=f9) (body:=fP) T Sb F12 (TL X G A12) c12 RP (by decide) (by intro _ _ _ _ _ _ _ l;apply ln2 l;intros;rfl);have Se:dD l.prog w ⟨K,cl⟩ mg base 28 Bm:=cY (x:="taken_out") (N:=f9) (ps:=f9) (body:=di) T Sd F13 (TL X G A13) RQ RS (by decide) (by intro _ _ _ _ _ _ _ l;apply ln2 l;intros;rfl);have Sf:dD l.prog w ⟨K,cl⟩ mg base 30 Bo:=cY (x:="all_out") (N:=pK) (ps:=["net","row"]) (body:=fQ) T Se F14 (TL X G A14) RT RW (by decide) (by intro _ _ _ _ _ _ _ l;apply ln2 l;intros;rfl);have Sg:dD l.prog w ⟨K,cl⟩ mg base 32 Bp:=cY (x:="drawn") (N:=Bf) (ps:=f9) (body:=iV) T Sf F15 (TL X G A15) RX RY (by decide) (by intro _ _ _ _ _ _ _ l;apply ln2 l;intros;rfl);have Sh:dD l.prog w ⟨K,cl⟩ mg base 34 Bq:=cY (x:="all_drawn") (N:=pK) (ps:=["net","row"]) (body:=dj) T Sg F16 (TL X G A16) RZ R0 (by decide) (by intro _ _ _ _ _ _ _ l;apply ln2 l;intros;rfl);have Si:dD l.prog w ⟨K,cl⟩ mg base 36 Br:=cY (x:="_law_wholes") (N:=tE) (ps:=tE) (body:=eF) T Sh F17 (TL X G A17) R1 R3 (by decide) (by intro _ _ _ _ _ _ _ l;apply ln2 l;intros;rfl);have Sj:dD l.prog w ⟨K,cl⟩ mg base 38 DL:=cY (x:="_law_same_net") (N:=tF) (ps:=tF) (body:=cN) T Si F18 (TL X G A18) R4 R5 (by decide) (by intro _ _ _ _ _ _ _ l;apply ln2 l;intros;rfl);exact(Et T Sj F R6 R7).imp (HZ hφ)
end
end K15
end
section
open PySem L2 Hv
set_option hygiene false
local macro_rules | `(tactic| simp only[EV,$ls,*] $[$l:location]?)=>`(tactic| simp only[fU,Jb,Jc,Jd,AO,L0,L1,L3,L4,L5,IU,L6,IV,IW,OW,L7,L8,jz,cz,Qh,aT,sQ,gn,Nu,C9,C8,jT,Qj,Ez,bR,IQ,iu,Dw,IT,isVar,gm,List.getElem?_cons_zero,List.getElem?_cons_succ,set_cons_zero,set_cons_succ,map_cons,map_nil,length_cons,length_nil,cons_append,List.nil_append,List.replicate_succ,List.replicate_zero,Nat.reduceSub,Nat.reduceAdd,Nat.reduceLeDiff,Ma,Mb,OX,OY,OZ,O0,O3,O4,Mc,Mf,EB,Mg,Mh,Mi,Mj,Ml,Mm,Mn,IX,IY,IZ,Ja,Mp,jU,bP,nF,OP,cJ,fH,Hv.stored,List.contains_nil,List.contains_cons,List.elem_nil,List.elem_cons,Nat.reduceBEq,Nat.reduceEqDiff,BEq.rfl,List.all_cons,List.all_nil,beq_self_eq_true,Ay,gx,oq,jy,l5,↓reduceIte,Bool.and_true,Bool.true_and,Bool.false_and,Bool.and_false,Bool.or_false,Bool.false_or,Bool.or_true,Bool.true_or,Bool.or_self,Nat.zero_le,Bool.not_true,Bool.not_false,false_eq_true,decide_eq_true_eq,not_eq_true',decide_eq_false_iff_not,List.append_nil,List.nil_append,reduceCtorEq,$ls,*] $[$l:location]?)
section
open PySem L2 Hv
namespace K15
def cellAt(ns:List Int)(k:Nat):Int:=ns.getD k 0
theorem kI(ns:List Int)(k:Nat):aX [.rl (ns.map .int),.int k]=.ok (true,.int (cellAt ns k)):=by
 unfold aX dh
 by_cases h:k<ns.length
 ·have e:gU (List.map Val.int ns) (k:Int)=some (.int (ns[k])):=qi (by simp[h])
  have h':(k:Int)<ns.length:=by omega
  simp only[EV,Mq e,length_map,h',cellAt,List.getD,List.getElem?_eq_getElem h,Option.getD_some]
 ·have h':¬ (k:Int)<ns.length:=by omega
  have e:ns[k]?=none:=by simp;omega
  simp only[EV,length_map,h',cellAt,List.getD,e,getD_none]
def number(ns:List Int)(gQ:Nat)(k:Int):Int :=
 let one:=cellAt ns gQ
 let two:=cellAt ns (gQ+1)
 let step:=if 0<one%3 then one%10 ^ 57+1 else 1
 let shift:=if 0<two%3 then two%10 ^ 57 else 0
 let here:=step*(((1+two/3%66)*k+one/3%67)%67)+shift
 if two%7=3 then 10 ^ 60-1-here else here
theorem yI(a b:Int)(h:0<=b/\b<67):eT a b=true:=by
 unfold eT;simp only[or_eq_true,and_eq_true,decide_eq_true_eq];right;omega
theorem uV(a b:Int)(h:0<=a/\a<67):eT a b=true:=by
 unfold eT;simp only[or_eq_true,and_eq_true,decide_eq_true_eq];left;omega
theorem gR(ns:List Int)(gQ:Nat)(k:Int):dS [.rl (ns.map .int),.int gQ,.int k]=.ok (true,.int (number ns gQ k)):=by
 have c1:=kI ns gQ;have c2:aX [.rl (ns.map .int),.int ((gQ:Int)+1)]=.ok (true,.int (cellAt ns (gQ+1))):=kI ns (gQ+1);unfold dS eE number;generalize h1:cellAt ns gQ=one at *;generalize h2:cellAt ns (gQ+1)=two at *;have m1:eT (1+two/3%66) k=true:=uV _ _ (by omega);have m2:∀x,eT x (((1+two/3%66)*k+one/3%67)%67)=true:=λx=>yI _ _ (by omega);simp only[EV,iG,c1,c2,eX (show decide ((0:Int)<3)=true by decide),eX (show decide ((0:Int)<7)=true by decide),eX (show decide ((0:Int)<66)=true by decide),eX (show decide ((0:Int)<67)=true by decide),lg (show kR 3=true by decide),EA (show decide ((0:Int)<=57/\(57:Int)<=1000000/\(10:Int).natAbs<2 ^ 64)=true by decide),EA (show decide ((0:Int)<=60/\(60:Int)<=1000000/\(10:Int).natAbs<2 ^ 64)=true by decide),pH m1,pH (m2 _),eX (show decide ((0:Int)<10 ^ (57:Int).toNat)=true by decide)]
 repeat' split
 all_goals first|rfl|contradiction
def Sm(i:Int):Prop:=0<=i/\i<10 ^ 60
theorem yJ(ns:List Int)(gQ:Nat)(k:Int):Sm (number ns gQ k):=by
 unfold number Sm;dsimp only;generalize cellAt ns gQ=one;generalize cellAt ns (gQ+1)=two;generalize ((1+two/3%66)*k+one/3%67)=z;have hs:∃st:Int,(if 0<one%3 then one%10 ^ 57+1 else 1)=st/\1<=st/\st<=10 ^ 57:=by refine⟨_,rfl,?_,?_⟩<;>split<;>omega
 have hf:∃st:Int,(if 0<two%3 then two%10 ^ 57 else 0)=st/\0<=st/\st<=10 ^ 57:=by refine⟨_,rfl,?_,?_⟩<;>split<;>omega
 obtain⟨st,e1,a1,a2⟩:=hs;obtain⟨sh,e2,b1,b2⟩:=hf;rw[e1,e2];have r1:0<=z%67:=by omega
 have r2:z%67<=66:=by omega
 have p1:0<=st*(z%67):=Int.mul_nonneg (by omega) r1;have p2:st*(z%67)<=10 ^ 57*66:=Int.mul_le_mul a2 r2 r1 (by decide);generalize st*(z%67)=y at *
 split<;>omega
theorem uW(ns:List Int)(gQ:Nat)(i j:Int)(hi:0<=i/\i<67)(hj:0<=j/\j<67)(e:number ns gQ i=number ns gQ j):i=j:=by
 unfold number at e;dsimp only at e;generalize cellAt ns gQ=one at *;generalize cellAt ns (gQ+1)=two at *;have hs:∃st:Int,(if 0<one%3 then one%10 ^ 57+1 else 1)=st/\1<=st:=by refine⟨_,rfl,?_⟩;split<;>omega
 obtain⟨st,e1,a1⟩:=hs;rw[e1]at e;have e2:st*(((1+two/3%66)*i+one/3%67)%67)=st*(((1+two/3%66)*j+one/3%67)%67):=by split at e<;>omega
 have e3:=Int.eq_of_mul_eq_mul_left (by omega:st≠0) e2;exact DE (by omega) hi hj e3
structure nT (ns:List Int) (many:Int) (ts:List T3):Prop where
 len:ts.length<=14
 name:∀i (h:i<ts.length),(ts[i]).1=number ns 0 i
 ends:∀t∈ts,(∃j,0<=j/\j<many/\t.2.1=number ns 2 j)/\∃j,0<=j/\j<many/\t.2.2=number ns 2 j
theorem nT.nodup{ns:List Int}{many:Int}(h:nT ns many ts):(ts.map (·.1)).Nodup:=by
 unfold List.Nodup;rw[UG];intro i j hi hj hij;rw[S1]at hi hj;rw[U0,U0,h.name i hi,h.name j hj];intro e;have:=h.len;have:=uW ns 0 i j (by omega) (by omega) e;omega
theorem nU:∀(i:Nat) (ms:List Int) (pre post:List Val) (x:Val),bW i (ms.map .int)=pre++x::post->∃c:Int,x=.tup [.int ((i+pre.length:Nat):Int),.int c]
 |_,[],pre,post,x,h=>by simp[bW]at h
 | i,d::r,[],post,x,h=>by
  rw[S5,bW,UN]at h;injection h with h _
  exact⟨d,by rw[<-h];rfl⟩
 | i,d::r,y::pre,post,x,h=>by
  rw[S5,bW,cons_append]at h;injection h with _ h
  obtain⟨c,e⟩:=nU (i+1) r pre post x h;exact⟨c,by rw[e,TM];congr 4;omega⟩
theorem DU(ns:List Int)(start many:Int)(h0:0<=start)(hm:decide (0<many)=true):∃f ts,iY [.rl (ns.map .int),.int start,.int 14,.int many]=.ok (f,.rl (ts.map aB))/\nT ns many ts:=by
 unfold iY gG;simp only[EV,ED,EC,sY];rw[iE];have hlen:=yt ns start 14 h0;have Sk:((14:Nat):Int)=14:=rfl;rw[Sk]at hlen;generalize bU ns (some start) (some (start+14))=cs at *;have hx:bW 0 (cs.map Val.int)=(bW 0 (cs.map Val.int)).map id:=(Vh _).symm;rw[hx];refine bX id (λr:Pr FV=>∃(f:Bool) (ts:List T3),r=.ok (f,.rl (ts.map aB))/\nT ns many ts)
  (λdone env=>∃ts a b c d,env=[some (.sh,.rl (ns.map .int)),some (.sh,.int start),some (.sh,.int 14),some (.sh,.int many),some (.ow,.rl (ts.map aB)),a,b,c,d]/\ts.length=done.length/\(ts.length<=14->nT ns many ts))
  ⟨[],none,none,none,none,rfl,rfl,λ_=>⟨by simp,λi h=>by simp at h,λ_ h=>by simp at h⟩⟩ ?_ ?_
 ·rintro pre x post env hx ⟨ts,a,b,c,d,rfl,hl,hg⟩
  have hpl:pre.length<14:=by have:=TR length hx;rw[lu,S1,Tv,TM]at this;omega
  obtain⟨cell,rfl⟩:=nU _ _ _ _ _ hx;rw[Nat.zero_add];have hg:=hg (by omega);have hm':0<many:=by simpa using hm
  have b1:=Vt (cell*48271%10007) (show many≠0 by omega);have b2:=Int.emod_lt_of_pos (cell*48271%10007) hm';have b3:=Vt (cell*16807%10009) (show many≠0 by omega);have b4:=Int.emod_lt_of_pos (cell*16807%10009) hm';have e1:=gR ns 2 (cell*48271%10007%many);have e2:=gR ns 2 (cell*16807%10009%many);have e3:=gR ns 0 (pre.length:Int);rw[show ((2:Nat):Int)=2 from rfl]at e1 e2;rw[show ((0:Nat):Int)=0 from rfl]at e3;generalize Ip:number ns 2 (cell*48271%10007%many)=n1 at *;generalize Ex:number ns 2 (cell*16807%10009%many)=n2 at *;generalize Sn:number ns 0 (pre.length:Int)=n3 at *;refine⟨[some (.sh,.rl (ns.map .int)),some (.sh,.int start),some (.sh,.int 14),some (.sh,.int many),some (.ow,.rl ((ts++[(n3,n1,n2)]).map aB)),some (.sh,.int pre.length),some (.sh,.int cell),some (.sh,.int n1),some (.sh,.int n2)],?_,⟨ts++[(n3,n1,n2)],_,_,_,_,rfl,by simp[hl],λPk=>⟨Pk,λi hi=>?_,λt ht=>?_⟩⟩⟩
  rotate_left
  ·rw[List.getElem_append]
   split
   ·exact hg.name i (by assumption)
   ·simp only[length_append,length_cons,length_nil]at hi
    have:i=pre.length:=by omega
    subst this;simp[hl,Sn]
  ·rcases Ua.mp ht with ht|ht
   ·exact hg.ends t ht
   ·rw[Ti]at ht;subst ht;exact⟨⟨_,b1,b2,Ip.symm⟩,⟨_,b3,b4,Ex.symm⟩⟩
  have m1:∀x:Int,eT x 48271=true:=λx=>by unfold eT;simp
  have m2:∀x:Int,eT x 16807=true:=λx=>by unfold eT;simp
  have z:ts.length<sizeLine:=by rw[hl];unfold sizeLine;omega
  simp only[EV,id,AQ,jN,pH (m1 _),pH (m2 _),eX hm,eX (show decide ((0:Int)<10007)=true by decide),eX (show decide ((0:Int)<10009)=true by decide),e1,e2,e3,length_map,z,map_append,aB];rfl
 ·rintro env ⟨ts,a,b,c,d,rfl,hl,hg⟩;refine⟨_,ts,by simp only[EV,bR];rfl,hg ?_⟩;rw[hl,lu,S1];exact hlen
theorem BA(ns:List Int)(many:Int)(hm:0<many):∃f i j,gJ [.rl (ns.map .int),.int many]=.ok (f,.tup [.int (number ns 2 i),.int (number ns 2 j)])/\(0<=i/\i<many)/\(0<=j/\j<many):=by
 have e1:=gR ns 2 0;have e2:=gR ns 2 1;rw[show ((2:Nat):Int)=2 from rfl]at e1 e2;have c1:aX [.rl (ns.map .int),.int 4]=.ok (true,.int (cellAt ns 4)):=kI ns 4;have z:2<=sizeLine:=by decide
 unfold gJ fK;simp only[EV,jb,ju,e1,e2,c1,lg (show kR 8=true by decide),eX (show decide ((0:Int)<5)=true by decide)];simp(config:={decide:=false}) only [z,if_true]
 by_cases h1:many=1
 ·refine⟨true,0,0,?_,by omega,by omega⟩;simp[h1]
 ·by_cases h2:cellAt ns 4/8%5=4
  ·refine⟨true,0,0,?_,by omega,by omega⟩;simp[h1,h2]
  ·refine⟨true,0,1,?_,by omega,by omega⟩;simp[h1,h2]
theorem BB{p q:Int}{ts:List T3}(hl:ts.length<=63):iB [.tup [.int p,.int q],.rl (ts.map aB)]=.ok (true,aQ (min p q) (max p q) (cG (ts.map turnT))):=by
 unfold iB iU;have z:2<=sizeLine:=by decide
 have z3:3<=sizeLine:=by decide
 have hc:ts.length<=100000:=by omega
 simp only[EV,eB,length_map,hc,iD];rw[dR aB (λt=>aB (turnT t)) ts (λt ht=>by
  simp only[EV,iz,z3];rfl)]
 have em:ts.map (λt=>aB (turnT t))=(ts.map turnT).map aB:=by rw[Tu];rfl
 rw[em];simp only[EV,z,tu (show (ts.map turnT).length<64 by rw[length_map];omega)];rfl
structure pS (ns:List Int) (n:Int×Int×List T3):Prop where
 ord:n.1<=n.2.1
 len:n.2.2.length<=14
 up:wH n.2.2
 ends:∀t∈n.2.2,t.2.1<=t.2.2
 names:∀t∈n.2.2,Sm t.1
 many:∃m:Int,0<m/\m<=8/\∀x,(x=n.1\/x=n.2.1\/∃t∈n.2.2,x=t.2.1\/x=t.2.2)->∃j,0<=j/\j<m/\x=number ns 2 j
def qY(n:Int×Int×List T3):Val:=aQ n.1 n.2.1 n.2.2
theorem DV(ns:List Int):∃(f:Bool) (iC:List (Int×Int×List T3)),iZ [.rl (ns.map .int)]=.ok (f,.rl (iC.map qY))/\∀n∈iC,pS ns n:=by
 have c1:aX [.rl (ns.map .int),.int 4]=.ok (true,.int (cellAt ns 4)):=kI ns 4;unfold iZ gH;have z4:4<=sizeLine:=by decide
 simp only[EV,jv,c1,eX (show decide ((0:Int)<8)=true by decide),z4,eB];rw[iE];have wU:0<1+cellAt ns 4%8/\1+cellAt ns 4%8<=8:=by omega
 generalize 1+cellAt ns 4%8=many at *;have hmd:decide (0<many)=true:=by simpa using wU.1
 have hx:[Val.int 5,Val.int 19,Val.int 33,Val.int 47]=[5,19,33,47].map Val.int:=rfl;rw[hx];refine bX Val.int (λr:Pr FV=>∃(f:Bool) (iC:List (Int×Int×List T3)),r=.ok (f,.rl (iC.map qY))/\∀n∈iC,pS ns n)
  (λdone env=>∃(iC:List (Int×Int×List T3)) (a:Option (Mk×Val)),env=[some (.sh,.rl (ns.map .int)),some (.sh,.int many),some (.ow,.rl (iC.map qY)),a]/\iC.length<=done.length/\∀n∈iC,pS ns n)
  ⟨[],none,rfl,S4 _,λ_ h=>by simp at h⟩ ?_ ?_
 ·rintro pre j post env hx ⟨iC,a,rfl,hl,hg⟩
  have hj:j∈[5,19,33,47]:=by rw[hx];simp
  have hj0:0<=j:=by simp at hj;omega
  have hlen:pre.length<4:=by have:=TR length hx;simp only[length_cons,length_nil,length_append]at this;omega
  obtain⟨f1,i1,i2,e1,hi1,hi2⟩:=BA ns many wU.1;obtain⟨f2,ts,e2,ht⟩:=DU ns j many hj0 hmd;generalize Ip:number ns 2 i1=p at *;generalize Ex:number ns 2 i2=q at *;have e3:=BB (p:=p) (q:=q) (ts:=ts) (by have:=ht.len;omega);have z:iC.length<sizeLine:=by unfold sizeLine;omega
  have ok:pS ns (min p q,max p q,cG (ts.map turnT)):=by
   have pm:=bS (ts.map turnT);refine⟨by dsimp only;omega,?_,?_,?_,?_,many,wU.1,wU.2,?_⟩
   ·dsimp only;rw[pm.length_eq,S1];exact ht.len
   ·refine iR _ ?_;rw[Tu];exact ht.nodup
   ·intro t h
    obtain⟨u,hu,rfl⟩:=T8.mp (pm.mem_iff.mp h);unfold turnT;dsimp only
    split<;>split<;>omega
   ·intro t h;obtain⟨u,hu,rfl⟩:=T8.mp (pm.mem_iff.mp h);obtain⟨i,hi,rfl⟩:=List.mem_iff_getElem.mp hu;show Sm (ts[i]).1;rw[ht.name i hi];exact yJ _ _ _
   ·intro x hx
    dsimp only at hx
    rcases hx with h|h|⟨t,h,h'⟩
    ·rcases(show x=p\/x=q by omega) with h|h
     ·exact⟨i1,hi1.1,hi1.2,by rw[h,Ip]⟩
     ·exact⟨i2,hi2.1,hi2.2,by rw[h,Ex]⟩
    ·rcases(show x=p\/x=q by omega) with h|h
     ·exact⟨i1,hi1.1,hi1.2,by rw[h,Ip]⟩
     ·exact⟨i2,hi2.1,hi2.2,by rw[h,Ex]⟩
    ·obtain⟨u,hu,rfl⟩:=T8.mp (pm.mem_iff.mp h)
     obtain⟨⟨j1,a1,a2,a3⟩,⟨j2,b1,b2,b3⟩⟩:=ht.ends u hu;have:x=u.2.1\/x=u.2.2:=by
      unfold turnT at h';dsimp only at h'
      rcases h' with h'|h'<;>split at h'<;>omega
     rcases this with h|h
     ·exact⟨j1,a1,a2,by rw[h,a3]⟩
     ·exact⟨j2,b1,b2,by rw[h,b3]⟩
  by_cases hc:j=5\/j<(ns.length:Int)
  ·refine⟨[some (.sh,.rl (ns.map .int)),some (.sh,.int many),some (.ow,.rl ((iC++[(min p q,max p q,cG (ts.map turnT))]).map qY)),some (.sh,.int j)],?_,⟨iC++[(min p q,max p q,cG (ts.map turnT))],_,rfl,by simp;omega,?_⟩⟩
   ·simp only[EV,bx,kH,lA,l7,e1,e2,e3,z,length_map,map_append,qY]
    rcases hc with hc|hc
    ·simp only[hc,if_true,decide_true]
    ·simp only[hc,if_true,decide_true]
     split<;>rfl
   ·intro u hu
    rcases Ua.mp hu with hu|hu
    ·exact hg u hu
    ·rw[Ti]at hu;rw[hu];exact ok
  ·refine⟨[some (.sh,.rl (ns.map .int)),some (.sh,.int many),some (.ow,.rl (iC.map qY)),some (.sh,.int j)],?_,⟨iC,_,rfl,by simp;omega,hg⟩⟩;have h1:¬ j=5:=λh=>hc (.inl h);have h2:¬ j<(ns.length:Int):=λh=>hc (.inr h);simp only[EV,bx,length_map,h1,h2,if_false,decide_false]
 ·rintro env ⟨iC,a,rfl,hl,hg⟩;exact⟨_,iC,by simp only[EV,bR];rfl,hg⟩
end K15
end
section
open PySem L2 Hv
namespace K15
def cu(t:T3):Int×Int:=(t.2.1,t.2.2)
theorem kJ:∀(ns ks:List Int),(fF ks ns).length<=ks.length+ns.length
 |[],ks=>S4 _
 | k::r,ks=>by
  rw[fF,TM];have:=kJ r (mY ks k);have:=zG ks k;omega
def tO(e:Int×Int):Val:=.tup [.int e.1,.int e.2]
theorem order_eq{p q:Int}{us:List T3}(hl:us.length<=16):bL [.tup [.int p,.int q],.rl (us.map aB)]=.ok (true,aQ (if q<p then q else p) (if q>p then q else p) (cG (us.map turnT))):=by
 unfold bL cj;have z0:0<=sizeLine:=by decide
 have z2:2<=sizeLine:=by decide
 have z3:3<=sizeLine:=by decide
 simp only[EV,eB];rw[iE];refine bX aB (λr:Pr FV=>r=.ok (true,aQ (if q<p then q else p) (if q>p then q else p) (cG (us.map turnT))))
  (λdone env=>∃a b c,env=[some (.sh,.tup [.int p,.int q]),some (.sh,.rl (us.map aB)),some (.ow,.rl ((done.map turnT).map aB)),a,b,c])
  ⟨none,none,none,rfl⟩ ?_ ?_
 ·rintro pre t post env hx ⟨a,b,c,rfl⟩
  have hpl:pre.length<16:=by have:=TR length hx;rw[Tv,TM]at this;omega
  have z:((pre.map turnT).map aB).length<sizeLine:=by rw[S1,S1];unfold sizeLine;omega
  refine⟨[some (.sh,.tup [.int p,.int q]),some (.sh,.rl (us.map aB)),some (.ow,.rl (((pre++[t]).map turnT).map aB)),some (.sh,.int t.1),some (.sh,.int t.2.1),some (.sh,.int t.2.2)],?_,_,_,_,rfl⟩;have ea:((pre++[t]).map turnT).map aB=(pre.map turnT).map aB++[aB (turnT t)]:=by simp
  simp only[EV,iz,z3,z,ea];rfl
 ·rintro env ⟨a,b,c,rfl⟩;simp only[EV,bT kB,bT jK,z2,tu (show (us.map turnT).length<64 by rw[length_map];omega)];rfl
theorem pT{p q:Int}(hl:us.length<=16):fj [aQ p q us]=.ok (true,aQ (if q<p then q else p) (if q>p then q else p) (cG (us.map turnT))):=by
 have e:=order_eq (p:=p) (q:=q) hl;unfold fj fN;unfold aQ at e |-;simp only[EV,gO,bT kB,bT jK,e]
theorem tQ{α:Type}(enc:α -> Val)(Q:aK->Prop)(x:α)(res:FV):∀(us:List α) (env:aK),Q env->x∈us ->
  (∀u∈us,∀env,Q env->(body (enc u) env=.ok (.rt res))\/(u≠x/\∃env',body (enc u) env=.ok (.nx env')/\Q env'))->gy body (us.map enc) env=.ok (.rt res)
 | u::us,env,q,hx,h=>by
  rw[S5,gy]
  rcases h u (S3 ..) env q with e|⟨ne,env',e,q'⟩
  ·rw[e,bR]
  ·rw[e,bR]
   rcases Td.mp hx with hx|hx
   ·exact(ne hx.symm).elim
   ·exact tQ enc Q x res us env' q' hx λv hv=>h v (S2 _ hv)
def nameV(t:T3):Val:=.int t.1
theorem wV{p q:Int}(hn:(ts.map (·.1)).Nodup)(ht:t∈ts):fk [aQ p q ts,.int t.1]=.ok (true,tO (cu t)):=by
 unfold fk fO aQ;simp only[EV,bT kB,bT jK,eB];rw[tQ aB (λenv=>∃a b c,env=[some (.sh,.tup [.tup [.int p,.int q],.rl (ts.map aB)]),some (.sh,.int t.1),a,b,c]) t (true,tO (cu t)) ts _ ⟨none,none,none,rfl⟩ ht]
 ·rfl
 ·rintro u hu env ⟨a,b,c,rfl⟩
  by_cases e:u.1=t.1
  ·left
   have:=qI hn u hu t ht e;subst this;simp only[EV,iz,decide_true,↓reduceIte];rfl
  ·right
   refine⟨λz=>e (by rw[z]),[some (.sh,.tup [.tup [.int p,.int q],.rl (ts.map aB)]),some (.sh,.int t.1),some (.sh,.int u.1),some (.sh,.int u.2.1),some (.sh,.int u.2.2)],?_,_,_,_,rfl⟩;simp only[EV,iz];simp[e]
def others(ts:List T3)(t:T3):List T3:=ts.filter λu=>!decide (u.1=t.1)
end K15
end
section
open PySem L2 Hv
namespace K15
theorem lE(x:Int):∀(a ks:List Int),fF ks (a++[x])=mY (fF ks a) x
 |[],_=>rfl
 |y::r,ks=>by rw[cons_append,fF,fF,lE x r]
theorem uX(h:a.length+b.length<=sizeLine):jI .add (.rl a) (.rl b)=.ok (bP (a++b),.rl (a++b)):=by
 show pg _ _=_;unfold pg;rw[S7 (decide_eq_true h)]
def nV(p q:Int)(ts:List T3):List Int:=[p,q]++ts.map (·.2.1)++ts.map (·.2.2)
def eN(p q:Int)(ts:List T3):List Int:=fF [] (nV p q ts)
theorem cO{p q x:Int}:x∈eN p q ts↔x=p\/x=q\/∃t∈ts,x=t.2.1\/x=t.2.2:=by
 unfold eN nV;rw[nM];simp only[mem_append,List.mem_map,mem_cons,not_mem_nil,or_false,false_or];constructor
 ·rintro((h|h)|⟨t,ht,e⟩)
  ·rcases h with h|h
   ·exact .inl h
   ·exact .inr (.inl h)
  ·obtain⟨t,ht,e⟩:=h;exact .inr (.inr ⟨t,ht,.inl e.symm⟩)
  ·exact .inr (.inr ⟨t,ht,.inr e.symm⟩)
 ·rintro(h|h|⟨t,ht,e|e⟩)
  ·exact .inl (.inl (.inl h))
  ·exact .inl (.inl (.inr h))
  ·exact .inl (.inr ⟨t,ht,e.symm⟩)
  ·exact .inr ⟨t,ht,e.symm⟩
theorem qZ{p q:Int}(h:ts.length<=14):(eN p q ts).length<=30:=by
 have:=kJ (nV p q ts) [];unfold eN;unfold nV at *;simp only[length_append,length_map,length_cons,length_nil] at *;omega
theorem DW(ks:List Int)(g:Int->Val):j6 [] (jA ks g)=some (ks.map Sum.inl):=rfl
theorem BC(ks:List Int):(ks.map (Sum.inl:Int->Key)).map zN=ks.map Val.int:=by rw[Tu];rfl
theorem BD{p q:Int}{row:List Int}(h:ts.length<=14):∃f φ,gK [aQ p q ts,.rl (row.map .int)]=.ok (f,jA (eN p q ts) λx=>.int (φ x))/\t6 (eN p q ts) ((ts.filter λt=>decide (t.1∈row)).map cu) φ:=by
 unfold gK fL aQ;have hc:ts.length<=100000:=by omega
 have c1:∀Ψ,f6 (λd=>pb (pl (cZ (.one 0) d [none])) λenv'=>pb (.ok true) λt=>if t=true then pb (aT Ψ (.idx (!0) (¬1)) env') λe=>.ok (some e) else .ok none) (ts.map aB)=.ok (true,(ts.map (·.2.1)).map .int):=fun Ψ=>by
  rw[dR aB (λt=>.int t.2.1) ts (λt ht=>by
   simp only[EV,bx];rfl),Tu];rfl
 have c2:∀Ψ,f6 (λd=>pb (pl (cZ (.one 0) d [none])) λenv'=>pb (.ok true) λt=>if t=true then pb (aT Ψ (.idx (!0) (¬2)) env') λe=>.ok (some e) else .ok none) (ts.map aB)=.ok (true,(ts.map (·.2.2)).map .int):=fun Ψ=>by
  rw[dR aB (λt=>.int t.2.2) ts (λt ht=>by
   simp only[EV,bx];rfl),Tu];rfl
 simp only[EV,bT kB,bT jK,eB,iD,length_map,hc]at c1 c2 |-;have z1:[Val.int p,Val.int q].length+((ts.map (·.2.1)).map Val.int).length<=sizeLine:=by simp only[length_map,length_cons,length_nil];unfold sizeLine;omega
 have z2:([Val.int p,Val.int q]++(ts.map (·.2.1)).map Val.int).length+((ts.map (·.2.2)).map Val.int).length<=sizeLine:=by simp only[length_append,length_map,length_cons,length_nil];unfold sizeLine;omega
 have ep:[Val.int p,Val.int q]++(ts.map (·.2.1)).map Val.int++(ts.map (·.2.2)).map Val.int=(nV p q ts).map .int:=by unfold nV;rw[TN,TN];rfl
 rw[c1 λ_ _=>.no,bR,bR,uX z1,bR,c2 λ_ _=>.no,bR,bR,uX z2,ep];simp only[EV,eB];rw[iE];have hz:∀ks:List Int,ks.length<=30->(ks.map (Sum.inl:Int->Key)).length<sizeLine:=λks h=>by rw[S1];unfold sizeLine;omega
 have hml:(nV p q ts).length<=30:=by unfold nV;simp only[length_append,length_map,length_cons,length_nil];omega
 refine bX Val.int (λr:Pr FV=>∃f φ,r=.ok (f,jA (eN p q ts) λx=>.int (φ x))/\t6 (eN p q ts) ((ts.filter λt=>decide (t.1∈row)).map cu) φ)
  (λdone env=>∃a,env=[some (.sh,.tup [.tup [.int p,.int q],.rl (ts.map aB)]),some (.sh,.rl (row.map .int)),some (.ow,jA (fF [] done) λx=>.int x),a,none,none,none,none,none])
  ⟨none,rfl⟩ ?_ ?_
 ·rintro pre x post env hx ⟨a,rfl⟩
  refine⟨[some (.sh,.tup [.tup [.int p,.int q],.rl (ts.map aB)]),some (.sh,.rl (row.map .int)),some (.ow,jA (fF [] (pre++[x])) λx=>.int x),some (.sh,.int x),none,none,none,none,none],?_,_,rfl⟩;have hpl:(fF [] pre).length<=30:=by have:=kJ pre [];have:=TR length hx;rw[Tv,TM]at this;simp only[length_nil] at *;omega
  rw[lE]
  by_cases c:x∈fF [] pre
  ·rw[mY,S7 c]
   simp only[EV,bx,lP,hz _ hpl,qT c];rw[dQ (g':=λx=>Val.int x)];intro y _;unfold ly
   split
   ·rename_i e;rw[e]
   ·rfl
  ·rw[mY,S8 c]
   simp only[EV,bx,lP,hz _ hpl,wG c];rw[dQ (g':=λx=>Val.int x)];intro y _;unfold ly
   split
   ·rename_i e;rw[e]
   ·rfl
 ·rintro env ⟨a,rfl⟩
  simp only[EV,bT kB,bT jK,eB];rw[iE];refine bX aB (λr:Pr FV=>∃f φ,r=.ok (f,jA (eN p q ts) λx=>.int (φ x))/\t6 (eN p q ts) ((ts.filter λt=>decide (t.1∈row)).map cu) φ)
   (λdone env=>∃(φ:Int->Int) (a b c d e g:Option (Mk×Val)),env=[some (.sh,.tup [.tup [.int p,.int q],.rl (ts.map aB)]),some (.sh,.rl (row.map .int)),some (.ow,jA (eN p q ts) λx=>.int (φ x)),a,b,c,d,e,g]/\t6 (eN p q ts) ((done.filter λt=>decide (t.1∈row)).map cu) φ)
   ⟨id,_,_,_,_,_,_,rfl,t6.start _⟩ ?_ ?_
  ·rintro pre t post env hx ⟨φ,a,b,c,d,e,g,rfl,wW⟩
   have ht:t∈ts:=by rw[hx];simp
   have h1:t.2.1∈eN p q ts:=cO.mpr (.inr (.inr ⟨t,ht,.inl rfl⟩));have h2:t.2.2∈eN p q ts:=cO.mpr (.inr (.inr ⟨t,ht,.inr rfl⟩));simp only[EV,iz,EE]
   by_cases hr:t.1∈row
   ·simp only[EV,hr,decide_true,↓reduceIte,iy h1,iy h2,DW,BC,eB]
    rw[iE];refine bX Val.int (λr:Pr we=>∃env',r=.ok (.nx env')/\∃(φ:Int->Int) (a b c d e g:Option (Mk×Val)),env'=[some (.sh,.tup [.tup [.int p,.int q],.rl (ts.map aB)]),some (.sh,.rl (row.map .int)),some (.ow,jA (eN p q ts) λx=>.int (φ x)),a,b,c,d,e,g]/\t6 (eN p q ts) (((pre++[t]).filter λt=>decide (t.1∈row)).map cu) φ)
     (λdone env=>∃a,env=[some (.sh,.tup [.tup [.int p,.int q],.rl (ts.map aB)]),some (.sh,.rl (row.map .int)),some (.ow,jA (eN p q ts) λx=>.int (if x∈done /\ φ x = φ t.2.2 then φ t.2.1 else φ x)),a,some (.sh,.int t.1),some (.sh,.int t.2.1),some (.sh,.int t.2.2),some (.sh,.int (φ t.2.2)),some (.sh,.int (φ t.2.1))])
     ?_ ?_ ?_
    ·exact⟨a,by simp⟩
    ·rintro done x post env hy ⟨a,rfl⟩
     have hn:=jL (nV p q ts) [] Vu;have So:x∉done:=by rw[show fF [] (nV p q ts)=_ from hy,Ug]at hn;exact λh=>hn.2.2 x h x (by simp) rfl
     have hxs:x∈eN p q ts:=by rw[hy];simp
     refine⟨_,?_,some (.sh,.int x),rfl⟩;simp only[EV,bx,iy hxs,lP,hz _ (qZ h),qT hxs,So,false_and,if_false]
     by_cases hg:φ x = φ t.2.2
     ·simp only[hg,↓reduceIte]
      rw[dQ];intro y _;unfold ly
      by_cases e:y=x
      ·subst e;simp[hg]
      ·simp[e]
     ·simp only[hg,↓reduceIte]
      rw[dQ];intro y _
      by_cases e:y=x
      ·subst e;simp[hg]
      ·simp[e]
    ·rintro env ⟨a,rfl⟩
     have st:=wW.step h1 h2 (φ t.2.1) (φ t.2.2) (.inl ⟨rfl,rfl⟩);refine⟨_,rfl,(λx=>if φ x = φ t.2.2 then φ t.2.1 else φ x),a,some (.sh,.int t.1),some (.sh,.int t.2.1),some (.sh,.int t.2.2),some (.sh,.int (φ t.2.2)),some (.sh,.int (φ t.2.1)),?_,?_⟩
     ·rw[dQ];intro y hy;simp[hy]
     ·rw[List.filter_append,List.filter_cons_of_pos (by simpa using hr),TN];exact st
   ·simp only[EV,hr,decide_false];refine⟨_,rfl,φ,_,_,_,_,_,_,rfl,?_⟩;rw[List.filter_append,List.filter_cons_of_neg (by simpa using hr),TN];simpa using wW
  ·rintro env ⟨φ,a,b,c,d,e,g,rfl,wW⟩;simp only[EV,bR];exact⟨_,φ,rfl,wW⟩
end K15
end
section
open PySem L2 Hv
namespace K15
def tR(e:Int×Int)(a b:Int):Prop:=e=(a,b)\/e=(b,a)
theorem tR.way{a b:Int}(s:tR e a b)(h:e∈es):Way es a b:=by
 rcases s with rfl|rfl
 ·exact .fwd (.refl _) h
 ·exact .bwd (.refl _) h
theorem tR.ne{a b:Int}(s:tR e a b):e.1=e.2↔a=b:=by
 rcases s with rfl|rfl
 ·exact Iff.rfl
 ·exact eq_comm
theorem tR.map{a b:Int}(s:tR e a b)(g:Int->Int):tR (g e.1,g e.2) (g a) (g b):=by
 rcases s with rfl|rfl
 ·exact .inl rfl
 ·exact .inr rfl
theorem tR.trans{a b c d:Int}(s:tR e a b)(k:tR (a,b) c d):tR e c d:=by
 rcases k with k|k<;>(injection k with k1 k2;subst k1;subst k2)
 ·exact s
 ·exact s.symm
def l8(D:List (Int×Int))(f:Int->Int):Prop:=∀x y,f x=f y↔Way D x y
theorem BE(g:l8 D f)(h1:∀e∈es,∃e'∈es',tR e' (f e.1) (f e.2))(h2:∀e'∈es',∃e∈es,tR e' (f e.1) (f e.2))(x y:Int):Way es' (f x) (f y)↔Way (es++D) x y:=by
 have up:∀{x y},f x=f y->Way (es++D) x y:=λe=>((g _ _).mp e).mono λe he=>TH _ he;constructor
 ·have aux:∀u v,Way es' u v->∀x,u=f x->∃y,v=f y/\Way (es++D) x y:=by
   intro u v w
   induction w with
   |refl=>exact λx e=>⟨x,e,.refl _⟩
   |fwd _ m ih=>
    intro x e;obtain⟨y,e1,w1⟩:=ih x e;obtain⟨⟨a,b⟩,he,s⟩:=h2 _ m;have m':(a,b)∈es++D:=TU _ he
    rcases s with s|s<;>(injection s with s1 s2;dsimp only at s1 s2)
    ·exact⟨b,s2,(w1.trans (up (e1.symm.trans s1))).fwd m'⟩
    ·exact⟨a,s2,(w1.trans (up (e1.symm.trans s1))).bwd m'⟩
   |bwd _ m ih=>
    intro x e;obtain⟨y,e1,w1⟩:=ih x e;obtain⟨⟨a,b⟩,he,s⟩:=h2 _ m;have m':(a,b)∈es++D:=TU _ he
    rcases s with s|s<;>(injection s with s1 s2;dsimp only at s1 s2)
    ·exact⟨a,s1,(w1.trans (up (e1.symm.trans s2))).bwd m'⟩
    ·exact⟨b,s1,(w1.trans (up (e1.symm.trans s2))).fwd m'⟩
  intro w;obtain⟨z,e,w⟩:=aux _ _ w x rfl;exact w.trans (up e.symm)
 ·intro w
  have st:∀a b,(a,b)∈es++D->Way es' (f a) (f b):=λa b m=>by
   rcases Ua.mp m with m|m
   ·obtain⟨e',he',s⟩:=h1 _ m;exact s.way he'
   ·rw[(g a b).mpr (.fwd (.refl _) m)];exact .refl _
  induction w with
  |refl=>exact .refl _
  |fwd _ m ih=>exact ih.trans (st _ _ m)
  |bwd _ m ih=>exact ih.trans (st _ _ m).symm
theorem l8.nil:l8 [] id:=λx y=>⟨λe=>by cases e;exact .refl _,λw=>w.const id λe he=>by simp at he⟩
def jg(a b x:Int):Int:=if x=b then a else x
theorem l8.one(a b:Int):l8 [(a,b)] (jg a b):=λx y=>by
 have ab:Way [(a,b)] a b:=.fwd (.refl _) (by simp);constructor
 ·unfold jg
  intro e;split at e<;>split at e
  ·rename_i h1 h2;rw[h1,h2];exact .refl _
  ·rename_i h1 h2;rw[h1,<-e];exact ab.symm
  ·rename_i h1 h2;rw[h2,e];exact ab
  ·rw[e];exact .refl _
 ·exact λw=>w.const (jg a b) λe he=>by
   rw[Ti]at he;subst he;unfold jg;simp
theorem l8.comp{a b c d:Int}(g:l8 D f)(s:tR (c,d) (f a) (f b)):l8 ((a,b)::D) λx=>jg c d (f x):=λx y=>by
 rw[l8.one c d (f x) (f y),BE (es:=[(a,b)]) (es':=[(c,d)]) g (λe he=>⟨_,Ti.mpr rfl,by rw[Ti]at he;subst he;exact s⟩) (λe he=>⟨_,Ti.mpr rfl,by rw[Ti]at he;subst he;exact s⟩)];exact Iff.rfl
theorem uY:u∈others ts t↔u∈ts/\u.1≠t.1:=by
 unfold others;rw[Uh];simp
theorem pU(h:(ts.map (·.1)).Nodup)(t:T3):((others ts t).map (·.1)).Nodup:=h.sublist (List.filter_sublist.map _)
theorem rj{n:Nat}(h:ts.length<=n):(others ts t).length<=n:=Tt (List.length_filter_le ..) h
theorem DX(t:T3):tR (cu (turnT t)) t.2.1 t.2.2:=by
 unfold tR cu turnT;dsimp only;rw[UJ,UJ]
 split<;>split<;>omega
def iI(g:Int->Int)(t:T3):T3:=(t.1,g t.2.1,g t.2.2)
theorem Jv:jU (aB t)=true:=rfl
theorem nW{p q:Int}(h:ts.length<=14)(hn:(ts.map (·.1)).Nodup)(ht:t∈ts):fm [aQ p q ts,.int t.1]=.ok (true,.rl ((others ts t).map aB)):=by
 have e1:=wV (p:=p) (q:=q) hn ht;unfold fm fP;have hc:ts.length<=100000:=by omega
 unfold aQ at *;simp only[EV,jP,e1,bT jK,eB,iD,length_map,hc];rw[jM aB aB (λu=>!decide (u.1=t.1)) ts (λu hu=>by
  have i0:iF [] (aB u) (.int 0)=some (.int u.1):=rfl;simp only[EV,bx,i0,Jv]
  by_cases c:u.1=t.1<;>simp[c])]
 rfl
theorem BF{p q:Int}(h:ts.length<=14)(hn:(ts.map (·.1)).Nodup)(ht:t∈ts):eG [aQ p q ts,.int t.1]=.ok (true,aQ (if q<p then q else p) (if q>p then q else p) (cG ((others ts t).map turnT))):=by
 have e1:=nW (p:=p) (q:=q) h hn ht;have e2:=order_eq (p:=p) (q:=q) (us:=others ts t) (Tt (rj h) (by decide));unfold eG di;unfold aQ at e1 |-;simp only[EV,jc,fW,e1,bT kB,e2];rfl
theorem MX{a b x:Int}:kT [] (.dc [Sum.inl b] [.int a]) (.inl x)=some (if x=b then some (.int a) else none):=by
 show some (bN [((Sum.inl b:Key),Val.int a)] (.inl x))=_;unfold bN
 by_cases c:x=b
 ·subst c;simp
 ·have c':¬ b=x:=λz=>c z.symm;simp[c,c']
theorem EJ{a b x:Int}:(if x=b then some (Val.int a) else none).getD (.int x)=.int (jg a b x):=by
 unfold jg;split<;>rfl
theorem EK:zM [] (.dc ks vs)=some ():=rfl
theorem Jw:iF [] (tO e) (.int 0)=some (.int e.1):=rfl
theorem Jx:iF [] (tO e) (.int 1)=some (.int e.2):=rfl
theorem BG{p q:Int}(h:ts.length<=14)(hn:(ts.map (·.1)).Nodup)(ht:t∈ts):kF [aQ p q ts,.int t.1]=.ok (true,aQ (turnT (0,jg t.2.1 t.2.2 p,jg t.2.1 t.2.2 q)).2.1 (turnT (0,jg t.2.1 t.2.2 p,jg t.2.1 t.2.2 q)).2.2 (cG (((others ts t).map (iI (jg t.2.1 t.2.2))).map turnT))):=by
 have e1:=nW (p:=p) (q:=q) h hn ht;have e0:=wV (p:=p) (q:=q) hn ht;have e2:=order_eq (p:=jg t.2.1 t.2.2 p) (q:=jg t.2.1 t.2.2 q) (us:=(others ts t).map (iI (jg t.2.1 t.2.2))) (by rw[S1];exact Tt (rj h) (by decide));have z2:2<=sizeLine:=by decide
 have z3:3<=sizeLine:=by decide
 have z0:0<=sizeLine:=by decide
 unfold kF iV;unfold aQ at e1 e0 |-;have ee:∀t:T3,(cu t).1=t.2.1/\(cu t).2=t.2.2:=λ_=>⟨rfl,rfl⟩;simp only[EV,lB,lC,e0,e1,Jw,Jx,ee,bT kB,bT jK,lP,EK,MX,EJ,eB,z0,z2]
 repeat rw[iE]
 refine bX aB (λr:Pr FV=>r=.ok (true,.tup [.tup [.int (turnT (0,jg t.2.1 t.2.2 p,jg t.2.1 t.2.2 q)).2.1,.int (turnT (0,jg t.2.1 t.2.2 p,jg t.2.1 t.2.2 q)).2.2],.rl ((cG (((others ts t).map (iI (jg t.2.1 t.2.2))).map turnT)).map aB)]))
  (λdone env=>∃m1 m2 a b c,env=[some (.sh,.tup [.tup [.int p,.int q],.rl (ts.map aB)]),some (.sh,.int t.1),some (m1,tO (cu t)),some (.nw,.dc [Sum.inl t.2.2] [.int t.2.1]),some (m2,.tup [.int (jg t.2.1 t.2.2 p),.int (jg t.2.1 t.2.2 q)]),some (.ow,.rl ((done.map (iI (jg t.2.1 t.2.2))).map aB)),a,b,c])
  ⟨_,_,none,none,none,rfl⟩ ?_ ?_
 ·rintro pre u post env hx ⟨m1,m2,a,b,c,rfl⟩
  have hpl:pre.length<14:=by have:=TR length hx;rw[Tv,TM]at this;have:=rj (t:=t) h;omega
  have z:((pre.map (iI (jg t.2.1 t.2.2))).map aB).length<sizeLine:=by rw[S1,S1];unfold sizeLine;omega
  have ea:((pre++[u]).map (iI (jg t.2.1 t.2.2))).map aB=(pre.map (iI (jg t.2.1 t.2.2))).map aB++[aB (iI (jg t.2.1 t.2.2) u)]:=by simp
  refine⟨_,?_,m1,m2,some (.sh,.int u.1),some (.sh,.int u.2.1),some (.sh,.int u.2.2),rfl⟩;simp only[EV,iz,lP,EK,MX,EJ,z3,z,ea];rfl
 ·rintro env ⟨m1,m2,a,b,c,rfl⟩;simp only[EV,iH,e2];rfl
theorem pV(g:Int->Int)(x y:Int):turnT (0,g (turnT (0,x,y)).2.1,g (turnT (0,x,y)).2.2)=turnT (0,g x,g y):=by
 by_cases c:y<x
 ·have e1:(turnT (0,x,y)).2.1=y:=S7 c;have e2:(turnT (0,x,y)).2.2=x:=S8 (by dsimp only;omega);rw[e1,e2];unfold turnT;dsimp only;rw[UJ,UJ];refine⟨rfl,?_,?_⟩<;>split<;>split<;>omega
 ·have e1:(turnT (0,x,y)).2.1=x:=S8 c
  have e2:(turnT (0,x,y)).2.2=y:=by
   show (if y>x then y else x)=y
   split<;>omega
  rw[e1,e2]
theorem tU:∀(l ts:List T3),u∈l.foldl others ts↔u∈ts/\∀v∈l,u.1≠v.1
 |[],ts=>by simp
 | v::l,ts=>by
  rw[foldl_cons,tU l,uY];simp[and_assoc]
def dU(f:Int->Int)(u:T3):Int->Int:=λx=>jg (turnT (0,f u.2.1,f u.2.2)).2.1 (turnT (0,f u.2.1,f u.2.2)).2.2 (f x)
theorem rm:∀{l l':List T3},wH l->wH l'->l.Perm l'->l=l'
 |[],_,_,_,h=>(nil_perm.mp h).symm
 |x::r,[],_,_,h=>absurd h.length_eq (by simp)
 | x::r,y::r',u,u',h=>by
  unfold wH at u u';rw[T4]at u u';have e:x=y:=by
   rcases Td.mp (h.mem_iff.mp S3) with e|m
   ·exact e
   ·rcases Td.mp (h.mem_iff.mpr S3) with e|m'
    ·exact e.symm
    ·have:=u.1 y m';have:=u'.1 x m;omega
  subst e;rw[rm u.2 u'.2 h.cons_inv]
theorem yK(h:l.Perm l')(hn:(l.map (·.1)).Nodup):cG l=cG l':=rm (iR l hn) (iR l' ((h.map _).nodup_iff.mp hn)) ((bS l).trans (h.trans (bS l').symm))
theorem BH(h:wH l):(l.map (·.1)).Nodup:=by
 unfold wH at h;rw[List.Nodup,UB];exact h.imp λh=>by omega
theorem uZ(h:wH l):cG l=l:=rm (iR l (BH h)) h (bS l)
theorem yL(h:t.2.1<=t.2.2):turnT t=t:=by
 obtain⟨a,b,c⟩:=t;unfold turnT;dsimp only at *
 congr 2<;>split<;>omega
theorem DY(g:Int->Int)(t:T3):turnT (iI g (turnT t))=turnT (iI g t):=by
 have:=pV g t.2.1 t.2.2;unfold turnT iI at *;dsimp only at *;rw[UJ]at this;rw[UJ];exact⟨rfl,this.2⟩
def dz(f:Int->Int)(Z:List T3):List T3:=cG ((Z.map (iI f)).map turnT)
theorem wX(f:Int->Int)(Z:List T3):((Z.map (iI f)).map turnT).map (·.1)=Z.map (·.1):=by rw[Tu,Tu];rfl
theorem wY(h:(Z.map (·.1)).Nodup):((dz f Z).map (·.1)).Nodup:=by
 unfold dz;rw[((bS _).map _).nodup_iff,wX];exact h
theorem nX:(dz f Z).length=Z.length:=by
 unfold dz;rw[(bS _).length_eq,S1,S1]
theorem tW(h:u∈Z):turnT (iI f u)∈dz f Z:=(bS _).mem_iff.mpr (TJ (TJ h))
theorem pW(hn:(Z.map (·.1)).Nodup)(e:w.1=u.1):cG (((others (dz f Z) w).map (iI g)).map turnT)=dz (λx=>g (f x)) (others Z u):=by
 have p1:(others (dz f Z) w).Perm (others ((Z.map (iI f)).map turnT) w):=(bS _).filter _;have e1:others ((Z.map (iI f)).map turnT) w=((others Z u).map (iI f)).map turnT:=by
  unfold others;rw[List.filter_map,List.filter_map]
  congr 2
  refine Vi λt _=>?_;show (!decide (t.1=w.1)) = !decide (t.1=u.1);rw[e]
 have e2:((((others Z u).map (iI f)).map turnT).map (iI g)).map turnT=((others Z u).map (iI λx=>g (f x))).map turnT:=by rw[Tu,Tu,Tu,Tu];refine TQ λt _=>?_;exact DY g (iI f t)
 have p2:(((others (dz f Z) w).map (iI g)).map turnT).Perm (((others Z u).map (iI λx=>g (f x))).map turnT):=by rw[<-e2,<-e1];exact(p1.map _).map _
 refine yK p2 ((p2.map _).nodup_iff.mpr ?_);rw[wX];exact pU hn u
theorem wZ(Z:List T3):Z.map (iI id)=Z:=(TQ λt _=>rfl).trans (Vh _)
theorem rq:∀(l ts:List T3),(ts.map (·.1)).Nodup->((l.foldl others ts).map (·.1)).Nodup
 |[],_,h=>h
 |u::l,ts,h=>rq l _ (pU h u)
theorem nY:∀(l ts:List T3),(l.foldl others ts).length<=ts.length
 |[],_=>S4 _
 |u::l,ts=>Tt (nY l _) (rj (S4 _))
theorem tX(hx:us=pre++u::post)(hu:∀u∈us,u∈ts)(JN:(us.map (·.1)).Nodup):u∈pre.foldl others ts:=by
 refine(tU _ _).mpr ⟨hu u (by rw[hx];simp),λv hv e=>?_⟩;rw[hx,TN,S5,Ug] at JN;exact JN.2.2 _ (TJ hv) _ S3 e.symm
theorem rA{p q:Int}{ts us:List T3}(h:ts.length<=14)(hn:(ts.map (·.1)).Nodup)(hu:∀u∈us,u∈ts)(JN:(us.map (·.1)).Nodup):cS [aQ p q ts,.rl (us.map nameV)]=.ok (true,aQ (turnT (0,us.foldl dU id p,us.foldl dU id q)).2.1 (turnT (0,us.foldl dU id p,us.foldl dU id q)).2.2 (dz (us.foldl dU id) (us.foldl others ts))):=by
 have e0:=pT (p:=p) (q:=q) (us:=ts) (Tt h (by decide));unfold cS dj;unfold aQ at e0 |-;simp only[EV,je,e0,bT kB,bT jK,eB]
 repeat rw[iE]
 refine bX nameV (λr:Pr FV=>r=.ok (true,.tup [.tup [.int (turnT (0,us.foldl dU id p,us.foldl dU id q)).2.1,.int (turnT (0,us.foldl dU id p,us.foldl dU id q)).2.2],.rl ((dz (us.foldl dU id) (us.foldl others ts)).map aB)]))
  (λdone env=>∃a,env=[some (.sh,.tup [.tup [.int p,.int q],.rl (ts.map aB)]),some (.sh,.rl (us.map nameV)),some (.nw,aQ (turnT (0,done.foldl dU id p,done.foldl dU id q)).2.1 (turnT (0,done.foldl dU id p,done.foldl dU id q)).2.2 (dz (done.foldl dU id) (done.foldl others ts))),a])
  ⟨none,by unfold dz;rw[show ([]:List T3).foldl dU id=id from rfl,show ([]:List T3).foldl others ts=ts from rfl,wZ];rfl⟩ ?_ ?_
 ·rintro pre u post env hx ⟨a,rfl⟩;have Pn:=tX hx hu JN;have hnz:=rq pre ts hn;have Sq:=nY pre ts;simp only[foldl_append,foldl_cons,List.foldl_nil];generalize pre.foldl dU id=f at *;generalize pre.foldl others ts=Z at *;have e1:=BG (p:=(turnT (0,f p,f q)).2.1) (q:=(turnT (0,f p,f q)).2.2) (by rw[nX];omega) (wY (f:=f) hnz) (tW (f:=f) Pn);rw[pV (jg (turnT (iI f u)).2.1 (turnT (iI f u)).2.2),pW (u:=u) (w:=turnT (iI f u)) hnz rfl,show (turnT (iI f u)).1=u.1 from rfl]at e1;refine⟨_,?_,some (.sh,nameV u),rfl⟩;simp only[EV,bx,jR,nameV,e1];rfl
 ·rintro env ⟨a,rfl⟩;simp only[EV,bR];rfl
theorem u5{p q:Int}{ts us:List T3}(hpq:p<=q)(h:ts.length<=14)(hn:(ts.map (·.1)).Nodup)(hu:∀u∈us,u∈ts)(JN:(us.map (·.1)).Nodup):fq [aQ p q ts,.rl (us.map nameV)]=.ok (true,aQ p q (dz id (us.foldl others ts))):=by
 have e0:=pT (p:=p) (q:=q) (us:=ts) (Tt h (by decide));have m1:(if q<p then q else p)=p:=S8 (by omega);have m2:(if q>p then q else p)=q:=by split<;>omega
 rw[m1,m2]at e0;unfold fq fQ;unfold aQ at e0 |-;simp only[EV,jQ,e0,bT kB,bT jK,eB]
 repeat rw[iE]
 refine bX nameV (λr:Pr FV=>r=.ok (true,.tup [.tup [.int p,.int q],.rl ((dz id (us.foldl others ts)).map aB)]))
  (λdone env=>∃a,env=[some (.sh,.tup [.tup [.int p,.int q],.rl (ts.map aB)]),some (.sh,.rl (us.map nameV)),some (.nw,aQ p q (dz id (done.foldl others ts))),a])
  ⟨none,by unfold dz;rw[show ([]:List T3).foldl others ts=ts from rfl,wZ];rfl⟩ ?_ ?_
 ·rintro pre u post env hx ⟨a,rfl⟩;have Pn:=tX hx hu JN;have hnz:=rq pre ts hn;have Sq:=nY pre ts;simp only[foldl_append,foldl_cons,List.foldl_nil];generalize pre.foldl others ts=Z at *;have e1:=BF (p:=p) (q:=q) (by rw[nX];omega) (wY (f:=id) hnz) (tW (f:=id) Pn);have es:=pW (f:=id) (g:=id) (u:=u) (w:=turnT (iI id u)) hnz rfl;rw[wZ]at es;rw[m1,m2,es,show (turnT (iI id u)).1=u.1 from rfl]at e1;refine⟨_,?_,some (.sh,nameV u),rfl⟩;simp only[EV,bx,jd,nameV,e1];rfl
 ·rintro env ⟨a,rfl⟩;simp only[EV,bR];rfl
def aY(ts us:List T3):List T3:=ts.filter λt=>!decide (t.1∈us.map (·.1))
theorem pX:∀(us ts:List T3),us.foldl others ts=aY ts us
 | [],ts=>by
  unfold aY;rw[List.filter_eq_self.mpr];rfl;intro t _;simp
 | u::us,ts=>by
  rw[foldl_cons,pX us];unfold aY others;rw[List.filter_filter];refine Vi λt _=>?_;simp only[map_cons,mem_cons]
  by_cases a:t.1=u.1<;>by_cases b:t.1∈us.map (·.1)<;>simp[a,b]
theorem yM(hup:wH ts)(ho:∀t∈ts,t.2.1<=t.2.2):dz id (aY ts us)=aY ts us:=by
 have hm:∀t∈aY ts us,t∈ts:=λt ht=>(Uh.mp ht).1;unfold dz;rw[wZ,show (aY ts us).map turnT=aY ts us from(TQ (g:=id) λt ht=>yL (ho t (hm t ht))).trans (Vh _)];refine uZ ?_;unfold wH at hup |-;exact hup.filter _
structure MY (f:Int->Int):Prop where
 le:∀x,f x<=x
 idem:∀x,f (f x)=f x
theorem yN(a b:Int):((turnT (0,a,b)).2.1=a\/(turnT (0,a,b)).2.1=b)/\(turnT (0,a,b)).2.1<=(turnT (0,a,b)).2.2:=by
 unfold turnT;dsimp only;constructor<;>split<;>first|omega|(split<;>omega)
theorem MY.step(h:MY f)(u:T3):MY (dU f u):=by
 obtain⟨hc,hle⟩:=yN (f u.2.1) (f u.2.2);have fc:f (turnT (0,f u.2.1,f u.2.2)).2.1=(turnT (0,f u.2.1,f u.2.2)).2.1:=by
  rcases hc with e|e<;>rw[e]<;>exact h.idem _
 refine⟨λx=>?_,λx=>?_⟩
 ·have:=h.le x
  unfold dU jg
  split<;>omega
 ·unfold dU
  generalize (turnT (0,f u.2.1,f u.2.2)).2.1=c at *;generalize (turnT (0,f u.2.1,f u.2.2)).2.2=d at *
  by_cases e:f x=d
  ·have:jg c d (f x)=c:=by unfold jg;rw[S7 e]
   rw[this,fc];unfold jg;split<;>rfl
  ·have:jg c d (f x)=f x:=by unfold jg;rw[S8 e]
   rw[this,h.idem,this]
theorem xg:∀(us:List T3) (f:Int->Int) (D:List (Int×Int)),MY f->l8 D f->MY (us.foldl dU f)/\∃D',l8 D' (us.foldl dU f)/\∀e,e∈D'↔e∈D\/e∈us.map cu
 |[],f,D,h,g=>⟨h,D,g,λe=>by simp⟩
 | u::us,f,D,h,g=>by
  have sw:tR ((turnT (0,f u.2.1,f u.2.2)).2.1,(turnT (0,f u.2.1,f u.2.2)).2.2) (f u.2.1) (f u.2.2):=DX (0,f u.2.1,f u.2.2);obtain⟨h1,D',h2,h3⟩:=xg us (dU f u) (cu u::D) (h.step u) (g.comp sw);refine⟨h1,D',h2,λe=>?_⟩;rw[h3,Td,S5,Td];constructor
  ·rintro((h|h)|h)
   ·exact .inr (.inl h)
   ·exact .inl h
   ·exact .inr (.inr h)
  ·rintro(h|h|h)
   ·exact .inl (.inr h)
   ·exact .inl (.inl h)
   ·exact .inr h
theorem DZ{ts us:List T3}(hn:(ts.map (·.1)).Nodup)(hu:∀u∈us,u∈ts){p q:Int}:Way ((ts.filter λt=>decide (t.1∈us.map (·.1))).map cu) p q↔Way (us.map cu) p q:=by
 constructor<;>refine λk=>k.mono λe he=>?_
 ·obtain⟨t,ht,rfl⟩:=T8.mp he;obtain⟨h1,h2⟩:=Uh.mp ht;obtain⟨u,h3,h4⟩:=T8.mp (Tj h2);rw[<-qI hn u (hu u h3) t h1 h4];exact TJ h3
 ·obtain⟨u,h3,rfl⟩:=T8.mp he;exact TJ (Uh.mpr ⟨hu u h3,decide_eq_true (TJ h3)⟩)
structure xh (K:List Int) (φ:Int->Int) (at':Int->Int):Prop where
 yQ:∀x∈K,at' x∈K
 same:∀x∈K,φ (at' x) = φ x
 low:∀x∈K,∀y∈K,φ y = φ x->at' x<=y
theorem yO{K:List Int}{es:List (Int×Int)}{φ at':Int->Int}{us:List T3}(wW:t6 K es φ)(hw:∀x y,Way es x y↔Way (us.map cu) x y)(hK:∀e∈us.map cu,e.1∈K/\e.2∈K)(ls:xh K φ at'){x:Int}(hx:x∈K):us.foldl dU id x=at' x:=by
 obtain⟨low,D,gl,hD⟩:=xg us id [] ⟨λx=>Int.le_refl x,λ_=>rfl⟩ l8.nil;have hD':∀a b,Way D a b↔Way es a b:=λa b=>by
  rw[hw];constructor<;>refine λk=>k.mono λe he=>?_
  ·rcases(hD e).mp he with h|h
   ·simp at h
   ·exact h
  ·exact(hD e).mpr (.inr he)
 generalize us.foldl dU id=F at *;have Ss:∀a b,Way (us.map cu) a b->a∈K->b∈K:=λa b w=>by
  induction w with
  |refl=>exact id
  |fwd _ m ih=>exact λh=>(hK _ m).2
  |bwd _ m ih=>exact λh=>(hK _ m).1
 have w1:Way es x (F x):=(hD' _ _).mp ((gl _ _).mp (low.idem x).symm);have k1:F x∈K:=Ss _ _ ((hw _ _).mp w1) hx;have a1:=ls.yQ x hx;have l1:at' x<=F x:=ls.low x hx _ k1 ((wW.iff k1 hx).mpr w1.symm);have w2:Way es (at' x) x:=(wW.iff a1 hx).mp (ls.same x hx);have e2:F (at' x)=F x:=(gl _ _).mpr ((hD' _ _).mpr w2);have:=low.le (at' x);omega
end K15
end
section
open PySem L2 Hv
namespace K15
theorem yP{α:Type}(us:List α)(k:Int)(h:0<=k):bU us none (some k)++bU us (some k) none=us:=by
 obtain⟨n,rfl⟩:=UQ h;unfold bU;rw[HT.vd,HT.vd,HT.rP,HT.rP,List.drop_zero,Nat.sub_zero];have e:(us.drop (min n us.length)).take (us.length-min n us.length)=us.drop (min n us.length):=List.take_of_length_le (by rw[Vm];omega);rw[e,List.take_append_drop]
structure tY (ts us:List T3):Prop where
 sub:∀u∈us,u∈ts
 nd:(us.map (·.1)).Nodup
 len:us.length<=ts.length
theorem D0{p q:Int}(h:ts.length<=14)(hn:(ts.map (·.1)).Nodup)(cell:Int):∃f us,ja [aQ p q ts,.int cell]=.ok (f,.rl (us.map nameV))/\tY ts us:=by
 have m1:∀x:Int,eT x 48271=true:=λx=>by unfold eT;simp
 unfold ja gI aQ;simp only[EV,bT jK,eX (show decide ((0:Int)<2147483647)=true by decide),eB,show 0<=sizeLine by decide]
 repeat rw[iE]
 refine bX aB (λr:Pr FV=>∃(f:Bool) (us:List T3),r=.ok (f,.rl (us.map nameV))/\tY ts us)
  (λdone env=>∃(nh:Int) (us:List T3) (m:Mk) (a b:Option (Mk×Val)),env=[some (.sh,.tup [.tup [.int p,.int q],.rl (ts.map aB)]),some (.sh,.int cell),some (m,.rl (us.map nameV)),some (.sh,.int nh),a,b]/\tY done us/\pD m=true)
  ⟨_,[],.nw,none,none,rfl,⟨λ_ h=>by simp at h,by simp,S4 _⟩,rfl⟩ ?_ ?_
 ·rintro pre t post env hx ⟨nh,us,m,a,b,rfl,ok,hm⟩
  have hp:pre.length<14:=by have:=TR length hx;rw[Tv,TM]at this;omega
  have ht:t.1∉pre.map (·.1):=by rw[hx,TN,S5,Ug]at hn;exact λh=>hn.2.2 _ h _ S3 rfl
  have ok':tY (pre++[t]) us:=⟨λu hu=>TU _ (ok.sub u hu),ok.nd,by rw[Tv];exact Tt ok.len (Nat.le_add_right ..)⟩;have hl:=ok.len;have i0:iF [] (aB t) (.int 0)=some (.int t.1):=rfl;generalize en:(nh*48271+7919)%2147483647=n'
  by_cases c:n'/64%2=0
  ·have hpos:decide (0<(us.length:Int)+1)=true:=by rw[decide_eq_true_eq];omega
   have b1:=Vt (n'/128) (show (us.length:Int)+1≠0 by omega);generalize ek:n'/128%((us.length:Int)+1)=k at *;have sp:=yP us k b1;have z1:(bU us none (some k)).length+1<=sizeLine:=by have:=TR length sp;rw[Tv]at this;unfold sizeLine;omega
   have z2:(bU us none (some k)).length+1+(bU us (some k) none).length<=sizeLine:=by have:=TR length sp;rw[Tv]at this;unfold sizeLine;omega
   have pm:((bU us none (some k)++[t])++bU us (some k) none).Perm (t::us):=by rw[List.append_assoc];refine Vn.trans (List.Perm.cons t ?_);show (bU us none (some k)++bU us (some k) none).Perm us;rw[sp]
   refine⟨[some (.sh,.tup [.tup [.int p,.int q],.rl (ts.map aB)]),some (.sh,.int cell),some (jH (bP (((bU us none (some k)++[t])++bU us (some k) none).map nameV)) (.rl (((bU us none (some k)++[t])++bU us (some k) none).map nameV)),.rl (((bU us none (some k)++[t])++bU us (some k) none).map nameV)),some (.sh,.int n'),some (.sh,aB t),some (.sh,.int k)],?_,n',(bU us none (some k)++[t])++bU us (some k) none,_,some (.sh,aB t),some (.sh,.int k),rfl,?_,AO⟩
   ·simp only[EV,bx,pH (m1 _),eX (show decide ((0:Int)<2147483647)=true by decide),eX (show decide ((0:Int)<2)=true by decide),lg (show kR 64=true by decide),lg (show kR 128=true by decide),en,c,decide_true,length_map,eX hpos,ek,ED,sY,i0,show 1<=sizeLine by decide,z1,z2,map_append,uX,length_append,nameV]
   ·refine⟨λu hu=>?_,?_,?_⟩
    ·rcases Td.mp (pm.mem_iff.mp hu) with h|h
     ·rw[h];simp
     ·exact TU _ (ok.sub u h)
    ·rw[(pm.map _).nodup_iff,S5,T5];refine⟨λh=>ht ?_,ok.nd⟩;obtain⟨u,hu,e⟩:=T8.mp h;exact T8.mpr ⟨u,ok.sub u hu,e⟩
    ·rw[pm.length_eq,Tv,TM];simp only[length_cons,length_nil];omega
  ·refine⟨_,?_,n',us,m,some (.sh,aB t),b,rfl,ok',hm⟩;simp only[EV,bx,pH (m1 _),eX (show decide ((0:Int)<2147483647)=true by decide),eX (show decide ((0:Int)<2)=true by decide),lg (show kR 64=true by decide),lg (show kR 128=true by decide),en,c,decide_false]
 ·rintro env ⟨nh,us,m,a,b,rfl,ok,hm⟩;exact⟨Ia m,us,by simp only[EV,hm],ok⟩
theorem pY{us:List T3}:us.map nameV=(us.map (·.1)).map .int:=by rw[Tu];rfl
theorem Jy{xs:List Int}{x:Int}:kT [] (jA xs g) (.inl x)=some (if x∈xs then some (g x) else none):=by
 unfold kT jA;dsimp only;rw[qS]
 congr 1
 unfold bN
 induction xs with
 |nil=>rfl
 |cons y r ih=>
  rw[S5,U9]
  by_cases e:y=x
  ·subst e;simp
  ·have e':¬ (Sum.inl y:Key)=Sum.inl x:=λz=>e (Sum.inl.inj z);have e2:¬ x=y:=λz=>e z.symm;simp only[e',decide_false];rw[ih];simp[e2]
theorem Jz{K K2:List Int}{φ g:Int->Int}(hn:K.Nodup)(hl:K.length<=1000)(h:∀x∈K,φ x∈K2):x8 [] (jA K λx=>.int (φ x)) (jA K2 λm=>.int (g m))=some (K.map λx=>(Sum.inl x,Val.int (g (φ x)))):=by
 unfold x8;show (if (K.map (Sum.inl:Int->Key)).length<=1000/\(K.map (Sum.inl:Int->Key)).Nodup then bf _ (K.map Sum.inl) else none)=_;rw[S7 ⟨by rw[S1];exact hl,by rw[List.Nodup,UB];exact hn.imp λh e=>h (Sum.inl.inj e)⟩];have key:∀x∈K,jF [] (jA K λx=>.int (φ x)) (jA K2 λm=>.int (g m)) (Sum.inl x)=some (Sum.inl x,Val.int (g (φ x))):=λx hx=>by
  unfold jF;simp only[Jy,hx,h x hx,↓reduceIte,bind_some,lP]
 have all:∀L:List Int,(∀x∈L,x∈K)->bf (jF [] (jA K λx=>.int (φ x)) (jA K2 λm=>.int (g m))) (L.map Sum.inl)=some (L.map λx=>(Sum.inl x,Val.int (g (φ x)))):=λL=>by
  induction L with
  |nil=>intro _;rfl
  |cons x r ih=>intro hL;rw[S5,bf,key x (hL x S3),ih λy hy=>hL y (S2 _ hy)];rfl
 exact all K λ_ h=>h
def lastOf(φ:Int->Int)(done:List Int):Int->Int:=done.foldl (λg y m=>if m = φ y then y else g m) λ_=>0
theorem lF(φ:Int->Int)(done:List Int)(y m:Int):lastOf φ (done++[y]) m=if m = φ y then y else lastOf φ done m:=by
 unfold lastOf;rw[foldl_append];rfl
theorem mE:∀(rd:List Int),rd.Pairwise (· <= ·)->∀x∈rd,lastOf φ rd.reverse (φ x)∈rd /\ φ (lastOf φ rd.reverse (φ x)) = φ x/\∀y∈rd,φ y = φ x->lastOf φ rd.reverse (φ x)<=y
 |[],_,x,h=>nomatch h
 | z::r,hp,x,h=>by
  rw[T4]at hp;rw[List.reverse_cons,lF]
  by_cases e:φ x = φ z
  ·rw[S7 e]
   refine⟨S3,e.symm,λy hy _=>?_⟩
   rcases Td.mp hy with rfl|hy
   ·exact Int.le_refl _
   ·exact hp.1 y hy
  ·rw[S8 e]
   have hx:x∈r:=by
    rcases Td.mp h with rfl|h
    ·exact absurd rfl e
    ·exact h
   obtain⟨a,b,c⟩:=mE r hp.2 x hx;refine⟨S2 _ a,b,λy hy ey=>?_⟩
   rcases Td.mp hy with rfl|hy
   ·exact absurd ey.symm e
   ·exact c y hy ey
theorem BI{p q:Int}(h:ts.length<=14):kU [] (jA (eN p q ts) g)=some (sortI (eN p q ts)).reverse:=by
 unfold kU;show (o7 ((eN p q ts).map Sum.inl)).bind _=_;have im:∀ks:List Int,o7 (ks.map Sum.inl)=some ks:=λks=>by
  induction ks with
  |nil=>rfl
  |cons x r ih=>unfold o7 at ih |-;rw[S5,bf,ih];rfl
 rw[im];have:=qZ (p:=p) (q:=q) h;show (if (eN p q ts).length<64 then some (sortI (eN p q ts)).reverse else none)=_;rw[S7 (by omega)]
theorem BJ{p q:Int}{row:List Int}(h:ts.length<=14):∃f φ at',gM [aQ p q ts,.rl (row.map .int)]=.ok (f,jA (eN p q ts) λx=>.int (at' x))/\t6 (eN p q ts) ((ts.filter λt=>decide (t.1∈row)).map cu) φ /\ xh (eN p q ts) φ at':=by
 obtain⟨f,φ,e1,wW⟩:=BD (p:=p) (q:=q) (row:=row) h;have hK:=qZ (p:=p) (q:=q) h;have hnd:(eN p q ts).Nodup:=jL (nV p q ts) [] Vu;have ho:(sortI (eN p q ts)).Pairwise (· <= ·):=PySem.W.sortI_rises _;have hm:∀x,x∈sortI (eN p q ts)↔x∈eN p q ts:=λx=>(Um _).mem_iff;have e2:=BI (p:=p) (q:=q) (g:=λx=>Val.int (φ x)) h;have ls:xh (eN p q ts) φ λx=>lastOf φ (sortI (eN p q ts)).reverse (φ x):=by
  refine⟨λx hx=>?_,λx hx=>?_,λx hx y hy e=>?_⟩
  ·exact(hm _).mp (mE _ ho x ((hm x).mpr hx)).1
  ·exact(mE _ ho x ((hm x).mpr hx)).2.1
  ·exact(mE _ ho x ((hm x).mpr hx)).2.2 y ((hm y).mpr hy) e
 refine⟨true,φ,_,?_,wW,ls⟩;have hz:∀ks:List Int,ks.length<=60->(ks.map (Sum.inl:Int->Key)).length<sizeLine:=λks h=>by rw[S1];unfold sizeLine;omega
 have hsl:(sortI (eN p q ts)).reverse.length<=30:=by rw[Vb,(Um _).length_eq];exact hK
 have hsm:∀x∈(sortI (eN p q ts)).reverse,x∈eN p q ts:=λx hx=>(hm x).mp (List.mem_reverse.mp hx);have hall:∀x∈eN p q ts,φ x∈fF [] ((sortI (eN p q ts)).reverse.map φ):=λx hx=>by
  rw[nM];exact .inr (TJ (List.mem_reverse.mpr ((hm x).mpr hx)))
 have e3:=Jz (K:=eN p q ts) (φ:=φ) (g:=lastOf φ (sortI (eN p q ts)).reverse) hnd (by omega) hall;generalize (sortI (eN p q ts)).reverse=S at *;unfold gM fM;simp only[EV,jO,e1,e2,eB]
 repeat rw[iE]
 refine bX Val.int (λr:Pr FV=>r=.ok (true,jA (eN p q ts) λx=>.int (lastOf φ S (φ x))))
  (λdone env=>∃m a,pD m=true/\env=[some (.sh,aQ p q ts),some (.sh,.rl (row.map .int)),some (m,jA (eN p q ts) λx=>.int (φ x)),some (.ow,jA (fF [] (done.map φ)) λm=>.int (lastOf φ done m)),a])
  ⟨_,none,AO,rfl⟩ ?_ ?_
 ·rintro pre x post env hx ⟨m,a,Iv,rfl⟩
  have QI:x∈eN p q ts:=hsm x (by rw[hx];simp);have hpl:(fF [] (pre.map φ)).length<=60:=by have:=kJ (pre.map φ) [];have:=TR length hx;rw[Tv,TM]at this;simp only[length_nil,length_map] at *;omega
  refine⟨_,?_,m,some (.sh,.int x),Iv,rfl⟩;rw[TN,S5,UC,lE]
  by_cases c:φ x∈fF [] (pre.map φ)
  ·rw[mY,S7 c]
   simp only[EV,Iv,bx,iy QI,lP,hz _ hpl,qT c];rw[dQ (g:=ly (λm=>Val.int (lastOf φ pre m)) (φ x) (.int x)) (g':=λm=>Val.int (lastOf φ (pre++[x]) m))];intro y _;rw[lF];unfold ly
   split<;>rfl
  ·rw[mY,S8 c]
   simp only[EV,Iv,bx,iy QI,lP,hz _ hpl,wG c];rw[dQ (g:=ly (λm=>Val.int (lastOf φ pre m)) (φ x) (.int x)) (g':=λm=>Val.int (lastOf φ (pre++[x]) m))];intro y _;rw[lF];unfold ly
   split<;>rfl
 ·rintro env ⟨m,a,Iv,rfl⟩
  have im:∀L:List Int,bP ((L.map λx=>((Sum.inl x:Key),Val.int (lastOf φ S (φ x)))).map (·.2))=true:=λL=>by
   induction L with
   |nil=>rfl
   |cons x r ih=>rw[S5,S5,bP,ih];rfl
  simp only[EV,Iv,e3,im];unfold jA;rw[Tu,Tu];rfl
end K15
end
section
open PySem L2 Hv
namespace K15
theorem b7{sp:List Nat}(h:cA Ψ sp st env=.ok (.nx env')):dG Ψ sp (.cons st r) env=dG Ψ sp r env':=by
 rw[dG,h];rfl
theorem BK{sp:List Nat}{i:Nat}(hi:sp.contains i=true)(hn:new2 e=none)(h:aT Ψ e (bG env)=.ok (true,v)):cA Ψ sp (.asg (.one i) e) env=.ok (.nx (env.set i (some (.ow,v)))):=by
 rw[cA]
 try dsimp only
 rw[S7 hi,hn]
 try dsimp only
 rw[h];rfl
theorem jS{sp:List Nat}{i:Nat}{f:Bool}(hi:sp.contains i=false)(h:aT Ψ e (f7 env)=.ok (f,v)):cA Ψ sp (.asg (.one i) e) env=.ok (.nx (env.set i (some (.sh,v)))):=by
 rw[cA]
 try dsimp only
 unfold EF;rw[S8 (by rw[hi];exact SV),h];rfl
theorem xj{sp:List Nat}{f:Bool}(h:aT Ψ c (bG env)=.ok (f,.bl false)):cA Ψ sp (.iff c a .nil) env=.ok (.nx env):=by
 rw[cA,h,bR];show pb (pl (cI [] (.bl false))) _=_;rw[EB,iu,bR,S8 SV,dG]
theorem BL(l:List Int):bP (l.map Val.int)=true:=aW l
theorem D3(l:List Int):cop [] .ne (.rl (l.map .int)) (.rl (l.map .int))=some false:=by
 refine ne_self (uR Val.int PyData.int l λ_ _=>rfl) ?_;rw[PyData.canLay0];exact iw _ _ λt _=>by rw[PyData.canLay0]
theorem Su(t:Int):gk (.isin "int") [.int t]=.ok (true,.bl true):=lq (t:="int") rfl (by decide)
theorem Po(t:Int):gk (.isin "bool") [.int t]=.ok (true,.bl false):=uO (t:="int") rfl (by decide)
theorem QJ(vs:List Val):gk (.isin "tuple") [.tup vs]=.ok (true,.bl true):=lq (t:="tuple") rfl (by decide)
theorem Sv(vs:List Val):gk (.isin "list") [.rl vs]=.ok (true,.bl true):=lq (t:="list") rfl (by decide)
theorem pZ(xs:List Int)(hl:xs.length<=100000):cP [.tup (xs.map .int),.int xs.length]=.ok (true,.bl true):=by
 unfold cP eF;simp only[EV,QJ,length_map,decide_true,Mr,hl,iD];rw[dR Val.int (λ_=>Val.bl true) xs (λx hx=>by
  simp only[EV,bx,Su,Po])]
 simp only[EV,all_true]
theorem lT{p q:Int}(hl:ts.length<=14):cE [aQ p q ts,aQ p q ts]=.ok (true,.bl true):=by
 have w2:cP [.tup [.int p,.int q],.int 2]=.ok (true,.bl true):=pZ [p,q] (by simp);have w3:∀t:T3,cP [aB t,.int 3]=.ok (true,.bl true):=λt=>pZ (l3 t) (by simp[l3]);have QK:cop [] .eq (aQ p q ts) (aQ p q ts)=some true:=by
  have:=wJ p q ts;change (cop [] .eq (aQ p q ts) (aQ p q ts)).map _=_ at this;cases h:cop [] .eq (aQ p q ts) (aQ p q ts) with
  |none=>rw[h]at this;cases this
  |some b=>rw[h]at this;cases b<;>simp_all
 unfold cE cN;have hc:ts.length<=100000:=by omega
 have ed:aQ p q ts=.tup [.tup [.int p,.int q],.rl (ts.map aB)]:=rfl;rw[ed] at QK;rw[ed];simp only[EV,QJ,Sv,bT kB,bT jK,dm,w2,decide_true,eB,show ((2:Nat):Int)=2 from rfl,length_map,hc,iD];rw[dR aB (λ_=>Val.bl true) ts (λt ht=>by
  simp only[EV,bx,dm,w3])]
 simp only[EV,all_true,QK]
theorem p7:∀(i:Nat) (ms:List (Int×Int×List T3)) (x:Val),x∈bW i (ms.map qY)->∃(j:Nat) (c:Int×Int×List T3),c∈ms/\x=.tup [.int j,qY c]
 |_,[],x,h=>by simp[bW]at h
 | i,d::r,x,h=>by
  rw[S5,bW,Td]at h
  rcases h with h|h
  ·exact⟨i,d,S3,h⟩
  ·obtain⟨j,c,hc,e⟩:=p7 (i+1) r x h;exact⟨j,c,S2 _ hc,e⟩
theorem p8{α β:Type}{f:α -> β}:∀{l:List β} {us:List α},l.Perm (us.map f)->∃us':List α,us'.Perm us/\us'.map f=l
 | [],us,h=>by
  have:=nil_perm.mp h;exact⟨us,.refl _,this⟩
 | x::r,us,h=>by
  obtain⟨u,hu,rfl⟩:=T8.mp (h.mem_iff.mp S3);obtain⟨a,b,rfl⟩:=List.append_of_mem hu;have h2:(f u::r).Perm (f u::(a++b).map f):=by refine h.trans ?_;rw[TN,S5,TN];exact Vn
  obtain⟨us',p,e⟩:=p8 h2.cons_inv;exact⟨u::us',(p.cons u).trans Vn.symm,by rw[S5,e]⟩
theorem tZ(a b:Int):(turnT (0,a,b)).2.1=min a b/\(turnT (0,a,b)).2.2=max a b:=by
 unfold turnT;dsimp only;constructor<;>split<;>omega
def bI:eO:=match iW with
 |.cons (.for _ _ _ b) _=>b
 |_=>.nil
def MZ:IE:=.call 6 #[!2,.call 0 #[!0,.bin .add (¬5) (!1)]]
def M0:IE:=.tup #[.idx (!2) (¬0),.blt .list #[.idx (!2) (¬1)]]
def M1:IE:=.blt .list #[!3]
def M3:IE:=.comp ["_law_tie","_law_row"] [none,some 3] (.one 0) .seq #[.idx (!2) (¬1)] (.cmp .nin (.idx (!0) (¬0)) (!1)) (!0)
def QL:IE:=.call 8 #[!2,!3]
def M4:IE:=.call 1 #[.tup #[.idx (!7) (.idx (.idx (!2) (¬0)) (¬0)),.idx (!7) (.idx (.idx (!2) (¬0)) (¬1))],.comp ["_law_name","_law_one","_law_other","_law_at"] [none,none,none,some 7] (.tup [0,1,2]) .seq #[!6] .no (.tup #[!0,.idx (!3) (!1),.idx (!3) (!2)])]
def D4(i:Nat):IE:=.call 14 #[!4,.var i]
def D5(i:Nat):IE:=.call 16 #[!4,.var i]
def resT:IE:=.tup #[.idx (!2) (¬0),!6]
def M5:IE:=.or (.not (.call 18 #[!9,resT])) (.not (.call 18 #[!10,!8]))
def Nz(i:Nat):IS:=.expr (.met .append (.idx (.var i) (¬1)) #[.tup #[¬7,¬0,¬0]])
def M6:IE:=.or (.cmp .ne (!4) (!2)) (.cmp .ne (!5) (!3))
def M7:IE:=.rev (!3) .no
def M8:IE:=.not (.call 18 #[D4 11,resT])
def M9:IE:=.not (.call 18 #[D5 11,!8])
def fB:eO:=.cons (.ret (.cst (.bl false))) .nil
theorem Pp:bI=.cons (.asg (.one 3) MZ) #[.asg (.one 4) M0,.asg (.one 5) M1,.asg (.one 6) M3,.asg (.one 7) QL,.asg (.one 8) M4,.asg (.one 9) (D4 5),.asg (.one 10) (D5 5),.iff M5 fB .nil,Nz 9,Nz 10,.iff M6 fB .nil,.asg (.one 11) M7,.iff M8 fB .nil,.iff M9 fB .nil]:=rfl
theorem JA:iW=.cons (.for (.tup [1,2]) .enum #[.call 5 #[!0]] bI) #[.ret (.cst (.bl true))]:=rfl
abbrev Sl:=Option (Mk×Val)
theorem EL{sp:List Nat}{i:Nat}{p q:Int}(h:us.length<=14)(he:env[i]?=some (some (.ow,aQ p q us))):cA (aF kG) sp (Nz i) env=.ok (.nx (env.set i none)):=by
 unfold Nz;rw[Pb rfl];unfold DH
 try dsimp only
 rw[he];unfold aQ
 try dsimp only
 rw[jK]
 try dsimp only
 have z3:3<=sizeLine:=by decide
 have hz:(us.map aB).length<sizeLine:=by rw[S1];unfold sizeLine;omega
 simp only[EV,z3,hz];rfl
theorem EM{ns:List Int}{p q:Int}{ts us vs:List T3}{φ at':Int->Int}(ok:pS ns (p,q,ts))(r:tY ts us)(hp:vs.Perm us)(wW:t6 (eN p q ts) ((ts.filter λt=>decide (t.1∈us.map (·.1))).map cu) φ)(ls:xh (eN p q ts) φ at') :
  fq [aQ p q ts,.rl ((vs.map (·.1)).map .int)]=.ok (true,aQ p q (aY ts us))/\cS [aQ p q ts,.rl ((vs.map (·.1)).map .int)]=.ok (true,aQ (min (at' p) (at' q)) (max (at' p) (at' q)) (dz at' (aY ts us))):=by
 have hl:ts.length<=14:=ok.len;have hnd:=BH ok.up;have hv:∀v∈vs,v∈ts:=λv h=>r.sub v (hp.mem_iff.mp h);have QM:(vs.map (·.1)).Nodup:=(hp.map _).nodup_iff.mpr r.nd;have er:aY ts vs=aY ts us:=by unfold aY;refine Vi λt _=>?_;exact TR (!·) (decide_eq_decide.mpr (hp.map _).mem_iff)
 have e1:=u5 (p:=p) (q:=q) ok.ord hl hnd hv QM;have e2:=rA (p:=p) (q:=q) hl hnd hv QM;rw[pX,er]at e1 e2;rw[yM ok.up ok.ends]at e1;have hw:∀x y,Way ((ts.filter λt=>decide (t.1∈us.map (·.1))).map cu) x y↔Way (vs.map cu) x y:=λx y=>by
  rw[DZ hnd r.sub];constructor<;>exact λk=>k.mono λe he=>by
   obtain⟨t,ht,rfl⟩:=T8.mp he;exact TJ (by first|exact hp.mem_iff.mpr ht|exact hp.mem_iff.mp ht)
 have hK:∀e∈vs.map cu,e.1∈eN p q ts/\e.2∈eN p q ts:=λe he=>by
  obtain⟨t,ht,rfl⟩:=T8.mp he;exact⟨cO.mpr (.inr (.inr ⟨t,hv t ht,.inl rfl⟩)),cO.mpr (.inr (.inr ⟨t,hv t ht,.inr rfl⟩))⟩
 have hF:∀x∈eN p q ts,vs.foldl dU id x=at' x:=λx hx=>yO wW hw hK ls hx;have ea:dz (vs.foldl dU id) (aY ts us)=dz at' (aY ts us):=by unfold dz;refine TR (λl:List T3=>cG (l.map turnT)) (TQ λt ht=>?_);have ht:t∈ts:=(Uh.mp ht).1;unfold iI;rw[hF _ (cO.mpr (.inr (.inr ⟨t,ht,.inl rfl⟩))),hF _ (cO.mpr (.inr (.inr ⟨t,ht,.inr rfl⟩)))]
 rw[ea,hF p (cO.mpr (.inl rfl)),hF q (cO.mpr (.inr (.inl rfl))),(tZ _ _).1,(tZ _ _).2]at e2;rw[<-pY];exact⟨e1,e2⟩
theorem BN{ns:List Int}{j:Nat}{p q:Int}(ok:pS ns (p,q,ts)){c3 c4 c5 c6 c7 c8 c9 DS DT:Sl}:∃d3 d4 d5 d6 d7 d8 d9 MV MW:Sl,dG (aF kG) [9,10] bI [some (.sh,.rl (ns.map .int)),some (.sh,.int (j:Int)),some (.sh,aQ p q ts),c3,c4,c5,c6,c7,c8,c9,DS,DT] =
  .ok (.nx [some (.sh,.rl (ns.map .int)),some (.sh,.int (j:Int)),some (.sh,aQ p q ts),d3,d4,d5,d6,d7,d8,d9,MV,MW]):=by
 have hl:ts.length<=14:=ok.len;have hnd:=BH ok.up;have ec:aX [.rl (ns.map .int),.int (5+(j:Int))]=.ok (true,.int (cellAt ns (5+j))):=by have:=kI ns (5+j);rw[show ((5+j:Nat):Int)=5+(j:Int) by omega]at this;exact this
 generalize cellAt ns (5+j)=cell at ec;obtain⟨f1,us,e1,r⟩:=D0 (p:=p) (q:=q) hl hnd cell;rw[pY]at e1;obtain⟨f2,φ,at',e2,wW,ls⟩:=BJ (p:=p) (q:=q) (row:=us.map (·.1)) hl;obtain⟨vs,pv,ev⟩:=p8 (f:=λt:T3=>t.1) ((List.reverse_perm _).trans (Um (us.map (·.1))));obtain⟨o1,t1⟩:=EM ok r (.refl _) wW ls;obtain⟨o2,t2⟩:=EM ok r pv wW ls;rw[ev]at o2 t2;have hrl:us.length<=14:=Tt r.len hl;have hR:(us.map (·.1)).length<64:=by rw[S1];omega
 have Sw:p∈eN p q ts:=cO.mpr (.inl rfl);have Sx:q∈eN p q ts:=cO.mpr (.inr (.inl rfl));have Pq:(aY ts us).length<=14:=Tt (List.length_filter_le ..) hl;have hal:(dz at' (aY ts us)).length<=14:=by rw[nX];exact Pq
 have hc:ts.length<=100000:=by omega
 have hc2:(aY ts us).length<=100000:=by omega
 have z2:2<=sizeLine:=by decide
 have z3:3<=sizeLine:=by decide
 have s1:=lT (p:=p) (q:=q) (ts:=aY ts us) Pq;have s2:=lT (p:=min (at' p) (at' q)) (q:=max (at' p) (at' q)) (ts:=dz at' (aY ts us)) hal;have ne1:=wJ p q ts;have ne2:=D3 (us.map (·.1));have hrest:∀t∈aY ts us,t.2.1∈eN p q ts/\t.2.2∈eN p q ts:=λt ht=>by
  have ht:t∈ts:=(Uh.mp ht).1;exact⟨cO.mpr (.inr (.inr ⟨t,ht,.inl rfl⟩)),cO.mpr (.inr (.inr ⟨t,ht,.inr rfl⟩))⟩
 have en:iB [.tup [.int (at' p),.int (at' q)],.rl (((aY ts us).map (iI at')).map aB)]=.ok (true,aQ (min (at' p) (at' q)) (max (at' p) (at' q)) (dz at' (aY ts us))):=BB (by rw[S1];omega);generalize Sy:us.map (·.1)=R at *;have Pu:ts.filter (λt=>!decide (t.1∈R))=aY ts us:=by unfold aY;rw[Sy]
 rw[Pp];rw[b7 (jS (f:=f1) (v:=.rl (R.map .int)) rfl (by unfold MZ;simp only[EV,Hv.f7,lD,ec,oB,e1]))];simp only[set_cons_succ,set_cons_zero];rw[b7 (jS (f:=bP (ts.map aB)) (v:=aQ p q ts) rfl (by unfold M0 aQ;simp only[EV,Hv.f7,bT kB,bT jK,z2]))];simp only[set_cons_succ,set_cons_zero];rw[b7 (jS (f:=true) (v:=.rl (R.map .int)) rfl (by unfold M1;simp only[EV,Hv.f7,BL]))];simp only[set_cons_succ,set_cons_zero];rw[b7 (jS (f:=true) (v:=.rl ((aY ts us).map aB)) rfl (by
   unfold M3 aQ;simp only[EV,Hv.f7,bT jK,eB,iD,length_map,hc];rw[jM aB aB (λt=>!decide (t.1∈R)) ts (λt ht=>by
    have i0:iF [] (aB t) (.int 0)=some (.int t.1):=rfl;have it:jU (aB t)=true:=rfl;simp only[EV,bx,i0,it,Je]
    by_cases c:t.1∈R<;>simp[c]),Pu]
   rfl))]
 simp only[set_cons_succ,set_cons_zero];rw[b7 (jS (f:=f2) (v:=jA (eN p q ts) λx=>.int (at' x)) rfl (by unfold QL;simp only[EV,Hv.f7,nR,e2]))];simp only[set_cons_succ,set_cons_zero];rw[b7 (jS (f:=true) (v:=aQ (min (at' p) (at' q)) (max (at' p) (at' q)) (dz at' (aY ts us))) rfl (by
   unfold M4;rw[show aQ p q ts=.tup [.tup [.int p,.int q],.rl (ts.map aB)] from rfl];simp only[EV,Hv.f7,bT kB,bT jK,iy Sw,iy Sx,eB,iD,length_map,hc2,z2];rw[dR aB (λt=>aB (iI at' t)) (aY ts us) (λt ht=>by
    obtain⟨k1,k2⟩:=hrest t ht;simp only[EV,iz,iy k1,iy k2,z3];rfl)]
   rw[show (aY ts us).map (λt=>aB (iI at' t))=((aY ts us).map (iI at')).map aB by rw[Tu];rfl];simp only[EV,qW,en]))]
 simp only[set_cons_succ,set_cons_zero];rw[b7 (BK (v:=aQ p q (aY ts us)) rfl rfl (by unfold D4;simp only[EV,Hv.bG,jf,o1]))];simp only[set_cons_succ,set_cons_zero];rw[b7 (BK (v:=aQ (min (at' p) (at' q)) (max (at' p) (at' q)) (dz at' (aY ts us))) rfl rfl (by unfold D5;simp only[EV,Hv.bG,gP,t1]))];simp only[set_cons_succ,set_cons_zero];have SQ:∀x:Val,x=.tup [.tup [.int p,.int q],.rl ((aY ts us).map aB)]->x=aQ p q (aY ts us):=λ_ h=>h;have s1':cE [aQ p q (aY ts us),.tup [.tup [.int p,.int q],.rl ((aY ts us).map aB)]]=.ok (true,.bl true):=s1;rw[b7 (xj (f:=true) (by
   unfold M5 resT;rw[show aQ p q ts=.tup [.tup [.int p,.int q],.rl (ts.map aB)] from rfl];simp only[EV,Hv.bG,bT kB,z2,dw,s1',s2]))]
 rw[b7 (EL (i:=9) (us:=aY ts us) Pq rfl)];simp only[set_cons_succ,set_cons_zero];rw[b7 (EL (i:=10) (us:=dz at' (aY ts us)) hal rfl)];simp only[set_cons_succ,set_cons_zero];rw[b7 (xj (f:=true) (by unfold M6;simp only[EV,Hv.bG,ne1,ne2]))];rw[b7 (jS (f:=true) (v:=.rl ((sortI R).reverse.map .int)) rfl (by unfold M7;simp only[EV,Hv.f7,ints_map,hR]))];simp only[set_cons_succ,set_cons_zero];rw[b7 (xj (f:=true) (by
   unfold M8 D4 resT;rw[show aQ p q ts=.tup [.tup [.int p,.int q],.rl (ts.map aB)] from rfl]at o2 |-;simp only[EV,Hv.bG,bT kB,z2,jf,o2,dw,s1']))]
 rw[b7 (xj (f:=true) (by
   unfold M9 D5;simp only[EV,Hv.bG,gP,t2,dw,s2]))]
 rw[dG];exact⟨_,_,_,_,_,_,_,_,_,rfl⟩
theorem JB(ns:List Int)(hn:ns.length<=63):∃f,EI [.rl (ns.map .int)]=.ok (f,.bl true):=by
 obtain⟨f0,iC,e0,hv⟩:=DV ns;show ∃f,pb (dG (aF kG) (iS iW) iW [some (.sh,.rl (ns.map .int)),none,none,none,none,none,none,none,none,none,none,none]) _=_;rw[show iS iW=[9,10] from rfl,JA,dG,cA];have en:EF (aF kG) (.call 5 #[!0]) [some (.sh,.rl (ns.map .int)),none,none,none,none,none,none,none,none,none,none,none]=.ok (f0,.rl (iC.map qY)):=by unfold EF;simp only[EV,Hv.f7,oA,e0]
 rw[show DF (.call 5 #[!0]) (.tup [1,2]) .enum bI=none from rfl];dsimp only;rw[en,bR,EC,iu,bR]
 repeat rw[iE]
 refine AR (λr:Pr FV=>∃f:Bool,r=.ok (f,.bl true))
  (λdone env=>∃c1 c2 c3 c4 c5 c6 c7 c8 c9 DS DT:Sl,env=[some (.sh,.rl (ns.map .int)),c1,c2,c3,c4,c5,c6,c7,c8,c9,DS,DT])
  ⟨none,none,none,none,none,none,none,none,none,none,none,rfl⟩ ?_ ?_
 ·rintro pre x env hx hlen ⟨c1,c2,c3,c4,c5,c6,c7,c8,c9,DS,DT,rfl⟩;obtain⟨j,⟨p,q,ts⟩,hc,rfl⟩:=p7 _ _ _ hx;obtain⟨d3,d4,d5,d6,d7,d8,d9,MV,MW,e⟩:=BN (j:=j) (hv (p,q,ts) hc) (c3:=c3) (c4:=c4) (c5:=c5) (c6:=c6) (c7:=c7) (c8:=c8) (c9:=c9) (DS:=DS) (DT:=DT);refine⟨_,?_,some (.sh,.int (j:Int)),some (.sh,aQ p q ts),d3,d4,d5,d6,d7,d8,d9,MV,MW,rfl⟩;rw[AQ,iu,bR];simp only[set_cons_succ,set_cons_zero];exact e
 ·rintro env ⟨c1,c2,c3,c4,c5,c6,c7,c8,c9,DS,DT,rfl⟩;exact⟨true,rfl⟩
theorem true(ns:List Int)(hn:ns.length<=63):∃h',Bs [.rl (ns.map .int)] []=.ok (.bl true) h':=by
 obtain⟨f,e⟩:=JB ns hn;exact DR e
end K15
end
end
section
namespace PySem.W.Fast
theorem tw12870849326211624375:True:=trivial
theorem tw16008339803977783551:True:=trivial
theorem tw3552754920860015280:True:=trivial
theorem tw13666316504628614308:True:=trivial
theorem tw18287216736197650269:True:=trivial
theorem tw16314066908587624183:True:=trivial
theorem tw11152732234410698551:True:=trivial
theorem tw4668273613480156082:True:=trivial
theorem tw7730515752764533682:True:=trivial
theorem tw7804213210753394472:True:=trivial
theorem tw4342493495681365933:True:=trivial
theorem tw13153258006270282648:True:=trivial
theorem tw12656119077681467674:True:=trivial
theorem tw3392085558438503579:True:=trivial
theorem tw14809398653190111394:True:=trivial
theorem tw4831909335822737044:True:=trivial
theorem tw11291938020851270140:True:=trivial
theorem tw15867012586652339561:True:=trivial
theorem tw3907028716205674719:True:=trivial
theorem tw291006700755580297:True:=trivial
theorem tw10679221925064908906:True:=trivial
theorem tw9024497095267654890:True:=trivial
theorem tw18374490041593159558:True:=trivial
theorem tw14092746033940686293:True:=trivial
theorem tw6133534963973731998:True:=trivial
theorem tw9617976248065410774:True:=trivial
theorem tw16804912393320800763:True:=trivial
theorem tw14635115529539805407:True:=trivial
theorem tw13469910927357185861:True:=trivial
theorem tw4494092861257373884:True:=trivial
theorem tw15370993441293171508:True:=trivial
theorem tw7070193574703424317:True:=trivial
theorem tw16680898390123018521:True:=trivial
theorem tw430185924886051842:True:=trivial
theorem tw15749787363083166124:True:=trivial
theorem tw14248669761120082420:True:=trivial
theorem tw9323409572684217439:True:=trivial
theorem tw5908231960071579850:True:=trivial
theorem tw10453827716828998391:True:=trivial
theorem tw5708248753492756689:True:=trivial
theorem tw633028510073703633:True:=trivial
theorem tw10806996902295049837:True:=trivial
theorem tw4557592783296547362:True:=trivial
theorem tw14926593429773752132:True:=trivial
theorem tw5845028470716105809:True:=trivial
theorem tw9566508131408589824:True:=trivial
theorem tw6764487271250047516:True:=trivial
theorem tw9111439106863814320:True:=trivial
theorem tw486718504743000517:True:=trivial
theorem tw2921409739588629393:True:=trivial
theorem tw5607864426353404078:True:=trivial
theorem tw6655807806116191632:True:=trivial
theorem tw16616337697057351707:True:=trivial
theorem tw11177205104059212991:True:=trivial
theorem tw3661139492391483423:True:=trivial
theorem tw6463723263890090413:True:=trivial
theorem tw5687137223437050833:True:=trivial
theorem tw1954499906831168156:True:=trivial
theorem tw4310802327838492681:True:=trivial
theorem tw17206888259643139386:True:=trivial
theorem tw4597457094491721852:True:=trivial
theorem tw16682205585785385985:True:=trivial
theorem tw12862508456217931906:True:=trivial
theorem tw7203370225627230920:True:=trivial
theorem tw10449108293288719964:True:=trivial
theorem tw15589207261062769054:True:=trivial
theorem tw5685737169581622750:True:=trivial
end PySem.W.Fast
open PySem PySem.W PyProof.Rows
set_option maxRecDepth 100000 in
set_option maxHeartbeats 0 in
theorem PySem.Challenge.cw_linkorcut_k15_rows_taken_holds : PySem.Challenge.rw_linkorcut_k15_rows_taken.Holds := by
 w_on;o_law;k_head;(case hw=>w_witness2)
 k_fill
 refine Hv.walk (l:=PySem.Challenge.rw_linkorcut_k15_rows_taken) (k:=40) (x:="_law_script") rfl rfl ⟨rfl,by decide,by decide⟩ (λw h Y=>PySem.W.kIn_of Y) ?F
 case F=>
  intro w mg fa h KX G hmg;refine' K15.all_mk KX G hmg K15.true ?_ ?_ ?_ ?_ ?_ ?_ ?_ ?_ ?_ ?_ ?_ ?_ ?_ ?_ ?_ ?_ ?_ ?_ ?_ ?_ ?_ ?_ ?_ ?_ ?_ ?_ ?_ ?_ ?_ ?_ ?_ ?_ ?_ ?_ ?_ ?_ ?_ ?_ ?_ ?_ ?_
  all_goals try first|k_is|exact⟨_,L2.fun_mk (by k_is) (by k_is) (by k_is)⟩|(intro x hx;simp only[Hv.bltNames,List.mem_cons,List.not_mem_nil,or_false]at hx;rcases hx with rfl|rfl|rfl|rfl|rfl|rfl|rfl|rfl|rfl|rfl|rfl|rfl|rfl|rfl|rfl|rfl|rfl<;>k_is)
#print axioms PySem.Challenge.cw_linkorcut_k15_rows_taken_holds
end
