import PyProof.Rows.All
import Wide.All
import OpenK.AllK
import Wide.FinOn
import Lean
import PyProof.EqAt
import PyProof.EqKinds
import PyProof.TupleCall
import KE.KDictList
import KE.KDictLaws
import KE.KDictSum
import KE.KRevSl
import PyProof.DictWalks
import PySem.Challenge.RW_linkorcut_k31_free_rows_packed_whole
set_option Elab.async false
set_option compiler.extract_closed false
set_option linter.all false
set_option maxRecDepth 100000
set_option maxHeartbeats 4000000
set_option genSizeOf false
set_option backward.eqns.nonrecursive false
set_option backward.eqns.deepRecursiveSplit false
set_option bootstrap.genMatcherCode false
set_option hygiene false
local macro_rules
|`(def $n:declId $s:optDeclSig $v:declVal)=>`(noncomputable def $n:declId $s:optDeclSig $v:declVal)
|`(abbrev $n:declId $s:optDeclSig $v:declVal)=>`(noncomputable abbrev $n:declId $s:optDeclSig $v:declVal)
local macro_rules
|`(#[$a])=>`(.cons $a .nil)
|`(#[$a,$as,*])=>`(.cons $a #[$as,*])
local macro_rules
|`(!$n:num)=>`(.var $n)
local macro_rules
|`(¬$n:num)=>`(.cst (.int $n))
set_option hygiene true
open Bool(and_eq_true false_eq_true not_eq_true' or_eq_true)
open Int(not_lt)
open List(all_cons all_eq_true all_map any_map contains_iff_mem find?_cons length length_cons length_map length_nil lookup_cons map_append map_cons map_id map_nil mem_append mem_cons nil_append not_mem_nil of_mem_zip range' replicate set_cons_succ set_cons_zero size_toArray toArray)
open Nat(lt_trans mod_lt)
open Option(bind_some getD_none isSome_some map_some)
open PySem.W(cellsFrom_some codeIn emptyDict findCls findIn handedIn hasDictIn instObj kat_lt keepIn kitOne kitx_list lookIn makesIn methodObj plainGet plainOver readsIn specialIn takerIn typeIn)
def ZZ:=@PySem.wpAny_bind
def Z0:=@Bool.false_ne_true
def Z1:=@Option.bind_eq_some_iff
def Z2:=@List.getElem?_set_ne
def Z3:=@PySem.Heap.get?_push_of_some
def Z4:=@List.length_map
def Z5:=@List.getElem?_eq_some_iff
def Z6:=@PySem.wpAny_pure
def Z7:=@if_pos
def Z8:=@if_neg
def Z9:=@List.mem_cons_self
def aaa:=@Nat.le_refl
def aab:=@List.mem_cons_of_mem
def aac:=@List.map_cons
def aad:=@List.getElem?_set_self
def aae:=@List.size_toArray
def aaf:=@PySem.Heap.lt_size
def aag:=@List.getElem?_append_left
def aah:=@Nat.lt_of_lt_of_le
def aai:=@List.mem_singleton
def aaj:=@PySem.Heap.get?_push_size
def aak:=@List.length_append
def aal:=@List.length_cons
def aam:=@Nat.ne_of_lt
def aan:=@of_decide_eq_true
def aao:=@List.mem_cons
def aap:=@List.getElem?_eq_getElem
def aaq:=@List.mem_of_getElem?
def aar:=@List.prefix_refl
def aas:=@List.getElem?_map
def aat:=@Option.some.inj
def aau:=@List.getElem?_append_right
def aav:=@PySem.W.mg_of
def aaw:=@Option.map_eq_some_iff
def aax:=@Array.length_toList
def aay:=@Nat.le_trans
def aaz:=@List.mem_append_right
def aaA:=@List.nodup_append
def aaB:=@List.lookup_cons
def aaC:=@List.nodup_cons
def aaD:=@beq_eq_false_iff_ne
def aaE:=@List.map_map
def aaF:=@List.mem_append
def aaG:=@PySem.wpAny_newObj_type
def aaH:=@PySem.wpAny_Call_Name_kw
def aaI:=@PySem.W.sortI_perm
def aaJ:=@PyProof.Rows.callWith_type1
def aaK:=@List.mem_map
def aaL:=@List.mem_append_left
def aaM:=@Array.getElem?_eq_getElem
def aaN:=@List.pairwise_cons
def aaO:=@List.prefix_append
def aaP:=@Nat.lt_succ_self
def aaQ:=@List.mem_map_of_mem
def aaR:=@PySem.Heap.get?_update_self
def aaS:=@congrArg
def aaT:=@PySem.sizeLine_eq
def aaU:=@PySem.Calls.spliced_cons
def aaV:=@Nat.le_succ
def aaW:=@List.zip_cons_cons
def aaX:=@List.mem_filter
def aaY:=@List.map_append
def aaZ:=@PySem.Heap.SameBut.update
def aa0:=@Nat.lt_irrefl
def aa1:=@PySem.Heap.size_push
def aa2:=@List.append_nil
def aa3:=@PySem.wpAny_mono
def aa4:=@PySem.Obj.data_mapFields
def aa5:=@Int.eq_ofNat_of_zero_le
def aa6:=@PySem.wpAny_holding
def aa7:=@PySem.Calls.spliced_nil
def aa8:=@List.nodup_nil
def aa9:=@PySem.mem_of_lookup
def aba:=@List.map_congr_left
def abb:=@Nat.zero_le
def abc:=@List.length_set
def abd:=@Array.getElem?_toList
def abe:=@List.length_take
def abf:=@PyProof.Rows.callWith_builtin1
def abg:=@beq_self_eq_true
def abh:=@List.map_nil
def abi:=@PySem.wpAny_setState_of
def abj:=@PyProof.Rows.KeyOrd.kle_refl
def abk:=@PySem.W.kia_one
def abl:=@PyProof.Rows.F.plain_set_update_loop
def abm:=@Bool.and_eq_true
def abn:=@PySem.W.eq_sortI
def abo:=@True.intro
def abp:=@List.Perm.refl
def abq:=@List.pairwise_iff_getElem
def abr:=@List.getElem?_eq_none_iff
def abt:=@PySem.wpAny_passesOwn
def abu:=@beq_false_of_ne
def abv:=@Nat.le_of_lt
def abw:=@PySem.wpAny_truthy_bool
def abx:=@List.pairwise_map
def aby:=@PySem.Around.under_plainId
def abz:=@PySem.wpAny_call_entry
def abA:=@PySem.F.plainAttrs_list
def abB:=@List.eq_nil_of_length_eq_zero
def abC:=@PySem.Heap.get?_update_other
def abD:=@PySem.Calls.callWith_builtin
def abE:=@PySem.F.slot_dict_keys
def abF:=@PySem.codeAny_builtin
def abG:=@List.any_cons
def abH:=@Bool.true_and
def abI:=@PySem.Obj.isFreed_of_fields
def abJ:=@List.take_append_drop
def abK:=@Nat.lt_succ_of_lt
def abL:=@decide_eq_true_eq
def abM:=@Array.getElem?_eq_some_iff
def abN:=@PySem.wpAny_setField
def abO:=@Nat.ne_of_gt
def abP:=@List.getElem_map
def abQ:=@List.getElem?_zip_eq_some
def abR:=@List.drop_eq_getElem_cons
def abS:=@List.getElem_of_mem
def abT:=@List.length_erase_of_mem
def abU:=@List.prefix_iff_getElem?
def abV:=@Array.Perm.refl
def abW:=@PySem.W.KasT.kasWp_bind
def abX:=@List.find?_cons
def abY:=@PySem.W.callWith_K
def abZ:=@PySem.wpAny_callSpecial?_slot
def ab0:=@PySem.F.plainAttrs_dict
def ab1:=@List.filter_cons_of_pos
def ab2:=@List.filter_cons_of_neg
def ab3:=@PySem.codeAny_mono
def ab4:=@PyProof.Rows.KeyOrd.kle_of_klt
def ab5:=@PySem.fits_of_scanBound
def ab6:=@List.filter_eq_nil_iff
def ab7:=@PySem.F.slot_dict_get
def ab8:=@List.mem_iff_getElem?
def ab9:=@List.length_filter_le
def acd:=@Classical.choose_spec
def ace:=@beq_iff_eq
def acf:=@List.length_drop
def acg:=@PyProof.Rows.KeyOrd.kle_trans
def ach:=@List.ext_getElem
def aci:=@Option.bind_some
def acj:=@PySem.plainId_quiet
def ack:=@List.mem_iff_getElem
def acm:=@List.filterMap_cons
def acn:=@PySem.W.plainGet_of
def aco:=@PySem.W.callWith_K0
def acp:=@PySem.W.sortI_rises
def acq:=@List.filter_eq_self
def acs:=@of_decide_eq_false
def acu:=@List.filter_append
def acy:=@List.take_sublist
def acz:=@List.length_range
def acB:=@List.append_assoc
def acC:=@List.Pairwise.imp
def acF:=@List.getElem_mem
def acG:=@List.all_eq_true
def acH:=@List.cons_append
open PySem.W(Frag sortI nsIn fnOf isFn)
section
namespace L2
open PySem PySem.Spec PyProof.Rows
abbrev Key:=Sum Int Str
def p7:Key->Value->Bool
 |.inl k,v=>Value.isInt k v
 |.inr x,v=>Value.isStrOf x v
def S9(w:World):Key->Int
 |.inl k=>hashInt k
 |.inr x=>hashStr w x
theorem bM:∀{k:Key} {v:Value},p7 k v=true->(∃i t,k=Sum.inl i/\v=Value.int i t)\/(∃x t,k=Sum.inr x/\v=Value.str x t)
 | .inl i,v,h=>by
  obtain⟨t,e⟩:=Value.isInt_shape (k:=i) (v:=v) h;exact .inl ⟨i,t,rfl,e⟩
 | .inr x,v,h=>by
  obtain⟨t,e⟩:=Value.isStrOf_shape (x:=x) (v:=v) h;exact .inr ⟨x,t,rfl,e⟩
theorem By(i:Int)(t:Tok):p7 (.inl i) (.int i t)=true:=by simp[p7,Value.isInt]
theorem BA(x:Str)(t:Tok):p7 (.inr x) (.str x t)=true:=by simp[p7,Value.isStrOf]
theorem KQ(a b:Int):decide ((Sum.inl a:Key)=Sum.inl b)=(a==b):=by
 by_cases e:a=b
 ·subst e;simp
 ·have h:¬ (Sum.inl a:Key)=Sum.inl b:=λq=>e (Sum.inl.inj q);rw[decide_eq_false h];exact(aaD.mpr e).symm
theorem KR(a b:Str):decide ((Sum.inr a:Key)=Sum.inr b)=decide (a=b):=by
 by_cases e:a=b
 ·subst e;simp
 ·have h:¬ (Sum.inr a:Key)=Sum.inr b:=λq=>e (Sum.inr.inj q);rw[decide_eq_false h,decide_eq_false e]
theorem KS(a:Int)(b:Str):decide ((Sum.inl a:Key)=Sum.inr b)=false:=decide_eq_false (λq=>nomatch q)
theorem KU(a:Str)(b:Int):decide ((Sum.inr a:Key)=Sum.inl b)=false:=decide_eq_false (λq=>nomatch q)
def aP(prog:Program)(w:World):PySem.KeyKind prog w Key where
 is:=p7
 hash:=S9 w
 inj:=λv a b ha hb=>by
  rcases bM ha with ⟨i,t,rfl,rfl⟩|⟨x,t,rfl,rfl⟩
  ·rcases bM hb with ⟨j,u,rfl,e⟩|⟨y,u,rfl,e⟩
   ·injection e with e1 _;rw[e1]
   ·exact nomatch e
  ·rcases bM hb with ⟨j,u,rfl,e⟩|⟨y,u,rfl,e⟩
   ·exact nomatch e
   ·injection e with e1 _;rw[e1]
 byValue:=λk v h=>by
  rcases bM h with ⟨i,t,rfl,rfl⟩|⟨x,t,rfl,rfl⟩<;>rfl
 pyHash:=λhv h=>by
  rcases bM hv with ⟨i,t,rfl,rfl⟩|⟨x,t,rfl,rfl⟩
  ·exact wpAny_pyHash_int h
  ·exact wpAny_pyHash_str h
 eqBool:=λhu hv h=>by
  rcases bM hu with ⟨i,t,rfl,rfl⟩|⟨x,t,rfl,rfl⟩
  ·rcases bM hv with ⟨j,u,rfl,rfl⟩|⟨y,u,rfl,rfl⟩
   ·rw[KQ]at h;exact wpAny_eqBool_int h
   ·rw[KS]at h;exact SeqAt.EqAt.int_str i t y u _ _ _ _ h
  ·rcases bM hv with ⟨j,u,rfl,rfl⟩|⟨y,u,rfl,rfl⟩
   ·rw[KU]at h;exact SeqAt.EqAt.str_int x t j u _ _ _ _ h
   ·rw[KR]at h;exact wpAny_eqBool_str h
 «strs»:=λk x t v h=>by
  rcases bM h with ⟨i,u,rfl,e⟩|⟨y,u,rfl,e⟩
  ·exact nomatch e
  ·injection e with e1 _
   subst e1;cases v<;>rfl
theorem yE(prog:Program)(w:World)(k:Key)(v:Value):(aP prog w).is k v=p7 k v:=rfl
theorem vU(prog:Program)(w:World)(i:Int)(t:Tok):(aP prog w).is (.inl i) (.int i t)=true:=By i t
theorem vV(prog:Program)(w:World)(x:Str)(t:Tok):(aP prog w).is (.inr x) (.str x t)=true:=BA x t
inductive V where
 |non|bl (b:Bool)|int (i:Int)|str (x:Str)|byt (b:Array UInt8)|flt (b:UInt64)|ref (a:Addr)|ty (n:String)
 deriving DecidableEq
def RelV:V->Value->Prop
 |.non,u=>u=Value.none
 |.bl b,u=>u=Value.bool b
 |.int i,u=>∃t,u=Value.int i t
 |.str x,u=>∃t,u=Value.str x t
 |.byt b,u=>∃t,u=Value.bytes b t
 |.flt b,u=>∃t,u=Value.float b t
 |.ref a,u=>u=Value.ref a
 |.ty n,u=>u=Value.type n
abbrev Vals:List V->List Value->Prop:=Paired RelV
theorem Vals.length(r:Vals xs us):xs.length=us.length:=Paired.length r
theorem Vals.get:∀{xs:List V} {us:List Value} {i:Nat} {x:V},Vals xs us->xs[i]?=some x->∃u,us[i]?=some u/\RelV x u
 |_,_,_,_,.nil,e=>by simp at e
 |_,_,0,_,.cons r _,e=>by simp at e;subst e;exact⟨_,rfl,r⟩
 | _,_,i+1,x,.cons _ t,e=>by
  obtain⟨u,h1,h2⟩:=Vals.get (i:=i) (x:=x) t (by simpa using e);exact⟨u,by simpa using h1,h2⟩
theorem Vals.set(r:RelV x u):∀{xs:List V} {us:List Value} (i:Nat),Vals xs us->Vals (xs.set i x) (us.set i u)
 |_,_,_,.nil=>.nil
 |_,_,0,.cons _ t=>.cons r t
 |_,_,i+1,.cons q t=>.cons q (Vals.set r i t)
theorem Vals.append:∀{xs ys:List V} {us ws:List Value},Vals xs us->Vals ys ws->Vals (xs++ys) (us++ws)
 |_,_,_,_,.nil,s=>s
 |_,_,_,_,.cons r t,s=>.cons r (Vals.append t s)
theorem Vals.take:∀{xs:List V} {us:List Value} (n:Nat),Vals xs us->Vals (xs.take n) (us.take n)
 |_,_,0,_=>.nil
 |_,_,_+1,.nil=>.nil
 |_,_,n+1,.cons r t=>.cons r (Vals.take n t)
theorem Vals.drop:∀{xs:List V} {us:List Value} (n:Nat),Vals xs us->Vals (xs.drop n) (us.drop n)
 |_,_,0,r=>r
 |_,_,_+1,.nil=>.nil
 |_,_,n+1,.cons _ t=>Vals.drop n t
def jK:Option V->Option Value->Prop
 |some v,some u=>RelV v u
 |none,none=>True
 |_,_=>False
def KV{κ:Type}:List (κ × V)->List (κ × Value)->Prop:=Paired λ(p:κ × V) (q:κ × Value)=>p.1=q.1/\RelV p.2 q.2
def kV:Key->V
 |.inl i=>.int i
 |.inr x=>.str x
inductive HO where
  |lst (xs:List V)
  |tup (xs:List V)
  |dK (kvs:List (Key×V))|dT (kvs:List (List Key×V))
  |set (S:Int->Bool) (n:Nat)
  |ins (C dx:Addr) (fs:List (Str×V))
  |own (x:Addr)
  |xd (fs:List (Str×V))
  |met (f x:Addr)
  |rng (lo hi:Int)
  |jL (o:Obj) (u:HO)
  |tbl (ps:Array Value)
  |ext (φ:Heap->Prop)
abbrev Hp:=Addr->Option HO
def upd(H:Hp)(a:Addr)(o:HO):Hp:=λb=>if b=a then some o else H b
theorem aO:upd H a o a=some o:=by unfold upd;rw[Z7 rfl]
theorem ao(h:b≠a):upd H a o b=H b:=by unfold upd;rw[Z8 h]
theorem GW:upd (upd H a o) a u=upd H a u:=by
 funext b;unfold upd;split<;>rfl
theorem O3{H:Hp}{a b:Addr}{o u:HO}(h:H a=some o)(h':H b=some u)(d:o≠u):a≠b:=by
 intro e;subst e;rw[h]at h';exact d (aat h')
theorem aI{H:Hp}{a b:Addr}{o:HO}(h:H a=some o)(h':H b=none):a≠b:=by
 intro e;subst e;rw[h]at h';cases h'
section
variable (P:Program) (w:World)
def bJ(H:Hp)(h:Heap)(a:Addr):HO->Prop
 |.lst xs=>xs.length<=sizeLine/\∃(its:List Value) (n:Nat),Vals xs its/\h.get? a=some { cls:=.type "list",data:=.seq its.toArray n }
 |.tup xs=>xs.length<=sizeLine/\∃its:List Value,Vals xs its/\IsTup h a its.toArray
 |.dK kvs=>kvs.length<=sizeLine/\(a==sysModules)=false/\∃vs,KV kvs vs/\h.DictOf (aP P w) a vs
 | .dT kvs=>kvs.length<=sizeLine/\(a==sysModules)=false/\∃xs:List (List Key×Addr×Value),
   Paired (λ(p:List Key×V) (q:List Key×Addr×Value)=>p.1=q.1/\H q.2.1=some (.tup (p.1.map kV))/\RelV p.2 q.2.2) kvs xs /\
   ∃o es ep,h.get? a=some o/\o.ExactDict/\o.data=.dict es ep/\es.toList=xs.map (entryOfKey (tupleKind (aP P w)))/\(xs.map (·.1)).Nodup
 |.set S n=>h.SetOf (intKind P w) a S n
 | .ins C dx fs=>H dx=some (.own a)/\fs.length<=1000/\dx≠a/\h.get? a=some (instObj C dx) /\
   ∃mA,h.Ns1 dx mA/\(∀f,jK (fs.lookup f) (mA f))/\PySem.Within mA (fs.map (·.1))
 |.own _=>∃o,h.get? a=some o
 |.xd fs=>∃mA,h.Ns1 a mA/\∀f,jK (fs.lookup f) (mA f)
 |.rng lo hi=>∃t u v,h.get? a=some { cls:=.type "range",data:=.fields [.int lo t,.int hi u,.int 1 v].toArray }
 |.jL o u=>h.get? a=some o/\bJ H h a u
 |.tbl ps=>h.get? a=some { cls:=.none,data:=.fields ps }
 |.met f x=>h.get? a=some (methodObj (.ref f) (.ref x))
 |.ext φ=>φ h/\(∃o,h.get? a=some o)/\∀h1 h2:Heap,φ h1->(∀o,h1.get? a=some o->h2.get? a=some o) -> φ h2
def lD(H:Hp)(h:Heap):Prop:=∀a o,H a=some o->bJ P w H h a o
end
section
variable {P:Program} {w:World} {H H':Hp} {h h':Heap} {a:Addr} {o:HO}
theorem bJ.lt(x:bJ P w H h a o):a<h.objs.size:=by
 cases o with
 |lst xs=>obtain⟨_,_,_,_,e⟩:=x;exact aaf e
 |tup xs=>obtain⟨_,_,_,p⟩:=x;exact p.lt
 |dK kvs=>obtain⟨_,_,_,_,o,_,_,e,_⟩:=x;exact aaf e
 |dT kvs=>obtain⟨_,_,_,_,o,_,_,e,_⟩:=x;exact aaf e
 |set S n=>obtain⟨o,_,_,_,e,_⟩:=x;exact aaf e
 |ins C dx fs=>obtain⟨_,_,_,e,_⟩:=x;exact aaf e
 |own y=>obtain⟨_,e⟩:=x;exact aaf e
 |xd fs=>obtain⟨_,⟨_,_,_,e,_⟩,_⟩:=x;exact aaf e
 |rng lo hi=>obtain⟨_,_,_,e⟩:=x;exact aaf e
 |jL ob u=>obtain⟨e,_⟩:=x;exact aaf e
 |tbl ps=>exact aaf (show h.get? a=some _ from x)
 |met f y=>exact aaf (show h.get? a=some _ from x)
 |ext φ=>obtain⟨_,⟨_,e⟩,_⟩:=x;exact aaf e
theorem Paired.KW{α β:Type}{F G:α -> β -> Prop}:∀{l₁:List α} {l₂:List β},Paired F l₁ l₂->(∀a b,F a b->G a b)->Paired G l₁ l₂
 |_,_,.nil,_=>.nil
 |_,_,.cons r t,f=>.cons (f _ _ r) (Paired.KW t f)
theorem bJ.stay(x:bJ P w H h a o)(k:∀b u,(b=a\/H b=some (.own a))->h.get? b=some u->h'.get? b=some u)
  (ho:∀b,H b=some (.own a)->H' b=some (.own a)) (ht:∀b xs,H b=some (.tup xs)->H' b=some (.tup xs)):bJ P w H' h' a o:=by
 induction o with
 |lst xs=>obtain⟨z,its,n,r,e⟩:=x;exact⟨z,its,n,r,k _ _ (.inl rfl) e⟩
 |tup xs=>obtain⟨z,its,r,ob,e,c⟩:=x;exact⟨z,its,r,ob,k _ _ (.inl rfl) e,c⟩
 |dK kvs=>obtain⟨z,y,vs,r,ob,es,ep,e,c⟩:=x;exact⟨z,y,vs,r,ob,es,ep,k _ _ (.inl rfl) e,c⟩
 |dT kvs=>obtain⟨z,y,xs,r,ob,es,ep,e,c⟩:=x;exact⟨z,y,xs,Paired.KW r λp q z=>⟨z.1,ht _ _ z.2.1,z.2.2⟩,ob,es,ep,k _ _ (.inl rfl) e,c⟩
 |set S n=>obtain⟨ob,es,ep,t,e,c⟩:=x;exact⟨ob,es,ep,t,k _ _ (.inl rfl) e,c⟩
 |ins C dx fs=>obtain⟨d,z,ne,e,mA,⟨od,es,ep,e2,c⟩,r⟩:=x;exact⟨ho _ d,z,ne,k _ _ (.inl rfl) e,mA,⟨od,es,ep,k _ _ (.inr d) e2,c⟩,r⟩
 |own y=>obtain⟨ob,e⟩:=x;exact⟨ob,k _ _ (.inl rfl) e⟩
 |xd fs=>obtain⟨mA,⟨od,es,ep,e,c⟩,r⟩:=x;exact⟨mA,⟨od,es,ep,k _ _ (.inl rfl) e,c⟩,r⟩
 |rng lo hi=>obtain⟨t,u,v,e⟩:=x;exact⟨t,u,v,k _ _ (.inl rfl) e⟩
 |jL ob u ih=>obtain⟨e,q⟩:=x;exact⟨k _ _ (.inl rfl) e,ih q⟩
 |tbl ps=>have e:h.get? a=some { cls:=.none,data:=.fields ps }:=x;show h'.get? a=some { cls:=.none,data:=.fields ps };exact k a _ (.inl rfl) e
 |met f y=>have e:h.get? a=some (methodObj (.ref f) (.ref y)):=x;show h'.get? a=some (methodObj (.ref f) (.ref y));exact k a _ (.inl rfl) e
 |ext φ=>obtain⟨p,⟨o,e⟩,st⟩:=x;exact⟨st _ _ p λo q=>k _ _ (.inl rfl) q,⟨o,k _ _ (.inl rfl) e⟩,st⟩
theorem lD.lt(x:lD P w H h)(e:H a=some o):a<h.objs.size:=(x a o e).lt
theorem lD.fresh(x:lD P w H h)(e:h.objs.size<=a):H a=none:=by
 cases q:H a with
 |none=>rfl
 |some u=>exact absurd (aah (x.lt q) e) (aa0 _)
theorem lD.kept(x:lD P w H h)(k:∀b u,h.get? b=some u->h'.get? b=some u):lD P w H h':=λa o e=>
 (x a o e).stay (λb u _ q=>k b u q) (λ_ q=>q) λ_ _ q=>q
theorem lD.laid(x:lD P w H h)(k:∀b u,h.get? b=some u->h'.get? b=some u)(hp:h.objs.size<=a)(new:bJ P w (upd H a o) h' a o):lD P w (upd H a o) h':=λb u e=>by
 have hn:=x.fresh hp
 by_cases hb:b=a
 ·subst hb;rw[aO]at e;cases e;exact new
 ·rw[ao hb]at e;exact(x b u e).stay (λc v _ q=>k c v q) (λc q=>by rw[ao (aI q hn)];exact q) λc xs q=>by rw[ao (aI q hn)];exact q
end
def Rd(H:Hp)(a:Addr)(u:HO):Prop:=H a=some u\/∃o,H a=some (.jL o u)
theorem Rd.ok(r:Rd H a u)(x:lD P w H h):bJ P w H h a u:=by
 rcases r with r|⟨o,r⟩
 ·exact x a u r
 ·obtain⟨_,q⟩:=x a _ r;exact q
def O4:Option HO->Prop
 |some (.lst _)=>True
 |some (.dK _)=>True
 |some (.dT _)=>True
 |some (.set _ _)=>True
 |some (.ins _ _ _)=>True
 |some (.ext _)=>True
 |_=>False
section
variable {P:Program} {w:World} {H:Hp} {h h':Heap} {x e:Addr} {o':HO}
theorem lD.write(ok:lD P w H h)(mu:O4 (H x))(he:e=x\/H e=some (.own x))(k:∀b u,b≠e->h.get? b=some u->h'.get? b=some u)(OH:∃u,h'.get? e=some u)
  (new:bJ P w (upd H x o') h' x o'):lD P w (upd H x o') h':=λb u q=>by
 have nown:∀c y,H c=some (.own y)->c≠x:=λc y r z=>by subst z;rw[r]at mu;exact mu
 have ntup:∀c xs,H c=some (.tup xs)->c≠x:=λc xs r z=>by subst z;rw[r]at mu;exact mu
 by_cases hb:b=x
 ·subst hb;rw[aO]at q;cases q;exact new
 ·rw[ao hb]at q
  by_cases KY:b=e
  ·have q':H b=some (.own x):=by
    rcases he with z|z
    ·exact absurd (KY.trans z) hb
    ·rw[KY];exact z
   rw[q]at q';cases q';obtain⟨v,hv⟩:=OH;exact⟨v,by rw[KY];exact hv⟩
  ·refine(ok b u q).stay (λc v hc r=>k c v ?_ r) (λc r=>by rw[ao (nown c b r)];exact r) λc xs r=>by rw[ao (ntup c xs r)];exact r
   rcases hc with rfl|hc
   ·exact KY
   ·rintro rfl
    rcases he with z|z
    ·exact nown c b hc z
    ·rw[hc]at z;cases z;exact hb rfl
end
structure Un (fs ex:List Addr) (H H':Hp) (h h':Heap):Prop where
 keep:∀b o,h.get? b=some o->H b=none->b∉fs->b∉ex->h'.get? b=some o
 slot:∀b o,h.get? b=some o->H b=none->b∈fs->b∉ex->∃sl,h'.get? b=some { o with slots:=sl }
 free:∀b o,h.get? b=some o->H b=none->b∉ex->H' b=none
 there:∀b o,h.get? b=some o->b∉ex->∃o',h'.get? b=some o'
 tups:∀b xs,H b=some (.tup xs)->H' b=some (.tup xs)
 frzs:∀b o u,H b=some (.jL o u)->H' b=some (.jL o u)
 sH:∀b ps,H b=some (.tbl ps)->∃more,H' b=some (.tbl (ps++more))
section
variable {fs fs' ex ex':List Addr} {H H1 H2:Hp} {h h1 h2 h':Heap} {a x e:Addr} {o:HO}
theorem Un.any(u:Un fs ex H H1 h h1)(q:h.get? b=some ob)(n:H b=none)(hx:b∉ex):∃sl,h1.get? b=some { ob with slots:=sl }:=by
 by_cases hb:b∈fs
 ·exact u.slot b ob q n hb hx
 ·exact⟨ob.slots,u.keep b ob q n hb hx⟩
theorem Un.kept(k:∀b u,h.get? b=some u->h'.get? b=some u):Un fs ex H H h h' :=
 ⟨λb ob q _ _ _=>k b ob q,λb ob q _ _ _=>⟨ob.slots,k b ob q⟩,λ_ _ _ n _=>n,λb ob q _=>⟨ob,k b ob q⟩,λ_ _ q=>q,λ_ _ _ q=>q,λ_ ps q=>⟨#[],by rw[q];simp⟩⟩
theorem Un.refl:Un fs ex H H h h:=Un.kept λ_ _ q=>q
theorem Un.laid(k:∀b u,h.get? b=some u->h'.get? b=some u)(hp:h.objs.size<=a)(hn:H a=none):Un fs ex H (upd H a o) h h' where
 keep:=λb u q _ _ _=>k b u q
 slot:=λb u q _ _ _=>⟨u.slots,k b u q⟩
 free:=λb u q n _=>by rw[ao (aam (aah (aaf q) hp))];exact n
 there:=λb u q _=>⟨u,k b u q⟩
 tups:=λb xs q=>by rw[ao (aI q hn)];exact q
 frzs:=λb u xs q=>by rw[ao (aI q hn)];exact q
 sH:=λb ps q=>⟨#[],by rw[ao (aI q hn),q];simp⟩
theorem Un.write(mu:O4 (H x))(he:e=x\/H e=some (.own x))(k:∀b u,b≠e->h.get? b=some u->h'.get? b=some u)(OH:∃u,h'.get? e=some u):Un fs ex H (upd H x o) h h':=by
 have hx:∀b,H b=none->b≠x:=λb n z=>by subst z;rw[n]at mu;exact mu
 have hb:∀b,H b=none->b≠e:=λb n z=>by
  subst z
  rcases he with r|r
  ·exact hx b n r
  ·rw[n]at r;cases r
 have hm:∀b u,H b=some u->¬ O4 (some u)->b≠x:=λb u q nm z=>by subst z;rw[q]at mu;exact nm mu
 refine⟨λb u q n _ _=>k b u (hb b n) q,λb u q n _ _=>⟨u.slots,k b u (hb b n) q⟩,λb u q n _=>by rw[ao (hx b n)];exact n,λb u q _=>?_,
  λb xs q=>by rw[ao (hm b _ q λz=>z)];exact q,λb u xs q=>by rw[ao (hm b _ q λz=>z)];exact q,λb ps q=>⟨#[],by rw[ao (hm b _ q λz=>z),q];simp⟩⟩
 by_cases KY:b=e
 ·subst KY;exact OH
 ·exact⟨u,k b u KY q⟩
end
def kO(h:Heap)(H:Hp):List Addr:=(List.range h.objs.size).filter λa=>(H a).isSome
def uI(h:Heap)(H:Hp):Heap:=PySem.W.hideAll h (kO h H)
theorem BB(h:Heap)(H:Hp):(uI h H).objs.size=h.objs.size:=PySem.W.hideAll_size _ _
theorem CL(e:h.get? b=some o)(n:H b=none):(uI h H).get? b=some o :=
 PySem.W.hideAll_get _ e λhm=>by
  have q:(H b).isSome=true:=(aaX.mp hm).2;rw[n]at q;simp at q
theorem GX(e:(uI h H).get? b=some o):h.get? b=some o/\H b=none:=by
 have e':h.get? b=some o:=PySem.W.of_hideAll (kO h H) e;refine⟨e',?_⟩;cases q:H b with
 |none=>rfl
 |some x=>have hm:b∈kO h H:=aaX.mpr ⟨List.mem_range.mpr (aaf e'),by simp[q]⟩;have z:(uI h H).get? b=none:=PySem.W.hideAll_none (kO h H) hm;rw[z]at e;cases e
def GY(g h:Heap)(L:Addr):List (Addr×Obj):=(List.range h.objs.size).filterMap λa=>if a=L\/(g.get? a).isSome=true then none else (h.get? a).map λo=>(a,o)
def rest(g h:Heap)(L d:Addr):List (Addr×Obj):=(GY g h L).filter λp=>decide (p.1≠d)
structure Mod (K:Frag) (mg:Str->Option Value) (base:Heap):Prop where
 OI:K.In base
 glob:base.Ns mainGlobals mg
 blt:∃mb,base.Ns builtinsNs mb/\∀x:Str,x ≠ "__name__" -> mb x=bootBuiltins x
 nolimit:base.NoLimit
structure Cx where
 prog:Program
 w:World
 K:Frag
 mg:Str->Option Value
 base:Heap
 A:Around
 N:List Str
 s₀:Shared
 H₀:Hp
 env:Env
 outer:List Env
 stack:List Env
 ex:List Addr
 fn:Str->Bool
 calm:Bool
 pn:List (Addr×Obj)
 xe:Value->Shared->Prop
def frs(l:List Env):List Addr:=l.filterMap (·.frame)
abbrev Cx.fs(X:Cx):List Addr:=frs X.outer
def O5(sc:Scope)(x:Str):Prop:=sc.names.lookup x=some .local\/sc.names.lookup x=some .cell\/sc.names.lookup x=some .free
def Loc(sc:Scope)(x:Str):Prop:=sc.names.lookup x=some .local\/sc.names.lookup x=some .cell
def Look(env:Env)(h:Heap)(m:Str->Option Value)(x:Str)(u:Value):Prop :=
 (env.kindOf x=some .local/\m x=some u)\/((env.kindOf x=some .cell\/env.kindOf x=some .free)/\∃c,env.cells.lookup x=some c/\h.IsCell c (some u))
structure Cx.Ok (X:Cx):Prop where
 mod:Mod X.K X.mg X.base
 kind:X.env.scope.kind=.function
 glob:X.env.globals=mainGlobals
 blt:X.env.builtins=builtinsNs
 above:X.s₀.heap.objs.size<=X.env.locals
 inj:∀x y c,X.env.cells.lookup x=some c->X.env.cells.lookup y=some c->x=y
 has:∀x,(X.env.kindOf x=some .cell\/X.env.kindOf x=some .free)->∃c,X.env.cells.lookup x=some c
 O6:∀x c,X.fn x=true->X.env.cells.lookup x=some c->X.s₀.heap.objs.size<=c
 hd:X.calm=true->X.A.handled=none
 frames:X.A.frames=some X.stack
 stk:X.stack=X.outer\/(X.stack=X.env::X.outer/\X.env.frame=some X.env.locals)
 Tc:∀b∈X.ex,b≠X.env.locals/\∀x c,X.env.cells.lookup x=some c->c≠b
 bs:∀b o,X.base.get? b=some o->X.s₀.heap.get? b=some o/\X.H₀ b=none
 J7:X.base.objs.size<=X.s₀.heap.objs.size
 lE:∀b o,X.base.get? b=some o->b∉X.ex
 CM:∀b∈X.ex,b∉X.fs
 pD:X.s₀.heap.FunFrames X.base X.outer
 KZ:∀b∈X.fs,X.H₀ b=none
structure Inv (X:Cx) (pins:List (Addr×Obj)) (σ:List (Option V)) (H:Hp) (s:Shared):Prop where
 ok:X.Ok
 os:s.os=X.s₀.os
 bare:AllBare s.gens
 base:Un X.fs X.ex X.H₀ H X.s₀.heap s.heap
 loc:∃m,s.heap.Ns X.env.locals m/\∀(i:Nat) (x:Str) (v:V),X.N[i]?=some x -> σ[i]?=some (some v)->O5 X.env.scope x->∃u,RelV v u/\Look X.env s.heap m x u
 cell:∀x c,X.env.cells.lookup x=some c->∃v,s.heap.IsCell c v
 free:H X.env.locals=none
 gX:∀x c,X.env.cells.lookup x=some c->H c=none
 pin:∀p∈X.pn++pins,s.heap.get? p.1=some p.2/\H p.1=none/\p.1≠X.env.locals/\p.1∉X.fs/\∀v,p.2.data≠.cell v
 hok:lD X.prog X.w H s.heap
 len:σ.length=X.N.length
section
variable {X:Cx} {pins:List (Addr×Obj)} {σ:List (Option V)} {H H':Hp} {s:Shared} {h':Heap}
theorem Cx.Ok.Td(ok:X.Ok)(e:X.base.get? b=some o):b∉X.fs:=λhb=>by
 have:=(ok.pD.mem hb).1;rw[e]at this;cases this
theorem Inv.bs(I:Inv X pins σ H s):∀b o,X.base.get? b=some o->s.heap.get? b=some o/\H b=none:=λb o e=>
 ⟨I.base.keep b o (I.ok.bs b o e).1 (I.ok.bs b o e).2 (I.ok.Td e) (I.ok.lE b o e),I.base.free b o (I.ok.bs b o e).1 (I.ok.bs b o e).2 (I.ok.lE b o e)⟩
theorem Inv.bk(I:Inv X pins σ H s):∀b o,X.base.get? b=some o->s.heap.get? b=some o:=λb o e=>(I.bs b o e).1
theorem Inv.mod(I:Inv X pins σ H s):Mod X.K X.mg X.base:=I.ok.mod
theorem Inv.nM(I:Inv X pins σ H s):X.K.In s.heap:=I.ok.mod.OI.keeps I.bk
theorem Inv.lt(I:Inv X pins σ H s):X.env.locals<s.heap.objs.size:=let ⟨_,hn,_⟩:=I.loc;hn.lt
theorem Inv.sz(I:Inv X pins σ H s):X.s₀.heap.objs.size<=s.heap.objs.size:=aay I.ok.above (abv I.lt)
theorem Inv.Te(I:Inv X pins σ H s)(h:s.heap.objs.size<=a):a∉X.fs:=λhb=>by
 obtain⟨_,o,ho,_⟩:=I.ok.pD.mem hb;exact absurd (aah (aaf ho) (aay I.sz h)) (aa0 _)
theorem Inv.cne(I:Inv X pins σ H s):∀x c,X.env.cells.lookup x=some c->c≠X.env.locals:=λx c e z=>by
 obtain⟨v,o,ho,hd⟩:=I.cell x c e;obtain⟨m,⟨o',es,ep,ho',hd',_⟩,_⟩:=I.loc;rw[z,ho']at ho;cases ho;rw[hd']at hd;cases hd
theorem Inv.pD(I:Inv X pins σ H s):s.heap.FunFrames X.base X.outer:=by
 have all:∀(l:List Env),(∀b∈frs l,b∈X.fs)->X.s₀.heap.FunFrames X.base l->s.heap.FunFrames X.base l:=by
  intro l
  induction l with
  |nil=>intro _ _;trivial
  |cons env r ih=>intro hs hl;obtain⟨hk,⟨L,o,hf,hn,ho,hd⟩,hr⟩:=hl;have hL:L∈X.fs:=hs L (by unfold frs;rw[acm,hf];exact Z9);obtain⟨sl,e⟩:=I.base.slot L o ho (I.ok.KZ L hL) hL λz=>I.ok.CM L z hL;exact⟨hk,⟨L,_,hf,hn,e,hd⟩,ih (λb hb=>hs b (by unfold frs;rw[acm,hf];exact aab _ hb)) hr⟩
 exact all X.outer (λ_ hb=>hb) I.ok.pD
theorem Inv.stack(I:Inv X pins σ H s):s.heap.FunFrames X.base X.stack:=by
 rcases I.ok.stk with e|⟨e,hf⟩
 ·rw[e];exact I.pD
 ·rw[e];obtain⟨m,hn,_⟩:=I.loc;refine .cons (by rw[I.ok.kind];decide) hf hn ?_ I.pD;exact Heap.get?_none_of_le (aay I.ok.J7 I.ok.above)
theorem Inv.yF(I:Inv X pins σ H s):∀b∈frs X.stack,b∈X.env.locals::X.fs:=λb hb=>by
 rcases I.ok.stk with e|⟨e,hf⟩
 ·rw[e]at hb;exact aab _ hb
 ·rw[e]at hb;unfold frs at hb;rw[acm,hf]at hb;exact hb
theorem Inv.zW(I:Inv X pins σ H s):∀b∈frs X.stack,H b=none:=λb hb=>by
 rcases aao.mp (I.yF b hb) with e|hb
 ·rw[e];exact I.free
 ·obtain⟨_,o,ho,_⟩:=I.ok.pD.mem hb;exact I.base.free b o ho (I.ok.KZ b hb) λz=>I.ok.CM b z hb
theorem Inv.step{g':Array GenState}{t':Nat}{d':Drawn}{ch:List Addr}(I:Inv X pins σ H s)
  (hch:∀b∈ch,(b∈X.ex\/X.s₀.heap.objs.size<=b)/\b≠X.env.locals/\(∀x c,X.env.cells.lookup x=some c->c≠b)/\∀p∈X.pn++pins,p.1≠b)
  (keep:∀b o,b≠X.env.locals->b∉X.fs->b∉ch->s.heap.get? b=some o->H b=none->h'.get? b=some o)
  (slot:∀b o,b≠X.env.locals->b∈X.fs->b∉ch->s.heap.get? b=some o->H b=none->∃sl,h'.get? b=some { o with slots:=sl }) (free:∀b o,b∉ch->s.heap.get? b=some o->H b=none->H' b=none)
  (there:∀b o,b∉ch->s.heap.get? b=some o->∃o',h'.get? b=some o')
  (tups:∀b xs,H b=some (.tup xs)->H' b=some (.tup xs)) (frzs:∀b o u,H b=some (.jL o u)->H' b=some (.jL o u)) (sH:∀b ps,H b=some (.tbl ps)->∃more,H' b=some (.tbl (ps++more)))
  (ns:∀m,s.heap.Ns X.env.locals m->h'.Ns X.env.locals m) (hok:lD X.prog X.w H' h') (hg:AllBare g') :
  Inv X pins σ H' { s with heap:=h',gens:=g',drawn:=d',toks:=t' }:=by
 have neL:∀b o,X.s₀.heap.get? b=some o->b≠X.env.locals:=λb o e=>aam (aah (aaf e) I.ok.above);have neC:∀b o,X.s₀.heap.get? b=some o->b∉X.ex->b∉ch:=λb o e hx hb=>by
  rcases(hch b hb).1 with z|z
  ·exact hx z
  ·exact absurd (aah (aaf e) z) (aa0 _)
 have cellK:∀x c,X.env.cells.lookup x=some c->∀v,s.heap.IsCell c v->h'.IsCell c v:=λx c e v ⟨o,ho,hd⟩=>by
  have O7:c∉ch:=λz=>(hch c z).2.2.1 x c e rfl
  by_cases hc:c∈X.fs
  ·obtain⟨sl,q⟩:=slot c o (I.cne x c e) hc O7 ho (I.gX x c e);exact⟨_,q,hd⟩
  ·exact⟨o,keep c o (I.cne x c e) hc O7 ho (I.gX x c e),hd⟩
 refine⟨I.ok,I.os,hg,⟨λb o e n hb hx=>?_,λb o e n hb hx=>?_,λb o e n hx=>?_,λb o e hx=>?_,λb xs e=>tups b xs (I.base.tups b xs e),λb o xs e=>frzs b o xs (I.base.frzs b o xs e),λb ps e=>?_⟩,?_,λx c e=>?_,?_,λx c e=>?_,λp hp=>?_,hok,I.len⟩
 ·exact keep b o (neL b o e) hb (neC b o e hx) (I.base.keep b o e n hb hx) (I.base.free b o e n hx)
 ·obtain⟨sl,e1⟩:=I.base.slot b o e n hb hx;obtain⟨WO,e2⟩:=slot b _ (neL b o e) hb (neC b o e hx) e1 (I.base.free b o e n hx);exact⟨WO,e2⟩
 ·obtain⟨o',e1⟩:=I.base.there b o e hx;exact free b o' (neC b o e hx) e1 (I.base.free b o e n hx)
 ·obtain⟨o',e1⟩:=I.base.there b o e hx;exact there b o' (neC b o e hx) e1
 ·obtain⟨m1,e1⟩:=I.base.sH b ps e;obtain⟨m2,e2⟩:=sH b _ e1;exact⟨m1++m2,by rw[e2,Array.append_assoc]⟩
 ·obtain⟨m,hn,hl⟩:=I.loc
  refine⟨m,ns m hn,λi x v e1 e2 e3=>?_⟩;obtain⟨u,r,l⟩:=hl i x v e1 e2 e3;refine⟨u,r,?_⟩
  rcases l with l|⟨k,c,e,z⟩
  ·exact .inl l
  ·exact .inr ⟨k,c,e,cellK x c e _ z⟩
 ·obtain⟨v,z⟩:=I.cell x c e;exact⟨v,cellK x c e v z⟩
 ·obtain⟨m,⟨o,_,_,ho,_⟩,_⟩:=I.loc;exact free _ o (λz=>(hch _ z).2.1 rfl) ho I.free
 ·obtain⟨v,o,ho,hd⟩:=I.cell x c e;exact free c o (λz=>(hch c z).2.2.1 x c e rfl) ho (I.gX x c e)
 ·obtain⟨e,n,ne,nf,d⟩:=I.pin p hp;have O7:p.1∉ch:=λz=>(hch p.1 z).2.2.2 p hp rfl;exact⟨keep p.1 p.2 ne nf O7 e n,free p.1 p.2 O7 e n,ne,nf,d⟩
theorem Inv.un{t':Nat}(I:Inv X pins σ H s)(u:Un X.fs [] H H' s.heap h')(hok:lD X.prog X.w H' h'):Inv X pins σ H' { s with heap:=h',toks:=t' }:=by
 obtain⟨m,⟨o,es,ep,ho,r⟩,_⟩:=id I.loc;obtain⟨sl,hL⟩:=u.any ho I.free (by simp);exact I.step (g':=s.gens) (d':=s.drawn) (ch:=[]) (λ_ z=>nomatch z) (λb o _ hb _ e n=>u.keep b o e n hb (by simp)) (λb o _ hb _ e n=>u.slot b o e n hb (by simp)) (λb o _ e n=>u.free b o e n (by simp)) (λb o _ e=>u.there b o e (by simp)) u.tups u.frzs u.sH (λm' hm=>by
  obtain⟨o',es',Tf,ho',r'⟩:=hm;rw[ho]at ho';cases ho';exact⟨_,es',Tf,hL,r'⟩) hok I.bare
theorem Inv.call{t':Nat}(I:Inv X pins σ H s)(u:Un (frs X.stack) ch H H' s.heap h')(hok:lD X.prog X.w H' h')(hg:AllBare g')
  (hch:∀b∈ch,(b∈X.ex\/X.s₀.heap.objs.size<=b)/\b≠X.env.locals/\(∀x c,X.env.cells.lookup x=some c->c≠b)/\∀p∈X.pn++pins,p.1≠b) :
  Inv X pins σ H' { s with heap:=h',gens:=g',drawn:=d',toks:=t' }:=by
 obtain⟨m,⟨o,es,ep,ho,r⟩,_⟩:=id I.loc;obtain⟨sl,hL⟩:=u.any ho I.free λz=>(hch _ z).2.1 rfl;exact I.step (ch:=ch) hch (λb o hL hb hc e n=>u.keep b o e n (λz=>(aao.mp (I.yF b z)).elim hL hb) hc) (λb o _ _ hc e n=>u.any e n hc) (λb o hc e n=>u.free b o e n hc) (λb o hc e=>u.there b o e hc) u.tups u.frzs u.sH (λm' hm=>by
  obtain⟨o',es',Tf,ho',r'⟩:=hm;rw[ho]at ho';cases ho';exact⟨_,es',Tf,hL,r'⟩) hok hg
theorem Inv.turned{t':Nat}(I:Inv X pins σ H s)(k:∀b o,b≠it->s.heap.get? b=some o->h'.get? b=some o)(hn:H it=none)(hL:it≠X.env.locals)
  (h1:it∈X.ex\/X.s₀.heap.objs.size<=it) (h2:∀x c,X.env.cells.lookup x=some c->c≠it) (h3:∀p∈X.pn++pins,p.1≠it):Inv X pins σ H { s with heap:=h',toks:=t' }:=by
 have O8:∀b u,H b=some u->b≠it:=λb u e z=>by rw[z,hn]at e;cases e
 refine I.step (g':=s.gens) (d':=s.drawn) (ch:=[it]) (λb hb=>?_) (λb o _ _ hc e _=>k b o (λz=>hc (by simp[z])) e) (λb o _ _ hc e _=>⟨o.slots,k b o (λz=>hc (by simp[z])) e⟩) (λ_ _ _ _ n=>n)
  (λb o hc e=>⟨o,k b o (λz=>hc (by simp[z])) e⟩) (λ_ _ e=>e) (λ_ _ _ e=>e) (λb ps e=>⟨#[],by rw[e];simp⟩) (λm hm=>?_) (λb u e=>?_) I.bare
 ·have e:b=it:=by simpa using hb
  subst e;exact⟨h1,hL,h2,h3⟩
 ·obtain⟨o,es,ep,ho,r⟩:=hm;exact⟨o,es,ep,k _ o (Ne.symm hL) ho,r⟩
 ·refine(I.hok b u e).stay (λc v hc q=>k c v ?_ q) (λ_ q=>q) λ_ _ q=>q
  rcases hc with z|z
  ·rw[z];exact O8 b u e
  ·exact O8 c _ z
theorem Inv.tok(I:Inv X pins σ H s)(t:Nat):Inv X pins σ H { s with toks:=t }:=I.un (h':=s.heap) (t':=t) Un.refl I.hok
theorem Inv.kept{t':Nat}(I:Inv X pins σ H s)(k:∀b u,s.heap.get? b=some u->h'.get? b=some u):Inv X pins σ H { s with heap:=h',toks:=t' }:=I.un (Un.kept k) (I.hok.kept k)
theorem Inv.laid{t':Nat}(I:Inv X pins σ H s)(k:∀b u,s.heap.get? b=some u->h'.get? b=some u)(hp:s.heap.objs.size<=a)(new:bJ X.prog X.w (upd H a o) h' a o) :
  Inv X pins σ (upd H a o) { s with heap:=h',toks:=t' }:=I.un (Un.laid k hp (I.hok.fresh hp)) (I.hok.laid k hp new)
theorem Inv.write{t':Nat}(I:Inv X pins σ H s)(mu:O4 (H x))(he:e=x\/H e=some (.own x))(k:∀b u,b≠e->s.heap.get? b=some u->h'.get? b=some u)(OH:∃u,h'.get? e=some u)
  (new:bJ X.prog X.w (upd H x o) h' x o):Inv X pins σ (upd H x o) { s with heap:=h',toks:=t' }:=I.un (Un.write mu he k OH) (I.hok.write mu he k OH new)
theorem Inv.zX(I:Inv X pins σ H s)(h:∀p∈O9,s.heap.get? p.1=some p.2/\H p.1=none/\p.1≠X.env.locals/\p.1∉X.fs/\∀v,p.2.data≠.cell v):Inv X O9 σ H s :=
 ⟨I.ok,I.os,I.bare,I.base,I.loc,I.cell,I.free,I.gX,λp hp=>(aaF.mp hp).elim (λz=>I.pin p (aaL _ z)) (h p),I.hok,I.len⟩
theorem vW{N:List Str}(hN:N.Nodup){i j:Nat}{x:Str}(a:N[i]?=some x)(b:N[j]?=some x):i=j:=by
 obtain⟨h1,e1⟩:=Z5.mp a;obtain⟨h2,e2⟩:=Z5.mp b;exact(List.getElem_inj hN).mp (e1.trans e2.symm)
theorem tu{i:Nat}(I:Inv X pins σ H s)(hN:X.N.Nodup)(hi:X.N[i]?=some x)(hx:Loc X.env.scope x)(r:RelV v u)
  (h:∀s',Inv X pins (σ.set i (some v)) H s'->(∃a,Heap.SameBut a s.heap s'.heap/\(a=X.env.locals\/X.env.cells.lookup x=some a))->Q () s') (hf:X.fn x=true\/X.env.scope.names.lookup x=some .local):wpAny M A (storeName X.env x u) Q E s:=by
 obtain⟨m,hn,hl⟩:=id I.loc;have hcls:(X.env.scope.kind==.class||(X.env.scope.kind==.module&&X.env.locals != X.env.globals))=false:=by rw[I.ok.kind];rfl
 have Vb:i < σ.length:=by rw[I.len];exact(Z5.mp hi).1
 have cne:=I.cne;have tracked:∀{a:Addr} {h':Heap},(∃o,s.heap.get? a=some o/\H a=none)->Heap.SameBut a s.heap h'->lD X.prog X.w H h':=λ{a h'} ha hs b ob e=>by
  obtain⟨_,_,hfree⟩:=ha;refine(I.hok b ob e).stay (λc w' hc q=>(hs.2 c ?_).trans q) (λ_ q=>q) λ_ _ q=>q;rintro rfl
  rcases hc with rfl|hc
  ·rw[hfree]at e;cases e
  ·rw[hfree]at hc;cases hc
 rcases hx with hk|hk
 ·refine wpAny_storeName_local hk hn (λh' hn' hs=>?_) hcls
  obtain⟨oL,_,_,WQ,_⟩:=id hn;refine h _ ⟨I.ok,I.os,I.bare,⟨λb o e n hb hx=>?_,λb o e n hb hx=>?_,I.base.free,λb o e hx=>?_,I.base.tups,I.base.frzs,I.base.sH⟩,⟨_,hn',λj y v' e1 e2 e3=>?_⟩,λy c e=>?_,I.free,I.gX,λp hp=>?_,tracked ⟨oL,WQ,I.free⟩ hs,by simpa using I.len⟩ ⟨_,hs,.inl rfl⟩
  ·exact(hs.2 b (aam (aah (aaf e) I.ok.above))).trans (I.base.keep b o e n hb hx)
  ·obtain⟨sl,e1⟩:=I.base.slot b o e n hb hx;exact⟨sl,(hs.2 b (aam (aah (aaf e) I.ok.above))).trans e1⟩
  ·obtain⟨o',e1⟩:=I.base.there b o e hx;exact⟨o',(hs.2 b (aam (aah (aaf e) I.ok.above))).trans e1⟩
  ·by_cases hj:j=i
   ·subst hj;rw[hi]at e1;cases e1;rw[aad Vb]at e2;cases e2;exact⟨u,r,.inl ⟨hk,by simp⟩⟩
   ·rw[Z2 (Ne.symm hj)]at e2
    obtain⟨u',r',q⟩:=hl j y v' e1 e2 e3;refine⟨u',r',?_⟩
    rcases q with ⟨k,e⟩|⟨k,c,e,z⟩
    ·refine .inl ⟨k,?_⟩;have:y≠x:=λe=>hj (vW hN e1 (e▸hi));simp[this,e]
    ·exact .inr ⟨k,c,e,z.sameBut hs (cne y c e)⟩
  ·obtain⟨w',z⟩:=I.cell y c e;exact⟨w',z.sameBut hs (cne y c e)⟩
  ·obtain⟨e,n,ne,nf,d⟩:=I.pin p hp;exact⟨(hs.2 p.1 ne).trans e,n,ne,nf,d⟩
 ·have hfn:X.fn x=true:=by
   rcases hf with z|z
   ·exact z
   ·rw[z]at hk;cases hk
  obtain⟨c,hc⟩:=I.ok.has x (.inl hk);obtain⟨w',z⟩:=I.cell x c hc;refine wpAny_storeName_cell I.ok.kind hk hc z (λh' hc' hs=>?_);obtain⟨oc,hoc,CN⟩:=id z;refine h { s with heap:=h' } ⟨I.ok,I.os,I.bare,⟨λb o e n hb hx=>?_,λb o e n hb hx=>?_,I.base.free,λb o e hx=>?_,I.base.tups,I.base.frzs,I.base.sH⟩,⟨m,hn.sameBut hs (Ne.symm (cne x c hc)),λj y v' e1 e2 e3=>?_⟩,λy c' e=>?_,I.free,I.gX,λp hp=>?_,tracked ⟨oc,hoc,I.gX x c hc⟩ hs,by simpa using I.len⟩ ⟨c,hs,.inr hc⟩
  ·exact(hs.2 b (aam (aah (aaf e) (I.ok.O6 x c hfn hc)))).trans (I.base.keep b o e n hb hx)
  ·obtain⟨sl,e1⟩:=I.base.slot b o e n hb hx;exact⟨sl,(hs.2 b (aam (aah (aaf e) (I.ok.O6 x c hfn hc)))).trans e1⟩
  ·obtain⟨o',e1⟩:=I.base.there b o e hx;exact⟨o',(hs.2 b (aam (aah (aaf e) (I.ok.O6 x c hfn hc)))).trans e1⟩
  ·by_cases hj:j=i
   ·subst hj;rw[hi]at e1;cases e1;rw[aad Vb]at e2;cases e2;exact⟨u,r,.inr ⟨.inl hk,c,hc,hc'⟩⟩
   ·rw[Z2 (Ne.symm hj)]at e2
    obtain⟨u',r',q⟩:=hl j y v' e1 e2 e3;refine⟨u',r',?_⟩
    rcases q with q|⟨k,c',e,z'⟩
    ·exact .inl q
    ·refine .inr ⟨k,c',e,z'.sameBut hs ?_⟩;rintro rfl;exact hj (vW hN e1 (I.ok.inj _ _ _ e hc▸hi))
  ·by_cases hcc:c'=c
   ·subst hcc;exact⟨_,hc'⟩
   ·obtain⟨w2,z2⟩:=I.cell y c' e;exact⟨w2,z2.sameBut hs hcc⟩
  ·obtain⟨e,n,ne,nf,d⟩:=I.pin p hp;refine⟨(hs.2 p.1 ?_).trans e,n,ne,nf,d⟩;intro q;rw[q,hoc]at e;have q':oc=p.2:=aat e;exact d w' (by rw[<-q'];exact CN)
theorem qa{i:Nat}(I:Inv X pins σ H s)(hN:X.N.Nodup)(hi:X.N[i]?=some x)(hx:Loc X.env.scope x)(r:RelV v u)
  (h:∀s',Inv X pins (σ.set i (some v)) H s'->Q () s') (hf:X.fn x=true\/X.env.scope.names.lookup x=some .local):wpAny M A (storeName X.env x u) Q E s :=
 tu I hN hi hx r (λs' I' _=>h s' I') hf
theorem Inv.Pa(I:Inv X pins σ H s)(ho:s'.os=s.os)(u:Un (frs X.stack) ch H H' s.heap s'.heap)(hok:lD X.prog X.w H' s'.heap)(hg:AllBare s'.gens)
  (hch:∀b∈ch,(b∈X.ex\/X.s₀.heap.objs.size<=b)/\b≠X.env.locals/\(∀x c,X.env.cells.lookup x=some c->c≠b)/\∀p∈X.pn++pins,p.1≠b):Inv X pins σ H' s':=by
 obtain⟨h',g',d',t',o'⟩:=s';have e:o'=s.os:=ho;subst e;exact I.call (g':=g') (t':=t') (d':=d') u hok hg hch
end
abbrev XK:=Value->Option Addr->Hp->Prop
abbrev St:=List (Option V)
abbrev VK:=V->Hp->Prop
abbrev TE:=St->Hp->VK->Prop
abbrev TT:=St->Hp->(Bool->Hp->Prop)->Prop
abbrev TA:=St->Hp->(List V->Hp->Prop)->Prop
structure Ends where
 nx:St->Hp->Prop
 rt:VK
 bk:St->Hp->Prop:=λ_ _=>False
 ct:St->Hp->Prop:=λ_ _=>False
abbrev TS:=Ends->St->Hp->Prop
def EP(X:Cx)(pins:List (Addr×Obj))(σ:St)(Q:VK)(u:Value)(s':Shared):Prop:=∃v H',Inv X pins σ H' s'/\RelV v u/\Q v H'
def TP(X:Cx)(pins:List (Addr×Obj))(σ:St)(Q:Bool->Hp->Prop)(b:Bool)(s':Shared):Prop:=∃H',Inv X pins σ H' s'/\Q b H'
def AP(X:Cx)(pins:List (Addr×Obj))(σ:St)(Q:List V->Hp->Prop)(us:List Value)(s':Shared):Prop:=∃vs H',Inv X pins σ H' s'/\Vals vs us/\Q vs H'
def SP(X:Cx)(pins:List (Addr×Obj))(D:Ends)(f:Flow)(s':Shared):Prop :=
 match f with
 |.next=>∃σ' H',Inv X pins σ' H' s'/\D.nx σ' H'
 |.brk=>∃σ' H',Inv X pins σ' H' s'/\D.bk σ' H'
 |.cont=>∃σ' H',Inv X pins σ' H' s'/\D.ct σ' H'
 |.ret u=>∃v σ' H',Inv X pins σ' H' s'/\RelV v u/\D.rt v H'
def PE(X:Cx)(e:Expr)(t:TE):Prop :=
 ∀(pins:List (Addr×Obj)) (s:Shared) (σ:St) (H:Hp) (Q:VK),Inv X pins σ H s->t σ H Q->wpAny (model X.prog X.w) X.A (eval e X.env) (EP X pins σ Q) X.xe s
def PT(X:Cx)(e:Expr)(t:TT):Prop :=
 ∀(pins:List (Addr×Obj)) (s:Shared) (σ:St) (H:Hp) (Q:Bool->Hp->Prop),Inv X pins σ H s->t σ H Q->wpAny (model X.prog X.w) X.A (isTrue e X.env (eval e X.env)) (TP X pins σ Q) X.xe s
def PW(X:Cx)(e:Expr)(t:TT):Prop :=
 ∀(whole:Sem Value) (pins:List (Addr×Obj)) (s:Shared) (σ:St) (H:Hp) (Q:Bool->Hp->Prop),Inv X pins σ H s->t σ H Q->wpAny (model X.prog X.w) X.A (isTrue e X.env whole) (TP X pins σ Q) X.xe s
theorem PW.pt(h:PW X e t):PT X e t:=h _
def PA(X:Cx)(es:List Expr)(t:TA):Prop :=
 ∀(pos:Pos) (pins:List (Addr×Obj)) (s:Shared) (σ:St) (H:Hp) (Q:List V->Hp->Prop),Inv X pins σ H s->t σ H Q->wpAny (model X.prog X.w) X.A (spliced (backTo pos (starEach es X.env))) (AP X pins σ Q) X.xe s
def PS(X:Cx)(st:Stmt)(t:TS):Prop :=
 ∀(pins:List (Addr×Obj)) (s:Shared) (σ:St) (H:Hp) (D:Ends),Inv X pins σ H s->t D σ H->wpAny (model X.prog X.w) X.A (exec st X.env) (SP X pins D) X.xe s
def yx(X:Cx)(st:List Stmt)(t:TS):Prop :=
 ∀(pins:List (Addr×Obj)) (s:Shared) (σ:St) (H:Hp) (D:Ends),Inv X pins σ H s->t D σ H->wpAny (model X.prog X.w) X.A (execs st X.env) (SP X pins D) X.xe s
theorem b6{α:Type}{t:Sem α}{Q Q':α -> Shared->Prop}(h:wpAny M A t Q E s)(hQ:∀a s,Q a s->Q' a s):wpAny M A t Q' E s:=aa3 h hQ λ_ _ x=>x
section
variable {X:Cx}
theorem bin{a b:Expr}{ta tb:TE}(ha:PE X a ta)(hb:PE X b tb){pins:List (Addr×Obj)}{s:Shared}{σ:St}{H:Hp}{R:V->V->Hp->Prop}(I:Inv X pins σ H s)(h:ta σ H λx H1=>tb σ H1 λy H2=>R x y H2)
  {α:Type} {Q:α -> Shared->Prop} {f:Value->Value->Sem α}
  (hf:∀v u s2 x y H2,Inv X pins σ H2 s2->RelV x v->RelV y u->R x y H2->wpAny (model X.prog X.w) X.A (f v u) Q X.xe s2) :
  wpAny (model X.prog X.w) X.A (eval a X.env) (λv s₁=>wpAny (model X.prog X.w) X.A (eval b X.env) (λu s₂=>wpAny (model X.prog X.w) X.A (f v u) Q X.xe s₂) X.xe s₁) X.xe s:=by
 refine b6 (ha pins s σ H _ I h) λv s1 aJ=>?_;obtain⟨x,H1,I1,r1,q1⟩:=aJ;refine b6 (hb pins s1 σ H1 _ I1 q1) λu s2 aJ=>?_;obtain⟨y,H2,I2,r2,q2⟩:=aJ;exact hf v u s2 x y H2 I2 r1 r2 q2
def sI(i:Nat):TE:=λσ H Q=>∃v,σ[i]?=some (some v)/\Q v H
def tC(v:V):TE:=λ_ H Q=>Q v H
theorem yG{i:Nat}(hN:X.N[i]?=some x)(hv:O5 X.env.scope x)(hd:(x==("__debug__":Str))=false)(hcd:(x==("__classdict__":Str))=false):PE X (.Name x pos) (sI i):=by
 intro pins s σ H Q I h;obtain⟨v,e,h⟩:=h;obtain⟨m,hn,hl⟩:=I.loc;obtain⟨u,r,l⟩:=hl i x v hN e hv;have fin:EP X pins σ Q u s:=⟨v,H,I,r,h⟩
 rcases l with ⟨hk,hm⟩|⟨hk,c,hc,hcell⟩
 ·exact wpAny_Name (wpAny_loadName_local I.ok.kind hk hn hm fin) hd
 ·rcases hk with hk|hk
  ·exact wpAny_Name (wpAny_loadName_cell I.ok.kind hk hc hcell fin) hd
  ·exact wpAny_Name (wpAny_loadName_free I.ok.kind hk hc hcell fin hcd) hd
theorem K0{i j pos}:PE X (.Constant (.int i) j pos) (tC (.int i)):=λ_ _ _ H _ I h=>wpAny_Constant_int ⟨.int i,H,I.tok _,⟨_,rfl⟩,h⟩
theorem Pb{b j pos}:PE X (.Constant (.bool b) j pos) (tC (.bl b)):=λ_ _ _ H _ I h=>Constant_bool ⟨.bl b,H,I,rfl,h⟩
theorem K1{j pos}:PE X (.Constant .none j pos) (tC .non):=λ_ _ _ H _ I h=>Constant_none ⟨.non,H,I,rfl,h⟩
theorem K2{x j pos}:PE X (.Constant (.str x) j pos) (tC (.str x)):=λ_ _ _ H _ I h=>Calls.Constant_str ⟨.str x,H,I.tok _,⟨_,rfl⟩,h⟩
def Gl(X:Cx)(x:Str):Prop:=X.env.kindOf x=some .globalImplicit
theorem kE(I:Inv X pins σ H s)(hg:Gl X x)(hm:X.mg x=some u)(h:Q u s)
  (hd:(x==("__debug__":Str))=false):wpAny (model X.prog X.w) X.A (eval (.Name x pos) X.env) Q E s :=
 Calls.Name_function_global I.ok.kind hg (Calls.loadGlobal_global (by rw[I.ok.glob];exact I.mod.glob.keeps I.bk) hm h) hd
theorem gg(I:Inv X pins σ H s)(hg:Gl X x)(hm:X.mg x=none)(hv:bootBuiltins x=some u)(h:Q u s)
  (hn:x ≠ "__name__":=by decide) (hd:(x==("__debug__":Str))=false:=by decide):wpAny (model X.prog X.w) X.A (eval (.Name x pos) X.env) Q E s:=by
 obtain⟨mb,h1,h2⟩:=I.mod.blt;exact Calls.Name_function_global I.ok.kind hg (Calls.loadGlobal_builtin (by rw[I.ok.glob];exact I.mod.glob.keeps I.bk) hm (by rw[I.ok.blt];exact h1.keeps I.bk) ((h2 x hn).trans hv) h) hd
theorem GZ(hg:Gl X x)(hm:X.mg x=some u)(r:RelV v u)(hd:(x==("__debug__":Str))=false):PE X (.Name x pos) (tC v) :=
 λ_ _ _ H _ I h=>kE I hg hm ⟨v,H,I,r,h⟩ hd
theorem Hf(hg:Gl X x)(hm:X.mg x=none)(hv:bootBuiltins x=some u)(r:RelV v u)(hn:x ≠ "__name__")(hd:(x==("__debug__":Str))=false):PE X (.Name x pos) (tC v) :=
 λ_ _ _ H _ I h=>gg I hg hm hv ⟨v,H,I,r,h⟩ hn hd
variable {a b:Expr} {ta tb:TE} {pos:Pos}
variable {tA Sw:TT} {rest:List Expr}
def Tg(t u:TT):TT:=λσ H Q=>t σ H λc H1=>if c=true then u σ H1 Q else Q false H1
def WR(t u:TT):TT:=λσ H Q=>t σ H λc H1=>if c=true then Q true H1 else u σ H1 Q
def Th(t:TT):TT:=λσ H Q=>t σ H λc H1=>Q (!c) H1
theorem Hg(ha:PT X a tA):PW X (.BoolOp .And [a] pos) tA:=by
 intro wh pins s σ H Q I h;refine isTrue_and (b6 (ha pins s σ H Q I h) λc s1 e=>?_);cases c with
 |true=>exact isTrue_and_nil e
 |false=>exact e
theorem K3(ha:PT X a tA):PW X (.BoolOp .Or [a] pos) tA:=by
 intro wh pins s σ H Q I h;refine isTrue_or (b6 (ha pins s σ H Q I h) λc s1 e=>?_);cases c with
 |false=>exact isTrue_or_nil e
 |true=>exact e
theorem K4(ha:PT X a tA)(hb:PW X (.BoolOp .And (b::rest) pos) Sw):PW X (.BoolOp .And (a::b::rest) pos) (Tg tA Sw):=by
 intro wh pins s σ H Q I h;refine isTrue_and (b6 (ha pins s σ H _ I h) λc s1 aJ=>?_);obtain⟨H1,I1,q1⟩:=aJ;cases c with
 |true=>exact hb wh pins s1 σ H1 Q I1 q1
 |false=>exact⟨H1,I1,q1⟩
theorem Pc(ha:PT X a tA)(hb:PW X (.BoolOp .Or (b::rest) pos) Sw):PW X (.BoolOp .Or (a::b::rest) pos) (WR tA Sw):=by
 intro wh pins s σ H Q I h;refine isTrue_or (b6 (ha pins s σ H _ I h) λc s1 aJ=>?_);obtain⟨H1,I1,q1⟩:=aJ;cases c with
 |true=>exact⟨H1,I1,q1⟩
 |false=>exact hb wh pins s1 σ H1 Q I1 q1
theorem K5(ha:PT X a tA):PT X (.UnaryOp .Not a pos) (Th tA):=by
 intro pins s σ H Q I h;exact isTrue_not (ha pins s σ H (λc H1=>Q (!c) H1) I h)
def Pd(ta tb:TE):TE:=λσ H Q=>ta σ H λx H1=>∃c,x=.bl c/\if c=true then tb σ H1 Q else Q (.bl false) H1
def Ti(ta tb:TE):TE:=λσ H Q=>ta σ H λx H1=>∃c,x=.bl c/\if c=true then Q (.bl true) H1 else tb σ H1 Q
def Pe(ta:TE):TE:=λσ H Q=>ta σ H λx H1=>∃c,x=.bl c/\Q (.bl (!c)) H1
theorem CO{op}(h:PE X a t):PE X (.BoolOp op [a] pos) t:=λpins s σ H Q I hw=>BoolOp_one (h pins s σ H Q I hw)
theorem K6(ha:PE X a ta)(hb:PE X (.BoolOp .And (b::rest) pos) tb):PE X (.BoolOp .And (a::b::rest) pos) (Pd ta tb):=by
 intro pins s σ H Q I h;refine BoolOp_and (b6 (ha pins s σ H _ I h) λv s1 aJ=>?_);obtain⟨x,H1,I1,r1,q1⟩:=aJ;obtain⟨c,rfl,q1⟩:=q1;cases r1;refine abw ?_;cases c with
 |true=>exact hb pins s1 σ H1 Q I1 q1
 |false=>exact⟨.bl false,H1,I1,rfl,q1⟩
theorem Pf(ha:PE X a ta)(hb:PE X (.BoolOp .Or (b::rest) pos) tb):PE X (.BoolOp .Or (a::b::rest) pos) (Ti ta tb):=by
 intro pins s σ H Q I h;refine BoolOp_or (b6 (ha pins s σ H _ I h) λv s1 aJ=>?_);obtain⟨x,H1,I1,r1,q1⟩:=aJ;obtain⟨c,rfl,q1⟩:=q1;cases r1;refine abw ?_;cases c with
 |false=>exact hb pins s1 σ H1 Q I1 q1
 |true=>exact⟨.bl true,H1,I1,rfl,q1⟩
theorem K7(ha:PE X a ta):PE X (.UnaryOp .Not a pos) (Pe ta):=by
 intro pins s σ H Q I h;refine UnaryOp_ (b6 (ha pins s σ H _ I h) λv s1 aJ=>?_);obtain⟨x,H1,I1,r1,q1⟩:=aJ;obtain⟨c,rfl,q1⟩:=q1;cases r1;exact not_of (abw ⟨.bl (!c),H1,I1,rfl,q1⟩)
end
def gA(K:Frag)(H:Hp)(a:Addr)(xs:List V):Prop :=
 Rd H a (.lst xs) \/
  ∃(o:Obj) (its:Array Value) (n:Nat),K.lookup a=some o/\o.cls=.type "list" /\ o.dict=none/\o.data=.seq its n/\its.size<=sizeLine/\Vals xs its.toList
def jP(K:Frag)(H:Hp)(a:Addr)(xs:List V):Prop :=
 Rd H a (.tup xs) \/
  ∃(o:Obj) (its:Array Value) (n:Nat),K.lookup a=some o/\o.cls=.type "tuple" /\ o.data=.seq its n/\its.size<=sizeLine/\Vals xs its.toList
def Tj:Value->Option V
 |.none=>some .non
 |.bool b=>some (.bl b)
 |.int i _=>some (.int i)
 |.str x _=>some (.str x)
 |.bytes b _=>some (.byt b)
 |.float b _=>some (.flt b)
 |.ref a=>some (.ref a)
 |.type n=>some (.ty n)
 |_=>none
theorem RelV.abs(r:RelV x u):Tj u=some x:=by
 cases x with
 |non=>cases r;rfl
 |bl _=>cases r;rfl
 |int _=>obtain⟨t,rfl⟩:=r;rfl
 |str _=>obtain⟨t,rfl⟩:=r;rfl
 |byt _=>obtain⟨t,rfl⟩:=r;rfl
 |flt _=>obtain⟨t,rfl⟩:=r;rfl
 |ref _=>cases r;rfl
 |ty _=>cases r;rfl
theorem RelV.inj(r:RelV x u)(q:RelV y u):x=y:=aat (r.abs.symm.trans q.abs)
theorem Vals.inj:∀{xs ys:List V} {us:List Value},Vals xs us->Vals ys us->xs=ys
 |_,_,_,.nil,.nil=>rfl
 |_,_,_,.cons r t,.cons r' t'=>by rw[r.inj r',Vals.inj t t']
section
variable {X:Cx} {pins:List (Addr×Obj)} {σ:St} {H:Hp} {s:Shared} {a:Addr} {xs ys:List V}
theorem jP.of{K:Frag}(h:H a=some (.tup xs)):jP K H a xs:=.inl (.inl h)
theorem Inv.list(I:Inv X pins σ H s)(h:gA X.K H a xs):∃its:List Value,Vals xs its/\PlainL s.heap a its.toArray/\xs.length<=sizeLine:=by
 rcases h with h|⟨o,its,n,hk,hc,hd,hs,hz,r⟩
 ·obtain⟨z,its,n,r,e⟩:=h.ok I.hok;exact⟨its,r,⟨_,n,e,rfl,rfl,rfl⟩,z⟩
 ·refine⟨its.toList,r,⟨o,n,I.nM a o hk,hc,hd,by simpa using hs⟩,?_⟩;have e:=r.length;simp only[Array.length_toList]at e;omega
theorem Inv.tuple(I:Inv X pins σ H s)(h:jP X.K H a xs):∃its:List Value,Vals xs its/\IsTup s.heap a its.toArray/\xs.length<=sizeLine:=by
 rcases h with h|⟨o,its,n,hk,hc,hs,hz,r⟩
 ·obtain⟨z,its,r,p⟩:=h.ok I.hok;exact⟨its,r,p,z⟩
 ·refine⟨its.toList,r,⟨o,I.nM a o hk,hc,n,by simpa using hs⟩,?_⟩;have e:=r.length;simp only[Array.length_toList]at e;omega
theorem Inv.vX(I:Inv X pins σ H s)(h:gA X.K H a xs)(h':gA X.K H a ys):xs=ys:=by
 obtain⟨its,r,⟨o,n,e,_,_,d⟩,_⟩:=I.list h;obtain⟨its',r',⟨o',n',e',_,_,d'⟩,_⟩:=I.list h';rw[e]at e';cases e';rw[d]at d';injection d' with d1 _
 have:its=its':=by simpa using aaS Array.toList d1
 subst this;exact r.inj r'
theorem Inv.BC(I:Inv X pins σ H s)(h:jP X.K H a xs)(h':jP X.K H a ys):xs=ys:=by
 obtain⟨its,r,⟨o,e,_,n,d⟩,_⟩:=I.tuple h;obtain⟨its',r',⟨o',e',_,n',d'⟩,_⟩:=I.tuple h';rw[e]at e';cases e';rw[d]at d';injection d' with d1 _
 have:its=its':=by simpa using aaS Array.toList d1
 subst this;exact r.inj r'
end
abbrev Cx.sJ(X:Cx)(E:Value->Shared->Prop):Cx:={ X with xe:=E }
abbrev Cx.Pg(X:Cx):Cx:=X.sJ λ_ _=>False
theorem Cx.Ok.sJ{X:Cx}(ok:X.Ok)(E:Value->Shared->Prop):(X.sJ E).Ok :=
 ⟨ok.mod,ok.kind,ok.glob,ok.blt,ok.above,ok.inj,ok.has,ok.O6,ok.hd,ok.frames,ok.stk,ok.Tc,ok.bs,ok.J7,ok.lE,ok.CM,ok.pD,ok.KZ⟩
theorem Cx.Ok.jT{X:Cx}{E:Value->Shared->Prop}(ok:(X.sJ E).Ok):X.Ok :=
 ⟨ok.mod,ok.kind,ok.glob,ok.blt,ok.above,ok.inj,ok.has,ok.O6,ok.hd,ok.frames,ok.stk,ok.Tc,ok.bs,ok.J7,ok.lE,ok.CM,ok.pD,ok.KZ⟩
section
variable {X:Cx} {pins:List (Addr×Obj)} {σ:St} {H:Hp} {s:Shared} {E:Value->Shared->Prop}
theorem Inv.sJ(I:Inv X pins σ H s)(E:Value->Shared->Prop):Inv (X.sJ E) pins σ H s:=⟨I.ok.sJ E,I.os,I.bare,I.base,I.loc,I.cell,I.free,I.gX,I.pin,I.hok,I.len⟩
theorem Inv.jT(I:Inv (X.sJ E) pins σ H s):Inv X pins σ H s:=⟨I.ok.jT,I.os,I.bare,I.base,I.loc,I.cell,I.free,I.gX,I.pin,I.hok,I.len⟩
theorem SP.jT(h:SP (X.sJ E) pins D f s'):SP X pins D f s':=by
 cases f with
 |next=>obtain⟨σ',H',I,q⟩:=h;exact⟨σ',H',I.jT,q⟩
 |brk=>obtain⟨σ',H',I,q⟩:=h;exact⟨σ',H',I.jT,q⟩
 |cont=>obtain⟨σ',H',I,q⟩:=h;exact⟨σ',H',I.jT,q⟩
 |ret u=>obtain⟨v,σ',H',I,r,q⟩:=h;exact⟨v,σ',H',I.jT,r,q⟩
theorem yx.Pg{st:List Stmt}{t:TS}(h:yx X.Pg st t):yx X st t:=λpins s σ H D I hw=>
 aa3 (h pins s σ H D (I.sJ _) hw) (λ_ _ q=>q.jT) λ_ _ z=>False.elim z
end
section
variable {X:Cx} {st:Stmt} {rest:List Stmt} {t u:TS} {e:Expr} {te:TE} {pos:Pos}
def CP:TS:=λD σ H=>D.nx σ H
def Tn(t u:TS):TS:=λD σ H=>t { D with nx:=u D } σ H
theorem Hh:yx X [] CP:=λ_ _ σ H _ I h=>wpAny_execs_nil ⟨σ,H,I,h⟩
theorem CQ(h1:PS X st t)(h2:yx X rest u):yx X (st::rest) (Tn t u):=by
 intro pins s σ H D I h;refine wpAny_execs_cons (b6 (h1 pins s σ H { D with nx:=u D } I h) λf s1 q=>?_);cases f with
 |next=>obtain⟨σ',H',I',q⟩:=q;exact h2 pins s1 σ' H' D I' q
 |ret v=>exact q
 |brk=>exact q
 |cont=>exact q
def K8:TS:=λD σ H=>D.bk σ H
def Ph:TS:=λD σ H=>D.ct σ H
theorem Hi:PS X (.Pass pos) CP:=λ_ _ σ H _ I h=>wpAny_Pass ⟨σ,H,I,h⟩
theorem CS:PS X (.Break pos) K8:=λ_ _ σ H _ I h=>wpAny_Break ⟨σ,H,I,h⟩
theorem vY:PS X (.Continue pos) Ph:=λ_ _ σ H _ I h=>wpAny_Continue ⟨σ,H,I,h⟩
theorem Inv.quiet(I:Inv X pins σ H s):interactive X.env=false:=by simp[interactive,I.ok.kind]
theorem K9{x j pos pos'}:PS X (.Expr (.Constant (.str x) j pos) pos') CP:=λ_ s σ H _ I h=>wpAny_Expr (Calls.Constant_str (show SP X _ _ .next { s with toks:=s.toks+1 } from⟨σ,H,I.tok _,h⟩)) I.quiet
def Pj(te:TE):TS:=λD σ H=>te σ H λ_ H1=>D.nx σ H1
theorem Hj(he:PE X e te)(hs:swapsWith e none pos.line X.env=pure false):PS X (.Expr e pos) (Pj te):=by
 intro pins s σ H D I h;exact wpAny_Expr_any (b6 (he pins s σ H _ I h) λv s1 ⟨x,H1,I1,r1,q1⟩=>⟨σ,H1,I1,q1⟩) I.quiet hs
def To(te:TE):TS:=λD σ H=>te σ H D.rt
theorem La(he:PE X e te):PS X (.Return (some e) pos) (To te):=by
 intro pins s σ H D I h;exact wpAny_Return_some (b6 (he pins s σ H _ I h) λv s1 ⟨x,H1,I1,r1,q1⟩=>⟨x,σ,H1,I1,r1,q1⟩)
def Pk:TS:=λD _ H=>D.rt .non H
theorem Hl:PS X (.Return none pos) Pk:=λ_ _ σ H _ I h=>wpAny_Return_none ⟨.non,σ,H,I,rfl,h⟩
def Tp(c:TT)(t u:TS):TS:=λD σ H=>c σ H λb H1=>if b=true then t D σ H1 else u D σ H1
theorem Pn(hc:PT X c tc)(ha:yx X a t)(hb:yx X b u):PS X (.If c a b pos) (Tp tc t u):=by
 intro pins s σ H D I h;refine wpAny_If (b6 (hc pins s σ H _ I h) λd s1 aJ=>?_);obtain⟨H1,I1,q1⟩:=aJ;cases d with
 |true=>exact ha pins s1 σ H1 D I1 q1
 |false=>exact hb pins s1 σ H1 D I1 q1
def Lb:TS:=λ_ _ _=>False
theorem CT:PS X st Lb:=λ_ _ _ _ _ _ h=>h.elim
end
abbrev TG:=V->St->Hp->(St->Hp->Prop)->Prop
abbrev OJ:=List V->St->Hp->(St->Hp->Prop)->Prop
def PG(X:Cx)(target:Expr)(t:TG):Prop :=
 ∀(pins:List (Addr×Obj)) (s:Shared) (σ:St) (H:Hp) (v:V) (u:Value) (Q:St->Hp->Prop),Inv X pins σ H s->RelV v u->t v σ H Q ->
  wpAny (model X.prog X.w) X.A (assign target X.env u) (λ_ s'=>∃σ' H',Inv X pins σ' H' s'/\Q σ' H') X.xe s
def OL(X:Cx)(ts:List Expr)(t:OJ):Prop :=
 ∀(pins:List (Addr×Obj)) (s:Shared) (σ:St) (H:Hp) (vs:List V) (us:List Value) (Q:St->Hp->Prop),Inv X pins σ H s->Vals vs us->t vs σ H Q ->
  wpAny (model X.prog X.w) X.A (assignInOrder ((assignEach ts X.env).map (·.2)) us) (λ_ s'=>∃σ' H',Inv X pins σ' H' s'/\Q σ' H') X.xe s
abbrev Lc:=V->V->V->Hp->(Hp->Prop)->Prop
def Ld(X:Cx)(t:Lc):Prop :=
 ∀(pins:List (Addr×Obj)) (s:Shared) (σ:St) (H:Hp) (o i v:V) (ov iv u:Value) (Q:Hp->Prop),Inv X pins σ H s->RelV o ov->RelV i iv->RelV v u->t o i v H Q ->
  wpAny (model X.prog X.w) X.A (setItem ov iv u) (λ_ s'=>∃H',Inv X pins σ H' s'/\Q H') X.xe s
abbrev Vc:=V->V->Hp->VK->Prop
def WS(X:Cx)(op:Operator)(t:Vc):Prop :=
 ∀(pins:List (Addr×Obj)) (s:Shared) (σ:St) (H:Hp) (x y:V) (v u:Value) (Q:VK),Inv X pins σ H s->RelV x v->RelV y u->t x y H Q ->
  wpAny (model X.prog X.w) X.A (inplaceOp op v u) (EP X pins σ Q) X.xe s
section
variable {X:Cx} {pos:Pos}
def oR(i:Nat):TG:=λv σ H Q=>Q (σ.set i (some v)) H
theorem pO{i:Nat}(hN:X.N.Nodup)(hi:X.N[i]?=some x)(hx:Loc X.env.scope x)(hf:X.fn x=true\/X.env.scope.names.lookup x=some .local):PG X (.Name x pos) (oR i):=by
 intro pins s σ H v u Q I r h;exact wpAny_assign_Name (qa I hN hi hx r (λs' I'=>⟨_,H,I',h⟩) hf)
def Po:OJ:=λvs σ H Q=>vs=[]/\Q σ H
def J8(t:TG)(u:OJ):OJ:=λvs σ H Q=>∃v r,vs=v::r/\t v σ H λσ' H'=>u r σ' H' Q
theorem zY:OL X [] Po:=by
 intro pins s σ H vs us Q I r h;obtain⟨e,h⟩:=h;subst e;cases r;exact assignInOrder_nil ⟨σ,H,I,h⟩
theorem vZ(h1:PG X e t)(h2:OL X es u)
  (hs:(assignEach (e::es) X.env).map (·.2)=assign e X.env::(assignEach es X.env).map (·.2):=by rfl):OL X (e::es) (J8 t u):=by
 intro pins s σ H vs us Q I r h;obtain⟨v,vr,e1,h⟩:=h;subst e1;cases r with
 |cons r rr=>rw[hs];refine assignInOrder_cons (b6 (h1 pins s σ H _ _ _ I r h) λ_ s1 aJ=>?_);obtain⟨σ1,H1,I1,q1⟩:=aJ;exact h2 pins s1 σ1 H1 _ _ Q I1 rr q1
def Pp(K:Frag)(n:Nat)(t:OJ):TG:=λv σ H Q=>∃a xs,v=.ref a/\jP K H a xs/\xs.length=n/\t xs σ H Q
theorem CU{k:Nat}{n:Nat}(hc:X.calm=true)(h:OL X es t)
  (hn:(assignEach es X.env).length=n) (hst:(assignEach es X.env).findIdx? (·.1)=none):PG X (.Tuple es k pos) (Pp X.K n t):=by
 intro pins s σ H v u Q I r hw;obtain⟨a,xs,e1,hq,hl,hw⟩:=hw;subst e1;cases r;obtain⟨its,rv,ht,hz⟩:=I.tuple hq;refine assign_Tuple_tuple (I.ok.hd hc) ht (by simp[hn,<-hl,rv.length]) hst λh' hx=>?_;have I1:Inv X pins σ H { s with heap:=h' }:=I.kept (t':=s.toks) λb o e=>hx b o (aam (aaf e)) e;exact h pins _ σ H xs _ Q I1 (by simpa using rv) hw
def Pq(to ti:TE)(t:Lc):TG:=λv σ H Q=>to σ H λo H1=>ti σ H1 λi H2=>t o i v H2 λH3=>Q σ H3
theorem Le(ho:PE X o to)(hi:PE X i ti)(hs:Ld X t)
  (ha:∀v,assign (.Subscript o i pos) X.env v=(do
   let ov <-holding [v] (eval o X.env)
   let iv <-holding [v,ov] (eval i X.env)
   standAt pos
   holding [v,ov,iv] (setItem ov iv v)
   release [v,ov,iv] [])):PG X (.Subscript o i pos) (Pq to ti t):=by
 intro pins s σ H v u Q I r h;rw[ha];refine ZZ (aa6 (b6 (ho pins s σ H _ I h) λov s1 aJ=>?_));obtain⟨x,H1,I1,r1,q1⟩:=aJ;refine ZZ (aa6 (b6 (hi pins s1 σ H1 _ I1 q1) λiv s2 aJ=>?_));obtain⟨y,H2,I2,r2,q2⟩:=aJ;refine ZZ (wpAny_standAt (ZZ (aa6 (b6 (hs pins s2 σ H2 x y v ov iv u _ I2 r1 r2 r q2) λ_ s3 aJ=>?_))));obtain⟨H3,I3,q3⟩:=aJ;exact wpAny_release ⟨σ,H3,I3,q3⟩
def Ho(te:TE)(g:TG):TS:=λD σ H=>te σ H λx H1=>g x σ H1 D.nx
theorem CV(he:PE X e te)(hg:PG X tg g)(hs:swapsWithSole [tg] e pos.line X.env=pure false)(hw:swappedStores [tg] e X.env=pure none)
  (h1:(assignEach [tg] X.env).map (·.2)=[assign tg X.env]):PS X (.Assign [tg] e pos) (Ho te g):=by
 intro pins s σ H D I h;refine wpAny_Assign_stores (b6 (he pins s σ H _ I h) λv s1 ⟨x,H1,I1,r1,q1⟩=>?_) hs hw;rw[h1];exact b6 (hg pins s1 σ H1 x v _ I1 r1 q1) λ_ s2 q=>q
theorem CW{i:Nat}(hN:X.N.Nodup)(hi:X.N[i]?=some x)(hx:Loc X.env.scope x)(he:PE X e te)(hs:swapsWith e (some (.Name x pos')) pos.line X.env=pure false)(hf:X.fn x=true\/X.env.scope.names.lookup x=some .local) :
  PS X (.Assign [.Name x pos'] e pos) (Ho te (oR i)):=by
 intro pins s σ H D I h;refine wpAny_Assign_Name (b6 (he pins s σ H _ I h) λv s1 ⟨y,H1,I1,r1,q1⟩=>?_) hs;exact qa I1 hN hi hx r1 (λs2 I2=>⟨_,H1,I2,q1⟩) hf
def Tq(i:Nat)(te:TE)(ti:Vc):TS:=λD σ H=>∃x,σ[i]?=some (some x)/\te σ H λy H1=>ti x y H1 λz H2=>D.nx (σ.set i (some z)) H2
theorem Lf{i:Nat}(hN:X.N.Nodup)(hi:X.N[i]?=some x)(hx:Loc X.env.scope x)(he:PE X e te)(ho:WS X op ti)(hf:X.fn x=true\/X.env.scope.names.lookup x=some .local) :
  PS X (.AugAssign (.Name x pos') op e pos) (Tq i te ti):=by
 intro pins s σ H D I h;obtain⟨v,e1,h⟩:=h;obtain⟨m,hn,hl⟩:=I.loc;have vis:O5 X.env.scope x:=by rcases hx with k|k;exact .inl k;exact .inr (.inl k)
 obtain⟨u,r,l⟩:=hl i x v hi e1 vis;refine wpAny_AugAssign_Name ?_;have go:wpAny (model X.prog X.w) X.A (eval e X.env) (λw s₂=>wpAny (model X.prog X.w) X.A (inplaceOp op u w) (λr s₃=>wpAny (model X.prog X.w) X.A (storeName X.env x r) (λ_=>SP X pins D .next) X.xe s₃) X.xe s₂) X.xe s:=by refine b6 (he pins s σ H _ I h) λw s1 aJ=>?_;obtain⟨y,H1,I1,r1,q1⟩:=aJ;refine b6 (ho pins s1 σ H1 v y u w _ I1 r r1 q1) λz s2 aJ=>?_;obtain⟨zv,H2,I2,r2,q2⟩:=aJ;exact qa I2 hN hi hx r2 (λs3 I3=>⟨_,H2,I3,q2⟩) hf
 rcases l with ⟨hk,hm⟩|⟨hk,c,hc,hcell⟩
 ·exact wpAny_loadName_local I.ok.kind hk hn hm go
 ·rcases hk with hk|hk
  ·exact wpAny_loadName_cell I.ok.kind hk hc hcell go
  ·rcases hx with k|k
   ·have:X.env.scope.names.lookup x=some .free:=hk;rw[k]at this;cases this
   ·have:X.env.scope.names.lookup x=some .free:=hk;rw[k]at this;cases this
end
section
variable {X:Cx} {pos:Pos}
def Lg(c:TT)(tb:TS):TS:=λD σ H=>∃W:Nat->St->Hp->Prop,(∃m,W m σ H)/\∀m σ H,W m σ H ->
 c σ H λb H1=>if b=true then ∃N:St->Hp->Prop,(∀σ' H',N σ' H'->∃m',m'<m/\W m' σ' H')/\tb { D with nx:=N,ct:=N,bk:=D.nx } σ H1 else D.nx σ H1
theorem CY(hp:PassesOwn (model X.prog X.w) X.A X.env X.xe)(hc:PT X c tc)(hb:yx X body tb):PS X (.While c body [] pos) (Lg tc tb):=by
 intro pins s σ H D I h;obtain⟨W,⟨m0,w0⟩,turn⟩:=h;refine wpAny_While (codeAny_whileLoop (λn s'=>∃σ' H',Inv X pins σ' H' s'/\W n σ' H') ?_ m0 ⟨σ,H,I,w0⟩);rintro n s1 ⟨σ1,H1,I1,w1⟩;refine abt hp (b6 (hc pins s1 σ1 H1 _ I1 (turn n σ1 H1 w1)) λb s2 aJ=>?_);obtain⟨H2,I2,q2⟩:=aJ;cases b with
 |true=>
  obtain⟨N,hN,q2⟩:=q2;rw[Z7 rfl];refine abt hp (b6 (hb pins s2 σ1 H2 _ I2 q2) λf s3 q3=>?_);cases f with
  |next=>obtain⟨σ3,H3,I3,n3⟩:=q3;obtain⟨m',hm,w3⟩:=hN σ3 H3 n3;exact⟨m',hm,σ3,H3,I3,w3⟩
  |cont=>obtain⟨σ3,H3,I3,n3⟩:=q3;obtain⟨m',hm,w3⟩:=hN σ3 H3 n3;exact⟨m',hm,σ3,H3,I3,w3⟩
  |brk=>exact q3
  |ret v=>exact q3
 |false=>rw[Z8 Z0];exact wpAny_execs_nil ⟨σ1,H2,I2,q2⟩
end
structure It where
 go:Nat->Hp->Prop
 yH:Nat->Hp->V->Hp->Prop
 stop:Nat->Hp->Prop
def pF(X:Cx)(pins:List (Addr×Obj))(H:Hp)(b:Addr):Prop :=
 H b=none/\b≠X.env.locals/\b∉X.fs/\(b∈X.ex\/X.s₀.heap.objs.size<=b)/\(∀x c,X.env.cells.lookup x=some c->c≠b)/\∀p∈X.pn++pins,p.1≠b
theorem Inv.CZ(I:Inv X pins σ H s)(hb:s.heap.objs.size<=b)(hn:H' b=none):pF X pins H' b:=by
 refine⟨hn,abO (aah I.lt hb),I.Te hb,.inr (aay I.sz hb),λx c e z=>?_,λp hp z=>?_⟩
 ·obtain⟨v,q⟩:=I.cell x c e;exact absurd (aah q.lt (by rw[z];exact hb)) (aa0 _)
 ·exact absurd (aah (aaf (I.pin p hp).1) (by rw[z];exact hb)) (aa0 _)
structure Turn (P:Program) (w:World) (K:Frag) (tg:Expr) (J:It) (fp:List Addr) (it:Addr) (tn:Nat->Heap->Prop):Prop where
 mem:it∈fp
 obj:∀i h,tn i h->∀b∈fp,∃o,h.get? b=some o/\∀v,o.data≠.cell v
 keep:∀i h h',tn i h->(∀b∈fp,∀o,h.get? b=some o->h'.get? b=some o)->tn i h'
 item:∀(X:Cx),X.prog=P->X.w=w->X.K=K->X.calm=true->∀(i:Nat) (pins:List (Addr×Obj)) (s:Shared) (σ:St) (H:Hp) (E:Value->Shared->Prop),Inv X pins σ H s->(∀b∈fp,pF X pins H b)->tn i s.heap->J.go i H ->
  wpAny (model P w) X.A (pyNext (.ref it)) (λr s1=>∃u,r=some u /\
   wpAny (model P w) X.A (letOwnedTupleGo tg (.ref it) u) (λ_ s2=>∃x H',Inv X pins σ H' s2/\RelV x u/\J.yH i H x H'/\tn (i+1) s2.heap/\∀b∈fp,H' b=none) E s1) E s
 done:∀(X:Cx),X.prog=P->X.w=w->X.K=K->X.calm=true->∀(i:Nat) (pins:List (Addr×Obj)) (s:Shared) (σ:St) (H:Hp) (E:Value->Shared->Prop),Inv X pins σ H s->(∀b∈fp,pF X pins H b)->tn i s.heap->J.stop i H ->
  wpAny (model P w) X.A (pyNext (.ref it)) (λr s1=>r=none/\Inv X pins σ H s1) E s
 self:∀(A:Around) (i:Nat) (s:Shared) (Q:Value->Shared->Prop) (E:Value->Shared->Prop),tn i s.heap->Q (.ref it) s->wpAny (model P w) A (pyIter (.ref it)) Q E s
abbrev TI:=St->Hp->(It->Hp->Prop)->Prop
def Vd(X:Cx)(pins:List (Addr×Obj))(σ:St)(tg:Expr)(R:It->Hp->Prop)(itv:Value)(s2:Shared):Prop :=
 ∃(it:Addr) (fp:List Addr) (tn:Nat->Heap->Prop) (J:It) (H':Hp),itv=.ref it/\Inv X pins σ H' s2/\Turn X.prog X.w X.K tg J fp it tn/\tn 0 s2.heap/\(∀b∈fp,pF X pins H' b)/\R J H'
def PI(X:Cx)(tg iter:Expr)(wi:TI):Prop :=
 ∀(pins:List (Addr×Obj)) (s:Shared) (σ:St) (H:Hp) (R:It->Hp->Prop),Inv X pins σ H s->wi σ H R ->
  wpAny (model X.prog X.w) X.A (eval iter X.env) (λv s1=>wpAny (model X.prog X.w) X.A (pyIter v) (Vd X pins σ tg R) X.xe s1) X.xe s
theorem zZ{n:String}(ho:s.heap.get? it=some o)(hc:o.cls=.type n)(hd:o.data=.fields vs)
  (hn:["enumerate","zip","dict_itemiterator","dict_reverseitemiterator","odict_iterator","itertools.zip_longest","itertools.pairwise"].contains n=false) (hQ:Q () s):wpAny M A (letOwnedTupleGo tg (.ref it) u) Q E s:=by
 unfold letOwnedTupleGo;cases tg<;>first
  |exact Z6 hQ
  | (cases u<;>first
    |exact Z6 hQ
    | (refine ZZ (wpAny_load ho ?_)
       rw[hc,hd];show wpAny M A (if (["enumerate","zip","dict_itemiterator","dict_reverseitemiterator","odict_iterator","itertools.zip_longest","itertools.pairwise"].contains n&&vs[0]?==some (rawInt _))=true then _ else _) Q E s;rw[Z8 (by intro h;rw[hn,Bool.false_and]at h;cases h)];exact Z6 hQ))
def Sx(K:Frag)(a:Addr):It :=
 ⟨λi H=>∃xs x,gA K H a xs/\xs[i]?=some x,λi H x H'=>H'=H/\∀xs,gA K H a xs->xs[i]?=some x,λi H=>∃xs,gA K H a xs/\xs.length<=i⟩
def Tr(K:Frag)(a:Addr):It :=
 ⟨λi H=>∃xs x,jP K H a xs/\xs[i]?=some x,λi H x H'=>H'=H/\∀xs,jP K H a xs->xs[i]?=some x,λi H=>∃xs,jP K H a xs/\xs.length<=i⟩
def Pu(lo:Int)(n:Nat):It:=⟨λi _=>i<n,λi H x H'=>H'=H/\x=.int (lo+i),λi _=>n<=i⟩
theorem BD{P:Program}{w:World}{K:Frag}{tg:Expr}(a it:Addr):Turn P w K tg (Sx K a) [it] it (λi h=>h.IsListIter it a i) where
 mem:=by simp
 obj:=λi h st b hb=>by
  have e:b=it:=by simpa using hb
  subst e;obtain⟨o,e,c,d⟩:=st;exact⟨o,e,λv z=>by rw[d]at z;cases z⟩
 keep:=λi h h' st k=>st.at λo e=>k it (by simp) o e
 item:=by intro X hP hw hK hc i pins s σ H E I hf st hg;subst hP hw hK;obtain⟨xs,x,hq,hx⟩:=hg;obtain⟨its,rv,p,hz⟩:=I.list hq;obtain⟨u,hu,ru⟩:=rv.get hx;obtain⟨f0,f1,f2,f3,f4,f5⟩:=hf it (by simp);refine wpAny_pyNext_list_item st p.isList (x:=u) (by simpa using hu) λh' st' sb=>?_;have I1:Inv X pins σ H { s with heap:=h' }:=I.turned (t':=s.toks) (λb o hb e=>(sb.2 b hb).trans e) f0 f1 f3 f4 f5;obtain⟨o,e,c,d⟩:=id st';exact⟨u,rfl,zZ (s:={ s with heap:=h' }) e c d (by decide) ⟨x,H,I1,ru,⟨rfl,λys hy=>by rw[I.vX hy hq];exact hx⟩,st',λb hb=>(hf b hb).1⟩⟩
 done:=by intro X hP hw hK hc i pins s σ H E I hf st hg;subst hP hw hK;obtain⟨xs,hq,hx⟩:=hg;obtain⟨its,rv,p,hz⟩:=I.list hq;obtain⟨f0,f1,f2,f3,f4,f5⟩:=hf it (by simp);have hl:=rv.length;exact wpAny_pyNext_list_end (I.ok.hd hc) st p.isList (by simp;omega) λh' eb=>⟨rfl,I.turned (t':=s.toks) (λb o hb e=>eb b o hb e) f0 f1 f3 f4 f5⟩
 self:=λ_ _ _ _ _ st h=>wpAny_pyIter_listiter st h
theorem yI{P:Program}{w:World}{K:Frag}{tg:Expr}(a it:Addr):Turn P w K tg (Tr K a) [it] it (λi h=>h.IsTupleIter it a i) where
 mem:=by simp
 obj:=λi h st b hb=>by
  have e:b=it:=by simpa using hb
  subst e;obtain⟨o,e,c,d⟩:=st;exact⟨o,e,λv z=>by rw[d]at z;cases z⟩
 keep:=λi h h' st k=>st.at λo e=>k it (by simp) o e
 item:=by intro X hP hw hK hc i pins s σ H E I hf st hg;subst hP hw hK;obtain⟨xs,x,hq,hx⟩:=hg;obtain⟨its,rv,p,hz⟩:=I.tuple hq;obtain⟨u,hu,ru⟩:=rv.get hx;obtain⟨f0,f1,f2,f3,f4,f5⟩:=hf it (by simp);refine wpAny_pyNext_tuple_item st (show s.heap.IsTuple a its.toArray from p) (x:=u) (by simpa using hu) λh' st' sb=>?_;have I1:Inv X pins σ H { s with heap:=h' }:=I.turned (t':=s.toks) (λb o hb e=>(sb.2 b hb).trans e) f0 f1 f3 f4 f5;obtain⟨o,e,c,d⟩:=id st';exact⟨u,rfl,zZ (s:={ s with heap:=h' }) e c d (by decide) ⟨x,H,I1,ru,⟨rfl,λys hy=>by rw[I.BC hy hq];exact hx⟩,st',λb hb=>(hf b hb).1⟩⟩
 done:=by intro X hP hw hK hc i pins s σ H E I hf st hg;subst hP hw hK;obtain⟨xs,hq,hx⟩:=hg;obtain⟨its,rv,p,hz⟩:=I.tuple hq;obtain⟨f0,f1,f2,f3,f4,f5⟩:=hf it (by simp);have hl:=rv.length;exact wpAny_pyNext_tuple_end (I.ok.hd hc) st (show s.heap.IsTuple a its.toArray from p) (by simp;omega) λh' eb=>⟨rfl,I.turned (t':=s.toks) (λb o hb e=>eb b o hb e) f0 f1 f3 f4 f5⟩
 self:=λ_ _ _ _ _ st h=>wpAny_pyIter_tupleiter st h
theorem yJ{P:Program}{w:World}{K:Frag}{tg:Expr}(it:Addr)(lo:Int)(n:Nat):Turn P w K tg (Pu lo n) [it] it (λi h=>IsRangeIter h it (lo+(i:Nat)*1) ((n:Int)-(i:Nat)) 1) where
 mem:=by simp
 obj:=λi h st b hb=>by
  have e:b=it:=by simpa using hb
  subst e;exact⟨_,st,λv z=>by
   have z':Data.fields _=Data.cell v:=z;cases z'⟩
 keep:=λi h h' st k=>k it (by simp) _ st
 item:=by intro X hP hw hK hc i pins s σ H E I hf st hg;subst hP hw hK;obtain⟨f0,f1,f2,f3,f4,f5⟩:=hf it (by simp);have W:=Walks.range (prog:=X.prog) (w:=X.w) (I.ok.hd hc) it lo 1 n;refine W.item i s _ _ hg st λv h' tk hv st' kk=>?_;obtain⟨t,rfl⟩:=hv;have I1:Inv X pins σ H { s with heap:=h',toks:=tk }:=I.turned (λb o hb e=>kk b o (by simpa using hb) e) f0 f1 f3 f4 f5;refine⟨_,rfl,zZ (s:={ s with heap:=h',toks:=tk }) (n:="range_iterator") st' rfl rfl (by decide) ⟨.int (lo+i),H,I1,⟨t,?_⟩,⟨rfl,rfl⟩,st',λb hb=>(hf b hb).1⟩⟩;rw[Int.mul_one]
 done:=by intro X hP hw hK hc i pins s σ H E I hf st hg;subst hP hw hK;obtain⟨f0,f1,f2,f3,f4,f5⟩:=hf it (by simp);exact wpAny_pyNext_range_end (I.ok.hd hc) st (by have:n<=i:=hg;omega) λh' eb=>⟨rfl,I.turned (t':=s.toks) (λb o hb e=>eb b o hb e) f0 f1 f3 f4 f5⟩
 self:=λ_ _ _ _ _ st h=>wpAny_pyIter_rangeiter st h
section
variable {X:Cx} {tg:Expr}
def Pw(K:Frag)(tl:TE):TI:=λσ H R=>tl σ H λx H1=>∃a,x=.ref a/\(∃xs,gA K H1 a xs)/\R (Sx K a) H1
def Tt(K:Frag)(tl:TE):TI:=λσ H R=>tl σ H λx H1=>∃a,x=.ref a/\(∃xs,jP K H1 a xs)/\R (Tr K a) H1
theorem Hq(hl:PE X l tl):PI X tg l (Pw X.K tl):=by
 intro pins s σ H R I h;refine b6 (hl pins s σ H _ I h) λv s1 aJ=>?_;obtain⟨x,H1,I1,r1,q1⟩:=aJ;obtain⟨a,e,⟨xs,hq⟩,q⟩:=q1;subst e;cases r1;obtain⟨its,rv,p,hz⟩:=I1.list hq;refine wpAny_pyIter_list p.isList ?_;refine⟨s1.heap.objs.size,[s1.heap.objs.size],_,_,H1,rfl,I1.kept (t':=s1.toks) λb o e=>Z3 _ e,BD a _,⟨_,aaj _ rfl,rfl,rfl⟩,λb hb=>?_,q⟩;have e:b=s1.heap.objs.size:=by simpa using hb
 subst e;exact I1.CZ (aaa _) (I1.hok.fresh (aaa _))
theorem Lh(hl:PE X l tl):PI X tg l (Tt X.K tl):=by
 intro pins s σ H R I h;refine b6 (hl pins s σ H _ I h) λv s1 aJ=>?_;obtain⟨x,H1,I1,r1,q1⟩:=aJ;obtain⟨a,e,⟨xs,hq⟩,q⟩:=q1;subst e;cases r1;obtain⟨its,rv,p,hz⟩:=I1.tuple hq;refine wpAny_pyIter_tuple (show s1.heap.IsTuple a its.toArray from p) ?_;refine⟨s1.heap.objs.size,[s1.heap.objs.size],_,_,H1,rfl,I1.kept (t':=s1.toks) λb o e=>Z3 _ e,yI a _,⟨_,aaj _ rfl,rfl,rfl⟩,λb hb=>?_,q⟩;have e:b=s1.heap.objs.size:=by simpa using hb
 subst e;exact I1.CZ (aaa _) (I1.hok.fresh (aaa _))
theorem v5{lo hi:Int}{tk:Nat}(I:Inv X pins σ H s)(h1:-(2 ^ 62)<=lo)(h2:lo<2 ^ 62)(h3:-(2 ^ 62)<=hi)(h4:hi<2 ^ 62)
  (q:R (Pu lo (hi-lo).toNat) H):wpAny (model X.prog X.w) X.A (pyIter (.ref s.heap.objs.size)) (Vd X pins σ tg R) E { s with heap:=s.heap.push { cls:=.type "range",data:=.fields [.int lo t,.int hi u,.int 1 v].toArray },toks:=tk }:=by
 refine wpAny_pyIter_range (IsRange.new ..) (small_one h1 h2 h3 h4) ?_;have I1:Inv X pins σ H { s with heap:=s.heap.push { cls:=.type "range",data:=.fields [.int lo t,.int hi u,.int 1 v].toArray },toks:=tk }:=I.kept λb o e=>Z3 _ e;refine⟨(s.heap.push { cls:=.type "range",data:=.fields [.int lo t,.int hi u,.int 1 v].toArray }).objs.size,[(s.heap.push { cls:=.type "range",data:=.fields [.int lo t,.int hi u,.int 1 v].toArray }).objs.size],_,_,H,rfl,
  I1.kept (t':=tk) λb o e=>Z3 _ e,yJ _ lo (hi-lo).toNat,?_,λb hb=>?_,q⟩
 ·have e1:lo+((0:Nat):Int)*1=lo:=by simp
  have e2:(((hi-lo).toNat:Nat):Int)-((0:Nat):Int)=Builtin.Range.rangeSize lo hi 1:=by rw[rangeSize_one];split<;>omega
  show IsRangeIter _ _ (lo+((0:Nat):Int)*1) ((((hi-lo).toNat:Nat):Int)-((0:Nat):Int)) 1;rw[e1,e2];exact aaj _ rfl
 ·have e:b=(s.heap.push { cls:=.type "range",data:=.fields [.int lo t,.int hi u,.int 1 v].toArray }).objs.size:=by simpa using hb
  subst e;exact I1.CZ (aaa _) (I1.hok.fresh (aaa _))
def Px(ta:TA):TI:=λσ H R=>ta σ H λvs H1=>∃j:Int,vs=[.int j] /\ -(2 ^ 62)<=j/\j<2 ^ 62/\R (Pu 0 j.toNat) H1
def Py(ta:TA):TI:=λσ H R=>ta σ H λvs H1=>∃i j:Int,vs=[.int i,.int j]/\(-(2 ^ 62)<=i/\i<2 ^ 62 /\ -(2 ^ 62)<=j/\j<2 ^ 62)/\R (Pu i (j-i).toNat) H1
theorem BE(hg:Gl X "range")(hm:X.mg "range" = none)(ha:PA X [a] ta)(hs:starEach [a] X.env=[(false,eval a X.env)]):PI X tg (.Call (.Name "range" p) [a] [] pos) (Px ta):=by
 intro pins s σ H R I h;refine Call_ (gg I hg hm boot_range (aaJ (b6 (ha pos pins s σ H _ I h) λus s1 aJ=>?_) hs rfl));obtain⟨vs,H1,I1,r1,q1⟩:=aJ;obtain⟨j,e,q1,q2,q⟩:=q1;subst e;cases r1 with
 |cons r rr=>cases rr;obtain⟨t,rfl⟩:=r;exact call_range_1 (v5 I1 (by omega) (by omega) q1 q2 (by simpa using q))
theorem BF(hg:Gl X "range")(hm:X.mg "range" = none)(ha:PA X [a,b] ta)(hs:starEach [a,b] X.env=[(false,eval a X.env),(false,eval b X.env)])(hs2:starEach [b] X.env=[(false,eval b X.env)]) :
  PI X tg (.Call (.Name "range" p) [a,b] [] pos) (Py ta):=by
 intro pins s σ H R I h;refine Call_ (gg I hg hm boot_range (aaJ (b6 (ha pos pins s σ H _ I h) λus s1 ⟨vs,H1,I1,r1,q1⟩=>?_) (by rw[hs,hs2]) (by rw[hs2];rfl)));obtain⟨i,j,e,⟨q1,q2,q3,q4⟩,q⟩:=q1;subst e;cases r1 with
 |cons r rr=>
  cases rr with
  |cons r' rr=>cases rr;obtain⟨t,rfl⟩:=r;obtain⟨t',rfl⟩:=r';exact call_range_2 (v5 I1 q1 q2 q3 q4 q)
def Tu(wi:TI)(g:TG)(tb:TS):TS:=λD σ H=>wi σ H λJ H1=>∃W:Nat->Nat->St->Hp->Prop,(∃m,W 0 m σ H1)/\∀i m σ H,W i m σ H ->
 (J.stop i H/\D.nx σ H)\/(J.go i H/\∃N:St->Hp->Prop,(∀σ' H',N σ' H'->∃m',m'<m/\W (i+1) m' σ' H')/\∀x H',J.yH i H x H'->g x σ H' λσ2 H2=>tb { D with nx:=N,ct:=N,bk:=D.nx } σ2 H2)
def qb(fp:List Addr)(h:Heap):List (Addr×Obj):=fp.filterMap λb=>(h.get? b).map λo=>(b,o)
theorem jc(hb:b∈fp)(e:h.get? b=some o):(b,o)∈qb fp h:=List.mem_filterMap.mpr ⟨b,hb,by rw[e];rfl⟩
theorem BG(hp:p∈qb fp h):p.1∈fp/\h.get? p.1=some p.2:=by
 obtain⟨b,hb,e⟩:=List.mem_filterMap.mp hp;cases q:h.get? b with
 |none=>rw[q]at e;cases e
 |some o=>rw[q]at e;have e':(b,o)=p:=aat e;subst e';exact⟨hb,q⟩
theorem Inv.pinned(I:Inv X pins σ H s)(hf:∀b∈fp,pF X pins H b)(ho:∀b∈fp,∃o,s.heap.get? b=some o/\∀v,o.data≠.cell v):Inv X (pins++qb fp s.heap) σ H s :=
 I.zX λp hp=>(aaF.mp hp).elim (λz=>I.pin p (aaz _ z)) λz=>by
  obtain⟨hb,e⟩:=BG z;obtain⟨f0,f1,f2,_⟩:=hf p.1 hb;obtain⟨o,e',d⟩:=ho p.1 hb;rw[e]at e';cases e';exact⟨e,f0,f1,f2,d⟩
theorem Inv.lY(I:Inv X (pins++pl) σ H s):Inv X pins σ H s:=I.zX λp hp=>I.pin p (aaz _ (aaL _ hp))
theorem Li(hp:PassesOwn (model X.prog X.w) X.A X.env X.xe)(hc:X.calm=true)(hi:PI X tg iter wi)(hg:PG X tg g)(hb:yx X body tb)
  (hs:∀x,foldedSetIterable iter X.env x=pure x):PS X (.For tg iter body [] pos) (Tu wi g tb):=by
 intro pins s σ H D I h;refine wpAny_For (b6 (hi pins s σ H _ I h) λv s1 h1=>b6 h1 λitv s2 h2=>?_) hs;obtain⟨it,fp,tn,J,H2,e,I2,T,st2,f2,W,⟨m0,w0⟩,turn⟩:=h2;subst e;have stat:∀{H':Hp},(∀b∈fp,H' b=none)->∀b∈fp,pF X pins H' b:=λhn b hb=>⟨hn b hb,(f2 b hb).2⟩;refine codeAny_forLoop_any (λn s'=>∃i σ' H',Inv X pins σ' H' s'/\tn i s'.heap/\(∀b∈fp,H' b=none)/\W i n σ' H') ?_ m0 ⟨0,σ,H2,I2,st2,λb hb=>(f2 b hb).1,w0⟩;rintro n s3 ⟨i,σ3,H3,I3,st3,Ve,w3⟩
 rcases turn i n σ3 H3 w3 with ⟨stop,qn⟩|⟨go,N,hN,step⟩
 ·refine abt hp (b6 (T.done X rfl rfl rfl hc i pins s3 σ3 H3 X.xe I3 (stat Ve) st3 stop) λr s4 aJ=>?_);obtain⟨hr,I4⟩:=aJ;subst hr;exact wpAny_execs_nil ⟨σ3,H3,I4,qn⟩
 ·refine abt hp (b6 (T.item X rfl rfl rfl hc i pins s3 σ3 H3 X.xe I3 (stat Ve) st3 go) λr s4 aJ=>?_)
  obtain⟨u,hr,h4⟩:=aJ;subst hr;refine abt hp (b6 h4 λ_ s5 aJ=>?_);obtain⟨x,H5,I5,r5,y5,OM,Sy⟩:=aJ;have WU:=I5.pinned (stat Sy) (T.obj _ _ OM);refine abt hp (b6 (hg _ s5 σ3 H5 x u _ WU r5 (step x H5 y5)) λ_ s6 aJ=>?_);obtain⟨σ6,H6,I6,q6⟩:=aJ;refine abt hp (b6 (hb _ s6 σ6 H6 _ I6 q6) λf s7 q7=>?_);have again:∀{σ7:St} {H7:Hp},Inv X (pins++qb fp s5.heap) σ7 H7 s7->N σ7 H7->∃m,m<n/\∃i σ' H',Inv X pins σ' H' s7/\tn i s7.heap/\(∀b∈fp,H' b=none)/\W i m σ' H':=λ{σ7 H7} I7 n7=>by
   obtain⟨m',hm,w7⟩:=hN σ7 H7 n7;refine⟨m',hm,i+1,σ7,H7,I7.lY,T.keep _ _ _ OM λb hb o e=>(I7.pin (b,o) (aaz _ (aaz _ (jc hb e)))).1,λb hb=>?_,w7⟩;obtain⟨o,e,d⟩:=T.obj _ _ OM b hb;exact(I7.pin (b,o) (aaz _ (aaz _ (jc hb e)))).2.1
  cases f with
  |next=>obtain⟨σ7,H7,I7,n7⟩:=q7;exact again I7 n7
  |cont=>obtain⟨σ7,H7,I7,n7⟩:=q7;exact again I7 n7
  |brk=>obtain⟨σ7,H7,I7,q7⟩:=q7;exact⟨σ7,H7,I7.lY,q7⟩
  |ret v=>obtain⟨x7,σ7,H7,I7,r7,q7⟩:=q7;exact⟨x7,σ7,H7,I7.lY,r7,q7⟩
end
abbrev R2:=V->V->Hp->VK->Prop
def jU(X:Cx)(f:Value->Value->Sem Value)(r:R2):Prop :=
 ∀(pins:List (Addr×Obj)) (s:Shared) (σ:St) (H:Hp) (x y:V) (v u:Value) (Q:VK),Inv X pins σ H s->RelV x v->RelV y u->r x y H Q ->
  wpAny (model X.prog X.w) X.A (f v u) (EP X pins σ Q) X.xe s
def Sz(X:Cx)(f:Value->Sem Value)(r:V->Hp->VK->Prop):Prop :=
 ∀(pins:List (Addr×Obj)) (s:Shared) (σ:St) (H:Hp) (x:V) (v:Value) (Q:VK),Inv X pins σ H s->RelV x v->r x H Q ->
  wpAny (model X.prog X.w) X.A (f v) (EP X pins σ Q) X.xe s
def cV(X:Cx)(f:Value)(r:List V->Hp->VK->Prop):Prop :=
 ∀(pins:List (Addr×Obj)) (s:Shared) (σ:St) (H:Hp) (xs:List V) (us:List Value) (Q:VK),Inv X pins σ H s->Vals xs us->r xs H Q ->
  wpAny (model X.prog X.w) X.A (call f us) (EP X pins σ Q) X.xe s
def Tv(X:Cx)(r:V->Hp->(Bool->Hp->Prop)->Prop):Prop :=
 ∀(pins:List (Addr×Obj)) (s:Shared) (σ:St) (H:Hp) (x:V) (v:Value) (Q:Bool->Hp->Prop),Inv X pins σ H s->RelV x v->r x H Q ->
  wpAny (model X.prog X.w) X.A (truthy v) (TP X pins σ Q) X.xe s
def ON(r:R2)(ta tb:TE):TE:=λσ H Q=>ta σ H λx H1=>tb σ H1 λy H2=>r x y H2 Q
def WW(r:V->Hp->VK->Prop)(ta:TE):TE:=λσ H Q=>ta σ H λx H1=>r x H1 Q
def rI(C:Int->Int->Prop)(g:Int->Int->V):R2:=λx y H Q=>∃i j,x=.int i/\y=.int j/\C i j/\Q (g i j) H
def GK(g:Int->Int->V):R2:=λx y H Q=>∃i j,x=.int i/\y=.int j/\Q (g i j) H
def rU(g:Int->V):V->Hp->VK->Prop:=λx H Q=>∃i,x=.int i/\Q (g i) H
section
variable {X:Cx} {a b c:Expr} {ta tb tc:TE} {pos:Pos}
theorem Lj(ha:PE X a ta)(hb:PE X b tb){pins:List (Addr×Obj)}{s:Shared}{σ:St}{H:Hp}{R:V->V->Hp->Prop}(I:Inv X pins σ H s)
  (h:ta σ H λx H1=>tb σ H1 λy H2=>R x y H2) {Q:Value->Shared->Prop} {f:Value->Value->Sem Value}
  (hf:∀v u s2 x y H2,Inv X pins σ H2 s2->RelV x v->RelV y u->R x y H2->wpAny (model X.prog X.w) X.A (f v u) Q X.xe s2) :
  wpAny (model X.prog X.w) X.A (eval a X.env) (λv s₁=>wpAny (model X.prog X.w) X.A (eval b X.env) (λu s₂=>wpAny (model X.prog X.w) X.A (f v u) Q X.xe s₂) X.xe s₁) X.xe s:=by
 refine b6 (ha pins s σ H _ I h) λv s1 aJ=>?_;obtain⟨x,H1,I1,r1,q1⟩:=aJ;refine b6 (hb pins s1 σ H1 _ I1 q1) λu s2 aJ=>?_;obtain⟨y,H2,I2,r2,q2⟩:=aJ;exact hf v u s2 x y H2 I2 r1 r2 q2
theorem Pz(ho:jU X (binaryOp op) r)(ha:PE X a ta)(hb:PE X b tb):PE X (.BinOp a op b pos) (ON r ta tb):=by
 intro pins s σ H Q I h;exact wpAny_BinOp (Lj ha hb I h λv u s2 x y H2 I2 rx ry q=>ho pins s2 σ H2 x y v u Q I2 rx ry q)
theorem PB(ho:Sz X (unaryOp op) r)(ha:PE X a ta):PE X (.UnaryOp op a pos) (WW r ta):=by
 intro pins s σ H Q I h;exact UnaryOp_ (b6 (ha pins s σ H _ I h) λv s1 ⟨x,H1,I1,r1,q1⟩=>ho pins s1 σ H1 x v Q I1 r1 q1)
theorem Lk{f:Value->Value->Sem Value}{C:Int->Int->Prop}{g:Int->Int->Int}
  (rule:∀(i j:Int) (t u:Tok) (s:Shared) (Q:Value->Shared->Prop) (E:Value->Shared->Prop),C i j->Q (.int (g i j) s.toks) { s with toks:=s.toks+1 }->wpAny (model X.prog X.w) X.A (f (.int i t) (.int j u)) Q E s) :
  jU X f (rI C λi j=>.int (g i j)):=by
 intro pins s σ H x y v u Q I rx ry h;obtain⟨i,j,rfl,rfl,hc,q⟩:=h;obtain⟨t,rfl⟩:=rx;obtain⟨t',rfl⟩:=ry;exact rule i j t t' s _ _ hc ⟨.int (g i j),H,I.tok _,⟨_,rfl⟩,q⟩
theorem Hr{f:Value->Value->Sem Value}{g:Int->Int->Int}
  (rule:∀(i j:Int) (t u:Tok) (s:Shared) (Q:Value->Shared->Prop) (E:Value->Shared->Prop),Q (.int (g i j) s.toks) { s with toks:=s.toks+1 }->wpAny (model X.prog X.w) X.A (f (.int i t) (.int j u)) Q E s) :
  jU X f (GK λi j=>.int (g i j)):=by
 intro pins s σ H x y v u Q I rx ry h;obtain⟨i,j,rfl,rfl,q⟩:=h;obtain⟨t,rfl⟩:=rx;obtain⟨t',rfl⟩:=ry;exact rule i j t t' s _ _ ⟨.int (g i j),H,I.tok _,⟨_,rfl⟩,q⟩
theorem Ht{f:Value->Value->Sem Value}{g:Int->Int->Bool}
  (rule:∀(i j:Int) (t u:Tok) (s:Shared) (Q:Value->Shared->Prop) (E:Value->Shared->Prop),Q (.bool (g i j)) s->wpAny (model X.prog X.w) X.A (f (.int i t) (.int j u)) Q E s) :
  jU X f (GK λi j=>.bl (g i j)):=by
 intro pins s σ H x y v u Q I rx ry h;obtain⟨i,j,rfl,rfl,q⟩:=h;obtain⟨t,rfl⟩:=rx;obtain⟨t',rfl⟩:=ry;exact rule i j t t' s _ _ ⟨.bl (g i j),H,I,rfl,q⟩
def Tw(i j:Int):Prop:=0<=j/\j<=1000000/\i.natAbs<2 ^ 64
def Hu(i j:Int):Prop:=(-(2 ^ 64)<i/\i<2 ^ 64)\/(-(2 ^ 64)<j/\j<2 ^ 64)
theorem Hu.ok{i j:Int}(h:Hu i j):IntMulOk i j:=by
 rcases h with ⟨h1,h2⟩|⟨h1,h2⟩
 ·exact .of_left (intBits_le_64 h1 h2)
 ·exact .of_right (intBits_le_64 h1 h2)
theorem Ll:jU X (binaryOp .Add) (GK λi j=>.int (i+j)):=Hr λ_ _ _ _ _ _ _ q=>add_int q
theorem Lm:jU X (binaryOp .Sub) (GK λi j=>.int (i-j)):=Hr λ_ _ _ _ _ _ _ q=>sub_int q
theorem Lo:jU X (binaryOp .Mult) (rI Hu λi j=>.int (i*j)):=Lk λ_ _ _ _ _ _ _ hc q=>mul_int q hc.ok
theorem Lp:jU X (binaryOp .Mod) (rI (λ_ j=>0<j) λi j=>.int (i%j)):=Lk λi j _ _ _ _ _ hc q=>by
 have h1:(0:Int)<j:=hc;exact mod_int' (by omega) (by rw[Int.fmod_eq_emod_of_nonneg i (by omega)];exact q)
theorem Lq:jU X (binaryOp .Pow) (rI Tw λi j=>.int (i ^ j.toNat)):=Lk λ_ _ _ _ _ _ _ hc q=>pow_int_small hc.1 hc.2.1 hc.2.2 q
theorem Hw:jU X (inplaceOp .Add) (GK λi j=>.int (i+j)):=Hr λ_ _ _ _ _ _ _ q=>iadd_int q
theorem Hx:jU X (inplaceOp .Sub) (GK λi j=>.int (i-j)):=Hr λ_ _ _ _ _ _ _ q=>isub_int q
theorem Hy:jU X (inplaceOp .Mult) (rI Hu λi j=>.int (i*j)):=Lk λ_ _ _ _ _ _ _ hc q=>imul_int q hc.ok
theorem Hz:jU X (inplaceOp .Mod) (rI (λ_ j=>0<j) λi j=>.int (i%j)):=Lk λi j _ _ _ _ _ hc q=>by
 have h1:(0:Int)<j:=hc;exact imod_int (by omega) (by rw[Int.fmod_eq_emod_of_nonneg i (by omega)];exact q)
theorem WX{f:Value->Sem Value}{g:Int->Int}
  (rule:∀(i:Int) (t:Tok) (s:Shared) (Q:Value->Shared->Prop) (E:Value->Shared->Prop),Q (.int (g i) s.toks) { s with toks:=s.toks+1 }->wpAny (model X.prog X.w) X.A (f (.int i t)) Q E s) :
  Sz X f (rU λi=>.int (g i)):=by
 intro pins s σ H x v Q I rx h;obtain⟨i,rfl,q⟩:=h;obtain⟨t,rfl⟩:=rx;exact rule i t s _ _ ⟨.int (g i),H,I.tok _,⟨_,rfl⟩,q⟩
theorem C0:Sz X (unaryOp .USub) (rU λi=>.int (-i)):=WX λ_ _ _ _ _ q=>neg_int q
end
section
variable {X:Cx} {a b c:Expr} {ta tb tc:TE} {pos:Pos}
theorem uJ{k k':Bool}(I:Inv X pins σ H s)(q:Q (.bl k) H)(e:k=k'):EP X pins σ Q (.bool k') s:=by
 subst e;exact⟨.bl k,H,I,rfl,q⟩
theorem PC:jU X (compareOp .Lt) (GK λi j=>.bl (decide (i<j))):=Ht λ_ _ _ _ _ _ _ q=>lt_int q
theorem PD:jU X (compareOp .LtE) (GK λi j=>.bl (decide (i<=j))):=Ht λ_ _ _ _ _ _ _ q=>le_int q
theorem PF:jU X (compareOp .Gt) (GK λi j=>.bl (decide (j<i))):=Ht λ_ _ _ _ _ _ _ q=>gt_int q
theorem PJ:jU X (compareOp .GtE) (GK λi j=>.bl (decide (j<=i))):=Ht λ_ _ _ _ _ _ _ q=>ge_int q
theorem Lr:jU X (compareOp .Is) (λx y H Q=>y=.non/\Q (.bl (decide (x=.non))) H):=by
 intro pins s σ H x y v u Q I rx ry h;obtain⟨rfl,q⟩:=h;cases ry;refine is_none_gen (uJ I q ?_);cases x<;>first
  |(cases rx;rfl)
  |(obtain⟨t,rfl⟩:=rx;rfl)
theorem HD:jU X (compareOp .IsNot) (λx y H Q=>y=.non/\Q (.bl (!decide (x=.non))) H):=by
 intro pins s σ H x y v u Q I rx ry h;obtain⟨rfl,q⟩:=h;cases ry;refine isnot_none_gen (uJ I q ?_);cases x<;>first
  |(cases rx;rfl)
  |(obtain⟨t,rfl⟩:=rx;rfl)
theorem HE(ho:jU X (compareOp op) r)(ha:PE X a ta)(hb:PE X b tb)(hm:behindInMarks op b=false):PE X (.Compare a [op] [b] pos) (ON r ta tb):=by
 intro pins s σ H Q I h;exact wpAny_Compare1 (Lj ha hb I h λv u s2 x y H2 I2 rx ry q=>ho pins s2 σ H2 x y v u Q I2 rx ry q) hm
def C1(t:TE):TT:=λσ H Q=>t σ H λx H'=>∃k,x=.bl k/\Q k H'
theorem z4(ho:jU X (compareOp op) r)(ha:PE X a ta)(hb:PE X b tb)(hm:behindInMarks op b=false):PT X (.Compare a [op] [b] pos) (C1 (ON r ta tb)):=by
 intro pins s σ H Q I h;refine wpAny_isTrue_Compare1 (b6 (ha pins s σ H _ I h) λv s1 ⟨x,H1,I1,r1,q1⟩=>b6 (hb pins s1 σ H1 _ I1 q1) λu s2 ⟨y,H2,I2,r2,q2⟩=>
  b6 (ho pins s2 σ H2 x y v u _ I2 r1 r2 q2) λc s3 ⟨z,H3,I3,r3,k,e,q3⟩=>?_) hm
 subst e;cases r3;exact abw ⟨H3,I3,q3⟩
def Ls(K:Frag)(x:V)(H:Hp)(k:Bool):Prop :=
 match x with
 |.non=>k=false
 |.bl b=>k=b
 |.int i=>k=(i != 0)
 |.str y=>y.length<=sizeLine/\k=((y.length:Int) != 0)
 |.byt y=>y.size<=sizeLine/\k=((y.size:Int) != 0)
 |.ref p=>(∃xs,gA K H p xs/\k = !xs.isEmpty)\/(∃xs,jP K H p xs/\k = !xs.isEmpty)\/∃kvs,H p=some (.dK kvs)/\k = !kvs.isEmpty
 |_=>False
theorem yK{κ:Type}{kvs:List (κ × V)}{vs:List (κ × Value)}(r:KV kvs vs):(!vs.isEmpty) = !kvs.isEmpty:=by
 cases r<;>rfl
theorem qc(r:Vals xs its):(!its.toArray.isEmpty) = !xs.isEmpty:=by
 cases r<;>simp
theorem nN:(sizeLine:Nat)<2 ^ 63:=by rw[aaT];decide
theorem Lu:Tv X (λx H Q=>∃k,Ls X.K x H k/\Q k H):=by
 intro pins s σ H x v Q I rx h;obtain⟨k,e,q⟩:=h;have hl:=nN;have hs:sizeLine=16777216:=aaT;cases x with
 |non=>cases rx;have e':k=false:=e;subst e';exact truthy_none ⟨H,I,q⟩
 |bl b=>cases rx;have e':k=b:=e;subst e';exact abw ⟨H,I,q⟩
 |int i=>obtain⟨t,rfl⟩:=rx;have e':k=(i != 0):=e;subst e';exact PySem.P.truthy_int ⟨H,I,q⟩
 |str y=>obtain⟨t,rfl⟩:=rx;obtain⟨hy,e'⟩:y.length<=sizeLine/\k=((y.length:Int) != 0):=e;subst e';exact PySem.P.truthy_str (by omega) ⟨H,I.tok _,q⟩
 |byt y=>obtain⟨t,rfl⟩:=rx;obtain⟨hy,e'⟩:y.size<=sizeLine/\k=((y.size:Int) != 0):=e;subst e';exact PySem.W.truthy_bytes (by omega) ⟨H,I.tok _,q⟩
 |ref p=>
  cases rx;have e':(∃xs,gA X.K H p xs/\k = !xs.isEmpty)\/(∃xs,jP X.K H p xs/\k = !xs.isEmpty)\/∃kvs,H p=some (.dK kvs)/\k = !kvs.isEmpty:=e
  rcases e' with ⟨xs,hx,e'⟩|⟨xs,hx,e'⟩|⟨kvs,hx,e'⟩
  ·subst e';obtain⟨its,r,pl,hz⟩:=I.list hx;have hlen:=r.length;exact wpAny_truthy_list pl.isList (by simp only[size_toArray];omega) ⟨H,I.tok _,by rw[qc r];exact q⟩
  ·subst e';obtain⟨its,r,pl,hz⟩:=I.tuple hx;have hlen:=r.length;exact truthy_tuple pl (by simp only[size_toArray];omega) ⟨H,I.tok _,by rw[qc r];exact q⟩
  ·subst e';obtain⟨hz,hS,vs,r,m⟩:kvs.length<=sizeLine/\(p==sysModules)=false/\∃vs,KV kvs vs/\s.heap.DictOf (aP X.prog X.w) p vs:=I.hok p _ hx;have hlen:kvs.length=vs.length:=Paired.length r;exact wpAny_truthy_dict hS m (by omega) ⟨H,I.tok _,by rw[yK r];exact q⟩
 |_=>exact(show False from e).elim
theorem C2(ha:PE X a ta)(he:∀whole,isTrue a X.env whole=(do let v <-whole;standAt a.pos;holding [v] (truthy v))) :
  PT X a (λσ H Q=>ta σ H λx H'=>∃k,Ls X.K x H' k/\Q k H'):=by
 intro pins s σ H Q I h;exact isTrue_plain (b6 (ha pins s σ H _ I h) λv s1 ⟨x,H1,I1,r1,q1⟩=>Lu pins s1 σ H1 x v Q I1 r1 q1) (he _)
theorem yL:jU X (binaryOp .Add) (λx y H Q=>∃i j,x=.str i/\y=.str j/\i.length+j.length<=sizeLine/\Q (.str (i++j)) H):=by
 intro pins s σ H x y v u Q I rx ry h;obtain⟨i,j,rfl,rfl,hz,q⟩:=h;obtain⟨t,rfl⟩:=rx;obtain⟨t',rfl⟩:=ry;exact add_str (λt' tk=>⟨.str (i++j),H,I.tok _,⟨_,rfl⟩,q⟩) hz
theorem vals1(r:Vals [x] us):∃u,us=[u]/\RelV x u:=by
 cases r with
 |cons r1 r2=>cases r2;exact⟨_,rfl,r1⟩
theorem vals2(r:Vals [x,y] us):∃u w',us=[u,w']/\RelV x u/\RelV y w':=by
 cases r with
 |cons r1 r2=>
  cases r2 with
  |cons r3 r4=>cases r4;exact⟨_,_,rfl,r1,r3⟩
theorem BH(hc:X.calm=true):cV X (.builtin "max") (λxs H Q=>∃i j,xs=[.int i,.int j]/\Q (.int (if j>i then j else i)) H):=by
 intro pins s σ H xs us Q I r h;obtain⟨i,j,rfl,q⟩:=h;obtain⟨u,w',rfl,⟨t,rfl⟩,⟨t',rfl⟩⟩:=vals2 r;refine max_two_ints (I.ok.hd hc) λh' tk k=>⟨_,H,I.kept k,?_,q⟩
 by_cases hj:j>i
 ·rw[Z7 hj,Z7 hj];exact⟨_,rfl⟩
 ·rw[Z8 hj,Z8 hj];exact⟨_,rfl⟩
theorem BI(hc:X.calm=true):cV X (.builtin "min") (λxs H Q=>∃i j,xs=[.int i,.int j]/\Q (.int (if j<i then j else i)) H):=by
 intro pins s σ H xs us Q I r h;obtain⟨i,j,rfl,q⟩:=h;obtain⟨u,w',rfl,⟨t,rfl⟩,⟨t',rfl⟩⟩:=vals2 r;refine min_two_ints (I.ok.hd hc) λh' tk k=>⟨_,H,I.kept k,?_,q⟩
 by_cases hj:j<i
 ·rw[Z7 hj,Z7 hj];exact⟨_,rfl⟩
 ·rw[Z8 hj,Z8 hj];exact⟨_,rfl⟩
theorem tw:cV X (.type "int") (λxs H Q=>(∃i,xs=[.int i]/\Q (.int i) H)\/∃k,xs=[.bl k]/\Q (.int (if k then 1 else 0)) H):=by
 intro pins s σ H xs us Q I r h
 rcases h with ⟨i,rfl,q⟩|⟨k,rfl,q⟩
 ·obtain⟨u,rfl,t,rfl⟩:=vals1 r;exact call_int_int ⟨.int i,H,I,⟨_,rfl⟩,q⟩
 ·obtain⟨u,rfl,r1⟩:=vals1 r;cases r1;exact call_int_bool ⟨.int (if k then 1 else 0),H,I.tok _,⟨_,rfl⟩,q⟩
def Tz(K:Frag)(x:V)(H:Hp)(n:Nat):Prop :=
 match x with
 |.str y=>y.length<=sizeLine/\n=y.length
 |.byt y=>y.size<=sizeLine/\n=y.size
 |.ref p=>(∃xs,gA K H p xs/\n=xs.length)\/∃xs,jP K H p xs/\n=xs.length
 |_=>False
theorem lZ:cV X (.builtin "len") (λxs H Q=>∃x n,xs=[x]/\Tz X.K x H n/\Q (.int n) H):=by
 intro pins s σ H xs us Q I r h;obtain⟨x,n,rfl,e,q⟩:=h;obtain⟨u,rfl,rx⟩:=vals1 r;have hl:=nN;have hs:sizeLine=16777216:=aaT;cases x with
 |str y=>obtain⟨t,rfl⟩:=rx;obtain⟨hy,e'⟩:y.length<=sizeLine/\n=y.length:=e;subst e';exact len_str (by omega) ⟨.int _,H,I.tok _,⟨_,rfl⟩,q⟩
 |byt y=>obtain⟨t,rfl⟩:=rx;obtain⟨hy,e'⟩:y.size<=sizeLine/\n=y.size:=e;subst e';exact PySem.W.len_bytes (by omega) ⟨.int _,H,I.tok _,⟨_,rfl⟩,q⟩
 |ref p=>
  cases rx;have e':(∃xs,gA X.K H p xs/\n=xs.length)\/∃xs,jP X.K H p xs/\n=xs.length:=e
  rcases e' with ⟨xs,hx,e'⟩|⟨xs,hx,e'⟩
  ·subst e';obtain⟨its,r',pl,hz⟩:=I.list hx;have hlen:=r'.length;exact Calls.call_len_list pl.isList (by simp only[size_toArray];omega) ⟨.int xs.length,H,I.tok _,⟨_,by simp only[size_toArray];rw[hlen]⟩,q⟩
  ·subst e';obtain⟨its,r',pl,hz⟩:=I.tuple hx;have hlen:=r'.length;exact len_tuple pl (by simp only[size_toArray];omega) ⟨.int xs.length,H,I.tok _,⟨_,by simp only[size_toArray];rw[hlen]⟩,q⟩
 |_=>exact(show False from e).elim
end
structure yM (h:Heap) (x dx C:Addr) (mA:Str->Option Value):Prop where
 obj:h.get? x=some (instObj C dx)
 ns:h.Ns1 dx mA
 ne:dx≠x
theorem BJ{h:Heap}{dx:Addr}{mA:Str->Option Value}(n:h.Ns1 dx mA):∃od,h.get? dx=some od/\∀name,lookIn name od=some (mA name):=by
 obtain⟨o,es,ep,ho,hd,hk,_,hm⟩:=n;refine⟨o,ho,λname=>?_⟩;have e:=hm name;unfold nsFind findBy at e;rw[<-Array.find?_toList]at e;unfold lookIn;rw[hd];dsimp only
 split
 ·rename_i y q;rw[q]at e;exact aaS some e
 ·rename_i q
  rw[q]at e;have a:es.toList.any (·.refKey)=false:=by rw[List.any_eq_false];intro y hy;obtain⟨z,t,hkey⟩:=hk y (Array.mem_toList_iff.mp hy);simp[DictEntry.refKey,hkey]
  have a':¬ es.toList.any (·.refKey)=true:=by rw[a];exact Z0
  rw[Z8 a'];exact aaS some e
theorem yM.look(I:yM h x dx C mA):∃od,PySem.W.InstAt h x (instObj C dx) C (some od)/\∀name,lookIn name od=some (mA name) :=
 let ⟨od,ho,hl⟩:=BJ I.ns
 ⟨od,⟨I.obj,rfl,rfl,ho⟩,hl⟩
section
variable {prog:Program} {w:World} {A:Around} {E:Value->Shared->Prop} {s:Shared} {K:Frag} {x dx C f:Addr} {mA:Str->Option Value} {name:Str} {v:Value}
theorem get_map{expr:Bool}(X:K.In s.heap)(I:yM s.heap x dx C mA)(hg:plainGet K C name=true)(hh:hasDictIn K C=true)
  (ha:findIn K (.ref C) name=some none) (hv:mA name=some v) (hv':handedIn v=true) (h:Q v { s with toks:=s.toks+1 }) :
  wpAny (model prog w) A (getAttr (.ref x) name expr) Q E s:=by
 obtain⟨od,J,hl⟩:=I.look;exact PySem.W.get_value X J (acn hg).1 (PySem.W.findObj_own hh ha rfl (by rw[hl,hv])) hv' h
theorem C3(X:K.In s.heap)(I:yM s.heap x dx C mA)(hg:plainGet K C name=true)
  (hf:findIn K (.ref C) name=some (some (.ref f))) (ht:isFn K (.ref f)=true) (hv:mA name=none) (h:Q (.ref f,[.ref x]) s) :
  wpAny (model prog w) A (getMethod (.ref x) name pl) Q E s:=by
 obtain⟨od,J,hl⟩:=I.look;exact PySem.W.method_fn X J (acn hg).1 (acn hg).2 hf (ace.mp ht) (by show (lookIn name od).map (·.isSome)=some false;rw[hl,hv];rfl) h
theorem HF(X:K.In s.heap)(I:yM s.heap x dx C mA)
  (hs:findIn K (.ref C) "__setattr__" = some (some (.builtin "object.__setattr__"))) (hp:plainOver K C=true) (ht:takerIn K C name=some none) (hh:hasDictIn K C=true)
  (hw:PySem.Within mA ns) (hsz:ns.length<=sizeLine)
  (h:∀h',yM h' x dx C (λy=>if y=name then some v else mA y)->Heap.SameBut dx s.heap h'->Q () { s with heap:=h',toks:=s.toks+2 }) :
  wpAny (model prog w) A (setAttr (.ref x) name v) Q E s:=by
 obtain⟨od,J,hl⟩:=I.look;refine PySem.W.set_plain X J hs (PySem.W.osa_open (s:={ s with toks:=s.toks+1 }) (r:=none) X J hp ht λb=>?_);obtain⟨cd,hc,hd'⟩:=PySem.W.any_some hh;have hx:s.heap.get? x=some ⟨.ref C,some dx,.plain,#[]⟩:=I.obj;refine ZZ (Z6 (ZZ (ZZ (wpAny_loadPart hx (ZZ (PySem.W.Looks.here (s:={ s with toks:=s.toks+1 }) (PySem.W.looks_clsIn X hc) ?_))))));rw[hd'];refine Z6 (a:=some dx) (ZZ (Z6 (ZZ ?_)));refine wpAny_nsSet1 (s:={ s with toks:=s.toks+1 }) I.ns λh' hn2 hs2=>?_;obtain⟨oD,esD,ZM,WY,WZ,W0⟩:=hn2.count (PySem.Within.cons name v hw);refine ZZ (wpAny_lookBehind WY (by rw[WZ];exact pastItsLine_dict (aay W0 (by rw[aal];omega))) ?_);exact Z6 (h _ ⟨(hs2.2 _ (Ne.symm I.ne)).trans I.obj,hn2,I.ne⟩ hs2)
theorem C4(X:K.In s.heap)(hm:makesIn K C=true)
  (hi:findIn K (.ref C) "__init__" = some (some (.ref f))) (hf:typeIn K (.ref f)=some (.type "function"))
  (h:codeAny (model prog w) (A.under (.builtin "type.__call__" ⟨.ref C::vs,kw⟩)) (.call (.ref f) ⟨.ref (s.heap.objs.size+1)::vs,kw⟩) (PySem.W.InitBack (s.heap.objs.size+1) R)
   { s with heap:=(s.heap.push emptyDict).push (instObj C s.heap.objs.size) }) :
  codeAny (model prog w) A (.call (.ref C) ⟨vs,kw⟩) R s:=by
 obtain⟨hh,g,d,t,os⟩:=s;exact PySem.W.make_core (PySem.W.makes_of X hm) (PySem.W.looks_findIn X hi) (λself=>PySem.W.bind_fn X self hf) (.inl rfl) h
end
def jd(f:Str)(v:V):List (Str×V)->List (Str×V)
 |[]=>[(f,v)]
 |(g,x)::r=>if g=f then (g,v)::r else (g,x)::jd f v r
theorem oS(f g:Str)(v:V):∀fs:List (Str×V),(jd f v fs).lookup g=if g=f then some v else fs.lookup g
 | []=>by
  show List.lookup g [(f,v)]=_
  by_cases h:g=f
  ·have hb:(g==f)=true:=ace.mpr h;simp only[List.lookup,hb,if_pos h]
  ·have hb:(g==f)=false:=aaD.mpr h;simp only[List.lookup,hb,if_neg h]
 | (k,x)::r=>by
  have ih:=oS f g v r;rw[show jd f v ((k,x)::r)=(if k=f then (k,v)::r else (k,x)::jd f v r) from rfl]
  by_cases hk:k=f
  ·rw[Z7 hk]
   by_cases h:g=k
   ·have hb:(g==k)=true:=ace.mpr h;simp only[List.lookup,hb,if_pos (h.trans hk)]
   ·have hb:(g==k)=false:=aaD.mpr h;simp only[List.lookup,hb,if_neg (λe:g=f=>h (e.trans hk.symm))]
  ·rw[Z8 hk]
   by_cases h:g=k
   ·have hb:(g==k)=true:=ace.mpr h;simp only[List.lookup,hb,if_neg (λe:g=f=>hk (h.symm.trans e))]
   ·have hb:(g==k)=false:=aaD.mpr h;simp only[List.lookup,hb];exact ih
theorem nO(f:Str)(v:V):∀fs:List (Str×V),f∈(jd f v fs).map (·.1)/\∀g,g∈fs.map (·.1)->g∈(jd f v fs).map (·.1)
 |[]=>⟨by simp[jd],λg h=>by simp at h⟩
 | (k,x)::r=>by
  obtain⟨i1,i2⟩:=nO f v r;rw[show jd f v ((k,x)::r)=(if k=f then (k,v)::r else (k,x)::jd f v r) from rfl]
  by_cases hk:k=f
  ·rw[Z7 hk];subst hk;exact⟨by simp,λg h=>by simpa using h⟩
  ·rw[Z8 hk]
   refine⟨?_,λg h=>?_⟩
   ·rw[aac];exact aab _ i1
   ·rw[aac]at h |-
    rcases aao.mp h with e|e
    ·exact aao.mpr (.inl e)
    ·exact aab _ (i2 g e)
theorem oU(f:Str)(v:V):∀fs:List (Str×V),(jd f v fs).length<=fs.length+1
 |[]=>by simp[jd]
 | (k,x)::r=>by
  have ih:=oU f v r;rw[show jd f v ((k,x)::r)=(if k=f then (k,v)::r else (k,x)::jd f v r) from rfl]
  by_cases hk:k=f
  ·rw[Z7 hk,aal,aal];omega
  ·rw[Z8 hk,aal,aal];omega
theorem jK.some_of(r:jK (some v) o):∃u,o=some u/\RelV v u:=by
 cases o with
 |none=>exact(show False from r).elim
 |some u=>exact⟨u,rfl,r⟩
theorem jK.none_of(r:jK none o):o=none:=by
 cases o with
 |none=>rfl
 |some u=>exact(show False from r).elim
theorem BK(r:RelV v u):handedIn u=true:=by
 cases v with
 |non=>cases (show u=Value.none from r);rfl
 |bl b=>cases (show u=Value.bool b from r);rfl
 |int i=>obtain⟨t,e⟩:=(show ∃t,u=Value.int i t from r);cases e;rfl
 |str x=>obtain⟨t,e⟩:=(show ∃t,u=Value.str x t from r);cases e;rfl
 |byt b=>obtain⟨t,e⟩:=(show ∃t,u=Value.bytes b t from r);cases e;rfl
 |flt b=>obtain⟨t,e⟩:=(show ∃t,u=Value.float b t from r);cases e;rfl
 |ref a=>cases (show u=Value.ref a from r);rfl
 |ty n=>cases (show u=Value.type n from r);rfl
section
variable {P:Program} {w:World} {H H':Hp} {h h':Heap} {a C dx:Addr} {fs fs':List (Str×V)}
theorem uK(hok:lD P w H h)(e:H a=some (.ins C dx fs)):∃mA,yM h a dx C mA/\(∀f,jK (fs.lookup f) (mA f))/\PySem.Within mA (fs.map (·.1))/\fs.length<=1000/\H dx=some (.own a):=by
 obtain⟨d,z,ne,ob,mA,n,r,q⟩:=(show bJ P w H h a (.ins C dx fs) from hok a _ e);exact⟨mA,⟨ob,n,ne⟩,r,q,z,d⟩
end
structure CH (K:Frag) (C:Addr):Prop where
 pg:plainGet K C Str.empty=true
 hd:hasDictIn K C=true
 po:plainOver K C=true
 sa:findIn K (.ref C) "__setattr__" = some (some (.builtin "object.__setattr__"))
theorem CH.get{K:Frag}{C:Addr}(c:CH K C)(f:Str):plainGet K C f=true:=c.pg
def jV(K:Frag)(C:Addr)(f:Str):Prop:=findIn K (.ref C) f=some none
theorem jV.PK{K:Frag}{C:Addr}{f:Str}(n:jV K C f):takerIn K C f=some none:=by
 unfold takerIn;rw[show findIn K (.ref C) f=some none from n];rfl
structure Meth (K:Frag) (C:Addr) (m:Str) (f:Addr):Prop where
 at_:findIn K (.ref C) m=some (some (.ref f))
 fn:isFn K (.ref f)=true
 kp:keepIn K (.ref f)=true
section
variable {X:Cx} {pins:List (Addr×Obj)} {σ:St} {H:Hp} {s:Shared} {a C dx:Addr} {fs:List (Str×V)} {f:Str} {v:V} {A:Around} {E:Value->Shared->Prop}
theorem yN{b:Bool}(I:Inv X pins σ H s)(e:H a=some (.ins C dx fs))(c:CH X.K C)(n:jV X.K C f)(l:fs.lookup f=some v)
  (h:∀u s',Inv X pins σ H s'->RelV v u->Q u s'):wpAny (model X.prog X.w) A (getAttr (.ref a) f b) Q E s:=by
 obtain⟨mA,O,r,_,_,_⟩:=uK I.hok e;obtain⟨u,hu,ru⟩:=jK.some_of (v:=v) (o:=mA f) (by rw[<-l];exact r f);exact get_map I.nM O (c.get f) c.hd n hu (BK ru) (h u _ (I.tok _) ru)
theorem qd(I:Inv X pins σ H s)(e:H a=some (.ins C dx fs))(c:CH X.K C)(k:Meth X.K C m g)(l:fs.lookup m=none)
  (h:Q (.ref g,[.ref a]) s):wpAny (model X.prog X.w) A (getMethod (.ref a) m pl) Q E s:=by
 obtain⟨mA,O,r,_,_,_⟩:=uK I.hok e;have hn:mA m=none:=jK.none_of (by rw[<-l];exact r m);exact C3 I.nM O (c.get m) k.at_ k.fn hn h
theorem yO(I:Inv X pins σ H s)(e:H a=some (.ins C dx fs))(c:CH X.K C)(n:jV X.K C f)(hl:fs.length<1000)(ry:RelV y u)
  (h:∀s',Inv X pins σ (upd H a (.ins C dx (jd f y fs))) s'->Q () s'):wpAny (model X.prog X.w) A (setAttr (.ref a) f u) Q E s:=by
 obtain⟨mA,O,r,wi,_,ho⟩:=uK I.hok e;have hz:(fs.map (·.1)).length<=sizeLine:=by rw[Z4,aaT];omega
 refine HF I.nM O c.sa c.po n.PK c.hd wi hz λh' O' sb=>h _ ?_;have hd:∃o,h'.get? dx=some o:=let ⟨o,_,_,e',_⟩:=O'.ns;⟨o,e'⟩
 refine I.write (x:=a) (e:=dx) (by rw[e];exact abo) (.inr ho) (λb q hb z=>(sb.2 b hb).trans z) hd ?_;refine⟨by rw[ao O.ne];exact ho,?_,O.ne,O'.obj,_,O'.ns,λg=>?_,λg hg=>?_⟩
 ·have:=oU f y fs;omega
 ·show jK ((jd f y fs).lookup g) (if g=f then some u else mA g)
  rw[oS]
  by_cases q:g=f
  ·rw[Z7 q,Z7 q];exact ry
  ·rw[Z8 q,Z8 q];exact r g
 ·by_cases q:g=f
  ·rw[q];exact(nO f y fs).1
  ·refine(nO f y fs).2 g (wi g λz=>hg ?_);show (if g=f then some u else mA g)=none;rw[Z8 q];exact z
theorem Inv.made(I:Inv X pins σ H s):Inv X pins σ (upd (upd H s.heap.objs.size (.own (s.heap.objs.size+1))) (s.heap.objs.size+1) (.ins C s.heap.objs.size []))
  { s with heap:=(s.heap.push emptyDict).push (instObj C s.heap.objs.size) }:=by
 have e1:(s.heap.push emptyDict).get? s.heap.objs.size=some emptyDict:=aaj s.heap rfl;have e2:((s.heap.push emptyDict).push (instObj C s.heap.objs.size)).get? (s.heap.objs.size+1)=some (instObj C s.heap.objs.size):=by have:=aaj (s.heap.push emptyDict) (o:=instObj C s.heap.objs.size) rfl;rwa [aa1]at this
 have e3:(s.heap.push emptyDict).Ns s.heap.objs.size (λ_=>none):=⟨emptyDict,#[],_,e1,rfl,(λe he=>absurd he (by simp)),λ_=>rfl⟩;have I1:=I.laid (a:=s.heap.objs.size) (o:=.own (s.heap.objs.size+1)) (h':=s.heap.push emptyDict) (t':=s.toks) (λb u q=>Z3 _ q) (aaa _) ⟨_,e1⟩;refine I1.laid (a:=s.heap.objs.size+1) (o:=.ins C s.heap.objs.size []) (t':=s.toks) (λb u q=>Z3 _ q) (Nat.le_of_eq (aa1 _ _)) ?_;have ne:s.heap.objs.size≠s.heap.objs.size+1:=aam (aaP _);refine⟨by rw[ao ne,aO],abb _,ne,e2,λ_=>none,(Heap.Ns1.of_empty e3).at λo q=>Z3 _ q,λ_=>abo,λy hy=>absurd rfl hy⟩
theorem attr_of(hb:attributeBase e f env (eval e env)=eval e env)
  (h:wpAny (model prog w) A (eval e env) (λo s₁=>wpAny (model prog w) A (getAttr o f true) Q E s₁) E s):wpAny (model prog w) A (eval (.Attribute e f pos) env) Q E s :=
 Attribute_any_ h (by rw[arm_eval_Attribute,hb])
end
def tFld(K:Frag)(ta:TE)(f:Str):TE:=λσ H Q=>ta σ H λx H1=>∃a C dx fs v,x=.ref a/\H1 a=some (.ins C dx fs)/\CH K C/\jV K C f/\fs.lookup f=some v/\Q v H1
def TF(K:Frag)(ta tv:TE)(f:Str):TS:=λD σ H=>tv σ H λy H1=>ta σ H1 λx H2=>∃a C dx fs,x=.ref a/\H2 a=some (.ins C dx fs)/\CH K C/\jV K C f/\fs.length<1000 /\
 D.nx σ (upd H2 a (.ins C dx (jd f y fs)))
section
variable {X:Cx} {o e value:Expr} {f:Str} {pos pos' tpos:Pos} {ta tv:TE}
theorem pe_fld(he:PE X e ta)(hb:attributeBase e f X.env (eval e X.env)=eval e X.env):PE X (.Attribute e f pos) (tFld X.K ta f):=by
 intro pins s σ H Q I h;refine attr_of hb (b6 (he pins s σ H _ I h) λu s1 aJ=>?_);obtain⟨x,H1,I1,rx,a,C,dx,fs,v,ex,ea,c,n,l,q⟩:=aJ;subst ex;obtain rfl:u=Value.ref a:=rx;exact yN I1 ea c n l λu' s2 I2 ru=>⟨v,H1,I2,ru,q⟩
theorem Lv(ha:PE X o ta)(hv:PE X value tv)(hs:swapsWith value (some (.Attribute o f pos')) pos.line X.env=pure false):PS X (.Assign [.Attribute o f pos'] value pos) (TF X.K ta tv f):=by
 intro pins s σ H D I h;refine plainObj_wpAny_Assign_Attribute (b6 (hv pins s σ H _ I h) λu s1 ⟨y,H1,I1,ry,q⟩=>b6 (ha pins s1 σ H1 _ I1 q) λov s2 ⟨x,H2,I2,rx,a,C,dx,fs,ex,ea,c,n,l,q2⟩=>?_) hs;subst ex;obtain rfl:ov=Value.ref a:=rx;exact yO I2 ea c n l ry λs3 I3=>⟨σ,_,I3,q2⟩
end
structure cW (k:Nat) (A:Around):Prop where
 hd:A.handled=none
 dp:A.depth+3*k+5<recursionLimit
 un:A.units+16*k+200<cLine
theorem cW.mono{j k:Nat}(r:cW k A)(h:j<=k):cW j A:=⟨r.hd,by have:=r.dp;omega,by have:=r.un;omega⟩
theorem cW.deeper{k:Nat}(r:cW (k+1) A)(env:Env):cW k (A.deeper env) :=
 ⟨r.hd,by have:=r.dp;show A.depth+1+3*k+5<_;omega,by have:=r.un;show A.units+3+16*k+200<_;omega⟩
theorem yP{A:Around}{C:Addr}{us:List Value}{kw:List (Str×Value)}:(A.under (.builtin "type.__call__" ⟨.ref C::us,kw⟩)).depth=A.depth+1:=by
 first|rfl|simp[Around.under,Code.weight,Code.isCreation,Code.isGuard,Code.isCaller,Code.frames,Code.isFrame,guardIds]
theorem yQ{A:Around}{C:Addr}{us:List Value}{kw:List (Str×Value)}:(A.under (.builtin "type.__call__" ⟨.ref C::us,kw⟩)).units=A.units+1:=by
 first|rfl|simp[Around.under,Code.cUnits,Code.frames,Code.isFrame]
theorem cW.make{k:Nat}(r:cW (k+1) A)(C:Addr)(us:List Value)(kw:List (Str×Value)):cW k (A.under (.builtin "type.__call__" ⟨.ref C::us,kw⟩)) :=
 ⟨r.hd,by have:=r.dp;rw[yP];omega,by have:=r.un;rw[yQ];omega⟩
theorem cW.depth{k:Nat}(r:cW k A):A.depth<recursionLimit:=by have:=r.dp;omega
theorem cW.units{k:Nat}(r:cW k A):A.units+64<cLine:=by have:=r.un;omega
def Lw:TA:=λ_ H Q=>Q [] H
def PM(ta:TE)(tr:TA):TA:=λσ H Q=>ta σ H λx H1=>tr σ H1 λxs H2=>Q (x::xs) H2
section
variable {X:Cx} {e:Expr} {es:List Expr} {te:TE} {t:TA} {pos:Pos}
theorem C5:PA X [] Lw:=λ_ _ _ _ H Q I h=>aa7 ⟨[],H,I,.nil,h⟩
theorem uL(ha:PE X e te)(hr:PA X es t)(hs:starEach (e::es) X.env=(false,eval e X.env)::starEach es X.env:=by rfl):PA X (e::es) (PM te t):=by
 intro pos pins s σ H Q I h;rw[hs];show wpAny _ _ (spliced ((false,eval e X.env)::backTo pos (starEach es X.env))) _ _ s;refine aaU (b6 (ha pins s σ H _ I h) λu s1 aJ=>?_);obtain⟨x,H1,I1,r1,q1⟩:=aJ;exact b6 (hr pos pins s1 σ H1 _ I1 q1) λus s2 ⟨xs,H2,I2,r2,q2⟩=>⟨x::xs,H2,I2,.cons r1 r2,q2⟩
def TH(t:TA):TE:=λσ H Q=>t σ H λxs H1=>xs.length<=sizeLine/\∀p,H1 p=none->Q (.ref p) (upd H1 p (.tup xs))
def TJ(t:TA):TE:=λσ H Q=>t σ H λxs H1=>xs.length<=sizeLine/\∀p,H1 p=none->Q (.ref p) (upd H1 p (.lst xs))
theorem Lx{x1}(h:PA X es t):PE X (.Tuple es x1 pos) (TH t):=by
 intro pins s σ H Q I hq;refine wpAny_Tuple_spliced (b6 (h pos pins s σ H _ I hq) λus s1 ⟨xs,H1,I1,r,z,q⟩=>⟨by rw[<-r.length];exact z,?_⟩);have hf:H1 s1.heap.objs.size=none:=I1.hok.fresh (aaa _);refine⟨.ref s1.heap.objs.size,upd H1 s1.heap.objs.size (.tup xs),I1.laid (t':=s1.toks) (λb u e=>Z3 _ e) (aaa _) ?_,rfl,q _ hf⟩;exact⟨z,us,r,⟨_,aaj _ rfl,rfl,_,rfl⟩⟩
theorem Ly(h:PA X es t):PE X (.List es pos) (TJ t):=by
 intro pins s σ H Q I hq;refine wpAny_List_spliced (b6 (h pos pins s σ H _ I hq) λus s1 ⟨xs,H1,I1,r,z,q⟩=>⟨by rw[<-r.length];exact z,?_⟩);have hf:H1 s1.heap.objs.size=none:=I1.hok.fresh (aaa _);refine⟨.ref s1.heap.objs.size,upd H1 s1.heap.objs.size (.lst xs),I1.laid (t':=s1.toks) (λb u e=>Z3 _ e) (aaa _) ?_,rfl,q _ hf⟩;exact⟨z,us,0,r,aaj _ rfl⟩
end
abbrev Sp:=List V->Hp->VK->XK->Prop
abbrev BL:=List Env->Hp->Shared->XK->Value->Shared->Prop
structure yR (P:Program) (w:World) (K:Frag) (mg:Str->Option Value) (base:Heap) (A:Around) (outer:List Env) (s:Shared) (H:Hp):Prop where
 frames:A.frames=some outer
 mod:Mod K mg base
 bs:∀b o,base.get? b=some o->s.heap.get? b=some o/\H b=none
 J7:base.objs.size<=s.heap.objs.size
 pD:s.heap.FunFrames base outer
 KZ:∀b∈frs outer,H b=none
 hok:lD P w H s.heap
 bare:AllBare s.gens
def CE(outer:List Env)(P:Program)(w:World)(H:Hp)(s:Shared)(Q:VK)(u:Value)(s':Shared):Prop :=
 ∃v H',s'.os=s.os/\AllBare s'.gens/\Un (frs outer) [] H H' s.heap s'.heap/\lD P w H' s'.heap/\RelV v u/\Q v H'
def CR(CX:BL)(outer:List Env)(P:Program)(w:World)(H:Hp)(s:Shared)(Q:VK)(E:XK)(r:Result)(s':Shared):Prop :=
 match r with
 |.ok (.ret u)=>CE outer P w H s Q u s'
 |.ok _=>False
 |.error e=>CX outer H s E e s'
structure fh (P:Program) (w:World) (K:Frag) (mg:Str->Option Value) (base:Heap) (CX:BL) (k:Nat) (f:Addr) (fd:FuncData) (ps:List Str) (sp:Sp):Prop where
 len:∀vs H Q E,sp vs H Q E->vs.length=ps.length
 run:∀(A:Around) (outer:List Env) (s:Shared) (H:Hp) (args:Args) (us:List Value) (vs:List V) (Q:VK) (E:XK),cW k A->yR P w K mg base A outer s H->BindsTo s fd args (ps.zip us)->Vals vs us->sp vs H Q E ->
  codeAny (model P w) A (.call (.ref f) args) (CR CX outer P w H s Q E) s
theorem fh.mono{P:Program}{w:World}{K:Frag}{mg:Str->Option Value}{base:Heap}{CX:BL}{j k:Nat}{f:Addr}{fd:FuncData}{ps:List Str}{sp:Sp}(F:fh P w K mg base CX j f fd ps sp)(h:j<=k) :
  fh P w K mg base CX k f fd ps sp:=⟨F.len,λA outer s H args us vs Q E hr=>F.run A outer s H args us vs Q E (hr.mono h)⟩
theorem fh.imp{P:Program}{w:World}{K:Frag}{mg:Str->Option Value}{base:Heap}{CX:BL}{k:Nat}{f:Addr}{fd:FuncData}{ps:List Str}{sp Vf:Sp}(F:fh P w K mg base CX k f fd ps sp)
  (h:∀vs H Q E,Vf vs H Q E->sp vs H Q E):fh P w K mg base CX k f fd ps Vf :=
 ⟨λvs H Q E q=>F.len vs H Q E (h _ _ _ _ q),λA outer s H args us vs Q E hr he hb hv hs=>F.run A outer s H args us vs Q E hr he hb hv (h _ _ _ _ hs)⟩
theorem yR.make{P:Program}{w:World}{K:Frag}{mg:Str->Option Value}{base:Heap}{A:Around}{outer:List Env}{s:Shared}{H:Hp}(e:yR P w K mg base A outer s H)(C:Addr)(us:List Value)(kw:List (Str×Value)) :
  yR P w K mg base (A.under (.builtin "type.__call__" ⟨.ref C::us,kw⟩)) outer s H:=⟨by first|exact e.frames|(simpa [Around.under,Code.envs,Code.isFrame,pushEnvs] using e.frames),e.mod,e.bs,e.J7,e.pD,e.KZ,e.hok,e.bare⟩
section
variable {X:Cx} {pins:List (Addr×Obj)} {σ:St} {H:Hp} {s s':Shared}
theorem Inv.l0(I:Inv X pins σ H s):yR X.prog X.w X.K X.mg X.base X.A X.stack s H :=
 ⟨I.ok.frames,I.ok.mod,I.bs,aay I.ok.J7 I.sz,I.stack,I.zW,I.hok,I.bare⟩
theorem Inv.after(I:Inv X pins σ H s)(h:CE X.stack X.prog X.w H s Q u s'):EP X pins σ Q u s':=by
 obtain⟨v,H',os,bare,un,hok,r,q⟩:=h;obtain⟨hh,g,d,t,os'⟩:=s';obtain rfl:os'=s.os:=os;exact⟨v,H',I.call (h':=hh) (g':=g) (d':=d) (t':=t) (ch:=[]) un hok bare (λb z=>absurd z (by simp)),r,q⟩
end
def J9(sp:Sp)(sG:List V)(E:XK)(t:TA):TE:=λσ H Q=>t σ H λvs H1=>sp (vs++sG) H1 Q E
def Ka(C:Addr)(sp:Sp)(sG:List V)(E:XK)(t:TA):TE:=λσ H Q=>t σ H λvs H1=>∀x dx,H1 x=none->H1 dx=none->dx≠x ->
 sp (.ref x::(vs++sG)) (upd (upd H1 dx (.own x)) x (.ins C dx [])) (λv H2=>v=.non/\Q (.ref x) H2) E
def Binds(K:Frag)(fd:FuncData)(ps:List Str)(ds:List Value):Prop :=
 ∀(s:Shared) (us:List Value),K.In s.heap->(us++ds).length=ps.length->BindsTo s fd ⟨us,[]⟩ (ps.zip (us++ds))
theorem Binds.all{K:Frag}{fd:FuncData}{ps:List Str}(h:∀us:List Value,us.length=ps.length->bindArgs fd ⟨us,[]⟩=pure (ps.zip us)):Binds K fd ps []:=λs us _ hl=>by
 rw[aa2]at hl |-;exact .of_eq (h us hl)
def Passes(CX:BL)(X:Cx)(E:XK):Prop:=∀(pins:List (Addr×Obj)) (σ:St) (H:Hp) (s:Shared) (e:Value) (s':Shared),Inv X pins σ H s->CX X.stack H s E e s'->X.xe e s'
section
variable {X:Cx} {CX:BL} {k:Nat} {f C:Addr} {fd:FuncData} {ps:List Str} {sp:Sp} {sG:List V} {ds:List Value} {E:XK} {x m:Str} {p pos apos:Pos} {e o:Expr} {es:List Expr} {ta:TE} {t:TA}
theorem qf(F:fh X.prog X.w X.K X.mg X.base CX k f fd ps sp)(hr:cW k X.A)(hb:Binds X.K fd ps ds)(hd:Vals sG ds)(hx:Passes CX X E)
  (I:Inv X pins σ H s) (r:Vals vs us) (h:sp (vs++sG) H Q E):wpAny (model X.prog X.w) X.A (call (.ref f) us) (EP X pins σ Q) X.xe s:=by
 have r2:Vals (vs++sG) (us++ds):=r.append hd;have hl:(us++ds).length=ps.length:=by rw[<-r2.length];exact F.len _ _ _ _ h
 refine wpAny_call (ab3 (F.run X.A X.stack s H ⟨us,[]⟩ (us++ds) (vs++sG) Q E hr I.l0 (hb s us I.nM hl) r2 h) λr s' hq=>?_);cases r with
 |error e=>exact hx pins σ H s e s' I hq
 |ok fl=>
  cases fl with
  |ret u=>exact I.after hq
  |next=>exact False.elim hq
  |brk=>exact False.elim hq
  |cont=>exact False.elim hq
theorem HG(F:fh X.prog X.w X.K X.mg X.base CX k f fd ps sp)(hr:cW k X.A)(hg:Gl X x)(hm:X.mg x=some (.ref f))(hk:keepIn X.K (.ref f)=true)(hb:Binds X.K fd ps ds)(hd:Vals sG ds)(hx:Passes CX X E)
  (ha:PA X (e::es) t) (hdb:(x==("__debug__":Str))=false) (he:starEach (e::es) X.env=(false,eval e X.env)::starEach es X.env) (hpl:(backTo pos (starEach es X.env)).any (·.1)=false) :
  PE X (.Call (.Name x p) (e::es) [] pos) (J9 sp sG E t):=by
 intro pins s σ H Q I h;refine aaH (kE I hg hm ?_ hdb);refine abY (h₀:=X.base) I.ok.mod.OI hk (b6 (ha pos pins s σ H _ I h) λus s1 ⟨vs,H1,I1,r,q⟩=>⟨I1.nM,?_⟩) he hpl;exact qf F hr hb hd hx I1 r q
theorem C6(F:fh X.prog X.w X.K X.mg X.base CX k f fd ps sp)(hr:cW k X.A)(hg:Gl X x)(hm:X.mg x=some (.ref f))(hk:keepIn X.K (.ref f)=true)(hb:Binds X.K fd ps ds)(hd:Vals sG ds)(hx:Passes CX X E)
  (hdb:(x==("__debug__":Str))=false):PE X (.Call (.Name x p) [] [] pos) (J9 sp sG E Lw):=by
 intro pins s σ H Q I h;refine aaH (kE I hg hm ?_ hdb);exact aco I.nM hk (qf (us:=[]) F hr hb hd hx I .nil h)
structure Mk (K:Frag) (C f:Addr):Prop where
 makes:makesIn K C=true
 init:findIn K (.ref C) "__init__" = some (some (.ref f))
 fn:isFn K (.ref f)=true
 kp:keepIn K (.ref C)=true
theorem v7(M:Mk X.K C f)(F:fh X.prog X.w X.K X.mg X.base CX k f fd ps sp)(hr:cW (k+1) X.A)(hb:Binds X.K fd ps ds)(hd:Vals sG ds)
  (hx:Passes CX X E) (I:Inv X pins σ H s) (r:Vals vs us)
  (h:∀x dx,H x=none->H dx=none->dx≠x->sp (.ref x::(vs++sG)) (upd (upd H dx (.own x)) x (.ins C dx [])) (λv H2=>v=.non/\Q (.ref x) H2) E) :
  wpAny (model X.prog X.w) X.A (call (.ref C) us) (EP X pins σ Q) X.xe s:=by
 have hq:=h (s.heap.objs.size+1) s.heap.objs.size (I.hok.fresh (aaV _)) (I.hok.fresh (aaa _)) (aam (aaP _));have I2:=Inv.made (C:=C) I;have r2:Vals (V.ref (s.heap.objs.size+1)::(vs++sG)) (Value.ref (s.heap.objs.size+1)::(us++ds)):=.cons rfl (r.append hd);have hl:(Value.ref (s.heap.objs.size+1)::us++ds).length=ps.length:=by have e:=r2.length;rw[F.len _ _ _ _ hq]at e;exact e.symm
 refine wpAny_call (C4 (f:=f) I.nM M.makes M.init (ace.mp M.fn) (ab3 (F.run _ X.stack _ _ ⟨Value.ref (s.heap.objs.size+1)::us,[]⟩ (Value.ref (s.heap.objs.size+1)::(us++ds)) _ _ E (hr.make C us [])
  (I2.l0.make C us []) (hb _ (Value.ref (s.heap.objs.size+1)::us) I2.nM hl) r2 hq) λr s' hq'=>?_))
 cases r with
 |error e=>exact hx pins σ _ _ e s' I2 hq'
 |ok fl=>
  cases fl with
  |ret u=>obtain⟨v,H',I3,rv,ev,q3⟩:=I2.after hq';subst ev;exact⟨rv,⟨V.ref (s.heap.objs.size+1),H',I3,rfl,q3⟩⟩
  |next=>exact False.elim hq'
  |brk=>exact False.elim hq'
  |cont=>exact False.elim hq'
theorem HH(M:Mk X.K C f)(F:fh X.prog X.w X.K X.mg X.base CX k f fd ps sp)(hr:cW (k+1) X.A)(hg:Gl X x)(hm:X.mg x=some (.ref C))(hb:Binds X.K fd ps ds)(hd:Vals sG ds)(hx:Passes CX X E)
  (ha:PA X (e::es) t) (hdb:(x==("__debug__":Str))=false) (he:starEach (e::es) X.env=(false,eval e X.env)::starEach es X.env) (hpl:(backTo pos (starEach es X.env)).any (·.1)=false) :
  PE X (.Call (.Name x p) (e::es) [] pos) (Ka C sp sG E t):=by
 intro pins s σ H Q I h;refine aaH (kE I hg hm ?_ hdb);refine abY (h₀:=X.base) I.ok.mod.OI M.kp (b6 (ha pos pins s σ H _ I h) λus s1 ⟨vs,H1,I1,r,q⟩=>⟨I1.nM,?_⟩) he hpl;exact v7 M F hr hb hd hx I1 r q
theorem C7(M:Mk X.K C f)(F:fh X.prog X.w X.K X.mg X.base CX k f fd ps sp)(hr:cW (k+1) X.A)(hg:Gl X x)(hm:X.mg x=some (.ref C))(hb:Binds X.K fd ps ds)(hd:Vals sG ds)(hx:Passes CX X E)
  (hdb:(x==("__debug__":Str))=false):PE X (.Call (.Name x p) [] [] pos) (Ka C sp sG E Lw):=by
 intro pins s σ H Q I h;refine aaH (kE I hg hm ?_ hdb);exact aco I.nM M.kp (v7 (us:=[]) M F hr hb hd hx I .nil h)
end
structure pP (N P:List Str) (sc:Scope):Prop where
 kind:sc.kind=.function
 co:sc.isCoroutine=false
 gen:sc.isGenerator=false
 nd:N.Nodup
 pre:N.take P.length=P
 par:∀x∈P,sc.names.lookup x=some .local\/sc.names.lookup x=some .cell
 Lz:∀y∈sc.names,y.2≠.free
theorem tB{kindOf:Str->Option NameKind}{x:Str}:∀{binds:List (Str×Value)} {m:Str->Option Value},(∀v,(x,v)∉binds)->bindL kindOf binds m x=m x
 |[],_,_=>rfl
 | (n,v)::r,m,h=>by
  unfold bindL;rw[tB λw hw=>h w (aab _ hw)]
  split
  ·have:x≠n:=by rintro rfl;exact h v Z9
   simp[this]
  ·rfl
theorem tD{kindOf:Str->Option NameKind}{x:Str}:∀{binds:List (Str×Value)} {m:Str->Option Value},(∀v,(x,v)∉binds)->bindC kindOf binds m x=m x
 |[],_,_=>rfl
 | (n,v)::r,m,h=>by
  unfold bindC;rw[tD λw hw=>h w (aab _ hw)]
  split
  ·rfl
  ·have:x≠n:=by rintro rfl;exact h v Z9
   simp[this]
theorem tE{kindOf:Str->Option NameKind}{x:Str}{v:Value}:∀{P:List Str} {vs:List Value} {i:Nat} {m:Str->Option Value},P.Nodup->P[i]?=some x->vs[i]?=some v->kindOf x=some .local ->
  bindL kindOf (P.zip vs) m x=some v
 |[],_,_,_,_,h,_,_=>by simp at h
 |_::_,[],_,_,_,_,h,_=>by simp at h
 | p::P,w::vs,0,m,nd,h1,h2,hk=>by
  simp at h1 h2;subst h1;subst h2;show bindL kindOf ((p,w)::P.zip vs) m p=_;unfold bindL;rw[tB λv hv=>(aaC.mp nd).1 (of_mem_zip hv).1,Z7 hk];simp
 | p::P,w::vs,i+1,m,nd,h1,h2,hk=>by
  show bindL kindOf ((p,w)::P.zip vs) m x=_;unfold bindL;exact tE (i:=i) (aaC.mp nd).2 (by simpa using h1) (by simpa using h2) hk
theorem tF{kindOf:Str->Option NameKind}{x:Str}{v:Value}:∀{P:List Str} {vs:List Value} {i:Nat} {m:Str->Option Value},P.Nodup->P[i]?=some x->vs[i]?=some v->kindOf x≠some .local ->
  bindC kindOf (P.zip vs) m x=some v
 |[],_,_,_,_,h,_,_=>by simp at h
 |_::_,[],_,_,_,_,h,_=>by simp at h
 | p::P,w::vs,0,m,nd,h1,h2,hk=>by
  simp at h1 h2;subst h1;subst h2;show bindC kindOf ((p,w)::P.zip vs) m p=_;unfold bindC;rw[tD λv hv=>(aaC.mp nd).1 (of_mem_zip hv).1,Z8 hk];simp
 | p::P,w::vs,i+1,m,nd,h1,h2,hk=>by
  show bindC kindOf ((p,w)::P.zip vs) m x=_;unfold bindC;exact tF (i:=i) (aaC.mp nd).2 (by simpa using h1) (by simpa using h2) hk
def start(N:List Str)(vs:List V):St:=vs.map some++replicate (N.length-vs.length) none
def yS(CX:BL)(P:Program)(w:World)(K:Frag)(mg:Str->Option Value)(base:Heap)(N:List Str)(qual:Str)(scope:Scope)(f:Addr)(cd:Value)(A:Around)(outer:List Env)(s:Shared)(H:Hp)(E:XK):Cx where
 prog:=P
 w:=w
 K:=K
 mg:=mg
 base:=base
 A:=A.deeper (envOfC qual scope s.heap.objs.size f cd)
 N:=N
 s₀:=s
 H₀:=H
 env:=envOfC qual scope s.heap.objs.size f cd
 outer:=outer
 stack:=envOfC qual scope s.heap.objs.size f cd::outer
 ex:=[]
 calm:=true
 fn:=λ_=>true
 pn:=[]
 xe:=λe s'=>wpAny (model P w) (A.deeper (envOfC qual scope s.heap.objs.size f cd)) (leaving (envOfC qual scope s.heap.objs.size f cd) e) (λ_ s''=>CX outer H s E e s'') (λe' s''=>CX outer H s E e' s'') s'
theorem v8{sc:Scope}{n:Nat}{x:Str}(h:sc.names.lookup x=some .cell):∃c,(cellsFrom n sc.names []).lookup x=some c:=by
 have q:=cellsFrom_some sc.names n [] (.inl h);exact Option.isSome_iff_exists.mp q
theorem BN{CX:BL}{P:Program}{w:World}{K:Frag}{mg:Str->Option Value}{base:Heap}{N ps:List Str}{qual:Str}{scope:Scope}{f:Addr}{cd:Value}{A:Around}{outer:List Env}{s s1:Shared}{H:Hp}{E:XK}{us:List Value}{vs:List V}
  (S:pP N ps scope) (hd:A.handled=none) (e0:yR P w K mg base A outer s H) (hl:vs.length=ps.length) (r:Vals vs us)
  (x:InCallC s s.heap.objs.size (bindL (envOfC qual scope s.heap.objs.size f cd).kindOf (ps.zip us) λ_=>none) (cellsFrom (s.heap.objs.size+1) scope.names []) (bindC (envOfC qual scope s.heap.objs.size f cd).kindOf (ps.zip us) λ_=>none) s1) :
  Inv (yS CX P w K mg base N qual scope f cd A outer s H E) [] (start N vs) H s1:=by
 have hpl:ps.length<=N.length:=by have:=aaS length S.pre;rw[abe]at this;omega
 obtain⟨h1,tk,rfl,hk⟩:=x.done;have noA:∀b:Addr,b∉(yS CX P w K mg base N qual scope f cd A outer s H E).ex:=λb z=>absurd (show b∈([]:List Addr) from z) (by simp);refine⟨⟨e0.mod,S.kind,rfl,rfl,aaa _,λy z c h1 h2=>?_,λy hy=>?_,λy c _ h=>?_,λ_=>hd,Around.frames_deeper e0.frames,.inr ⟨rfl,rfl⟩,λb z=>absurd z (noA b),e0.bs,e0.J7,λb _ _=>noA b,λb z=>absurd z (noA b),e0.pD,e0.KZ⟩,
  rfl,e0.bare,Un.kept hk,⟨_,x.toInCall.ns,λi y v h1 h2 h3=>?_⟩,λy c h=>⟨_,x.cell y c h⟩,e0.hok.fresh (aaa _),λy c h=>?_,λp hp=>absurd (show p∈([]:List (Addr×Obj)) from hp) (by simp),e0.hok.kept hk,?_⟩
 ·exact name_of_addr x.apart (aa9 h1) (aa9 h2)
 ·have hy:scope.names.lookup y=some .cell\/scope.names.lookup y=some .free:=hy
  rcases hy with hy|hy
  ·exact v8 hy
  ·exact absurd rfl (S.Lz _ (aa9 hy))
 ·exact abv (x.above y c (aa9 h))
 ·have hi:i<vs.length:=by
   unfold start at h2
   by_cases hi:i<vs.length
   ·exact hi
   ·rw[aau (by simpa using hi)]at h2;rw[List.getElem?_replicate]at h2;split at h2<;>cases h2
  have ha:vs[i]?=some v:=by
   unfold start at h2;rw[aag (by simpa using hi),aas]at h2;cases e:vs[i]? with
   |none=>rw[e]at h2;cases h2
   |some a=>rw[e]at h2;cases h2;rfl
  obtain⟨u,hu,rv⟩:=r.get ha;have hp:ps[i]?=some y:=by rw[<-S.pre,List.getElem?_take_of_lt (by omega)];exact h1
  have Vg:ps.Nodup:=by rw[<-S.pre];exact S.nd.sublist (acy _ _)
  refine⟨u,rv,?_⟩
  rcases S.par y (aaq hp) with k|k
  ·exact .inl ⟨k,tE Vg hp hu k⟩
  ·obtain⟨c,e⟩:=v8 (n:=s.heap.objs.size+1) k;refine .inr ⟨.inl k,c,e,?_⟩;have q:=x.cell y c e;rw[tF Vg hp hu (by show scope.names.lookup y≠_;rw[k];decide)]at q;exact q
 ·exact e0.hok.fresh (abv (x.above y c (aa9 h)))
 ·unfold start;show _=N.length;rw[aak,Z4,List.length_replicate];omega
theorem PN{CX:BL}{P:Program}{w:World}{K:Frag}{mg:Str->Option Value}{base:Heap}{k:Nat}{f:Addr}{name qual:Str}{params:Arguments}{body:List Stmt}{scope:Scope}{dV kV doc pm cdv ct oc:Value}{an od:Option Addr}
  {osl:Array (Option Value)} {N ps:List Str} {sp:Sp} (lk:K.lookup f=some ⟨oc,od,.func (fnOf name qual params body scope dV kV doc pm an cdv ct),osl⟩) (hcd:codeIn K cdv qual=true) (S:pP N ps scope)
  (len:∀vs H Q E,sp vs H Q E->vs.length=ps.length)
  (hbody:∀(A:Around) (outer:List Env) (s:Shared) (H:Hp) (vs:List V) (Q:VK) (E:XK),cW k (A.deeper (envOfC qual scope s.heap.objs.size f cdv))->sp vs H Q E ->
   ∃t,yx (yS CX P w K mg base N qual scope f cdv A outer s H E) body t/\t { nx:=λ_ H'=>Q .non H',rt:=Q } (start N vs) H) :
  fh P w K mg base CX (k+1) f (fnOf name qual params body scope dV kV doc pm an cdv ct) ps sp:=by
 refine⟨len,λA outer s H args us vs Q E hr e0 hb r hsp=>?_⟩;have hl:=len _ _ _ _ hsp;have KX:K.In s.heap:=e0.mod.OI.keeps λb o e=>(e0.bs b o e).1;have lim:s.heap.NoLimit:=e0.mod.nolimit.keeps λb o e=>(e0.bs b o e).1;have hkind:∀y∈ps.zip us,scope.names.lookup y.1=some .local\/(scope.names.lookup y.1=some .cell/\((cellsFrom (s.heap.objs.size+1) scope.names []).lookup y.1).isSome=true):=λ⟨n,v⟩ hy=>by
  rcases S.par n (of_mem_zip hy).1 with q|q
  ·exact .inl q
  ·exact .inr ⟨q,cellsFrom_some _ _ _ (.inl q)⟩
 refine codeAny_call_function hr.depth (KX _ _ lk) rfl S.co S.gen rfl (PySem.W.codeRec_of KX hcd) (hb _ _ _ _ ?_);refine wpAny_newFunctionEnv_cells S.kind hkind λenv he s1 x=>?_;subst he;refine⟨lim.keeps x.toInCall.keep,codeAny_func ?_⟩;obtain⟨t,ht,hq⟩:=hbody A outer s H vs Q E (hr.deeper _) hsp;have I:Inv (yS CX P w K mg base N qual scope f cdv A outer s H E) [] (start N vs) H s1:=BN S hr.hd e0 hl r x;refine aa3 (ht [] s1 (start N vs) H _ I hq) (λfl s' hs=>?_) λe s' hs=>hs;have fin:∀{σ':St} {H':Hp} {v:V} {u:Value},Inv (yS CX P w K mg base N qual scope f cdv A outer s H E) [] σ' H' s'->RelV v u->Q v H'->CE outer P w H s Q u s' :=
  λ{σ' H' v u} J rv q=>⟨v,H',J.os,J.bare,J.base,J.hok,rv,q⟩
 cases fl with
 |ret u=>obtain⟨v,σ',H',J,rv,q⟩:=hs;exact fin J rv q
 |next=>obtain⟨σ',H',J,q⟩:=hs;exact fin (v:=V.non) (u:=Value.none) J rfl q
 |brk=>obtain⟨_,_,_,q⟩:=hs;exact False.elim q
 |cont=>obtain⟨_,_,_,q⟩:=hs;exact False.elim q
section
variable {X:Cx} {x:Str} {p pos:Pos} {e:Expr} {es:List Expr} {t:TA} {id T:String} {r:List V->Hp->VK->Prop}
def Vh(r:List V->Hp->VK->Prop)(t:TA):TE:=λσ H Q=>t σ H λvs H1=>r vs H1 Q
theorem gB(hc:cV X (.builtin id) r)(hg:Gl X x)(hm:X.mg x=none)(hv:bootBuiltins x=some (.builtin id))(ha:PA X (e::es) t)(hn:x ≠ "__name__":=by decide)(hdb:(x==("__debug__":Str))=false:=by decide)
  (he:starEach (e::es) X.env=(false,eval e X.env)::starEach es X.env:=by rfl) (hpl:(backTo pos (starEach es X.env)).any (·.1)=false:=by rfl):PE X (.Call (.Name x p) (e::es) [] pos) (Vh r t):=by
 intro pins s σ H Q I h;refine aaH (gg I hg hm hv ?_ hn hdb);exact abf (b6 (ha pos pins s σ H _ I h) λus s1 ⟨vs,H1,I1,r1,q1⟩=>hc pins s1 σ H1 vs us Q I1 r1 q1) he hpl
theorem kF(hc:cV X (.type T) r)(hg:Gl X x)(hm:X.mg x=none)(hv:bootBuiltins x=some (.type T))(ha:PA X (e::es) t)(hn:x ≠ "__name__")(hdb:(x==("__debug__":Str))=false)
  (he:starEach (e::es) X.env=(false,eval e X.env)::starEach es X.env) (hpl:(backTo pos (starEach es X.env)).any (·.1)=false):PE X (.Call (.Name x p) (e::es) [] pos) (Vh r t):=by
 intro pins s σ H Q I h;refine aaH (gg I hg hm hv ?_ hn hdb);exact aaJ (b6 (ha pos pins s σ H _ I h) λus s1 ⟨vs,H1,I1,r1,q1⟩=>hc pins s1 σ H1 vs us Q I1 r1 q1) he hpl
end
end L2
namespace HT
open PySem PyProof.Rows
def lexLt:List Int->List Int->Bool
 |[],[]=>false
 |[],_::_=>true
 |_::_,[]=>false
 |x::xs,y::ys=>if x=y then lexLt xs ys else decide (x<y)
theorem fj(x y:Int)(xs ys:List Int):lexLt (x::xs) (y::ys)=if x=y then lexLt xs ys else decide (x<y):=rfl
theorem sL:lexLt [] []=false:=rfl
theorem gC(y:Int)(ys:List Int):lexLt [] (y::ys)=true:=rfl
theorem dZ(x:Int)(xs:List Int):lexLt (x::xs) []=false:=rfl
section
variable {prog:Program} {w:World} {A:Around} {E:Value->Shared->Prop} {s:Shared}
theorem HJ(ht:IsTup s.heap t vs.toArray)(hb:IsTup s.heap b ws.toArray)(hv:vs≠[])
  (h1:ws=[]->Q (.ref t) s) (h2:ws≠[]->Q (.ref s.heap.objs.size) { s with heap:=s.heap.push { cls:=.type "tuple",data:=.seq (vs++ws).toArray } })
  (hsz:vs.length+ws.length<=sizeLine):wpAny (model prog w) A (binaryOp .Add (.ref t) (.ref b)) Q E s:=by
 obtain⟨⟨cls,dd,data,sl⟩,ho,hc,n,hd⟩:=id ht;obtain⟨⟨W2,dd2,data2,sl2⟩,ho2,hc2,n2,hd2⟩:=id hb;simp only at hc hd hc2 hd2;subst hc hd hc2 hd2;have e:vs.toArray++ws.toArray=(vs++ws).toArray:=by simp
 by_cases hw:ws=[]
 ·exact concat_meets ⟨_,ho,rfl⟩ ⟨_,ho2,rfl⟩ noFill_tuple_add seq_tuple_add PySem.F.slot_tuple_add PySem.F.entry_tuple_add (PySem.F.args_tuple_add_2 _ _)
   (tuple_addW1 t b vs.toArray ws.toArray n n2 dd dd2 sl sl2 (by simpa using hv) (by simp[hw])) ⟨ho,ho2,h1 hw⟩
 ·refine concat_meets ⟨_,ho,rfl⟩ ⟨_,ho2,rfl⟩ noFill_tuple_add seq_tuple_add PySem.F.slot_tuple_add PySem.F.entry_tuple_add (PySem.F.args_tuple_add_2 _ _)
   (tuple_addW2 t b vs.toArray ws.toArray n n2 dd dd2 sl sl2 (by simpa using hv) (by simpa using hw) (by rw[aae,aae];exact hsz)) ⟨ho,ho2,?_⟩
  rw[e];exact h2 hw
def dQ(n d:Nat):Option Int->Nat
 |none=>d
 |some v=>if v<0 then (v+(n:Int)).toNat else min v.toNat n
theorem v9(n d:Nat):dQ n d none=d:=rfl
theorem z5(n d k:Nat):dQ n d (some (k:Int))=min k n:=by
 show (if (k:Int)<0 then ((k:Int)+(n:Int)).toNat else min (k:Int).toNat n)=min k n;rw[Z8 (by omega),Int.toNat_natCast]
theorem LA(n d:Nat)(hd:d<=n)(o:Option Int):dQ n d o<=n:=by
 cases o with
 |none=>exact hd
 |some v=>
  show (if v<0 then (v+(n:Int)).toNat else min v.toNat n)<=n
  by_cases hv:v<0
  ·rw[Z7 hv];omega
  ·rw[Z8 hv];exact Nat.min_le_right _ _
theorem z6(v:Int)(n d:Nat):(if v<0 then max (v+(n:Int)) 0 else min v (n:Int))=((dQ n d (some v):Nat):Int):=by
 show (if v<0 then max (v+(n:Int)) 0 else min v (n:Int))=(((if v<0 then (v+(n:Int)).toNat else min v.toNat n):Nat):Int)
 by_cases hv:v<0
 ·simp only[if_pos hv];omega
 ·simp only[if_neg hv];omega
theorem yT(lo hi:Option Int)(n:Nat):Builtin.Slice.sliceAdjust lo hi 1 (n:Int)=(((dQ n 0 lo:Nat):Int),((dQ n n hi:Nat):Int)):=by
 have h1:¬ ((1:Int)<0):=by omega
 unfold Builtin.Slice.sliceAdjust;simp only[h1,if_false];refine Prod.ext ?_ ?_
 ·cases lo with
  |none=>rfl
  |some v=>exact z6 v n 0
 ·cases hi with
  |none=>rfl
  |some v=>exact z6 v n n
theorem yU(i j:Nat):Builtin.Slice.slicePlaces (i:Int) (j:Int) 1=j-i:=by
 unfold Builtin.Slice.slicePlaces;have h1:(1:Int)>0:=by omega
 simp only[h1,if_true,Int.ediv_one]
 split<;>omega
theorem qg{o:Option Int}(p:IsPart v o)(h:Q o s):wpAny (model prog w) A (Builtin.Slice.slicePartIndex v) Q E s:=by
 cases p with
 |none=>exact slicePart_none h
 |int i t=>exact slicePart_int h
theorem nP{lo hi:Option Int}{n:Nat}(hs:s.heap.IsSliceOf sl vl vu .none)(pl:IsPart vl lo)(pu:IsPart vu hi)
  (h:Q (((dQ n 0 lo:Nat):Int),1,dQ n n hi-dQ n 0 lo) s):wpAny (model prog w) A (Builtin.Slice.sliceApplied (.ref sl) (pure (n:Int))) Q E s:=by
 obtain⟨os,hos,hcs,hds⟩:=id hs;unfold Builtin.Slice.sliceApplied Builtin.Slice.sliceFields;refine ZZ (ZZ (wpAny_field hos hds (x:=vl) rfl (ZZ (wpAny_field hos hds (x:=vu) rfl (ZZ (wpAny_field hos hds (x:=.none) rfl (Z6 ?_)))))));refine ZZ (slicePart_none ?_);show wpAny _ _ (if ((1:Int)==0)=true then _ else _) _ _ s;rw[Z8 (by decide)];refine ZZ (qg pl (ZZ (qg pu (ZZ (Z6 ?_)))));show wpAny _ _ (match Builtin.Slice.sliceAdjust lo hi 1 (n:Int) with|(lo,hi)=>pure (lo,(1:Int),Builtin.Slice.slicePlaces lo hi 1)) _ _ s;rw[yT lo hi n];show wpAny _ _ (pure (((dQ n 0 lo:Nat):Int),(1:Int),Builtin.Slice.slicePlaces ((dQ n 0 lo:Nat):Int) ((dQ n n hi:Nat):Int) 1)) _ _ s;rw[yU];exact Z6 h
theorem C8(xs:Array Value)(i k:Nat):((List.range k).filterMap λ(m:Nat)=>xs[((i:Int)+(m:Int)*1).toNat]?).toArray=((xs.toList.drop i).take k).toArray:=by
 have e:(λ(m:Nat)=>xs[((i:Int)+(m:Int)*1).toNat]?)=λm=>xs[i+m]?:=by
  funext m;have:((i:Int)+(m:Int)*1).toNat=i+m:=by omega
  rw[this]
 rw[e];have:=pick_run xs i k;rw[List.filterMap_map]at this;have e2:((λx=>xs[x]?)∘λx=>i+x)=λm=>xs[i+m]?:=rfl;rw[e2]at this;rw[this]
theorem mh{lo hi:Option Int}(ht:IsTup s.heap t items)(hs:s.heap.IsSliceOf sl vl vu .none)(pl:IsPart vl lo)(pu:IsPart vu hi)
  (hw:¬ (dQ items.size 0 lo=0/\dQ items.size items.size hi=items.size))
  (h:Q (.ref s.heap.objs.size) { s with heap:=s.heap.push { cls:=.type "tuple",data:=.seq ((items.toList.drop (dQ items.size 0 lo)).take (dQ items.size items.size hi-dQ items.size 0 lo)).toArray } })
  (hsz:items.size<=sizeLine):wpAny (model prog w) A (getItem (.ref t) (.ref sl)) Q E s:=by
 have z7:sizeOk (.seq ((items.toList.drop (dQ items.size 0 lo)).take (dQ items.size items.size hi-dQ items.size 0 lo)).toArray):=by show ((items.toList.drop (dQ items.size 0 lo)).take (dQ items.size items.size hi-dQ items.size 0 lo)).toArray.size<=sizeLine;rw[aae,abe,acf,aax];omega
 have hj:dQ items.size items.size hi<=items.size:=LA _ _ (aaa _) hi;obtain⟨os,hos,hcs,hds⟩:=id hs;have TL:s.TypeIs (.ref sl) "slice":=⟨os,hos,hcs⟩;unfold getItem
 try with_reducible refine aa6 ?_
 first|refine ZZ (Z6 ?_)|skip
 refine ZZ (wpAny_sequenceKey ht.typeIs (by decide) ?_);refine ZZ (abZ (name:=Str.ofString "__getitem__") ht.typeIs PyProof.Rows.slot_tuple_getitem
  (abz PyProof.Rows.slot_tuple_getitem ht.typeIs entry_tuple_getitem ?_ (args_tuple_getitem _ _)))
 show wpAny _ _ (Builtin.Tuple.tupleItemsOf (.ref t) >>= _) _ _ s;refine ZZ (tupleItemsOf_ ht ?_);refine ZZ (wpAny_typeOf TL ?_);rw[Z7 (by decide)];refine ZZ (nP hs pl pu ?_);have hno:¬ ((((dQ items.size 0 lo:Nat):Int)==0&&(1:Int)==1&&(dQ items.size items.size hi-dQ items.size 0 lo)==items.size)=true):=by intro q;rw[abm,abm]at q;have q1:((dQ items.size 0 lo:Nat):Int)=0:=eq_of_beq q.1.1;have q2:dQ items.size items.size hi-dQ items.size 0 lo=items.size:=eq_of_beq q.2;exact hw ⟨by omega,by omega⟩
 show wpAny _ _ (if (((dQ items.size 0 lo:Nat):Int)==0&&(1:Int)==1&&(dQ items.size items.size hi-dQ items.size 0 lo)==items.size)=true then _ else _) _ _ s;rw[Z8 hno,C8]
 first
  |exact ZZ (m:=Builtin.Tuple.tupleExact _) (aaG (Z6 ⟨_,rfl,Z6 h⟩) z7)
  |exact ZZ (m:=Builtin.Tuple.tupleExact _) (aaG (ZZ (Z6 (Z6 ⟨_,rfl,Z6 h⟩))) z7)
  |exact ZZ (ZZ (m:=Builtin.Tuple.tupleExact _) (aaG (Z6 (Z6 ⟨_,rfl,Z6 h⟩)) z7))
  |exact ZZ (ZZ (m:=Builtin.Tuple.tupleExact _) (aaG (Z6 ⟨_,rfl,Z6 h⟩) z7))
end
end HT
namespace L2
open PySem PySem.Spec PyProof.Rows
abbrev TO:=St->Hp->(Option Int->Hp->Prop)->Prop
def PO(X:Cx)(e:Option Expr)(t:TO):Prop :=
 ∀(pins:List (Addr×Obj)) (s:Shared) (σ:St) (H:Hp) (Q:Option Int->Hp->Prop),Inv X pins σ H s->t σ H Q ->
  wpAny (model X.prog X.w) X.A (evalPart e X.env) (λu s'=>∃o H',Inv X pins σ H' s'/\IsPart u o/\Q o H') X.xe s
def HK:TO:=λ_ H Q=>Q none H
def PR(t:TE):TO:=λσ H Q=>t σ H λx H1=>∃i,x=.int i/\Q (some i) H1
theorem intsAre_of{ns:List Int}:∀{us:List Value},Vals (ns.map V.int) us->IntsAre us ns:=by
 induction ns with
 |nil=>intro us r;rw[abh]at r;cases r;exact .nil
 |cons n ns ih=>
  intro us r;rw[aac]at r;cases r with
  |cons r1 r2=>obtain⟨t,e⟩:=r1;subst e;exact .cons n t (ih r2)
section
variable {X:Cx} {e:Expr} {te:TE} {lo hi:Option Expr} {tl th:TO} {pos p2:Pos}
theorem HL:PO X none HK:=by
 intro pins s σ H Q I h;rw[evalPart_none];exact Z6 ⟨none,H,I,.none,h⟩
theorem HM(h:PE X e te):PO X (some e) (PR te):=by
 intro pins s σ H Q I hw;rw[evalPart_some];refine b6 (h pins s σ H _ I hw) λu s1 aJ=>?_;obtain⟨x,H1,I1,r1,q1⟩:=aJ;obtain⟨i,rfl,q⟩:=q1;obtain⟨t,rfl⟩:=r1;exact⟨some i,H1,I1,.int i t,q⟩
def SA(X:Cx)(r:V->Option Int->Option Int->Hp->VK->Prop):Prop :=
 ∀(pins:List (Addr×Obj)) (s:Shared) (σ:St) (H:Hp) (x:V) (v vl vu:Value) (lo hi:Option Int) (sl:Addr) (Q:VK),Inv X pins σ H s->RelV x v->s.heap.IsSliceOf sl vl vu .none->IsPart vl lo->IsPart vu hi->r x lo hi H Q ->
  ∃T id,typeLookup (.type T) "__getitem__" = pure (some (.builtin id))/\s.TypeIs v T/\wpAny (model X.prog X.w) X.A (getItem v (.ref sl)) (EP X pins σ Q) X.xe s
def W3(r:V->Option Int->Option Int->Hp->VK->Prop)(te:TE)(tl th:TO):TE:=λσ H Q=>te σ H λx H1=>tl σ H1 λl H2=>th σ H2 λu H3=>r x l u H3 Q
theorem C9(hr:SA X r)(he:PE X e te)(hl:PO X lo tl)(hu:PO X hi th):PE X (.Subscript e (.Slice lo hi none p2) pos) (W3 r te tl th):=by
 intro pins s σ H Q I h;refine Subscript_ (b6 (he pins s σ H _ I h) λv s1 aJ=>?_);obtain⟨x,H1,I1,r1,q1⟩:=aJ;refine wpAny_Slice (b6 (hl pins s1 σ H1 _ I1 q1) λvl s2 ⟨l,H2,I2,pl,q2⟩=>b6 (hu pins s2 σ H2 _ I2 q2) λvu s3 aJ=>?_);obtain⟨u,H3,I3,pu,q3⟩:=aJ;rw[evalPart_none];refine Z6 ?_;have I4:Inv X pins σ H3 { s3 with heap:=s3.heap.push { cls:=.type "slice",data:=.fields [vl,vu,.none].toArray } }:=I3.kept (t':=s3.toks) λb ob q=>Z3 _ q;obtain⟨T,id,hT,ht,hg⟩:=hr pins { s3 with heap:=s3.heap.push { cls:=.type "slice",data:=.fields [vl,vu,.none].toArray } } σ H3 x v vl vu l u s3.heap.objs.size Q I4 r1 (Heap.IsSliceOf.new ..) pl pu q3;show wpAny (model X.prog X.w) X.A (subscriptTail e (.Slice lo hi none p2) v (.ref s3.heap.objs.size)) (EP X pins σ Q) X.xe { s3 with heap:=s3.heap.push { cls:=.type "slice",data:=.fields [vl,vu,.none].toArray } };exact tail_any (ops:=[.ref s3.heap.objs.size,v]) ht hT hg (by with_unfolding_all rfl)
def wc(xs:List V)(lo hi:Option Int):List V:=(xs.drop (HT.dQ xs.length 0 lo)).take (HT.dQ xs.length xs.length hi-HT.dQ xs.length 0 lo)
theorem oV(xs:List V)(lo hi:Option Int):(wc xs lo hi).length<=xs.length:=by
 unfold wc;rw[abe,acf];omega
def TM(K:Frag):V->Option Int->Option Int->Hp->VK->Prop:=λx lo hi H Q=>∃a xs,x=.ref a/\jP K H a xs /\
 ¬ (HT.dQ xs.length 0 lo=0/\HT.dQ xs.length xs.length hi=xs.length)/\∀p,H p=none->Q (.ref p) (upd H p (.tup (wc xs lo hi)))
theorem LB:SA X (TM X.K):=by
 intro pins s σ H x v vl vu lo hi sl Q I rx hs pl pu h;obtain⟨a,xs,rfl,hx,hw,q⟩:=h;cases rx;obtain⟨its,r,ht,hz⟩:=I.tuple hx;have hlen:its.toArray.size=xs.length:=by rw[aae];exact r.length.symm
 refine⟨"tuple",_,PyProof.Rows.slot_tuple_getitem.lookup,ht.typeIs,?_⟩;refine HT.mh ht hs pl pu (by rw[hlen];exact hw) ?_ (by rw[hlen];exact hz);rw[hlen];refine⟨.ref s.heap.objs.size,_,I.laid (t':=s.toks) (o:=.tup (wc xs lo hi)) (λb ob q=>Z3 _ q) (aaa _) ?_,rfl,q _ (I.hok.fresh (aaa _))⟩;exact⟨aay (oV xs lo hi) hz,_,(r.drop (HT.dQ xs.length 0 lo)).take (HT.dQ xs.length xs.length hi-HT.dQ xs.length 0 lo),IsTup.new _ _⟩
def PU(K:Frag):R2:=λx y H Q=>∃a b xs ys,x=.ref a/\y=.ref b/\jP K H a xs/\jP K H b ys/\xs≠[]/\xs.length+ys.length<=sizeLine /\
 (ys=[]->Q (.ref a) H)/\(ys≠[]->∀p,H p=none->Q (.ref p) (upd H p (.tup (xs++ys))))
theorem Vals.uM(r:Vals xs us):us=[]↔xs=[]:=by
 cases r with
 |nil=>simp
 |cons _ _=>simp
theorem HN:jU X (binaryOp .Add) (PU X.K):=by
 intro pins s σ H x y v u Q I rx ry h;obtain⟨a,b,xs,ys,rfl,rfl,ha,hb,hx,hz,q1,q2⟩:=h;cases rx;cases ry;obtain⟨its,r1,p1,_⟩:=I.tuple ha;obtain⟨its2,r2,p2,_⟩:=I.tuple hb;refine HT.HJ p1 p2 (λz=>hx (r1.uM.mp z)) (λz=>⟨.ref a,H,I,rfl,q1 (r2.uM.mp z)⟩) (λz=>?_) (by rw[<-r1.length,<-r2.length];exact hz);refine⟨.ref s.heap.objs.size,_,I.laid (t':=s.toks) (o:=.tup (xs++ys)) (λb ob q=>Z3 _ q) (aaa _) ?_,rfl,q2 (λw=>z (r2.uM.mpr w)) _ (I.hok.fresh (aaa _))⟩;exact⟨by rw[aak];exact hz,_,r1.append r2,IsTup.new _ _⟩
end
def BO(n:Nat)(i:Int):Option Nat:=if 0<=i then (if i<n then some i.toNat else none) else if -(n:Int)<=i then some (i+n).toNat else none
def jQ{α:Type}(xs:List α)(i:Int):Option α:=(BO xs.length i).bind λj=>xs[j]?
theorem z8{n:Nat}{i:Int}{j:Nat}(h:BO n i=some j):seqIndex? i n=some j/\j<n /\ -(n:Int)<=i/\i<n:=by
 unfold BO at h
 by_cases h0:0<=i
 ·rw[Z7 h0]at h
  by_cases h1:i<n
  ·rw[Z7 h1]at h;have e:i.toNat=j:=aat h;exact⟨by rw[seqIndex_of h0 h1,e],by omega,by omega,h1⟩
  ·rw[Z8 h1]at h;cases h
 ·rw[Z8 h0]at h
  by_cases h1:-(n:Int)<=i
  ·rw[Z7 h1]at h;have e:(i+n).toNat=j:=aat h;exact⟨by rw[seqIndex_neg (by omega) h1,e],by omega,h1,by omega⟩
  ·rw[Z8 h1]at h;cases h
theorem uN{α:Type}{xs:List α}{i:Int}{v:α}(h:jQ xs i=some v):∃j,seqIndex? i xs.length=some j/\xs[j]?=some v/\j<xs.length /\ -(xs.length:Int)<=i/\i<xs.length:=by
 unfold jQ at h;cases e:BO xs.length i with
 |none=>rw[e]at h;cases h
 |some j=>rw[e]at h;obtain⟨h1,h2,h3,h4⟩:=z8 e;exact⟨j,h1,h,h2,h3,h4⟩
theorem mj{α:Type}{xs:List α}{j:Nat}{v:α}(h:xs[j]?=some v):jQ xs (j:Int)=some v:=by
 have hj:j<xs.length:=(Z5.mp h).1;have e:BO xs.length (j:Int)=some j:=by unfold BO;rw[Z7 (by omega),Z7 (by omega)];simp
 unfold jQ;rw[e];exact h
def z9(b:Expr):Prop:=∀o i,subscripted b false o i=operate [o,i] (getItem o i)
def OO(X:Cx)(r:R2):Prop :=
 ∀(value slice:Expr) (pins:List (Addr×Obj)) (s:Shared) (σ:St) (H:Hp) (x y:V) (v u:Value) (Q:VK),Inv X pins σ H s->RelV x v->RelV y u->r x y H Q ->
  subscripted slice false v u=operate [v,u] (getItem v u)->wpAny (model X.prog X.w) X.A (subscriptTail value slice v u) (EP X pins σ Q) X.xe s
def LC(X:Cx)(id:String)(r:V->List V->Hp->VK->Prop):Prop :=
 ∀(pins:List (Addr×Obj)) (s:Shared) (σ:St) (H:Hp) (x:V) (xs:List V) (v:Value) (us:List Value) (Q:VK),Inv X pins σ H s->RelV x v->Vals xs us->r x xs H Q ->
  wpAny (model X.prog X.w) X.A (call (.builtin id) (v::us)) (EP X pins σ Q) X.xe s
section
variable {X:Cx} {a b:Expr} {ta tb:TE} {pos:Pos}
theorem PV(hr:OO X r)(ha:PE X a ta)(hb:PE X b tb)(hs:z9 b):PE X (.Subscript a b pos) (ON r ta tb):=by
 intro pins s σ H Q I h;exact Subscript_ (Lj ha hb I h λv u s2 x y H2 I2 rx ry q=>hr a b pins s2 σ H2 x y v u Q I2 rx ry q (hs _ _))
def TN(K:Frag):R2:=λx y H Q=>∃p xs i v,x=.ref p/\y=.int i/\gA K H p xs/\jQ xs i=some v/\Q v H
def TQ(K:Frag):R2:=λx y H Q=>∃p xs i v,x=.ref p/\y=.int i/\jP K H p xs/\jQ xs i=some v/\Q v H
def TR:R2:=λx y H Q=>∃z i c,x=.str z/\y=.int i/\z.length<=sizeLine/\jQ z.cps.toList i=some c/\Q (.str ⟨[c].toArray⟩) H
theorem Aa:OO X (TN X.K):=by
 intro value slice pins s σ H x y v u Q I rx ry h hs;obtain⟨p,xs,i,z,rfl,rfl,hq,he,q⟩:=h;cases rx;obtain⟨t,rfl⟩:=ry;obtain⟨its,r,pl,hz⟩:=I.list hq;obtain⟨j,h1,h2,h3,h4,h5⟩:=uN he;obtain⟨w,ew,rw'⟩:=r.get h2;have hl:=r.length;have hn:=nN;have fin:EP X pins σ Q w s:=⟨z,H,I,rw',q⟩
 by_cases h0:0<=i
 ·have hj:i.toNat=j:=by
   rw[seqIndex_of h0 h5]at h1;exact aat h1
  exact item_listR pl.isList h0 (by omega) (by rw[hj];simpa using ew) fin hs
 ·have hj:(i+(its.toArray.size:Int)).toNat=j:=by
   rw[seqIndex_neg (by omega) h4]at h1;rw[aae,<-hl];exact aat h1
  exact subscriptTail_builtinR (x:=w) pl.isList.typeIs slot_list_getitem.lookup
   (wpAny_getItem_list_neg (Q:=λr s'=>r=w/\EP X pins σ Q r s') pl.isList (by omega) (by rw[aae]<;>omega) (by omega) (by rw[hj];simpa using ew) ⟨rfl,fin⟩) hs
theorem LD:OO X (TQ X.K):=by
 intro value slice pins s σ H x y v u Q I rx ry h hs;obtain⟨p,xs,i,z,rfl,rfl,hq,he,q⟩:=h;cases rx;obtain⟨t,rfl⟩:=ry;obtain⟨its,r,pl,hz⟩:=I.tuple hq;obtain⟨j,h1,h2,h3,h4,h5⟩:=uN he;obtain⟨w,ew,rw'⟩:=r.get h2;have hl:=r.length;have hn:=nN;have fin:EP X pins σ Q w s:=⟨z,H,I,rw',q⟩;exact subscriptTail_builtinR (x:=w) pl.typeIs slot_tuple_getitem.lookup
  (getItem_tuple (j:=j) (Q:=λr s'=>r=w/\EP X pins σ Q r s') pl (by omega) (by omega) (by rw[aae,<-hl];exact h1) (by simpa using ew) ⟨rfl,fin⟩) hs
theorem LF:OO X TR:=by
 intro value slice pins s σ H x y v u Q I rx ry h hs;obtain⟨z,i,c,rfl,rfl,hz,he,q⟩:=h;obtain⟨t,rfl⟩:=rx;obtain⟨t',rfl⟩:=ry;obtain⟨j,h1,h2,h3,h4,h5⟩:=uN he;have hl:z.cps.toList.length=z.length:=by simp[Str.length]
 rw[hl]at h1 h4 h5;have hn:=nN;exact tail_any (typeIs_str s z t) slot_str_getitem.lookup (getItem_str (c:=c) (by
  have e1:decide (i < -(2 ^ 63:Int))=false:=decide_eq_false (by omega);have e2:decide (i≥2 ^ 63)=false:=decide_eq_false (by omega);rw[e1,e2,Bool.or_false]) (by rw[h1];simpa using h2) ⟨.str ⟨[c].toArray⟩,H,I.tok _,⟨_,rfl⟩,q⟩) hs
theorem yV(its:List Value)(n j:Nat)(u:Value):Obj.mapSeq (·.setIfInBounds j u) { cls:=.type "list",data:=.seq its.toArray n }={ cls:=.type "list",data:=.seq (its.set j u).toArray n }:=by
 simp[Obj.mapSeq]
theorem Inv.lst(I:Inv X pins σ H s)(h:H p=some (.lst xs)) :
  ∃(its:List Value) (n:Nat),Vals xs its/\s.heap.get? p=some { cls:=.type "list",data:=.seq its.toArray n }/\xs.length<=sizeLine:=by
 obtain⟨z,its,n,r,e⟩:=I.hok p _ h;exact⟨its,n,r,e,z⟩
theorem Inv.LG{pins:List (Addr×Obj)}{σ:St}{H:Hp}{s:Shared}{p:Addr}{xs ys:List V}{its its':List Value}{n n':Nat}{f:Obj->Obj}(I:Inv X pins σ H s)(h:H p=some (.lst xs))
  (ho:s.heap.get? p=some { cls:=.type "list",data:=.seq its.toArray n }) (hf:f { cls:=.type "list",data:=.seq its.toArray n }={ cls:=.type "list",data:=.seq its'.toArray n' }) (r:Vals ys its') (hz:ys.length<=sizeLine) (t:Nat) :
  Inv X pins σ (upd H p (.lst ys)) { s with heap:=s.heap.update p f,toks:=t }:=by
 have e:(s.heap.update p f).get? p=some { cls:=.type "list",data:=.seq its'.toArray n' }:=by rw[aaR f ho (by rw[hf]<;>rfl),hf]
 refine I.write (x:=p) (e:=p) (by rw[h];trivial) (.inl rfl) (λb u hb q=>(abC _ _ (Ne.symm hb)).trans q) ⟨_,e⟩ ?_;exact⟨hz,its',n',r,e⟩
def PX:V->V->V->Hp->(Hp->Prop)->Prop:=λo i v H Q=>∃p xs k j,o=.ref p/\i=.int k/\H p=some (.lst xs)/\BO xs.length k=some j/\Q (upd H p (.lst (xs.set j v)))
theorem set_list:Ld X PX:=by
 intro pins s σ H o i v ov iv u Q I ro ri rv h;obtain⟨p,xs,k,j,rfl,rfl,hp,hj,q⟩:=h;cases ro;obtain⟨t,rfl⟩:=ri;obtain⟨its,n,r,ho,hz⟩:=I.lst hp;obtain⟨h1,h2,h3,h4⟩:=z8 hj;have hl:=r.length;have hn:=nN;have I':Inv X pins σ (upd H p (.lst (xs.set j v))) { s with heap:=s.heap.update p (Obj.mapSeq (·.setIfInBounds j u)) } :=
  I.LG hp ho (yV its n j u) (r.set rv j) (by rw[abc];exact hz) s.toks
 by_cases h0:0<=k
 ·have hk:k.toNat=j:=by
   rw[seqIndex_of h0 h4]at h1;exact aat h1
  exact PySem.W.ki_setAt ho h0 (by omega) (by rw[aae,<-hl];exact h4) (by rw[hk];exact⟨_,I',q⟩)
 ·have hk:(k+(its.toArray.size:Int)).toNat=j:=by
   rw[seqIndex_neg (by omega) h3]at h1;rw[aae,<-hl];exact aat h1
  exact PySem.W.ki_setBack ho (by omega) (by rw[aae,<-hl];exact h3) (by omega) (by rw[hk];exact⟨_,I',q⟩)
theorem uO(lo hi:Option Int)(n:Nat):(sliceBounds lo hi none n).1=((HT.dQ n 0 lo:Nat):Int)/\(sliceBounds lo hi none n).2.1=((HT.dQ n n hi:Nat):Int)/\(sliceBounds lo hi none n).2.2=1:=by
 refine⟨?_,?_,rfl⟩
 ·cases lo with
  |none=>simp[sliceBounds,HT.dQ]
  |some i=>
   simp only[sliceBounds,HT.dQ,getD_none,show (1:Int)>0 by decide,if_true]
   by_cases h:i<0
   ·simp only[h,if_true]<;>omega
   ·simp only[h,if_false]<;>omega
 ·cases hi with
  |none=>simp[sliceBounds,HT.dQ]
  |some i=>
   simp only[sliceBounds,HT.dQ,getD_none,show (1:Int)>0 by decide,if_true]
   by_cases h:i<0
   ·simp only[h,if_true]<;>omega
   ·simp only[h,if_false]<;>omega
theorem sM(its:List Value)(lo hi:Option Int):slicePick its.toArray lo hi none=((its.drop (HT.dQ its.length 0 lo)).take (HT.dQ its.length its.length hi-HT.dQ its.length 0 lo)).toArray:=by
 obtain⟨h1,h2,h3⟩:=uO lo hi its.toArray.size;unfold slicePick;rw[h1,h2,h3];simp only[sliceRange_one,pick_run,size_toArray]<;>rfl
def TU(K:Frag):V->Option Int->Option Int->Hp->VK->Prop:=λx lo hi H Q=>∃a xs,x=.ref a/\gA K H a xs/\∀p,H p=none->Q (.ref p) (upd H p (.lst (wc xs lo hi)))
theorem HP:SA X (TU X.K):=by
 intro pins s σ H x v vl vu lo hi sl Q I rx hs pl pu h;obtain⟨a,xs,rfl,hx,q⟩:=h;cases rx;obtain⟨its,r,ht,hz⟩:=I.list hx;have hlen:=r.length;refine⟨"list",_,slot_list_getitem.lookup,ht.isList.typeIs,?_⟩;refine wpAny_getItem_list_slice ht.isList hs pl pu .none (by simp) ?_ (by rw[aae]<;>omega);rw[sM,<-hlen];refine⟨.ref s.heap.objs.size,_,I.laid (t':=s.toks) (o:=.lst (wc xs lo hi)) (λb ob q=>Z3 _ q) (aaa _) ?_,rfl,q _ (I.hok.fresh (aaa _))⟩;exact⟨aay (oV xs lo hi) hz,_,0,(r.drop (HT.dQ xs.length 0 lo)).take (HT.dQ xs.length xs.length hi-HT.dQ xs.length 0 lo),aaj _ rfl⟩
def kX:V->Bool
 |.non=>true
 |.bl _=>true
 |.int _=>true
 |.str _=>true
 |_=>false
def Kc:V->V->Bool
 |.non,.non=>true
 |.bl a,.bl b=>a==b
 |.bl a,.int b=>(if a then 1 else 0)==b
 |.int a,.bl b=>a==(if b then 1 else 0)
 |.int a,.int b=>a==b
 |.str a,.str b=>a==b
 |_,_=>false
theorem LH(ry:RelV y u)(rx:RelV x v)(fy:kX y=true)(fx:kX x=true):SeqAt.EqAt A s u v (Kc y x):=by
 cases y with
 |non=>
  cases ry;cases x with
  |non=>cases rx;exact SeqAt.EqAt.same _
  |bl b=>cases rx;exact SeqAt.EqAt.none_bool b
  |int b=>obtain⟨t,rfl⟩:=rx;exact SeqAt.EqAt.none_int b t
  |str b=>obtain⟨t,rfl⟩:=rx;exact SeqAt.EqAt.none_str b t
  |_=>exact absurd (show false=true from fx) Z0
 |bl a=>
  cases ry;cases x with
  |non=>cases rx;exact SeqAt.EqAt.bool_none a
  |bl b=>cases rx;exact SeqAt.EqAt.bool_bool a b
  |int b=>obtain⟨t,rfl⟩:=rx;exact SeqAt.EqAt.bool_int a b t
  |str b=>obtain⟨t,rfl⟩:=rx;exact SeqAt.EqAt.bool_str a b t
  |_=>exact absurd (show false=true from fx) Z0
 |int a=>
  obtain⟨t',rfl⟩:=ry;cases x with
  |non=>cases rx;exact SeqAt.EqAt.int_none a t'
  |bl b=>cases rx;exact SeqAt.EqAt.int_bool a t' b
  |int b=>obtain⟨t,rfl⟩:=rx;exact SeqAt.EqAt.int_int a t' b t
  |str b=>obtain⟨t,rfl⟩:=rx;exact SeqAt.EqAt.int_str a t' b t
  |_=>exact absurd (show false=true from fx) Z0
 |str a=>
  obtain⟨t',rfl⟩:=ry;cases x with
  |non=>cases rx;exact SeqAt.EqAt.str_none a t'
  |bl b=>cases rx;exact SeqAt.EqAt.str_bool a t' b
  |int b=>obtain⟨t,rfl⟩:=rx;exact SeqAt.EqAt.str_int a t' b t
  |str b=>obtain⟨t,rfl⟩:=rx;exact SeqAt.EqAt.str_str a t' b t
  |_=>exact absurd (show false=true from fx) Z0
 |_=>exact absurd (show false=true from fy) Z0
def HQ(x:V)(u:Value):Bool:=match u with
 |.none=>Kc .non x
 |.bool b=>Kc (.bl b) x
 |.int i _=>Kc (.int i) x
 |.str z _=>Kc (.str z) x
 |_=>false
theorem Dc(r:RelV y u)(f:kX y=true):HQ x u=Kc y x:=by
 cases y with
 |non=>cases r;rfl
 |bl b=>cases r;rfl
 |int i=>obtain⟨t,rfl⟩:=r;rfl
 |str z=>obtain⟨t,rfl⟩:=r;rfl
 |_=>exact absurd (show false=true from f) Z0
theorem uP:∀{xs:List V} {us:List Value},Vals xs us->xs.all kX=true->us.any (HQ x)=xs.any λy=>Kc y x
 |_,_,.nil,_=>rfl
 | y::xs,u::us,.cons r t,f=>by
  rw[all_cons,abm]at f;rw[abG,abG,Dc r f.1,uP t f.2]
theorem qh(rx:RelV x v)(fx:kX x=true):∀{xs:List V} {us:List Value},Vals xs us->xs.all kX=true->∀u∈us,SeqAt.EqAt A s u v (HQ x u)
 |_,_,.nil,_=>λu hu=>by cases hu
 | y::xs,u::us,.cons r t,f=>λu' hu=>by
  rw[all_cons,abm]at f
  rcases aao.mp hu with rfl|hu
  ·rw[Dc r f.1];exact LH r rx f.1 fx
  ·exact qh rx fx t f.2 u' hu
def GL(x:V)(xs:List V):Bool:=xs.any λy=>Kc y x
def TV(K:Frag)(neg:Bool):R2:=λx y H Q=>∃p xs,y=.ref p/\(gA K H p xs\/jP K H p xs)/\kX x=true/\xs.all kX=true/\Q (.bl (if neg then !GL x xs else GL x xs)) H
theorem uQ:jU X (compareOp .NotIn) (TV X.K true):=by
 intro pins s σ H x y v u Q I rx ry h;obtain⟨p,xs,rfl,hq,fx,fs,q⟩:=h;cases ry
 rcases hq with hq|hq
 ·obtain⟨its,r,pl,hz⟩:=I.list hq;refine SeqAt.notIn_listAt (HQ x) pl.isList (λw hw=>qh rx fx r fs w (by simpa using hw)) ⟨.bl _,H,I,rfl,?_⟩;rw[show its.toArray.any (HQ x)=its.any (HQ x) by simp,uP r fs];exact q
 ·obtain⟨its,r,pl,hz⟩:=I.tuple hq;refine SeqAt.notIn_tupleAt (HQ x) pl (λw hw=>qh rx fx r fs w (by simpa using hw)) ⟨.bl _,H,I,rfl,?_⟩;rw[show its.toArray.any (HQ x)=its.any (HQ x) by simp,uP r fs];exact q
theorem uR:cV X (.type "list") (λxs H Q=>∃p ys,xs=[.ref p]/\(gA X.K H p ys\/jP X.K H p ys)/\∀l,H l=none->Q (.ref l) (upd H l (.lst ys))):=by
 intro pins s σ H xs us Q I r h;obtain⟨p,ys,rfl,hq,q⟩:=h;obtain⟨u,rfl,rx⟩:=vals1 r;cases rx;have fin:∀(its:List Value),Vals ys its->ys.length<=sizeLine->∀(h':Heap) (c':Nat),(∀b o',s.heap.get? b=some o'->h'.get? b=some o') ->
   h'.get? s.heap.objs.size=some { cls:=.type "list",dict:=none,data:=.seq its.toArray c',slots:=#[] }->EP X pins σ Q (.ref s.heap.objs.size) { s with heap:=h' }:=λits r' hz h' c' kp e=>
  ⟨.ref s.heap.objs.size,_,I.laid (t':=s.toks) kp (aaa _) (show bJ X.prog X.w _ h' _ (.lst ys) from⟨hz,its,c',r',e⟩),rfl,q _ (I.hok.fresh (aaa _))⟩
 rcases hq with hq|hq
 ·obtain⟨its,r',pl,hz⟩:=I.list hq;have hlen:=r'.length;obtain⟨o,ho,hc,n,hd⟩:=pl.isList;exact call_list_seq p (.inl rfl) ho hc hd (λh' c' kp e=>fin its r' hz h' c' kp e) (by simp only[size_toArray]<;>omega)
 ·obtain⟨its,r',pl,hz⟩:=I.tuple hq;have hlen:=r'.length;obtain⟨o,ho,hc,n,hd⟩:=pl;exact call_list_seq p (.inr rfl) ho hc hd (λh' c' kp e=>fin its r' hz h' c' kp e) (by simp only[size_toArray]<;>omega)
def TX(K:Frag)(T:String)(x:V)(H:Hp):Prop:=match x with
 |.str _=>T = "str"
 |.int _=>T = "int"
 | .ref p=>(T = "list" /\ ∃xs,gA K H p xs)\/(T = "tuple" /\ ∃o,K.lookup p=some o/\o.cls=.type "tuple" /\ o.dict=none) \/
   (T = "dict" /\ ((∃kvs,H p=some (.dK kvs))\/∃kvs,H p=some (.dT kvs)))\/(T = "set" /\ ∃S n,H p=some (.set S n))
 |_=>False
theorem LI{T:String}(I:Inv X pins σ H s)(r:RelV x v)(ty:TX X.K T x H) :
  s.TypeIs v T/\∀a,v=.ref a->∃ob,s.heap.get? a=some ob/\ob.dict=none:=by
 cases x with
 |str z=>obtain⟨t,rfl⟩:=r;cases (show T = "str" from ty);exact⟨typeIs_str s z t,λ_ e=>nomatch e⟩
 |int i=>obtain⟨t,rfl⟩:=r;cases (show T = "int" from ty);exact⟨typeIs_int s i t,λ_ e=>nomatch e⟩
 |ref p=>
  cases r
  rcases ty with ⟨rfl,xs,hq⟩|⟨rfl,o,hk,hc,hd⟩|⟨rfl,hk⟩|⟨rfl,S,n,hk⟩
  ·obtain⟨its,_,pl,_⟩:=I.list hq;refine⟨pl.isList.typeIs,λa e=>?_⟩;cases e;obtain⟨o,n,e,c,hd,_⟩:=pl;exact⟨o,e,hd⟩
  ·refine⟨⟨o,I.nM p o hk,hc⟩,λa e=>?_⟩;cases e;exact⟨o,I.nM _ o hk,hd⟩
  ·have z:∃o,s.heap.get? p=some o/\o.ExactDict:=by
    rcases hk with ⟨kvs,hk⟩|⟨kvs,hk⟩
    ·obtain⟨_,_,_,_,o,_,_,e,ex,_⟩:=I.hok p _ hk;exact⟨o,e,ex⟩
    ·obtain⟨_,_,_,_,o,_,_,e,ex,_⟩:=I.hok p _ hk;exact⟨o,e,ex⟩
   obtain⟨o,e,ex⟩:=z;refine⟨⟨o,e,ex.1⟩,λa e2=>?_⟩;cases e2;exact⟨o,e,ex.2.1⟩
  ·obtain⟨o,_,_,_,e,ex,_⟩:=I.hok p _ hk;refine⟨⟨o,e,ex.1⟩,λa e2=>?_⟩;cases e2;exact⟨o,e,ex.2.1⟩
 |_=>exact False.elim ty
def Vi(K:Frag)(T:String)(r:V->List V->Hp->VK->Prop)(to:TE)(t:TA):TE:=λσ H Q=>to σ H λx H1=>TX K T x H1/\t σ H1 λxs H2=>r x xs H2 Q
variable {o e:Expr} {es:List Expr} {to:TE} {t:TA} {name:Str} {apos cpos:Pos} {T id:String} {r:V->List V->Hp->VK->Prop}
theorem we(pa:PlainAttrs T)(slot:Slot T name id)(hty:typeOf (.builtin id)=pure (.type "method_descriptor"))(hm:LC X id r)(ho:PE X o to)(ha:PA X (e::es) t)
  (hbase:attributeBase o name X.env (eval o X.env)=eval o X.env)
  (hfew:((backTo cpos (starEach (e::es) X.env)).all (λx=>!x.1)&&(backToKw cpos (keywordEach [] X.env)).all (λx=>x.1.isSome)
   && decide ((e::es).length+([]:List Keyword).length+(if ([]:List Keyword).isEmpty then 0 else 1)<30))=true)
  (hline:(apos.endLine==cpos.line)=true) (hs:starEach (e::es) X.env=(false,eval e X.env)::starEach es X.env) (hplain:(backTo cpos (starEach es X.env)).any (·.1)=false) :
  PE X (.Call (.Attribute o name apos) (e::es) [] cpos) (Vi X.K T r to t):=by
 intro pins s σ H Q I h;refine wpAny_Call_method_late hbase hfew hline rfl (b6 (ho pins s σ H _ I h) λv s1 aJ=>?_);obtain⟨x,H1,I1,r1,ty,q1⟩:=aJ;obtain⟨h1,h2⟩:=LI I1 r1 ty;refine⟨T,id,pa,slot,hty,h1,h2,?_⟩;have hA:=ha cpos pins s1 σ H1 _ I1 q1;rw[hs]at hA |-;refine abD (by show (false||(backTo cpos (starEach es X.env)).any (·.1))=false;rw[hplain]<;>rfl) (Calls.evalArgs_plain ?_);exact b6 hA λus s2 ⟨vs,H2,I2,r2,q2⟩=>hm pins s2 σ H2 x vs v us Q I2 r1 r2 q2
/- xs.append(e),list.index on a PY tuple .. are LC facts of 06m -/
end
def PZ(X:Cx)(id:String)(r:V->List V->Hp->VK->Prop):Prop :=
 ∀(pins:List (Addr×Obj)) (s:Shared) (σ:St) (H:Hp) (x:V) (xs:List V) (v:Value) (us:List Value) (Q:VK),Inv X pins σ H s->RelV x v->Vals xs us->r x xs H Q ->
  wpAny (model X.prog X.w) X.A (call (.builtin id) (v::us)) (EP X pins σ Q) X.xe s
theorem Vals.one:∀{x:V} {us:List Value},Vals [x] us->∃u,us=[u]/\RelV x u
 |_,_,.cons r .nil=>⟨_,rfl,r⟩
theorem Vals.eraseIdx:∀{xs:List V} {us:List Value} (i:Nat),Vals xs us->Vals (xs.eraseIdx i) (us.eraseIdx i)
 |_,_,_,.nil=>.nil
 |_,_,0,.cons _ t=>t
 |_,_,i+1,.cons r t=>.cons r (Vals.eraseIdx i t)
theorem nQ{α:Type}:∀(l:List α) (i:Nat),(l.eraseIdx i).length<=l.length
 |[],_=>aaa _
 |_::_,0=>aaV _
 |_::r,i+1=>Nat.succ_le_succ (nQ r i)
section
variable {X:Cx} {pins:List (Addr×Obj)} {σ:St} {H:Hp} {s:Shared} {l b:Addr} {xs ys zs:List V}
theorem Inv.Dd{its its':List Value}{n:Nat}{f:Array Value->Array Value}{t':Nat}(I:Inv X pins σ H s)(hH:H l=some (.lst xs))
  (e:s.heap.get? l=some { cls:=.type "list",data:=.seq its.toArray n }) (hf:f its.toArray=its'.toArray) (hv:Vals ys its') (hz:ys.length<=sizeLine) :
  Inv X pins σ (upd H l (.lst ys)) { s with heap:=s.heap.update l (Obj.mapSeq f),toks:=t' }:=by
 have q:=PySem.IsL.update e f;rw[hf]at q;refine I.write (x:=l) (e:=l) (by rw[hH];exact trivial) (.inl rfl) (λb' u hb hu=>(abC s.heap (Obj.mapSeq f) (Ne.symm hb)).trans hu) ⟨_,q⟩ ?_;exact⟨hz,its',_,hv,q⟩
theorem Inv.TY{t':Nat}(I:Inv X pins σ H s)(hv:Vals ys its)(hz:ys.length<=sizeLine) :
  Inv X pins σ (upd H s.heap.objs.size (.lst ys)) { s with heap:=s.heap.push { cls:=.type "list",data:=.seq its.toArray },toks:=t' } :=
 I.laid (λ_ _ q=>Z3 _ q) (aaa _) ⟨hz,its,0,hv,aaj _ rfl⟩
theorem Inv.BP(I:Inv X pins σ H s)(hH:H l=some (.lst xs)):xs.length<=sizeLine/\∃(its:List Value) (n:Nat),Vals xs its/\xs.length=its.length/\s.heap.get? l=some { cls:=.type "list",data:=.seq its.toArray n }:=by
 obtain⟨z,its,n,r,e⟩:=I.hok l _ hH;exact⟨z,its,n,r,r.length,e⟩
theorem wg{n:Nat}(h:n<=sizeLine):Builtin.List.listTooLong n=false:=by
 unfold Builtin.List.listTooLong;exact decide_eq_false (by omega)
end
section
variable {X:Cx}
def HS:V->List V->Hp->VK->Prop:=λx vs H Q=>∃l xs y,x=.ref l/\vs=[y]/\H l=some (.lst xs)/\xs.length<sizeLine/\Q .non (upd H l (.lst (xs++[y])))
theorem tG:PZ X "list.append" HS:=by
 intro pins s σ H x vs v us Q I rx rv h;obtain⟨l,xs,y,rfl,rfl,hH,hz,q⟩:=h;cases rx;obtain⟨u,rfl,ru⟩:=rv.one;obtain⟨z,its,n,r,hl,e⟩:=I.BP hH;refine call_meets F.slot_list_append ⟨_,e,rfl⟩ F.entry_list_append (F.args_list_append_2 _ _) (PySem.list_append l its.toArray n u (by rw[aae];omega)) ⟨e,?_⟩;refine⟨.non,_,I.Dd (its':=its++[u]) hH e (by simp) (r.append #[ru]) ?_,rfl,q⟩;rw[aak,List.length_singleton];omega
def HU:V->List V->Hp->VK->Prop:=λx vs H Q=>∃l b xs zs,x=.ref l/\vs=[.ref b]/\H l=some (.lst xs)/\H b=some (.lst zs)/\xs.length+zs.length<=sizeLine/\Q .non (upd H l (.lst (xs++zs)))
theorem BQ:PZ X "list.extend" HU:=by
 intro pins s σ H x vs v us Q I rx rv h;obtain⟨l,b,xs,zs,rfl,rfl,hH,hB,hz,q⟩:=h;cases rx;obtain⟨u,rfl,ru⟩:=rv.one;cases ru;obtain⟨z,its,n,r,hl,e⟩:=I.BP hH;obtain⟨z2,its2,n2,r2,hl2,e2⟩:=I.BP hB;have hsz:its.toArray.size+its2.toArray.size<=sizeLine:=by rw[aae,aae];omega
 have De:¬ (!its.toArray.isEmpty&&Builtin.List.listTooLong (its.toArray.size+its2.toArray.size))=true:=by rw[wg hsz,Bool.and_false];exact Z0
 refine call_meets F.slot_list_extend ⟨_,e,rfl⟩ F.entry_list_extend (F.args_list_extend_2 _ _)
  (AutoSeq1.list_extend_list_list_0 l its.toArray n b its2.toArray n2 De (by rw[aae];omega) (by omega)) ⟨e,e2,?_⟩
 refine⟨.non,_,I.Dd (its':=its++its2) hH e (by simp) (r.append r2) ?_,rfl,q⟩;rw[aak];omega
def LJ:V->List V->Hp->VK->Prop:=λx vs H Q=>∃l xs i k y,x=.ref l/\vs=[.int i]/\H l=some (.lst xs) /\ -(2 ^ 63)<=i/\i<2 ^ 63/\seqIndex? i xs.length=some k/\xs[k]?=some y/\Q y (upd H l (.lst (xs.eraseIdx k)))
theorem Df:PZ X "list.pop" LJ:=by
 intro pins s σ H x vs v us Q I rx rv h;obtain⟨l,xs,i,k,y,rfl,rfl,hH,h1,h2,hk,hy,q⟩:=h;cases rx;obtain⟨u,rfl,ru⟩:=rv.one;obtain⟨t,rfl⟩:=ru;obtain⟨z,its,n,r,hl,e⟩:=I.BP hH;obtain⟨w,hw,rw'⟩:=r.get hy;refine call_meets F.slot_list_pop ⟨_,e,rfl⟩ F.entry_list_pop (F.args_list_pop_2 _ _)
  (MeetsSeq.list_pop_at l its.toArray n i t k w (fitsIndex_both h1 h2) (by rw[aae,<-hl];exact hk) (by rw[<-abd];exact hw) (by rw[aae];omega)) ⟨e,?_⟩
 refine⟨y,_,I.Dd (its':=its.eraseIdx k) hH e ?_ (r.eraseIdx k) ?_,rw',q⟩
 ·show its.toArray.eraseIdxIfInBounds k=(its.eraseIdx k).toArray;rw[List.eraseIdxIfInBounds_toArray]
 ·have:=nQ xs k;omega
end
section
variable {κ:Type} [DecidableEq κ]
def iH(kvs:List (κ × V))(k:κ):Option V:=(kvs.find? λkv=>decide (kv.1=k)).map (·.2)
def putK(kvs:List (κ × V))(k:κ)(v:V):List (κ × V) :=
 if (kvs.any λkv=>decide (kv.1=k))=true then kvs.map (λkv=>if kv.1=k then (kv.1,v) else kv) else kvs++[(k,v)]
theorem qj{p:κ × V}{r:List (κ × V)}{k:κ}(e:p.1=k):iH (p::r) k=some p.2:=by simp[iH,find?_cons,e]
theorem qk{p:κ × V}{r:List (κ × V)}{k:κ}(e:¬ p.1=k):iH (p::r) k=iH r k:=by simp[iH,find?_cons,e]
theorem wj(k:κ):∀kvs:List (κ × V),(kvs.any λkv=>decide (kv.1=k))=(iH kvs k).isSome
 |[]=>rfl
 | p::r=>by
  rw[abG]
  by_cases e:p.1=k
  ·simp only[qj e,decide_eq_true e,Bool.true_or,isSome_some]
  ·rw[qk e,decide_eq_false e,Bool.false_or];exact wj k r
theorem jW(kvs:List (κ × V))(k:κ)(v:V):(putK kvs k v).length<=kvs.length+1:=by
 unfold putK
 split
 ·rw[Z4];omega
 ·rw[aak,aal,length_nil];omega
theorem jK.BR(r:jK o u):o.isSome=u.isSome:=by
 cases o with
 | none=>cases u with
  |none=>rfl
  |some _=>exact(show False from r).elim
 | some _=>cases u with
  |none=>exact(show False from r).elim
  |some _=>rfl
theorem jK.getD(r:jK o u)(rd:RelV d d'):RelV (o.getD d) (u.getD d'):=by
 cases o with
 | none=>cases u with
  |none=>exact rd
  |some _=>exact(show False from r).elim
 | some _=>cases u with
  |none=>exact(show False from r).elim
  |some _=>exact r
theorem KV.val(r:KV kvs vs)(k:κ):jK (iH kvs k) (valueAt vs k):=by
 unfold KV at r
 induction r with
 |nil=>exact abo
 |@cons p q ps qs h t ih=>
  obtain⟨h1,h2⟩:=h
  by_cases e:p.1=k
  ·have e':q.1=k:=h1.symm.trans e
   have b:valueAt (q::qs) k=some q.2:=by simp[valueAt,find?_cons,e']
   rw[qj e,b];exact h2
  ·have e':¬ q.1=k:=λz=>e (h1.trans z)
   have b:valueAt (q::qs) k=valueAt qs k:=by simp[valueAt,find?_cons,e']
   rw[qk e,b];exact ih
theorem KV.any(r:KV kvs vs)(k:κ):(kvs.any λkv=>decide (kv.1=k))=vs.any λkv=>decide (kv.1=k):=by
 unfold KV at r
 induction r with
 |nil=>rfl
 |cons h t ih=>rw[abG,abG,ih,h.1]
theorem KV.repl(r:KV kvs vs)(k:κ)(ry:RelV y u) :
  KV (kvs.map λkv=>if kv.1=k then (kv.1,y) else kv) (vs.map λkv=>if kv.1=k then (kv.1,u) else kv):=by
 unfold KV at r |-
 induction r with
 |nil=>exact .nil
 |@cons p q ps qs h t ih=>
  rw[aac,aac];refine .cons ?_ ih;obtain⟨h1,h2⟩:=h
  by_cases e:p.1=k
  ·rw[Z7 e,Z7 (h1.symm.trans e)];exact⟨h1,ry⟩
  ·rw[Z8 e,Z8 (λz=>e (h1.trans z))];exact⟨h1,h2⟩
theorem KV.put(r:KV kvs vs)(k:κ)(ry:RelV y u):KV (putK kvs k y) (stored vs k u):=by
 unfold putK stored;rw[r.any k]
 by_cases e:(vs.any λkv=>decide (kv.1=k))=true
 ·rw[Z7 e,Z7 e];exact r.repl k ry
 ·rw[Z8 e,Z8 e];exact Paired.snoc r ⟨rfl,ry⟩
theorem KV.length(r:KV kvs vs):kvs.length=vs.length:=Paired.length r
end
theorem wm(r:RelV (kV k) u):(aP P w).is k u=true:=by
 cases k with
 |inl i=>obtain⟨t,e⟩:=(show ∃t,u=Value.int i t from r);subst e;exact vU P w i t
 |inr x=>obtain⟨t,e⟩:=(show ∃t,u=Value.str x t from r);subst e;exact vV P w x t
theorem tH:∀{ks:List Key} {us:List Value},Vals (ks.map kV) us->ItemsAre (aP P w) ks us
 |[],_,r=>by rw[abh]at r;cases r;exact .nil
 | k::ks,_,r=>by
  rw[aac]at r;cases r with
  |cons h t=>exact .cons (wm h) (tH t)
abbrev KT(H:Hp):List (List Key×V)->List (List Key×Addr×Value)->Prop:=Paired λp q=>p.1=q.1/\H q.2.1=some (.tup (p.1.map kV))/\RelV p.2 q.2.2
theorem KT.val(r:KT H kvs xs)(k:List Key):jK (iH kvs k) ((atKey xs k).map (·.2)):=by
 induction r with
 |nil=>exact abo
 |@cons p q ps qs h t ih=>
  obtain⟨h1,_,h2⟩:=h
  by_cases e:p.1=k
  ·have e':q.1=k:=h1.symm.trans e
   have b:atKey (q::qs) k=some q.2:=by simp[atKey,find?_cons,e']
   rw[qj e,b];exact h2
  ·have e':¬ q.1=k:=λz=>e (h1.trans z)
   have b:atKey (q::qs) k=atKey qs k:=by simp[atKey,find?_cons,e']
   rw[qk e,b];exact ih
theorem KT.repl(r:KT H kvs xs)(k:List Key)(ry:RelV y u) :
  KT H (kvs.map λkv=>if kv.1=k then (kv.1,y) else kv) (xs.map (putAt k u)):=by
 induction r with
 |nil=>exact .nil
 |@cons p q ps qs h t ih=>
  rw[aac,aac];refine .cons ?_ ih;obtain⟨h1,h2,h3⟩:=h;unfold putAt
  by_cases e:p.1=k
  ·rw[Z7 e,Z7 (h1.symm.trans e)];exact⟨h1,h2,ry⟩
  ·rw[Z8 e,Z8 (λz=>e (h1.trans z))];exact⟨h1,h2,h3⟩
theorem KT.put(r:KT H kvs xs)(k:List Key)(hb:H b=some (.tup (k.map kV)))(ry:RelV y u) :
  KT H (putK kvs k y) (storedH xs k b u):=by
 have e:(kvs.any λkv=>decide (kv.1=k))=(atKey xs k).isSome:=by rw[wj,(r.val k).BR,Option.isSome_map]
 unfold putK storedH;rw[e]
 by_cases q:(atKey xs k).isSome=true
 ·rw[Z7 q,Z7 q];exact r.repl k ry
 ·rw[Z8 q,Z8 q];exact Paired.snoc r ⟨rfl,hb,ry⟩
theorem KT.keeps(r:KT H kvs xs)(ht:∀b ys,H b=some (.tup ys)->H' b=some (.tup ys)):KT H' kvs xs :=
 Paired.KW r λ_ _ z=>⟨z.1,ht _ _ z.2.1,z.2.2⟩
section
variable {P:Program} {w:World} {H:Hp} {h:Heap} {a:Addr}
theorem Kd(ok:lD P w H h)(e:Rd H a u):bJ P w H h a u:=e.ok ok
theorem tK(ok:lD P w H h)(e:Rd H a (.dK kvs)):kvs.length<=sizeLine/\(a==sysModules)=false/\∃vs,KV kvs vs/\h.DictOf (aP P w) a vs :=
 show bJ P w H h a (.dK kvs) from Kd ok e
theorem ql(ok:lD P w H h)(e:H a=some (.dK kvs)):kvs.length<=sizeLine/\(a==sysModules)=false/\∃vs,KV kvs vs/\h.DictOf (aP P w) a vs:=tK ok (.inl e)
theorem uS(ok:lD P w H h)(e:H a=some (.tup (ks.map kV))):(tupleKind (aP P w)).is h ks a:=by
 obtain⟨_,its,r,o,h1,h2,n,h3⟩:=(show bJ P w H h a (.tup (ks.map kV)) from ok a _ e);exact⟨o,its.toArray,n,h1,h2,h3,by simpa using tH r⟩
theorem wo(ok:lD P w H h)(e:Rd H a (.dT kvs)):kvs.length<=sizeLine/\(a==sysModules)=false /\
  ∃xs,KT H kvs xs/\h.DictOfH (tupleKind (aP P w)) a xs:=by
 obtain⟨z,y,xs,r,o,es,ep,h1,h2,h3,h4,h5⟩:=(show bJ P w H h a (.dT kvs) from Kd ok e);refine⟨z,y,xs,r,o,es,ep,h1,h2,h3,h4,λx hx=>?_,h5⟩;have all:∀{l:List (List Key×V)} {m:List (List Key×Addr×Value)},KT H l m->∀x∈m,(tupleKind (aP P w)).is h x.1 x.2.1:=by
  intro l m q
  induction q with
  |nil=>intro x hx;exact nomatch hx
  |@cons p q ps qs hq t ih=>
   intro x hx
   rcases aao.mp hx with e|hx
   ·subst e;exact uS ok (by rw[<-hq.1];exact hq.2.1)
   ·exact ih x hx
 exact all r x hx
theorem P0(ok:lD P w H h)(e:H a=some (.dT kvs)):kvs.length<=sizeLine/\(a==sysModules)=false /\
  ∃xs,KT H kvs xs/\h.DictOfH (tupleKind (aP P w)) a xs:=wo ok (.inl e)
end
def pG(H:Hp)(a:Addr)(y:V)(r:Option V):Prop :=
 (∃kvs k,Rd H a (.dK kvs)/\y=kV k/\r=iH kvs k)\/∃kvs k b,Rd H a (.dT kvs)/\y=.ref b/\H b=some (.tup (k.map kV))/\r=iH kvs k
def HV(H:Hp)(a:Addr)(y v:V)(H':Hp):Prop :=
 (∃kvs k,H a=some (.dK kvs)/\y=kV k/\kvs.length<sizeLine/\H'=upd H a (.dK (putK kvs k v))) \/
 ∃kvs k b,H a=some (.dT kvs)/\y=.ref b/\H b=some (.tup (k.map kV))/\kvs.length<sizeLine/\H'=upd H a (.dT (putK kvs k v))
theorem pG.k{H:Hp}{a:Addr}{kvs:List (Key×V)}{k:Key}(e:H a=some (.dK kvs)):pG H a (kV k) (iH kvs k):=.inl ⟨kvs,k,.inl e,rfl,rfl⟩
theorem HV.k{H:Hp}{a:Addr}{kvs:List (Key×V)}{k:Key}{v:V}(e:H a=some (.dK kvs))(hl:kvs.length<sizeLine):HV H a (kV k) v (upd H a (.dK (putK kvs k v))):=.inl ⟨kvs,k,e,rfl,hl,rfl⟩
section
variable {X:Cx} {pins:List (Addr×Obj)} {σ:St} {H:Hp} {s:Shared} {a:Addr} {y v:V} {u r:Value} {o:Option V} {A:Around} {E:Value->Shared->Prop}
theorem Inv.big(I:Inv X pins σ H s):sysModules<s.heap.objs.size:=by
 have h:mainGlobals<s.heap.objs.size:=(I.mod.glob.keeps I.bk).lt;exact lt_trans (by decide) h
theorem BS(hu:A.units+1<cLine)(I:Inv X pins σ H s)(g:pG H a y (some v))(ry:RelV y u)(h:∀w' s',Inv X pins σ H s'->RelV v w'->Q w' s') :
  wpAny (model X.prog X.w) A (getItem (.ref a) u) Q E s:=by
 rcases g with ⟨kvs,k,e,ey,l⟩|⟨kvs,k,b,e,ey,eb,l⟩
 ·subst ey;obtain⟨z,hd,vs,rel,dd⟩:=tK I.hok e;obtain⟨w',hw,rw'⟩:=jK.some_of (v:=v) (o:=valueAt vs k) (by rw[l];exact rel.val k);exact wpAny_getItem_of (wm ry) dd.mapOf hw (h w' _ (I.tok _) rw')
 ·subst ey;cases (show u=Value.ref b from ry);obtain⟨z,hd,xs,rel,dd⟩:=wo I.hok e;obtain⟨w',hw,rw'⟩:=jK.some_of (v:=v) (o:=(atKey xs k).map (·.2)) (by rw[l];exact rel.val k);obtain⟨p,hp,hp2⟩:=aaw.mp hw;refine wpAny_getItem_heap (tupleKind_room_in1 hu) (uS I.hok eb) dd hp ?_;rw[hp2];exact h w' _ (I.tok _) rw'
theorem uT{t':Nat}(I:Inv X pins σ H s)(mu:O4 (H a))(hs:Heap.SameBut a s.heap h')(he:∃q,h'.get? a=some q)(new:bJ X.prog X.w (upd H a ob) h' a ob) :
  Inv X pins σ (upd H a ob) { s with heap:=h',toks:=t' } :=
 I.write (x:=a) (e:=a) mu (.inl rfl) (λb q hb z=>(hs.2 b hb).trans z) he new
theorem Dg(z:kvs.length<=sizeLine)(hd:(a==sysModules)=false)(rel:KV kvs vs)(dd:h'.DictOf (aP P w) a vs) :
  bJ P w H' h' a (.dK kvs):=⟨z,hd,vs,rel,dd⟩
theorem BU(hu:A.units+1<cLine)(I:Inv X pins σ H s)(g:HV H a y v H')(ry:RelV y u)(rv:RelV v r)(h:∀s',Inv X pins σ H' s'->Q () s') :
  wpAny (model X.prog X.w) A (setItem (.ref a) u r) Q E s:=by
 rcases g with ⟨kvs,k,e,ey,l,eH⟩|⟨kvs,k,b,e,ey,eb,l,eH⟩
 ·subst ey eH
  obtain⟨z,hd,vs,rel,dd⟩:=ql I.hok e;have hz:vs.length<=sizeLine:=by rw[<-rel.length];exact z
  have hl:(putK kvs k v).length<=sizeLine:=by have:=jW kvs k v;omega
  refine wpAny_setItem_pairs (hsz:=hz) (wm ry) dd λh' LK hs=>h _ ?_;have he:∃q,h'.get? a=some q:=let ⟨q,_,_,hq,_⟩:=LK;⟨q,hq⟩
  exact uT I (by rw[e];exact abo) hs he (Dg hl hd (rel.put k rv) LK)
 ·subst ey eH
  cases (show u=Value.ref b from ry);obtain⟨z,hd,xs,rel,dd⟩:=P0 I.hok e;have hz:xs.length<=sizeLine:=by rw[<-Paired.length rel];exact z
  have hl:(putK kvs k v).length<=sizeLine:=by have:=jW kvs k v;omega
  refine wpAny_setItem_heap (hsz:=hz) (tupleKind_room_in1 hu) (uS I.hok eb) dd λh' LK hs=>h _ ?_;obtain⟨q,es,ep,hq,h2,h3,h4,_,h5⟩:=LK;refine uT I (by rw[e];exact abo) hs ⟨q,hq⟩ ⟨hl,hd,_,(rel.put k eb rv).keeps λc ys ec=>?_,q,es,ep,hq,h2,h3,h4,h5⟩;rw[ao (O3 ec e (λz=>nomatch z))];exact ec
end
section
variable {X:Cx} {pins:List (Addr×Obj)} {σ:St} {H:Hp} {s:Shared} {a:Addr} {kvs:List (Key×V)} {k:Key} {u:Value} {A:Around} {E:Value->Shared->Prop}
theorem P1(I:Inv X pins σ H s)(e:Rd H a (.dK kvs))(h:∀t s',Inv X pins σ H s'->Q (.int kvs.length t) s'):wpAny (model X.prog X.w) A (call (.builtin "len") [.ref a]) Q E s:=by
 obtain⟨z,hd,vs,rel,dd⟩:=tK I.hok e;refine call_len_dict hd dd (by rw[<-rel.length];rw[aaT]at z;omega) ?_;rw[<-rel.length];exact h _ _ (I.tok _)
end
theorem wu(I:Inv X pins σ H s)(g:pG H a y o):s.TypeIs (.ref a) "dict":=by
 rcases g with ⟨kvs,k,e,_,_⟩|⟨kvs,k,b,e,_,_,_⟩
 ·obtain⟨_,_,vs,_,dd⟩:=tK I.hok e;exact dd.typeIs
 ·obtain⟨_,_,xs,_,dd⟩:=wo I.hok e;exact dd.typeIs
theorem wz(h:Heap)(hb:sysModules<h.objs.size):bJ P w H (h.push { cls:=.type "dict",data:=.dict #[] }) h.objs.size (.dK []) :=
 ⟨abb _,aaD.mpr (Ne.symm (aam hb)),[],.nil,Heap.DictOf.new h⟩
def LL:TE:=λ_ H Q=>∀p,H p=none->Q (.ref p) (upd H p (.dK []))
section
variable {X:Cx} {pos:Pos}
theorem Dh:PE X (.Dict [] [] pos) LL:=λpins s σ H Q I h=>
 wpAny_Dict_empty ⟨.ref s.heap.objs.size,_,I.laid (a:=s.heap.objs.size) (o:=.dK []) (t':=s.toks) (λ_ _ q=>Z3 _ q) (aaa _) (wz s.heap I.big),rfl,h _ (I.hok.fresh (aaa _))⟩
end
def yW:List (TE×TE)->St->Hp->(List (V×V)->Hp->Prop)->Prop
 |[],_,H,Q=>Q [] H
 |(tk,tv)::r,σ,H,Q=>tk σ H λx H1=>tv σ H1 λy H2=>yW r σ H2 λps H3=>Q ((x,y)::ps) H3
abbrev VV:List (V×V)->List (Value×Value)->Prop:=Paired λp q=>RelV p.1 q.1/\RelV p.2 q.2
def SD(X:Cx)(pos:Pos)(keys:List (Option Expr))(values:List Expr)(LM:List (TE×TE)):Prop :=
 ∀(pins:List (Addr×Obj)) (s:Shared) (σ:St) (H:Hp) (Q:List (V×V)->Hp->Prop),Inv X pins σ H s->yW LM σ H Q ->
  wpAny (model X.prog X.w) X.A (evalPairs (pairTrees keys values X.env pos)) (λvs s'=>∃ps H',Inv X pins σ H' s'/\VV ps vs/\Q ps H') X.xe s
theorem HW:SD X pos [] [] []:=λpins s σ H Q I h=>pairTrees_nil_walk ⟨[],H,I,.nil,h⟩
theorem Di(hk:PE X k tk)(hv:PE X v tv)(hr:SD X pos ks vs LM) :
  SD X pos (some k::ks) (v::vs) ((tk,tv)::LM):=λpins s σ H Q I h=>
 pairTrees_cons_walk (b6 (hk pins s σ H _ I h) λu s1 ⟨x,H1,I1,rx,q1⟩=>b6 (hv pins s1 σ H1 _ I1 q1) λw2 s2 ⟨y,H2,I2,ry,q2⟩=>
  b6 (hr pins s2 σ H2 _ I2 q2) λws s3 ⟨ps,H3,I3,rel,q3⟩=>⟨(x,y)::ps,H3,I3,.cons ⟨rx,ry⟩ rel,q3⟩)
def nR(kvs more:List (Key×V)):List (Key×V):=more.foldl (λacc kv=>putK acc kv.1 kv.2) kvs
theorem KV.merge:∀{more:List (Key×V)} {rs:List (Key×Value)} {kvs:List (Key×V)} {vs:List (Key×Value)},KV more rs->KV kvs vs->KV (nR kvs more) (merged vs rs):=by
 intro more rs kvs vs r;unfold KV at r
 induction r generalizing kvs vs with
 |nil=>intro q;exact q
 |@cons p q ps qs h t ih=>
  intro r0;have e:KV (putK kvs p.1 p.2) (stored vs q.1 q.2):=by have:=r0.put p.1 h.2;rw[<-h.1];exact this
  exact ih e
theorem kY:∀(more kvs:List (Key×V)),(nR kvs more).length<=kvs.length+more.length
 |[],kvs=>by show kvs.length<=kvs.length+0;omega
 | p::r,kvs=>by
  have h1:=kY r (putK kvs p.1 p.2);have h2:=jW kvs p.1 p.2;show (nR (putK kvs p.1 p.2) r).length<=_;rw[aal];omega
theorem qm:∀{kvs:List (Key×V)} {ws:List (Value×Value)},VV (kvs.map λkv=>(kV kv.1,kv.2)) ws->∃rs,Carries (aP P w) ws rs/\KV kvs rs
 |[],_,r=>by rw[abh]at r;cases r;exact⟨[],abo,.nil⟩
 | p::kvs,_,r=>by
  rw[aac]at r;cases r with
  |@cons a b as bs h t=>obtain⟨rs,c,q⟩:=qm (P:=P) (w:=w) t;obtain⟨b1,b2⟩:=b;exact⟨(p.1,b2)::rs,⟨wm h.1,rfl,c⟩,.cons ⟨rfl,h.2⟩ q⟩
def P4(LM:List (TE×TE)):TE:=λσ H Q=>∀p,H p=none->yW LM σ (upd H p (.dK [])) λps H2=>H2 p=some (.dK [])/\∃kvs:List (Key×V),ps=kvs.map (λkv=>(kV kv.1,kv.2))/\kvs.length<=15/\Q (.ref p) (upd H2 p (.dK (nR [] kvs)))
theorem HX(h:SD X pos keys values LM)(hall:keys.all (·.isSome)=true)(hl:keys.length=values.length)(h0:keys≠[])
  (W4:keys.length<=15):PE X (.Dict keys values pos) (P4 LM):=by
 intro pins s σ H Q I q;have hn:=I.hok.fresh (aaa s.heap.objs.size);have I1:=I.laid (a:=s.heap.objs.size) (o:=.dK []) (h':=s.heap.push { cls:=.type "dict",data:=.dict #[] }) (t':=s.toks) (λ_ _ q=>Z3 _ q) (aaa _) (wz s.heap I.big);refine wpAny_Dict_walk (knd:=aP X.prog X.w) hall hl h0 W4 (b6 (h pins _ σ _ _ I1 (q _ hn)) λws s2 aJ=>?_);obtain⟨ps,H2,I2,rel,e,kvs,ep,lk,q2⟩:=aJ;subst ep;obtain⟨rs,c,rk⟩:=qm (P:=X.prog) (w:=X.w) rel;obtain⟨z,hd,ZN,r0,dd⟩:=ql I2.hok e;cases r0;refine⟨rs,c,dd,λh' LK hs=>⟨.ref s.heap.objs.size,_,?_,rfl,q2⟩⟩;have hz:(nR [] kvs).length<=sizeLine:=by have h1:=kY kvs [];rw[length_nil]at h1;rw[aaT];omega
 have he:∃q,h'.get? s.heap.objs.size=some q:=let ⟨q,_,_,hq,_⟩:=LK;⟨q,hq⟩
 exact uT I2 (by rw[e];exact abo) hs he (Dg hz hd (rk.merge .nil) LK)
structure M2 (X:Cx) (o:Expr) (m:Str) (apos:Pos) (e f:Expr) (cpos:Pos):Prop where
 base:attributeBase o m X.env (eval o X.env)=eval o X.env
 few:((backTo cpos (starEach [e,f] X.env)).all (λx=>!x.1)&&(backToKw cpos (keywordEach [] X.env)).all (λx=>x.1.isSome)
  && decide (([e,f]:List Expr).length+([]:List Keyword).length+(if ([]:List Keyword).isEmpty then 0 else 1)<30))=true
 line:(apos.endLine==cpos.line)=true
 trees:backTo cpos (starEach [e,f] X.env)=[(false,eval e X.env),(false,eval f X.env)]
def Vj(H:Hp)(a:Addr):Prop:=(∃kvs,Rd H a (.dK kvs))\/∃kvs,Rd H a (.dT kvs)
theorem qo(I:Inv X pins σ H s)(d:Vj H a) :
  s.TypeIs (.ref a) "dict" /\ (∀b,Value.ref a=.ref b->∃ob,s.heap.get? b=some ob/\ob.dict=none)/\(a==sysModules)=false:=by
 rcases d with ⟨kvs,e⟩|⟨kvs,e⟩
 ·obtain⟨_,hd,vs,_,dd⟩:=tK I.hok e;refine⟨dd.typeIs,λb q=>?_,hd⟩;cases q;obtain⟨ob,_,_,h1,h2,_⟩:=dd;exact⟨ob,h1,h2.2.1⟩
 ·obtain⟨_,hd,xs,_,dd⟩:=wo I.hok e;refine⟨dd.typeIs,λb q=>?_,hd⟩;cases q;obtain⟨ob,_,_,h1,h2,_⟩:=dd;exact⟨ob,h1,h2.2.1⟩
section
variable {X:Cx} {pins:List (Addr×Obj)} {σ:St} {H:Hp} {s:Shared} {a:Addr} {y d:V} {u r:Value} {o:Option V} {A:Around} {E:Value->Shared->Prop}
theorem LN(hu:A.units+1<cLine)(I:Inv X pins σ H s)(g:pG H a y o)(ry:RelV y u)(rd:RelV d r)(h:∀w' s',Inv X pins σ H s'->RelV (o.getD d) w'->Q w' s') :
  wpAny (model X.prog X.w) A (call (.builtin "dict.get") [.ref a,u,r]) Q E s:=by
 rcases g with ⟨kvs,k,e,ey,l⟩|⟨kvs,k,b,e,ey,eb,l⟩
 ·subst ey;obtain⟨z,hd,vs,rel,dd⟩:=tK I.hok e;refine call_meetsIn ab7 dd.typeIs PySem.F.entry_dict_get (PySem.F.args_dict_get_3 _ _ _) (meets_dict_get_default (aP X.prog X.w) a (wm ry) hd r) ⟨_,dd.mapOf,h _ _ (I.tok _) ?_⟩;rw[l];exact(rel.val k).getD rd
 ·subst ey;cases (show u=Value.ref b from ry);obtain⟨z,hd,xs,rel,dd⟩:=wo I.hok e;refine call_meetsIn ab7 dd.typeIs PySem.F.entry_dict_get (PySem.F.args_dict_get_3 _ _ _) (meetsH_dict_get_default (tupleKind (aP X.prog X.w)) a b hd r) ⟨tupleKind_room_in1 hu,k,xs,uS I.hok eb,dd,h _ _ (I.tok _) ?_⟩;rw[l];exact(rel.val k).getD rd
end
def LO(td ty tx:TE):TE:=λσ H Q=>td σ H λx H1=>∃a,x=.ref a/\Vj H1 a/\ty σ H1 λy H2=>tx σ H2 λz H3=>∃o,pG H3 a y o/\Q (o.getD z) H3
section
variable {X:Cx} {o e f:Expr} {apos cpos:Pos} {td ty tx:TE}
theorem Dj(hu:X.A.units+1<cLine)(ho:PE X o td)(he:PE X e ty)(hf:PE X f tx)(m:M2 X o "get" apos e f cpos):PE X (.Call (.Attribute o "get" apos) [e,f] [] cpos) (LO td ty tx):=by
 intro pins s σ H Q I h;refine wpAny_Call_method m.base m.few m.line ab0 ab7 PySem.F.type_dict_get (b6 (ho pins s σ H _ I h) λu s1 aJ=>?_);obtain⟨x,H1,I1,rx,a,ex,d,q1⟩:=aJ;subst ex;obtain rfl:u=Value.ref a:=rx;obtain⟨t1,t2,_⟩:=qo I1 d;refine⟨t1,t2,?_⟩;rw[m.trees];refine abD rfl (Calls.evalArgs_plain (aaU (b6 (he pins s1 σ H1 _ I1 q1) λiv s2 ⟨y,H2,I2,ry,q2⟩=>
  aaU (b6 (hf pins s2 σ H2 _ I2 q2) λfv s3 ⟨z,H3,I3,rz,ov,g,q3⟩=>aa7 ?_))))
 exact LN hu I3 g ry rz λw' s4 I4 rw'=>⟨_,H3,I4,rw',q3⟩
end
end L2
namespace Vk
open PySem PySem.W PySem.Calls PyProof.Rows
theorem pH:∀(ns:List Int) (vs:List Value),WellAll P h vs (ns.map WData.int)->IntsAre vs ns:=by
 intro ns
 induction ns with
 |nil=>intro vs w;rw[abh]at w;cases w;exact .nil
 |cons n ns ih=>
  intro vs w;rw[aac]at w;cases w with
  |cons a b=>cases a;exact .cons _ _ (ih _ b)
theorem BV{l:OpenLaw}{n:Nat}(hn:l.most=some n){P:Params}{h:Heap}{args:List WData}{vals:List Value}
  (hpre:l.row.toRowW.claim.pre args=true) (hwl:WellAll P h vals args) :
  ∃a vs ns,vals=[Value.ref a]/\args=[WData.list (ns.map WData.int)]/\h.get? a=some { cls:=.type "list",data:=.seq vs.toArray }/\IntsAre vs ns/\ns.length<=n:=by
 have hsh:WShape.hasAll [] args [.list .int]=true:=(pre_splitW hpre).1;have hc:l.pre.holds [] { args:=args }=true:=(pre_splitW hpre).2;obtain⟨d,r,rfl,h1,h2⟩:=hasAllW_cons hsh;obtain rfl:=hasAllW_nil h2;obtain⟨xs,rfl,h3⟩:=hasW_list h1;obtain⟨ns,rfl⟩:=items_int h3;have hlen:ns.length<=n:=by
  unfold OpenLaw.pre at hc;have h4:(WTm.not (.lt (.lit (.int (n:Int))) (.len (.arg 0)))).holds [] { args:=[.list (ns.map .int)] }=true:=by have h4:=(holds_andW hc).1;rw[hn]at h4;exact h4
  have h5:=condW_of h4 (w_not (w_lt w_lit (w_len_list (w_arg rfl))));rw[Z4]at h5;refine Nat.le_of_not_lt λq=>?_;have q':(n:Int)<((ns.length:Nat):Int):=by omega
  first
   |(rw[decide_eq_true q']at h5;exact absurd h5 (by decide))
   |(simp at h5;omega)
 cases hwl with
 |cons w1 w2=>
  cases w2;cases w1 with
  |list ho hall=>exact⟨_,_,ns,rfl,rfl,ho,pH ns _ hall,hlen⟩
theorem BW(l:OpenLaw)(args:List WData):l.row.toRowW.claim.post args (.bool true) args=true :=
 postW_of (r:=l.row.toRowW) (X:=(true==true))
  (show WShape.has [] (.bool true) .bool=true by first|rfl|decide|simp[WShape.has,WShape.arms,WShape.armsAll])
  (show (WTm.eq .res (.lit (.bool true))).value [] { args:=args,res:=some (.bool true),after:=args }=some (.bool (true==true)) from w_eq_bool (w_res rfl) w_lit) rfl
theorem wD{l:OpenLaw}{n:Nat}{q:Program}{loose:List Str}{XP:(Str->Option Value)->Heap->Prop}{YP:World->Heap->Prop}{d:DefRec}
  (hn:l.most=some n) (hdf:d.params.defaults=[])
  (call:∀(w:World) (s₀ s₁:Shared) (mg mb:Str->Option Value) (fa:Addr) (o:Obj) (pm cd doc:Value) (a:Addr) (vs:List Value) (ns:List Int),
   Ground q loose [] XP w s₀ mg mb s₁.heap->YP w s₁.heap ->
   s₁.heap.get? fa=some o->o.data=.func (docDef d.name d.params d.body d.scope pm cd doc)->s₁.heap.CodeRec cd d.name->mg d.name=some (.ref fa) ->
   s₁.heap.get? a=some { cls:=.type "list",data:=.seq vs.toArray }->IntsAre vs ns->ns.length<=n->s₁.gens = #[] ->
   codeAny (model l.prog w) callerA (.call (.ref fa) ⟨[.ref a],[]⟩) (λr s'=>r=.ok (.ret (.bool true))/\OldK s₁.heap s'.heap/\s'.os=s₁.os/\AllBare s'.gens) s₁) :
  WalkO q loose XP YP l.row.toRowW d [] (λf vs=>PySem.call f vs):=by
 intro w s₀ s₁ mg mb G Y fa o pm cd doc dV kV ho hd hcd hD hmg hg args vals as hpre hlay hrd hwl hlo;obtain rfl:dV=.none:=Dflts.none hD hdf;obtain rfl:kV=.none:=Dflts.noKw hD;obtain⟨a,vs,ns,rfl,rfl,hobj,hints,hlen⟩:=BV hn hpre hwl;refine enter_call (ab3 (call w s₀ s₁ mg mb fa o pm cd doc a vs ns G Y ho (fd_plain hd) hcd hmg hobj hints hlen hg) λr s' hq=>?_);obtain⟨rfl,h2,h3,h4⟩:=hq;exact⟨.inl ⟨.bool true,.bool true,[],rfl,λ_=>rfl,.bool true,BW l _,λ_=>⟨List.Pairwise.nil,λ_ hm=>(nomatch hm)⟩⟩,h2,h3,h4⟩
end Vk
namespace L2
open PySem PySem.Spec PyProof.Rows
theorem gx:∀{vs:List Value} {ns:List Int},IntsAre vs ns->Vals (ns.map V.int) vs
 |_,_,.nil=>.nil
 |_,_,.cons n t h=>.cons ⟨t,rfl⟩ (gx h)
def Dk(H:Hp):Prop:=∀b,H b=none\/∃o xs,H b=some (.jL o (.lst xs))
theorem Dl{P:Program}{w:World}{K:Frag}{mg mb:Str->Option Value}{CX:BL}{k:Nat}{fa a:Addr}{fd:FuncData}{x:Str}{sp:Sp}{s₁:Shared}{vs:List Value}{ns:List Int}
  (KX:K.In s₁.heap) (hns:s₁.heap.Ns mainGlobals mg) (hb:s₁.heap.Ns builtinsNs mb) (W5:∀x:Str,x ≠ "__name__" -> mb x=bootBuiltins x) (hlim:s₁.heap.NoLimit) (hg:s₁.gens = #[])
  (ha:s₁.heap.get? a=some { cls:=.type "list",data:=.seq vs.toArray }) (hi:IntsAre vs ns) (hl:ns.length<=sizeLine) (hr:cW k callerA)
  (F:∀base:Heap,K.In base->base.Ns mainGlobals mg->fh P w K mg base CX k fa fd [x] sp) (hbind:∀(s:Shared) (u:Value),BindsTo s fd ⟨[u],[]⟩ [(x,u)])
  (hsp:∀H:Hp,Dk H->gA K H a (ns.map V.int)->sp [.ref a] H (λv _=>v=.bl true) λ_ _ _=>False)
  (hCX:∀H e s',CX [] H s₁ (λ_ _ _=>False) e s'->False) :
  codeAny (model P w) callerA (.call (.ref fa) ⟨[.ref a],[]⟩) (λr s'=>r=.ok (.ret (.bool true))/\OldK s₁.heap s'.heap/\s'.os=s₁.os/\AllBare s'.gens) s₁:=by
 have rv:=gx hi;have TZ:=hi.length;have core:∀H:Hp,Dk H->gA K H a (ns.map V.int)->lD P w H s₁.heap->(∀b,H b≠none->b=a)->(H a≠none->K.lookup a=none) ->
   codeAny (model P w) callerA (.call (.ref fa) ⟨[.ref a],[]⟩) (λr s'=>r=.ok (.ret (.bool true))/\OldK s₁.heap s'.heap/\s'.os=s₁.os/\AllBare s'.gens) s₁:=by
  intro H hO hS hok hA hK;have base_of:∀{b:Addr} {o:Obj},s₁.heap.get? b=some o->H b=none->(uI s₁.heap H).get? b=some o:=λe n=>CL e n;have noA:∀{b:Addr} {o:Obj} {es:Array DictEntry} {ep:Nat},s₁.heap.get? b=some o->o.data=.dict es ep->H b=none:=λ{b o es ep} e d=>by
   cases q:H b with
   |none=>rfl
   |some u=>have e':b=a:=hA b (by rw[q];simp);subst e';rw[ha]at e;cases e;have d':Data.seq vs.toArray _=Data.dict es ep:=d;cases d'
  have nsK:∀{b:Addr} {m:Str->Option Value},s₁.heap.Ns b m->(uI s₁.heap H).Ns b m:=λ{b m} ⟨o,es,ep,e,d,r⟩=>⟨o,es,ep,base_of e (noA e d),d,r⟩;have Vl:K.In (uI s₁.heap H):=λb o e=>base_of (KX b o e) (by
   cases q:H b with
   |none=>rfl
   |some u=>have e':b=a:=hA b (by rw[q];simp);subst e';rw[hK (by rw[q];simp)]at e;cases e)
  have hM:Mod K mg (uI s₁.heap H):=⟨Vl,nsK hns,⟨mb,nsK hb,W5⟩,let ⟨mc,h1,h2⟩:=hlim;⟨mc,nsK h1,h2⟩⟩;have e0:yR P w K mg (uI s₁.heap H) callerA [] s₁ H:=⟨rfl,hM,λb o e=>GX e,Nat.le_of_eq (BB _ _),trivial,λb hb=>absurd (show b∈([]:List Addr) from hb) (by simp),hok,.of_eq hg⟩;refine ab3 ((F _ Vl (nsK hns)).run callerA [] s₁ H ⟨[.ref a],[]⟩ [.ref a] [.ref a] _ _ hr e0 (hbind s₁ (.ref a)) #[rfl] (hsp H hO hS)) λr s' h=>?_;cases r with
  |error e=>exact(hCX H e s' h).elim
  |ok fl=>
   cases fl with
   |next=>exact False.elim h
   |brk=>exact False.elim h
   |cont=>exact False.elim h
   |ret u=>
    obtain⟨v,H',os,bare,un,T4,r',q⟩:=h;have q':v=.bl true:=q;subst q';obtain rfl:u=Value.bool true:=r';refine⟨rfl,OldK.of_keep λb o e=>?_,os,bare⟩;cases q:H b with
    |none=>exact un.keep b o e q (by intro z;exact absurd (show b∈([]:List Addr) from z) (by simp)) (by simp)
    |some u=>
     rcases hO b with z|⟨ob,xs,z⟩
     ·rw[q]at z;cases z
     ·have z2:=un.frzs b ob _ z;obtain⟨e1,_⟩:=hok b _ z;obtain⟨e2,_⟩:=T4 b _ z2;rw[e]at e1;cases e1;exact e2
 cases hk:K.lookup a with
 |some o=>have e:=KX a o hk;rw[ha]at e;cases e;refine core (λ_=>none) (λ_=>.inl rfl) (.inr ⟨_,vs.toArray,_,hk,rfl,rfl,rfl,by rw[aae,TZ];exact hl,by simpa using rv⟩) (λb u z=>by have z':(none:Option HO)=some u:=z;cases z') (λb z=>absurd rfl z) λz=>absurd rfl z
 |none=>
  refine core (λb=>if b=a then some (.jL { cls:=.type "list",data:=.seq vs.toArray } (.lst (ns.map V.int))) else none) (λb=>?_) (.inl (.inr ⟨{ cls:=.type "list",data:=.seq vs.toArray },Z7 rfl⟩)) (λb u z=>?_) (λb z=>?_) λ_=>hk
  ·by_cases hb:b=a
   ·exact .inr ⟨_,_,Z7 hb⟩
   ·exact .inl (Z8 hb)
  ·by_cases hb:b=a
   ·have z':=(Z7 hb).symm.trans z;cases z';subst hb;exact⟨ha,by rw[Z4];exact hl,vs,_,rv,ha⟩
   ·have z':=(Z8 hb).symm.trans z;cases z'
  ·by_cases hb:b=a
   ·exact hb
   ·exact absurd (Z8 hb) z
theorem HY{l:PySem.W.OpenLaw}{n k:Nat}{q:Program}{loose:List Str}{XP:(Str->Option Value)->Heap->Prop}{YP:World->Heap->Prop}{d:DefRec}{K:Params->Frag}{CX:World->BL}{sp:World->Sp}{x:Str}
  (hn:l.most=some n) (hn2:n<=sizeLine) (hdf:d.params.defaults=[]) (hr:cW k callerA)
  (hY:∀(w:World) (h:Heap),YP w h->(K w.params).In h)
  (F:∀(w:World) (mg:Str->Option Value) (fa:Addr) (h:Heap),(K w.params).In h->h.Ns mainGlobals mg->mg d.name=some (.ref fa) ->
   ∃fd:FuncData,(∀(s:Shared) (u:Value),BindsTo s fd ⟨[u],[]⟩ [(x,u)]) /\
    ∀base:Heap,(K w.params).In base->base.Ns mainGlobals mg->fh l.prog w (K w.params) mg base (CX w) k fa fd [x] (sp w))
  (hsp:∀(w:World) (H:Hp) (a:Addr) (ns:List Int),ns.length<=n->Dk H->gA (K w.params) H a (ns.map V.int)->sp w [.ref a] H (λv _=>v=.bl true) λ_ _ _=>False)
  (hCX:∀(w:World) (H:Hp) (s:Shared) (e:Value) (s':Shared),CX w [] H s (λ_ _ _=>False) e s'->False) :
  PySem.W.WalkO q loose XP YP l.row.toRowW d [] (λf vs=>PySem.call f vs):=by
 refine Vk.wD hn hdf λw s₀ s₁ mg mb fa o pm cd doc a vs ns G Y ho hd hcd hmg hobj hints hlen hg=>?_;have KX:=hY w _ Y;obtain⟨fd,hb,hF⟩:=F w mg fa _ KX G.T.g hmg;exact Dl KX G.T.g G.T.b G.T.builtins G.T.nolimit hg hobj hints (aay hlen hn2) hr hF hb (λH hO hS=>hsp w H a ns hlen hO hS) λH e s'=>hCX w H s₁ e s'
def mq(s:Stmt):Arguments:=match s with
 |.FunctionDef _ a _ _ _ _ _ _ _ _=>a
 |_=>{ posonlyargs:=[],args:=[],vararg:=none,kwonlyargs:=[],kw_defaults:=[],kwarg:=none,defaults:=[] }
def av(s:Stmt):List Stmt:=match s with
 |.FunctionDef _ _ b _ _ _ _ _ _ _=>b
 |_=>[]
def af(s:Stmt):Scope:=match s with
 |.FunctionDef _ _ _ _ _ _ sc _ _ _=>sc
 |_=>{ kind:=.function,names:=[],isGenerator:=false,isCoroutine:=false }
abbrev yy:BL:=λ_ _ _ _ _ _=>False
abbrev E0:XK:=λ_ _ _=>False
theorem qq:Passes yy X E0:=λ_ _ _ _ _ _ _ h=>h.elim
structure GN (K:Frag) (x qual:Str) (st:Stmt) (f:Addr) (fd:FuncData):Prop where
 ex:∃(oc:Value) (od:Option Addr) (kV doc pm:Value) (an:Option Addr) (cdv ct:Value) (osl:Array (Option Value)),
  fd=fnOf x qual (mq st) (av st) (af st) .none kV doc pm an cdv ct/\K.lookup f=some ⟨oc,od,.func fd,osl⟩/\codeIn K cdv qual=true
 kp:keepIn K (.ref f)=true
section
variable {P:Program} {w:World} {K:Frag} {mg:Str->Option Value} {base:Heap}
theorem GN.ok{x qual:Str}{st:Stmt}{f:Addr}{fd:FuncData}{N ps:List Str}{k:Nat}{sp:Sp}(F:GN K x qual st f fd)(S:pP N ps (af st))(len:∀vs H Q E,sp vs H Q E->vs.length=ps.length)
  (hbody:∀(cdv:Value) (A:Around) (outer:List Env) (s:Shared) (H:Hp) (vs:List V) (Q:VK) (E:XK),cW k (A.deeper (envOfC qual (af st) s.heap.objs.size f cdv))->sp vs H Q E ->
   ∃t,yx (yS yy P w K mg base N qual (af st) f cdv A outer s H E).Pg (av st) t/\t { nx:=λ_ H'=>Q .non H',rt:=Q } (start N vs) H):fh P w K mg base yy (k+1) f fd ps sp:=by
 obtain⟨oc,od,kV,doc,pm,an,cdv,ct,osl,rfl,lk,hcd⟩:=F.ex;refine PN lk hcd S len λA outer s H vs Q E hr hsp=>?_;obtain⟨t,h,q⟩:=hbody cdv A outer s H vs Q E hr hsp;exact⟨t,h.Pg,q⟩
theorem GN.binds{x qual:Str}{st:Stmt}{f:Addr}{fd:FuncData}{ps:List Str}(F:GN K x qual st f fd)
  (h:∀(kV doc pm:Value) (an:Option Addr) (cdv ct:Value) (us:List Value),us.length=ps.length->bindArgs (fnOf x qual (mq st) (av st) (af st) .none kV doc pm an cdv ct) ⟨us,[]⟩=pure (ps.zip us)):Binds K fd ps []:=by
 obtain⟨oc,od,kV,doc,pm,an,cdv,ct,osl,rfl,lk,hcd⟩:=F.ex;exact .all (h kV doc pm an cdv ct)
theorem fun_mk{x qual:Str}{st:Stmt}{f:Addr}{oc:Value}{od an:Option Addr}{osl:Array (Option Value)}{kV doc pm cdv ct:Value}(l:K.lookup f=some ⟨oc,od,.func (fnOf x qual (mq st) (av st) (af st) .none kV doc pm an cdv ct),osl⟩)
  (c:codeIn K cdv qual=true) (k:keepIn K (.ref f)=true):GN K x qual st f (fnOf x qual (mq st) (av st) (af st) .none kV doc pm an cdv ct):=⟨⟨oc,od,kV,doc,pm,an,cdv,ct,osl,rfl,l,c⟩,k⟩
end
section
variable {X:Cx}
theorem BX:cV X (.builtin "len") (λxs H Q=>∃a kvs,xs=[V.ref a]/\H a=some (.dK kvs)/\Q (.int kvs.length) H):=by
 intro pins s σ H xs us Q I r h;obtain⟨a,kvs,rfl,ha,q⟩:=h;obtain⟨u,rfl,ru⟩:=vals1 r;cases ru;exact P1 I (.inl ha) λt s' I'=>⟨.int kvs.length,H,I',⟨t,rfl⟩,q⟩
end
def yX(H H':Hp):Prop:=∀b o,H b=some o->H' b=some o
theorem yX.seq{K:Frag}{H H':Hp}{a:Addr}{xs:List V}(e:yX H H')(h:gA K H a xs):gA K H' a xs:=by
 rcases h with (h|⟨o,h⟩)|h
 ·exact .inl (.inl (e _ _ h))
 ·exact .inl (.inr ⟨o,e _ _ h⟩)
 ·exact .inr h
section
variable {κ:Type} [DecidableEq κ]
theorem Ac:∀{l:List κ} {k:κ},l.Nodup->¬ k∈l->(l++[k]).Nodup
 |[],k,_,_=>by simp
 | a::r,k,h,hk=>by
  obtain⟨h1,h2⟩:=aaC.mp h;show (a::(r++[k])).Nodup;refine aaC.mpr ⟨λm=>?_,Ac h2 λm=>hk (aao.mpr (Or.inr m))⟩
  rcases aaF.mp m with q|q
  ·exact h1 q
  ·exact hk (aao.mpr (Or.inl (aai.mp q).symm))
end
theorem lF(env:Env):∀(names:List (Str×NameKind)) (acc:List (Str×Addr)),(∀y∈names,y.2=.free->∃c,env.cells.lookup y.1=some c) ->
  (∀x c,acc.lookup x=some c->env.cells.lookup x=some c) ->
  ∃cl,(forIn names acc λx r=>if (x.snd==NameKind.free)=true then do let c <-cellOf env x.fst;pure (ForInStep.yield ((x.fst,c)::r)) else pure (ForInStep.yield r))=(pure cl:Sem (List (Str×Addr))) /\
   (∀x c,cl.lookup x=some c->env.cells.lookup x=some c)/\∀x,((x,NameKind.free)∈names\/∃c,acc.lookup x=some c)->∃c,cl.lookup x=some c
 |[],acc,_,ha=>⟨acc,rfl,ha,λx h=>h.elim (λz=>nomatch z) λz=>z⟩
 | (n,k)::r,acc,hn,ha=>by
  have hr:∀y∈r,y.2=NameKind.free->∃c,env.cells.lookup y.1=some c:=λy hy=>hn y (aab _ hy)
  by_cases hk:k=.free
  ·subst hk
   obtain⟨c,hc⟩:=hn (n,.free) Z9 rfl;have ha':∀x d,((n,c)::acc).lookup x=some d->env.cells.lookup x=some d:=λx d h=>by
    rw[aaB]at h;cases e:x==n with
    |true=>rw[e]at h;have e':x=n:=eq_of_beq e;cases h;rw[e'];exact hc
    |false=>rw[e]at h;exact ha x d h
   obtain⟨cl,e1,e2,e3⟩:=lF env r ((n,c)::acc) hr ha';refine⟨cl,?_,e2,λx h=>?_⟩
   ·rw[List.forIn_cons]
    have hco:cellOf env n=pure c:=by unfold cellOf;rw[hc]
    simp only[beq_self_eq_true,if_true,hco];exact e1
   ·by_cases hx:x=n
    ·subst hx;exact e3 x (.inr ⟨c,by simp[lookup_cons]⟩)
    ·rcases h with h|⟨d,h⟩
     ·rcases aao.mp h with z|z
      ·exact absurd (aaS Prod.fst z) hx
      ·exact e3 x (.inl z)
     ·refine e3 x (.inr ⟨d,?_⟩);rw[aaB];have:(x==n)=false:=aaD.mpr hx;rw[this];exact h
  ·have hb:(k==NameKind.free)=false:=aaD.mpr hk
   obtain⟨cl,e1,e2,e3⟩:=lF env r acc hr ha;refine⟨cl,?_,e2,λx h=>e3 x ?_⟩
   ·rw[List.forIn_cons];simp only[hb,false_eq_true,if_false];exact e1
   ·rcases h with h|h
    ·rcases aao.mp h with z|z
     ·cases z;exact absurd rfl hk
     ·exact .inl z
    ·exact .inr h
theorem qt(h:∀y∈scope.names,y.2=.free->∃c,env.cells.lookup y.1=some c) :
  ∃cl,closureFor scope env=pure cl/\(∀x c,cl.lookup x=some c->env.cells.lookup x=some c)/\∀x,(x,NameKind.free)∈scope.names->∃c,cl.lookup x=some c:=by
 obtain⟨cl,e1,e2,e3⟩:=lF env scope.names [] h (λx c z=>by simp at z);refine⟨cl,?_,e2,λx hx=>e3 x (.inl hx)⟩;unfold closureFor;simp only[bind_pure];exact e1
def bw(X:Cx)(scope:Scope)(N':List Str)(cl:List (Str×Addr))(C:Addr)(s:Shared)(H:Hp)(fp:List Addr):Cx :=
 { prog:=X.prog,w:=X.w,K:=X.K,mg:=X.mg,base:=X.base,A:=X.A,N:=N',s₀:=s,H₀:=H,env:=compEnvC scope cl C X.env,outer:=X.stack,stack:=X.stack,ex:=fp,fn:=λ_=>false,calm:=X.calm,pn:=[],xe:=λ_ _=>False }
def gD(js:List (Option Nat))(σ:St):St:=js.map λo=>match o with
 |none=>none
 | some j=>match σ[j]? with
  |some (some v)=>some v
  |_=>none
def uU(sc:Scope)(x:Str):Bool:=sc.names.lookup x==some .cell||sc.names.lookup x==some .free
def gi(XN:List Str)(xsc scope:Scope)(N':List Str)(js:List (Option Nat)):Bool :=
 scope.kind==.function&&(scope.names.all λy=>y.2 != .local||scope.names.lookup y.1==some .local)&&(scope.names.all λy=>y.2 != .cell) &&
 (scope.names.all λy=>y.2 != .free||(uU xsc y.1&&scope.names.lookup y.1==some .free))&&js.length==N'.length &&
 ((N'.zip js).all λp=>match p.2 with|none=>true|some j=>XN[j]?==some p.1&&scope.names.lookup p.1==some .free)
structure uV (X:Cx) (scope:Scope) (N':List Str) (js:List (Option Nat)):Prop where
 kind:scope.kind=.function
 names:∀y∈scope.names,y.2=.local->scope.names.lookup y.1=some .local
 Dm:∀y∈scope.names,y.2≠.cell
 free:∀y∈scope.names,y.2=.free->uU X.env.scope y.1=true/\scope.names.lookup y.1=some .free
 len:js.length=N'.length
 src:∀(i:Nat) (x:Str) (j:Nat),N'[i]?=some x->js[i]?=some (some j)->X.N[j]?=some x/\scope.names.lookup x=some .free
theorem tL(h:gi X.N X.env.scope scope N' js=true):uV X scope N' js:=by
 unfold gi at h;simp only[and_eq_true,all_eq_true]at h;obtain⟨⟨⟨⟨⟨h1,h2⟩,h3⟩,h4⟩,h5⟩,h6⟩:=h;refine⟨eq_of_beq h1,λy hy e=>?_,λy hy e=>?_,λy hy e=>?_,eq_of_beq h5,λi x j e1 e2=>?_⟩
 ·have:=h2 y hy;rw[e]at this;simpa using this
 ·have:=h3 y hy;rw[e]at this;simp at this
 ·have:=h4 y hy;rw[e]at this;simpa using this
 ·have hm:(x,some j)∈N'.zip js:=by
   refine ab8.mpr ⟨i,?_⟩;rw[abQ];exact⟨e1,e2⟩
  have:=h6 _ hm;simpa using this
theorem ig(js:List (Option Nat))(σ:St):(gD js σ).length=js.length:=by unfold gD;rw[Z4]
def GO(X:Cx)(ifs:List Expr)(t:TT):Prop :=
 ∀(pins:List (Addr×Obj)) (s:Shared) (σ:St) (H:Hp) (Q:Bool->Hp->Prop),Inv X pins σ H s->t σ H Q ->
  wpAny (model X.prog X.w) X.A (forIn ifs true λc r=>if r=true then do let ok <-isTrue c X.env (eval c X.env);pure (ForInStep.yield ok) else pure (ForInStep.yield r)) (TP X pins σ Q) X.xe s
def wF:TT:=λ_ H Q=>Q true H
theorem HZ:GO X [] wF:=λ_ _ _ H _ I h=>wpAny_tests_nil ⟨H,I,h⟩
theorem Ad(h:PT X c t):GO X [c] t:=λpins s σ H Q I hw=>wpAny_tests_one (h pins s σ H Q I hw)
def wG(wi:TI)(js:List (Option Nat))(g:TG)(tt:TT)(te:TE):TE:=λσ H Q=>wi σ H λJ H1=>∀D,H1 D=none->∃W:Nat->Nat->St->Hp->Prop,(∃m,W 0 m (gD js σ) (upd H1 D (.lst []))) /\
 ∀i m σ' H,W i m σ' H->(J.stop i H/\Q (.ref D) H)\/(J.go i H/\∃N:St->Hp->Prop,(∀Ae H',N Ae H'->∃m',m'<m/\W (i+1) m' Ae H') /\
  ∀x H',J.yH i H x H'->g x σ' H' λσ2 H2=>tt σ2 H2 λb H3=>if b=true then te σ2 H3 λy H4=>∃ys,H4 D=some (.lst ys)/\ys.length<sizeLine/\N σ2 (upd H4 D (.lst (ys++[y]))) else N σ2 H3)
theorem sN(hc:∀y∈scope.names,y.2≠.cell)
  (h:(relabel scope env).names.lookup x=some .cell\/(relabel scope env).names.lookup x=some .free):(x,NameKind.free)∈scope.names:=by
 unfold relabel at h;simp only at h;generalize scope.names=ns at hc h
 induction ns with
 |nil=>simp at h
 |cons p r ih=>
  obtain⟨n,k⟩:=p;have hc':∀y∈r,y.2≠.cell:=λy hy=>hc y (aab _ hy);simp only[map_cons]at h;cases hx:x==n with
  |true=>
   have e':x=n:=eq_of_beq hx;subst e'
   by_cases hk:k=.free
   ·subst hk;exact Z9
   ·have hk2:=hc (x,k) Z9
    have hb:(k==NameKind.free)=false:=aaD.mpr hk;rw[hb]at h;simp only[Bool.false_and,false_eq_true,if_false,lookup_cons,beq_self_eq_true]at h
    rcases h with h|h
    ·exact absurd (aat h) hk2
    ·exact absurd (aat h) hk
  |false=>
   refine aab _ (ih hc' ?_)
   by_cases hk:(k==NameKind.free&&env.scope.kind==.function&&env.kindOf n==some .cell)=true
   ·rw[Z7 hk]at h;simp only[lookup_cons,hx]at h;exact h
   ·rw[Z8 hk]at h;simp only[lookup_cons,hx]at h;exact h
theorem uW(h:scope.names.lookup x=some .free) :
  (relabel scope env).names.lookup x=some .cell\/(relabel scope env).names.lookup x=some .free:=by
 unfold relabel;simp only;generalize scope.names=ns at h
 induction ns with
 |nil=>simp at h
 |cons p r ih=>
  obtain⟨n,k⟩:=p;simp only[map_cons];cases hx:x==n with
  |true=>
   simp only[lookup_cons,hx]at h;have hk:=aat h;subst hk
   by_cases hk:(NameKind.free==NameKind.free&&env.scope.kind==.function&&env.kindOf n==some .cell)=true
   ·rw[Z7 hk];simp[lookup_cons,hx]
   ·rw[Z8 hk];simp[lookup_cons,hx]
  |false=>
   simp only[lookup_cons,hx]at h
   by_cases hk:(k==NameKind.free&&env.scope.kind==.function&&env.kindOf n==some .cell)=true
   ·rw[Z7 hk];simp only[lookup_cons,hx];exact ih h
   ·rw[Z8 hk];simp only[lookup_cons,hx];exact ih h
section
variable {X:Cx} {pins:List (Addr×Obj)} {σ:St} {scope:Scope} {N':List Str} {js:List (Option Nat)}
theorem qu(ok:uV X scope N' js)(xo:X.Ok):∀y∈scope.names,y.2=.free->∃c,X.env.cells.lookup y.1=some c:=λy hy e=>by
 have:=(ok.free y hy e).1;unfold uU at this;rw[or_eq_true]at this;refine xo.has y.1 ?_
 rcases this with z|z
 ·exact .inl (eq_of_beq z)
 ·exact .inr (eq_of_beq z)
theorem yY{tk:Nat}(ok:uV X scope N' js)(I:Inv X pins σ H s)
  (hcl1:∀x c,cl.lookup x=some c->X.env.cells.lookup x=some c) (hcl2:∀x,(x,NameKind.free)∈scope.names->∃c,cl.lookup x=some c)
  (hfp:∀b∈fp,pF X pins H b) (hlt:∀b∈fp,b<s.heap.objs.size)
  (hns:h'.Ns s.heap.objs.size (λ_=>none)) (hk:∀b o,s.heap.get? b=some o->h'.get? b=some o) :
  Inv (bw X scope N' cl s.heap.objs.size s H fp) [] (gD js σ) H { s with heap:=h',toks:=tk }:=by
 have cellK:∀x c,cl.lookup x=some c->∃v,s.heap.IsCell c v:=λx c e=>I.cell x c (hcl1 x c e);have hCf:H s.heap.objs.size=none:=I.hok.fresh (aaa _);refine⟨⟨I.ok.mod,ok.kind,I.ok.glob,I.ok.blt,aaa _,λx y c e1 e2=>I.ok.inj x y c (hcl1 x c e1) (hcl1 y c e2),λx hx=>hcl2 x (sN ok.Dm hx),λx c hf _=>absurd hf (by intro z;cases z),I.ok.hd,I.ok.frames,.inl rfl,
   λb hb=>⟨aam (hlt b hb),λx c e z=>?_⟩,I.bs,aay I.ok.J7 I.sz,λb o e hb=>?_,λb hb hs=>?_,I.stack,I.zW⟩,rfl,I.bare,Un.kept hk,⟨_,hns,λi x v e1 e2 e3=>?_⟩,λx c e=>?_,hCf,λx c e=>I.gX x c (hcl1 x c e),
   λp hp=>absurd (show p∈([]:List (Addr×Obj)) from hp) (by simp),I.hok.kept hk,?_⟩
 ·exact(hfp b hb).2.2.2.2.1 x c (hcl1 x c e) z
 ·rcases(hfp b hb).2.2.2.1 with z|z
  ·exact I.ok.lE b o e z
  ·exact absurd (aah (aaf (I.ok.bs b o e).1) z) (aa0 _)
 ·rcases aao.mp (I.yF b hs) with z|z
  ·exact(hfp b hb).2.1 z
  ·exact(hfp b hb).2.2.1 z
 ·-- a name W6 has a value: one of the def around
  have GP:(gD js σ)[i]?=some (some v):=e2;unfold gD at GP;rw[aas] at GP;cases hj:js[i]? with
  |none=>rw[hj] at GP;cases GP
  |some o=>
   rw[hj] at GP;cases o with
   |none=>simp at GP
   |some j=>
    obtain⟨hN,hf⟩:=ok.src i x j e1 hj;cases hs:σ[j]? with
    |none=>simp[hs] at GP
    |some ov=>
     cases ov with
     |none=>simp[hs] at GP
     |some v'=>
      simp[hs] at GP;subst GP;have hfr:=(ok.free (x,.free) (aa9 hf) rfl).1;unfold uU at hfr;rw[or_eq_true]at hfr;have P5:X.env.scope.names.lookup x=some .cell\/X.env.scope.names.lookup x=some .free:=hfr.imp eq_of_beq eq_of_beq;obtain⟨m,_,hl⟩:=I.loc;obtain⟨u,r,l⟩:=hl j x v' hN hs (.inr P5);refine⟨u,r,.inr ⟨uW hf,?_⟩⟩
      rcases l with ⟨k,_⟩|⟨_,c,e,z⟩
      ·have k':X.env.scope.names.lookup x=some .local:=k
       rcases P5 with q|q<;>(rw[q]at k';cases k')
      ·obtain⟨d,hd⟩:=hcl2 x (aa9 hf);have e':=hcl1 x d hd;rw[e]at e';cases e';obtain⟨oc,hoc,CN⟩:=z;exact⟨c,hd,oc,hk _ _ hoc,CN⟩
 ·obtain⟨v,oc,hoc,CN⟩:=cellK x c e;exact⟨v,oc,hk _ _ hoc,CN⟩
 ·rw[ig];exact ok.len
theorem BY(I:Inv X pins σ H s)(hfp:∀b∈fp,pF X pins H b)
  (J:Inv (bw X scope N' cl C s H fp) [] σ' H' s'):Inv X pins σ H' s' :=
 I.Pa (ch:=fp) J.os J.base J.hok J.bare λb hb=>⟨(hfp b hb).2.2.2.1,(hfp b hb).2.1,(hfp b hb).2.2.2.2.1,(hfp b hb).2.2.2.2.2⟩
end
section
variable {X:Cx} {scope:Scope} {N':List Str} {js:List (Option Nat)} {tg elt iter:Expr} {ifs:List Expr} {pos:Pos} {wi:TI} {g:TG} {tt:TT} {te:TE}
theorem wH{pins:List (Addr×Obj)}{σ:St}{H2:Hp}{s2:Shared}{it:Addr}{fp:List Addr}{tn:Nat->Heap->Prop}{J:It}{cl:List (Str×Addr)}{E:Value->Shared->Prop}{RR:Value->Addr->Result->Shared->Prop}{Q:VK}
  (ok:uV X scope N' js) (hc:X.calm=true) (I2:Inv X pins σ H2 s2) (T:Turn X.prog X.w X.K tg J fp it tn) (st2:tn 0 s2.heap) (f2:∀b∈fp,pF X pins H2 b)
  (hcl1:∀x c,cl.lookup x=some c->X.env.cells.lookup x=some c) (hcl2:∀x,(x,NameKind.free)∈scope.names->∃c,cl.lookup x=some c)
  (hg:∀cl C s H fp,PG (bw X scope N' cl C s H fp) tg g) (ht:∀cl C s H fp,GO (bw X scope N' cl C s H fp) ifs tt) (he:∀cl C s H fp,PE (bw X scope N' cl C s H fp) elt te)
  (rd:∀D,H2 D=none->∃W:Nat->Nat->St->Hp->Prop,(∃m,W 0 m (gD js σ) (upd H2 D (.lst []))) /\
   ∀i m σ' H,W i m σ' H->(J.stop i H/\Q (.ref D) H)\/(J.go i H/\∃N:St->Hp->Prop,(∀Ae H',N Ae H'->∃m',m'<m/\W (i+1) m' Ae H') /\
    ∀x H',J.yH i H x H'->g x σ' H' λσ2 H2=>tt σ2 H2 λb H3=>if b=true then te σ2 H3 λy H4=>∃ys,H4 D=some (.lst ys)/\ys.length<sizeLine/\N σ2 (upd H4 D (.lst (ys++[y]))) else N σ2 H3))
  (hRR:∀(D C:Addr) (s':Shared) (H':Hp) (m:Str->Option Value),s2.heap.objs.size<=C->Inv X pins σ H' s'->H' C=none->s'.heap.Ns C m->Q (.ref D) H'->RR (.ref D) C (.ok .next) s') :
  wpAny (model X.prog X.w) X.A (newList []) (λacc s₃=>wpAny (model X.prog X.w) X.A (newFunctionEnv scope X.env.globals cl [] X.env.qual none .none (some X.env)) (λcenv s₄=>
   codeAny (model X.prog X.w) X.A (.compStart (.ListComp elt [⟨tg,iter,ifs,0⟩] scope pos) 0 (.ref it) acc { cenv with scope:=relabel scope X.env }) (RR acc cenv.locals) s₄) E s₃) E s2:=by
 have hD:H2 s2.heap.objs.size=none:=I2.hok.fresh (aaa _);refine aaG (wpAny_newFunctionEnv ok.Dm (by intro y hy;simp at hy) (λh₁ P6 P7=>?_) ok.kind);dsimp only at P6 P7 |-;have I3:Inv X pins σ (upd H2 s2.heap.objs.size (.lst [])) { s2 with heap:=s2.heap.push { cls:=.type "list",dict:=none,data:=.seq ([]:List Value).toArray },toks:=s2.toks } :=
  I2.laid (t':=s2.toks) (λb u e=>Z3 _ e) (aaa _) ⟨by simp,[],0,.nil,aaj _ rfl⟩
 generalize P8:({ s2 with heap:=s2.heap.push { cls:=.type "list",dict:=none,data:=.seq ([]:List Value).toArray },toks:=s2.toks }:Shared)=s3 at I3;have hsz:s3.heap.objs.size=s2.heap.objs.size+1:=by rw[<-P8];exact aa1 ..
 have eC:(s2.heap.push { cls:=.type "list",dict:=none,data:=.seq ([]:List Value).toArray }).objs.size=s3.heap.objs.size:=by rw[<-P8]
 have f3:∀b∈fp,pF X pins (upd H2 s2.heap.objs.size (.lst [])) b:=λb hb=>by
  obtain⟨o,e,_⟩:=T.obj _ _ st2 b hb;refine⟨?_,(f2 b hb).2⟩;rw[ao (aam (aaf e))];exact(f2 b hb).1
 have hlt:∀b∈fp,b<s3.heap.objs.size:=λb hb=>by
  obtain⟨o,e,_⟩:=T.obj _ _ st2 b hb;have hb2:b<s2.heap.objs.size:=aaf e;rw[hsz];exact abK hb2
 have keep:∀b o,s3.heap.get? b=some o->h₁.get? b=some o:=λb o e=>by
  have e':(s2.heap.push { cls:=.type "list",dict:=none,data:=.seq ([]:List Value).toArray }).get? b=some o:=by rw[<-P8]at e;exact e
  exact P7.extBut b o (aam (aaf e')) (Z3 _ e')
 have I4:=yY (tk:=s2.toks+([]:List (Str×Value)).length) ok I3 hcl1 hcl2 f3 hlt (h':=h₁) (by rw[<-eC];simpa using P6) keep;have Vm:tn 0 h₁:=T.keep _ _ _ st2 λb hb o e=>keep b o (by rw[<-P8];exact Z3 _ e);obtain⟨W,⟨m0,w0⟩,turn⟩:=rd _ hD;have stat:∀{H':Hp},(∀b∈fp,H' b=none)->∀b∈fp,pF (bw X scope N' cl s3.heap.objs.size s3 (upd H2 s2.heap.objs.size (.lst [])) fp) [] H' b:=λ{H'} hn b hb=>
  ⟨hn b hb,aam (hlt b hb),I4.ok.CM b hb,.inl hb,(I4.ok.Tc b hb).2,λp hp=>absurd (show p∈([]:List (Addr×Obj)) from hp) (by simp)⟩
 have W7:∀tk,({ s2 with heap:=h₁,toks:=tk }:Shared)={ s3 with heap:=h₁,toks:=tk }:=λtk=>by rw[<-P8]
 have loop:codeAny (model X.prog X.w) X.A (.compLoop (.ListComp elt [⟨tg,iter,ifs,0⟩] scope pos) 0 (.ref it) (.ref s2.heap.objs.size) (compEnvC scope cl s3.heap.objs.size X.env)) (RR (.ref s2.heap.objs.size) s3.heap.objs.size)
   { s3 with heap:=h₁,toks:=s2.toks+([]:List (Str×Value)).length }:=by
  refine codeAny_loop rfl (λn s'=>∃i σ' H',Inv (bw X scope N' cl s3.heap.objs.size s3 (upd H2 s2.heap.objs.size (.lst [])) fp) [] σ' H' s'/\tn i s'.heap/\(∀b∈fp,H' b=none)/\W i n σ' H') ?_ m0 ⟨0,_,_,I4,Vm,λb hb=>(f3 b hb).1,w0⟩;rintro n s5 ⟨i,σ5,H5,I5,OM,Sy,w5⟩;show wpAny _ X.A ((compTurn (.ListComp elt [⟨tg,iter,ifs,0⟩] scope pos) 0 (.ref it) (.ref s2.heap.objs.size) (compEnvC scope cl s3.heap.objs.size X.env)).onRaise (λx=>do noteFrame x (compEnvC scope cl s3.heap.objs.size X.env);theTreesLotGoes x)) _ _ s5;refine wpAny_noted ?_;rw[compTurn_list];refine ZZ (wpAny_standAt (ZZ ?_))
  rcases turn i n σ5 H5 w5 with ⟨stop,qn⟩|⟨go,N,hN,step⟩
  ·refine aa3 (T.done (bw X scope N' cl s3.heap.objs.size s3 (upd H2 s2.heap.objs.size (.lst [])) fp) rfl rfl rfl hc i [] s5 σ5 H5 (λ_ _=>False) I5 (stat Sy) OM stop) (λr s6 ⟨hr,I6⟩=>?_) λ_ _ z=>z.elim;subst hr;refine Z6 ?_;obtain⟨m,hm,_⟩:=id I6.loc;exact hRR _ _ s6 H5 m (by rw[hsz];exact aaV _) (BY I3 f3 I6) I6.free hm qn
  ·refine aa3 (T.item (bw X scope N' cl s3.heap.objs.size s3 (upd H2 s2.heap.objs.size (.lst [])) fp) rfl rfl rfl hc i [] s5 σ5 H5 (λ_ _=>False) I5 (stat Sy) OM go) (λr s6 ⟨u,hr,h6⟩=>?_) λ_ _ z=>z.elim
   subst hr;refine ZZ (aa3 h6 (λ_ s7 ⟨x,H7,I7,r7,y7,T5,W8⟩=>?_) λ_ _ z=>z.elim);have W9:=I7.pinned (stat W8) (T.obj _ _ T5);refine ZZ (aa3 (hg _ _ _ _ _ _ s7 σ5 H7 x u _ W9 r7 (step x H7 y7)) (λ_ s8 ⟨σ8,H8,I8,q8⟩=>?_) λ_ _ z=>z.elim);refine ZZ (aa3 (ht _ _ _ _ _ _ s8 σ8 H8 _ I8 q8) (λb s9 ⟨H9,I9,q9⟩=>?_) λ_ _ z=>z.elim);have Dp:∀{sA:Shared} {σA:St} {HA:Hp},Inv (bw X scope N' cl s3.heap.objs.size s3 (upd H2 s2.heap.objs.size (.lst [])) fp) ([]++qb fp s7.heap) σA HA sA->N σA HA ->
     ∃m,m<n/\∃i σ' H',Inv (bw X scope N' cl s3.heap.objs.size s3 (upd H2 s2.heap.objs.size (.lst [])) fp) [] σ' H' sA/\tn i sA.heap/\(∀b∈fp,H' b=none)/\W i m σ' H':=λ{sA σA HA} IA nA=>by
    obtain⟨m',hm,wA⟩:=hN σA HA nA;refine⟨m',hm,i+1,σA,HA,IA.lY,T.keep _ _ _ T5 λb hb o e=>(IA.pin (b,o) (aaz _ (aaz _ (jc hb e)))).1,λb hb=>?_,wA⟩;obtain⟨o,e,d⟩:=T.obj _ _ T5 b hb;exact(IA.pin (b,o) (aaz _ (aaz _ (jc hb e)))).2.1
   cases b with
   |false=>exact Z6 ⟨rfl,Dp I9 (by simpa using q9)⟩
   |true=>rw[Z7 rfl]at q9;refine ZZ (ZZ (aa3 (he _ _ _ _ _ _ s9 σ8 H9 _ I9 q9) (λv sB ⟨y,HB,IB,rB,ys,hys,hlen,nB⟩=>?_) λ_ _ z=>z.elim));refine ZZ (aa3 (tG (X:=bw X scope N' cl s3.heap.objs.size s3 (upd H2 s2.heap.objs.size (.lst [])) fp) _ sB σ8 HB (.ref s2.heap.objs.size) [y] _ [v] (λ_ HC=>HC=upd HB s2.heap.objs.size (.lst (ys++[y]))) IB rfl #[rB] ⟨_,ys,y,rfl,rfl,hys,hlen,rfl⟩) (λv' sC ⟨_,HC,IC,_,Xa⟩=>?_) λ_ _ z=>z.elim);subst Xa;exact Z6 (Z6 ⟨rfl,Dp IC nB⟩)
 rw[W7];have T6:({ newEnv scope (s2.heap.push { cls:=.type "list",dict:=none,data:=.seq ([]:List Value).toArray }).objs.size X.env.globals cl X.env.qual none Value.none (some X.env) builtinsNs with scope:=relabel scope X.env }:Env)=compEnvC scope cl s3.heap.objs.size X.env:=by rw[eC];rfl
 have T7:(newEnv scope (s2.heap.push { cls:=.type "list",dict:=none,data:=.seq ([]:List Value).toArray }).objs.size X.env.globals cl X.env.qual none Value.none (some X.env) builtinsNs).locals=s3.heap.objs.size:=by rw[eC];rfl
 rw[T6,T7];exact codeAny_compStart_list loop (T.self _ _ _ _ _ Vm loop)
theorem Af(hok:gi X.N X.env.scope scope N' js=true)(hc:X.calm=true)(hi:PI X tg iter wi)(hg:∀cl C s H fp,PG (bw X scope N' cl C s H fp) tg g)
  (ht:∀cl C s H fp,GO (bw X scope N' cl C s H fp) ifs tt) (he:∀cl C s H fp,PE (bw X scope N' cl C s H fp) elt te)
  (hs:∀x,foldedSetIterable iter X.env x=pure x):PE X (.ListComp elt [⟨tg,iter,ifs,0⟩] scope pos) (wG wi js g tt te):=by
 intro pins s σ H Q I h;have ok:=tL hok;obtain⟨cl,T8,hcl1,hcl2⟩:=qt (qu ok I.ok);rw[eval_ListComp];refine wpAny_comprehension_free (use:=none) rfl hs T8 ok.kind ok.names (b6 (hi pins s σ H _ I h) λxv s1 h1=>b6 h1 λitv s2 h2=>?_);obtain⟨it,fp,tn,J,H2,rfl,I2,T,st2,f2,rd⟩:=h2;refine wH (RR:=λacc C=>compPost (model X.prog X.w) X.A X.xe none (EP X pins σ Q) acc C) ok hc I2 T st2 f2 hcl1 hcl2 hg ht he rd ?_;intro D C s' H' m hC J' fC hm q;refine⟨m,hm,λh' hs'=>⟨.ref D,H',?_,rfl,q⟩⟩;refine J'.turned (t':=s'.toks) (λb o hb e=>hs'.extBut b o hb e) fC (abO (aah I2.lt hC)) (.inr (aay I2.sz hC)) (λx c e z=>?_) λp hp z=>?_
 ·obtain⟨v,q'⟩:=I2.cell x c e;exact absurd (aah q'.lt (by rw[z];exact hC)) (aa0 _)
 ·exact absurd (aah (aaf (I2.pin p hp).1) (by rw[z];exact hC)) (aa0 _)
theorem Ag{i:Nat}(hN:X.N.Nodup)(hx:X.N[i]?=some x)(hl:Loc X.env.scope x)(hok:gi X.N X.env.scope scope N' js=true)(hc:X.calm=true)(hi:PI X tg iter wi)(hg:∀cl C s H fp,PG (bw X scope N' cl C s H fp) tg g)
  (ht:∀cl C s H fp,GO (bw X scope N' cl C s H fp) ifs tt) (he:∀cl C s H fp,PE (bw X scope N' cl C s H fp) elt te)
  (hsw:swapsWith (.ListComp elt [⟨tg,iter,ifs,0⟩] scope pos) (some (.Name x pos')) spos.line X.env=pure true)
  (hf:X.fn x=true\/X.env.scope.names.lookup x=some .local)
  (hs:∀x,foldedSetIterable iter X.env x=pure x):PS X (.Assign [.Name x pos'] (.ListComp elt [⟨tg,iter,ifs,0⟩] scope pos) spos) (Ho (wG wi js g tt te) (oR i)):=by
 intro pins s σ H D I h;have ok:=tL hok;obtain⟨cl,T8,hcl1,hcl2⟩:=qt (qu ok I.ok);rw[exec_Assign_Name_used _ _ _ _ hsw];refine ZZ (wpAny_standAt (ZZ ?_));show wpAny _ X.A (do let _ <-comprehension (.ListComp elt [⟨tg,iter,ifs,0⟩] scope pos) scope X.env _ (newList []) false (eval iter X.env) (some (assign (.Name x pos') X.env))) _ _ s;refine ZZ (aa3 (wpAny_comprehension_free (use:=some (assign (.Name x pos') X.env)) (Q:=λ_ s'=>SP X pins D .next s') rfl hs T8 ok.kind ok.names
  (b6 (hi pins s σ H _ I h) λxv s1 h1=>b6 h1 λitv s2 h2=>?_)) (λ_ s' hq=>Z6 (Z6 hq)) λ_ _ e=>e)
 obtain⟨it,fp,tn,J,H2,rfl,I2,T,st2,f2,rd⟩:=h2;refine wH (RR:=λacc C=>compPost (model X.prog X.w) X.A X.xe (some (assign (.Name x pos') X.env)) (λ_ s'=>SP X pins D .next s') acc C) (Q:=λx H1=>oR i x σ H1 D.nx) ok hc I2 T st2 f2 hcl1 hcl2 hg ht he rd ?_;intro E C s' H' m hC J' fC hm q;have Vn:C≠X.env.locals:=abO (aah I2.lt hC);have hCc:∀x c,X.env.cells.lookup x=some c->c≠C:=λx c e z=>by
  obtain⟨v,q'⟩:=I2.cell x c e;exact absurd (aah q'.lt (by rw[z];exact hC)) (aa0 _)
 refine b6 (show wpAny _ X.A (assign (.Name x pos') X.env (.ref E)) (λ_ s''=>(∃Ae Ia,Inv X pins Ae Ia s''/\D.nx Ae Ia/\Ia C=none)/\∃m,s''.heap.Ns C m) X.xe s' from ?_) λ_ s'' ⟨⟨Ae,Ia,T9,Xb,Ua⟩,Xc,LP⟩=>?_
 ·refine wpAny_assign_Name (tu J' hN hx hl (show RelV (.ref E) (.ref E) from rfl) (λs'' T9 ⟨a,Xd,ha⟩=>⟨⟨_,H',T9,q,fC⟩,m,?_⟩) hf)
  refine hm.sameBut Xd ?_
  rcases ha with z|z
  ·rw[z];exact Vn
  ·exact λw=>hCc _ _ z w.symm
 ·refine⟨Xc,LP,λh' hs'=>⟨Ae,Ia,?_,Xb⟩⟩;refine T9.turned (t':=s''.toks) (λb o hb e=>hs'.extBut b o hb e) Ua Vn (.inr (aay I2.sz hC)) hCc λp hp z=>?_;exact absurd (aah (aaf (I2.pin p hp).1) (by rw[z];exact hC)) (aa0 _)
end
theorem Inv.Ah{X:Cx}{pins:List (Addr×Obj)}{σ:St}{H:Hp}{s:Shared}{h':Heap}{t':Nat}{ch:List Addr}(I:Inv X pins σ H s)(hf:∀b∈ch,pF X pins H b)
  (k:∀b o,b∉ch->s.heap.get? b=some o->h'.get? b=some o):Inv X pins σ H { s with heap:=h',toks:=t' }:=by
 have O8:∀b u,H b=some u->b∉ch:=λb u e z=>by rw[(hf b z).1]at e;cases e
 refine I.step (g':=s.gens) (d':=s.drawn) (ch:=ch) (λb hb=>?_) (λb o _ _ hc e _=>k b o hc e) (λb o _ _ hc e _=>⟨o.slots,k b o hc e⟩) (λ_ _ _ _ n=>n)
  (λb o hc e=>⟨o,k b o hc e⟩) (λ_ _ e=>e) (λ_ _ _ e=>e) (λb ps e=>⟨#[],by rw[e];simp⟩) (λm hm=>?_) (λb u e=>?_) I.bare
 ·exact⟨(hf b hb).2.2.2.1,(hf b hb).2.1,(hf b hb).2.2.2.2.1,(hf b hb).2.2.2.2.2⟩
 ·obtain⟨o,es,ep,ho,r⟩:=hm;exact⟨o,es,ep,k _ o (λz=>(hf _ z).2.1 rfl) ho,r⟩
 ·refine(I.hok b u e).stay (λc v hc q=>k c v ?_ q) (λ_ q=>q) λ_ _ q=>q
  rcases hc with z|z
  ·rw[z];exact O8 b u e
  ·exact O8 c _ z
def P9(K:Frag)(a:Addr):It :=
 ⟨λi H=>∃xs x,gA K H a xs/\xs[i]?=some x,λi H x H'=>∃p v,H p=none/\x=.ref p/\H'=upd H p (.tup [.int i,v])/\∀xs,gA K H a xs->xs[i]?=some v,λi H=>∃xs,gA K H a xs/\xs.length<=i⟩
theorem BZ{P:Program}{w:World}{K:Frag}{es:List Expr}{k:Nat}{pos:Pos}(a e it:Addr)(hne:e≠it) :
  Turn P w K (.Tuple es k pos) (P9 K a) [e,it] e (λi h=>(∃old,IsEnum h e it i old)/\h.IsListIter it a i) where
 mem:=by simp
 obj:=λi h st b hb=>by
  obtain⟨⟨old,he⟩,⟨o,e2,c,d⟩⟩:=st
  rcases aao.mp hb with z|z
  ·subst z;exact⟨_,he,λv z=>nomatch z⟩
  ·rw[aai.mp z];exact⟨o,e2,λv z=>by rw[d]at z;cases z⟩
 keep:=λi h h' st k=>⟨let ⟨old,he⟩:=st.1;⟨old,k e (by simp) _ he⟩,st.2.at λo e=>k it (by simp) o e⟩
 item:=by
  intro X hP hw hK hc i pins s σ H E I hf st hg;subst hP hw hK;obtain⟨xs,x,hq,hx⟩:=hg;obtain⟨its,rv,p,hz⟩:=I.list hq;obtain⟨u,hu,ru⟩:=rv.get hx;obtain⟨⟨old,he⟩,hit⟩:=st;have hei:e<s.heap.objs.size:=aaf he;have Xe:it<s.heap.objs.size:=by obtain⟨_,y,_⟩:=hit;exact aaf y
  refine wpAny_pyNext_enum_item he hit p.isList (x:=u) (by simpa using hu) hne λh' ho Ub hT hsz hk=>?_;refine⟨_,rfl,?_⟩;refine wpAny_letOwnedTupleGo_enum ho λh2 Xf hs2=>?_;have hT2:h2.get? s.heap.objs.size=some { cls:=.type "tuple",data:=.seq [.int i s.toks,u].toArray }:=hs2.extBut _ _ (abO hei) hT;have I1:Inv X pins σ H { s with heap:=h2,toks:=s.toks+1 }:=I.Ah (ch:=[e,it]) hf λb o hb q=>by
   have h1:b≠e:=λz=>hb (by simp[z]);have h2:b≠it:=λz=>hb (by simp[z]);exact hs2.extBut b o h1 (hk b o h1 h2 q)
  have hn:H s.heap.objs.size=none:=I.hok.fresh (aaa _);have I2:Inv X pins σ (upd H s.heap.objs.size (.tup [.int i,x])) { s with heap:=h2,toks:=s.toks+1 }:=by
   have un:Un X.fs [] H (upd H s.heap.objs.size (.tup [.int i,x])) s.heap s.heap:=Un.laid (λb u q=>q) (aaa _) hn;refine⟨I1.ok,I1.os,I1.bare,?_,I1.loc,I1.cell,?_,λy c q=>?_,λp hp=>?_,λb o q=>?_,I1.len⟩
   ·refine⟨I1.base.keep,I1.base.slot,λb o q n hx=>?_,I1.base.there,λb ys q=>?_,λb o ys q=>?_,λb ps q=>?_⟩
    ·have hlt:b<s.heap.objs.size:=aah (aaf q) I.sz;rw[ao (aam hlt)];exact I1.base.free b o q n hx
    ·rw[ao (aI (I1.base.tups b ys q) hn)];exact I1.base.tups b ys q
    ·rw[ao (aI (I1.base.frzs b o ys q) hn)];exact I1.base.frzs b o ys q
    ·obtain⟨more,z⟩:=I1.base.sH b ps q;exact⟨more,by rw[ao (aI z hn)];exact z⟩
   ·rw[ao (aam I.lt)];exact I1.free
   ·obtain⟨v,z⟩:=I.cell y c q;rw[ao (aam z.lt)];exact I1.gX y c q
   ·obtain⟨q1,q2,q3⟩:=I1.pin p hp;refine⟨q1,?_,q3⟩;rw[ao (aam (aaf (I.pin p hp).1))];exact q2
   ·by_cases hb:b=s.heap.objs.size
    ·subst hb;rw[aO]at q;cases q;exact⟨by show 2<=sizeLine;decide,[.int i s.toks,u],.cons ⟨_,rfl⟩ #[ru],_,hT2,rfl,_,rfl⟩
    ·rw[ao hb]at q;exact(I1.hok b o q).stay (λc v _ z=>z) (λc z=>by rw[ao (aI z hn)];exact z) λc ys z=>by rw[ao (aI z hn)];exact z
  refine⟨.ref s.heap.objs.size,_,I2,rfl,⟨s.heap.objs.size,x,hn,rfl,rfl,λys hy=>by rw[I.vX hy hq];exact hx⟩,⟨⟨_,by simpa using Xf⟩,?_⟩,λb hb=>?_⟩
  ·exact Ub.at λo y=>(hs2.2 it hne.symm).trans y
  ·have hlt:b<s.heap.objs.size:=by
    rcases aao.mp hb with z|z
    ·rw[z];exact hei
    ·rw[aai.mp z];exact Xe
   rw[ao (aam hlt)];exact(hf b hb).1
 done:=by intro X hP hw hK hc i pins s σ H E I hf st hg;subst hP hw hK;obtain⟨xs,hq,hx⟩:=hg;obtain⟨its,rv,p,hz⟩:=I.list hq;obtain⟨⟨old,he⟩,hit⟩:=st;have hl:=rv.length;exact wpAny_pyNext_enum_end (I.ok.hd hc) he hit p.isList (by simp;omega) λh' eb=>⟨rfl,I.Ah (t':=s.toks) (ch:=[e,it]) hf λb o hb q=>eb b o (λz=>hb (by simp[z])) q⟩
 self:=λ_ _ _ _ _ st h=>let ⟨_,he⟩:=st.1;wpAny_pyIter_enum he h
def Qa(K:Frag)(ta:TA):TI:=λσ H R=>ta σ H λvs H1=>∃a,vs=[.ref a]/\(∃xs,gA K H1 a xs)/\R (P9 K a) H1
theorem Ib{k:Nat}(hg:Gl X "enumerate")(hm:X.mg "enumerate" = none)(ha:PA X [a] ta)(hs:starEach [a] X.env=[(false,eval a X.env)]) :
  PI X (.Tuple es k tpos) (.Call (.Name "enumerate" p) [a] [] pos) (Qa X.K ta):=by
 intro pins s σ H R I h;refine Call_ (gg I hg hm boot_enumerate (aaJ (b6 (ha pos pins s σ H _ I h) λus s1 aJ=>?_) hs rfl));obtain⟨vs,H1,I1,r1,q1⟩:=aJ;obtain⟨l,e,⟨xs,hq⟩,q⟩:=q1;subst e;cases r1 with
 |cons r rr=>
  cases rr;cases r;obtain⟨its,rv,pl,hz⟩:=I1.list hq;refine call_enumerate_list pl.isList λh' he hit hsz hk=>?_;have I2:Inv X pins σ H1 { s1 with heap:=h' }:=I1.kept (t':=s1.toks) hk;refine wpAny_pyIter_enum (s:={ s1 with heap:=h' }) he ?_;refine⟨_,[s1.heap.objs.size+1,s1.heap.objs.size],_,_,H1,rfl,I2,BZ l _ _ (abO (aaP _)),⟨⟨_,by simpa using he⟩,hit⟩,λb hb=>?_,q⟩;have hb':s1.heap.objs.size<=b:=by
   rcases aao.mp hb with z|z
   ·rw[z];exact aaV _
   ·rw[aai.mp z];exact aaa _
  exact I1.CZ hb' (I1.hok.fresh hb')
end L2
end
section
namespace L2
open PySem PySem.W PyProof.Rows
namespace lX
section
variable {O:KeyOrd} {key:Nat->O.α} {N:Nat} {cmp:Nat->Nat->(Bool->Shared->Prop)->Shared->Prop} {s:Shared}
def K(O:KeyOrd)(key:Nat->O.α)(p:Array Nat)(i:Nat):O.α:=key (p.getD i 0)
def Up(O:KeyOrd)(key:Nat->O.α)(p:Array Nat)(k:Nat):Prop:=∀i j,i<=j->j<k->O.kle (K O key p i) (K O key p j)
def Down(O:KeyOrd)(key:Nat->O.α)(p:Array Nat)(k:Nat):Prop:=∀i j,i<=j->j<k->O.kle (K O key p j) (K O key p i)
def Ic(O:KeyOrd)(key:Nat->O.α)(N:Nat)(cmp:Nat->Nat->(Bool->Shared->Prop)->Shared->Prop)(s:Shared):Prop :=
 ∀i j (C:Bool->Shared->Prop),i<N->j<N->C (O.blt (key i) (key j)) s->cmp i j C s
def Ent(N:Nat)(p:Array Nat):Prop:=p.size=N/\0<N/\∀x∈p.toList,x<N
theorem Ent.at{p:Array Nat}(h:Ent N p)(i:Nat):p.getD i 0<N:=by
 by_cases hi:i<p.size
 ·have e:p.getD i 0=p[i]:=by simp[Array.getD,hi]
  rw[e];exact h.2.2 _ (by simp)
 ·have e:p.getD i 0=0:=by simp[Array.getD,hi]
  rw[e];exact h.2.1
theorem Ent.perm{p q:Array Nat}(h:Ent N p)(e:q.Perm p):Ent N q :=
 ⟨e.size_eq.trans h.1,h.2.1,λx hx=>h.2.2 x ((Array.perm_iff_toList_perm.mp e).mem_iff.mp hx)⟩
theorem K_congr{p q:Array Nat}{i j:Nat}(h:p[i]?=q[j]?):K O key p i=K O key q j:=by
 unfold K;rw[Array.getD_eq_getD_getElem?,Array.getD_eq_getD_getElem?,h]
theorem K_bubble{p:Array Nat}{src d:Nat}(hs:src<p.size)(hd:d<=src)(k:Nat) :
  K O key (bubble p src d) k=if k=src-d then K O key p src else if src-d<k/\k<=src then K O key p (k-1) else K O key p k:=by
 have e:=getElem?_bubble hs d hd k
 by_cases h1:k=src-d
 ·rw[Z7 h1]at e |-;exact K_congr e
 ·rw[Z8 h1]at e |-
  by_cases h2:src-d<k/\k<=src
  ·rw[Z7 h2]at e |-;exact K_congr e
  ·rw[Z8 h2]at e |-;exact K_congr e
theorem Dq{p:Array Nat}{i j:Nat}(hj:j<=p.size)(k:Nat):K O key (kas_rev p i j) k=if i<=k/\k<j then K O key p (i+j-1-k) else K O key p k:=by
 have e:=getElem?_mirror_all (i:=i) hj k
 by_cases h1:i<=k/\k<j
 ·rw[Z7 h1]at e |-;exact K_congr e
 ·rw[Z8 h1]at e |-;exact K_congr e
theorem qv{p:Array Nat}{i j:Nat}(hj:j<=p.size)(h:∀k,i<=k->k<j->K O key p k=K O key p (j-1))(k:Nat):K O key (kas_rev p i j) k=K O key p k:=by
 rw[Dq hj]
 split
 ·rw[h _ (by omega) (by omega),h k (by omega) (by omega)]
 ·rfl
theorem wI{p:Array Nat}{m:Nat}(h:∀t,1<=t->t<m->O.kle (K O key p (t-1)) (K O key p t)):Up O key p m:=by
 intro i j hij hj
 induction j with
 |zero=>
  have:i=0:=by omega
  subst this;exact abj _
 |succ j ih=>
  by_cases e:i=j+1
  ·subst e;exact abj _
  ·exact acg (ih (by omega) (by omega)) (h (j+1) (by omega) hj)
theorem LQ(hA:Ic O key N cmp s){p:Array Nat}(he:Ent N p):∀(f n:Nat) {Q:Nat->Shared->Prop},1<=n ->
  (∀m,n<=m->m<=n+f->(∀t,n<=t->t<m->O.kle (K O key p (t-1)) (K O key p t))->(m<n+f->O.klt (K O key p m) (K O key p (m-1)))->Q m s)->(kas_asc p f n).kasWp cmp Q s
 |0,n,Q,hn,h=>h n (aaa _) (aaa _) (λt h1 h2=>by omega) λq=>by omega
 | f+1,n,Q,hn,h=>by
  show cmp _ _ _ s;refine hA _ _ _ (he.at _) (he.at _) ?_;cases hb:O.blt (key (p.getD n 0)) (key (p.getD (n-1) 0)) with
  |true=>exact h n (aaa _) (by omega) (λt h1 h2=>by omega) λ_=>hb
  |false=>
   show (kas_asc p f (n+1)).kasWp cmp Q s;refine LQ hA he f (n+1) (by omega) λm h1 h2 h3 h4=>h m (by omega) (by omega) (λt t1 t2=>?_) λq=>h4 (by omega)
   by_cases e:t=n
   ·subst e;exact hb
   ·exact h3 t (by omega) t2
theorem Ai(hA:Ic O key N cmp s):∀(f:Nat) (p:Array Nat) (n q:Nat) {Q:Array Nat×Nat×Nat->Shared->Prop},Ent N p->1<=n->n+f<=N->q+1<=n->Down O key p n->(∀i,n-(q+1)<=i->i<n->K O key p i=K O key p (n-1)) ->
  (∀p' n' q',p'.Perm p->Ent N p'->1<=n'->n<=n'->n'<=n+f->q'+1<=n'->Down O key p' n'->(∀i,n'-(q'+1)<=i->i<n'->K O key p' i=K O key p' (n'-1))->Q (p',n',q') s)->(kas_desc f p n q).kasWp cmp Q s
 |0,p,n,q,Q,he,hn,hN,hq,hd,hl,h=>h p n q (abV _) he hn (aaa _) (aaa _) hq hd hl
 | f+1,p,n,q,Q,he,hn,hN,hq,hd,hl,h=>by
  show cmp _ _ _ s;refine hA _ _ _ (he.at _) (he.at _) ?_;cases hb:O.blt (key (p.getD n 0)) (key (p.getD (n-1) 0)) with
  |true=>
   have hlt:O.klt (K O key p n) (K O key p (n-1)):=hb;have hd1:Down O key p (n+1):=λi j hij hj=>by
    by_cases e:j=n
    ·subst e
     by_cases e2:i=j
     ·subst e2;exact abj _
     ·exact acg (ab4 hlt) (hd i (j-1) (by omega) (by omega))
    ·exact hd i j hij (by omega)
   show (if q>0 then kas_desc f (kas_rev p (n-(q+1)) n) (n+1) 0 else kas_desc f p (n+1) 0).kasWp cmp Q s
   by_cases Vo:q>0
   ·rw[Z7 Vo]
    have ep:(kas_rev p (n-(q+1)) n).Perm p:=mirror_perm _ _ _ _;have eK:∀k,K O key (kas_rev p (n-(q+1)) n) k=K O key p k:=λk=>qv (by rw[he.1];omega) hl k;refine Ai hA f _ (n+1) 0 (he.perm ep) (by omega) (by omega) (by omega) (λi j hij hj=>by rw[eK,eK];exact hd1 i j hij hj) (λi h1 h2=>?_) λp' n' q' g1 g2 g3 g4 g5 g6 g7 g8=>h p' n' q' (g1.trans ep) g2 g3 (by omega) (by omega) g6 g7 g8;have:i=n:=by omega
    subst this;rfl
   ·rw[Z8 Vo]
    refine Ai hA f p (n+1) 0 he (by omega) (by omega) (by omega) hd1 (λi h1 h2=>?_) λp' n' q' g1 g2 g3 g4 g5 g6 g7 g8=>h p' n' q' g1 g2 g3 (by omega) (by omega) g6 g7 g8;have:i=n:=by omega
    subst this;rfl
  |false=>
   show cmp _ _ _ s;refine hA _ _ _ (he.at _) (he.at _) ?_;cases hc:O.blt (key (p.getD (n-1) 0)) (key (p.getD n 0)) with
   |true=>exact h p n q (abV _) he hn (aaa _) (by omega) hq hd hl
   |false=>
    have heq:K O key p n=K O key p (n-1):=O.total _ _ hb hc;show (kas_desc f p (n+1) (q+1)).kasWp cmp Q s;refine Ai hA f p (n+1) (q+1) he (by omega) (by omega) (by omega) (λi j hij hj=>?_) (λi h1 h2=>?_) λp' n' q' g1 g2 g3 g4 g5 g6 g7 g8=>h p' n' q' g1 g2 g3 (by omega) (by omega) g6 g7 g8
    ·by_cases e:j=n
     ·subst e
      by_cases e2:i=j
      ·subst e2;exact abj _
      ·rw[heq];exact hd i (j-1) (by omega) (by omega)
     ·exact hd i j hij (by omega)
    ·show K O key p i=K O key p (n+1-1)
     rw[Nat.add_sub_cancel]
     by_cases e:i=n
     ·subst e;rfl
     ·rw[heq];exact hl i (by omega) (by omega)
theorem Dr(hA:Ic O key N cmp s){p:Array Nat}{n nrem:Nat}(he:Ent N p)(h1:1<=n)(hn:n<=nrem)(hr:nrem<=N)(hd:Down O key p n)
  (h:∀m p',p'.Perm p->Ent N p'->1<=m->m<=nrem->Up O key p' m->Q (m,p') s):(kas_tail3 n nrem p).kasWp cmp Q s:=by
 unfold kas_tail3;rw[abW];have ep:(kas_rev p 0 n).Perm p:=mirror_perm _ _ _ _;have hz:n<=p.size:=by rw[he.1];omega
 refine LQ hA (he.perm ep) _ _ h1 λm a1 a2 a3 _=>h m _ ep (he.perm ep) (by omega) (by omega) (wI λt t1 t2=>?_)
 by_cases e:t<n
 ·rw[Dq hz,Dq hz,Z7 (by omega),Z7 (by omega)];exact hd _ _ (by omega) (by omega)
 ·exact a3 t (by omega) t2
theorem tM(hA:Ic O key N cmp s){p:Array Nat}{n nrem:Nat}(he:Ent N p)(hn:n+1<=nrem)(hr:nrem<=N)(hd:Down O key p (n+1))
  (h:∀m p',p'.Perm p->Ent N p'->1<=m->m<=nrem->Up O key p' m->Q (m,p') s):(kas_descPart n nrem p).kasWp cmp Q s:=by
 unfold kas_descPart;rw[abW];have Qc:∀i,n+1-(0+1)<=i->i<n+1->K O key p i=K O key p (n+1-1):=λi h1 h2=>by
  have e:i=n:=by omega
  subst e;rfl
 refine Ai hA (nrem-(n+1)) p (n+1) 0 he (by omega) (by omega) (by omega) hd Qc λp' n' q' g1 g2 g3 g4 g5 g6 g7 g8=>?_;show (if q'>0 then kas_tail3 n' nrem (kas_rev p' (n'-(q'+1)) n') else kas_tail3 n' nrem p').kasWp cmp Q s
 by_cases hq:q'>0
 ·rw[Z7 hq];have ep:(kas_rev p' (n'-(q'+1)) n').Perm p':=mirror_perm _ _ _ _;have eK:∀k,K O key (kas_rev p' (n'-(q'+1)) n') k=K O key p' k:=λk=>qv (by rw[g2.1];omega) g8 k;exact Dr hA (g2.perm ep) g3 (by omega) hr (λi j hij hj=>by rw[eK,eK];exact g7 i j hij hj) λm p'' a1 a2 a3 a4 a5=>h m p'' ((a1.trans ep).trans g1) a2 a3 a4 a5
 ·rw[Z8 hq];exact Dr hA g2 g3 (by omega) hr g7 λm p'' a1 a2 a3 a4 a5=>h m p'' (a1.trans g1) a2 a3 a4 a5
theorem LR(hA:Ic O key N cmp s){p:Array Nat}{nrem:Nat}(he:Ent N p)(h1:1<=nrem)(hr:nrem<=N)
  (h:∀m p',p'.Perm p->Ent N p'->1<=m->m<=nrem->Up O key p' m->Q (m,p') s):(kas_count nrem p).kasWp cmp Q s:=by
 unfold kas_count;rw[abW];refine LQ hA he _ _ (aaa _) λn a1 a2 a3 a4=>?_;have hup:Up O key p n:=wI λt t1 t2=>a3 t t1 t2
 by_cases e1:(n==nrem)=true
 ·rw[Z7 e1];exact h n p (abV _) he a1 (by omega) hup
 ·rw[Z8 e1]
  have Vp:n≠nrem:=λz=>e1 (by simp[z]);have hlt:O.klt (K O key p n) (K O key p (n-1)):=a4 (by omega)
  by_cases e2:n>1
  ·rw[Z7 e2]
   show cmp _ _ _ s;refine hA _ _ _ (he.at _) (he.at _) ?_;cases hc:O.blt (key (p.getD 0 0)) (key (p.getD (n-1) 0)) with
   |true=>exact h n p (abV _) he a1 (by omega) hup
   |false=>
    have hle:O.kle (K O key p (n-1)) (K O key p 0):=hc;have ep:(kas_rev p 0 n).Perm p:=mirror_perm _ _ _ _;have hall:∀k,0<=k->k<n->K O key p k=K O key p (n-1):=λk _ hk=>
     KeyOrd.kle_antisymm (hup k (n-1) (by omega) (by omega)) (acg hle (hup 0 k (by omega) hk))
    have eK:∀k,K O key (kas_rev p 0 n) k=K O key p k:=λk=>qv (by rw[he.1];omega) hall k;show (kas_descPart n nrem (kas_rev p 0 n)).kasWp cmp Q s;refine tM hA (he.perm ep) (by omega) hr (λi j hij hj=>?_) λm p' b1 b2 b3 b4 b5=>h m p' (b1.trans ep) b2 b3 b4 b5;rw[eK,eK]
    by_cases ej:j=n
    ·subst ej
     by_cases ei:i=j
     ·subst ei;exact abj _
     ·rw[hall i (by omega) (by omega)];exact ab4 hlt
    ·rw[hall i (by omega) (by omega),hall j (by omega) (by omega)];exact abj _
  ·rw[Z8 e2]
   have en:n=1:=by omega
   subst en;refine tM hA he (by omega) hr (λi j hij hj=>?_) λm p' b1 b2 b3 b4 b5=>h m p' b1 b2 b3 b4 b5
   by_cases ei:i=j
   ·subst ei;exact abj _
   ·have:i=0/\j=1:=by omega
    obtain⟨rfl,rfl⟩:=this;exact ab4 hlt
theorem yZ(hA:Ic O key N cmp s){p:Array Nat}{k:Nat}(he:Ent N p)(hs:Up O key p k):∀(f l r:Nat) {Q:Nat->Shared->Prop},l<=r->r<=k->r-l<=f ->
  (∀i,i<l->O.kle (K O key p i) (K O key p k))->(∀i,r<=i->i<k->O.klt (K O key p k) (K O key p i)) ->
  (∀l',l'<=k->(∀i,i<l'->O.kle (K O key p i) (K O key p k))->(∀i,l'<=i->i<k->O.klt (K O key p k) (K O key p i))->Q l' s)->(kas_place p k f l r).kasWp cmp Q s
 | 0,l,r,Q,hlr,hrk,hf,hlo,hhi,h=>by
  have:l=r:=by omega
  subst this;exact h l hrk hlo hhi
 | f+1,l,r,Q,hlr,hrk,hf,hlo,hhi,h=>by
  show (if l≥r then KasT.ret l else _).kasWp cmp Q s
  by_cases hge:l≥r
  ·rw[Z7 hge]
   have:l=r:=by omega
   subst this;exact h l hrk hlo hhi
  ·rw[Z8 hge]
   show cmp _ _ _ s;refine hA _ _ _ (he.at _) (he.at _) ?_;cases hb:O.blt (key (p.getD k 0)) (key (p.getD ((l+r)/2) 0)) with
   |true=>show (kas_place p k f l ((l+r)/2)).kasWp cmp Q s;exact yZ hA he hs f l ((l+r)/2) (by omega) (by omega) (by omega) hlo (λi h1 h2=>KeyOrd.klt_of_klt_of_kle hb (hs _ _ h1 h2)) h
   |false=>show (kas_place p k f ((l+r)/2+1) r).kasWp cmp Q s;exact yZ hA he hs f ((l+r)/2+1) r (by omega) (by omega) (by omega) (λi h1=>acg (hs i ((l+r)/2) (by omega) (by omega)) hb) hhi h
theorem Qd(hA:Ic O key N cmp s):∀(f:Nat) (p:Array Nat) (k:Nat) {Q:Array Nat->Shared->Prop},Ent N p->k+f<=N->Up O key p k->(∀p',p'.Perm p->Up O key p' (k+f)->Q p' s)->(kas_bin f p k).kasWp cmp Q s
 |0,p,k,Q,he,hk,hs,h=>h p (abV _) hs
 | f+1,p,k,Q,he,hk,hs,h=>by
  show ((kas_place p k k 0 k).bind λl=>kas_bin f (bubble p k (k-l)) (k+1)).kasWp cmp Q s;rw[abW];refine yZ hA he hs k 0 k (by omega) (by omega) (by omega) (λi hi=>by omega) (λi h1 h2=>by omega) λl hl hlo hhi=>?_;have ep:(bubble p k (k-l)).Perm p:=bubble_perm _ _ _;have hks:k<p.size:=by rw[he.1];omega
  refine Qd hA f _ (k+1) (he.perm ep) (by omega) (λi j hij hj=>?_) λp' a1 a2=>h p' (a1.trans ep) (by rwa [show k+(f+1)=k+1+f by omega]);rw[K_bubble hks (by omega),K_bubble hks (by omega),show k-(k-l)=l by omega]
  repeat' split
  all_goals first
   |(exfalso;omega)
   |exact abj _
   |exact hlo _ (by omega)
   |exact ab4 (hhi _ (by omega) (by omega))
   |exact hs _ _ (by omega) (by omega)
theorem Qe(hA:Ic O key N cmp s)(h1:1<=N)(h:∀p,p.Perm (toArray (List.range N))->Up O key p N->Q p s):(kas_sort N).kasWp cmp Q s:=by
 unfold kas_sort;rw[abW];have he:Ent N (toArray (List.range N)):=⟨by simp,h1,λx hx=>by simpa using hx⟩;refine LR hA he h1 (aaa _) λm p a1 a2 a3 a4 a5=>?_;show (if m<N then kas_bin (N-max m 1) p (max m 1) else KasT.ret p).kasWp cmp Q s;have em:max m 1=m:=by omega
 by_cases hlt:m<N
 ·rw[Z7 hlt,em];exact Qd hA _ p m a2 (by omega) a5 λp' b1 b2=>h p' (b1.trans a1) (by rwa [show m+(N-m)=N by omega]at b2)
 ·rw[Z8 hlt]
  have:m=N:=by omega
  subst this;exact h p a1 a5
end
end lX
namespace lX
theorem b9{α:Type}(l:List α)(d:α):(List.range l.length).map (λi=>l.getD i d)=l:=by
 refine ach (by simp) λi h1 h2=>?_;simp[h2]
section
variable {prog:Program} {w:World} {A:Around} {E:Value->Shared->Prop} {s:Shared}
def tN(prog:Program)(w:World)(A:Around)(O:KeyOrd)(key:Nat->O.α)(vs:List Value)(s6:Shared):Prop :=
 wpAny (model prog w) A (keyKind' vs.toArray) (λκ s'=>s'=s6/\Ic O key vs.length (kas_ask prog w A κ vs) s6) (λ_ _=>False) s6
structure Ds (O:KeyOrd) (key:Nat->O.α) (n:Nat) (p:List Nat):Prop where
 perm:p.Perm (List.range n)
 up:(p.map key).Pairwise O.kle
theorem Ie{n:Nat}{p:Array Nat}(h1:p.Perm (toArray (List.range n)))(h2:Up O key p n):Ds O key n p.toList:=by
 have hp:p.toList.Perm (List.range n):=by simpa using Array.perm_iff_toList_perm.mp h1
 refine⟨hp,abq.mpr λi j hi hj hij=>?_⟩;have hz:p.toList.length=n:=by rw[hp.length_eq,acz]
 rw[Z4]at hi hj;have q:=h2 i j (abv hij) (by omega);have ei:p.getD i 0=p.toList[i]:=by simp at hi;simp[Array.getD,hi]
 have ej:p.getD j 0=p.toList[j]:=by simp at hj;simp[Array.getD,hj]
 unfold K at q;rw[ei,ej]at q;rw[abP,abP];exact q
theorem Dt{n:Nat}(ho:s.heap.get? a=some (seqObj "list" vs.toArray n))(h64:vs.length<64)
  (hk:2<=vs.length->∀h6:Heap,(∀b o,b≠a->s.heap.get? b=some o->h6.get? b=some o)->tN prog w A O key vs { s with heap:=h6 })
  (h:∀p,Ds O key vs.length p->P (.done (.ret .none)) { s with heap:=sortedHeap s.heap a vs (p.map λi=>vs.getD i Value.none).toArray }) :
  wpAny (model prog w) A (Builtin.«list.sort» ⟨[.ref a],[]⟩) P E s:=by
 have alt:a<s.heap.objs.size:=aaf ho;have big:vs.length<=sizeLine:=by rw[aaT];omega
 rw[list_sort_plain];apply ZZ;apply listItems_at ho rfl;apply ZZ;refine listUpdate_at ho rfl ?_ (by rw[aae];exact big) (abb _);have q1:=get?_update_seq ho (λ_=>(#[]:Array Value));apply ZZ;apply seqEpoch_at q1 rfl;apply ZZ;refine wpAny_newTuple ?_ (by show vs.length<=sizeLine;exact big);apply ZZ;refine wpAny_newList ?_ (abb _);apply aa6;generalize hN:((s.heap.update a (Obj.mapSeq λ_=>(#[]:Array Value))).push (seqObj "tuple" vs.toArray 0)).push (seqObj "list" #[] 0)=h6;have Qf:∀b o,b≠a->s.heap.get? b=some o->h6.get? b=some o:=λb o hb e=>by
  rw[<-hN];refine Z3 _ (Z3 _ ?_);rw[Heap.get?_update_ne _ _ _ _ hb];exact e
 have q6:h6.get? a=some (seqObj "list" #[] (if (#[]:Array Value).size==vs.toArray.size then n else n+1)):=by rw[<-hN];exact Z3 _ (Z3 _ q1)
 have eS:∀out,h6.update a (Obj.mapSeq λ_=>out)=sortedHeap s.heap a vs out:=λout=>by rw[<-hN];rfl
 show wpAny (model prog w) A _ P E { s with heap:=h6 };dsimp only
 by_cases h2:vs.toArray.size<2
 ·rw[Z7 h2,Z7 h2]
  apply ZZ;apply Z6;rw[StateT.run_pure];apply ZZ;apply Z6;dsimp only;have eo:(arrOf (SortSt.mk' general' (vs.toArray.zip vs.toArray) #[] 7 none)).map (·.2)=vs.toArray:=by show (vs.toArray.zip vs.toArray).map (·.2)=vs.toArray;apply Array.toList_inj.mp;simp[List.map_snd_zip]
  rw[eo];apply ZZ;apply seqEpoch_at q6 rfl;apply ZZ;refine listUpdate_at q6 rfl ?_ (abb _) (by show vs.toArray.size<=_;rw[aae];omega);have hb:((if (#[]:Array Value).size==vs.toArray.size then n else n+1) != (if (#[]:Array Value).size==vs.toArray.size then n else n+1))=false:=by simp
  rw[eS];simp only[hb,false_eq_true,if_false];apply Z6;have g:=h (List.range vs.length) ⟨abp _,?_⟩
  ·rw[b9]at g;exact g
  ·rw[aae]at h2;refine abq.mpr λi j hi hj hij=>?_;simp at hi hj;omega
 ·rw[Z8 h2,Z8 h2]
  rw[aae]at h2;have ask:=hk (by omega) h6 Qf;apply ZZ;refine aa3 ask (λκ s0 hκ=>?_) λ_ _ x=>x.elim;obtain⟨rfl,Xg⟩:=hκ;apply ZZ;refine aa3 (kat_run (Q:=λst' s'=>s'={ s with heap:=h6 }/\∃p:Array Nat,Ds O key vs.length p.toList/\p.size=vs.length/\(arrOf st').map (·.2)=(p.toList.map λi=>vs.getD i Value.none).toArray/\failedOf st'=none)
   (G:=λp s'=>s'={ s with heap:=h6 }/\Ds O key vs.length p.toList) rfl (by omega) h64 (λp st' s' a1 a2 a3 a4=>⟨a4.1,p,a4.2,a1,kat_snds rfl a2,a3⟩)
   (Qe Xg (by omega) λp b1 b2=>⟨rfl,Ie b1 b2⟩)) ?_ λ_ _ x=>x
  rintro⟨⟨⟩,st'⟩ s' ⟨rfl,p,op,pz,er,ef⟩;dsimp only;rw[er];apply ZZ;apply seqEpoch_at q6 rfl;apply ZZ;refine listUpdate_at q6 rfl ?_ (abb _) (by show (toArray _).size<=_;rw[aae,Z4,aax,pz];omega);have hb:((if (#[]:Array Value).size==vs.toArray.size then n else n+1) != (if (#[]:Array Value).size==vs.toArray.size then n else n+1))=false:=by simp
  rw[eS,ef];simp only[hb,false_eq_true,if_false];exact Z6 (h p.toList op)
theorem eB
  (h:wpAny (model prog w) A.in1 (collect x) (λvs s1=>vs.length<64/\∃key:Nat->O.α,(2<=vs.length->∀h6:Heap,(∀b o,s1.heap.get? b=some o->h6.get? b=some o)->tN prog w A.in1.in1 O key vs { s1 with heap:=h6 }) /\
   ∀p h',Ds O key vs.length p->(∀b o,s1.heap.get? b=some o->h'.get? b=some o)->(∃e,h'.get? s1.heap.objs.size=some (seqObj "list" (p.map λi=>vs.getD i Value.none).toArray e))->Q (.ref s1.heap.objs.size) { s1 with heap:=h' }) E s) :
  wpAny (model prog w) A (call (.builtin "sorted") [x]) Q E s:=by
 refine Calls.call_function_entry kind_sorted plain_sorted entry_sorted (args_sorted1 _) ?_;unfold Builtin.«sorted»;refine ZZ (m:=checkCount "sorted" 1 1 _) (Z6 ?_);apply ZZ;refine aa3 h (λvs s1 ⟨h64,key,hk,hq⟩=>?_) λ_ _ z=>z;have big:vs.length<=sizeLine:=by rw[aaT];omega
 apply ZZ;refine wpAny_newList ?_ big;have q:(s1.heap.push (seqObj "list" vs.toArray 0)).get? s1.heap.objs.size=some (seqObj "list" vs.toArray 0):=aaj _ rfl;apply ZZ;apply aa6;refine abz (s:={ s1 with heap:=s1.heap.push (seqObj "list" vs.toArray 0) }) slot_list_sort ⟨_,q,rfl⟩ entry_list_sort ?_ (args_list_sort _);refine Dt (key:=key) (s:={ s1 with heap:=s1.heap.push (seqObj "list" vs.toArray 0) }) q h64 (λh2 h6 k6=>?_) λp op=>⟨_,rfl,Z6 ⟨_,rfl,?_⟩⟩
 ·exact hk h2 h6 λb o e=>k6 b o (aam (aaf e)) (Z3 _ e)
 ·refine hq p _ op (λb o e=>?_) (sortedHeap_at q);rw[sortedHeap_old (aam (aaf e)) (by rw[size_push'];exact abK (aaf e))];exact Z3 _ e
end
def lG:KeyOrd where
 α:=Int
 blt:=λa b=>decide (a<b)
 irrefl:=λa=>by simp
 trans:=λa b c h1 h2=>by simp at *;omega
 negTrans:=λa b c h=>by simp at *;omega
 total:=λa b h1 h2=>by simp at *;omega
theorem lH{s6:Shared}{ns:List Int}(hI:IntsAre vs ns)(h2:2<=vs.length):tN prog w A lG (λi=>ns.getD i 0) vs s6:=by
 have at_:∀i,i<vs.length->∃t,vs.getD i Value.none=.int (ns.getD i 0) t:=by
  intro i hi
  induction hI generalizing i with
  |nil=>simp at hi
  |cons z t r ih=>
   cases i with
   |zero=>exact⟨t,by simp⟩
   |succ i=>
    by_cases hr:2<=1
    ·omega
    ·simp only[length_cons]at hi
     have aux:∀{vs:List Value} {ns:List Int},IntsAre vs ns->∀i,i<vs.length->∃t,vs.getD i Value.none=.int (ns.getD i 0) t:=by
      intro vs ns q
      induction q with
      |nil=>intro i hi;simp at hi
      |cons z t r ih=>
       intro i hi;cases i with
       |zero=>exact⟨t,by simp⟩
       |succ i=>simp only[length_cons]at hi;obtain⟨u,e⟩:=ih i (by omega);exact⟨u,by simpa using e⟩
     obtain⟨u,e⟩:=aux r i (by omega);exact⟨u,by simpa using e⟩
 obtain⟨v₁,v₂,rest,rfl⟩:∃v₁ v₂ rest,vs=v₁::v₂::rest:=by
  match vs,h2 with
  |v₁::v₂::rest,_=>exact⟨v₁,v₂,rest,rfl⟩
 unfold tN;rw[keyKind_ints hI];refine Z6 ⟨rfl,λi j C hi hj hc=>?_⟩;obtain⟨t,e1⟩:=at_ i hi;obtain⟨u,e2⟩:=at_ j hj;unfold kas_ask;rw[e1,e2,keyLt'_oneType];exact oneLt_int hc
theorem je:∀a,HT.lexLt a a=false
 |[]=>rfl
 |x::xs=>by rw[HT.fj,Z7 rfl];exact je xs
theorem gY:∀a b,HT.lexLt a b=false->HT.lexLt b a=false->a=b
 |[],[],_,_=>rfl
 |[],_::_,h,_=>by rw[HT.gC]at h;cases h
 |_::_,[],_,h=>by rw[HT.gC]at h;cases h
 | x::xs,y::ys,h1,h2=>by
  rw[HT.fj]at h1 h2
  by_cases e:x=y
  ·subst e;rw[Z7 rfl]at h1 h2;rw[gY xs ys h1 h2]
  ·rw[Z8 e]at h1;rw[Z8 (λz=>e z.symm)]at h2;simp at h1 h2;omega
theorem gZ:∀a b c,HT.lexLt a b=true->HT.lexLt b c=true->HT.lexLt a c=true
 |[],[],c,h,_=>by rw[HT.sL]at h;cases h
 |[],_::_,[],_,h=>by rw[HT.dZ]at h;cases h
 |[],_::_,_::_,_,_=>rfl
 |_::_,[],_,h,_=>by rw[HT.dZ]at h;cases h
 |_::_,_::_,[],_,h=>by rw[HT.dZ]at h;cases h
 | x::xs,y::ys,z::zs,h1,h2=>by
  rw[HT.fj]at h1 h2 |-
  by_cases e1:x=y
  ·subst e1
   rw[Z7 rfl]at h1
   by_cases e2:x=z
   ·subst e2;rw[Z7 rfl]at h2 |-;exact gZ xs ys zs h1 h2
   ·rw[Z8 e2]at h2 |-;exact h2
  ·rw[Z8 e1]at h1
   by_cases e2:y=z
   ·subst e2;rw[Z8 e1];exact h1
   ·rw[Z8 e2]at h2;simp at h1 h2;rw[Z8 (by omega)];simp;omega
theorem tO(a b c:List Int)(h:HT.lexLt a c=true):HT.lexLt a b=true\/HT.lexLt b c=true:=by
 cases h1:HT.lexLt a b with
 |true=>exact .inl rfl
 |false=>
  cases h2:HT.lexLt b c with
  |true=>exact .inr rfl
  |false=>
   cases h3:HT.lexLt b a with
   |true=>have:=gZ _ _ _ h3 h;rw[h2]at this;cases this
   |false=>rw[gY _ _ h1 h3]at h;rw[h2]at h;cases h
def lexOrd:KeyOrd where
 α:=List Int
 blt:=HT.lexLt
 irrefl:=je
 trans:=gZ
 negTrans:=tO
 total:=gY
section
variable {prog:Program} {w:World} {A:Around} {s:Shared}
theorem oW{b fin:Bool}:∀{us vs:List Value} {ns ms:List Int} (i:Nat),IntsAre us ns->IntsAre vs ms->(ns.length<ms.length↔fin=true)->us.length=ns.length ->
  Q (HT.lexLt ns ms) s->(ns.length=ms.length\/i=i)->(∀k,k<ns.length->k<ms.length->True)->(ns.length≠ms.length->True)->(fin=decide (ns.length<ms.length))->KatLex prog w A b fin Q (us.zip vs) i s
 | _,_,_,_,i,.nil,.nil,_,_,hq,_,_,_,hf=>by
  refine kat_nil ?_;rw[hf];exact hq
 | _,_,_,_,i,.nil,.cons _ _ _,_,_,hq,_,_,_,hf=>by
  refine kat_nil ?_;rw[hf];simpa [HT.gC] using hq
 | _,_,_,_,i,.cons _ _ _,.nil,_,_,hq,_,_,_,hf=>by
  refine kat_nil ?_;rw[hf];simpa [HT.dZ] using hq
 | _,_,_,_,i,.cons x t r,.cons y u r',h1,h2,hq,_,_,_,hf=>by
  refine kat_cons (wpAny_eqBool_int ?_);rw[HT.fj]at hq
  by_cases e:x=y
  ·subst e
   rw[Z7 rfl]at hq;rw[abg];refine kat_yes (oW (i+1) r r' ?_ ?_ hq (.inr rfl) (λ_ _ _=>trivial) (λ_=>trivial) ?_)
   ·simpa using h1
   ·simpa using h2
   ·rw[hf];simp
  ·rw[Z8 e]at hq
   rw[show (x==y)=false from aaD.mpr e];refine kat_no ?_;cases hb:(b&&i==0) with
   |true=>exact oneLt_int hq
   |false=>exact kat_one _ _ (PyProof.Rows.lt_int hq)
end
end lX
end L2
end
section
namespace L2
open PySem PySem.Spec PyProof.Rows
def Uc:Key->PyData
 |.inl i=>.int i
 |.inr x=>.str x
mutual
noncomputable def Den(K:Frag)(H:Hp):PyData->V->Prop
 |.none,v=>v=.non
 |.bool b,v=>v=.bl b
 |.int i,v=>v=.int i
 |.str x,v=>v=.str x
 |.list ds,v=>∃a xs,v=.ref a/\gA K H a xs/\dR K H ds xs
 |.tuple ds,v=>∃a xs,v=.ref a/\jP K H a xs/\dR K H ds xs
 |.dict kvs,v=>∃a ks,v=.ref a/\H a=some (.dK ks)/\mw K H kvs ks
noncomputable def dR(K:Frag)(H:Hp):List PyData->List V->Prop
 |[],xs=>xs=[]
 |d::ds,xs=>∃x r,xs=x::r/\Den K H d x/\dR K H ds r
noncomputable def mw(K:Frag)(H:Hp):List (PyData×PyData)->List (Key×V)->Prop
 |[],ks=>ks=[]
 |(k,d)::r,ks=>∃key x rest,ks=(key,x)::rest/\k=Uc key/\Den K H d x/\mw K H r rest
end
theorem yX.tup{K:Frag}{H H':Hp}{a:Addr}{xs:List V}(e:yX H H')(h:jP K H a xs):jP K H' a xs:=by
 rcases h with (h|⟨o,h⟩)|h
 ·exact .inl (.inl (e _ _ h))
 ·exact .inl (.inr ⟨o,e _ _ h⟩)
 ·exact .inr h
section
variable {K:Frag} {H H':Hp}
mutual
theorem Den.same(e:yX H H'):∀(d:PyData) (v:V),Den K H d v->Den K H' d v
 |.none,_,h=>by rw[Den]at h |-;exact h
 |.bool _,_,h=>by rw[Den]at h |-;exact h
 |.int _,_,h=>by rw[Den]at h |-;exact h
 |.str _,_,h=>by rw[Den]at h |-;exact h
 | .list ds,v,h=>by
  rw[Den]at h |-;obtain⟨a,xs,q1,q2,q3⟩:=h;exact⟨a,xs,q1,e.seq q2,dR.same e ds xs q3⟩
 | .tuple ds,v,h=>by
  rw[Den]at h |-;obtain⟨a,xs,q1,q2,q3⟩:=h;exact⟨a,xs,q1,e.tup q2,dR.same e ds xs q3⟩
 | .dict kvs,v,h=>by
  rw[Den]at h |-;obtain⟨a,ks,q1,q2,q3⟩:=h;exact⟨a,ks,q1,e _ _ q2,mw.same e kvs ks q3⟩
theorem dR.same(e:yX H H'):∀(ds:List PyData) (xs:List V),dR K H ds xs->dR K H' ds xs
 |[],_,h=>by rw[dR]at h |-;exact h
 | d::ds,xs,h=>by
  rw[dR]at h |-;obtain⟨x,r,q1,q2,q3⟩:=h;exact⟨x,r,q1,Den.same e d x q2,dR.same e ds r q3⟩
theorem mw.same(e:yX H H'):∀(kvs:List (PyData×PyData)) (ks:List (Key×V)),mw K H kvs ks->mw K H' kvs ks
 |[],_,h=>by rw[mw]at h |-;exact h
 | (k,d)::r,ks,h=>by
  rw[mw]at h |-;obtain⟨key,x,rest,q1,q2,q3,q4⟩:=h;exact⟨key,x,rest,q1,q2,Den.same e d x q3,mw.same e r rest q4⟩
end
theorem dR.nil:dR K H [] []:=by rw[dR]
theorem dR.cons{d:PyData}{ds:List PyData}{x:V}{r:List V}(h1:Den K H d x)(h2:dR K H ds r):dR K H (d::ds) (x::r):=by rw[dR];exact⟨x,r,rfl,h1,h2⟩
theorem Den.int{i:Int}:Den K H (.int i) (.int i):=by rw[Den]
theorem Den.str:Den K H (.str x) (.str x):=by rw[Den]
theorem Den.bool{b:Bool}:Den K H (.bool b) (.bl b):=by rw[Den]
theorem Den.none:Den K H .none .non:=by rw[Den]
theorem Den.list(h:gA K H a xs)(q:dR K H ds xs):Den K H (.list ds) (.ref a):=by rw[Den];exact⟨a,xs,rfl,h,q⟩
theorem Den.tuple(h:jP K H a xs)(q:dR K H ds xs):Den K H (.tuple ds) (.ref a):=by rw[Den];exact⟨a,xs,rfl,h,q⟩
end
section
variable {X:Cx} {pins:List (Addr×Obj)} {σ:St} {H:Hp} {s:Shared}
mutual
theorem Den.reads(I:Inv X pins σ H s):∀(d:PyData) (v:V) (u:Value),d.canLay0=true->Den X.K H d v->RelV v u->∃as,Reads s.heap u d as
 |.none,v,u,_,h,r=>by rw[Den]at h;subst h;cases r;exact⟨_,.none⟩
 |.bool b,v,u,_,h,r=>by rw[Den]at h;subst h;cases r;exact⟨_,.bool b⟩
 |.int i,v,u,_,h,r=>by rw[Den]at h;subst h;obtain⟨t,rfl⟩:=r;exact⟨_,.int i t⟩
 |.str x,v,u,_,h,r=>by rw[Den]at h;subst h;obtain⟨t,rfl⟩:=r;exact⟨_,.str x t⟩
 | .list ds,v,u,c,h,r=>by
  rw[Den]at h;obtain⟨a,xs,rfl,q1,q2⟩:=h;cases r;obtain⟨its,rv,⟨o,n,e1,e2,_,e3⟩,_⟩:=I.list q1;obtain⟨as,ra⟩:=dR.reads I ds xs its (by simpa [PyData.canLay0] using c) q2 rv;exact⟨_,.list e1 e2 e3 (by simpa using ra)⟩
 | .tuple ds,v,u,c,h,r=>by
  rw[Den]at h;obtain⟨a,xs,rfl,q1,q2⟩:=h;cases r;obtain⟨its,rv,⟨o,e1,e2,n,e3⟩,_⟩:=I.tuple q1;obtain⟨as,ra⟩:=dR.reads I ds xs its (by simpa [PyData.canLay0] using c) q2 rv;exact⟨_,.tuple e1 e2 e3 (by simpa using ra)⟩
 |.dict _,_,_,c,_,_=>by simp[PyData.canLay0]at c
theorem dR.reads(I:Inv X pins σ H s):∀(ds:List PyData) (xs:List V) (us:List Value),PyData.canLayAll0 ds=true->dR X.K H ds xs->Vals xs us->∃as,ReadsAll s.heap us ds as
 |[],xs,us,_,h,r=>by rw[dR]at h;subst h;cases r;exact⟨_,.nil⟩
 | d::ds,xs,us,c,h,r=>by
  have c':d.canLay0=true/\PyData.canLayAll0 ds=true:=by simpa [PyData.canLayAll0] using c
  rw[dR]at h;obtain⟨x,rest,rfl,q1,q2⟩:=h;cases r with
  |cons r1 r2=>obtain⟨as,ra⟩:=Den.reads I d x _ c'.1 q1 r1;obtain⟨bs,rb⟩:=dR.reads I ds rest _ c'.2 q2 r2;exact⟨_,.cons ra rb⟩
end
end
section
variable {X:Cx}
def Ud(K:Frag):R2:=λx y H Q=>∃d e,Den K H d x/\Den K H e y/\d.canLay0=true/\e.canLay0=true/\d.depth<=60/\Q (.bl (PyData.eqv d e)) H
def Ue(K:Frag):R2:=λx y H Q=>∃d e,Den K H d x/\Den K H e y/\d.canLay0=true/\e.canLay0=true/\d.depth<=60/\Q (.bl (!PyData.eqv d e)) H
theorem LS(hu:X.A.units+64<cLine):jU X (compareOp .Eq) (Ud X.K):=by
 intro pins s σ H x y v u Q I rx ry h;obtain⟨d,e,hd,he,c1,c2,hz,q⟩:=h;obtain⟨as,ra⟩:=Den.reads I d x v c1 hd rx;obtain⟨bs,rb⟩:=Den.reads I e y u c2 he ry;exact SeqAt.compareEq_reads ra rb c1 c2 (by have:=Nat.min_le_left d.depth e.depth;omega) ⟨.bl _,H,I,rfl,q⟩
theorem LU(hu:X.A.units+64<cLine):jU X (compareOp .NotEq) (Ue X.K):=by
 intro pins s σ H x y v u Q I rx ry h;obtain⟨d,e,hd,he,c1,c2,hz,q⟩:=h;obtain⟨as,ra⟩:=Den.reads I d x v c1 hd rx;obtain⟨bs,rb⟩:=Den.reads I e y u c2 he ry;exact SeqAt.compareNe_reads ra rb c1 c2 (by have:=Nat.min_le_left d.depth e.depth;omega) ⟨.bl _,H,I,rfl,q⟩
theorem qy{ns:List Int}(I:Inv X pins σ H s)(hq:gA X.K H p (ns.map V.int))(h64:ns.length<64)
  (q:∀l,H l=none->Q (.ref l) (upd H l (.lst ((sortI ns).map V.int)))):wpAny (model X.prog X.w) X.A (call (.builtin "sorted") [.ref p]) (EP X pins σ Q) X.xe s:=by
 obtain⟨its,rv,pl,hz⟩:=I.list hq;have hi:=intsAre_of rv;have hl:=hi.length;refine sorted_ints pl.isList hi (by omega) λout ns' a1 a2 a3=>?_;obtain⟨e,he⟩:=sortedAll_at s.heap its out;have es:ns'=sortI ns:=abn a2 a3;subst es;have hn:H (s.heap.objs.size+1)=none:=I.hok.fresh (aaV _);refine⟨.ref (s.heap.objs.size+1),_,I.laid (t':=s.toks) (λb o z=>sortedAll_old z) (aaV _) (show bJ X.prog X.w _ _ _ (.lst ((sortI ns).map V.int)) from⟨?_,out.toList,e,gx a1,by simpa using he⟩),rfl,q _ hn⟩;rw[Z4,(aaI ns).length_eq,aaT];omega
theorem nS:cV X (.builtin "sorted") (λxs H Q=>∃p ns,xs=[.ref p]/\gA X.K H p (ns.map V.int)/\ns.length<64/\∀l,H l=none->Q (.ref l) (upd H l (.lst ((sortI ns).map V.int)))):=by
 intro pins s σ H xs us Q I r h;obtain⟨p,ns,rfl,hq,h64,q⟩:=h;obtain⟨u,rfl,ru⟩:=vals1 r;cases ru;exact qy I hq h64 q
def Qg(K:Frag)(H:Hp)(r:Addr×List Int):Prop:=jP K H r.1 (r.2.map V.int)/\r.2≠[]
theorem y9{pins:List (Addr×Obj)}{σ:St}{H:Hp}{s:Shared}{A:Around}{rs:List (Addr×List Int)}{h6:Heap}{s6:Shared}(I:Inv X pins σ H s)(ht:∀r∈rs,Qg X.K H r)(h2:2<=rs.length)(k:∀b o,s.heap.get? b=some o->s6.heap.get? b=some o) :
  lX.tN X.prog X.w A lX.lexOrd (λi=>(rs.getD i (0,[])).2) (rs.map λr=>Value.ref r.1) s6:=by
 have tup:∀r∈rs,∃its o n,s6.heap.get? r.1=some o/\o.cls=.type "tuple" /\ o.data=.seq (toArray its) n/\IntsAre its r.2:=λr hr=>by
  obtain⟨its,rv,⟨o,e1,e2,n,e3⟩,_⟩:=I.tuple (ht r hr).1;exact⟨its,o,n,k _ _ e1,e2,e3,intsAre_of rv⟩
 have kt:∀rs:List (Addr×List Int),(∀r∈rs,∃its o n,s6.heap.get? r.1=some o/\o.cls=.type "tuple" /\ o.data=.seq (toArray its) n/\IntsAre its r.2)->(∀r∈rs,r.2≠[]) ->
   ∃fs,PySem.W.KatTups s6.heap (rs.map λr=>Value.ref r.1) fs/\fs.length=rs.length/\∀v∈fs,∃i t,v=Value.int i t:=by
  intro rs
  induction rs with
  |nil=>intro _ _;exact⟨[],PySem.W.KatTups.nil,rfl,λv hv=>nomatch hv⟩
  |cons r rs ih=>
   intro g1 g2;obtain⟨fs,q1,q2,q3⟩:=ih (λr' hr'=>g1 r' (aab _ hr')) λr' hr'=>g2 r' (aab _ hr');obtain⟨its,o,n,e1,e2,e3,hi⟩:=g1 r Z9;have hne:=g2 r Z9;cases hr:r.2 with
   |nil=>exact absurd hr hne
   |cons i is=>
    rw[hr]at hi;cases hi with
    |cons _ t hi'=>
     refine⟨.int i t::fs,PySem.W.KatTups.cons e1 e2 e3 (by simp) q1,by simp[q2],λv hv=>?_⟩
     rcases aao.mp hv with z|z
     ·exact⟨i,t,z⟩
     ·exact q3 v z
 obtain⟨fs,q1,q2,q3⟩:=kt rs tup λr hr=>(ht r hr).2;unfold lX.tN;refine PySem.W.kat_kind q1 (by omega) (T:=Value.type "int") (λv hv=>?_) rfl ⟨rfl,λi j C hi hj hc=>?_⟩
 ·obtain⟨i,t,rfl⟩:=q3 v hv;exact PySem.W.Looks.of_pure rfl
 ·rw[Z4]at hi hj
  unfold PySem.W.kas_ask;have e1:(rs.map λr=>Value.ref r.1).getD i Value.none=Value.ref rs[i].1:=by simp[hi]
  have e2:(rs.map λr=>Value.ref r.1).getD j Value.none=Value.ref rs[j].1:=by simp[hj]
  have e3:rs.getD i (0,[])=rs[i]:=by simp[hi]
  have e4:rs.getD j (0,[])=rs[j]:=by simp[hj]
  rw[e1,e2];simp only[e3,e4]at hc;obtain⟨its,o,n,a1,a2,a3,a4⟩:=tup rs[i] (acF hi);obtain⟨its',o',n',b1,b2,b3,b4⟩:=tup rs[j] (acF hj);have l1:=a4.length;have l2:=b4.length;refine kat_lt a1 a3 b1 b3 (lX.oW 0 a4 b4 ?_ l1 hc (.inr rfl) (λ_ _ _=>trivial) (λ_=>trivial) ?_)
  ·rw[aae,aae,l1,l2];simp
  ·rw[aae,aae,l1,l2]
theorem B0{rs:List (Addr×List Int)}:∀{us:List Value},Vals (rs.map λr=>V.ref r.1) us->us=rs.map λr=>Value.ref r.1:=by
 induction rs with
 |nil=>intro us r;cases r;rfl
 |cons a rs ih=>
  intro us r;cases r with
  |cons r1 r2=>cases r1;rw[ih r2];rfl
theorem nT:cV X (.builtin "sorted") (λxs H Q=>∃(p:Addr) (rs:List (Addr×List Int)),xs=[.ref p]/\gA X.K H p (rs.map λr=>V.ref r.1)/\rs.length<64/\(∀r∈rs,Qg X.K H r) /\
  ∀(l:Addr) (qs:List (Addr×List Int)),H l=none->qs.Perm rs->qs.Pairwise (λa b=>HT.lexLt b.2 a.2=false)->Q (.ref l) (upd H l (.lst (qs.map λr=>V.ref r.1)))):=by
 intro pins s σ H xs us Q I r h;obtain⟨p,rs,rfl,hq,h64,ht,q⟩:=h;obtain⟨u,rfl,ru⟩:=vals1 r;cases ru;obtain⟨its,rv,pl,hz⟩:=I.list hq;have ev:=B0 rv;subst ev;refine lX.eB (O:=lX.lexOrd) (collect_list pl.isList ?_ (by rw[Z4,aaT];omega));have k1:∀b o,s.heap.get? b=some o->((s.heap.push (seqObj "list" #[] 0)).update s.heap.objs.size (Obj.mapSeq (· ++ (rs.map λr=>Value.ref r.1).toArray))).get? b=some o:=λb o e=>by
  rw[Heap.get?_update_ne _ _ _ _ (aam (aaf e))];exact Z3 _ e
 have Xh:((s.heap.push (seqObj "list" #[] 0)).update s.heap.objs.size (Obj.mapSeq (· ++ (rs.map λr=>Value.ref r.1).toArray))).objs.size=s.heap.objs.size+1:=by rw[Heap.size_update,size_push']
 refine⟨by rw[Z4];exact h64,λi=>(rs.getD i (0,[])).2,λh2 h6 k6=>?_,λpp h' op k' he=>?_⟩
 ·rw[Z4]at h2;exact y9 (h6:=h6) I ht h2 λb o e=>k6 b o (k1 b o e)
 ·rw[Z4]at op
  dsimp only at k' he |-;rw[Xh]at he |-;obtain⟨e,he⟩:=he;have hn:H (s.heap.objs.size+1)=none:=I.hok.fresh (aaV _);have lp:pp.length=rs.length:=by rw[op.perm.length_eq,acz]
  have mem:∀i∈pp,i<rs.length:=λi hi=>by simpa using op.perm.mem_iff.mp hi
  have Ug:(pp.map λi=>(rs.map λr=>Value.ref r.1).getD i Value.none)=(pp.map λi=>rs.getD i (0,[])).map λr=>Value.ref r.1:=by rw[aaE];refine aba λi hi=>?_;simp[mem i hi]
  have qp:(pp.map λi=>rs.getD i (0,[])).Perm rs:=by have:=op.perm.map λi=>rs.getD i (0,[]);rwa [lX.b9]at this
  have qs:(pp.map λi=>rs.getD i (0,[])).Pairwise (λa b=>HT.lexLt b.2 a.2=false):=by have up1:=abx.mp op.up;exact abx.mpr up1
  refine⟨.ref (s.heap.objs.size+1),_,I.laid (t':=s.toks) (λb o z=>k' b o (k1 b o z)) (aaV _) (show bJ X.prog X.w _ _ _ (.lst ((pp.map λi=>rs.getD i (0,[])).map λr=>V.ref r.1)) from⟨?_,_,e,?_,he⟩),rfl,q _ _ hn qp qs⟩
  ·rw[Z4,Z4,lp,aaT];omega
  ·rw[Ug]
   generalize (pp.map λi=>rs.getD i (0,[]))=zs
   induction zs with
   |nil=>exact .nil
   |cons z zs ih=>exact .cons rfl ih
end
section
variable {X:Cx}
theorem zb{bs:List Bool}:∀{us:List Value},Vals (bs.map V.bl) us->us=bs.map Value.bool:=by
 induction bs with
 |nil=>intro us r;cases r;rfl
 |cons a bs ih=>
  intro us r;cases r with
  |cons r1 r2=>cases r1;rw[ih r2];rfl
theorem qz(bs:List Bool):((List.range bs.length).all λi=>bs.getD i true)=bs.all id:=by
 conv=>rhs;rw[<-lX.b9 bs true]
 rw[all_map];rfl
theorem sO(hc:X.calm=true):cV X (.builtin "all") (λxs H Q=>∃(p:Addr) (bs:List Bool),xs=[.ref p]/\gA X.K H p (bs.map V.bl)/\Q (.bl (bs.all id)) H):=by
 intro pins s σ H xs us Q I r h;obtain⟨p,bs,rfl,hq,q⟩:=h;obtain⟨u,rfl,ru⟩:=vals1 r;cases ru;obtain⟨its,rv,pl,hz⟩:=I.list hq;have ev:=zb rv;subst ev;have hpl:=pl.isList;have hlt:p<s.heap.objs.size:=by obtain⟨_,e,_⟩:=hpl;exact aaf e
 refine call_all_walk (wpAny_pyIter_list hpl ⟨s.heap.objs.size,[s.heap.objs.size,p],[s.heap.objs.size],_,_,_,λi=>bs.getD i true,rfl,Walks.list (A:=X.A.in1) (I.ok.hd hc) _ p (aam hlt) (bs.map Value.bool).toArray,
  ⟨⟨_,aaj _ rfl,rfl,rfl⟩,hpl.push _⟩,λi v s' Q' E' hP hQ=>?_,λh' tk hk=>?_⟩)
 ·have hi:i<bs.length:=by simpa using (abM.mp hP).1
  have e:v=Value.bool (bs.getD i true):=by
   have:(bs.map Value.bool)[i]?=some v:=by simpa using hP
   simp[hi]at this;simp[hi,this]
  subst e;exact abw hQ
 ·have e:((List.range (bs.map Value.bool).toArray.size).all λi=>bs.getD i true)=bs.all id:=by rw[aae,Z4];exact qz bs
  rw[e];exact⟨.bl _,H,I.kept λb o z=>hk b o (by simp;exact aam (aaf z)) (Z3 _ z),rfl,q⟩
section
open PySem.AutoSeq1 (wpAny_loadPart')
theorem uX(l b:Addr)(items items2:Array Value)(n n2:Nat)(dd2:Option Addr)(sl2:Array (Option Value))(hs0:¬(!items.isEmpty&&Builtin.List.listTooLong (items.size+items2.size))=true)(hs1:items.size<=sizeLine)(hs2:items.size+items2.size<=sizeLine+1) :
  Meets (Builtin.«list.extend» ⟨[.ref l,.ref b],[]⟩) (λ_ R s=>s.heap.get? l=some { cls:=.type "list",data:=.seq items n }/\s.heap.get? b=some { cls:=.type "tuple",dict:=dd2,data:=.seq items2 n2,slots:=sl2 } /\
   R (.ok (.ret Value.none)) { s with heap:=s.heap.update l (Obj.mapSeq λx=>x++items2) }) :=
 .of_wp λprog w A R s h=>by
  obtain⟨hp,g,d,tk,os⟩:=s;obtain⟨hl,hb,h⟩:=h;have f2:=AutoSeq1.sub_tuple_tuple;have f3:=AutoSeq1.sub_list_list;have f4:=AutoSeq1.sub_tuple_list;have f5:=AutoSeq1.sub_list_tuple;have hz':(items++items2).size<=sizeLine+1:=by rw[Array.size_append];exact hs2
  wp_walk using (wpAny_updateSeq hl rfl (hz:=hs1) (_hz':=hz')),wpAny_loadPart' hl,wpAny_loadPart' hb
  exact⟨_,rfl,h⟩
end
def Du(K:Frag):V->List V->Hp->VK->Prop:=λx vs H Q=>∃l b xs zs,x=.ref l/\vs=[.ref b]/\H l=some (.lst xs)/\jP K H b zs/\xs.length+zs.length<=sizeLine/\Q .non (upd H l (.lst (xs++zs)))
theorem zc:PZ X "list.extend" (Du X.K):=by
 intro pins s σ H x vs v us Q I rx rv h;obtain⟨l,b,xs,zs,rfl,rfl,hH,hB,hz,q⟩:=h;cases rx;obtain⟨u,rfl,ru⟩:=rv.one;cases ru;obtain⟨z,its,n,r,hl,e⟩:=I.BP hH;obtain⟨its2,r2,⟨⟨oc,od,Xi,osl⟩,e2,ec,n2,ed⟩,z2⟩:=I.tuple hB;cases ec;cases ed;have l2:=r2.length;have hsz:its.toArray.size+its2.toArray.size<=sizeLine:=by rw[aae,aae];omega
 have De:¬ (!its.toArray.isEmpty&&Builtin.List.listTooLong (its.toArray.size+its2.toArray.size))=true:=by rw[wg hsz,Bool.and_false];exact Z0
 refine call_meets F.slot_list_extend ⟨_,e,rfl⟩ F.entry_list_extend (F.args_list_extend_2 _ _)
  (uX l b its.toArray its2.toArray n n2 od osl De (by rw[aae];omega) (by omega)) ⟨e,e2,?_⟩
 refine⟨.non,_,I.Dd (its':=its++its2) hH e (by simp) (r.append r2) ?_,rfl,q⟩;rw[aak];omega
end
end L2
end
section
namespace L2
open PySem
def tQ(xs:Array Nat):Prop:=xs.toList.Pairwise (· < ·)
structure Cut (xs:Array Nat) (j p:Nat):Prop where
 le:p<=xs.size
 lo:∀(i:Nat) (hi:i<xs.size),i<p->xs[i]<j
 hi:∀(i:Nat) (hi:i<xs.size),p<=i->j<=xs[i]
theorem Cut.one{xs:Array Nat}{j p q:Nat}(a:Cut xs j p)(b:Cut xs j q):p=q:=by
 rcases Nat.lt_trichotomy p q with h|h|h
 ·have hp:p<xs.size:=aah h b.le;have:=a.hi p hp (aaa _);have:=b.lo p hp h;omega
 ·exact h
 ·have hq:q<xs.size:=aah h a.le;have:=b.hi q hq (aaa _);have:=a.lo q hq h;omega
theorem tQ.get{xs:Array Nat}(r:tQ xs){a b:Nat}(ha:a<xs.size)(hb:b<xs.size)(h:a<b):xs[a]<xs[b]:=by
 have:=abq.mp r a b (by simpa using ha) (by simpa using hb) h;simpa using this
theorem zd{xs:Array Nat}(r:tQ xs)(j:Nat):∀(fuel lo hi:Nat),lo<=hi->hi<=xs.size->hi-lo<=fuel->(∀(i:Nat) (hi:i<xs.size),i<lo->xs[i]<j)->(∀(i:Nat) (h:i<xs.size),hi<=i->j<=xs[i])->Cut xs j (SetTable.below.go xs j fuel lo hi)
 | 0,lo,hi,h1,h2,h3,a,b=>by
  have:lo=hi:=by omega
  subst this;exact⟨h2,a,b⟩
 | fuel+1,lo,hi,h1,h2,h3,a,b=>by
  unfold SetTable.below.go
  by_cases hlt:lo<hi
  ·rw[Z7 hlt]
   dsimp only;have hm:(lo+hi)/2<xs.size:=by omega
   have eg:xs.getD ((lo+hi)/2) j=xs[(lo+hi)/2]:=by simp[Array.getD,hm]
   rw[eg]
   by_cases hc:xs[(lo+hi)/2]<j
   ·rw[Z7 hc]
    refine zd r j fuel _ hi (by omega) h2 (by omega) (λi hi' hl=>?_) b
    by_cases e:i=(lo+hi)/2
    ·subst e;exact hc
    ·exact lt_trans (r.get hi' hm (by omega)) hc
   ·rw[Z8 hc]
    refine zd r j fuel lo _ (by omega) (by omega) (by omega) a (λi hi' hl=>?_)
    by_cases e:i=(lo+hi)/2
    ·subst e;omega
    ·have:=r.get hm hi' (by omega);omega
  ·rw[Z8 hlt]
   have:lo=hi:=by omega
   subst this;exact⟨h2,a,b⟩
theorem kG{xs:Array Nat}(r:tQ xs)(j:Nat):Cut xs j (SetTable.below xs j) :=
 zd r j xs.size 0 xs.size (abb _) (aaa _) (by omega) (λi _ h=>by omega) (λi h hl=>by omega)
theorem ze{xs:Array Nat}(r:tQ xs):SetTable.below xs 0=0:=(kG r 0).one ⟨abb _,λi _ h=>by omega,λi _ _=>abb _⟩
theorem zf{xs:Array Nat}(r:tQ xs){i:Nat}(hi:i<xs.size):SetTable.below xs (xs[i]+1)=i+1:=by
 refine(kG r _).one ⟨hi,λk hk h=>?_,λk hk h=>?_⟩
 ·by_cases e:k=i
  ·subst e;omega
  ·have:=r.get hk hi (by omega);omega
 ·have:=r.get hi hk (by omega);omega
theorem B3{xs:Array Nat}(r:tQ xs){j:Nat}(h:j∈xs):xs[SetTable.below xs j]?=some j:=by
 obtain⟨k,hk,e⟩:=Array.mem_iff_getElem.mp h;have:SetTable.below xs j=k:=by
  refine(kG r j).one ⟨abv hk,λi hi h=>?_,λi hi h=>?_⟩
  ·have:=r.get hi hk h;omega
  ·by_cases e':i=k
   ·subst e';omega
   ·have:=r.get hk hi (by omega);omega
 rw[this,aaM hk,e]
theorem B4{xs:Array Nat}(r:tQ xs){j:Nat}(h:j∉xs):tQ (SetTable.insertAt xs (SetTable.below xs j) j):=by
 have c:=kG r j;unfold tQ;rw[SetTable.toList_insertAt];have rl:xs.toList.Pairwise (· < ·):=r;have lo:∀a∈xs.toList.take (SetTable.below xs j),a<j:=λa ha=>by
  obtain⟨i,hi,e⟩:=ack.mp ha;rw[abe,aax]at hi;rw[List.getElem_take]at e;have:=c.lo i (by omega) (by omega);rw[<-e];simpa using this
 have up:∀a∈xs.toList.drop (SetTable.below xs j),j<a:=λa ha=>by
  obtain⟨i,hi,e⟩:=ack.mp ha;rw[acf,aax]at hi;rw[List.getElem_drop]at e;have h1:=c.hi (SetTable.below xs j+i) (by omega) (by omega);have e':xs[SetTable.below xs j+i]'(by omega)=a:=by rw[<-e];simp
  rw[e']at h1;have:a≠j:=λz=>h (by rw[<-z,<-e'];exact Array.getElem_mem _);omega
 rw[List.pairwise_append];refine⟨rl.sublist (acy _ _),aaN.mpr ⟨up,rl.sublist (List.drop_sublist _ _)⟩,λa ha b hb=>?_⟩
 rcases aao.mp hb with e|hb
 ·rw[e];exact lo a ha
 ·exact lt_trans (lo a ha) (up b hb)
theorem mz(n:Nat):tQ (Array.range n):=by
 unfold tQ;rw[Array.toList_range];exact List.pairwise_lt_range
theorem tR{t:SetTable}(r:tQ t.place){j:Nat}(h:t.slot j=.empty\/t.slot j=.dummy):j∉t.place:=λhm=>by
 have e:=B3 r hm;unfold SetTable.slot at h;dsimp only at h;rw[e]at h;simp at h
theorem lI{h:Int}:∀(fuel:Nat) (p:SetTable.Probe) (j:Nat) (d:Option Nat),(∀k,p.dummy=some k->t.slot k=.dummy)->SetTable.probe.go t f h fuel p=some (.empty j d)->t.slot j=.empty/\∀k,d=some k->t.slot k=.dummy
 |0,p,j,d,hd,e=>by simp[SetTable.probe.go]at e
 | fuel+1,p,j,d,hd,e=>by
  have ad:∀q:SetTable.Probe,(t.advance q).dummy=q.dummy:=λq=>by unfold SetTable.advance;split<;>rfl
  unfold SetTable.probe.go at e;split at e
  ·rename_i hs;cases e;exact⟨hs,hd⟩
  ·rename_i hs;refine lI fuel _ j d (λk hk=>?_) e;rw[ad]at hk;cases hk;exact hs
  ·split at e
   ·cases e
   ·exact lI fuel _ j d (λk hk=>hd k (by rw[<-ad];exact hk)) e
theorem Dv{t:SetTable}(r:tQ t.place){h:Int}{s:Nat}{b:Bool}(e:t.freeSlot h=some (s,b)):s∉t.place:=by
 unfold SetTable.freeSlot at e;split at e
 ·rename_i j d hp
  cases e;obtain⟨h1,h2⟩:=lI _ _ _ _ (λk hk=>by simp[SetTable.probeStart]at hk) hp;cases d with
  |none=>exact tR r (.inl h1)
  |some k=>exact tR r (.inr (h2 k rfl))
 ·cases e
theorem B5(r:tQ t.place)(es:Array (Int×Value))(h:Int)(x:Value):tQ (layNew t es h x).2.1.place/\(layNew t es h x).2.1.led=t.led:=by
 unfold layNew
 split
 ·rename_i s b e
  have fr:=Dv r e;dsimp only;unfold SetTable.orStandIn
  split
  ·exact⟨B4 r fr,rfl⟩
  ·exact⟨mz _,rfl⟩
 ·exact⟨mz _,rfl⟩
theorem Dw(r:tQ t.place)(es:Array (Int×Value))(n:Nat):tQ (relayAll t es n).2.1.place/\(relayAll t es n).2.1.led=t.led:=by
 unfold relayAll
 split
 ·rename_i t' order e
  dsimp only
  split
  ·unfold SetTable.relaid SetTable.laid at e;obtain⟨ow,e1,e⟩:=Z1.mp e;cases e;refine⟨?_,rfl⟩;show List.Pairwise _ (List.map _ _).toArray.toList;rw[List.toList_toArray,abx];refine List.Pairwise.filterMap _ (R:=(· < ·)) (λa a' hl b hb b' hb'=>?_) List.pairwise_lt_range;obtain⟨x,_,rfl⟩:=aaw.mp hb;obtain⟨y,_,rfl⟩:=aaw.mp hb';exact hl
  ·exact⟨mz _,rfl⟩
 ·exact⟨mz _,rfl⟩
end L2
end
section
namespace L2
open PySem PyProof.Rows
def sP(w:World):Bool:=w.params.followText "set-order"
structure Ke (w:World) (es:Array (Int×Value)) (t:SetTable):Prop where
 few:es.size<scanBound
 fit:t.fits es.size=true
 rs:tQ t.place
 led:t.led = !sP w
structure eE (prog:Program) (w:World) (h:Heap) (a:Addr) (o:Obj) (es:Array (Int×Value)) (ep:Nat) (t:SetTable) (ks:List Int):Prop where
 at_:h.get? a=some o
 ex:o.ExactSet
 dat:o.data=.set es ep t
 el:ElemsOf (intKind prog w) es.toList
 tab:Ke w es t
 Vq:ks.Nodup
 mem:∀k,k∈ks↔∃e∈es.toList,(intKind prog w).is k e.2=true
 num:es.size=ks.length
def pI(prog:Program)(w:World)(h:Heap)(a:Addr)(ks:List Int):Prop:=∃o es ep t,eE prog w h a o es ep t ks
def eF(ks:List Int)(k:Int):List Int:=if k∈ks then ks else ks++[k]
section
variable {prog:Program} {w:World} {A:Around} {E:Value->Shared->Prop} {s:Shared}
theorem Dy{h:Heap}{a:Addr}{o:Obj}{es es':Array (Int×Value)}{ep:Nat}{t t':SetTable}(ho:h.get? a=some o)(hd:o.data=.set es ep t):(h.update a (Obj.putSet es' t')).get? a=some { o with data:=.set es' (ep+1) t' }:=by
 have q:=aaR (Obj.putSet es' t') ho (by rw[putSet_of es' t' hd];rfl);rw[putSet_of es' t' hd]at q;exact q
theorem pI.frame{ks:List Int}(S:pI prog w h a ks)(k:∀o,h.get? a=some o->h'.get? a=some o):pI prog w h' a ks:=by
 obtain⟨o,es,ep,t,i⟩:=S;exact⟨o,es,ep,t,{ i with at_:=k o i.at_ }⟩
theorem mem_push{es es1:List (Int×Value)}{ks:List Int}{k:Int}(hx:(intKind prog w).is k x=true)(hm:∀j,j∈ks↔∃e∈es,(intKind prog w).is j e.2=true)(p:es1.Perm (es++[((intKind prog w).hash k,x)]))(j:Int) :
  j∈ks++[k]↔∃e∈es1,(intKind prog w).is j e.2=true:=by
 rw[aaF,aai,hm];constructor
 ·rintro(⟨e,he,q⟩|rfl)
  ·exact⟨e,p.mem_iff.mpr (aaL _ he),q⟩
  ·exact⟨_,p.mem_iff.mpr (aaz _ Z9),hx⟩
 ·rintro⟨e,he,q⟩
  rcases aaF.mp (p.mem_iff.mp he) with z|z
  ·exact .inl ⟨e,z,q⟩
  ·rw[aai]at z;subst z;exact .inr ((intKind prog w).inj x j k q hx)
theorem wJ{g:Bool->Sem Unit}(hg:∀(b:Bool) (s₁:Shared) (Q':Unit->Shared->Prop),Q' () s₁->wpAny (model prog w) A (g b) Q' E s₁)
  {a:Addr} {o:Obj} {es es1:Array (Int×Value)} {ep:Nat} {t t2:SetTable} {ks:List Int} (ho:s.heap.get? a=some o) (hex:o.ExactSet) (hd:o.data=.set es ep t)
  (hel:ElemsOf (intKind prog w) es1.toList) (hm:∀k,k∈ks↔∃e∈es1.toList,(intKind prog w).is k e.2=true) (hnd:ks.Nodup) (hn:es1.size=ks.length) (ht:Ke w es1 t2) {b:Bool} {R:Option Bool->Shared->Prop}
  (h:∀h',Heap.SameBut a s.heap h'->pI prog w h' a ks->R (some true) { s with heap:=h' }) :
  wpAny (model prog w) A (do
    storeSet a es1 t2
    if (!b&&t2.tooFull)=true then do
      g (relayAll t2 es1 (SetTable.grown es1.size)).2.2
      storeSet a (relayAll t2 es1 (SetTable.grown es1.size)).1 (relayAll t2 es1 (SetTable.grown es1.size)).2.1
      pure (some true)
     else pure (some true)) R E s:=by
 refine ZZ (wpAny_storeSet_of ho hd ?_ (ab5 ht.few));have h1:=Dy (es':=es1) (t':=t2) ho hd;have b1:=aaZ s.heap a (Obj.putSet es1 t2)
 split
 ·have p:=relayAll_perm t2 es1 (SetTable.grown es1.size)
  have f:=relayAll_fits t2 es1 (SetTable.grown es1.size);have rr:=Dw ht.rs es1 (SetTable.grown es1.size);generalize relayAll t2 es1 (SetTable.grown es1.size)=Rl at p f rr |-;obtain⟨Uh,t3,gv⟩:=Rl;dsimp only at p f rr |-;have z:Uh.size=es1.size:=by rw[<-aax,p.length_eq,aax]
  have few:Uh.size<scanBound:=by rw[z];exact ht.few
  refine ZZ (hg _ _ _ ?_);refine ZZ (wpAny_storeSet_of h1 rfl ?_ (ab5 few));refine Z6 (h _ (b1.trans (aaZ _ a _)) ⟨_,Uh,_,t3,Dy h1 rfl,hex,rfl,hel.perm p,⟨few,f,rr.1,rr.2.trans ht.led⟩,hnd,λk=>(hm k).trans ⟨λ⟨e,he,q⟩=>⟨e,p.mem_iff.mpr he,q⟩,λ⟨e,he,q⟩=>⟨e,p.mem_iff.mp he,q⟩⟩,z.trans hn⟩)
 ·exact Z6 (h _ b1 ⟨_,es1,_,t2,h1,hex,rfl,hel,ht,hnd,hm,hn⟩)
theorem add_int{ks:List Int}{k:Int}(S:pI prog w s.heap a ks)(room:ks.length+1<scanBound)
  (h:∀h' b,Heap.SameBut a s.heap h'->pI prog w h' a (eF ks k)->Q b { s with heap:=h' }) :
  wpAny (model prog w) A (setAddHashed a (.int k tk) ((intKind prog w).hash k)) Q E s:=by
 obtain⟨o,es,ep,t,I⟩:=S;have hx:(intKind prog w).is k (.int k tk)=true:=intKind_is _ _ _ _;have sc:(Value.int k tk).scannable=true:=rfl;unfold setAddHashed setAddHashedIn;refine aa6 (ZZ (abi I.at_ I.dat I.tab.fit ?_));dsimp only;rw[byScan_of sc I.tab.few I.el];simp only[↓reduceIte];unfold setAddByScan;refine ZZ (ZZ (wpAny_rule (ZZ (wpAny_setScan_of hx I.at_ I.dat I.tab.fit I.el ?_))));cases hr:List.findIdx? (λe=>(intKind prog w).is k e.2) es.toList with
 |some j=>
  dsimp only;obtain⟨hj,pj,_⟩:=List.findIdx?_eq_some_iff_getElem.mp hr;have hk:k∈ks:=(I.mem k).mpr ⟨es.toList[j],acF hj,pj⟩;refine Z6 (Z6 ?_);have e:s={ s with heap:=s.heap }:=by cases s;rfl
  rw[e];exact h s.heap _ (Heap.SameBut.refl a s.heap) (by unfold eF;rw[Z7 hk];exact⟨o,es,ep,t,I⟩)
 |none=>
  dsimp only;have hk:k∉ks:=λz=>by
   obtain⟨e,he,p⟩:=(I.mem k).mp z;have:=List.findIdx?_eq_none_iff.mp hr e he;rw[p]at this;cases this
  have gw:∀(b:Bool) (s₁:Shared) (Q':Unit->Shared->Prop),Q' () s₁->wpAny (model prog w) A (match b with|true=>rule "set.scan.the-table-gave-way" | false=>pure ()) Q' E s₁:=λb s₁ Q' q=>by
   cases b
   ·exact Z6 q
   ·exact wpAny_rule q
  have p:=layNew_perm t es ((intKind prog w).hash k) (.int k tk);have f:=layNew_fits t es ((intKind prog w).hash k) (.int k tk);have rr:=B5 I.tab.rs es ((intKind prog w).hash k) (.int k tk);generalize layNew t es ((intKind prog w).hash k) (.int k tk)=Ln at p f rr |-;obtain⟨es1,t1,wd,gv⟩:=Ln;dsimp only at p f rr |-;rw[Array.toList_push]at p;have z:es1.size=(ks++[k]).length:=by rw[<-aax,p.length_eq,aak,aak,aax,I.num];rfl
  have few:es1.size<scanBound:=by rw[z,aak];simpa using room
  have nd:(ks++[k]).Nodup:=by rw[aaA];exact⟨I.Vq,by simp,λx hx' y hy e=>hk (by rw[aai]at hy;rw[<-hy,<-e];exact hx')⟩
  have Vr:ElemsOf (intKind prog w) es1.toList:=(I.el.push hx sc).perm p;have m1:=mem_push hx I.mem p;have fin:∀h',Heap.SameBut a s.heap h'->pI prog w h' a (ks++[k])->Q true { s with heap:=h' }:=λh' sb S'=>h h' true sb (by unfold eF;rw[Z8 hk];exact S');refine ZZ (gw _ _ _ ?_)
  split
  ·refine ZZ ?_
   rw[hashByValue_scannable 8 sc];refine Z6 ?_;refine wJ gw I.at_ I.ex I.dat Vr m1 nd z ⟨few,?_,?_,?_⟩ λh' sb S'=>Z6 (fin h' sb S')
   ·split
    ·exact f
    ·exact SetTable.fits_plain_off f
   ·split
    ·exact rr.1
    ·exact rr.1
   ·split
    ·exact rr.2.trans I.tab.led
    ·exact rr.2.trans I.tab.led
  ·refine ZZ (Z6 ?_);simp only[↓reduceIte];exact wJ gw I.at_ I.ex I.dat Vr m1 nd z ⟨few,f,rr.1,rr.2.trans I.tab.led⟩ λh' sb S'=>Z6 (fin h' sb S')
end
def dS:List Int->List Int->List Int
 |ks,[]=>ks
 |ks,k::r=>dS (eF ks k) r
theorem qA(ks:List Int)(k:Int):(eF ks k).length<=ks.length+1:=by unfold eF;split<;>simp
section
variable {prog:Program} {w:World} {A:Around} {E:Value->Shared->Prop} {s:Shared}
theorem Dz{R:Result->Shared->Prop}{I:Addr}{fp wr:List Addr}{G:Array GenState->Array GenState->Prop}{n:Nat}{P:Nat->Value->Prop}{St:Nat->Shared->Prop}(W:WalksS prog w A.in1 I fp wr G n P St)(S:Addr)(hSf:S∉fp)(val:Nat->Int)(hval:∀i v,P i v->∃t,v=.int (val i) t) :
  ∀(k i:Nat) (s:Shared) (ks:List Int),n-i=k->i<=n->ks.length+k+1<scanBound->St i s->pI prog w s.heap S ks ->
   (∀s',Moved (S::wr) G s s'->pI prog w s'.heap S (dS ks ((range' i k).map val))->R (.ok (.ret .none)) s') ->
   codeAny (model prog w) A (.builtin "set.update.loop" ⟨[.ref S,.ref I],[]⟩) R s:=by
 have Vs:S∉wr:=λh=>hSf (W.sub _ h);have sub:∀b∈wr,b∈S::wr:=λb hb=>aab _ hb;intro k
 induction k with
 |zero=>
  intro i s ks hk hi _ hst hS hR;have:i=n:=by omega
  subst this;refine abF PyProof.Rows.F.entry_set_update_loop ?_;rw[aby abl _];show wpAny _ A.in1 (pyNext (.ref I) >>= _) _ _ s;refine ZZ (W.done s _ _ hst λs' hm=>?_);show wpAny _ A.in1 (ret Value.none) _ _ s';exact Z6 (hR s' (hm.mono sub) (hS.frame λo e=>hm.heap S _ Vs e))
 |succ k ih=>
  intro i s ks hk hi hl hst hS hR;have hlt:i<n:=by omega
  refine abF PyProof.Rows.F.entry_set_update_loop ?_;rw[aby abl _];show wpAny _ A.in1 (pyNext (.ref I) >>= _) _ _ s;refine ZZ (W.item i s _ _ hlt hst λv s' hP Ui hm=>?_);obtain⟨t,rfl⟩:=hval i v hP;have hS':=hS.frame (h':=s'.heap) λo e=>hm.heap S _ Vs e;show wpAny _ A.in1 (holding [Value.int (val i) t] (setAdd S (.int (val i) t)) >>= _) _ _ s';refine ZZ (aa6 ?_);unfold setAdd;refine aa6 (ZZ ((intKind prog w).pyHash (k:=val i) (intKind_is _ _ _ _) ?_));refine add_int (s:={ s' with toks:=s'.toks+1 }) hS' (by omega) λh' b sb S2=>?_;have hl2:=qA ks (val i);refine Z6 ⟨acj abl _,ih (i+1) _ (eF ks (val i)) (by omega) hlt (by omega) (W.frame _ s' _ _ Ui (aaV _) λb hb o e=>?_) S2 λs'' LP S3=>?_⟩
  ·rw[sb.2 b λz=>hSf (by rw[<-z];exact hb)];exact e
  ·refine hR s'' (Moved.trans W.gtrans ((hm.mono sub).then_heap (aaV _) λb o hb e=>?_) LP) ?_
   ·rw[sb.2 b λz=>hb (by rw[z];exact Z9)];exact e
   ·rw[List.range'_succ,aac,dS];exact S3
abbrev qB(w:World):Obj:={ cls:=.type "set",dict:=none,data:=.set #[] 0 (.fresh 0 0 (!sP w)) }
theorem Ig(e:h.get? a=some (qB w)):pI prog w h a [] :=
 ⟨_,#[],0,_,e,⟨rfl,rfl,rfl⟩,rfl,λx hx=>by simp at hx,⟨by show 0<4096;decide,rfl,List.Pairwise.nil,rfl⟩,aa8,λk=>by simp,rfl⟩
theorem DA(a:Value)(h:Q₁ (.ref s.heap.objs.size) { s with heap:=s.heap.push (qB w) }) :
  codeAny (model prog w) A (.call (.builtin "set.__new__") ⟨[.type "set",a],[]⟩) (wants Q₁ E) s:=by
 refine codeAny_of_tree ?_;show wpAny _ A.in1 (do checkBuiltinCall "set.__new__" ⟨[.type "set",a],[]⟩;again (.builtin "set.__new__" ⟨[.type "set",a],[]⟩)) _ _ s;refine ZZ (wpAny_of_eq (PySem.F.newCall_set_1 a) (Z6 ⟨acj PySem.F.plain_set_new _,abF PySem.F.entry_set_new ?_⟩));rw[aby PySem.F.plain_set_new _];unfold Builtin.«set.__new__» Builtin.Frozenset.newClass;have hsub:=sub_set_self;obtain⟨hp,g,d,tk,os⟩:=s;dsimp only
 wp_walk
 refine wpAny_askSetting (Z6 ?_);dsimp only;simp only[newObj];refine ZZ (wpAny_alloc (Z6 ?_));exact Z6 h
end
section
variable {prog:Program} {w:World} {A:Around} {E:Value->Shared->Prop} {s:Shared}
theorem zg{ns:List Int}(hi:IntsAre vs ns):(range' 0 vs.length).map (λi=>ns.getD i 0)=ns:=by
 have hl:=IntsAre.length hi;apply ach
 ·rw[Z4,List.length_range',hl]
 ·intro i h1 h2;simp[List.getD,h2]
theorem wK{ns:List Int}(hh:A.handled=none)(hl:s.heap.IsList l items)(hi:IntsAre items.toList ns)(hb:items.size+1<scanBound)
  (h:∀(h':Heap) (tk:Nat),pI prog w h' s.heap.objs.size (dS [] ns)->(∀b o,b<s.heap.objs.size->s.heap.get? b=some o->h'.get? b=some o)->Q (.ref s.heap.objs.size) { s with heap:=h',toks:=tk }) :
  wpAny (model prog w) A (call (.type "set") [.ref l]) Q E s:=by
 obtain⟨c,tl,mro⟩:=PySem.F.called_set.mro;have made:=PySem.F.called_set.made;have sub:=PySem.F.called_set.sub;refine wpAny_call (codeAny_of_tree ?_);show wpAny _ _ (callAny (.type "set") _) _ _ _;refine Z6 ⟨Code.quiet_builtin _ (by decide +kernel),abF PySem.F.entry_type_call ?_⟩;rw[Around.under_plain (weight_type_call_type "set" [.ref l] []) rfl];have n1:=PySem.F.called_set.notType;have n2:=PySem.F.called_set.canCreate;have n3:=PySem.F.typeCall_set_1 (.ref l)
 repeat (any_goals (first|assumption|wp_step))
 refine ab3 (DA (.ref l) (E:=E) (Q₁:=λobj s₁=>obj=.ref s.heap.objs.size/\s₁={ s with heap:=s.heap.push (qB w) }) ⟨rfl,rfl⟩) λr s₁ hr=>?_;cases r with
 |error e=>exact hr
 |ok fl=>
  cases fl with
  |ret obj=>
   obtain⟨rfl,rfl⟩:=hr;have Vt:(s.heap.push (qB w)).get? s.heap.objs.size=some (qB w):=aaj _ rfl;have hT:Shared.TypeIs { s with heap:=s.heap.push (qB w) } (.ref s.heap.objs.size) "set":=⟨_,Vt,rfl⟩;have look:=PySem.F.called_set.init.lookup;have bind:=PySem.F.called_set.init.bind (.ref s.heap.objs.size)
   repeat (any_goals (first|assumption|wp_step))
   refine ab3 (codeAny_call_builtin (R:=wants (λr s₂=>r=.none/\∃h' tk,s₂={ s with heap:=h',toks:=tk }/\pI prog w h' s.heap.objs.size (dS [] ns) /\
     (∀b o,b<s.heap.objs.size->s.heap.get? b=some o->h'.get? b=some o)) E) PySem.F.called_set.init.plain PySem.F.entry_set_init (check_set_init_1 hT ?_)) λr₂ s₂ Uj=>?_
   ·obtain⟨ol,Vu,cl,nl,dl⟩:=hl
    obtain⟨oc,od,ZO,os⟩:=ol;simp only at cl dl;subst cl;subst dl;have Uk:(s.heap.push (qB w)).get? l=some { cls:=.type "list",dict:=od,data:=.seq items nl,slots:=os }:=Z3 _ Vu;have q1:=PySem.F.sub_list_set;have q2:=PySem.F.sub_list_frozenset;have q3:(Value.type "list" == Value.type "dict")=false:=by decide
    have hl1:(s.heap.push (qB w)).IsList l items:=⟨_,Uk,rfl,nl,rfl⟩;unfold Builtin.«set.__init__» noKeywords Builtin.Frozenset.updateFrom;generalize Xj:pyIter=PI
    wp_walk
    subst Xj;refine wpAny_pyIter_list hl1 (ZZ (wpAny_runValue ?_));have lS:l<s.heap.objs.size:=aaf Vu;have h3:A.in1.in1.in1.handled=none:=by simp[hh]
    have Xk:l≠(s.heap.push (qB w)).objs.size:=by rw[aa1];exact aam (abK lS)
    have sF:s.heap.objs.size∉[(s.heap.push (qB w)).objs.size,l]:=by rw[aa1];simp only[mem_cons,not_mem_nil,or_false,not_or];exact⟨aam (aaP _),abO lS⟩
    have val:∀(i:Nat) (v:Value),items[i]?=some v->∃t,v=.int ((λi=>ns.getD i 0) i) t:=λi v hv=>IntsAre.int_at hi i v (by rw[abd];exact hv);refine Dz ((Walks.list h3 _ l Xk items).toS) s.heap.objs.size sF (λi=>ns.getD i 0) val (items.size-0) 0 _ [] (by omega) (abb _) (by simpa using hb) ⟨⟨_,aaj _ rfl,rfl,rfl⟩,hl1.push _⟩ ?s0 ?sR
    case s0=>exact Ig (Z3 _ Vt)
    case sR=>
     intro s' hm S';obtain⟨h',g',d',tk',os'⟩:=s';have eg:g'=s.gens:=hm.gens;have ed:d'=s.drawn:=hm.drawn;have eo:os'=s.os:=hm.os;subst eg;subst ed;subst eo;refine Z6 ?_;show wpAny _ _ (ret Value.none) _ _ _;have e0:(range' 0 (items.size-0)).map (λi=>ns.getD i 0)=ns:=by have:=zg hi;rw[aax]at this;exact this
     rw[e0] at S';refine Z6 ⟨rfl,h',tk',rfl,S',λb o hb e=>?_⟩;have b1:b≠s.heap.objs.size:=aam hb;have b2:b≠(s.heap.push (qB w)).objs.size:=by rw[aa1];exact aam (abK hb)
     exact hm.heap b o (by simp only[mem_cons,not_mem_nil,or_false,not_or];exact⟨b1,b2⟩) (Z3 _ (Z3 _ e))
   ·cases r₂ with
    |error e=>exact Uj
    |ok Xl=>
     cases Xl with
     |ret r=>
      obtain⟨rfl,h',tk,rfl,S',hk⟩:=Uj
      repeat (any_goals (first|assumption|wp_step))
      exact h _ _ S' hk
     |_=>exact Uj.elim
  |_=>exact hr.elim
end
namespace SI
theorem zh:entryFor table "set.__iter__" = some Builtin.«frozenset.__iter__» :=
 entryFor_alias (id':="frozenset.__iter__") (by kernel_rfl) rfl (by decide +kernel) (by kernel_rfl)
theorem owner:Manifest.owners.lookup (String.ofList ['r','o','t','a','r','e','t','i','_','t','e','s'].reverse)=some Manifest.sig_set_iterator:=by kernel_rfl
theorem slot_next:Slot "set_iterator" "__next__" "set_iterator.__next__" :=
 .of (owner:="set_iterator") (n:="__next__") (by rw[typeLookup_type,builtinLookup_eq_fast];kernel_rfl) (by decide +kernel) (by decide +kernel) (by decide +kernel) (by first|exact .inl (by decide +kernel)|exact .inr (by decide +kernel)) (by rw[isSubtype_type];kernel_rfl)
theorem entry_next:entryFor table "set_iterator.__next__" = some Builtin.«set_iterator.__next__»:=entryFor_of_tree (by kernel_rfl)
theorem args_next(a:Value):argsOk "set_iterator.__next__" ⟨[a],[]⟩:=by
 unfold argsOk;rw[signature?_of (id:="set_iterator.__next__") (n:=['_','_','t','x','e','n','_','_']) (o:=['r','o','t','a','r','e','t','i','_','t','e','s']) (by kernel_rfl) owner];kernel_rfl
theorem tU:Slot "set_iterator" "__iter__" "set_iterator.__iter__" :=
 .of (owner:="set_iterator") (n:="__iter__") (by rw[typeLookup_type,builtinLookup_eq_fast];kernel_rfl) (by decide +kernel) (by decide +kernel) (by decide +kernel) (by first|exact .inl (by decide +kernel)|exact .inr (by decide +kernel)) (by rw[isSubtype_type];kernel_rfl)
theorem entry_self:entryFor table "set_iterator.__iter__" = some Builtin.«dict_keyiterator.__iter__» :=
 entryFor_alias (id':="dict_keyiterator.__iter__") (by kernel_rfl) rfl (by decide +kernel) (by kernel_rfl)
theorem B6(a:Value):argsOk "set_iterator.__iter__" ⟨[a],[]⟩:=by
 unfold argsOk;rw[signature?_of (id:="set_iterator.__iter__") (n:=['_','_','r','e','t','i','_','_']) (o:=['r','o','t','a','r','e','t','i','_','t','e','s']) (by kernel_rfl) owner];kernel_rfl
end SI
section
variable {prog:Program} {w:World} {A:Around} {E:Value->Shared->Prop} {s:Shared}
def fk(h:Heap)(it:Addr)(f:Value)(i:Nat)(a:Addr)(n ep:Nat):Prop:=∃o,h.get? it=some o/\o.cls=.type "set_iterator" /\ o.data=.fields [f,.int i 0,.ref a,.int n 0,.int ep 0].toArray
theorem fk.typeIs{i:Nat}{n ep:Nat}(x:fk s.heap it f i a n ep):s.TypeIs (.ref it) "set_iterator":=let ⟨o,ho,hc,_⟩:=x;⟨o,ho,hc⟩
theorem nU{i:Nat}{n ep:Nat}(x:fk s.heap it f i a n ep)(h:Q (.ref it) s):wpAny (model prog w) A (pyIter (.ref it)) Q E s:=by
 refine wpAny_pyIter_slot x.typeIs SI.tU (abz SI.tU x.typeIs SI.entry_self ?_ (SI.B6 _));exact Z6 ⟨_,rfl,"set_iterator",_,x.typeIs,SI.slot_next.lookup,h⟩
end
section
variable {prog:Program} {w:World} {A:Around} {E:Value->Shared->Prop} {s:Shared}
theorem iu{ep:Nat}(ho:s.heap.get? a=some o)(hd:o.data=.set es ep t)(hf:t.fits es.size=true)(h:Q es s):wpAny (model prog w) A (setEntries a) Q E s:=by
 unfold setEntries;exact ZZ (abi ho hd hf (Z6 h))
theorem kH(h:Q (sP w) s):wpAny (model prog w) A setsByText Q E s:=by
 unfold setsByText;exact ZZ (wpAny_askSetting (Z6 h))
theorem tW{ep sl g:Nat}{ks:List Int}(S:eE prog w s.heap a o es ep t ks)(hb:sP w=false)(hp:(!t.plain&&decide (es.size>1))=false)
  (hQ:Q (match es[SetTable.below t.place sl]?,t.place[SetTable.below t.place sl]? with|some (_,x),some j=>some (x,j+1)|_,_=>none) s):wpAny (model prog w) A (setNext a sl g ep) Q E s:=by
 have led:t.led=true:=by rw[S.tab.led,hb];rfl
 unfold setNext;refine ZZ (abi S.at_ S.dat S.tab.fit ?_);dsimp only;refine ZZ (kH ?_);rw[hb];simp only[false_eq_true,↓reduceIte];rw[Z8 (λz=>by
  have z':(!t.plain&&decide (es.size>1))=true:=z;rw[hp]at z';cases z')]
 refine ZZ ?_;show wpAny _ _ (if (!t.led && !es.isEmpty)=true then Sem.unsupported "set:maker-not-led" else pure ()) _ _ _;rw[Z8 (by rw[led];simp)];exact Z6 (Z6 hQ)
theorem tX{ep sl g:Nat}{ks:List Int}(S:eE prog w s.heap a o es ep t ks)(hb:sP w=true)
  (hQ:Q (((pickOrder (w.params.setOrder a ep) es)[g]?).map λe=>(e.2,sl)) s):wpAny (model prog w) A (setNext a sl g ep) Q E s:=by
 unfold setNext;refine ZZ (abi S.at_ S.dat S.tab.fit ?_);dsimp only;refine ZZ (kH ?_);rw[hb];simp only[bne_self_eq_false,false_eq_true,↓reduceIte];unfold setWalk;refine ZZ (ZZ (abi S.at_ S.dat S.tab.fit ?_));dsimp only;refine ZZ (kH ?_);rw[hb];simp only[↓reduceIte];exact ZZ (wpAny_askSetting (Z6 (Z6 hQ)))
theorem mC{ep:Nat}{ks:List Int}{i sl:Nat}(hh:A.handled=none)(x:fk s.heap it (.int sl 0) i a es.size ep)(S:eE prog w s.heap a o es ep t ks)
  (hn:∀(A:Around) (E:Value->Shared->Prop) (Q:Option (Value×Nat)->Shared->Prop),Q r s->wpAny (model prog w) A (setNext a sl i ep) Q E s)
  (hQ:∀v nx,r=some (v,nx)->∀h',fk h' it (.int (nx:Nat) 0) (i+1) a es.size ep->Heap.SameBut it s.heap h'->Q (some v) { s with heap:=h' })
  (hE:r=none->∀h',Heap.ExtBut it s.heap h'->Q none { s with heap:=h' }):wpAny (model prog w) A (pyNext (.ref it)) Q E s:=by
 obtain⟨oi,GQ,Ul,hdi⟩:=id x;unfold pyNext;refine ZZ (wpAny_attempt (abZ (name:=Str.ofString "__next__") x.typeIs SI.slot_next (abz SI.slot_next x.typeIs SI.entry_next ?_ (SI.args_next _))));unfold Builtin.«set_iterator.__next__»;refine ZZ (Z6 ?_);refine ZZ (wpAny_fieldsOf GQ hdi ?_);dsimp only;refine ZZ (iu S.at_ S.dat S.tab.fit ?_);rw[Z8 (by simp)];refine ZZ (hn _ _ _ ?_);cases r with
 |some p=>
  obtain⟨v,nx⟩:=p;dsimp only;refine ZZ (abN GQ hdi (by simp) ?_);have h1:=aaR (Obj.mapFields (·.setIfInBounds 0 (rawInt nx))) GQ (abI (aa4 hdi _));have d1:=aa4 hdi (·.setIfInBounds 0 (rawInt nx));refine ZZ (abN h1 d1 (by simp) ?_);have h2:=aaR (Obj.mapFields (·.setIfInBounds 1 (rawInt ((i:Int)+1)))) h1 (abI (aa4 d1 _));refine Z6 ⟨_,rfl,Z6 (hQ v nx rfl _ ⟨_,h2,?_,?_⟩ ((aaZ ..).trans (aaZ ..)))⟩
  ·rw[Obj.cls_mapFields,Obj.cls_mapFields];exact Ul
  ·rw[aa4 d1];simp[rawInt]
 |none=>dsimp only;refine ZZ (abN GQ hdi (by simp) ?_);refine ZZ ?_;simp only[newExc,newTuple];refine ZZ (aaG ?_ (by size_fits));refine ZZ (m:=firstArgMember _ _) (wpAny_of_eq (a:=Value.none) (by first|rfl|(simp only[firstArgMember];rfl)) ?_);refine aaG ?_ (by size_fits);simp only[raiseNew];refine ZZ (wpAny_handled ?_);rw[show A.in1.handled=none from hh];refine ZZ (Z6 (wpAny_throw ?_));refine ZZ (wpAny_isInstance (T:="StopIteration") (b:=true) ⟨_,aaj _ rfl,rfl⟩ isSubtype_stop ?_);exact Z6 (hE rfl _ (((aaZ ..).extBut.push _).push _))
end
theorem lJ{α:Type}:∀(l:List α) (i:Nat) (h:i<l.length),(l[i]::l.eraseIdx i).Perm l
 |x::l,0,_=>abp _
 | x::l,i+1,h=>by
  simp only[List.getElem_cons_succ,List.eraseIdx_cons_succ];exact(List.Perm.swap _ _ _).trans (List.Perm.cons x (lJ l i (by simpa using h)))
section
variable {prog:Program} {w:World} {A:Around} {E:Value->Shared->Prop} {s:Shared}
theorem B7{n:Nat}(hn:n≠0)(h:∀i d,i<n->Q i { s with drawn:=d }):wpAny (model prog w) A (choose src n) Q E s:=fun Γ p hΓ=>by
 show Sem.wp _ _ (Sem.choose src n Sem.pure) _ _ _ _;rw[Sem.wp];exact⟨hn,h _ _ (mod_lt _ (Nat.pos_of_ne_zero hn))⟩
theorem Aj{α:Type}:∀(n:Nat) (xs:List α) (s:Shared) (Q:List α -> Shared->Prop),xs.length=n->(∀ys d,ys.Perm xs->Q ys { s with drawn:=d })->wpAny (model prog w) A (drawOrder n xs) Q E s
 | 0,xs,s,Q,hl,h=>by
  have:xs=[]:=abB hl;subst this;unfold drawOrder;exact Z6 (h [] s.drawn (abp _))
 |n+1,[],s,Q,hl,h=>by simp at hl
 | n+1,x::xs,s,Q,hl,h=>by
  unfold drawOrder;refine ZZ (B7 (by simp) λi d hi=>?_);have hx:(x::xs)[i]?=some ((x::xs)[i]):=aap hi;rw[hx];dsimp only;refine ZZ (Aj n ((x::xs).eraseIdx i) _ _ (by rw[List.length_eraseIdx,Z7 hi];simp at hl |-;omega) λys d' p=>Z6 ?_);exact h _ d' (((List.Perm.cons _ p).trans (lJ _ i hi)))
theorem qC{ep c:Nat}{ks:List Int}{i:Nat}{ps:List Nat}(hh:A.handled=none)(x:fk s.heap it (.ref td) i a es.size ep)(S:eE prog w s.heap a o es ep t ks)
  (hT:s.heap.get? td=some oT) (SE:oT.data=.seq (ps.map λ(j:Nat)=>rawInt j).toArray c) (hlt:∀j∈ps,j<es.size)
  (hQ:∀j e,ps[i]?=some j->es[j]?=some e->∀h',fk h' it (.ref td) (i+1) a es.size ep->Heap.SameBut it s.heap h'->Q (some e.2) { s with heap:=h' })
  (hE:ps[i]?=none->∀h',Heap.ExtBut it s.heap h'->Q none { s with heap:=h' }):wpAny (model prog w) A (pyNext (.ref it)) Q E s:=by
 obtain⟨oi,GQ,Ul,hdi⟩:=id x;unfold pyNext;refine ZZ (wpAny_attempt (abZ (name:=Str.ofString "__next__") x.typeIs SI.slot_next (abz SI.slot_next x.typeIs SI.entry_next ?_ (SI.args_next _))));unfold Builtin.«set_iterator.__next__»;refine ZZ (Z6 ?_);refine ZZ (wpAny_fieldsOf GQ hdi ?_);dsimp only;refine ZZ (iu S.at_ S.dat S.tab.fit ?_);rw[Z8 (by simp)];refine ZZ (wpAny_seqItems hT SE ?_);dsimp only;have hg:((ps.map λ(j:Nat)=>rawInt j).toArray)[((i:Nat):Int).toNat]?=(ps[i]?).map λ(j:Nat)=>rawInt j:=by simp
 rw[hg];cases hp:ps[i]? with
 |some j=>
  have hj:j<es.size:=hlt j (aaq hp);simp only[map_some,rawInt];refine ZZ ?_;unfold setNextDrawn;refine ZZ (abi S.at_ S.dat S.tab.fit ?_);dsimp only;rw[Z8 (by simp)];have Xm:es[((j:Nat):Int).toNat]?=some es[j]:=by simp[hj]
  rw[Xm];refine Z6 ?_;refine ZZ (abN GQ hdi (by simp) ?_);have h2:=aaR (Obj.mapFields (·.setIfInBounds 1 (.int ((i:Int)+1) 0))) GQ (abI (aa4 hdi _));refine Z6 ⟨_,rfl,Z6 (hQ j _ hp (aaM hj) _ ⟨_,h2,?_,?_⟩ (aaZ ..))⟩
  ·rw[Obj.cls_mapFields];exact Ul
  ·rw[aa4 hdi];simp
 |none=>simp only[Option.map_none];refine ZZ (abN GQ hdi (by simp) ?_);have h1:=aaR (Obj.mapFields (·.setIfInBounds 0 (rawInt 0))) GQ (abI (aa4 hdi _));have d1:=aa4 hdi (·.setIfInBounds 0 (rawInt 0));refine ZZ (abN h1 d1 (by simp) ?_);refine ZZ ?_;simp only[newExc,newTuple];refine ZZ (aaG ?_ (by size_fits));refine ZZ (m:=firstArgMember _ _) (wpAny_of_eq (a:=Value.none) (by first|rfl|(simp only[firstArgMember];rfl)) ?_);refine aaG ?_ (by size_fits);simp only[raiseNew];refine ZZ (wpAny_handled ?_);rw[show A.in1.handled=none from hh];refine ZZ (Z6 (wpAny_throw ?_));refine ZZ (wpAny_isInstance (T:="StopIteration") (b:=true) ⟨_,aaj _ rfl,rfl⟩ isSubtype_stop ?_);exact Z6 (hE hp _ ((((aaZ ..).trans (aaZ ..)).extBut.push _).push _))
end
theorem tY{α:Type}(f:Nat->Nat):∀(n k:Nat) (l:List α) (out:Array α),l.length=n->(pickOrder.go f n k l out).toList.Perm (out.toList++l)
 | 0,k,l,out,h=>by
  have:l=[]:=abB h;subst this;unfold pickOrder.go;simp
 | n+1,k,l,out,h=>by
  unfold pickOrder.go;have hl:0<l.length:=by omega
  have hi:f k%l.length<l.length:=mod_lt _ hl;rw[aap hi];dsimp only;refine(tY f n (k+1) _ _ (by rw[List.length_eraseIdx,Z7 hi];omega)).trans ?_;rw[Array.toList_push,acB];exact List.Perm.append_left _ (lJ l _ hi)
theorem tZ{t:SetTable}{n:Nat}(h:t.fits n=true):t.place.size=n:=by
 simp only[SetTable.fits,and_eq_true,beq_iff_eq]at h;exact h.1
def SG(t:SetTable):Nat->Nat
 |0=>0
 |i+1=>t.place.getD i 0+1
theorem t6(r:tQ t.place):∀i,i<=t.place.size->SetTable.below t.place (SG t i)=i
 |0,_=>ze r
 | i+1,h=>by
  have hi:i<t.place.size:=h;have e:SG t (i+1)=t.place[i]+1:=by simp[SG,Array.getD,hi]
  rw[e];exact zf r hi
section
variable {prog:Program} {w:World} {A:Around} {E:Value->Shared->Prop} {s:Shared}
theorem eE.keep{ep:Nat}{ks:List Int}(S:eE prog w h a o es ep t ks)(k:∀o,h.get? a=some o->h'.get? a=some o):eE prog w h' a o es ep t ks:={ S with at_:=k o S.at_ }
theorem fk.keep{i:Nat}{n ep:Nat}(x:fk h it f i a n ep)(k:∀o,h.get? it=some o->h'.get? it=some o):fk h' it f i a n ep:=by
 obtain⟨o,ho,r⟩:=x;exact⟨o,k o ho,r⟩
def PL(L:List (Int×Value))(i:Nat)(v:Value):Prop:=∃e,L[i]?=some e/\v=e.2
theorem B8(hh:A.handled=none){ep:Nat}{ks:List Int}(hne:a≠I)(hb:sP w=false)(hp:(!t.plain&&decide (es.size>1))=false) :
  Walks prog w A I [I,a] [I] es.toList.length (PL es.toList) (λi h=>eE prog w h a o es ep t ks/\fk h I (.int (SG t i) 0) i a es.size ep) where
 sub:=λb hb=>by simp at hb;simp[hb]
 frame:=λ_ _ _ st hk=>⟨st.1.keep λo e=>hk a (by simp) o e,st.2.keep λo e=>hk I (by simp) o e⟩
 item:=λi s Q E hi st hQ=>by
  have hi:i<es.size:=by simpa using hi
  have hz:=tZ st.1.tab.fit;have hb':=t6 st.1.tab.rs i (by rw[hz];exact abv hi);refine mC (r:=some (es[i].2,t.place.getD i 0+1)) hh st.2 st.1 (λA E Q q=>tW st.1 hb hp ?_) (λv nx e h' x' sb=>?_) (λe=>nomatch e)
  ·rw[hb',aaM hi,aaM (by rw[hz];exact hi)]
   have e1:t.place[i]'(by rw[hz];exact hi)=t.place.getD i 0:=by simp[Array.getD,hz,hi]
   dsimp only;rw[e1];exact q
  ·cases e;exact hQ _ h' s.toks ⟨es[i],by simp[hi],rfl⟩ ⟨st.1.keep λo e=>sb.extBut a o hne e,x'⟩ λb o hb e=>sb.extBut b o (λz=>hb (by simp[z])) e
 done:=λs Q E st hQ=>by
  have hz:=tZ st.1.tab.fit;have hb':=t6 st.1.tab.rs es.toList.length (by rw[hz];simp);refine mC (r:=none) hh st.2 st.1 (λA E Q q=>tW st.1 hb hp ?_) (λv nx e=>nomatch e) (λ_ h' sb=>hQ h' s.toks λb o hb e=>sb b o (λz=>hb (by simp[z])) e);rw[hb',Array.getElem?_eq_none (by simp)];exact q
 self:=λ_ _ _ _ st hQ=>nU st.2 hQ
theorem B9(hh:A.handled=none){ep:Nat}{ks:List Int}(hne:a≠I)(hb:sP w=true) :
  Walks prog w A I [I,a] [I] (pickOrder (w.params.setOrder a ep) es).toList.length (PL (pickOrder (w.params.setOrder a ep) es).toList) (λi h=>eE prog w h a o es ep t ks/\fk h I (.int (0:Nat) 0) i a es.size ep) where
 sub:=λb hb=>by simp at hb;simp[hb]
 frame:=λ_ _ _ st hk=>⟨st.1.keep λo e=>hk a (by simp) o e,st.2.keep λo e=>hk I (by simp) o e⟩
 item:=λi s Q E hi st hQ=>by
  have hi:i<(pickOrder (w.params.setOrder a ep) es).size:=by simpa using hi
  refine mC (r:=some ((pickOrder (w.params.setOrder a ep) es)[i].2,0)) hh st.2 st.1 (λA E Q q=>tX st.1 hb ?_) (λv nx e h' x' sb=>?_) (λe=>nomatch e)
  ·rw[aaM hi];exact q
  ·cases e;exact hQ _ h' s.toks ⟨(pickOrder (w.params.setOrder a ep) es)[i],by simp[hi],rfl⟩ ⟨st.1.keep λo e=>sb.extBut a o hne e,x'⟩ λb o hb e=>sb.extBut b o (λz=>hb (by simp[z])) e
 done:=λs Q E st hQ=>by
  refine mC (r:=none) hh st.2 st.1 (λA E Q q=>tX st.1 hb ?_) (λv nx e=>nomatch e) (λ_ h' sb=>hQ h' s.toks λb o hb e=>sb b o (λz=>hb (by simp[z])) e);rw[Array.getElem?_eq_none (by simp)];exact q
 self:=λ_ _ _ _ st hQ=>nU st.2 hQ
theorem zj(hh:A.handled=none){ep c:Nat}{ks:List Int}{ps:List Nat}(hne:a≠I)(hnt:td≠I)(hlt:∀j∈ps,j<es.size)(SE:oT.data=.seq (ps.map λ(j:Nat)=>rawInt j).toArray c) :
  Walks prog w A I [I,a,td] [I] ps.length (PL (ps.map λj=>es.getD j (0,.none))) (λi h=>eE prog w h a o es ep t ks/\fk h I (.ref td) i a es.size ep/\h.get? td=some oT) where
 sub:=λb hb=>by simp at hb;simp[hb]
 frame:=λ_ _ _ st hk=>⟨st.1.keep λo e=>hk a (by simp) o e,st.2.1.keep λo e=>hk I (by simp) o e,hk td (by simp) _ st.2.2⟩
 item:=λi s Q E hi st hQ=>by
  refine qC hh st.2.1 st.1 st.2.2 SE hlt (λj e hj he h' x' sb=>?_) (λhn=>absurd hn (by rw[aap hi];simp));refine hQ _ h' s.toks ⟨e,?_,rfl⟩ ⟨st.1.keep λo e=>sb.extBut a o hne e,x',sb.extBut td _ hnt st.2.2⟩ λb o hb e=>sb.extBut b o (λz=>hb (by simp[z])) e;rw[aas,hj];have hjl:j<es.size:=(abM.mp he).1;have:=(abM.mp he).2;simp[Array.getD,hjl,this]
 done:=λs Q E st hQ=>qC hh st.2.1 st.1 st.2.2 SE hlt (λj e hj=>absurd hj (by simp)) (λ_ h' sb=>hQ h' s.toks λb o hb e=>sb b o (λz=>hb (by simp[z])) e)
 self:=λ_ _ _ _ st hQ=>nU st.2.1 hQ
end
section
variable {prog:Program} {w:World} {A:Around} {E:Value->Shared->Prop} {s:Shared}
theorem DC{ep:Nat}{ks:List Int}(S:eE prog w s.heap a o es ep t ks)(h:Q (!sP w&&(!t.plain&&decide (es.size>1))) s):wpAny (model prog w) A (setDrawn a) Q E s:=by
 unfold setDrawn;refine ZZ (abi S.at_ S.dat S.tab.fit ?_);dsimp only;exact ZZ (kH (Z6 h))
theorem wL{ep:Nat}{ks:List Int}(S:eE prog w s.heap a o es ep t ks)(h:Q ep s):wpAny (model prog w) A (setEpoch a) Q E s:=wpAny_setEpoch_of S.at_ S.dat S.tab.fit h
theorem DE(hh:A.handled=none){ep:Nat}{ks:List Int}(S:eE prog w s.heap a o es ep t ks)
  (hQ:∀(h':Heap) d (I:Addr) (fp:List Addr) (L:List (Int×Value)) (St:Nat->Heap->Prop),L.Perm es.toList->Walks prog w A I fp [I] L.length (PL L) St->St 0 h'->s.heap.objs.size<=I->I<h'.objs.size->(∀b∈fp,b=a\/s.heap.objs.size<=b)->(∀b o,s.heap.get? b=some o->h'.get? b=some o)->Q (.ref I) { s with heap:=h',drawn:=d }) :
  wpAny (model prog w) A (pyIter (.ref a)) Q E s:=by
 have hT:s.TypeIs (.ref a) "set":=⟨o,S.at_,S.ex.1⟩;have hlt:a<s.heap.objs.size:=aaf S.at_;refine wpAny_pyIter_slot hT PySem.F.slot_set_iter (abz PySem.F.slot_set_iter hT SI.zh ?_ (PySem.F.args_set_iter_1 _));unfold Builtin.«frozenset.__iter__» Builtin.Frozenset.slot0 Builtin.Frozenset.sizeOf;refine ZZ (ZZ (Z6 (Z6 ?_)));refine ZZ (ZZ (iu S.at_ S.dat S.tab.fit (Z6 ?_)));refine ZZ (DC S ?_);cases hd:(!sP w&&(!t.plain&&decide (es.size>1))) with
 |false=>
  simp only[false_eq_true,↓reduceIte];refine ZZ (Z6 ?_);refine ZZ (wL S ?_);refine ZZ (aaG (Z6 ⟨_,rfl,"set_iterator",_,⟨_,aaj _ rfl,rfl⟩,SI.slot_next.lookup,?_⟩));have e:s={ s with drawn:=s.drawn }:=by cases s;rfl
  have Vv:∀b∈[s.heap.objs.size,a],b=a\/s.heap.objs.size<=b:=λb hb=>by
   simp only[mem_cons,not_mem_nil,or_false]at hb
   rcases hb with rfl|rfl
   ·exact .inr (aaa _)
   ·exact .inl rfl
  have sz:s.heap.objs.size<(s.heap.push { cls:=.type "set_iterator",data:=.fields ([rawInt 0,rawInt 0,.ref a,rawInt es.size,rawInt ep]:List Value).toArray }).objs.size:=by rw[aa1];exact aaP _
  cases hb:sP w with
  |true=>exact hQ _ s.drawn _ _ _ _ (tY _ _ 0 es.toList #[] (by simp)) (B9 hh (aam hlt) hb) ⟨S.keep λo e=>Z3 _ e,⟨_,aaj _ rfl,rfl,rfl⟩⟩ (aaa _) sz Vv λb o e=>Z3 _ e
  |false=>rw[hb]at hd;exact hQ _ s.drawn _ _ _ _ (abp _) (B8 hh (aam hlt) hb (by simpa using hd)) ⟨S.keep λo e=>Z3 _ e,⟨_,aaj _ rfl,rfl,rfl⟩⟩ (aaa _) sz Vv λb o e=>Z3 _ e
 |true=>
  simp only[↓reduceIte];refine ZZ (Aj es.size (List.range es.size) s _ (by simp) λps d pp=>?_);refine ZZ ?_;simp only[newTuple];refine aaG ?_ (by show (toArray _).size<=sizeLine;rw[aae,Z4,pp.length_eq,acz];exact ab5 S.tab.few);have S1:eE prog w (s.heap.push { cls:=.type "tuple",data:=.seq (ps.map λ(i:Nat)=>rawInt i).toArray }) a o es ep t ks:=S.keep λo e=>Z3 _ e;refine ZZ (wL S1 ?_);refine ZZ (aaG (Z6 ⟨_,rfl,"set_iterator",_,⟨_,aaj _ rfl,rfl⟩,SI.slot_next.lookup,?_⟩));have hpl:∀j∈ps,j<es.size:=λj hj=>by simpa using pp.mem_iff.mp hj
  have perm:(ps.map λj=>es.getD j (0,Value.none)).Perm es.toList:=by
   have e2:(List.range es.size).map (λj=>es.getD j (0,Value.none))=es.toList:=by
    apply ach
    ·simp
    ·intro i h1 h2
     have hi:i<es.size:=by simpa using h2
     simp[Array.getD,hi]
   rw[<-e2];exact pp.map _
  have z1:(s.heap.push { cls:=.type "tuple",data:=.seq (ps.map λ(i:Nat)=>rawInt i).toArray }).objs.size=s.heap.objs.size+1:=aa1 _ _;have W:=zj (prog:=prog) (w:=w) (A:=A) (o:=o) (ep:=ep) (t:=t) (ks:=ks) hh (I:=s.heap.objs.size+1) (a:=a) (td:=s.heap.objs.size) (oT:={ cls:=.type "tuple",data:=.seq (ps.map λ(i:Nat)=>rawInt i).toArray }) (es:=es) (c:=0) (ps:=ps) (aam (abK hlt)) (aam (aaP _)) hpl rfl;rw[show ps.length=(ps.map λj=>es.getD j (0,Value.none)).length by simp] at W;rw[z1];refine hQ _ d _ _ _ _ perm W ⟨S1.keep λo e=>Z3 _ e,⟨{ cls:=.type "set_iterator",data:=.fields ([.ref s.heap.objs.size,rawInt 0,.ref a,rawInt es.size,rawInt ep]:List Value).toArray },?_,rfl,rfl⟩,Z3 _ (aaj _ rfl)⟩ (aaV _) ?_ ?_ λb o e=>Z3 _ (Z3 _ e)
  ·rw[<-z1];exact aaj _ rfl
  ·rw[aa1,z1];exact aaP _
  ·intro b hb
   simp only[mem_cons,not_mem_nil,or_false]at hb
   rcases hb with rfl|rfl|rfl
   ·exact .inr (aaV _)
   ·exact .inl rfl
   ·exact .inr (aaa _)
end
section
variable {prog:Program} {w:World} {A:Around} {E:Value->Shared->Prop} {s:Shared}
theorem DF(hT:s.TypeIs (.ref r) "set")(h:Q false s):wpAny (model prog w) A (Builtin.List.listLengthHint (.ref r)) Q E s:=by
 unfold Builtin.List.listLengthHint;refine ZZ (wpAny_specialOf hT PySem.F.slot_set_len.lookup ?_);generalize hid:("set.__len__":String)=Xn
 wp_delta
 rw[show splitId Xn=some ("set","__len__") from by subst hid;decide +kernel];subst hid;refine ZZ (wpAny_isInstance (T:="set") (b:=true) hT sub_set_self ?_);refine wpAny_ite_split (λz=>absurd z (by decide)) (λ_=>?_);refine wpAny_ite_split (λ_=>?_) (λz=>absurd (by decide +kernel) z);exact ZZ (wpAny_typeOf hT (Z6 h))
theorem wM(hh:A.handled=none){ep:Nat}{ks:List Int}(S:eE prog w s.heap a o es ep t ks)
  (h:∀(h':Heap) (tk:Nat) d (L:List (Int×Value)),(∀b o,s.heap.get? b=some o->h'.get? b=some o)->s.heap.objs.size<h'.objs.size->L.Perm es.toList->R (L.map (·.2)) { s with heap:=h',toks:=tk,drawn:=d }) :
  wpAny (model prog w) A (collect (.ref a)) R E s:=by
 have hlt:a<s.heap.objs.size:=aaf S.at_;unfold collect;refine ZZ (wpAny_runValue (abF entry_proto_collect' ?_));rw[aby PySem.F.plain_proto_collect _];show wpAny _ A.in1 (newList [] >>= λl=>again (.builtin "list.__iadd__" ⟨[l,.ref a],[]⟩)) _ _ s;refine ZZ (aaG ?_);refine Z6 ⟨acj PySem.F.plain_list_iadd _,abF entry_list_iadd' ?_⟩;rw[aby PySem.F.plain_list_iadd _]
 let s1:Shared:={ s with heap:=s.heap.push { cls:=.type "list",data:=.seq ([]:List Value).toArray } }
 have l1:s1.heap.get? s.heap.objs.size=some { cls:=.type "list",data:=.seq #[] }:=aaj _ rfl;have S1:eE prog w s1.heap a o es ep t ks:=S.keep λo e=>Z3 _ e;have z1:s1.heap.objs.size=s.heap.objs.size+1:=aa1 _ _;have hT:s1.TypeIs (.ref a) "set":=⟨o,S1.at_,S1.ex.1⟩;show wpAny _ A.in1 (Builtin.List.listExtendWith (.ref s.heap.objs.size) (.ref a) (.ref s.heap.objs.size)) _ _ s1;unfold Builtin.List.listExtendWith;refine ZZ (wpAny_typeOf hT ?_);have n1:Builtin.List.listSameRef (.ref s.heap.objs.size) (.ref a)=false:=by simp[Builtin.List.listSameRef,Nat.ne_of_gt hlt]
 simp only[n1,show (Value.type "set" == Value.type "list")=false by decide,show (Value.type "set" == Value.type "tuple")=false by decide,Bool.or_false,false_eq_true,if_false];refine ZZ (DE (A:=A.in1) (by simp[hh]) S1 λh2 d I fp L St perm W st zI ZP hfp k2=>?_);have l2:h2.get? s.heap.objs.size=some { cls:=.type "list",data:=.seq #[] }:=k2 _ _ l1;have nfp:s.heap.objs.size∉fp:=λz=>by
  rcases hfp _ z with e|e
  ·exact absurd e (abO hlt)
  ·rw[z1]at e;exact absurd e (Nat.not_succ_le_self _)
 have hl:L.length<=sizeLine:=by rw[perm.length_eq,aax];exact ab5 S.tab.few
 have key:∀(hp:Heap) (c₁:Nat) (Rr:Result->Shared->Prop),St 0 hp->(∀b o,b≠s.heap.objs.size->h2.get? b=some o->hp.get? b=some o)->hp.get? s.heap.objs.size=some { cls:=.type "list",data:=.seq #[] c₁ } ->
   (∀(s':Shared) (acc:Array Value) (c:Nat),s'.heap.get? s.heap.objs.size=some { cls:=.type "list",dict:=none,data:=.seq acc c,slots:=#[] }->R acc.toList s'->Rr (.ok (.ret (.ref s.heap.objs.size))) s') ->
   codeAny (model prog w) A (.builtin "list.extend.loop" ⟨[.ref s.heap.objs.size,.ref I,.ref s.heap.objs.size],[]⟩) Rr { s1 with heap:=hp,drawn:=d }:=by
  intro hp c₁ Rr hst hk hS hR;refine codeAny_extend_loopS W.toS hl s.heap.objs.size nfp (.ref s.heap.objs.size) L.length 0 _ #[] c₁ rfl (abb _) hst hS (ItemsOf.nil _) λs' acc c hm hS' hacc=>?_;refine hR s' acc c hS' ?_;have ea:acc.toList=L.map (·.2):=by
   apply ach
   ·rw[aax,hacc.1,Z4]
   ·intro j h1 h2
    have hj:j<acc.size:=by simpa using h1
    obtain⟨e,he,hv⟩:=hacc.2 j acc[j] (aaM hj);rw[Array.getElem_toList,hv,abP];obtain⟨hj2,e2⟩:=Z5.mp he;rw[e2]
  rw[ea,Moved.eq_with hm];refine h s'.heap s'.toks d L (λb o e=>?_) (aaf hS') perm;have hb:b<s.heap.objs.size:=aaf e;refine hm.heap b o (λz=>?_) (hk b o (aam hb) (k2 b o (Z3 _ e)))
  rcases aao.mp z with z|z
  ·exact absurd z (aam hb)
  ·rw[aai]at z;rw[z]at hb;rw[z1]at zI;exact absurd (aah hb (Nat.le_of_succ_le zI)) (aa0 _)
 have fin:∀(s':Shared) (acc:Array Value) (c:Nat),s'.heap.get? s.heap.objs.size=some { cls:=.type "list",dict:=none,data:=.seq acc c,slots:=#[] }->R acc.toList s'->wpAny (model prog w) A (load s.heap.objs.size >>= λob=>(match ob.data with|.seq xs _=>pure xs.toList|_=>unsupported "internal:collect")) R E s':=λs' acc c e q=>ZZ (wpAny_load e (Z6 q));refine ZZ (aa6 (DF ⟨o,k2 _ _ S1.at_,S1.ex.1⟩ ?_));refine wpAny_ite_split (λ_=>?_) (λ_=>Z6 ⟨acj PySem.F.plain_extend_loop _,key _ 0 _ st (λb o _ e=>e) l2 fin⟩);refine ZZ (wpAny_rule ?_);refine ZZ ?_;show wpAny _ _ (updateSeq s.heap.objs.size (·.push .none) >>= λ_=>updateSeq s.heap.objs.size (·.pop)) _ _ _;refine ZZ (wpAny_updateSeq l2 rfl ?_);have l3:=aaR (Obj.mapSeq (·.push Value.none)) l2 rfl;refine wpAny_updateSeq (hz:=by seq_fits) l3 rfl ?_;have l4:=aaR (Obj.mapSeq (·.pop)) l3 rfl;have oth:∀b o,b≠s.heap.objs.size->h2.get? b=some o->((h2.update s.heap.objs.size (Obj.mapSeq (·.push Value.none))).update s.heap.objs.size (Obj.mapSeq (·.pop))).get? b=some o:=λb o hb e=>(abC _ _ (Ne.symm hb)).trans ((abC _ _ (Ne.symm hb)).trans e);exact Z6 ⟨acj PySem.F.plain_extend_loop _,key _ _ _ (W.frame 0 _ _ st λb hb o e=>oth b o (λz=>nfp (z▸hb)) e) oth l4 fin⟩
end
theorem wN:∀(ks ns:List Int),ks.Nodup->(∀k∈ks,k∈ns)->ks.length=ns.length->ks.Perm ns
 | [],ns,_,_,h=>by
  have:ns=[]:=abB h.symm;subst this;exact abp _
 | k::ks,ns,nd,hs,hl=>by
  have hk:=hs k Z9;have Vw:=aaC.mp nd;have p:=List.perm_cons_erase hk;refine(List.Perm.cons k (wN ks (ns.erase k) Vw.2 (λx hx=>?_) ?_)).trans p.symm
  ·exact(List.mem_erase_of_ne λz=>Vw.1 (by rw[<-z];exact hx)).mpr (hs x (aab _ hx))
  ·rw[abT hk];simp only[length_cons]at hl;omega
def wO:Value->Int
 |.int i _=>i
 |_=>0
section
variable {prog:Program} {w:World} {A:Around} {E:Value->Shared->Prop} {s:Shared}
theorem qD:∀{L:List (Int×Value)},ElemsOf (intKind prog w) L->IntsAre (L.map (·.2)) (L.map λe=>wO e.2)
 |[],_=>.nil
 | (h,v)::L,el=>by
  obtain⟨⟨k,hk,_⟩,_⟩:=el _ Z9;obtain⟨t,e⟩:=Value.isInt_shape (k:=k) (v:=v) hk;subst e;exact .cons k t (qD λx hx=>el x (aab _ hx))
theorem DG{h:Heap}{a:Addr}{o:Obj}{es:Array (Int×Value)}{ep:Nat}{t:SetTable}{ks:List Int}(S:eE prog w h a o es ep t ks){L:List (Int×Value)}(p:L.Perm es.toList):(L.map λe=>wO e.2).Perm ks:=by
 refine(wN ks _ S.Vq (λk hk=>?_) ?_).symm
 ·obtain⟨e,he,q⟩:=(S.mem k).mp hk;obtain⟨t',ev⟩:=Value.isInt_shape (k:=k) (v:=e.2) q;exact aaK.mpr ⟨e,p.mem_iff.mpr he,by rw[ev];rfl⟩
 ·have:=S.num;rw[Z4,p.length_eq,aax];exact this.symm
theorem zk(hh:A.handled=none){ep:Nat}{ks:List Int}(S:eE prog w s.heap a o es ep t ks)(h64:ks.length<64)
  (hQ:∀(h':Heap) (tk:Nat) d (D:Addr) (out:List Value) (e:Nat),(∀b o,s.heap.get? b=some o->h'.get? b=some o)->s.heap.objs.size<=D->h'.get? D=some (seqObj "list" out.toArray e)->IntsAre out (sortI ks)->Q (.ref D) { s with heap:=h',toks:=tk,drawn:=d }) :
  wpAny (model prog w) A (call (.builtin "sorted") [.ref a]) Q E s:=by
 refine lX.eB (O:=lX.lG) (wM (A:=A.in1) (by simp[hh]) S λh' tk d L hk hz perm=>?_);have el:ElemsOf (intKind prog w) L:=S.el.perm perm;have hI:=qD el;have pk:=DG S perm;have hl:(L.map (·.2)).length<64:=by rw[Z4];have:=pk.length_eq;rw[Z4]at this;omega
 refine⟨hl,λi=>(L.map λe=>wO e.2).getD i 0,λh2 h6 _=>lX.lH hI h2,λp h'' outs k2 he=>?_⟩;obtain⟨e,he⟩:=he;have lv:(L.map (·.2)).length=(L.map λe=>wO e.2).length:=by rw[Z4,Z4]
 have mem:∀i∈p,i<L.length:=λi hi=>by have:=outs.perm.mem_iff.mp hi;simpa using this
 have pn:(p.map λi=>(L.map λe=>wO e.2).getD i 0).Perm ks:=by have:=outs.perm.map λi=>(L.map λe=>wO e.2).getD i 0;rw[lv,lX.b9]at this;exact this.trans pk
 have up:(p.map λi=>(L.map λe=>wO e.2).getD i 0).Pairwise (· <= ·):=by refine acC (R:=lX.lG.kle) (λ{x y:Int} hxy=>?_) outs.up;have hxy:(decide (y<x):Bool)=false:=hxy;exact not_lt.mp (acs hxy)
 have es:=abn pn up;refine hQ h'' tk d h'.objs.size _ e (λb o z=>k2 b o (hk b o z)) (abv hz) he ?_;rw[<-es];clear he es up pn outs
 induction p with
 |nil=>exact .nil
 |cons i r ih=>
  have hi:=mem i Z9;have hi2:i<(L.map (·.2)).length:=by simpa using hi
  obtain⟨t',ev⟩:=IntsAre.int_at hI i _ (aap hi2);rw[aac,aac];have e1:(L.map (·.2)).getD i Value.none=.int ((L.map λe=>wO e.2).getD i 0) t':=by rw[<-ev];simp[List.getD,List.getElem?_eq_getElem hi]
  rw[e1];exact .cons _ t' (ih λj hj=>mem j (aab _ hj))
end
end L2
end
section
namespace L2
open PySem PySem.Spec PyProof.Rows
section
variable {X:Cx}
theorem Inv.draws(I:Inv X pins σ H s)(d:Drawn):Inv X pins σ H { s with drawn:=d }:=⟨I.ok,I.os,I.bare,I.base,I.loc,I.cell,I.free,I.gX,I.pin,I.hok,I.len⟩
def Xo(K:Frag)(te:TE):TE:=λσ H Q=>te σ H λx H1=>∃p ns,x=.ref p/\gA K H1 p (ns.map V.int)/\ns.length<64/\∀l,H1 l=none->Q (.ref l) (upd H1 l (.lst ((sortI (dS [] ns)).map V.int)))
theorem wQ:∀(ns ks:List Int),(dS ks ns).length<=ks.length+ns.length
 |[],ks=>by simp[dS]
 | n::ns,ks=>by
  rw[dS,aal];have:=wQ ns (eF ks n);have:=qA ks n;omega
theorem Ih{p1 p2 pos1 pos2:Pos}(hh:X.A.handled=none)(hg:Gl X "sorted")(hm:X.mg "sorted" = none)(Xp:Gl X "set")(hm2:X.mg "set" = none)(hv:bootBuiltins "sorted" = some (.builtin "sorted"))(hv2:bootBuiltins "set" = some (.type "set"))(he:PE X e te)
  (hs:starEach [e] X.env=[(false,eval e X.env)]):PE X (.Call (.Name "sorted" p1) [.Call (.Name "set" p2) [e] [] pos2] [] pos1) (Xo X.K te):=by
 intro pins s σ H Q I h;refine aaH (gg I hg hm hv ?_ (by decide) (by decide));refine abf ?_ rfl rfl;show wpAny _ _ (spliced [(false,eval (.Call (.Name "set" p2) [e] [] pos2) X.env)]) _ _ s;refine aaU ?_;refine aaH (gg I Xp hm2 hv2 ?_ (by decide) (by decide));refine aaJ ?_ hs rfl;show wpAny _ _ (spliced (backTo pos2 (starEach [e] X.env))) _ _ s;rw[hs];show wpAny _ _ (spliced [(false,eval e X.env)]) _ _ s;refine aaU (b6 (he pins s σ H _ I h) λu s1 ⟨x,H1,I1,r1,p,ns,ex,hq,h64,q⟩=>aa7 ?_);subst ex;cases r1;obtain⟨its,rv,pl,hz⟩:=I1.list hq;have hi:=intsAre_of rv;have hl:=hi.length;refine wK hh pl.isList (by simpa using hi) (by show its.toArray.size+1<4096;rw[aae,hl];omega) λh2 tk S k2=>?_;obtain⟨o,es,ep,t,S⟩:=S;refine aa7 ?_;have hk:=wQ ns [];have Um:(dS [] ns).length<64:=by simp at hk;omega
 refine zk (s:={ s1 with heap:=h2,toks:=tk }) hh S Um λh3 Xq d D out e k3 zD eD hout=>?_;have hD:s1.heap.objs.size<=D:=aay (abv (aaf S.at_)) zD;have hn:H1 D=none:=I1.hok.fresh hD;refine⟨.ref D,_,(I1.draws d).laid (t':=Xq) (λb o z=>k3 b o (k2 b o (aaf z) z)) hD (show bJ X.prog X.w _ _ _ (.lst ((sortI (dS [] ns)).map V.int)) from⟨?_,out,e,gx hout,eD⟩),rfl,q _ hn⟩;rw[Z4,(aaI _).length_eq,aaT];omega
end
end L2
end
section
namespace L2
open PySem PySem.Spec PyProof.Rows PySem.W
section
variable {X:Cx}
def tLK(to:TE):TE:=λσ H Q=>to σ H λx H1=>∃a kvs,x=.ref a/\H1 a=some (.dK kvs)/\∀l,H1 l=none->Q (.ref l) (upd H1 l (.lst (kvs.map λkv=>kV kv.1)))
theorem DH(e:(aP P w).is k u=true):RelV (kV k) u:=by
 rw[yE]at e
 rcases bM e with ⟨i,t,rfl,rfl⟩|⟨x,t,rfl,rfl⟩
 ·exact⟨t,rfl⟩
 ·exact⟨t,rfl⟩
theorem iI:∀{kvs:List (Key×V)} {vs:List (Key×Value)} {out:List Value},KV kvs vs->out.length=vs.length->(∀(j:Nat) (v:Value),out[j]?=some v->∃(k:Key) (x:Value),vs[j]?=some (k,x)/\(aP P w).is k v=true)->Vals (kvs.map λkv=>kV kv.1) out
 | [],vs,out,r,hl,h=>by
  cases r;cases out with
  |nil=>exact .nil
  |cons _ _=>simp at hl
 | p::kvs,vs,out,r,hl,h=>by
  cases r with
  |@cons _ q _ qs hq t=>
   cases out with
   |nil=>simp at hl
   |cons v out=>
    obtain⟨k,x,e1,e2⟩:=h 0 v rfl;simp at e1;refine .cons ?_ (iI t (by simpa using hl) λj u hu=>h (j+1) u hu);have:p.1=k:=by rw[hq.1,e1]
    show RelV (kV p.1) v;rw[this];exact DH e2
theorem DI(hh:X.A.handled=none)(hg:Gl X "list")(hm:X.mg "list" = none)(hv:bootBuiltins "list" = some (.type "list"))(ho:PE X o to)
  (hbase:attributeBase o "keys" X.env (eval o X.env)=eval o X.env) (hline:(ap.endLine==cp.line)=true):PE X (.Call (.Name "list" p) [.Call (.Attribute o "keys" ap) [] [] cp] [] pos) (tLK to):=by
 intro pins s σ H Q I h;refine aaH (gg I hg hm hv ?_ (by decide) (by decide));refine aaJ ?_ rfl rfl;show wpAny _ _ (spliced [(false,eval (.Call (.Attribute o "keys" ap) [] [] cp) X.env)]) _ _ s;refine aaU ?_;refine wpAny_Call_method0_late hbase hline (b6 (ho pins s σ H _ I h) λu s1 aJ=>?_);obtain⟨x,H1,I1,r1,a,kvs,ex,ea,q⟩:=aJ;subst ex;cases r1;obtain⟨t1,t2,hd⟩:=qo I1 (.inl ⟨kvs,.inl ea⟩);obtain⟨hz,_,vs,rel,dd⟩:=ql I1.hok ea;refine⟨"dict","dict.keys",ab0,abE,PySem.F.type_dict_keys,t1,t2,abD rfl (PySem.evalArgs_none ?_)⟩;refine call_meetsIn abE dd.typeIs PySem.F.entry_dict_keys (PySem.F.args_dict_keys_1 _) (kdl_meets_keys (aP X.prog X.w) a hd) ⟨⟨vs,dd⟩,?_⟩;refine aa7 ?_;obtain⟨ep,da⟩:=dd.dictAt;have hlen:=rel.length;refine kdl_call (kdl_keys (knd:=aP X.prog X.w) (kvs:=vs) (ep:=ep) (d:=a) (r:=s1.heap.objs.size)) hh ⟨⟨_,aaj _ rfl,rfl,rfl⟩,da.push _⟩ (by rw[<-hlen];exact hz) λh' tk acc c k2 eD hacc=>?_;have hD:s1.heap.objs.size<=(s1.heap.push { cls:=.type "dict_keys",data:=.fields [.ref a].toArray }).objs.size:=by rw[aa1];exact aaV _
 have hn:H1 (s1.heap.push { cls:=.type "dict_keys",data:=.fields [.ref a].toArray }).objs.size=none:=I1.hok.fresh hD;refine⟨.ref _,_,I1.laid (t':=tk) (λb o z=>k2 b o (Z3 _ z)) hD (show bJ X.prog X.w _ _ _ (.lst (kvs.map λkv=>kV kv.1)) from⟨?_,acc.toList,c,?_,?_⟩),rfl,q _ hn⟩
 ·rw[Z4];exact hz
 ·exact iI (P:=X.prog) (w:=X.w) rel (by rw[aax];exact hacc.1) λj v e=>hacc.2 j v (by rw[<-abd];exact e)
 ·first|(rw[Array.toArray_toList];exact eD)|simpa using eD
end
end L2
end
section
namespace L2
open PySem PySem.Spec PyProof.Rows
end L2
end
section
namespace L2
open PySem PySem.Spec PyProof.Rows PySem.W
section
variable {X:Cx}
def tSK(to:TE):TE:=λσ H Q=>to σ H λx H1=>∃(a:Addr) (kvs:List (Key×V)) (ns:List Int),x=.ref a/\H1 a=some (.dK kvs)/\kvs.map (·.1)=ns.map Sum.inl/\ns.length<64/\∀l,H1 l=none->Q (.ref l) (upd H1 l (.lst ((sortI ns).map V.int)))
theorem nV{ns:List Int}(hI:IntsAre vs ns):∀(p:List Nat),(∀i∈p,i<ns.length)->IntsAre (p.map λi=>vs.getD i Value.none) (p.map λi=>ns.getD i 0)
 |[],_=>.nil
 | i::r,mem=>by
  have hi:=mem i Z9;have hi2:i<vs.length:=by rw[hI.length];exact hi
  obtain⟨t',ev⟩:=IntsAre.int_at hI i _ (aap hi2);rw[aac,aac];have e1:vs.getD i Value.none=.int (ns.getD i 0) t':=by rw[<-ev];simp[List.getD,List.getElem?_eq_getElem hi2]
  rw[e1];exact .cons _ t' (nV hI r λj hj=>mem j (aab _ hj))
theorem DJ(hh:X.A.handled=none)(hg:Gl X "sorted")(hm:X.mg "sorted" = none)(hv:bootBuiltins "sorted" = some (.builtin "sorted"))(ho:PE X o to)
  (hbase:attributeBase o "keys" X.env (eval o X.env)=eval o X.env) (hline:(ap.endLine==cp.line)=true):PE X (.Call (.Name "sorted" p) [.Call (.Attribute o "keys" ap) [] [] cp] [] pos) (tSK to):=by
 intro pins s σ H Q I h;refine aaH (gg I hg hm hv ?_ (by decide) (by decide));refine abf ?_ rfl rfl;show wpAny _ _ (spliced [(false,eval (.Call (.Attribute o "keys" ap) [] [] cp) X.env)]) _ _ s;refine aaU ?_;refine wpAny_Call_method0_late hbase hline (b6 (ho pins s σ H _ I h) λu s1 aJ=>?_);obtain⟨x,H1,I1,r1,a,kvs,ns,ex,ea,ens,h64,q⟩:=aJ;subst ex;cases r1;obtain⟨t1,t2,hd⟩:=qo I1 (.inl ⟨kvs,.inl ea⟩);obtain⟨hz,_,vs,rel,dd⟩:=ql I1.hok ea;refine⟨"dict","dict.keys",ab0,abE,PySem.F.type_dict_keys,t1,t2,abD rfl (PySem.evalArgs_none ?_)⟩;refine call_meetsIn abE dd.typeIs PySem.F.entry_dict_keys (PySem.F.args_dict_keys_1 _) (kdl_meets_keys (aP X.prog X.w) a hd) ⟨⟨vs,dd⟩,?_⟩;refine aa7 ?_;obtain⟨ep,da⟩:=dd.dictAt;have hlen:=rel.length;have view:(s1.heap.push { cls:=.type "dict_keys",data:=.fields [.ref a].toArray }).get? s1.heap.objs.size=some { cls:=.type "dict_keys",data:=.fields [.ref a].toArray }:=aaj _ rfl;refine lX.eB (O:=lX.lG) (kdu_collect (A:=X.A.in1) (kdl_keys (knd:=aP X.prog X.w) (kvs:=vs) (ep:=ep) (d:=a) (r:=s1.heap.objs.size)) (by simp[hh]) ⟨⟨_,view,rfl,rfl⟩,da.push _⟩ (by rw[<-hlen];exact hz) λh' tk acc k2 hacc=>?_);have hV:Vals (kvs.map λkv=>kV kv.1) acc.toList:=iI (P:=X.prog) (w:=X.w) rel (by rw[aax];exact hacc.1) λj v e=>hacc.2 j v (by rw[<-abd];exact e);have hk:(kvs.map λkv=>kV kv.1)=ns.map V.int:=by have:=aaS (List.map kV) ens;rw[aaE,aaE]at this;exact this
 rw[hk]at hV;have hI:=intsAre_of hV;have lv:=hI.length;have k1:∀b o,s1.heap.get? b=some o->h'.get? b=some o:=λb o e=>k2 b o (Z3 _ e);have hD:s1.heap.objs.size<=h'.objs.size:=abv (aaf (k2 _ _ view));refine⟨by rw[lv];exact h64,λi=>ns.getD i 0,λh2 h6 _=>lX.lH hI h2,λpp h'' outs k' he=>?_⟩;obtain⟨e,he⟩:=he;have mem:∀i∈pp,i<ns.length:=λi hi=>by have:=outs.perm.mem_iff.mp hi;rw[lv]at this;simpa using this
 have pn:(pp.map λi=>ns.getD i 0).Perm ns:=by have:=outs.perm.map λi=>ns.getD i 0;rw[lv,lX.b9]at this;exact this
 have up:(pp.map λi=>ns.getD i 0).Pairwise (· <= ·):=by refine acC (R:=lX.lG.kle) (λ{x y:Int} hxy=>?_) outs.up;have hxy:(decide (y<x):Bool)=false:=hxy;exact not_lt.mp (acs hxy)
 have es:=abn pn up;have hout:=nV hI pp mem;rw[es]at hout;dsimp only at k' he |-;have hn:H1 h'.objs.size=none:=I1.hok.fresh hD;refine⟨.ref h'.objs.size,_,I1.laid (t':=tk) (λb o z=>k' b o (k1 b o z)) hD (show bJ X.prog X.w _ _ _ (.lst ((sortI ns).map V.int)) from⟨?_,_,e,gx hout,he⟩),rfl,q _ hn⟩;rw[Z4,(aaI _).length_eq,aaT];omega
end
end L2
end
section
namespace L2
open PySem PySem.Spec PyProof.Rows
section
variable {X:Cx}
theorem nW
  (hbase:attributeBase o m env (eval o env)=eval o env)
  (hfew:((backTo cp (starEach args env)).all (λx=>!x.1)&&(backToKw cp (keywordEach [] env)).all (λx=>x.1.isSome)
   && decide (args.length+([]:List Keyword).length+(if ([]:List Keyword).isEmpty then 0 else 1)<30))=true) (hline:(ap.endLine==cp.line)=true)
  (h:wpAny M A (eval o env) (λov s₁=>∀pl,wpAny M A (getMethod ov m pl) (λfx s₂=>wpAny M A (callWith cp fx.1 fx.2 (backTo cp (starEach args env)) (backToKw cp (keywordEach [] env))) Q E s₂) E s₁) E s) :
  wpAny M A (eval (.Call (.Attribute o m ap) args [] cp) env) Q E s:=by
 rw[arm_eval_Call,hbase];refine ZZ (aa3 h (λov s₁ h₁=>?_) λ_ _ e=>e);refine ZZ (wpAny_standAt ?_);have Qh:methodCallForm (args.length+([]:List Keyword).length) (backTo cp (starEach args env)) (backToKw cp (keywordEach [] env))=true:=hfew;have hpos:methodCallPos true o env ap cp=pure cp:=by unfold methodCallPos;simp[hline]
 unfold methodCall;rw[Qh];refine ZZ (aa6 (aa3 (h₁ _) (λfx s₂ h₂=>?_) λ_ _ e=>e));exact ZZ (wpAny_of_eq hpos h₂)
theorem pe_mthD{k:Nat}(he:PE X o ta)(ha:PA X (l::ls) t)(hbase:attributeBase o m X.env (eval o X.env)=eval o X.env)
  (hfew:((backTo cp (starEach (l::ls) X.env)).all (λx=>!x.1)&&(backToKw cp (keywordEach [] X.env)).all (λx=>x.1.isSome)
   && decide ((l::ls).length+([]:List Keyword).length+(if ([]:List Keyword).isEmpty then 0 else 1)<30))=true) (hline:(ap.endLine==cp.line)=true) (hr:cW k X.A)
  (st:starEach (l::ls) X.env=(false,eval l X.env)::starEach ls X.env) (an:(backTo cp (starEach ls X.env)).any (·.1)=false) :
  PE X (.Call (.Attribute o m ap) (l::ls) [] cp) (λσ H Q=>ta σ H λx H1=>∃a C dx fs f fd ps sp,x=.ref a/\H1 a=some (.ins C dx fs)/\CH X.K C/\Meth X.K C m f/\fs.lookup m=none/\Binds X.K fd ps [] /\
   fh X.prog X.w X.K X.mg X.base yy k f fd ps sp/\t σ H1 λvs H2=>sp (x::vs) H2 Q E0):=by
 intro pins s σ H Q I h;refine nW hbase hfew hline (b6 (he pins s σ H _ I h) λu s1 aJ pl=>?_);obtain⟨x,H1,I1,rx,a,C,dx,fs,f,fd,ps,sp,ex,ea,c,hm,ln,hb,F,q⟩:=aJ;subst ex;obtain rfl:u=Value.ref a:=rx;refine qd I1 ea c hm ln ?_;refine abY (first:=[.ref a]) (h₀:=X.base) I.ok.mod.OI hm.kp (b6 (ha cp pins s1 σ H1 _ I1 q) λus s2 ⟨vs,H2,I2,r,q2⟩=>⟨I2.nM,?_⟩) st an;exact qf (us:=.ref a::us) (vs:=.ref a::vs) (sG:=[]) (ds:=[]) F hr hb .nil qq I2 (.cons rfl r) (by rw[aa2];exact q2)
theorem pe_mth0{k:Nat}(he:PE X o ta)(hbase:attributeBase o m X.env (eval o X.env)=eval o X.env)
  (hline:(ap.endLine==cp.line)=true) (hr:cW k X.A) :
  PE X (.Call (.Attribute o m ap) [] [] cp) (λσ H Q=>ta σ H λx H1=>∃a C dx fs f fd ps sp,x=.ref a/\H1 a=some (.ins C dx fs)/\CH X.K C/\Meth X.K C m f/\fs.lookup m=none/\Binds X.K fd ps [] /\
   fh X.prog X.w X.K X.mg X.base yy k f fd ps sp/\sp [x] H1 Q E0):=by
 intro pins s σ H Q I h;refine nW hbase rfl hline (b6 (he pins s σ H _ I h) λu s1 aJ pl=>?_);obtain⟨x,H1,I1,rx,a,C,dx,fs,f,fd,ps,sp,ex,ea,c,hm,ln,hb,F,q⟩:=aJ;subst ex;obtain rfl:u=Value.ref a:=rx;refine qd I1 ea c hm ln ?_;exact aco (first:=[.ref a]) I1.nM hm.kp (qf (us:=[.ref a]) (vs:=[.ref a]) (sG:=[]) (ds:=[]) F hr hb .nil qq I1 #[rfl] q)
theorem LV:jU X (compareOp .Is) (λx y H Q=>∃b c,x=.bl b/\y=.bl c/\Q (.bl (b==c)) H):=by
 intro pins s σ H x y v u Q I rx ry h;obtain⟨b,c,rfl,rfl,q⟩:=h;cases rx;cases ry;refine wpAny_is_plain rfl (uJ I q ?_);cases b<;>cases c<;>rfl
theorem Ii:jU X (compareOp .IsNot) (λx y H Q=>∃b c,x=.bl b/\y=.bl c/\Q (.bl (!(b==c))) H):=by
 intro pins s σ H x y v u Q I rx ry h;obtain⟨b,c,rfl,rfl,q⟩:=h;cases rx;cases ry;refine wpAny_isNot_plain rfl (uJ I q ?_);cases b<;>cases c<;>rfl
end
end L2
end
section
namespace L2
open PySem PySem.Spec PyProof.Rows PySem.W
section
variable {X:Cx}
theorem Qi{t':Nat}(I:Inv X pins σ H s)(k:∀b u,s.heap.get? b=some u->h'.get? b=some u)(hp:s.heap.get? a=none)(hn:H a=none)(new:bJ X.prog X.w (upd H a o) h' a o) :
  Inv X pins σ (upd H a o) { s with heap:=h',toks:=t' }:=by
 refine I.un ⟨λb u q _ _ _=>k b u q,λb u q _ _ _=>⟨u.slots,k b u q⟩,λb u q n _=>?_,λb u q _=>⟨u,k b u q⟩,λb xs q=>by rw[ao (aI q hn)];exact q,λb u xs q=>by rw[ao (aI q hn)];exact q,λb ps q=>⟨#[],by rw[ao (aI q hn),q];simp⟩⟩ λb u e=>?_
 ·rw[ao λz=>by rw[z,hp]at q;cases q];exact n
 ·by_cases hb:b=a
  ·subst hb;rw[aO]at e;cases e;exact new
  ·rw[ao hb]at e;exact(I.hok b u e).stay (λc v _ q=>k c v q) (λc q=>by rw[ao (aI q hn)];exact q) λc xs q=>by rw[ao (aI q hn)];exact q
theorem Ca(hh:X.A.handled=none)(hst:starEach [o] X.env=[(false,eval o X.env)])(hg:Gl X "list")(hm:X.mg "list" = none)(hv:bootBuiltins "list" = some (.type "list"))(ho:PE X o to):PE X (.Call (.Name "list" p) [o] [] pos) (tLK to):=by
 intro pins s σ H Q I h;refine aaH (gg I hg hm hv ?_ (by decide) (by decide));refine aaJ ?_ hst rfl;rw[hst];show wpAny _ _ (spliced [(false,eval o X.env)]) _ _ s;refine aaU ?_;refine b6 (ho pins s σ H _ I h) λu s1 aJ=>?_;obtain⟨x,H1,I1,r1,a,kvs,ex,ea,q⟩:=aJ;subst ex;cases r1;obtain⟨t1,t2,hd⟩:=qo I1 (.inl ⟨kvs,.inl ea⟩);obtain⟨hz,_,vs,rel,dd⟩:=ql I1.hok ea;refine aa7 ?_;obtain⟨ep,da⟩:=dd.dictAt;have hlen:=rel.length;refine kdl_call (kdl_dict (knd:=aP X.prog X.w) (kvs:=vs) (ep:=ep) (d:=a) hd) hh da (by rw[<-hlen];exact hz) λh' tk acc c k2 eD hacc=>?_;have hn:H1 s1.heap.objs.size=none:=I1.hok.fresh (aaa _);refine⟨.ref _,_,I1.laid (t':=tk) (λb o z=>k2 b o z) (aaa _) (show bJ X.prog X.w _ _ _ (.lst (kvs.map λkv=>kV kv.1)) from⟨?_,acc.toList,c,?_,?_⟩),rfl,q _ hn⟩
 ·rw[Z4];exact hz
 ·exact iI (P:=X.prog) (w:=X.w) rel (by rw[aax];exact hacc.1) λj v e=>hacc.2 j v (by rw[<-abd];exact e)
 ·first|(rw[Array.toArray_toList];exact eD)|simpa using eD
theorem t7(hh:X.A.handled=none)(hst:starEach [o] X.env=[(false,eval o X.env)])(hg:Gl X "sorted")(hm:X.mg "sorted" = none)(hv:bootBuiltins "sorted" = some (.builtin "sorted"))(ho:PE X o to):PE X (.Call (.Name "sorted" p) [o] [] pos) (tSK to):=by
 intro pins s σ H Q I h;refine aaH (gg I hg hm hv ?_ (by decide) (by decide));refine abf ?_ hst rfl;rw[hst];show wpAny _ _ (spliced [(false,eval o X.env)]) _ _ s;refine aaU ?_;refine b6 (ho pins s σ H _ I h) λu s1 aJ=>?_;obtain⟨x,H1,I1,r1,a,kvs,ns,ex,ea,ens,h64,q⟩:=aJ;subst ex;cases r1;obtain⟨t1,t2,hd⟩:=qo I1 (.inl ⟨kvs,.inl ea⟩);obtain⟨hz,_,vs,rel,dd⟩:=ql I1.hok ea;refine aa7 ?_;obtain⟨ep,da⟩:=dd.dictAt;have hlen:=rel.length;refine lX.eB (O:=lX.lG) (kdu_collect (A:=X.A.in1) (kdl_dict (knd:=aP X.prog X.w) (kvs:=vs) (ep:=ep) (d:=a) hd) (by simp[hh]) da (by rw[<-hlen];exact hz) λh' tk acc k1 hacc=>?_);have hV:Vals (kvs.map λkv=>kV kv.1) acc.toList:=iI (P:=X.prog) (w:=X.w) rel (by rw[aax];exact hacc.1) λj v e=>hacc.2 j v (by rw[<-abd];exact e);have hk:(kvs.map λkv=>kV kv.1)=ns.map V.int:=by have:=aaS (List.map kV) ens;rw[aaE,aaE]at this;exact this
 rw[hk]at hV;have hI:=intsAre_of hV;have lv:=hI.length;have hN:∀b o,s1.heap.get? b=some o->b≠h'.objs.size:=λb o e z=>by
  have q:=aaf (k1 b o e);rw[z]at q;exact aa0 _ q
 refine⟨by rw[lv];exact h64,λi=>ns.getD i 0,λh2 h6 _=>lX.lH hI h2,λpp h'' outs k' he=>?_⟩;obtain⟨e,he⟩:=he;have mem:∀i∈pp,i<ns.length:=λi hi=>by have:=outs.perm.mem_iff.mp hi;rw[lv]at this;simpa using this
 have pn:(pp.map λi=>ns.getD i 0).Perm ns:=by have:=outs.perm.map λi=>ns.getD i 0;rw[lv,lX.b9]at this;exact this
 have up:(pp.map λi=>ns.getD i 0).Pairwise (· <= ·):=by refine acC (R:=lX.lG.kle) (λ{x y:Int} hxy=>?_) outs.up;have hxy:(decide (y<x):Bool)=false:=hxy;exact not_lt.mp (acs hxy)
 have es:=abn pn up;have hout:=nV hI pp mem;rw[es]at hout;dsimp only at k' he |-;have hl:s1.heap.get? h'.objs.size=none:=by
  cases e:s1.heap.get? h'.objs.size with
  |none=>rfl
  |some o=>exact absurd rfl (hN _ o e)
 have hn:H1 h'.objs.size=none:=(lD.kept I1.hok k1).fresh (aaa _);refine⟨.ref h'.objs.size,_,Qi I1 (t':=tk) (λb o z=>k' b o (k1 b o z)) hl hn (show bJ X.prog X.w _ _ _ (.lst ((sortI ns).map V.int)) from⟨?_,_,e,gx hout,he⟩),rfl,q _ hn⟩;rw[Z4,(aaI _).length_eq,aaT];omega
end
section
variable {X:Cx}
theorem Inv.freeze(I:Inv X pins σ H s)(e:H a=some (.dK kvs))(ho:s.heap.get? a=some o):Inv X pins σ (upd H a (.jL o (.dK kvs))) s :=
 I.write (x:=a) (e:=a) (o:=.jL o (.dK kvs)) (h':=s.heap) (t':=s.toks) (by rw[e];trivial) (.inl rfl) (λb u _ q=>q) ⟨o,ho⟩ ⟨ho,I.hok a _ e⟩
theorem Inv.Qj{pins Qk:List (Addr×Obj)}{σ σ0:St}{H H0:Hp}{s s0:Shared}{kvs k0:List (Key×V)}(I0:Inv X Qk σ0 H0 s0)(e0:H0 a=some (.dK k0))(I:Inv X pins σ H s)(e:H a=some (.jL o (.dK kvs))):Inv X pins σ (upd H a (.dK kvs)) s:=by
 have nf:∀b,H b=none->b≠a:=λb z y=>by rw[y,e]at z;cases z
 refine⟨I.ok,I.os,I.bare,⟨I.base.keep,I.base.slot,λb ob q n hx=>?_,I.base.there,λb xs q=>?_,λb ob u q=>?_,λb ps q=>?_⟩,I.loc,I.cell,?_,λx c q=>?_,λp hp=>?_,λb u q=>?_,I.len⟩
 ·have z:=I.base.free b ob q n hx;rw[ao (nf b z)];exact z
 ·have z:=I.base.tups b xs q;rw[ao (λy=>by rw[y,e]at z;cases z)];exact z
 ·have z:=I.base.frzs b ob u q;have z0:=I0.base.frzs b ob u q;rw[ao (λy=>by rw[y,e0]at z0;cases z0)];exact z
 ·obtain⟨more,z⟩:=I.base.sH b ps q;exact⟨more,by rw[ao (λy=>by rw[y,e]at z;cases z)];exact z⟩
 ·rw[ao (nf _ I.free)];exact I.free
 ·rw[ao (nf _ (I.gX x c q))];exact I.gX x c q
 ·obtain⟨q1,q2,q3⟩:=I.pin p hp;exact⟨q1,by rw[ao (nf _ q2)];exact q2,q3⟩
 ·by_cases hb:b=a
  ·subst hb;rw[aO]at q;cases q;obtain⟨_,z⟩:=(show bJ X.prog X.w H s.heap b (.jL o (.dK kvs)) from I.hok b _ e);exact z
  ·rw[ao hb]at q;exact(I.hok b u q).stay (λc v _ z=>z) (λc z=>by rw[ao (λy=>by rw[y,e]at z;cases z)];exact z) λc xs z=>by rw[ao (λy=>by rw[y,e]at z;cases z)];exact z
def DK(t:TE):TE:=λσ H Q=>∃a kvs,H a=some (.dK kvs)/\t σ H λv H'=>∃o,H' a=some (.jL o (.dK kvs))/\Q v (upd H' a (.dK kvs))
theorem Ij(h:PE X e t):PE X e (DK t):=by
 intro pins s σ H Q I hh;obtain⟨a,kvs,ea,ht⟩:=hh;exact b6 (h pins s σ H _ I ht) λv s1 ⟨x,H1,I1,r1,o,e1,q⟩=>⟨x,_,Inv.Qj I ea I1 e1,r1,q⟩
def Ql(t:TS):TS:=λD σ H=>∃a kvs,H a=some (.dK kvs)/\t { D with nx:=λσ' H'=>∃o,H' a=some (.jL o (.dK kvs))/\D.nx σ' (upd H' a (.dK kvs)) } σ H
theorem Il{st:Stmt}{t:TS}(h:PS X st t):PS X st (Ql t):=by
 intro pins s σ H D I hh;obtain⟨a,kvs,ea,ht⟩:=hh;refine b6 (h pins s σ H _ I ht) λf s1 q=>?_;cases f with
 |next=>obtain⟨σ1,H1,I1,o,e1,q⟩:=q;exact⟨σ1,_,Inv.Qj I ea I1 e1,q⟩
 |brk=>exact q
 |cont=>exact q
 |ret u=>exact q
def Vx(a:Addr)(o:Obj)(kvs:List (Key×V)):It :=
 ⟨λi H=>H a=some (.jL o (.dK kvs))/\i<kvs.length,λi H x H'=>H'=H/\∃kv,kvs[i]?=some kv/\x=kV kv.1,λi H=>H a=some (.jL o (.dK kvs))/\kvs.length<=i⟩
theorem DL:∀{kvs:List (Key×V)} {vs:List (Key×Value)} {i:Nat} {kv:Key×V},KV kvs vs->kvs[i]?=some kv->∃v,vs[i]?=some (kv.1,v)
 |[],_,_,_,_,e=>by simp at e
 | p::kvs,_,0,kv,r,e=>by
  cases r with
  |@cons _ q _ qs hq t=>simp at e;subst e;exact⟨q.2,by rw[hq.1];rfl⟩
 | p::kvs,_,i+1,kv,r,e=>by
  cases r with
  |@cons _ q _ qs hq t=>obtain⟨v,hv⟩:=DL t (by simpa using e);exact⟨v,by simpa using hv⟩
theorem Cb{P:Program}{w:World}{K:Frag}{tg:Expr}(a it:Addr){o:Obj}{es:Array DictEntry}{ep:Nat}{kvs:List (Key×V)}{vs:List (Key×Value)}(rel:KV kvs vs)
  (hd:o.ExactDict/\o.data=.dict es ep/\KeysOf (aP P w) es/\Pairs (aP P w) es.toList vs/\(vs.map (·.1)).Nodup) :
  Turn P w K tg (Vx a o kvs) [it] it (λi h=>h.IsKeyIter it a i vs.length ep) where
 mem:=by simp
 obj:=λi h st b hb=>by
  have e:b=it:=by simpa using hb
  subst e;obtain⟨o,e,c,d⟩:=st;exact⟨o,e,λv z=>by rw[d]at z;cases z⟩
 keep:=λi h h' st k=>st.at λo e=>k it (by simp) o e
 item:=by intro X hP hw hK hc i pins s σ H E I hf st hg;subst hP hw hK;obtain⟨ha,hi⟩:=hg;obtain⟨hob,_⟩:=(show bJ X.prog X.w H s.heap a (.jL o (.dK kvs)) from I.hok a _ ha);have hm:s.heap.DictAt (aP X.prog X.w) a vs ep:=⟨o,es,hob,hd⟩;obtain⟨v,hv⟩:=DL rel (aap hi);obtain⟨f0,f1,f2,f3,f4,f5⟩:=hf it (by simp);refine wpAny_pyNext_dict_item st hm hv λkey h' hkey st' sb=>?_;have I1:Inv X pins σ H { s with heap:=h' }:=I.turned (t':=s.toks) (λb o hb e=>(sb.2 b hb).trans e) f0 f1 f3 f4 f5;obtain⟨o',e,c,d⟩:=id st';exact⟨key,rfl,zZ (s:={ s with heap:=h' }) e c d (by decide) ⟨kV kvs[i].1,H,I1,DH hkey,⟨rfl,kvs[i],aap hi,rfl⟩,st',λb hb=>(hf b hb).1⟩⟩
 done:=by intro X hP hw hK hc i pins s σ H E I hf st hg;subst hP hw hK;obtain⟨ha,hi⟩:=hg;obtain⟨hob,_⟩:=(show bJ X.prog X.w H s.heap a (.jL o (.dK kvs)) from I.hok a _ ha);have hm:s.heap.DictAt (aP X.prog X.w) a vs ep:=⟨o,es,hob,hd⟩;obtain⟨f0,f1,f2,f3,f4,f5⟩:=hf it (by simp);exact wpAny_pyNext_dict_end (I.ok.hd hc) st hm (List.getElem?_eq_none (by rw[<-rel.length];exact hi)) λh' eb=>⟨rfl,I.turned (t':=s.toks) (λb o hb e=>eb b o hb e) f0 f1 f3 f4 f5⟩
 self:=λ_ _ _ _ _ st h=>wpAny_pyIter_keyiter st h
def DM(tl:TE):TI:=λσ H R=>tl σ H λx H1=>∃a kvs,x=.ref a/\H1 a=some (.dK kvs)/\∀o,R (Vx a o kvs) (upd H1 a (.jL o (.dK kvs)))
theorem Im(hl:PE X l tl):PI X tg l (DM tl):=by
 intro pins s σ H R I h;refine b6 (hl pins s σ H _ I h) λv s1 aJ=>?_;obtain⟨x,H1,I1,r1,q1⟩:=aJ;obtain⟨a,kvs,e,ea,q⟩:=q1;subst e;cases r1;obtain⟨hz,hsm,vs,rel,dd⟩:=ql I1.hok ea;obtain⟨ep,da⟩:=dd.dictAt;obtain⟨o,es,ho,r⟩:=id da;have I2:=I1.freeze ea ho;refine wpAny_pyIter_dict hsm da ?_;refine⟨s1.heap.objs.size,[s1.heap.objs.size],_,_,_,rfl,I2.kept (t':=s1.toks) λb o e=>Z3 _ e,Cb a _ rel r,⟨_,aaj _ rfl,rfl,rfl⟩,λb hb=>?_,q o⟩;have e:b=s1.heap.objs.size:=by simpa using hb
 subst e;exact I2.CZ (aaa _) (I2.hok.fresh (aaa _))
def Xr(K:Frag)(js:List (Option Nat))(d q:Nat):TE:=λσ H Q=>∃a kvs b ys,σ[d]?=some (some (.ref a))/\H a=some (.dK kvs)/\kvs.length<=sizeLine/\(gD js σ)[q]?=some (some (.ref b))/\gA K H b ys/\ys.all kX=true /\
 ∀D,H D=none->Q (.ref D) (upd H D (.lst ((kvs.map λkv=>kV kv.1).filter λk=>!GL k ys)))
theorem DN{K:Frag}{H:Hp}{a b:Addr}{ys:List V}{u:HO}(q:gA K H b ys)(h:∀v,H a=some v->(∀xs,v≠.lst xs)/\∀o xs,v≠.jL o (.lst xs)):gA K (upd H a u) b ys:=by
 rcases q with (q|⟨o,q⟩)|q
 ·exact .inl (.inl (by rw[ao (λy=>by subst y;exact(h _ q).1 _ rfl)];exact q))
 ·exact .inl (.inr ⟨o,by rw[ao (λy=>by subst y;exact(h _ q).2 _ _ rfl)];exact q⟩)
 ·exact .inr q
theorem LW{K:Frag}{js:List (Option Nat)}{d p q:Nat}(hpq:p≠q)(hp:p<js.length){σ:St}{H:Hp}{Q:VK}(h:Xr K js d q σ H Q):DK (wG (DM (sI d)) js (oR p) (C1 (ON (TV K true) (sI p) (sI q))) (sI p)) σ H Q:=by
 obtain⟨a,kvs,b,ys,hd,ha,hz,hb,hs,hf,hQ⟩:=h;refine⟨a,kvs,ha,.ref a,hd,a,kvs,rfl,ha,λo D hD=>?_⟩;have Uo:D≠a:=λz=>by rw[z,aO]at hD;cases hD
 have Xs:H D=none:=by rw[ao Uo]at hD;exact hD
 have hs1:gA K (upd H a (.jL o (.dK kvs))) b ys:=DN hs λv hv=>by rw[ha]at hv;cases hv;exact⟨λ_ z=>(nomatch z),λ_ _ z=>(nomatch z)⟩
 let L:Nat->List V:=λi=>((kvs.take i).map λkv=>kV kv.1).filter λk=>!GL k ys
 have hlL:∀i,(L i).length<=i:=λi=>by
  refine aay (ab9 _ _) ?_;rw[Z4,abe];omega
 refine⟨λi m σ' H'=>i+m=kvs.length/\H'=upd (upd H a (.jL o (.dK kvs))) D (.lst (L i)) /\ σ'.length=js.length /\ σ'[q]?=some (some (.ref b)),⟨kvs.length,by omega,rfl,ig js σ,hb⟩,?_⟩;rintro i m σ' H' ⟨e1,rfl,e3,e4⟩;have Qm:upd (upd H a (.jL o (.dK kvs))) D (.lst (L i)) a=some (.jL o (.dK kvs)):=by rw[ao Uo.symm,aO]
 cases m with
 |zero=>
  refine .inl ⟨⟨Qm,by omega⟩,o,Qm,?_⟩;have:upd (upd (upd H a (.jL o (.dK kvs))) D (.lst (L i))) a (.dK kvs)=upd H D (.lst (L i)):=by
   funext c;unfold upd
   by_cases c1:c=a
   ·rw[Z7 c1,Z8 (by rw[c1];exact Uo.symm),c1];exact ha.symm
   ·rw[Z8 c1]
    by_cases c2:c=D
    ·rw[Z7 c2,Z7 c2]
    ·rw[Z8 c2,Z8 c2,Z8 c1]
  rw[this];have:=hQ D Xs;show Q _ (upd H D (.lst (((kvs.take i).map λkv=>kV kv.1).filter λk=>!GL k ys)));rw[List.take_of_length_le (by omega)];exact this
 |succ m=>
  have hi:i<kvs.length:=by omega
  refine .inr ⟨⟨Qm,hi⟩,_,λAe Ia w=>⟨m,aaP _,w⟩,λx H2 hy=>?_⟩;obtain⟨rfl,kv,hkv,rfl⟩:=hy;have fx:kX (kV kv.1)=true:=by cases kv.1<;>rfl
  have g1:(σ'.set p (some (kV kv.1)))[p]?=some (some (kV kv.1)):=aad (by omega);have g2:(σ'.set p (some (kV kv.1)))[q]?=some (some (.ref b)):=by rw[Z2 hpq];exact e4
  have hs2:gA K (upd (upd H a (.jL o (.dK kvs))) D (.lst (L i))) b ys:=DN hs1 λv hv=>by rw[hD]at hv;cases hv
  have hL:L (i+1)=if (!GL (kV kv.1) ys)=true then L i++[kV kv.1] else L i:=by
   show ((kvs.take (i+1)).map λkv=>kV kv.1).filter _=_;rw[List.take_succ,hkv];simp only[Option.toList,map_append,List.filter_append,map_cons,map_nil,List.filter_cons,List.filter_nil]
   split<;>simp[L]
  refine⟨kV kv.1,g1,.ref b,g2,b,ys,rfl,.inl hs2,fx,hf,_,rfl,?_⟩;simp only[if_true]
  by_cases hin:(!GL (kV kv.1) ys)=true
  ·rw[Z7 hin];refine⟨kV kv.1,g1,L i,aO,by have:=hlL i;omega,by omega,?_,by rw[abc];exact e3,g2⟩;rw[GW,hL,Z7 hin]
  ·rw[Z8 hin];exact⟨by omega,by rw[hL,Z8 hin],by rw[abc];exact e3,g2⟩
structure LX (K:Frag) (C:Addr) (m:Str) (f:Addr):Prop where
 ga:specialIn K (.ref C) "__getattribute__" = some (some (.builtin "type.__getattribute__"))
 rd:readsIn K C (.type "type")=true
 at_:findCls K (.ref C) (.type "type") m=some (.val (.ref f))
 kp:keepIn K (.ref f)=true
theorem LY{k:Nat}(F:fh X.prog X.w X.K X.mg X.base yy k f fd ps sp)(hr:cW k X.A)(hg:Gl X x)(hm:X.mg x=some (.ref C))(c:LX X.K C m f)(hb:Binds X.K fd ps [])
  (ha:PA X (l::ls) t) (hd:(x==("__debug__":Str))=false)
  (hfew:((backTo cp (starEach (l::ls) X.env)).all (λx=>!x.1)&&(backToKw cp (keywordEach [] X.env)).all (λx=>x.1.isSome)
   && decide ((l::ls).length+([]:List Keyword).length+(if ([]:List Keyword).isEmpty then 0 else 1)<30))=true) (hline:(ap.endLine==cp.line)=true)
  (st:starEach (l::ls) X.env=(false,eval l X.env)::starEach ls X.env) (an:(backTo cp (starEach ls X.env)).any (·.1)=false) :
  PE X (.Call (.Attribute (.Name x np) m ap) (l::ls) [] cp) (λσ H Q=>t σ H λvs H1=>sp vs H1 Q E0):=by
 intro pins s σ H Q I h;refine nW rfl hfew hline (kE I hg hm (λpl=>?_) hd);refine PySem.W.method_cls I.nM c.ga (PySem.W.cls_value I.nM c.rd c.at_ rfl ?_);refine abY (first:=[]) (h₀:=X.base) I.ok.mod.OI c.kp (b6 (ha cp pins _ σ H _ (I.tok _) h) λus s2 ⟨vs,H2,I2,r,q2⟩=>⟨I2.nM,?_⟩) st an;exact qf (us:=us) (vs:=vs) (sG:=[]) (ds:=[]) F hr hb .nil qq I2 r (by rw[aa2];exact q2)
structure Vy (K:Frag) (C:Addr):Prop where
 ha:findIn K (.ref C) "__class__" = some (some (.builtin "object.__class__"))
 hn:specialIn K (.builtin "object.__class__") "__get__" = some (some (.builtin "getset_descriptor.__get__"))
 htk:PySem.W.takesIn K (.builtin "object.__class__")=some true
 hm:PySem.W.mroIn K C (.type "object")=some true
end
end L2
end
section
namespace L2
open PySem PySem.Spec PyProof.Rows
section
variable {X:Cx}
def Vz(k:Int):Value->Bool
 |.int a _=>a==k
 |_=>false
def Io:V->List V->Hp->VK->Prop:=λx vs H Q=>∃(l:Addr) (ks:List Int) (i:Int),x=.ref l/\vs=[.int i]/\H l=some (.lst (ks.map V.int))/\i∈ks/\Q .non (upd H l (.lst ((ks.map V.int).eraseIdx (ks.idxOf i))))
theorem Cc:PZ X "list.remove" Io:=by
 intro pins s σ H x vs v us Q I rx rv h;obtain⟨l,ks,i,rfl,rfl,hH,hi,q⟩:=h;cases rx;obtain⟨u,rfl,ru⟩:=rv.one;obtain⟨t,rfl⟩:=ru;obtain⟨z,its,n,r,hl,e⟩:=I.BP hH;have hk:ks.length=its.length:=by rw[<-hl,Z4]
 have at':∀m (hm:m<ks.length),∃t,its[m]?=some (.int ks[m] t):=λm hm=>by
  obtain⟨w,hw,t,rfl⟩:=r.get (i:=m) (x:=V.int ks[m]) (by rw[aas,aap hm];rfl);exact⟨t,hw⟩
 have hj:ks.idxOf i<ks.length:=List.idxOf_lt_length_of_mem hi;have sz:its.toArray.size=ks.length:=by rw[aae,hk]
 have val:∀m (hm:m<its.toArray.size),Vz i its.toArray[m]=(ks[m]'(sz▸hm)==i):=λm hm=>by
  obtain⟨t,q⟩:=at' m (sz▸hm);have q2:its.toArray[m]=.int (ks[m]'(sz▸hm)) t:=by have:=aaM hm;rw[List.getElem?_toArray,q]at this;exact(aat this).symm
  rw[q2];rfl
 refine call_meets F.slot_list_remove ⟨_,e,rfl⟩ F.entry_list_remove (F.args_list_remove_2 _ _)
  (MeetsSeq.list_remove l its.toArray n (.int i t) (Vz i) (λy hy=>?_) (ks.idxOf i) (by rw[sz];exact hj) ?_ ?_ (by rw[aae];omega)) ⟨e,?_⟩
 ·obtain⟨m,hm,rfl⟩:=ack.mp (List.mem_toArray.mp hy);obtain⟨t',q⟩:=at' m (by omega);rw[aap hm]at q;rw[aat q];exact MeetsSeq.EqGives.int _ _ _ _
 ·rw[val];exact ace.mpr (List.getElem_idxOf hj)
 ·intro m hm h2
  rw[val];exact aaD.mpr λe=>by
   have:=List.not_of_lt_findIdx (p:=(· == i)) (xs:=ks) (i:=m) h2;exact nomatch this.symm.trans (ace.mpr e)
 refine⟨.non,_,I.Dd (its':=its.eraseIdx (ks.idxOf i)) hH e ?_ (r.eraseIdx _) ?_,rfl,q⟩
 ·show its.toArray.eraseIdxIfInBounds _=(its.eraseIdx _).toArray;rw[List.eraseIdxIfInBounds_toArray]
 ·have:=nQ (ks.map V.int) (ks.idxOf i);omega
end
end L2
end
section
namespace Hv
open PySem L2 PyProof.Rows
inductive Val
 |non|bl (b:Bool)|int (i:Int)|str (x:Str)|tup (vs:List Val)|rl (vs:List Val)|dc (ks:List Key) (vs:List Val)|ob (c:Nat) (xs:List Str) (vs:List Val)|ref (i:Nat)
inductive Ob
 |lst (xs:List Val)|dct (kvs:List (Key×Val))|ins (c:Nat) (fs:List (Str×Val))
abbrev Hs:=List Ob
inductive Out (α:Type)
 |ok (a:α) (h:Hs)|exc (c:Nat) (vs:List Val) (h:Hs)|no
abbrev M(α:Type):=Hs->Out α
def ret{α:Type}(a:α):M α:=λh=>.ok a h
def bnd{α β:Type}(m:M α)(f:α -> M β):M β:=λh=>match m h with
 |.ok a h'=>f a h'
 |.exc c vs h'=>.exc c vs h'
 |.no=>.no
def bG{α:Type}(o:Option α):M α:=λh=>match o with
 |some a=>.ok a h
 |none=>.no
def ask{α:Type}(f:Hs->Option α):M α:=λh=>bG (f h) h
def new(o:Ob):M Val:=λh=>.ok (.ref h.length) (h++[o])
def put(i:Nat)(o:Ob):M Unit:=λh=>.ok () (h.set i o)
def cz{α β:Type}(f:α -> Option β):List α -> Option (List β)
 |[]=>some []
 |a::r=>(f a).bind λb=>(cz f r).bind λbs=>some (b::bs)
inductive Ip|add|sub|mul|fdiv|mod|pow
 deriving DecidableEq
inductive LZ|eq|ne|lt|le|gt|ge|isn|ntn|t8|nin
 deriving DecidableEq
inductive Bl|len|min|max|sorted|list|tuple|str|int|all|any|isin (T:String)
 deriving DecidableEq
inductive Me|join|append|extend|remove|pop
 deriving DecidableEq
inductive Ak|one (i:Nat)|tup (is:List Nat)
 deriving DecidableEq
inductive Ik|seq|range|enum|zip
 deriving DecidableEq
mutual
inductive IE
 |var (i:Nat)|cst (d:Val)|con (x:Str) (d:Val)|no
 |bin (o:Ip) (a b:IE)|neg (a:IE)|cmp (o:LZ) (a b:IE)|chn (o p:LZ) (a b c:IE)
 |and (a b:IE)|or (a b:IE)|not (a:IE)|ite (c a b:IE)
 |tup (es:mD)|lst (es:mD)|idx (a b:IE)|slc (a lo hi:IE)
 |call (j:Nat) (es:mD)|blt (b:Bl) (es:mD)|met (m:Me) (a:IE) (es:mD)
 |comp (N:List Str) (js:List (Option Nat)) (pat:Ak) (k:Ik) (it:mD) (c elt:IE)
 |dct0
 |sset (a:IE)
 |dget (d k x:IE)
 |dct1 (k v:IE)
 |lkeys (d:IE)
 |sdef (d k x:IE)
 |svals (d:IE)
 |skeys (d:IE)
 |fld (n:Nat) (a:IE) (x:Str)
 |mth (a:IE) (m:Str) (js:List (Nat×Nat)) (es:mD)
 |rev (a s:IE)
 |dflt (N:List Str) (js:List (Option Nat)) (p q:Nat) (d w:IE)
 |isc (a:IE) (x:Str) (bs:List Bool)
inductive mD|nil|cons (e:IE) (es:mD)
end
abbrev Env:=List (Option Val)
mutual
inductive IS
 |expr (e:IE)|asg (p:Ak) (e:IE)|aug (i:Nat) (o:Ip) (e:IE)|cR (o i v:IE)
 |iff (c:IE) (a b:dg)|for (p:Ak) (k:Ik) (it:mD) (body:dg)|whl (n:Nat) (c:IE) (body:dg)
 |ret (e:IE)|Iq|brk|cnt|pass|never|setF (n:Nat) (a:IE) (x:Str) (v:IE)
inductive dg|nil|cons (s:IS) (r:dg)
end
def aF(h:Hs):Val->Option (List Val)
 |.rl vs=>some vs
 | .ref i=>match h[i]? with
  |some (.lst xs)=>some xs
  |_=>none
 |_=>none
def kZ(h:Hs):Val->Option (List Val)
 |.tup vs=>some vs
 |v=>aF h v
def wR(h:Hs):Val->Option (List Val)
 |.tup vs=>some vs
 |.ref i=>aF h (.ref i)
 |_=>none
def bX:List Val->Option (List Int):=cz λv=>match v with
 |.int i=>some i
 |_=>none
def fq:List Val->Option (List Bool):=cz λv=>match v with
 |.bl i=>some i
 |_=>none
def lg:List Val->Option (List (List Int)):=cz λv=>match v with
 |.tup vs=>if vs.isEmpty then none else bX vs
 |_=>none
def toD:Nat->Hs->Val->Option PyData
 |0,_,_=>none
 |_+1,_,.non=>some .none
 |_+1,_,.bl b=>some (.bool b)
 |_+1,_,.int i=>some (.int i)
 |_+1,_,.str x=>if PyData.strOk x=true then some (.str x) else none
 |n+1,h,.tup vs=>(cz (toD n h) vs).bind λds=>some (.tuple ds)
 |n+1,h,.rl vs=>(cz (toD n h) vs).bind λds=>some (.list ds)
 |_+1,_,.dc _ _=>none
 |_+1,_,.ob _ _ _=>none
 |n+1,h,.ref i=>(aF h (.ref i)).bind λxs=>(cz (toD n h) xs).bind λds=>some (.list ds)
def CI(h:Hs)(v w:Val):Option Bool:=(toD 16 h v).bind λd=>(toD 16 h w).bind λe=>some (PyData.eqv d e)
def uY(x:List Int):List (List Int)->List (List Int)
 |[]=>[x]
 |y::r=>if HT.lexLt y x=true then y::uY x r else x::y::r
def mE:List (List Int)->List (List Int)
 |[]=>[]
 |x::r=>uY x (mE r)
def mF(ks:List Int):Val:=.tup (ks.map .int)
def dD(xs:List Val):Option (List Val) :=
 if xs.length<64 then
  match bX xs with
  |some ns=>some ((sortI ns).map .int)
  |none=>(lg xs).bind λpQ=>some ((mE pQ).map mF)
 else none
def jA(i j:Int):Bool:=(decide (-(2 ^ 64)<i)&&decide (i<2 ^ 64))||(decide (-(2 ^ 64)<j)&&decide (j<2 ^ 64))
def aE{α:Type}(c:Bool)(m:M α):M α:=λh=>if c=true then m h else .no
def jf(b:Int):Bool:=decide (0<b/\b<1606938044258990275541962092341162602522202993782792835301376)
def Kf:Ip->Val->Val->M Val
 |.add,.int a,.int b=>ret (.int (a+b))
 |.add,.str a,.str b=>aE (decide (a.length+b.length<=sizeLine)) (ret (.str (a++b)))
 |.add,.tup a,.tup b=>aE (!a.isEmpty&&decide (a.length+b.length<=sizeLine)) (ret (.tup (a++b)))
 |.add,v,w=>bnd (ask λh=>aF h v) λa=>bnd (ask λh=>aF h w) λb=>aE (decide (a.length+b.length<=sizeLine)) (new (.lst (a++b)))
 |.sub,.int a,.int b=>ret (.int (a-b))
 |.mul,.int a,.int b=>aE (jA a b) (ret (.int (a*b)))
 |.fdiv,.int a,.int b=>aE (jf b) (ret (.int (a/b)))
 |.mod,.int a,.int b=>aE (decide (0<b)) (ret (.int (a%b)))
 |.pow,.int a,.int b=>aE (decide (0<=b/\b<=1000000/\a.natAbs<2 ^ 64)) (ret (.int (a ^ b.toNat)))
 |_,_,_=>bG none
def mG:Val->Bool
 |.non=>true
 |_=>false
def cg(kvs:List (Key×Val))(k:Key):Option Val:=(kvs.find? λkv=>decide (kv.1=k)).map (·.2)
def gR(kvs:List (Key×Val))(k:Key)(v:Val):List (Key×Val) :=
 if (kvs.any λkv=>decide (kv.1=k))=true then kvs.map (λkv=>if kv.1=k then (kv.1,v) else kv) else kvs++[(k,v)]
def keyOf:Val->Option Key
 |.int i=>some (.inl i)
 |.str x=>some (.inr x)
 |_=>none
def Qn(f d:PyData):Option Bool:=match f with
 |.list ds=>some (ds.any λy=>PyData.eqv y d)
 |.tuple ds=>some (ds.any λy=>PyData.eqv y d)
 |_=>none
def memD(h:Hs)(v w:Val):Option Bool:=(toD 16 h w).bind λf=>(toD 16 h v).bind λd=>Qn f d
def wU(h:Hs)(v w:Val):Option Bool:=memD h v w
def Kg(v w:Val):Option Bool:=match w with
 |.non=>some (mG v)
 | .bl b=>(match v with
  |.bl a=>some (a==b)
  |_=>none)
 |_=>none
def cop(h:Hs):LZ->Val->Val->Option Bool
 |.eq,v,w=>CI h v w
 |.ne,v,w=>(CI h v w).map (!·)
 |.lt,.int a,.int b=>some (decide (a<b))
 |.le,.int a,.int b=>some (decide (a<=b))
 |.gt,.int a,.int b=>some (decide (b<a))
 |.ge,.int a,.int b=>some (decide (b<=a))
 |.isn,v,w=>Kg v w
 |.ntn,v,w=>(Kg v w).map (!·)
 |.t8,v,w=>wU h v w
 |.nin,v,w=>(wU h v w).map (!·)
 |_,_,_=>none
def cj(h:Hs):Val->Option Bool
 |.non=>some false
 |.bl b=>some b
 |.int i=>some (i != 0)
 |.str x=>if x.length<=sizeLine then some ((x.length:Int) != 0) else none
 |.tup vs=>some (!vs.isEmpty)
 |.rl vs=>some (!vs.isEmpty)
 |.dc ks _=>some (!ks.isEmpty)
 |.ob _ _ _=>none
 | .ref i=>match h[i]? with
  |some (.lst xs)=>some (!xs.isEmpty)
  |some (.dct xs)=>some (!xs.isEmpty)
  |_=>none
def lK(h:Hs):Val->Val->Option Val
 |.str x,.int i=>if x.length<=sizeLine then (jQ x.cps.toList i).map λc=>.str ⟨[c].toArray⟩ else none
 |.tup vs,.int i=>jQ vs i
 |.rl vs,.int i=>jQ vs i
 | .ref j,.int i=>match h[j]? with
  |some (.dct kvs)=>cg kvs (.inl i)
  |_=>(aF h (.ref j)).bind λxs=>jQ xs i
 | .ref j,.str x=>match h[j]? with
  |some (.dct kvs)=>cg kvs (.inr x)
  |_=>none
 |.dc ks vs,.int i=>cg (ks.zip vs) (.inl i)
 |.dc ks vs,.str x=>cg (ks.zip vs) (.inr x)
 |_,_=>none
def DO(h:Hs)(o:Val):Option Unit:=match o with
 | .ref i=>(match h[i]? with
  |some (.dct _)=>some ()
  |_=>none)
 |.dc _ _=>some ()
 |_=>none
def zl(h:Hs)(o:Val)(k:Key):Option (Option Val):=match o with
 | .ref i=>(match h[i]? with
  |some (.dct kvs)=>some (cg kvs k)
  |_=>none)
 |.dc ks vs=>some (cg (ks.zip vs) k)
 |_=>none
def lq(h:Hs)(o:Val):Option (List Key):=match o with
 | .ref i=>(match h[i]? with
  |some (.dct kvs)=>some (kvs.map (·.1))
  |_=>none)
 |.dc ks _=>some ks
 |_=>none
def zm:Key->Val
 |.inl i=>.int i
 |.inr x=>.str x
def qE:List Key->Option (List Int):=cz λk=>match k with
 |.inl i=>some i
 |.inr _=>none
def jX(h:Hs)(o:Val):Option (List Int):=(lq h o).bind λks=>(qE ks).bind λns=>if ns.length<64 then some (sortI ns) else none
def qF(h:Hs)(ks:List Key)(w:Val):Option (List Int):=(qE ks).bind λns=>(aF h w).bind λxs=>(bX xs).bind λms=>if ns.length<=100000 then some (ns.filter λn=>!(ms.any λm=>m==n)) else none
def cA{α:Type}(ds:List α)(lo hi:Option Int):List α:=(ds.drop (HT.dQ ds.length 0 lo)).take (HT.dQ ds.length ds.length hi-HT.dQ ds.length 0 lo)
def sS(v:Val)(lo hi:Option Int):M Val:=match v with
 |.tup vs=>aE (!(decide (HT.dQ vs.length 0 lo=0)&&decide (HT.dQ vs.length vs.length hi=vs.length))) (ret (.tup (cA vs lo hi)))
 |v=>bnd (ask λh=>aF h v) λxs=>new (.lst (cA xs lo hi))
def wV(h:Hs):Val->Option String
 |.non=>some "NoneType" | .bl _=>some "bool" | .int _=>some "int" | .str _=>some "str" | .tup _=>some "tuple" | .rl _=>some "list" | .dc _ _=>some "dict" | .ob _ _ _=>none
 | .ref i=>match h[i]? with
  |some (.lst _)=>some "list"
  |some (.dct _)=>some "dict"
  |_=>none
def wW(T:String)(t:String):Option Bool :=
 if ["list","tuple","str","bool","int","dict"].contains T=true then some (decide (T=t\/(T = "int" /\ t = "bool"))) else none
def mH(h:Hs):Val->Option Nat
 |.str x=>if x.length<=sizeLine then some x.length else none
 |.tup vs=>some vs.length
 |.rl vs=>some vs.length
 |.dc ks _=>some ks.length
 | .ref i=>match h[i]? with
  |some (.lst xs)=>some xs.length
  |some (.dct xs)=>some xs.length
  |_=>none
 |_=>none
def blt:Bl->List Val->M Val
 |.len,[v]=>bnd (ask λh=>mH h v) λn=>ret (.int n)
 |.min,[.int a,.int b]=>ret (.int (if b<a then b else a))
 |.max,[.int a,.int b]=>ret (.int (if b>a then b else a))
 |.sorted,[v]=>bnd (ask λh=>aF h v) λxs=>bnd (bG (dD xs)) λys=>new (.lst ys)
 |.list,[v]=>bnd (ask λh=>kZ h v) λxs=>new (.lst xs)
 |.int,[.bl b]=>ret (.int (if b=true then 1 else 0))
 |.int,[.int i]=>ret (.int i)
 |.all,[v]=>bnd (ask λh=>aF h v) λxs=>bnd (bG (fq xs)) λbs=>ret (.bl (bs.all id))
 |.isin T,[v]=>bnd (ask λh=>wV h v) λt=>bnd (bG (wW T t)) λb=>ret (.bl b)
 |_,_=>bG none
def met:Me->Val->List Val->M Val
 |.append,.ref i,[v]=>bnd (ask λh=>match h[i]? with|some (.lst xs)=>some xs|_=>none) λxs=>aE (decide (xs.length<sizeLine)) (bnd (put i (.lst (xs++[v]))) λ_=>ret .non)
 |.extend,.ref i,[v]=>bnd (ask λh=>match h[i]? with|some (.lst xs)=>some xs|_=>none) λxs=>bnd (ask λh=>wR h v) λys=>aE (decide (xs.length+ys.length<=sizeLine)) (bnd (put i (.lst (xs++ys))) λ_=>ret .non)
 |.remove,.ref i,[.int k]=>bnd (ask λh=>match h[i]? with|some (.lst xs)=>some xs|_=>none) λxs=>bnd (bG (bX xs)) λks=>aE (decide (k∈ks)) (bnd (put i (.lst (xs.eraseIdx (ks.idxOf k)))) λ_=>ret .non)
 |.pop,.ref i,[.int k]=>bnd (ask λh=>match h[i]? with|some (.lst xs)=>some xs|_=>none) λxs=>aE (decide (k=0)) (bnd (bG xs[0]?) λv=>bnd (put i (.lst (xs.eraseIdx 0))) λ_=>ret v)
 |_,_,_=>bG none
def recv(h:Hs):Me->Val->Option Unit
 |.join,.str _=>some ()
 |.append,.ref i=>match h[i]? with|some (.lst _)=>some ()|_=>none
 |.extend,.ref i=>match h[i]? with|some (.lst _)=>some ()|_=>none
 |.remove,.ref i=>match h[i]? with|some (.lst _)=>some ()|_=>none
 |.pop,.ref i=>match h[i]? with|some (.lst _)=>some ()|_=>none
 |_,_=>none
inductive Src
 |fix (xs:List Val)|live (i:Nat)|enum (i:Nat)|zip (v w:Val)
def cI:Nat->List Val->List Val
 |_,[]=>[]
 |i,d::r=>.tup [.int i,d]::cI (i+1) r
def Qo:List Val->List Val->List Val
 |a::r,b::t=>.tup [a,b]::Qo r t
 |_,_=>[]
def ck(lo:Int)(n:Nat):List Val:=(List.range n).map λ(i:Nat)=>Val.int (lo+(i:Int))
def inR(i:Int):Bool:=decide (-(2 ^ 62)<=i)&&decide (i<2 ^ 62)
def srcOf:Ik->List Val->Option Src
 |.seq,[.tup vs]=>some (.fix vs)
 |.seq,[.rl vs]=>some (.fix vs)
 |.seq,[.ref i]=>some (.live i)
 |.range,[.int n]=>if inR n then some (.fix (ck 0 n.toNat)) else none
 |.range,[.int a,.int b]=>if inR a&&inR b then some (.fix (ck a (b-a).toNat)) else none
 |.enum,[.rl vs]=>some (.fix (cI 0 vs))
 |.enum,[.ref i]=>some (.enum i)
 |.zip,[v,w]=>some (.zip v w)
 |_,_=>none
def Src.items(h:Hs):Src->Option (List Val)
 |.fix xs=>some xs
 |.live i=>aF h (.ref i)
 |.enum i=>(aF h (.ref i)).map (cI 0)
 |.zip v w=>(aF h v).bind λxs=>(aF h w).map λys=>Qo xs ys
def bindAll:List Nat->List Val->Env->Option Env
 |[],[],env=>some env
 |i::is,d::ds,env=>bindAll is ds (env.set i (some d))
 |_,_,_=>none
def fR:Ak->Val->Env->Option Env
 |.one i,d,env=>some (env.set i (some d))
 |.tup is,.tup ds,env=>bindAll is ds env
 |_,_,_=>none
def jY(js:List (Option Nat))(env:Env):Env:=js.map λo=>match o with
 |none=>none
 | some j=>match env[j]? with
  |some (some d)=>some d
  |_=>none
def fS(src:Src)(f:Val->M (Option Val)):Nat->Nat->List Val->M (List Val)
 |0,i,acc=>bnd (ask λh=>src.items h) λxs=>aE (decide (xs.length<=i)) (ret acc)
 | n+1,i,acc=>bnd (ask λh=>src.items h) λxs=>match xs[i]? with
  |none=>ret acc
  |some x=>bnd (f x) λo=>fS src f n (i+1) (match o with|some e=>acc++[e]|none=>acc)
def cX:IE->Bool
 |.no=>true
 |_=>false
def jB:Val->Option Int
 |.int i=>some i
 |_=>none
def qG:Val->M Bool
 |.bl b=>ret b
 |_=>bG none
def iw(n:Nat)(h:Hs)(o:Val)(x:Str):Option Val:=match o with
 | .ref i=>(match h[i]? with
  |some (.ins c fs)=>if c<n then fs.lookup x else none
  |_=>none)
 |.ob c xs vs=>if c<n then (xs.zip vs).lookup x else none
 |_=>none
def kP(h:Hs)(o:Val)(m:Str)(js:List (Nat×Nat)):Option Nat:=match o with
 | .ref i=>(match h[i]? with
  |some (.ins c fs)=>if (fs.lookup m).isNone=true then js.lookup c else none
  |_=>none)
 |.ob c xs vs=>if ((xs.zip vs).lookup m).isNone=true then js.lookup c else none
 |_=>none
def qH(f:Str)(v:Val):List (Str×Val)->List (Str×Val)
 |[]=>[(f,v)]
 |(g,x)::r=>if g=f then (g,v)::r else (g,x)::qH f v r
def Am(n:Nat)(o:Val)(x:Str)(v:Val):M Unit:=match o with
 |.ref i=>bnd (ask λh=>match h[i]? with|some (.ins c fs)=>if c<n then some (c,fs) else none|_=>none) λp=>aE (decide (p.2.length<1000)) (put i (.ins p.1 (qH x v p.2)))
 |_=>bG none
def CJ(c:Nat)(φ:List Val->M Val)(vs:List Val):M Val:=bnd (new (.ins c [])) λo=>bnd (φ (o::vs)) λr=>match r with
 |.non=>ret o
 |_=>bG none
mutual
noncomputable def aB(Φ:Nat->List Val->M Val):IE->Env->M Val
 | .var i,env=>bG (match env[i]? with
  |some (some d)=>some d
  |_=>none)
 |.cst d,_=>ret d
 |.con _ d,_=>ret d
 |.no,_=>bG none
 |.bin o a b,env=>bnd (aB Φ a env) λx=>bnd (aB Φ b env) λy=>Kf o x y
 | .neg a,env=>bnd (aB Φ a env) λx=>match x with
  |.int i=>ret (.int (-i))
  |_=>bG none
 |.cmp o a b,env=>bnd (aB Φ a env) λx=>bnd (aB Φ b env) λy=>bnd (ask λh=>cop h o x y) λt=>ret (.bl t)
 |.chn _ _ _ _ _,_=>bG none
 |.and a b,env=>bnd (aB Φ a env) λx=>bnd (qG x) λt=>if t=true then bnd (aB Φ b env) λy=>bnd (qG y) λu=>ret (.bl u) else ret (.bl false)
 |.or a b,env=>bnd (aB Φ a env) λx=>bnd (qG x) λt=>if t=true then ret (.bl true) else bnd (aB Φ b env) λy=>bnd (qG y) λu=>ret (.bl u)
 |.not a,env=>bnd (aB Φ a env) λx=>bnd (qG x) λt=>ret (.bl (!t))
 |.ite _ _ _,_=>bG none
 |.tup es,env=>bnd (aK Φ es env) λds=>aE (decide (ds.length<=sizeLine)) (ret (.tup ds))
 |.lst es,env=>bnd (aK Φ es env) λds=>aE (decide (ds.length<=sizeLine)) (new (.lst ds))
 |.idx a b,env=>bnd (aB Φ a env) λx=>bnd (aB Φ b env) λy=>ask λh=>lK h x y
 |.slc a lo hi,env=>bnd (aB Φ a env) λx=>bnd (if cX lo=true then ret none else bnd (aB Φ lo env) λv=>bnd (bG (jB v)) λi=>ret (some i)) λl=>
   bnd (if cX hi=true then ret none else bnd (aB Φ hi env) λv=>bnd (bG (jB v)) λi=>ret (some i)) λu=>sS x l u
 |.call j es,env=>bnd (aK Φ es env) λds=>Φ j ds
 |.blt b es,env=>bnd (aK Φ es env) λds=>blt b ds
 |.met m a es,env=>bnd (aB Φ a env) λx=>bnd (ask λh=>recv h m x) λ_=>bnd (aK Φ es env) λds=>met m x ds
 | .comp _ js pat k it c elt,env=>bnd (aK Φ it env) λits=>bnd (bG (srcOf k its)) λsrc=>bnd (ask λh=>src.items h) λxs=>aE (decide (xs.length<=100000))
   (bnd (fS src (λd=>bnd (bG (fR pat d (jY js env))) λenv'=>bnd (if cX c=true then ret true else bnd (aB Φ c env') λv=>ask λh=>cj h v) λt=>
    if t=true then bnd (aB Φ elt env') λe=>ret (some e) else ret none) xs.length 0 []) λys=>new (.lst ys))
 |.dct0,_=>new (.dct [])
 |.sset a,env=>bnd (aB Φ a env) λv=>bnd (ask λh=>aF h v) λxs=>bnd (bG (bX xs)) λns=>aE (decide (ns.length<64)) (new (.lst ((sortI (L2.dS [] ns)).map .int)))
 |.dget d k x,env=>bnd (aB Φ d env) λo=>bnd (ask λh=>DO h o) λ_=>bnd (aB Φ k env) λi=>bnd (bG (keyOf i)) λkk=>bnd (aB Φ x env) λz=>bnd (ask λh=>zl h o kk) λr=>ret (r.getD z)
 |.dct1 k v,env=>bnd (aB Φ k env) λx=>bnd (bG (keyOf x)) λkk=>bnd (aB Φ v env) λy=>new (.dct [(kk,y)])
 |.lkeys d,env=>bnd (aB Φ d env) λo=>bnd (ask λh=>lq h o) λks=>new (.lst (ks.map zm))
 |.sdef _ _ _,_=>bG none
 |.svals _,_=>bG none
 |.skeys d,env=>bnd (aB Φ d env) λo=>bnd (ask λh=>jX h o) λns=>new (.lst (ns.map .int))
 |.fld n a x,env=>bnd (aB Φ a env) λo=>ask λh=>iw n h o x
 |.mth a m js es,env=>bnd (aB Φ a env) λo=>bnd (ask λh=>kP h o m js) λj=>bnd (aK Φ es env) λds=>Φ j (o::ds)
 |.rev _ _,_=>bG none
 |.dflt _ _ _ _ d w,env=>bnd (aB Φ d env) λo=>bnd (ask λh=>lq h o) λks=>bnd (aB Φ w env) λv=>bnd (ask λh=>qF h ks v) λns=>new (.lst (ns.map .int))
 |.isc _ _ _,_=>bG none
noncomputable def aK(Φ:Nat->List Val->M Val):mD->Env->M (List Val)
 |.nil,_=>ret []
 |.cons e es,env=>bnd (aB Φ e env) λd=>bnd (aK Φ es env) λds=>ret (d::ds)
end
inductive Fl
 |nx (env:Env)|rt (v:Val)|bk (env:Env)|ct (env:Env)
def forM(src:Src)(body:Val->Env->M Fl):Nat->Nat->Env->M Fl
 |0,i,env=>bnd (ask λh=>src.items h) λxs=>aE (decide (xs.length<=i)) (ret (.nx env))
 | n+1,i,env=>bnd (ask λh=>src.items h) λxs=>match xs[i]? with
  |none=>ret (.nx env)
  | some x=>bnd (body x env) λf=>match f with
   |.nx env'=>forM src body n (i+1) env'
   |.ct env'=>forM src body n (i+1) env'
   |.bk env'=>ret (.nx env')
   |.rt v=>ret (.rt v)
def nX(c:Env->M Bool)(body:Env->M Fl):Nat->Env->M Fl
 |0,_=>bG none
 | n+1,env=>bnd (c env) λt=>if t=true then bnd (body env) λf=>(match f with
   |.nx env'=>nX c body n env'
   |.ct env'=>nX c body n env'
   |.bk env'=>ret (.nx env')
   |.rt v=>ret (.rt v)) else ret (.nx env)
def t9(o i v:Val):M Unit:=match o with
 | .ref j=>bnd (ask λh=>h[j]?) λob=>match ob,i with
  |.lst xs,.int k=>bnd (bG (BO xs.length k)) λn=>put j (.lst (xs.set n v))
  |.dct kvs,i=>bnd (bG (keyOf i)) λk=>aE (decide (kvs.length<sizeLine)) (put j (.dct (gR kvs k v)))
  |_,_=>bG none
 |_=>bG none
mutual
noncomputable def dU(Φ:Nat->List Val->M Val):IS->Env->M Fl
 |.expr e,env=>bnd (aB Φ e env) λ_=>ret (.nx env)
 |.asg p e,env=>bnd (aB Φ e env) λv=>bnd (bG (fR p v env)) λenv'=>ret (.nx env')
 |.aug i o e,env=>bnd (bG (match env[i]? with|some (some (.int x))=>some x|_=>none)) λx=>bnd (aB Φ e env) λv=>bnd (bG (jB v)) λy=>bnd (Kf o (.int x) (.int y)) λz=>ret (.nx (env.set i (some z)))
 |.cR o i v,env=>bnd (aB Φ v env) λx=>bnd (aB Φ o env) λy=>bnd (aB Φ i env) λz=>bnd (t9 y z x) λ_=>ret (.nx env)
 |.iff c a b,env=>bnd (aB Φ c env) λx=>bnd (ask λh=>cj h x) λt=>if t=true then bS Φ a env else bS Φ b env
 |.for p k it body,env=>bnd (aK Φ it env) λits=>bnd (bG (srcOf k its)) λsrc=>bnd (ask λh=>src.items h) λxs=>
   forM src (λx env=>bnd (bG (fR p x env)) λenv'=>bS Φ body env') xs.length 0 env
 |.whl n c body,env=>nX (λenv=>bnd (aB Φ c env) λx=>ask λh=>cj h x) (bS Φ body) n env
 |.ret e,env=>bnd (aB Φ e env) λv=>ret (.rt v)
 |.Iq,_=>ret (.rt .non)
 |.brk,env=>ret (.bk env)
 |.cnt,env=>ret (.ct env)
 |.pass,env=>ret (.nx env)
 |.never,_=>bG none
 |.setF n a x v,env=>bnd (aB Φ v env) λy=>bnd (aB Φ a env) λo=>bnd (Am n o x y) λ_=>ret (.nx env)
noncomputable def bS(Φ:Nat->List Val->M Val):dg->Env->M Fl
 |.nil,env=>ret (.nx env)
 | .cons s r,env=>bnd (dU Φ s env) λf=>match f with
  |.nx env'=>bS Φ r env'
  |f=>ret f
end
def dX(Φ:Nat->List Val->M Val)(n:Nat)(body:dg)(vs:List Val):M Val :=
 bnd (bS Φ body (vs.map some++replicate (n-vs.length) none)) λf=>match f with
  |.nx _=>ret .non
  |.rt v=>ret v
  |_=>bG none
theorem jZ{b:Bool}(ho:o=.lt\/o=.le\/o=.gt\/o=.ge)(e:cop h o v w=some b):∃i j,v=.int i/\w=.int j:=by
 cases v with
 |int i=>
  cases w with
  |int j=>exact⟨i,j,rfl,rfl⟩
  |_=>rcases ho with rfl|rfl|rfl|rfl<;>cases e
 |_=>rcases ho with rfl|rfl|rfl|rfl<;>cases e
structure Bd where
 K:Frag
 cl:Nat->Addr
def Kh(K:Frag)(H:Hp)(a:Addr)(xs:List V):Prop :=
 (∃o,H a=some (.jL o (.lst xs)))\/gA K (λ_=>none) a xs
theorem Kh.sq{K:Frag}{H:Hp}{a:Addr}{xs:List V}(h:Kh K H a xs):gA K H a xs:=by
 rcases h with ⟨o,h⟩|(h|⟨o,h⟩)|h
 ·exact .inl (.inr ⟨o,h⟩)
 ·cases h
 ·cases h
 ·exact .inr h
mutual
noncomputable def VR(K:Frag)(ρ:List Addr)(H:Hp):Val->V->Prop
 |.non,x=>x=.non
 |.bl b,x=>x=.bl b
 |.int i,x=>x=.int i
 |.str s,x=>x=.str s
 |.tup vs,x=>∃a xs,x=.ref a/\jP K H a xs/\ay K ρ H vs xs
 |.rl vs,x=>∃a xs,x=.ref a/\Kh K H a xs/\ay K ρ H vs xs
 |.dc _ _,_=>False
 |.ob _ _ _,_=>False
 |.ref i,x=>∃a,x=.ref a /\ ρ[i]?=some a
noncomputable def ay(K:Frag)(ρ:List Addr)(H:Hp):List Val->List V->Prop
 |[],xs=>xs=[]
 |v::vs,xs=>∃x r,xs=x::r/\VR K ρ H v x/\ay K ρ H vs r
end
def gy(K:Frag)(ρ:List Addr)(H:Hp):List (Key×Val)->List (Key×V)->Prop
 |[],xs=>xs=[]
 |(k,v)::vs,xs=>∃x r,xs=(k,x)::r/\VR K ρ H v x/\gy K ρ H vs r
def mJ(K:Frag)(ρ:List Addr)(H:Hp):List (Str×Val)->List (Str×V)->Prop
 |[],xs=>xs=[]
 |(k,v)::vs,xs=>∃x r,xs=(k,x)::r/\VR K ρ H v x/\mJ K ρ H vs r
def OR(B:Bd)(ρ:List Addr)(H:Hp)(a:Addr):Ob->Prop
 |.lst xs=>∃ys,H a=some (.lst ys)/\ay B.K ρ H xs ys
 |.dct kvs=>∃ks,H a=some (.dK ks)/\gy B.K ρ H kvs ks
 |.ins c fs=>∃dx gs,H a=some (.ins (B.cl c) dx gs)/\mJ B.K ρ H fs gs
structure HR (B:Bd) (ρ:List Addr) (h:Hs) (H:Hp):Prop where
 len:ρ.length=h.length
 nd:ρ.Nodup
 ob:∀(i:Nat) (o:Ob) (a:Addr),h[i]?=some o -> ρ[i]?=some a->OR B ρ H a o
def Mu:HO->Bool
 |.lst _=>true|.dK _=>true|.ins ..=>true
 |_=>false
structure Gw (ρ:List Addr) (H:Hp) (ρ':List Addr) (H':Hp):Prop where
 pre:ρ <+: ρ'
 firm:∀a o,H a=some o->Mu o=false->H' a=some o
structure Gr (ρ:List Addr) (H:Hp) (ρ':List Addr) (H':Hp):Prop where
 pre:ρ <+: ρ'
 keep:∀a o,H a=some o->a ∉ ρ -> H' a=some o
 firm:∀a o,H a=some o->Mu o=false->H' a=some o
 fresh:∀a,a ∈ ρ'->a ∉ ρ -> H a=none
section
variable {K:Frag} {B:Bd} {ρ ρ' ρ1 ρ2:List Addr} {H H' H1 H2:Hp} {h h':Hs}
theorem Gr.w(g:Gr ρ H ρ' H'):Gw ρ H ρ' H':=⟨g.pre,g.firm⟩
theorem Gr.refl:Gr ρ H ρ H:=⟨aar _,λ_ _ e _=>e,λ_ _ e _=>e,λ_ e n=>absurd e n⟩
theorem Gr.trans(g:Gr ρ H ρ1 H1)(k:Gr ρ1 H1 ρ2 H2):Gr ρ H ρ2 H2 where
 pre:=g.pre.trans k.pre
 keep a o e n:=k.keep a o (g.keep a o e n) λz=>by rw[g.fresh a z n]at e;cases e
 firm a o e n:=k.firm a o (g.firm a o e n) n
 fresh a z n:=by
  by_cases hb:a ∈ ρ1
  ·exact g.fresh a hb n
  ·cases e:H a with
   |none=>rfl
   |some o=>have e1:=g.keep a o e n;rw[k.fresh a z hb]at e1;cases e1
theorem pR{i:Nat}(p:ρ <+: ρ')(e:ρ[i]?=some a):ρ'[i]?=some a:=by
 obtain⟨t,rfl⟩:=p;have hi:i < ρ.length:=(Z5.mp e).1;rw[aag hi];exact e
theorem Gw.SH(g:Gw ρ H ρ' H')(e:jP K H a xs):jP K H' a xs:=by
 rcases e with (e|⟨o,e⟩)|e
 ·exact .inl (.inl (g.firm _ _ e rfl))
 ·exact .inl (.inr ⟨o,g.firm _ _ e rfl⟩)
 ·exact .inr e
theorem Gw.L0(g:Gw ρ H ρ' H')(e:Kh K H a xs):Kh K H' a xs:=by
 rcases e with ⟨o,e⟩|e
 ·exact .inl ⟨o,g.firm _ _ e rfl⟩
 ·exact .inr e
mutual
theorem VR.kQ(g:Gw ρ H ρ' H'):∀(v:Val) (x:V),VR K ρ H v x->VR K ρ' H' v x
 |.non,x,e=>by rw[VR]at e |-;exact e
 |.bl b,x,e=>by rw[VR]at e |-;exact e
 |.int b,x,e=>by rw[VR]at e |-;exact e
 |.str b,x,e=>by rw[VR]at e |-;exact e
 | .tup vs,x,e=>by
  rw[VR]at e |-;obtain⟨a,xs,rfl,q1,q2⟩:=e;exact⟨a,xs,rfl,g.SH q1,ay.kQ g vs xs q2⟩
 | .rl vs,x,e=>by
  rw[VR]at e |-;obtain⟨a,xs,rfl,q1,q2⟩:=e;exact⟨a,xs,rfl,g.L0 q1,ay.kQ g vs xs q2⟩
 |.dc _ _,x,e=>by rw[VR]at e;exact e.elim
 |.ob _ _ _,x,e=>by rw[VR]at e;exact e.elim
 | .ref i,x,e=>by
  rw[VR]at e |-;obtain⟨a,rfl,q⟩:=e;exact⟨a,rfl,pR g.pre q⟩
theorem ay.kQ(g:Gw ρ H ρ' H'):∀(vs:List Val) (xs:List V),ay K ρ H vs xs->ay K ρ' H' vs xs
 |[],xs,e=>by rw[ay]at e |-;exact e
 | v::vs,xs,e=>by
  rw[ay]at e |-;obtain⟨x,r,rfl,q1,q2⟩:=e;exact⟨x,r,rfl,VR.kQ g v x q1,ay.kQ g vs r q2⟩
end
theorem gy.kQ(g:Gw ρ H ρ' H'):∀(vs:List (Key×Val)) (xs:List (Key×V)),gy K ρ H vs xs->gy K ρ' H' vs xs
 |[],xs,e=>e
 |(k,v)::vs,xs,⟨x,r,e,q1,q2⟩=>⟨x,r,e,VR.kQ g v x q1,gy.kQ g vs r q2⟩
theorem mJ.kQ(g:Gw ρ H ρ' H'):∀(vs:List (Str×Val)) (xs:List (Str×V)),mJ K ρ H vs xs->mJ K ρ' H' vs xs
 |[],xs,e=>e
 |(k,v)::vs,xs,⟨x,r,e,q1,q2⟩=>⟨x,r,e,VR.kQ g v x q1,mJ.kQ g vs r q2⟩
theorem mJ.look:∀{vs:List (Str×Val)} {xs:List (Str×V)},mJ K ρ H vs xs->(vs.lookup x=none->xs.lookup x=none)/\∀v,vs.lookup x=some v->∃y,xs.lookup x=some y/\VR K ρ H v y
 |[],xs,e=>by rw[mJ]at e;subst e;exact⟨λ_=>rfl,λv z=>by cases z⟩
 | (k,v)::vs,xs,e=>by
  rw[mJ]at e;obtain⟨y,r,rfl,q1,q2⟩:=e;rw[aaB,aaB];cases hb:x==k with
  |true=>exact⟨λz=>(by cases z),λw z=>by cases z;exact⟨y,rfl,q1⟩⟩
  |false=>exact mJ.look q2
theorem mJ.length:∀{vs:List (Str×Val)} {xs:List (Str×V)},mJ K ρ H vs xs->vs.length=xs.length
 |[],xs,e=>by rw[mJ]at e;subst e;rfl
 |(k,v)::vs,xs,e=>by rw[mJ]at e;obtain⟨y,r,rfl,_,q⟩:=e;simp[mJ.length q]
theorem mJ.put(hw:VR K ρ H w y):∀{vs:List (Str×Val)} {xs:List (Str×V)},mJ K ρ H vs xs->mJ K ρ H (qH x w vs) (jd x y xs)
 |[],xs,e=>by rw[mJ]at e;subst e;exact⟨y,[],rfl,hw,rfl⟩
 | (k,v)::vs,xs,e=>by
  rw[mJ]at e;obtain⟨z,r,rfl,q1,q2⟩:=e;rw[qH,jd]
  by_cases hk:k=x
  ·rw[Z7 hk,Z7 hk];exact⟨y,r,rfl,hw,q2⟩
  ·rw[Z8 hk,Z8 hk];exact⟨z,_,rfl,q1,mJ.put hw q2⟩
theorem VR.up(g:Gr ρ H ρ' H')(v:Val)(x:V)(e:VR K ρ H v x):VR K ρ' H' v x:=VR.kQ g.w v x e
theorem ay.up(g:Gr ρ H ρ' H')(v:List Val)(x:List V)(e:ay K ρ H v x):ay K ρ' H' v x:=ay.kQ g.w v x e
theorem gy.up(g:Gr ρ H ρ' H')(v:List (Key×Val))(x:List (Key×V))(e:gy K ρ H v x):gy K ρ' H' v x:=gy.kQ g.w v x e
theorem mJ.up(g:Gr ρ H ρ' H')(v:List (Str×Val))(x:List (Str×V))(e:mJ K ρ H v x):mJ K ρ' H' v x:=mJ.kQ g.w v x e
theorem ay.nil:ay K ρ H [] []:=by rw[ay]
theorem ay.cons{v:Val}{vs:List Val}{x:V}{xs:List V}(a:VR K ρ H v x)(b:ay K ρ H vs xs):ay K ρ H (v::vs) (x::xs):=by rw[ay];exact⟨x,xs,rfl,a,b⟩
theorem ay.length:∀{vs:List Val} {xs:List V},ay K ρ H vs xs->vs.length=xs.length
 |[],xs,e=>by rw[ay]at e;subst e;rfl
 |v::vs,xs,e=>by rw[ay]at e;obtain⟨x,r,rfl,_,q⟩:=e;simp[ay.length q]
theorem ay.get:∀{vs:List Val} {xs:List V} {i:Nat} {v:Val},ay K ρ H vs xs->vs[i]?=some v->∃x,xs[i]?=some x/\VR K ρ H v x
 |[],xs,i,v,e,q=>by simp at q
 | w::vs,xs,0,v,e,q=>by
  rw[ay]at e;obtain⟨x,r,rfl,a,_⟩:=e;simp at q;subst q;exact⟨x,rfl,a⟩
 | w::vs,xs,i+1,v,e,q=>by
  rw[ay]at e;obtain⟨x,r,rfl,_,b⟩:=e;simp at q;obtain⟨y,q1,q2⟩:=ay.get b q;exact⟨y,by simpa using q1,q2⟩
theorem ay.append:∀{vs ws:List Val} {xs ys:List V},ay K ρ H vs xs->ay K ρ H ws ys->ay K ρ H (vs++ws) (xs++ys)
 |[],ws,xs,ys,e,q=>by rw[ay]at e;subst e;exact q
 | w::vs,ws,xs,ys,e,q=>by
  rw[ay]at e;obtain⟨x,r,rfl,a,b⟩:=e;exact ay.cons a (ay.append b q)
theorem ay.take:∀{vs:List Val} {xs:List V} (n:Nat),ay K ρ H vs xs->ay K ρ H (vs.take n) (xs.take n)
 |_,_,0,_=>by simp;exact ay.nil
 |[],xs,n+1,e=>by rw[ay]at e;subst e;simp;exact ay.nil
 | w::vs,xs,n+1,e=>by
  rw[ay]at e;obtain⟨x,r,rfl,a,b⟩:=e;exact ay.cons a (ay.take n b)
theorem ay.drop:∀{vs:List Val} {xs:List V} (n:Nat),ay K ρ H vs xs->ay K ρ H (vs.drop n) (xs.drop n)
 |_,_,0,e=>by simpa using e
 |[],xs,n+1,e=>by rw[ay]at e;subst e;simp;exact ay.nil
 | w::vs,xs,n+1,e=>by
  rw[ay]at e;obtain⟨x,r,rfl,a,b⟩:=e;exact ay.drop n b
theorem ay.cut(lo hi:Option Int)(e:ay K ρ H vs xs):ay K ρ H (cA vs lo hi) (wc xs lo hi):=by
 unfold cA wc;rw[e.length];exact ay.take _ (ay.drop _ e)
theorem ay.jQ{i:Int}(e:ay K ρ H vs xs)(q:L2.jQ vs i=some v):∃x,L2.jQ xs i=some x/\VR K ρ H v x:=by
 unfold L2.jQ at q |-;rw[e.length]at q;cases hi:L2.BO xs.length i with
 |none=>rw[hi]at q;cases q
 |some n=>rw[hi]at q;exact ay.get e q
theorem ay.set:∀{vs:List Val} {xs:List V} (n:Nat) {v:Val} {x:V},ay K ρ H vs xs->VR K ρ H v x->ay K ρ H (vs.set n v) (xs.set n x)
 |[],xs,n,v,x,e,q=>by rw[ay]at e;subst e;simp;exact ay.nil
 | w::vs,xs,0,v,x,e,q=>by
  rw[ay]at e;obtain⟨y,r,rfl,a,b⟩:=e;exact ay.cons q b
 | w::vs,xs,n+1,v,x,e,q=>by
  rw[ay]at e;obtain⟨y,r,rfl,a,b⟩:=e;exact ay.cons a (ay.set n b q)
theorem ay.one(e:ay K ρ H [v] xs):∃x,xs=[x]/\VR K ρ H v x:=by
 rw[ay]at e;obtain⟨x,r,rfl,a,b⟩:=e;rw[ay]at b;subst b;exact⟨x,rfl,a⟩
theorem ay.two(e:ay K ρ H [v,w] xs):∃x y,xs=[x,y]/\VR K ρ H v x/\VR K ρ H w y:=by
 rw[ay]at e;obtain⟨x,r,rfl,a,b⟩:=e;obtain⟨y,rfl,c⟩:=ay.one b;exact⟨x,y,rfl,a,c⟩
theorem VR.int{i:Int}:VR K ρ H (.int i) (.int i):=by rw[VR]
theorem VR.str:VR K ρ H (.str i) (.str i):=by rw[VR]
theorem VR.bl{i:Bool}:VR K ρ H (.bl i) (.bl i):=by rw[VR]
theorem VR.non:VR K ρ H .non .non:=by rw[VR]
theorem VR.tup(q:jP K H a xs)(e:ay K ρ H vs xs):VR K ρ H (.tup vs) (.ref a):=by rw[VR];exact⟨a,xs,rfl,q,e⟩
theorem VR.ref{i:Nat}(q:ρ[i]?=some a):VR K ρ H (.ref i) (.ref a):=by rw[VR];exact⟨a,rfl,q⟩
theorem ay.ints:∀{ns:List Int} {xs:List V},ay K ρ H (ns.map Val.int) xs↔xs=ns.map V.int
 |[],xs=>by simp[ay]
 | n::ns,xs=>by
  simp only[map_cons];rw[ay];constructor
  ·rintro⟨x,r,rfl,a,b⟩;rw[VR]at a;subst a;rw[(ay.ints (ns:=ns)).mp b]
  ·rintro rfl;exact⟨_,_,rfl,VR.int,(ay.ints (ns:=ns)).mpr rfl⟩
theorem ay.bools:∀{ns:List Bool} {xs:List V},ay K ρ H (ns.map Val.bl) xs↔xs=ns.map V.bl
 |[],xs=>by simp[ay]
 | n::ns,xs=>by
  simp only[map_cons];rw[ay];constructor
  ·rintro⟨x,r,rfl,a,b⟩;rw[VR]at a;subst a;rw[(ay.bools (ns:=ns)).mp b]
  ·rintro rfl;exact⟨_,_,rfl,VR.bl,(ay.bools (ns:=ns)).mpr rfl⟩
theorem ay.tups:∀{pQ:List (List Int)} {xs:List V},ay K ρ H (pQ.map mF) xs->∃rs:List (Addr×List Int),xs=rs.map (λr=>V.ref r.1)/\pQ=rs.map (·.2)/\∀r∈rs,jP K H r.1 (r.2.map V.int)
 |[],xs,e=>by simp only[map_nil]at e;rw[ay]at e;exact⟨[],e,rfl,λ_ z=>nomatch z⟩
 | ks::pQ,xs,e=>by
  simp only[map_cons]at e;rw[ay]at e;obtain⟨x,r,rfl,a,b⟩:=e;obtain⟨rs,e1,e2,e3⟩:=ay.tups b;unfold mF at a;rw[VR]at a;obtain⟨p,ys,rfl,g1,g2⟩:=a;rw[ay.ints.mp g2]at g1;refine⟨(p,ks)::rs,by rw[e1];rfl,by rw[e2];rfl,λr hr=>?_⟩
  rcases aao.mp hr with z|z
  ·rw[z];exact g1
  ·exact e3 r z
theorem ay.An:∀{rs:List (Addr×List Int)},(∀r∈rs,jP K H r.1 (r.2.map V.int))->ay K ρ H ((rs.map (·.2)).map mF) (rs.map λr=>V.ref r.1)
 |[],_=>ay.nil
 |r::rs,e=>ay.cons (VR.tup (e r Z9) (ay.ints.mpr rfl)) (ay.An λq hq=>e q (aab _ hq))
theorem OR.mu(q:OR B ρ H a o):∃u,H a=some u/\Mu u=true:=by
 cases o with
 |lst xs=>obtain⟨ys,e,_⟩:=q;exact⟨_,e,rfl⟩
 |dct xs=>obtain⟨ys,e,_⟩:=q;exact⟨_,e,rfl⟩
 |ins c fs=>obtain⟨dx,ys,e,_⟩:=q;exact⟨_,e,rfl⟩
theorem HR.mu(r:HR B ρ h H)(e:a ∈ ρ):∃u,H a=some u/\Mu u=true:=by
 obtain⟨i,hi,rfl⟩:=abS e;have hi':i<h.length:=by rw[<-r.len];exact hi
 exact(r.ob i _ _ (aap hi') (aap hi)).mu
theorem HR.out(r:HR B ρ h H)(e:H p=none):p ∉ ρ:=λz=>by
 obtain⟨u,q,_⟩:=r.mu z;rw[e]at q;cases q
theorem OR.kQ(g:Gw ρ H ρ' H')(e:H' a=H a)(q:OR B ρ H a o):OR B ρ' H' a o:=by
 cases o with
 |lst xs=>obtain⟨ys,e1,e2⟩:=q;exact⟨ys,e.trans e1,ay.kQ g _ _ e2⟩
 |dct xs=>obtain⟨ys,e1,e2⟩:=q;exact⟨ys,e.trans e1,gy.kQ g _ _ e2⟩
 |ins c fs=>obtain⟨dx,ys,e1,e2⟩:=q;exact⟨dx,ys,e.trans e1,mJ.kQ g _ _ e2⟩
theorem OR.up(g:Gr ρ H ρ' H')(e:H' a=H a)(q:OR B ρ H a o):OR B ρ' H' a o:=OR.kQ g.w e q
theorem Gr.side(e:H p=none):Gr ρ H ρ (upd H p o) where
 pre:=aar _
 keep a u q _:=by rw[ao (aI q e)];exact q
 firm a u q _:=by rw[ao (aI q e)];exact q
 fresh a z n:=absurd z n
theorem HR.side(r:HR B ρ h H)(e:H p=none):HR B ρ h (upd H p o) where
 len:=r.len
 nd:=r.nd
 ob i u a q1 q2:=by refine OR.up (Gr.side e) ?_ (r.ob i u a q1 q2);refine ao λz=>?_;subst z;exact r.out e (aaq q2)
theorem Gw.other(e:H p=some u)(hm:Mu u=true):Gw ρ H ρ (upd H p o) where
 pre:=aar _
 firm a w q n:=by
  have:a≠p:=λz=>by subst z;rw[e]at q;cases q;rw[hm]at n;cases n
  rw[ao this];exact q
theorem HR.other(r:HR B ρ h H)(hp:p ∉ ρ)(e:H p=some u)(hm:Mu u=true):HR B ρ h (upd H p o) where
 len:=r.len
 nd:=r.nd
 ob i w a q1 q2:=OR.kQ (Gw.other e hm) (ao λz=>by subst z;exact hp (aaq q2)) (r.ob i w a q1 q2)
theorem Gr.new(e:H p=none):Gr ρ H (ρ ++ [p]) (upd H p o) where
 pre:=aaO _ _
 keep a u q _:=by rw[ao (aI q e)];exact q
 firm a u q _:=by rw[ao (aI q e)];exact q
 fresh a z n:=by
  rcases aaF.mp z with z|z
  ·exact absurd z n
  ·rw[aai.mp z];exact e
theorem HR.new(r:HR B ρ h H)(e:H p=none)(q:OR B (ρ ++ [p]) (upd H p o) p u):HR B (ρ ++ [p]) (h++[u]) (upd H p o) where
 len:=by simp[r.len]
 nd:=by rw[aaA];refine⟨r.nd,by simp,λa ha b hb=>?_⟩;rw[aai.mp hb];rintro rfl;exact r.out e ha
 ob i v a q1 q2:=by
  by_cases hi:i<h.length
  ·rw[aag hi]at q1;rw[aag (by rw[r.len];exact hi)]at q2;refine OR.up (Gr.new e) (ao λz=>?_) (r.ob i v a q1 q2);subst z;exact r.out e (aaq q2)
  ·rw[aau (by omega)]at q1
   rw[aau (by rw[r.len];omega)]at q2;have hi0:i-h.length=0:=by have:=(Z5.mp q1).1;simp at this;omega
   rw[hi0]at q1;rw[r.len,hi0]at q2;simp at q1 q2;subst q1;subst q2;exact q
theorem Ao(r:HR B ρ h H):VR K (ρ ++ [p]) H' (.ref h.length) (.ref p):=VR.ref (by rw[<-r.len];simp)
theorem Kl{α:Type}:∀{l:List α} {i j:Nat} {a:α},l.Nodup->l[i]?=some a->l[j]?=some a->i=j
 |[],i,j,a,_,e,_=>by simp at e
 |b::l,0,0,a,_,_,_=>rfl
 | b::l,0,j+1,a,n,e,f=>by
  simp at e f;subst e;exact absurd (aaq f) (aaC.mp n).1
 | b::l,i+1,0,a,n,e,f=>by
  simp at e f;subst f;exact absurd (aaq e) (aaC.mp n).1
 | b::l,i+1,j+1,a,n,e,f=>by
  simp at e f;rw[Kl (aaC.mp n).2 e f]
theorem Gr.put(hp:p ∈ ρ)(e:H p=some u)(hm:Mu u=true):Gr ρ H ρ (upd H p o) where
 pre:=aar _
 keep a w q n:=by rw[ao λz=>n (by rw[z];exact hp)];exact q
 firm a w q n:=by
  have:a≠p:=λz=>by subst z;rw[e]at q;cases q;rw[hm]at n;cases n
  rw[ao this];exact q
 fresh a z n:=absurd z n
theorem HR.put{i:Nat}(r:HR B ρ h H)(hi:ρ[i]?=some p)(e:h[i]?=some w)(q:OR B ρ (upd H p o) p u):HR B ρ (h.set i u) (upd H p o) where
 len:=by simp[r.len]
 nd:=r.nd
 ob j v a q1 q2:=by
  obtain⟨z,k1,k2⟩:=(r.ob i w p e hi).mu
  by_cases hj:j=i
  ·subst hj;rw[hi]at q2;cases q2;have hlt:j<h.length:=(Z5.mp e).1;rw[aad hlt]at q1;cases q1;exact q
  ·rw[Z2 (λz=>hj z.symm)]at q1;refine OR.up (Gr.put (aaq hi) k1 k2) (ao λz=>?_) (r.ob j v a q1 q2);subst z;exact hj (Kl r.nd q2 hi)
theorem eG(r:HR B ρ h H)(q:VR B.K ρ H v x)(e:aF h v=some xs):∃a ys,x=.ref a/\gA B.K H a ys/\ay B.K ρ H xs ys:=by
 cases v with
 |rl vs=>simp only[aF]at e;cases e;rw[VR]at q;obtain⟨a,ys,rfl,k1,k2⟩:=q;exact⟨a,ys,rfl,k1.sq,k2⟩
 |ref i=>
  simp only[aF]at e;split at e
  ·rename_i zs e1;cases e;rw[VR]at q;obtain⟨a,rfl,k1⟩:=q;obtain⟨ys,k2,k3⟩:=r.ob i _ a e1 k1;exact⟨a,ys,rfl,.inl (.inl k2),k3⟩
  ·cases e
 |_=>cases e
theorem jg{i:Nat}(r:HR B ρ h H)(q:VR B.K ρ H (.ref i) x)(e:h[i]?=some (.lst xs)):∃a ys,x=.ref a /\ ρ[i]?=some a/\H a=some (.lst ys)/\ay B.K ρ H xs ys:=by
 rw[VR]at q;obtain⟨a,rfl,k1⟩:=q;obtain⟨ys,k2,k3⟩:=r.ob i _ a e k1;exact⟨a,ys,rfl,k1,k2,k3⟩
theorem L1(r:HR B ρ h H)(q:VR B.K ρ H v x)(e:kZ h v=some xs):∃a ys,x=.ref a/\(gA B.K H a ys\/jP B.K H a ys)/\ay B.K ρ H xs ys:=by
 cases v with
 |tup vs=>simp only[kZ]at e;cases e;rw[VR]at q;obtain⟨a,ys,rfl,k1,k2⟩:=q;exact⟨a,ys,rfl,.inr k1,k2⟩
 |rl vs=>obtain⟨a,ys,e1,k1,k2⟩:=eG r q (show aF h (.rl vs)=some xs from e);exact⟨a,ys,e1,.inl k1,k2⟩
 |ref vs=>obtain⟨a,ys,e1,k1,k2⟩:=eG r q (show aF h (.ref vs)=some xs from e);exact⟨a,ys,e1,.inl k1,k2⟩
 |_=>cases e
theorem nY(r:HR B ρ h H):∀(n:Nat) (v:Val) (x:V) (d:PyData),VR B.K ρ H v x->toD n h v=some d->Den B.K H d x/\d.canLay0=true/\d.depth<=n:=by
 intro n
 induction n with
 |zero=>intro v x d _ e;simp only[toD]at e;cases e
 |succ n ih=>
  have all:∀(vs:List Val) (xs:List V) (ds:List PyData),ay B.K ρ H vs xs->cz (toD n h) vs=some ds->dR B.K H ds xs/\PyData.canLayAll0 ds=true/\PyData.depthAll ds<=n:=by
   intro vs
   induction vs with
   |nil=>intro xs ds q e;simp only[cz]at e;cases e;rw[ay]at q;subst q;exact⟨dR.nil,rfl,by simp[PyData.depthAll]⟩
   |cons v vs Xu=>intro xs ds q e;simp only[cz]at e;obtain⟨d,e1,e⟩:=Z1.mp e;obtain⟨ds',e2,e⟩:=Z1.mp e;cases e;rw[ay]at q;obtain⟨x,r,rfl,q1,q2⟩:=q;obtain⟨a1,a2,a3⟩:=ih v x d q1 e1;obtain⟨b1,b2,b3⟩:=Xu r ds' q2 e2;refine⟨dR.cons a1 b1,by simp[PyData.canLayAll0,a2,b2],?_⟩;simp only[PyData.depthAll];omega
  intro v x d q e;cases v with
  |non=>simp only[toD]at e;cases e;rw[VR]at q;subst q;exact⟨Den.none,rfl,by simp[PyData.depth]⟩
  |bl b=>simp only[toD]at e;cases e;rw[VR]at q;subst q;exact⟨Den.bool,rfl,by simp[PyData.depth]⟩
  |int b=>simp only[toD]at e;cases e;rw[VR]at q;subst q;exact⟨Den.int,rfl,by simp[PyData.depth]⟩
  |str b=>
   simp only[toD]at e;split at e
   ·rename_i hs;cases e;rw[VR]at q;subst q;exact⟨Den.str,by simp[PyData.canLay0,hs],by simp[PyData.depth]⟩
   ·cases e
  |tup vs=>simp only[toD]at e;obtain⟨ds,e1,e⟩:=Z1.mp e;cases e;rw[VR]at q;obtain⟨a,xs,rfl,q1,q2⟩:=q;obtain⟨b1,b2,b3⟩:=all vs xs ds q2 e1;exact⟨Den.tuple q1 b1,by simp[PyData.canLay0,b2],by simp only[PyData.depth];omega⟩
  |rl vs=>simp only[toD]at e;obtain⟨ds,e1,e⟩:=Z1.mp e;cases e;rw[VR]at q;obtain⟨a,xs,rfl,q1,q2⟩:=q;obtain⟨b1,b2,b3⟩:=all vs xs ds q2 e1;exact⟨Den.list q1.sq b1,by simp[PyData.canLay0,b2],by simp only[PyData.depth];omega⟩
  |dc _ _=>rw[VR]at q;exact q.elim
  |ob _ _ _=>rw[VR]at q;exact q.elim
  |ref i=>simp only[toD]at e;obtain⟨vs,e0,e⟩:=Z1.mp e;obtain⟨ds,e1,e⟩:=Z1.mp e;cases e;obtain⟨a,xs,rfl,q1,q2⟩:=eG r q e0;obtain⟨b1,b2,b3⟩:=all vs xs ds q2 e1;exact⟨Den.list q1 b1,by simp[PyData.canLay0,b2],by simp only[PyData.depth];omega⟩
end
theorem nZ(x:List Int):∀l,(uY x l).Perm (x::l)
 |[]=>.refl _
 | y::r=>by
  unfold uY;split
  ·exact((nZ x r).cons y).trans (.swap _ _ _)
  ·exact .refl _
theorem qI:∀l,(mE l).Perm l
 |[]=>.refl _
 |x::r=>(nZ x _).trans ((qI r).cons x)
theorem wX{a b c:List Int}(h1:HT.lexLt b a=false)(h2:HT.lexLt c b=false):HT.lexLt c a=false:=by
 cases e:HT.lexLt c a with
 |false=>rfl
 |true=>
  rcases lX.tO c b a e with z|z
  ·rw[h2]at z;cases z
  ·rw[h1]at z;cases z
theorem wY{a b:List Int}(h:HT.lexLt a b=true):HT.lexLt b a=false:=by
 cases e:HT.lexLt b a with
 |false=>rfl
 |true=>have:=lX.gZ _ _ _ h e;rw[lX.je]at this;cases this
theorem Aq(x:List Int):∀l:List (List Int),l.Pairwise (λa b=>HT.lexLt b a=false)->(uY x l).Pairwise (λa b=>HT.lexLt b a=false)
 |[],_=>by simp[uY]
 | y::r,h=>by
  obtain⟨h1,h2⟩:=aaN.mp h;unfold uY
  split
  ·rename_i hlt
   refine aaN.mpr ⟨λz hz=>?_,Aq x r h2⟩
   rcases aao.mp ((nZ x r).mem_iff.mp hz) with rfl|hz
   ·exact wY hlt
   ·exact h1 z hz
  ·rename_i hlt
   refine aaN.mpr ⟨λz hz=>?_,h⟩;have hxy:HT.lexLt y x=false:=by simpa using hlt
   rcases aao.mp hz with rfl|hz
   ·exact hxy
   ·exact wX hxy (h1 z hz)
theorem wZ:∀l,(mE l).Pairwise (λa b=>HT.lexLt b a=false)
 |[]=>.nil
 |x::r=>Aq x _ (wZ r)
theorem DP(hp:l.Perm pQ)(hs:l.Pairwise (λa b=>HT.lexLt b a=false)):l=mE pQ :=
 List.Perm.eq_of_pairwise (λa b _ _ h1 h2=>lX.gY a b h2 h1) hs (wZ pQ) (hp.trans (qI pQ).symm)
def Post(B:Bd)(EX:Nat->List V->Hp->Prop)(ρ:List Addr)(H:Hp){α:Type}(W:α -> Hs->List Addr->Hp->Prop):Out α -> Prop
 |.ok a h'=>∀ρ' H',Gr ρ H ρ' H'->HR B ρ' h' H'->W a h' ρ' H'
 |.exc c vs h'=>∀ρ' H' xs,Gr ρ H ρ' H'->HR B ρ' h' H'->ay B.K ρ' H' vs xs->EX c xs H'
 |.no=>False
def WV(K:Frag)(Q:VK):Val->Hs->List Addr->Hp->Prop:=λv _ ρ' H'=>∀x,VR K ρ' H' v x->Q x H'
section
variable {B:Bd} {EX:Nat->List V->Hp->Prop} {ρ ρ':List Addr} {H H':Hp} {α β:Type} {W:β -> Hs->List Addr->Hp->Prop} {h h':Hs} {Q:VK}
theorem Post.up(g:Gr ρ H ρ' H')(p:Post B EX ρ H W o):Post B EX ρ' H' W o:=by
 cases o with
 |ok a h'=>exact λρ2 H2 g2 r=>p ρ2 H2 (g.trans g2) r
 |exc c vs h'=>exact λρ2 H2 xs g2 r=>p ρ2 H2 xs (g.trans g2) r
 |no=>exact p
theorem aH{c:Bool}(p:Post B EX ρ H W (aE c m h)):c=true/\Post B EX ρ H W (m h):=by
 unfold aE at p;split at p
 ·rename_i e;exact⟨e,p⟩
 ·exact p.elim
theorem aD(p:Post B EX ρ H W (bnd (ask f) g h)):∃a,f h=some a/\Post B EX ρ H W (g a h):=by
 unfold bnd ask bG at p;cases e:f h with
 |none=>rw[e]at p;exact p.elim
 |some a=>rw[e]at p;exact⟨a,rfl,p⟩
theorem cS(r:HR B ρ h H)(p:Post B EX ρ H W (ask f h)):∃a,f h=some a/\W a h ρ H:=by
 unfold ask bG at p;cases e:f h with
 |none=>rw[e]at p;exact p.elim
 |some a=>rw[e]at p;exact⟨a,rfl,p ρ H Gr.refl r⟩
theorem bz(p:Post B EX ρ H W (bnd (bG o) g h)):∃a,o=some a/\Post B EX ρ H W (g a h):=by
 unfold bnd bG at p;cases e:o with
 |none=>rw[e]at p;exact p.elim
 |some a=>rw[e]at p;exact⟨a,rfl,p⟩
theorem dH(r:HR B ρ h H)(p:Post B EX ρ H W (bG o h)):∃a,o=some a/\W a h ρ H:=by
 unfold bG at p;cases e:o with
 |none=>rw[e]at p;exact p.elim
 |some a=>rw[e]at p;exact⟨a,rfl,p ρ H Gr.refl r⟩
theorem aj(r:HR B ρ h H)(p:Post B EX ρ H W (ret a h)):W a h ρ H:=p ρ H Gr.refl r
theorem xg(r:HR B ρ h H)(hp:H p=none)(q:OR B (ρ ++ [p]) (upd H p O) p o)(w:Post B EX ρ H (WV B.K Q) (new o h)):Q (.ref p) (upd H p O) :=
 w (ρ ++ [p]) (upd H p O) (Gr.new hp) (r.new hp q) _ (Ao r)
theorem cF(r:HR B ρ h H)(hp:H p=none)(q:ay B.K ρ H xs ys)(w:Post B EX ρ H (WV B.K Q) (new (.lst xs) h)):Q (.ref p) (upd H p (.lst ys)) :=
 xg (o:=.lst xs) (O:=.lst ys) r hp ⟨ys,aO,ay.up (Gr.new hp) _ _ q⟩ w
theorem qJ(r:HR B ρ h H)(hp:H p=none)(q:ay B.K ρ H xs ys)(w:Post B EX ρ H (WV B.K Q) (ret (Val.tup xs) h)):Q (.ref p) (upd H p (.tup ys)) :=
 w ρ (upd H p (.tup ys)) (Gr.side hp) (r.side hp) _ (VR.tup (jP.of aO) (ay.up (Gr.side hp) _ _ q))
theorem au(p:Post B EX ρ H W (bnd m f h))(k:∀v h1 ρ1 x H1,Gr ρ H ρ1 H1->HR B ρ1 h1 H1->VR B.K ρ1 H1 v x->Post B EX ρ1 H1 W (f v h1)->Q x H1):Post B EX ρ H (WV B.K Q) (m h):=by
 unfold bnd at p;cases e:m h with
 |ok v h1=>rw[e]at p;exact λρ1 H1 g r x q=>k v h1 ρ1 x H1 g r q (Post.up g p)
 |exc c vs h1=>rw[e]at p;exact p
 |no=>rw[e]at p;exact p
theorem bq(p:Post B EX ρ H W (bnd m f h))(k:∀v h1 ρ1 H1,Gr ρ H ρ1 H1->HR B ρ1 h1 H1->Post B EX ρ1 H1 W (f v h1)->W' v h1 ρ1 H1):Post B EX ρ H W' (m h):=by
 unfold bnd at p;cases e:m h with
 |ok v h1=>rw[e]at p;exact λρ1 H1 g r=>k v h1 ρ1 H1 g r (Post.up g p)
 |exc c vs h1=>rw[e]at p;exact p
 |no=>rw[e]at p;exact p
end
theorem gz:∀{ds:List Val} {ns:List Int},bX ds=some ns->ds=ns.map .int
 |[],ns,e=>by simp only[bX,cz]at e;cases e;rfl
 | v::r,ns,e=>by
  simp only[bX,cz]at e;obtain⟨i,e1,e⟩:=Z1.mp e;obtain⟨is,e2,e⟩:=Z1.mp e;cases e;cases v<;>first|cases e1|skip
  rw[gz (show bX r=some is from e2)];rfl
theorem qK:∀{ds:List Val} {ns:List Bool},fq ds=some ns->ds=ns.map .bl
 |[],ns,e=>by simp only[fq,cz]at e;cases e;rfl
 | v::r,ns,e=>by
  simp only[fq,cz]at e;obtain⟨i,e1,e⟩:=Z1.mp e;obtain⟨is,e2,e⟩:=Z1.mp e;cases e;cases v<;>first|cases e1|skip
  rw[qK (show fq r=some is from e2)];rfl
theorem ua:∀{ds:List Val} {pQ:List (List Int)},lg ds=some pQ->ds=pQ.map mF/\∀ks∈pQ,ks≠[]
 |[],ns,e=>by simp only[lg,cz]at e;cases e;exact⟨rfl,λ_ z=>nomatch z⟩
 | v::r,ns,e=>by
  simp only[lg,cz]at e;obtain⟨i,e1,e⟩:=Z1.mp e;obtain⟨is,e2,e⟩:=Z1.mp e;cases e;cases v<;>first|cases e1|skip
  rename_i vs;dsimp only at e1;split at e1
  ·cases e1
  ·rename_i hne
   obtain⟨q1,q2⟩:=ua (show lg r=some is from e2);have e3:=gz e1;subst e3;refine⟨by rw[q1];rfl,λks hk=>?_⟩
   rcases aao.mp hk with z|z
   ·subst z;intro z;subst z;exact hne rfl
   ·exact q2 ks z
section
variable {X:Cx} {cl:Nat->Addr} {EX:Nat->List V->Hp->Prop}
abbrev bd(X:Cx)(cl:Nat->Addr):Bd:=⟨X.K,cl⟩
theorem Ir:jU X (binaryOp .Add) (λx y H Q=>∃a b xs ys,x=.ref a/\y=.ref b/\gA X.K H a xs/\gA X.K H b ys/\xs.length+ys.length<=sizeLine/\∀p,H p=none->Q (.ref p) (upd H p (.lst (xs++ys)))):=by
 intro pins s σ H x y v u Q I rx ry h;obtain⟨l,l',xs,ys,rfl,rfl,q1,q3,hl,q⟩:=h;cases rx;cases ry;obtain⟨its,r1,Xv,z1⟩:=I.list q1;obtain⟨its',r2,Xw,z2⟩:=I.list q3;have l1:=r1.length;have l2:=r2.length;obtain⟨⟨oc,od,Xi,osl⟩,n1,e1,e2,_,e4⟩:=Xv;obtain⟨⟨ZQ,od',Xx,Uq⟩,n2,f1,f2,_,f4⟩:=Xw;cases e2;cases e4;cases f2;cases f4;refine concat_meets ⟨_,e1,rfl⟩ ⟨_,f1,rfl⟩ noFill_list_add seq_list_add PySem.F.slot_list_add PySem.F.entry_list_add (PySem.F.args_list_add_2 _ _) (list_addW l l' its.toArray its'.toArray n1 n2 od od' osl Uq (by simp only[size_toArray];omega)) ⟨e1,f1,?_⟩;have ea:its.toArray++its'.toArray=(its++its').toArray:=by simp
 rw[ea];have hn:H s.heap.objs.size=none:=I.hok.fresh (aaa _);exact⟨.ref s.heap.objs.size,_,I.TY (t':=s.toks) (its:=its++its') (r1.append r2) (by rw[aak];omega),rfl,q _ hn⟩
def zo:Ip->Operator
 |.add=>.Add|.sub=>.Sub|.mul=>.Mult|.fdiv=>.FloorDiv|.mod=>.Mod|.pow=>.Pow
def Ar:LZ->CmpOp
 |.eq=>.Eq|.ne=>.NotEq|.lt=>.Lt|.le=>.LtE|.gt=>.Gt|.ge=>.GtE|.isn=>.Is|.ntn=>.IsNot|.t8=>.In|.nin=>.NotIn
def rB(B:Bd)(EX:Nat->List V->Hp->Prop)(o:Ip):R2:=λx y H Q=>∃ρ h v w,HR B ρ h H/\VR B.K ρ H v x/\VR B.K ρ H w y/\Post B EX ρ H (WV B.K Q) (Kf o v w h)
theorem jf.log{j:Int}(h:jf j=true):0<j/\j.natAbs.log2<9000:=by
 have h:=aan h;refine⟨h.1,(Nat.log2_lt (by omega)).mpr ?_⟩;have e:j.natAbs<2 ^ 200:=by
  have:(2:Nat) ^ 200=1606938044258990275541962092341162602522202993782792835301376:=by decide
  omega
 exact aah e (Nat.pow_le_pow_right (by decide) (by decide))
theorem DQ:jU X (binaryOp .FloorDiv) (rI (λ_ j=>jf j=true) λi j=>.int (i/j)):=Lk λi j _ _ _ _ _ hc q=>by
 obtain⟨h1,h2⟩:=jf.log hc;exact PyProof.Rows.floordiv_int (by omega) (by rw[Int.fdiv_eq_ediv_of_nonneg i (by omega)];exact q) (.inl (PyProof.noPylong_of_log2 h2))
theorem Cd:jU X (inplaceOp .FloorDiv) (rI (λ_ j=>jf j=true) λi j=>.int (i/j)):=Lk λi j _ _ _ _ _ hc q=>by
 obtain⟨h1,h2⟩:=jf.log hc;exact PyProof.Rows.ifloordiv_int (by omega) (by rw[Int.fdiv_eq_ediv_of_nonneg i (by omega)];exact q) (.inl (PyProof.noPylong_of_log2 h2))
theorem qL(ho:o≠.add)(v w:Val)(h:Hs):(∃i j,v=.int i/\w=.int j)\/Kf o v w h=.no:=by
 cases v with
 |int i=>
  cases w with
  |int j=>exact .inl ⟨i,j,rfl,rfl⟩
  |_=>right;cases o<;>first|rfl|exact absurd rfl ho
 |_=>right;cases o<;>first|rfl|exact absurd rfl ho
theorem L3(o:Ip):jU X (binaryOp (zo o)) (rB (bd X cl) EX o):=by
 intro pins s σ H x y v' u' Q I rx ry hh;obtain⟨ρ,h,v,w,r,hv,hw,p⟩:=hh;have lists:Post (bd X cl) EX ρ H (WV X.K Q) (bnd (ask λh=>aF h v) (λa=>bnd (ask λh=>aF h w) λb=>aE (decide (a.length+b.length<=sizeLine)) (new (.lst (a++b)))) h)->wpAny (model X.prog X.w) X.A (binaryOp .Add v' u') (EP X pins σ Q) X.xe s:=by intro p;obtain⟨a,e1,p⟩:=aD p;obtain⟨b,e2,p⟩:=aD p;obtain⟨e3,p⟩:=aH p;have e3:=aan e3;obtain⟨a1,Qp,rfl,k1,k2⟩:=eG r hv e1;obtain⟨a2,Ur,rfl,k3,k4⟩:=eG r hw e2;exact Ir pins s σ H _ _ v' u' Q I rx ry ⟨a1,a2,Qp,Ur,rfl,rfl,k1,k3,by rw[<-k2.length,<-k4.length];exact e3,λq hq=>cF r hq (ay.append k2 k4) p⟩
 cases o with
 |add=>
  cases v<;>cases w<;>first
   |exact lists p
   |skip
  ·rename_i a b;rw[VR]at hv hw;subst hv;subst hw;exact Ll pins s σ H _ _ _ _ Q I rx ry ⟨a,b,rfl,rfl,aj r p _ VR.int⟩
  ·rename_i a b;rw[VR]at hv hw;subst hv;subst hw;obtain⟨e,p⟩:=aH p;exact yL pins s σ H _ _ _ _ Q I rx ry ⟨a,b,rfl,rfl,aan e,aj r p _ VR.str⟩
  ·rename_i a b
   rw[VR]at hv hw;obtain⟨a1,Qp,rfl,k1,k2⟩:=hv;obtain⟨a2,Ur,rfl,k3,k4⟩:=hw;obtain⟨e,p⟩:=aH p;simp only[and_eq_true,not_eq_true',decide_eq_true_eq]at e;refine HN pins s σ H _ _ _ _ Q I rx ry ⟨a1,a2,Qp,Ur,rfl,rfl,k1,k3,?_,by rw[<-k2.length,<-k4.length];exact e.2,λz=>?_,λ_ q hq=>qJ r hq (ay.append k2 k4) p⟩
   ·intro z;subst z
    have:=k2.length;cases a with
    |nil=>simp at e
    |cons _ _=>simp at this
   ·subst z
    have hb:b=[]:=by cases b with|nil=>rfl|cons _ _=>have:=k4.length;simp at this
    subst hb;rw[aa2]at p;exact aj r p _ (VR.tup k1 k2)
 |sub=>
  rcases qL (o:=.sub) (by intro z;cases z) v w h with ⟨i,j,rfl,rfl⟩|z
  case inr=>rw[z]at p;exact p.elim
  rw[VR]at hv hw;subst hv;subst hw;exact Lm pins s σ H _ _ _ _ Q I rx ry ⟨_,_,rfl,rfl,aj r p _ VR.int⟩
 |mul=>
  rcases qL (o:=.mul) (by intro z;cases z) v w h with ⟨i,j,rfl,rfl⟩|z
  case inr=>rw[z]at p;exact p.elim
  rw[VR]at hv hw;subst hv;subst hw;obtain⟨hm,p⟩:=aH p;refine Lo pins s σ H _ _ _ _ Q I rx ry ⟨_,_,rfl,rfl,?_,aj r p _ VR.int⟩;unfold jA at hm;simp only[or_eq_true,and_eq_true,decide_eq_true_eq]at hm;exact hm
 |fdiv=>
  rcases qL (o:=.fdiv) (by intro z;cases z) v w h with ⟨i,j,rfl,rfl⟩|z
  case inr=>rw[z]at p;exact p.elim
  rw[VR]at hv hw;subst hv;subst hw;obtain⟨hm,p⟩:=aH p;exact DQ pins s σ H _ _ _ _ Q I rx ry ⟨_,_,rfl,rfl,hm,aj r p _ VR.int⟩
 |mod=>
  rcases qL (o:=.mod) (by intro z;cases z) v w h with ⟨i,j,rfl,rfl⟩|z
  case inr=>rw[z]at p;exact p.elim
  rw[VR]at hv hw;subst hv;subst hw;obtain⟨hm,p⟩:=aH p;exact Lp pins s σ H _ _ _ _ Q I rx ry ⟨_,_,rfl,rfl,aan hm,aj r p _ VR.int⟩
 |pow=>
  rcases qL (o:=.pow) (by intro z;cases z) v w h with ⟨i,j,rfl,rfl⟩|z
  case inr=>rw[z]at p;exact p.elim
  rw[VR]at hv hw;subst hv;subst hw;obtain⟨hm,p⟩:=aH p;have hm:=aan hm;exact Lq pins s σ H _ _ _ _ Q I rx ry ⟨_,_,rfl,rfl,hm,aj r p _ VR.int⟩
end
section
variable {X:Cx} {cl:Nat->Addr} {EX:Nat->List V->Hp->Prop}
theorem xh{b:Bool}(e:CI h v w=some b):∃d f,toD 16 h v=some d/\toD 16 h w=some f/\b=PyData.eqv d f:=by
 unfold CI at e;obtain⟨d,e1,e⟩:=Z1.mp e;obtain⟨f,e2,e⟩:=Z1.mp e;exact⟨d,f,e1,e2,(aat e).symm⟩
theorem As{K:Frag}{ρ:List Addr}{H:Hp}{v:Val}{x:V}(q:VR K ρ H v x):decide (x=.non)=mG v:=by
 cases v<;>rw[VR]at q
 ·subst q;rfl
 ·subst q;rfl
 ·subst q;rfl
 ·subst q;rfl
 ·obtain⟨a,xs,rfl,_⟩:=q;rfl
 ·obtain⟨a,xs,rfl,_⟩:=q;rfl
 ·exact q.elim
 ·exact q.elim
 ·obtain⟨a,rfl,_⟩:=q;rfl
theorem L4(hu:X.A.units+64<cLine)(neg:Bool):jU X (compareOp (if neg=true then .NotIn else .In)) (λx y H Q=>∃d f ds,Den X.K H d x/\Den X.K H f y/\d.canLay0=true/\f.canLay0=true/\d.depth<=16/\(f=.list ds\/f=.tuple ds)/\Q (.bl (if neg=true then !(ds.any λy=>PyData.eqv y d) else ds.any λy=>PyData.eqv y d)) H):=by
 intro pins s σ H x y v u Q I rx ry hh;obtain⟨d,f,ds,hd,hf,c1,c2,hz,e,q⟩:=hh;obtain⟨as,ra⟩:=Den.reads I d x v c1 hd rx;obtain⟨bs,rb⟩:=Den.reads I f y u c2 hf ry;have SJ:X.A.units+1+min (PyData.depthAll ds) d.depth<cLine:=by have:=Nat.min_le_right (PyData.depthAll ds) d.depth;omega
 rcases e with rfl|rfl
 ·have c3:PyData.canLayAll0 ds=true:=by simpa [PyData.canLay0] using c2
  cases neg with
  |true=>exact SeqAt.notIn_list_reads rb ra c3 c1 SJ ⟨.bl _,H,I,rfl,q⟩
  |false=>exact SeqAt.in_list_reads rb ra c3 c1 SJ ⟨.bl _,H,I,rfl,q⟩
 ·have c3:PyData.canLayAll0 ds=true:=by simpa [PyData.canLay0] using c2
  cases neg with
  |true=>exact SeqAt.notIn_tuple_reads rb ra c3 c1 SJ ⟨.bl _,H,I,rfl,q⟩
  |false=>exact SeqAt.in_tuple_reads rb ra c3 c1 SJ ⟨.bl _,H,I,rfl,q⟩
theorem gy.val{K:Frag}{ρ:List Addr}{H:Hp}(k:Key):∀{kvs:List (Key×Val)} {ks:List (Key×V)},gy K ρ H kvs ks->(cg kvs k=none->iH ks k=none)/\∀v,cg kvs k=some v->∃x,iH ks k=some x/\VR K ρ H v x
 | [],ks,e=>by
  have:ks=[]:=e;subst this;exact⟨λ_=>rfl,λv z=>by simp[cg]at z⟩
 | (k',v')::kvs,ks,⟨x,r,e,q1,q2⟩=>by
  subst e;obtain⟨a,b⟩:=gy.val k q2
  by_cases hk:k'=k
  ·subst hk;refine⟨λz=>by simp[cg]at z,λv z=>⟨x,by simp[iH],?_⟩⟩;simp[cg]at z;subst z;exact q1
  ·have e1:cg ((k',v')::kvs) k=cg kvs k:=by simp[cg,hk]
   have e2:iH ((k',x)::r) k=iH r k:=by simp[iH,hk]
   rw[e1,e2];exact⟨a,b⟩
theorem gy.length{K:Frag}{ρ:List Addr}{H:Hp}:∀{kvs:List (Key×Val)} {ks:List (Key×V)},gy K ρ H kvs ks->kvs.length=ks.length
 |[],ks,e=>by have:ks=[]:=e;subst this;rfl
 |(k',v')::kvs,ks,⟨x,r,e,q1,q2⟩=>by subst e;simp[gy.length q2]
theorem gy.any{K:Frag}{ρ:List Addr}{H:Hp}(k:Key):∀{kvs:List (Key×Val)} {ks:List (Key×V)},gy K ρ H kvs ks->(kvs.any λkv=>decide (kv.1=k))=(ks.any λkv=>decide (kv.1=k))
 |[],ks,e=>by have:ks=[]:=e;subst this;rfl
 |(k',v')::kvs,ks,⟨x,r,e,q1,q2⟩=>by subst e;simp only[List.any_cons];rw[gy.any k q2]
theorem gy.repl{K:Frag}{ρ:List Addr}{H:Hp}(k:Key){v:Val}{y:V}(q:VR K ρ H v y):∀{kvs:List (Key×Val)} {ks:List (Key×V)},gy K ρ H kvs ks->gy K ρ H (kvs.map λkv=>if kv.1=k then (kv.1,v) else kv) (ks.map λkv=>if kv.1=k then (kv.1,y) else kv)
 |[],ks,e=>by have:ks=[]:=e;subst this;rfl
 | (k',v')::kvs,ks,⟨x,r,e,q1,q2⟩=>by
  subst e;simp only[map_cons]
  by_cases hk:k'=k
  ·rw[Z7 hk,Z7 hk];exact⟨y,_,rfl,q,gy.repl k q q2⟩
  ·rw[Z8 hk,Z8 hk];exact⟨x,_,rfl,q1,gy.repl k q q2⟩
theorem gy.snoc{K:Frag}{ρ:List Addr}{H:Hp}(k:Key){v:Val}{y:V}(q:VR K ρ H v y):∀{kvs:List (Key×Val)} {ks:List (Key×V)},gy K ρ H kvs ks->gy K ρ H (kvs++[(k,v)]) (ks++[(k,y)])
 |[],ks,e=>by have:ks=[]:=e;subst this;exact⟨y,[],rfl,q,rfl⟩
 |(k',v')::kvs,ks,⟨x,r,e,q1,q2⟩=>by subst e;exact⟨x,_,rfl,q1,gy.snoc k q q2⟩
theorem gy.put{K:Frag}{ρ:List Addr}{H:Hp}(k:Key){v:Val}{y:V}(q:VR K ρ H v y){kvs:List (Key×Val)}{ks:List (Key×V)}(e:gy K ρ H kvs ks):gy K ρ H (gR kvs k v) (putK ks k y):=by
 unfold gR putK;rw[gy.any k e]
 split
 ·exact gy.repl k q e
 ·exact gy.snoc k q e
theorem L5{K:Frag}{ρ:List Addr}{H:Hp}{v:Val}{x:V}{k:Key}(q:VR K ρ H v x)(e:keyOf v=some k):x=kV k:=by
 cases v<;>simp only[keyOf]at e<;>first|cases e|skip
 ·rw[VR]at q;exact q
 ·rw[VR]at q;exact q
theorem Au(hu:X.A.units+64<cLine):OO X (λx y H Q=>∃a v,x=.ref a/\pG H a y (some v)/\Q v H):=by
 intro value slice pins s σ H x y v u Q I rx ry h hs;obtain⟨a,z,rfl,g,q⟩:=h;cases rx;have hT:=wu I g;unfold subscriptTail;refine ZZ ?_;rw[getitemInPython_of_ne hT.not_modules];refine ZZ (wpAny_specialOf hT PySem.F.slot_dict_getitem.lookup ?_);have fin:wpAny (model X.prog X.w) X.A (subscripted slice false (.ref a) u) (λr s₃=>wpAny (model X.prog X.w) X.A (letTemporaryGo value (.ref a) r >>= λ_=>pure r) (EP X pins σ Q) X.xe s₃) X.xe s:=by rw[hs];exact wpAny_operating (BS (by omega) I g ry λw' s' I' r'=>ZZ (wpAny_letTemporaryGo (Z6 ⟨z,H,I',r',q⟩)))
 first
  |exact Z6 (ZZ fin)
  |exact ZZ (Z6 (ZZ fin))
  |exact ZZ fin
def rC(B:Bd)(o:LZ):R2:=λx y H Q=>∃ρ h v w b,HR B ρ h H/\VR B.K ρ H v x/\VR B.K ρ H w y/\cop h o v w=some b/\Q (.bl b) H
theorem DR{b:Bool}(e:memD h v w=some b):∃d f ds,toD 16 h v=some d/\toD 16 h w=some f/\(f=.list ds\/f=.tuple ds)/\b=ds.any λy=>PyData.eqv y d:=by
 unfold memD at e;obtain⟨f,e1,e⟩:=Z1.mp e;obtain⟨d,e2,e⟩:=Z1.mp e;cases f<;>simp only[Qn]at e<;>first|cases e|skip
 ·exact⟨d,_,_,e2,e1,.inl rfl,rfl⟩
 ·exact⟨d,_,_,e2,e1,.inr rfl,rfl⟩
theorem DS(hu:X.A.units+64<cLine)(o:LZ):jU X (compareOp (Ar o)) (rC (bd X cl) o):=by
 intro pins s σ H x y v' u' Q I rx ry hh;obtain⟨ρ,h,v,w,b,r,hv,hw,e,q⟩:=hh;have mem:∀(neg:Bool),wU h v w=some (if neg=true then !b else b)->wpAny (model X.prog X.w) X.A (compareOp (if neg=true then .NotIn else .In) v' u') (EP X pins σ Q) X.xe s:=by
  intro neg e;obtain⟨d,f,ds,e1,e2,e3,eb⟩:=DR e
  ·obtain⟨a1,a2,a3⟩:=nY r 16 v x d hv e1
   obtain⟨b1,b2,b3⟩:=nY r 16 w y f hw e2;refine L4 hu neg pins s σ H x y v' u' Q I rx ry ⟨d,f,ds,a1,b1,a2,b2,a3,e3,?_⟩;cases neg with
   |true=>rw[Z7 rfl]at eb |-;rw[<-eb,Bool.not_not];exact q
   |false=>rw[Z8 Z0]at eb |-;rw[<-eb];exact q
 cases o with
 |eq=>obtain⟨d,f,e1,e2,rfl⟩:=xh (show CI h v w=some b by exact e);obtain⟨a1,a2,a3⟩:=nY r 16 v x d hv e1;obtain⟨b1,b2,b3⟩:=nY r 16 w y f hw e2;exact LS hu pins s σ H x y v' u' Q I rx ry ⟨d,f,a1,b1,a2,b2,by omega,q⟩
 |ne=>have e':(CI h v w).map (!·)=some b:=e;obtain⟨c,e3,rfl⟩:=aaw.mp e';obtain⟨d,f,e1,e2,rfl⟩:=xh e3;obtain⟨a1,a2,a3⟩:=nY r 16 v x d hv e1;obtain⟨b1,b2,b3⟩:=nY r 16 w y f hw e2;exact LU hu pins s σ H x y v' u' Q I rx ry ⟨d,f,a1,b1,a2,b2,by omega,q⟩
 |lt=>obtain⟨i,j,rfl,rfl⟩:=jZ (.inl rfl) e;cases e;rw[VR]at hv;rw[VR]at hw;subst hv;subst hw;exact PC pins s σ H _ _ v' u' Q I rx ry ⟨_,_,rfl,rfl,q⟩
 |le=>obtain⟨i,j,rfl,rfl⟩:=jZ (.inr (.inl rfl)) e;cases e;rw[VR]at hv;rw[VR]at hw;subst hv;subst hw;exact PD pins s σ H _ _ v' u' Q I rx ry ⟨_,_,rfl,rfl,q⟩
 |gt=>obtain⟨i,j,rfl,rfl⟩:=jZ (.inr (.inr (.inl rfl))) e;cases e;rw[VR]at hv;rw[VR]at hw;subst hv;subst hw;exact PF pins s σ H _ _ v' u' Q I rx ry ⟨_,_,rfl,rfl,q⟩
 |ge=>obtain⟨i,j,rfl,rfl⟩:=jZ (.inr (.inr (.inr rfl))) e;cases e;rw[VR]at hv;rw[VR]at hw;subst hv;subst hw;exact PJ pins s σ H _ _ v' u' Q I rx ry ⟨_,_,rfl,rfl,q⟩
 |isn=>
  have e:Kg v w=some b:=e;cases w<;>first|(cases e;done)|skip
  ·cases e;rw[VR]at hw;subst hw;refine Lr pins s σ H x _ v' u' Q I rx ry ⟨rfl,?_⟩;rw[As hv];exact q
  ·cases v<;>first|(cases e;done)|skip
   cases e;rw[VR]at hv;rw[VR]at hw;subst hv;subst hw;exact LV pins s σ H _ _ v' u' Q I rx ry ⟨_,_,rfl,rfl,q⟩
 |ntn=>
  have e:(Kg v w).map (!·)=some b:=e;cases w<;>first|(cases e;done)|skip
  ·cases e;rw[VR]at hw;subst hw;refine HD pins s σ H x _ v' u' Q I rx ry ⟨rfl,?_⟩;rw[As hv];exact q
  ·cases v<;>first|(cases e;done)|skip
   cases e;rw[VR]at hv;rw[VR]at hw;subst hv;subst hw;exact Ii pins s σ H _ _ v' u' Q I rx ry ⟨_,_,rfl,rfl,q⟩
 |t8=>exact mem false (by rw[Z8 Z0];exact e)
 |nin=>have e':(wU h v w).map (!·)=some b:=e;obtain⟨c,e3,rfl⟩:=aaw.mp e';exact mem true (by rw[e3];simp)
theorem L6{b:Bool}(r:HR B ρ h H)(q:VR B.K ρ H v x)(e:cj h v=some b):Ls B.K x H b:=by
 cases v with
 |non=>rw[VR]at q;subst q;exact(aat e).symm
 |bl c=>rw[VR]at q;subst q;exact(aat e).symm
 |int i=>rw[VR]at q;subst q;exact(aat e).symm
 |str z=>
  rw[VR]at q;subst q;simp only[cj]at e;split at e
  ·rename_i hl;exact⟨hl,(aat e).symm⟩
  ·cases e
 |tup vs=>rw[VR]at q;obtain⟨a,xs,rfl,q1,q2⟩:=q;refine .inr (.inl ⟨xs,q1,?_⟩);rw[<-aat e];have:=q2.length;cases vs<;>cases xs<;>simp_all
 |rl vs=>rw[VR]at q;obtain⟨a,xs,rfl,q1,q2⟩:=q;refine .inl ⟨xs,q1.sq,?_⟩;rw[<-aat e];have:=q2.length;cases vs<;>cases xs<;>simp_all
 |dc _ _=>rw[VR]at q;exact q.elim
 |ob _ _ _=>rw[VR]at q;exact q.elim
 |ref i=>
  rw[VR]at q;obtain⟨a,rfl,q1⟩:=q;simp only[cj]at e;split at e
  ·rename_i vs e1;obtain⟨xs,k1,k2⟩:=r.ob i _ a e1 q1;refine .inl ⟨xs,.inl (.inl k1),?_⟩;rw[<-aat e];have:=k2.length;cases vs<;>cases xs<;>simp_all
  ·rename_i vs e1;obtain⟨xs,k1,k2⟩:=r.ob i _ a e1 q1;refine .inr (.inr ⟨xs,k1,?_⟩);rw[<-aat e];have:=k2.length;cases vs<;>cases xs<;>simp_all
  ·cases e
def Us(B:Bd):R2:=λx y H Q=>∃ρ h v w z,HR B ρ h H/\VR B.K ρ H v x/\VR B.K ρ H w y/\lK h v w=some z/\∀u,VR B.K ρ H z u->Q u H
theorem L7(hu:X.A.units+64<cLine):OO X (Us (bd X cl)):=by
 intro value slice pins s σ H x y v' u' Q I rx ry hh hs;obtain⟨ρ,h,v,w,z,r,hv,hw,e,q⟩:=hh;cases v with
 |str t=>
  cases w<;>first|cases e|skip
  rename_i i;change (if t.length<=sizeLine then (jQ t.cps.toList i).map (λc=>Val.str ⟨[c].toArray⟩) else none)=some z at e;split at e
  ·rename_i hl;obtain⟨c,e1,rfl⟩:=aaw.mp e;rw[VR]at hv;rw[VR]at hw;subst hv;subst hw;exact LF value slice pins s σ H _ _ v' u' Q I rx ry ⟨t,i,c,rfl,rfl,hl,e1,q _ VR.str⟩ hs
  ·cases e
 |tup vs=>
  cases w<;>first|cases e|skip
  rename_i i;rw[VR]at hv;rw[VR]at hw;subst hw;obtain⟨a,xs,rfl,q1,q2⟩:=hv;obtain⟨t,e2,q3⟩:=ay.jQ q2 e;exact LD value slice pins s σ H _ _ v' u' Q I rx ry ⟨a,xs,i,t,rfl,rfl,q1,e2,q _ q3⟩ hs
 |rl vs=>
  cases w<;>first|cases e|skip
  rename_i i;rw[VR]at hv;rw[VR]at hw;subst hw;obtain⟨a,xs,rfl,q1,q2⟩:=hv;obtain⟨t,e2,q3⟩:=ay.jQ q2 e;exact Aa value slice pins s σ H _ _ v' u' Q I rx ry ⟨a,xs,i,t,rfl,rfl,q1.sq,e2,q _ q3⟩ hs
 |ref j=>
  cases w with
  |int i=>
   change (match h[j]? with|some (.dct kvs)=>cg kvs (.inl i)|_=>(aF h (.ref j)).bind λxs=>jQ xs i)=some z at e;split at e
   ·rename_i kvs e1;rw[VR]at hv;obtain⟨a,rfl,q1⟩:=hv;obtain⟨ks,k1,k2⟩:=r.ob j _ a e1 q1;obtain⟨t,e2,q3⟩:=(gy.val (.inl i) k2).2 z e;have g:pG H a (kV (.inl i)) (iH ks (.inl i)):=pG.k k1;rw[e2]at g;rw[VR]at hw;subst hw;exact Au hu value slice pins s σ H _ _ v' u' Q I rx ry ⟨a,t,rfl,g,q _ q3⟩ hs
   ·obtain⟨vs,e1,e⟩:=Z1.mp e;obtain⟨a,xs,rfl,q1,q2⟩:=eG r hv e1;rw[VR]at hw;subst hw;obtain⟨t,e2,q3⟩:=ay.jQ q2 e;exact Aa value slice pins s σ H _ _ v' u' Q I rx ry ⟨a,xs,i,t,rfl,rfl,q1,e2,q _ q3⟩ hs
  |str y=>
   change (match h[j]? with|some (.dct kvs)=>cg kvs (.inr y)|_=>none)=some z at e;split at e
   ·rename_i kvs e1;rw[VR]at hv;obtain⟨a,rfl,q1⟩:=hv;obtain⟨ks,k1,k2⟩:=r.ob j _ a e1 q1;obtain⟨t,e2,q3⟩:=(gy.val (.inr y) k2).2 z e;have g:pG H a (kV (.inr y)) (iH ks (.inr y)):=pG.k k1;rw[e2]at g;rw[VR]at hw;subst hw;exact Au hu value slice pins s σ H _ _ v' u' Q I rx ry ⟨a,t,rfl,g,q _ q3⟩ hs
   ·cases e
  |_=>cases e
 |dc _ _=>rw[VR]at hv;exact hv.elim
 |_=>cases w<;>cases e
def Xy(B:Bd)(EX:Nat->List V->Hp->Prop):V->Option Int->Option Int->Hp->VK->Prop:=λx lo hi H Q=>∃ρ h v,HR B ρ h H/\VR B.K ρ H v x/\Post B EX ρ H (WV B.K Q) (sS v lo hi h)
theorem L8:SA X (Xy (bd X cl) EX):=by
 intro pins s σ H x v' vl vu lo hi sl Q I rx hs pl pu hh;obtain⟨ρ,h,v,r,hv,p⟩:=hh;have lists:Post (bd X cl) EX ρ H (WV X.K Q) (bnd (ask λh=>aF h v) (λxs=>new (.lst (cA xs lo hi))) h)->∃T id,typeLookup (.type T) "__getitem__" = pure (some (.builtin id))/\s.TypeIs v' T/\wpAny (model X.prog X.w) X.A (getItem v' (.ref sl)) (EP X pins σ Q) X.xe s:=by intro p;obtain⟨a,e1,p⟩:=aD p;obtain⟨a1,Qp,rfl,k1,k2⟩:=eG r hv e1;exact HP pins s σ H _ v' vl vu lo hi sl Q I rx hs pl pu ⟨a1,Qp,rfl,k1,λq hq=>cF r hq (ay.cut lo hi k2) p⟩
 cases v with
 |tup vs=>simp only[sS]at p;rw[VR]at hv;obtain⟨a,xs,rfl,q1,q2⟩:=hv;obtain⟨e,p⟩:=aH p;refine LB pins s σ H _ v' vl vu lo hi sl Q I rx hs pl pu ⟨a,xs,rfl,q1,?_,λq hq=>qJ r hq (ay.cut lo hi q2) p⟩;rw[<-q2.length];simp only[not_eq_true',Bool.and_eq_false_iff,decide_eq_false_iff_not]at e;rintro⟨z1,z2⟩;exact e.elim (λk=>k z1) λk=>k z2
 |_=>exact lists p
end
end Hv
end
section
set_option backward.match.sparseCases false
namespace Hv
open PySem L2 PyProof.Rows
section
variable {X:Cx} {cl:Nat->Addr} {EX:Nat->List V->Hp->Prop}
def GR(B:Bd)(EX:Nat->List V->Hp->Prop)(b:Bl):List V->Hp->VK->Prop:=λxs H Q=>∃ρ h vs,HR B ρ h H/\ay B.K ρ H vs xs/\Post B EX ρ H (WV B.K Q) (blt b vs h)
theorem Ma:cV X (.builtin "len") (GR (bd X cl) EX .len):=by
 intro pins s σ H xs us Q I rr hh;obtain⟨ρ,h,vs,r,hv,p⟩:=hh
 match vs,p with
 |[v],p=>
  obtain⟨n,e,p⟩:=aD p;obtain⟨x,rfl,hx⟩:=ay.one hv;have fin:=aj r p _ VR.int;cases v with
  |str z=>
   simp only[mH]at e;split at e
   ·rename_i hl;cases e;rw[VR]at hx;subst hx;exact L2.lZ pins s σ H _ us Q I rr ⟨_,z.length,rfl,⟨hl,rfl⟩,fin⟩
   ·cases e
  |tup vs=>simp only[mH]at e;cases e;rw[VR]at hx;obtain⟨a,ys,rfl,q1,q2⟩:=hx;refine L2.lZ pins s σ H _ us Q I rr ⟨_,ys.length,rfl,.inr ⟨ys,q1,rfl⟩,?_⟩;rw[<-q2.length];exact fin
  |rl vs=>simp only[mH]at e;cases e;rw[VR]at hx;obtain⟨a,ys,rfl,q1,q2⟩:=hx;refine L2.lZ pins s σ H _ us Q I rr ⟨_,ys.length,rfl,.inl ⟨ys,q1.sq,rfl⟩,?_⟩;rw[<-q2.length];exact fin
  |dc _ _=>rw[VR]at hx;exact hx.elim
  |ob _ _ _=>rw[VR]at hx;exact hx.elim
  |ref i=>
   rw[VR]at hx;obtain⟨a,rfl,q1⟩:=hx;simp only[mH]at e;split at e
   ·rename_i vs e1;cases e;obtain⟨ys,k1,k2⟩:=r.ob i _ a e1 q1;refine L2.lZ pins s σ H _ us Q I rr ⟨_,ys.length,rfl,.inl ⟨ys,.inl (.inl k1),rfl⟩,?_⟩;rw[<-k2.length];exact fin
   ·rename_i vs e1;cases e;obtain⟨ks,k1,k2⟩:=r.ob i _ a e1 q1;refine BX pins s σ H _ us Q I rr ⟨a,ks,rfl,k1,?_⟩;rw[<-k2.length];exact fin
   ·cases e
  |_=>simp only[mH]at e;cases e
theorem Mb(hc:X.calm=true):cV X (.builtin "min") (GR (bd X cl) EX .min):=by
 intro pins s σ H xs us Q I rr hh;obtain⟨ρ,h,vs,r,hv,p⟩:=hh
 match vs,p with
 |[.int a,.int b],p=>obtain⟨x,y,rfl,hx,hy⟩:=ay.two hv;rw[VR]at hx;rw[VR]at hy;subst hx;subst hy;exact BI hc pins s σ H _ us Q I rr ⟨a,b,rfl,aj r p _ VR.int⟩
theorem Mc(hc:X.calm=true):cV X (.builtin "max") (GR (bd X cl) EX .max):=by
 intro pins s σ H xs us Q I rr hh;obtain⟨ρ,h,vs,r,hv,p⟩:=hh
 match vs,p with
 |[.int a,.int b],p=>obtain⟨x,y,rfl,hx,hy⟩:=ay.two hv;rw[VR]at hx;rw[VR]at hy;subst hx;subst hy;exact BH hc pins s σ H _ us Q I rr ⟨a,b,rfl,aj r p _ VR.int⟩
theorem Ce:cV X (.builtin "sorted") (GR (bd X cl) EX .sorted):=by
 intro pins s σ H xs us Q I rr hh;obtain⟨ρ,h,vs,r,hv,p⟩:=hh
 match vs,p with
 |[v],p=>
  obtain⟨zs,e,p⟩:=aD p;obtain⟨out,e1,p⟩:=bz p;obtain⟨x,rfl,hx⟩:=ay.one hv;obtain⟨a,ys,rfl,q1,q2⟩:=eG r hx e;unfold dD at e1;split at e1
  ·rename_i h64
   cases e2:bX zs with
   |some ns=>rw[e2]at e1;cases e1;rw[gz e2]at q2 h64;rw[ay.ints.mp q2]at q1;rw[Z4]at h64;exact nS pins s σ H _ us Q I rr ⟨a,ns,rfl,q1,h64,λl hl=>cF r hl (ay.ints.mpr rfl) p⟩
   |none=>rw[e2]at e1;obtain⟨pQ,e3,e4⟩:=Z1.mp e1;cases e4;obtain⟨g1,g2⟩:=ua e3;rw[g1]at q2 h64;obtain⟨rs,r1,r2,r3⟩:=ay.tups q2;rw[r1]at q1;rw[Z4,r2,Z4]at h64;refine nT pins s σ H _ us Q I rr ⟨a,rs,rfl,q1,h64,λp hp=>⟨r3 p hp,g2 _ (by rw[r2];exact aaQ hp)⟩,λl qs hl hp hs=>?_⟩;have e4:qs.map (·.2)=mE pQ:=DP (by rw[r2];exact hp.map _) (abx.mpr hs);rw[<-e4]at p;exact cF r hl (ay.An λz hz=>r3 z (hp.mem_iff.mp hz)) p
  ·cases e1
theorem Iu:cV X (.type "list") (GR (bd X cl) EX .list):=by
 intro pins s σ H xs us Q I rr hh;obtain⟨ρ,h,vs,r,hv,p⟩:=hh
 match vs,p with
 |[v],p=>obtain⟨zs,e,p⟩:=aD p;obtain⟨x,rfl,hx⟩:=ay.one hv;obtain⟨a,ys,rfl,q1,q2⟩:=L1 r hx e;exact uR pins s σ H _ us Q I rr ⟨a,ys,rfl,q1,λl hl=>cF r hl q2 p⟩
theorem DT:cV X (.type "tuple") (GR (bd X cl) EX .tuple):=by
 intro pins s σ H xs us Q I rr hh;obtain⟨ρ,h,vs,r,hv,p⟩:=hh;exact(show False from p).elim
theorem Mf:cV X (.type "str") (GR (bd X cl) EX .str):=by
 intro pins s σ H xs us Q I rr hh;obtain⟨ρ,h,vs,r,hv,p⟩:=hh;exact(show False from p).elim
theorem Mg:cV X (.type "int") (GR (bd X cl) EX .int):=by
 intro pins s σ H xs us Q I rr hh;obtain⟨ρ,h,vs,r,hv,p⟩:=hh
 match vs,p with
 |[.int i],p=>obtain⟨x,rfl,hx⟩:=ay.one hv;rw[VR]at hx;subst hx;exact tw pins s σ H _ us Q I rr (.inl ⟨i,rfl,aj r p _ VR.int⟩)
 |[.bl i],p=>obtain⟨x,rfl,hx⟩:=ay.one hv;rw[VR]at hx;subst hx;exact tw pins s σ H _ us Q I rr (.inr ⟨i,rfl,aj r p _ VR.int⟩)
theorem Mh(hc:X.calm=true):cV X (.builtin "all") (GR (bd X cl) EX .all):=by
 intro pins s σ H xs us Q I rr hh;obtain⟨ρ,h,vs,r,hv,p⟩:=hh
 match vs,p with
 |[v],p=>obtain⟨zs,e,p⟩:=aD p;obtain⟨bs,e1,p⟩:=bz p;obtain⟨x,rfl,hx⟩:=ay.one hv;obtain⟨a,ys,rfl,q1,q2⟩:=eG r hx e;rw[qK e1]at q2;rw[ay.bools.mp q2]at q1;exact sO hc pins s σ H _ us Q I rr ⟨a,bs,rfl,q1,aj r p _ VR.bl⟩
theorem Mi(hc:X.calm=true):cV X (.builtin "any") (GR (bd X cl) EX .any):=by
 intro pins s σ H xs us Q I rr hh;obtain⟨ρ,h,vs,r,hv,p⟩:=hh;exact(show False from p).elim
def Xz(B:Bd)(EX:Nat->List V->Hp->Prop)(T:String):List V->Hp->VK->Prop:=λxs H Q=>∃ρ h v x,xs=[x,.ty T]/\HR B ρ h H/\VR B.K ρ H v x/\Post B EX ρ H (WV B.K Q) (blt (.isin T) [v] h)
theorem Iv(K:Frag)(t T:String)(ht:t∈["NoneType","bool","int","str","list","tuple","dict"])(hT:T∈["list","tuple","str","bool","int","dict"]) :
  kitOne K (.type t) (.type T)=some (decide (T=t\/(T = "int" /\ t = "bool"))):=by
 simp only[mem_cons,not_mem_nil,or_false]at ht hT
 rcases ht with rfl|rfl|rfl|rfl|rfl|rfl|rfl<;>rcases hT with rfl|rfl|rfl|rfl|rfl|rfl<;>rfl
theorem Iw{T:String}:cV X (.builtin "isinstance") (Xz (bd X cl) EX T):=by
 intro pins s σ H xs us Q I rr hh;obtain⟨ρ,h,v,x,rfl,r,hx,p⟩:=hh;obtain⟨u,w',rfl,r1,r2⟩:=vals2 rr;cases r2;obtain⟨t,e,p⟩:=aD p;obtain⟨b,e1,p⟩:=bz p;have q:=aj r p _ VR.bl;unfold wW at e1;split at e1
 ·rename_i XA
  have hT:T∈["list","tuple","str","bool","int","dict"]:=by simpa using XA
  cases e1;have fin:∀tk,EP X pins σ Q (.bool (decide (T=t\/(T = "int" /\ t = "bool")))) { s with toks:=tk }:=λtk=>⟨.bl _,H,I.tok _,rfl,q⟩;have tab:=λht=>Iv X.K t T ht hT;cases v with
  |non=>rw[VR]at hx;subst hx;cases r1;simp only[wV]at e;cases e;exact abk PySem.W.kitx_none I.nM abo (tab (by simp)) (λz=>nomatch z) fin
  |bl c=>rw[VR]at hx;subst hx;cases r1;simp only[wV]at e;cases e;exact abk PySem.W.kitx_bool I.nM abo (tab (by simp)) (λz=>nomatch z) fin
  |int i=>rw[VR]at hx;subst hx;obtain⟨t',rfl⟩:=r1;simp only[wV]at e;cases e;exact abk PySem.W.kitx_int I.nM abo (tab (by simp)) (λz=>nomatch z) fin
  |str i=>rw[VR]at hx;subst hx;obtain⟨t',rfl⟩:=r1;simp only[wV]at e;cases e;exact abk PySem.W.kitx_str I.nM abo (tab (by simp)) (λz=>nomatch z) fin
  |tup vs=>rw[VR]at hx;obtain⟨a,ys,rfl,q1,_⟩:=hx;cases r1;simp only[wV]at e;cases e;obtain⟨_,_,⟨o,e1,e2,_⟩,_⟩:=I.tuple q1;exact abk PySem.W.kitx_tuple I.nM ⟨o,e1,e2⟩ (tab (by simp)) (λz=>nomatch z) fin
  |rl vs=>rw[VR]at hx;obtain⟨a,ys,rfl,q1,_⟩:=hx;cases r1;simp only[wV]at e;cases e;obtain⟨_,_,⟨o,n,e1,e2,_⟩,_⟩:=I.list q1.sq;exact abk kitx_list I.nM ⟨o,e1,e2⟩ (tab (by simp)) (λz=>nomatch z) fin
  |dc _ _=>rw[VR]at hx;exact hx.elim
  |ob _ _ _=>rw[VR]at hx;exact hx.elim
  |ref i=>
   rw[VR]at hx;obtain⟨a,rfl,q1⟩:=hx;cases r1;simp only[wV]at e;split at e
   ·rename_i vs e1;cases e;obtain⟨ys,k1,k2⟩:=r.ob i _ a e1 q1;obtain⟨_,_,⟨o,n,e1,e2,_⟩,_⟩:=I.list (xs:=ys) (.inl (.inl k1));exact abk kitx_list I.nM ⟨o,e1,e2⟩ (tab (by simp)) (λz=>nomatch z) fin
   ·rename_i vs e1;cases e;obtain⟨ks,k1,k2⟩:=r.ob i _ a e1 q1;obtain⟨_,_,vs,_,p⟩:=(show bJ X.prog X.w H s.heap a (.dK ks) from I.hok a _ k1);obtain⟨o,es,ep,h1,h2,_⟩:=p;exact abk PySem.W.kitx_dict I.nM ⟨o,h1,h2.1⟩ (tab (by simp)) (λz=>nomatch z) fin
   ·cases e
 ·cases e1
def OP(B:Bd)(EX:Nat->List V->Hp->Prop)(m:Me):V->List V->Hp->VK->Prop:=λx xs H Q=>∃ρ h v vs,HR B ρ h H/\VR B.K ρ H v x/\ay B.K ρ H vs xs/\Post B EX ρ H (WV B.K Q) (met m v vs h)
theorem Iz:LC X "str.join" (OP (bd X cl) EX .join):=by
 intro pins s σ H x xs u us Q I ru rr hh;obtain⟨ρ,h,v,vs,r,hv,hvs,p⟩:=hh;exact(show False from p).elim
theorem qM{i:Nat}(r:HR B ρ h H)(hi:ρ[i]?=some a)(e:h[i]?=some u)(eU:H a=some U)(hm:Mu U=true)(q:OR B ρ (upd H a O) a o)
  (p:Post B EX ρ H (WV B.K Q) (bnd (put i o) (λ_=>ret Val.non) h)):Q .non (upd H a O) :=
 p ρ (upd H a O) (Gr.put (aaq hi) eU hm) (r.put hi e q) _ VR.non
theorem Cf:LC X "list.append" (OP (bd X cl) EX .append):=by
 intro pins s σ H x xs v' us Q I rx rv hh;obtain⟨ρ,h,v,vs,r,hv,hvs,p⟩:=hh
 match v,vs,p with
 |.ref i,[w],p=>
  obtain⟨zs,e,p⟩:=aD p;split at e
  ·rename_i zs' e1;cases e;obtain⟨e2,p⟩:=aH p;obtain⟨a,ys,rfl,q0,q1,q2⟩:=jg r hv e1;obtain⟨y,rfl,hy⟩:=ay.one hvs;refine tG pins s σ H _ _ v' us Q I rx rv ⟨a,ys,y,rfl,rfl,q1,by rw[<-q2.length];exact aan e2,?_⟩;have g:Gr ρ H ρ (upd H a (.lst (ys++[y]))):=Gr.put (aaq q0) q1 rfl;exact qM (o:=.lst (zs++[w])) r q0 e1 q1 rfl ⟨_,aO,ay.append (ay.up g _ _ q2) (ay.up g _ _ (ay.cons hy ay.nil))⟩ p
  ·cases e
theorem Cg:LC X "list.extend" (OP (bd X cl) EX .extend):=by
 intro pins s σ H x xs v' us Q I rx rv hh;obtain⟨ρ,h,v,vs,r,hv,hvs,p⟩:=hh
 match v,vs,p with
 |.ref i,[w],p=>
  obtain⟨zs,e,p⟩:=aD p;split at e
  ·rename_i zs' e1;cases e
   obtain⟨ws,e3,p⟩:=aD p;obtain⟨e2,p⟩:=aH p;have e2:=aan e2;obtain⟨a,ys,rfl,q0,q1,q2⟩:=jg r hv e1;obtain⟨y,rfl,hy⟩:=ay.one hvs;have fin:∀(bs:List V),ay X.K ρ H ws bs->Q .non (upd H a (.lst (ys++bs))):=λbs hb=>by
    have g:Gr ρ H ρ (upd H a (.lst (ys++bs))):=Gr.put (aaq q0) q1 rfl;exact qM (o:=.lst (zs++ws)) r q0 e1 q1 rfl ⟨_,aO,ay.append (ay.up g _ _ q2) (ay.up g _ _ hb)⟩ p
   cases w with
   |tup ts=>simp only[wR]at e3;cases e3;rw[VR]at hy;obtain⟨b,bs,rfl,k1,k2⟩:=hy;exact zc pins s σ H _ _ v' us Q I rx rv ⟨a,b,ys,bs,rfl,rfl,q1,k1,by rw[<-q2.length,<-k2.length];exact e2,fin bs k2⟩
   |ref j=>
    simp only[wR,aF]at e3;split at e3
    ·rename_i ts e4;cases e3;obtain⟨b,bs,rfl,k0,k1,k2⟩:=jg r hy e4;exact BQ pins s σ H _ _ v' us Q I rx rv ⟨a,b,ys,bs,rfl,rfl,q1,k1,by rw[<-q2.length,<-k2.length];exact e2,fin bs k2⟩
    ·cases e3
   |_=>simp only[wR]at e3;cases e3
  ·cases e
theorem ay.era{K:Frag}{ρ:List Addr}{H:Hp}:∀{vs:List Val} {xs:List V} (n:Nat),ay K ρ H vs xs->ay K ρ H (vs.eraseIdx n) (xs.eraseIdx n)
 |[],_,n,e=>by rw[ay]at e;subst e;exact ay.nil
 | _::_,_,n,e=>by
  rw[ay]at e;obtain⟨x,r,rfl,e1,e2⟩:=e;cases n with
  |zero=>exact e2
  |succ n=>exact ay.cons e1 (ay.era n e2)
theorem Ci:LC X "list.remove" (OP (bd X cl) EX .remove):=by
 intro pins s σ H x xs v' us Q I rx rv hh;obtain⟨ρ,h,v,vs,r,hv,hvs,p⟩:=hh
 match v,vs,p with
 |.ref i,[.int k],p=>
  obtain⟨zs,e,p⟩:=aD p;split at e
  ·rename_i zs' e1;cases e;obtain⟨ks,e3,p⟩:=bz p;obtain⟨e2,p⟩:=aH p;have e3:=gz e3;subst e3;obtain⟨a,ys,rfl,q0,q1,q2⟩:=jg r hv e1;have hys:=ay.ints.mp q2;subst hys;obtain⟨y,rfl,hy⟩:=ay.one hvs;rw[VR]at hy;subst hy;refine Cc pins s σ H _ _ v' us Q I rx rv ⟨a,ks,k,rfl,rfl,q1,aan e2,?_⟩;have g:Gr ρ H ρ (upd H a (.lst ((ks.map V.int).eraseIdx (ks.idxOf k)))):=Gr.put (aaq q0) q1 rfl;exact qM (o:=.lst ((ks.map Val.int).eraseIdx (ks.idxOf k))) r q0 e1 q1 rfl ⟨_,aO,ay.era _ (ay.up g _ _ q2)⟩ p
  ·cases e
theorem Mj:LC X "list.pop" (OP (bd X cl) EX .pop):=by
 intro pins s σ H x xs v' us Q I rx rv hh;obtain⟨ρ,h,v,vs,r,hv,hvs,p⟩:=hh
 match v,vs,p with
 |.ref i,[.int k],p=>
  obtain⟨zs,e,p⟩:=aD p;split at e
  ·rename_i zs' e1;cases e
   obtain⟨e2,p⟩:=aH p;have e2:=aan e2;subst e2;obtain⟨w,e3,p⟩:=bz p;obtain⟨a,ys,rfl,q0,q1,q2⟩:=jg r hv e1;obtain⟨y,rfl,hy⟩:=ay.one hvs;rw[VR]at hy;subst hy;obtain⟨y,hy,ry⟩:=q2.get e3;refine Df pins s σ H _ _ v' us Q I rx rv ⟨a,ys,0,0,y,rfl,rfl,q1,by decide,by decide,?_,hy,?_⟩
   ·have:0<ys.length:=(Z5.mp hy).1;show (if (decide ((0:Int)<=0)&&decide ((0:Int)<(ys.length:Int)))=true then some (Int.toNat 0) else none)=some 0;rw[Z7 (by simp;omega)];rfl
   have g:Gr ρ H ρ (upd H a (.lst (ys.eraseIdx 0))):=Gr.put (aaq q0) q1 rfl;exact p ρ _ g (r.put q0 e1 ⟨_,aO,ay.era _ (ay.up g _ _ q2)⟩) _ (VR.up g _ _ ry)
  ·cases e
end
def iJ(f:Str->Pos->Bool):Expr->Bool
 |.Name a b=>f a b
 |_=>false
theorem dh{f:Str->Pos->Bool}{P:Expr->Prop}{e:Expr}(h:iJ f e=true)(H:∀a b,f a b=true->P (.Name a b)):P e:=by
 cases e<;>first|exact H _ _ h|exact(Z0 h).elim
def zp(f:Const->Nat->Pos->Bool):Expr->Bool
 |.Constant a b c=>f a b c
 |_=>false
theorem xj{f:Const->Nat->Pos->Bool}{P:Expr->Prop}{e:Expr}(h:zp f e=true)(H:∀a b c,f a b c=true->P (.Constant a b c)):P e:=by
 cases e<;>first|exact H _ _ _ h|exact(Z0 h).elim
def Qq(f:Expr->Operator->Expr->Pos->Bool):Expr->Bool
 |.BinOp a b c d=>f a b c d
 |_=>false
theorem Ml{f:Expr->Operator->Expr->Pos->Bool}{P:Expr->Prop}{e:Expr}(h:Qq f e=true)(H:∀a b c d,f a b c d=true->P (.BinOp a b c d)):P e:=by
 cases e<;>first|exact H _ _ _ _ h|exact(Z0 h).elim
def Ut(f:UnaryOp->Expr->Pos->Bool):Expr->Bool
 |.UnaryOp a b c=>f a b c
 |_=>false
theorem Km{f:UnaryOp->Expr->Pos->Bool}{P:Expr->Prop}{e:Expr}(h:Ut f e=true)(H:∀a b c,f a b c=true->P (.UnaryOp a b c)):P e:=by
 cases e<;>first|exact H _ _ _ h|exact(Z0 h).elim
def Mm(f:Expr->List CmpOp->List Expr->Pos->Bool):Expr->Bool
 |.Compare a b c d=>f a b c d
 |_=>false
theorem DU{f:Expr->List CmpOp->List Expr->Pos->Bool}{P:Expr->Prop}{e:Expr}(h:Mm f e=true)(H:∀a b c d,f a b c d=true->P (.Compare a b c d)):P e:=by
 cases e<;>first|exact H _ _ _ _ h|exact(Z0 h).elim
def uZ(f:BoolOp->List Expr->Pos->Bool):Expr->Bool
 |.BoolOp a b c=>f a b c
 |_=>false
theorem uc{f:BoolOp->List Expr->Pos->Bool}{P:Expr->Prop}{e:Expr}(h:uZ f e=true)(H:∀a b c,f a b c=true->P (.BoolOp a b c)):P e:=by
 cases e<;>first|exact H _ _ _ h|exact(Z0 h).elim
def Qs(f:List Expr->Nat->Pos->Bool):Expr->Bool
 |.Tuple a b c=>f a b c
 |_=>false
theorem Mn{f:List Expr->Nat->Pos->Bool}{P:Expr->Prop}{e:Expr}(h:Qs f e=true)(H:∀a b c,f a b c=true->P (.Tuple a b c)):P e:=by
 cases e<;>first|exact H _ _ _ h|exact(Z0 h).elim
def Qt(f:List Expr->Pos->Bool):Expr->Bool
 |.List a b=>f a b
 |_=>false
theorem Mp{f:List Expr->Pos->Bool}{P:Expr->Prop}{e:Expr}(h:Qt f e=true)(H:∀a b,f a b=true->P (.List a b)):P e:=by
 cases e<;>first|exact H _ _ h|exact(Z0 h).elim
def DV(f:Expr->Expr->Pos->Bool):Expr->Bool
 |.Subscript a b c=>f a b c
 |_=>false
theorem u5{f:Expr->Expr->Pos->Bool}{P:Expr->Prop}{e:Expr}(h:DV f e=true)(H:∀a b c,f a b c=true->P (.Subscript a b c)):P e:=by
 cases e<;>first|exact H _ _ _ h|exact(Z0 h).elim
def Qu(f:Option Expr->Option Expr->Option Expr->Pos->Bool):Expr->Bool
 |.Slice a b c d=>f a b c d
 |_=>false
theorem Mq{f:Option Expr->Option Expr->Option Expr->Pos->Bool}{P:Expr->Prop}{e:Expr}(h:Qu f e=true)(H:∀a b c d,f a b c d=true->P (.Slice a b c d)):P e:=by
 cases e<;>first|exact H _ _ _ _ h|exact(Z0 h).elim
def DW(f:Expr->List Expr->List Keyword->Pos->Bool):Expr->Bool
 |.Call a b c d=>f a b c d
 |_=>false
theorem Av{f:Expr->List Expr->List Keyword->Pos->Bool}{P:Expr->Prop}{e:Expr}(h:DW f e=true)(H:∀a b c d,f a b c d=true->P (.Call a b c d)):P e:=by
 cases e<;>first|exact H _ _ _ _ h|exact(Z0 h).elim
def Aw(f:Expr->Str->Pos->Bool):Expr->Bool
 |.Attribute a b c=>f a b c
 |_=>false
theorem u6{f:Expr->Str->Pos->Bool}{P:Expr->Prop}{e:Expr}(h:Aw f e=true)(H:∀a b c,f a b c=true->P (.Attribute a b c)):P e:=by
 cases e<;>first|exact H _ _ _ h|exact(Z0 h).elim
def DX(f:Expr->List Comprehension->Scope->Pos->Bool):Expr->Bool
 |.ListComp a b c d=>f a b c d
 |_=>false
theorem Ax{f:Expr->List Comprehension->Scope->Pos->Bool}{P:Expr->Prop}{e:Expr}(h:DX f e=true)(H:∀a b c d,f a b c d=true->P (.ListComp a b c d)):P e:=by
 cases e<;>first|exact H _ _ _ _ h|exact(Z0 h).elim
def DY(f:List (Option Expr)->List Expr->Pos->Bool):Expr->Bool
 |.Dict a b c=>f a b c
 |_=>false
theorem Ay{f:List (Option Expr)->List Expr->Pos->Bool}{P:Expr->Prop}{e:Expr}(h:DY f e=true)(H:∀a b c,f a b c=true->P (.Dict a b c)):P e:=by
 cases e<;>first|exact H _ _ _ h|exact(Z0 h).elim
section
variable {α:Type} {f:α -> Bool} {g:α -> List α -> Bool} {P:List α -> Prop} {Q:Option α -> Prop} {l:List α} {b:Bool} {o:Option α}
def sU(l:List α)(b:Bool):Bool:=l.isEmpty&&b
theorem jk(h:sU l b=true)(H:b=true->P []):P l:=by
 cases l with
 |nil=>exact H h
 |cons _ _=>cases h
def kC(f:α -> List α -> Bool):List α -> Bool
 |a::r=>f a r
 |[]=>false
theorem zq(h:kC g l=true)(H:∀a r,g a r=true->P (a::r)):P l:=by
 cases l with
 |nil=>cases h
 |cons a r=>exact H a r h
def k1(f:α -> Bool):List α -> Bool:=kC λa r=>sU r (f a)
theorem iy(h:k1 f l=true)(H:∀a,f a=true->P [a]):P l:=by
 apply zq h;intro a r h;apply jk h;intro h;exact H a h
def k2(f:α -> α -> Bool):List α -> Bool:=kC λa r=>k1 (f a) r
theorem Uu{f:α -> α -> Bool}(h:k2 f l=true)(H:∀a b,f a b=true->P [a,b]):P l:=by
 apply zq h;intro a r h;apply iy h;intro b h;exact H a b h
def DZ(l:Option α)(b:Bool):Bool:=l.isNone&&b
theorem Az(h:DZ o b=true)(H:b=true->Q none):Q o:=by
 cases o with
 |none=>exact H h
 |some _=>cases h
def D3(f:α -> Bool)(l:Option α):Bool:=l.any f
theorem AA(h:D3 f o=true)(H:∀a,f a=true->Q (some a)):Q o:=by
 cases o with
 |none=>cases h
 |some a=>exact H a h
def Kn[DecidableEq α](a b:α)(c:Bool):Bool:=decide (a=b)&&c
theorem ud[DecidableEq α]{P:α -> Prop}{a d:α}(h:Kn a d b=true)(H:b=true->P d):P a:=by
 rw[Kn,abm,abL]at h;rw[h.1];exact H h.2
end
def CK(f:Str->Pos->List Expr->Pos->Bool):Expr->Bool:=DW λg l k p=>iJ (λx q=>sU k (f x q l p)) g
theorem jC{f:Str->Pos->List Expr->Pos->Bool}{P:Expr->Prop}{e:Expr}(h:CK f e=true)(H:∀x q l p,f x q l p=true->P (.Call (.Name x q) l [] p)):P e:=by
 apply Av h;intro g l k p h;apply dh h;intro x q h;apply jk h;intro h;exact H x q l p h
def Mr(f:Expr->Str->Pos->List Expr->Pos->Bool):Expr->Bool:=DW λg l k p=>Aw (λo x q=>sU k (f o x q l p)) g
theorem ue{f:Expr->Str->Pos->List Expr->Pos->Bool}{P:Expr->Prop}{e:Expr}(h:Mr f e=true)(H:∀o x q l p,f o x q l p=true->P (.Call (.Attribute o x q) l [] p)):P e:=by
 apply Av h;intro g l k p h;apply u6 h;intro o x q h;apply jk h;intro h;exact H o x q l p h
def Ms(f:Expr->Expr->List Expr->Int->Bool)(c:Comprehension):Bool:=f c.target c.iter c.ifs c.is_async
theorem D4{f:Expr->Expr->List Expr->Int->Bool}{P:Comprehension->Prop}{c:Comprehension}(h:Ms f c=true)(H:∀a b d i,f a b d i=true->P ⟨a,b,d,i⟩):P c:=by
 cases c;exact H _ _ _ _ h
def Qv(f:Str->Bool):Const->Bool
 |.str s=>f s
 |_=>false
theorem Mt{f:Str->Bool}{P:Const->Prop}{e:Const}(h:Qv f e=true)(H:∀s,f s=true->P (.str s)):P e:=by
 cases e<;>first|exact H _ h|exact(Z0 h).elim
theorem Qw{a b:Bool}(h:(a||b)=true):a=true\/b=true:=by
 cases a with
 |true=>exact .inl rfl
 |false=>exact .inr h
def D5(f:Expr->Pos->Bool):Stmt->Bool
 |.Expr a b=>f a b
 |_=>false
theorem AB{f:Expr->Pos->Bool}{P:Stmt->Prop}{e:Stmt}(h:D5 f e=true)(H:∀a b,f a b=true->P (.Expr a b)):P e:=by
 cases e<;>first|exact H _ _ h|exact(Z0 h).elim
def ID(f:List Expr->Expr->Pos->Bool):Stmt->Bool
 |.Assign a b c=>f a b c
 |_=>false
theorem zu{f:List Expr->Expr->Pos->Bool}{P:Stmt->Prop}{e:Stmt}(h:ID f e=true)(H:∀a b c,f a b c=true->P (.Assign a b c)):P e:=by
 cases e<;>first|exact H _ _ _ h|exact(Z0 h).elim
def Qx(f:Expr->Operator->Expr->Pos->Bool):Stmt->Bool
 |.AugAssign a b c d=>f a b c d
 |_=>false
theorem Mv{f:Expr->Operator->Expr->Pos->Bool}{P:Stmt->Prop}{e:Stmt}(h:Qx f e=true)(H:∀a b c d,f a b c d=true->P (.AugAssign a b c d)):P e:=by
 cases e<;>first|exact H _ _ _ _ h|exact(Z0 h).elim
def VA(f:Expr->List Stmt->List Stmt->Pos->Bool):Stmt->Bool
 |.If a b c d=>f a b c d
 |_=>false
theorem Qy{f:Expr->List Stmt->List Stmt->Pos->Bool}{P:Stmt->Prop}{e:Stmt}(h:VA f e=true)(H:∀a b c d,f a b c d=true->P (.If a b c d)):P e:=by
 cases e<;>first|exact H _ _ _ _ h|exact(Z0 h).elim
def Qz(f:Expr->Expr->List Stmt->List Stmt->Pos->Bool):Stmt->Bool
 |.For a b c d i=>f a b c d i
 |_=>false
theorem Mw{f:Expr->Expr->List Stmt->List Stmt->Pos->Bool}{P:Stmt->Prop}{e:Stmt}(h:Qz f e=true)(H:∀a b c d i,f a b c d i=true->P (.For a b c d i)):P e:=by
 cases e<;>first|exact H _ _ _ _ _ h|exact(Z0 h).elim
def D6(f:Expr->List Stmt->List Stmt->Pos->Bool):Stmt->Bool
 |.While a b c d=>f a b c d
 |_=>false
theorem D7{f:Expr->List Stmt->List Stmt->Pos->Bool}{P:Stmt->Prop}{e:Stmt}(h:D6 f e=true)(H:∀a b c d,f a b c d=true->P (.While a b c d)):P e:=by
 cases e<;>first|exact H _ _ _ _ h|exact(Z0 h).elim
def Mx(f:Option Expr->Pos->Bool):Stmt->Bool
 |.Return a b=>f a b
 |_=>false
theorem D8{f:Option Expr->Pos->Bool}{P:Stmt->Prop}{e:Stmt}(h:Mx f e=true)(H:∀a b,f a b=true->P (.Return a b)):P e:=by
 cases e<;>first|exact H _ _ h|exact(Z0 h).elim
def QA(f:Pos->Bool):Stmt->Bool
 |.Break a=>f a
 |_=>false
theorem My{f:Pos->Bool}{P:Stmt->Prop}{e:Stmt}(h:QA f e=true)(H:∀a,f a=true->P (.Break a)):P e:=by
 cases e<;>first|exact H _ h|exact(Z0 h).elim
def QB(f:Pos->Bool):Stmt->Bool
 |.Continue a=>f a
 |_=>false
theorem Mz{f:Pos->Bool}{P:Stmt->Prop}{e:Stmt}(h:QB f e=true)(H:∀a,f a=true->P (.Continue a)):P e:=by
 cases e<;>first|exact H _ h|exact(Z0 h).elim
def Ko(f:Pos->Bool):Stmt->Bool
 |.Pass a=>f a
 |_=>false
theorem IF{f:Pos->Bool}{P:Stmt->Prop}{e:Stmt}(h:Ko f e=true)(H:∀a,f a=true->P (.Pass a)):P e:=by
 cases e<;>first|exact H _ h|exact(Z0 h).elim
def MA(f:Nat->Bool):IE->Bool
 |.var i=>f i
 |_=>false
theorem D9{f:Nat->Bool}{P:IE->Prop}{e:IE}(h:MA f e=true)(H:∀i,f i=true->P (.var i)):P e:=by
 cases e<;>first|exact H _ h|exact(Z0 h).elim
end Hv
end
section
namespace Hv
open PySem L2 PyProof.Rows
structure Tb where
 nc:Nat
 IG:List Str
 II:List (Nat×Str×Nat)
 GS:List (Str×Str×Nat)
 isc:List (Str×List Bool)
structure pS where
 N:List Str
 sc:Scope
 fns:List (Str×Nat)
 cons:List (Str×Val)
 tb:Tb
def pJ(sc:Scope)(x:Str):Bool:=(sc.names.lookup x==some .local||sc.names.lookup x==some .cell||sc.names.lookup x==some .free) && !(x==("__debug__":Str)) && !(x==("__classdict__":Str))
def vS(sc:Scope)(x:Str):Bool:=sc.names.lookup x==some .globalImplicit && !(x==("__debug__":Str)) && !(x==("__name__":Str))
def Ea:Const->Val->Bool
 |.none,.non=>true
 |.bool a,.bl b=>a==b
 |.int a,.int b=>a==b
 |.str a,.str b=>a==b
 |_,_=>false
def MB(o:Ip)(op:Operator):Bool:=decide (op=zo o)
def QC(o:LZ)(op:CmpOp):Bool:=decide (op=Ar o)
def QD:Bl->Str
 |.len=>"len" | .min=>"min" | .max=>"max" | .sorted=>"sorted" | .list=>"list" | .tuple=>"tuple" | .str=>"str" | .int=>"int" | .all=>"all" | .any=>"any" | .isin _=>"isinstance"
def noStar:Expr->Bool
 |.Starred ..=>false
 |_=>true
def pT:Expr->Bool
 |.Slice ..=>false
 |_=>true
def IJ:Expr->Bool
 |.Name ..=>true|.Call ..=>true|.Subscript ..=>true|.List ..=>true|.Tuple ..=>true|.ListComp ..=>true|.Attribute ..=>true|.BinOp ..=>true
 |_=>false
def superB:Expr->Bool
 |.Call (.Name _ _) [] [] _=>false
 |_=>true
def Kp(scope xsc:Scope):Scope :=
 { scope with names:=scope.names.map λ(n,k)=>if (k==.free&&xsc.kind==.function&&xsc.names.lookup n==some .cell) then (n,.cell) else (n,k) }
def pS.u7(Γ:pS)(scope:Scope)(N':List Str):pS:={ Γ with N:=N',sc:=Kp scope Γ.sc }
def xm(Γ:pS):Ak->Expr->Bool
 |.one i,.Name x _=>Γ.N[i]?==some x && Γ.sc.names.lookup x==some .local
 | .tup is,.Tuple es _ _=>es.length==is.length&&(is.zip es).all λp=>match p.2 with
  |.Name x _=>Γ.N[p.1]?==some x && Γ.sc.names.lookup x==some .local
  |_=>false
 |_,_=>false
def xq:Ak->List Nat
 |.one i=>[i]
 |.tup is=>is
def XC:Me->Str
 |.join=>"join" | .append=>"append" | .extend=>"extend" | .remove=>"remove" | .pop=>"pop"
def zw:Val->Val->Bool
 |.non,.non=>true
 |.bl a,.bl b=>a==b
 |.int a,.int b=>a==b
 |.str a,.str b=>a==b
 |_,_=>false
def Kq(Γ:pS)(N':List Str)(js:List (Option Nat))(p q i j:Nat):Expr->Bool:=DX λe1 q1 scope _=>iJ (λy1 _=>k1 (Ms λtg iter ifs ia=>iJ (λy2 yp=>iJ (λdn _=>k1 (Mm λl ops rs _=>iJ (λy3 _=>k1 (λop=>Kn op .NotIn (k1 (iJ λen ep=>
  ia==0&&gi Γ.N Γ.sc scope N' js&&decide (N'.Nodup)&&xm (Γ.u7 scope N') (.one p) (.Name y2 yp)&&js[p]?==some none&&js[q]?==some (some j)&&p != q && !behindInMarks .NotIn (.Name en ep) &&
   (N'[p]?==some y1&&pJ (Γ.u7 scope N').sc y1)&&(N'[p]?==some y3&&pJ (Γ.u7 scope N').sc y3)&&(N'[q]?==some en&&pJ (Γ.u7 scope N').sc en)&&(Γ.N[i]?==some dn&&pJ Γ.sc dn)) rs)) ops) l) ifs) iter) tg) q1) e1
def MC:mD->Bool
 |.nil=>true
 |.cons ..=>false
theorem Eb{b:Bool}(h:(MC es&&b)=true):es=.nil/\b=true:=by
 cases es with
 |nil=>exact⟨rfl,h⟩
 |cons _ _=>cases h
mutual
noncomputable def bB(Γ:pS):IE->Expr->Bool
 |.var i,e=>iJ (λx _=>Γ.N[i]?==some x&&pJ Γ.sc x) e
 |.cst d,e=>zp (λc _ _=>Ea c d) e
 |.con x d,e=>iJ (λy _=>x==y&&vS Γ.sc x && Γ.cons.any λp=>p.1==x&&zw p.2 d) e
 |.no,_=>false
 |.bin o a b,e=>Qq (λl op r _=>MB o op&&bB Γ a l&&bB Γ b r) e
 |.neg a,e=>Ut (λq1 l _=>Kn q1 .USub (bB Γ a l)) e
 |.cmp o a b,e=>Mm (λl q1 q2 _=>k1 (λop=>k1 (λr=>QC o op && !behindInMarks op r&&bB Γ a l&&bB Γ b r) q2) q1) e
 |.chn _ _ _ _ _,_=>false
 |.and a b,e=>uZ (λq1 q2 pos=>Kn q1 .And (kC (λl q3=>kC (λm r=>bB Γ a l&&(match r with|[]=>bB Γ b m|n::r'=>bB Γ b (.BoolOp .And (m::n::r') pos))) q3) q2)) e
 |.or a b,e=>uZ (λq1 q2 pos=>Kn q1 .Or (kC (λl q3=>kC (λm r=>bB Γ a l&&(match r with|[]=>bB Γ b m|n::r'=>bB Γ b (.BoolOp .Or (m::n::r') pos))) q3) q2)) e
 |.not a,e=>Ut (λq1 l _=>Kn q1 .Not (bB Γ a l)) e
 |.ite _ _ _,_=>false
 |.tup es,e=>Qs (λls _ _=>aR Γ es ls) e
 |.lst es,e=>Qt (λls _=>aR Γ es ls) e
 |.idx a b,e=>DV (λl r _=>pT r&&bB Γ a l&&bB Γ b r) e
 |.slc a lo hi,e=>DV (λl q1 _=>Qu (λl' h' q2 _=>DZ q2 (bB Γ a l&&(match l' with|none=>cX lo|some e=>!cX lo&&bB Γ lo e)&&(match h' with|none=>cX hi|some e=>!cX hi&&bB Γ hi e))) q1) e
 |.call j es,e=>CK (λx _ args _=>vS Γ.sc x && Γ.fns[j]?==some (x,args.length)&&decide (args.length<1000)&&aR Γ es args) e||Mr (λq1 m ap args cp=>iJ (λx _=>vS Γ.sc x && Γ.tb.GS.contains (x,m,j)&&(match Γ.fns[j]? with|some (_,n)=>n==1000+args.length|none=>false)&&decide (args.length<29)&&ap.endLine==cp.line&&aR Γ es args && !args.isEmpty) q1) e
 | .blt b es,e=>CK (λx _ args _=>vS Γ.sc x&&x==QD b&&(match b with
   |.isin T=>(match args with|[a,.Name y _]=>vS Γ.sc y&&y==(T:Str)&&["list","tuple","str","bool","int","dict"].contains T&&aR Γ es [a]|_=>false)
   |_=>!args.isEmpty&&aR Γ es args)) e
 |.met m a es,e=>Mr (λo x ap args cp=>x==XC m&&superB o && !args.isEmpty&&decide (args.length<29)&&ap.endLine==cp.line&&bB Γ a o&&aR Γ es args) e
 | .comp N' js pat k it c elt,e=>DX (λe q1 scope _=>k1 (λq2=>Ms (λtg iter ifs q3=>Kn q3 0 (gi Γ.N Γ.sc scope N' js&&AD Γ k it iter&&decide (N'.Nodup)&&xm (Γ.u7 scope N') pat tg&&((xq pat).all λi=>js[i]?==some none)&&(match k,pat with|.enum,.one _=>false|.zip,.one _=>false|_,_=>true) &&
   (match ifs with|[]=>cX c|[t]=>!cX c&&bB (Γ.u7 scope N') c t|_=>false)&&bB (Γ.u7 scope N') elt e)) q2) q1) e
 |.dct0,e=>DY (λq1 q2 _=>sU q1 (sU q2 (true))) e
 |.sset a,e=>CK (λx _ q1 _=>k1 (λq2=>CK (λy _ q3 _=>k1 (λl=>x==("sorted":Str)&&y==("set":Str)&&vS Γ.sc x&&vS Γ.sc y&&noStar l&&bB Γ a l) q3) q2) q1) e
 |.dget d k x,e=>Mr (λo m ap q1 cp=>k2 (λa b=>m==("get":Str)&&superB o&&noStar a&&noStar b&&ap.endLine==cp.line&&bB Γ d o&&bB Γ k a&&bB Γ x b) q1) e
 |.dct1 k v,e=>DY (λq1 q2 _=>k1 (λq3=>D3 (λa=>k1 (λb=>bB Γ k a&&bB Γ v b) q2) q3) q1) e
 |.lkeys d,e=>CK (λx _ q1 _=>k1 (λq2=>Mr (λo m ap q3 cp=>sU q3 (x==("list":Str)&&m==("keys":Str)&&vS Γ.sc x&&superB o&&ap.endLine==cp.line&&bB Γ d o)) q2) q1) e||CK (λx _ q1 _=>k1 (λq2=>iJ (λy q=>x==("list":Str)&&vS Γ.sc x&&bB Γ d (.Name y q)) q2) q1) e
 |.sdef _ _ _,_=>false
 |.svals _,_=>false
 |.skeys d,e=>CK (λx _ q1 _=>k1 (λq2=>Mr (λo m ap q3 cp=>sU q3 (x==("sorted":Str)&&m==("keys":Str)&&vS Γ.sc x&&superB o&&ap.endLine==cp.line&&bB Γ d o)) q2) q1) e||CK (λx _ q1 _=>k1 (λq2=>iJ (λy q=>x==("sorted":Str)&&vS Γ.sc x&&bB Γ d (.Name y q)) q2) q1) e||CK (λx _ q1 _=>k1 (λq2=>DV (λa b q=>x==("sorted":Str)&&vS Γ.sc x&&bB Γ d (.Subscript a b q)) q2) q1) e
 |.fld n a x,e=>Aw (λo y _=>x==y&&superB o&&n == Γ.tb.nc && Γ.tb.IG.contains x&&bB Γ a o) e
 |.rev _ _,_=>false
 |.dflt N' js p q d w,e=>MA (λi=>MA (λj=>Kq Γ N' js p q i j e) w) d
 |.isc _ _ _,_=>false
 |.mth a m js es,e=>Mr (λo x ap args cp=>x==m&&superB o&&decide (args.length<29)&&ap.endLine==cp.line&&(js.all λp=>decide (p.1 < Γ.tb.nc) && Γ.tb.II.contains (p.1,m,p.2)&&(match Γ.fns[p.2]? with|some (_,n)=>n==1001+args.length|none=>false))&&bB Γ a o&&aR Γ es args) e
noncomputable def aR(Γ:pS):mD->List Expr->Bool
 |.nil,ls=>ls.isEmpty
 | .cons e es,ls=>match ls with
  |l::ls=>noStar l&&bB Γ e l&&aR Γ es ls
  |[]=>false
noncomputable def AD(Γ:pS)(k:Ik):mD->Expr->Bool
 |.nil,_=>false
 | .cons e es,l=>match k with
  |.seq=>MC es&&(IJ l&&bB Γ e l)
  |.range=>CK (λx _ as _=>kC (λa args=>x==("range":Str)&&vS Γ.sc x&&noStar a&&bB Γ e a&&aR Γ es args&&decide (args.length<2)) as) l
  |.enum=>MC es&&CK (λx _ as _=>k1 (λa=>x==("enumerate":Str)&&vS Γ.sc x&&noStar a&&bB Γ e a) as) l
  |.zip=>false
end
abbrev Fn:=Nat->List Val->M Val
def cJ(K:Frag)(ρ:List Addr)(env:Env)(σ:L2.St)(H:Hp):Prop:=∀(i:Nat) (v:Val),env[i]?=some (some v)->∃x,σ[i]?=some (some x)/\VR K ρ H v x
theorem cJ.kQ{K:Frag}{ρ ρ':List Addr}{env:Env}{σ:L2.St}{H H':Hp}(e:cJ K ρ env σ H)(g:Gw ρ H ρ' H'):cJ K ρ' env σ H':=λi v q=>by
 obtain⟨x,q1,q2⟩:=e i v q;exact⟨x,q1,VR.kQ g v x q2⟩
theorem cJ.up{K:Frag}{ρ ρ':List Addr}{env:Env}{σ:L2.St}{H H':Hp}(e:cJ K ρ env σ H)(g:Gr ρ H ρ' H'):cJ K ρ' env σ H':=e.kQ g.w
def XD(K:Frag)(Q:List V->Hp->Prop):List Val->Hs->List Addr->Hp->Prop:=λvs _ ρ' H'=>∀xs,ay K ρ' H' vs xs->Q xs H'
def WT(Q:Bool->Hp->Prop):Bool->Hs->List Addr->Hp->Prop:=λb _ _ H'=>Q b H'
def MD(Φ:Fn)(ir:IE)(env:Env):M Bool:=bnd (aB Φ ir env) λx=>ask λh=>cj h x
def tV(Φ:Fn)(B:Bd)(EX:Nat->List V->Hp->Prop)(ir:IE):TE:=λσ H Q=>∃ρ env h,cJ B.K ρ env σ H/\HR B ρ h H/\Post B EX ρ H (WV B.K Q) (aB Φ ir env h)
def VB(Φ:Fn)(B:Bd)(EX:Nat->List V->Hp->Prop)(dY:mD):TA:=λσ H Q=>∃ρ env h,cJ B.K ρ env σ H/\HR B ρ h H/\Post B EX ρ H (XD B.K Q) (aK Φ dY env h)
def tT(Φ:Fn)(B:Bd)(EX:Nat->List V->Hp->Prop)(ir:IE):TT:=λσ H Q=>∃ρ env h,cJ B.K ρ env σ H/\HR B ρ h H/\Post B EX ρ H (WT Q) (MD Φ ir env h)
theorem _root_.L2.PE.imp(h:PE X e t)(i:∀σ H Q,t' σ H Q->t σ H Q):PE X e t':=λpins s σ H Q I hw=>h pins s σ H Q I (i σ H Q hw)
theorem _root_.L2.PT.imp(h:PT X e t)(i:∀σ H Q,t' σ H Q->t σ H Q):PT X e t':=λpins s σ H Q I hw=>h pins s σ H Q I (i σ H Q hw)
theorem _root_.L2.PA.imp(h:PA X es t)(i:∀σ H Q,t' σ H Q->t σ H Q):PA X es t':=λpos pins s σ H Q I hw=>h pos pins s σ H Q I (i σ H Q hw)
theorem _root_.L2.PO.imp(h:PO X e t)(i:∀σ H Q,t' σ H Q->t σ H Q):PO X e t':=λpins s σ H Q I hw=>h pins s σ H Q I (i σ H Q hw)
theorem _root_.L2.PI.imp(h:PI X tg iter t)(i:∀σ H R,t' σ H R->t σ H R):PI X tg iter t':=λpins s σ H R I hw=>h pins s σ H R I (i σ H R hw)
theorem bg{α β γ:Type}(m:M α)(f:α -> M β)(g:β -> M γ):bnd (bnd m f) g=bnd m λx=>bnd (f x) g:=by
 funext h;show (match (match m h with|.ok a h'=>f a h'|.exc c vs h'=>.exc c vs h'|.no=>.no) with|.ok a h'=>g a h'|.exc c vs h'=>.exc c vs h'|.no=>.no)=(match m h with|.ok a h'=>bnd (f a) g h'|.exc c vs h'=>.exc c vs h'|.no=>.no);cases m h<;>rfl
theorem cK{α β:Type}(a:α)(f:α -> M β):bnd (ret a) f=f a:=rfl
def u9(B:Bd)(n:Nat)(φ:List Val->M Val):Sp:=λxs H Q _=>∃ρ h vs,vs.length=n/\HR B ρ h H/\ay B.K ρ H vs xs/\Post B (λ_ _ _=>False) ρ H (WV B.K Q) (φ vs h)
def OQ(P:Program)(w:World)(B:Bd)(mg:Str->Option Value)(base:Heap)(k:Nat)(j:Nat)(x:Str)(n:Nat)(φ:List Val->M Val):Prop :=
 (n<1000/\((∃(f:Addr) (fd:FuncData) (ps:List Str),ps.length=n/\mg x=some (.ref f)/\keepIn B.K (.ref f)=true/\Binds B.K fd ps []/\fh P w B.K mg base yy k f fd ps (u9 B n φ)) \/
  ∃(c:Nat) (f:Addr) (fd:FuncData) (ps:List Str) (φ0:List Val->M Val),φ = CJ c φ0/\ps.length=n+1/\mg x=some (.ref (B.cl c))/\Mk B.K (B.cl c) f/\Binds B.K fd ps []/\fh P w B.K mg base yy k f fd ps (u9 B (n+1) φ0))) \/
 (1000<=n/\∃(fd:FuncData) (ps:List Str),ps.length=n-1000/\Binds B.K fd ps []/\fh P w B.K mg base yy k (B.cl (1000+j)) fd ps (u9 B (n-1000) φ))
def bltNames:List Str:=["len","min","max","sorted","list","tuple","str","all","any","isinstance","range","enumerate","int","bool","dict","set","zip"]
structure Ctx (Φ:Fn) (Γ:pS) (k:Nat) (X:Cx) (cl:Nat->Addr) (EX:Nat->List V->Hp->Prop):Prop where
 N:X.N = Γ.N
 sc:X.env.scope = Γ.sc
 calm:X.calm=true
 room:cW (k+1) X.A
 lE:∀c xs H,¬ EX c xs H
 fns:∀j x n,Γ.fns[j]?=some (x,n)->OQ X.prog X.w (bd X cl) X.mg X.base k j x n (Φ j)
 cls:∀c,c < Γ.tb.nc->CH X.K (cl c)/\∀x ∈ Γ.tb.IG,jV X.K (cl c) x
 II:∀p ∈ Γ.tb.II,Meth X.K (cl p.1) p.2.1 (cl (1000+p.2.2))
 GS:∀p ∈ Γ.tb.GS,∃C,X.mg p.1=some (.ref C)/\LX X.K C p.2.1 (cl (1000+p.2.2))
 isc:∀p ∈ Γ.tb.isc,∃C,X.mg p.1=some (.ref C)/\∀c b,p.2[c]?=some b->Vy X.K (cl c)/\kitOne X.K (.ref (cl c)) (.ref C)=some b
 cons:∀p ∈ Γ.cons,∃v u,X.mg p.1=some u/\RelV v u/\∀K ρ H,VR K ρ H p.2 v
 blt:∀x∈bltNames,X.mg x=none
section
variable {Φ:Fn} {Γ:pS} {k:Nat} {X:Cx} {cl:Nat->Addr} {EX:Nat->List V->Hp->Prop}
theorem Ctx.units(c:Ctx Φ Γ k X cl EX):X.A.units+64<cLine:=c.room.units
theorem Ctx.vis(c:Ctx Φ Γ k X cl EX)(h:pJ Γ.sc x=true):O5 X.env.scope x/\(x==("__debug__":Str))=false/\(x==("__classdict__":Str))=false:=by
 unfold pJ at h;simp only[and_eq_true,or_eq_true,beq_iff_eq,not_eq_true']at h;obtain⟨⟨h1,h2⟩,h3⟩:=h;refine⟨?_,h2,h3⟩;unfold O5;rw[c.sc]
 rcases h1 with (z|z)|z
 ·exact .inl z
 ·exact .inr (.inl z)
 ·exact .inr (.inr z)
theorem Ctx.gl(c:Ctx Φ Γ k X cl EX)(h:vS Γ.sc x=true):Gl X x/\(x==("__debug__":Str))=false/\x ≠ "__name__":=by
 unfold vS at h;simp only[and_eq_true,beq_iff_eq,not_eq_true']at h;obtain⟨⟨h1,h2⟩,h3⟩:=h;refine⟨?_,h2,λz=>by rw[z]at h3;simp at h3⟩;show X.env.scope.names.lookup x=_;rw[c.sc];exact h1
theorem Ctx.u7(c:Ctx Φ Γ k X cl EX)(scope:Scope)(N':List Str)(cls:List (Str×Addr))(C:Addr)(s:Shared)(H:Hp)(fp:List Addr):Ctx Φ (Γ.u7 scope N') k (bw X scope N' cls C s H fp) cl EX:=by
 refine⟨rfl,?_,c.calm,c.room,c.lE,c.fns,c.cls,c.II,c.GS,c.isc,c.cons,c.blt⟩;show relabel scope X.env=Kp scope Γ.sc;rw[<-c.sc];rfl
theorem aY(h:noStar e=true):starEach (e::es) env=(false,eval e env)::starEach es env:=by
 cases e<;>first|rfl|(simp[noStar]at h)
theorem fT:∀{es:List Expr} {dY:mD},aR Γ dY es=true->(backTo pos (starEach es env)).any (·.1)=false
 |[],_,_=>rfl
 |e::es,.nil,h=>by simp[aR]at h
 | e::es,.cons i dY,h=>by
  simp only[aR,and_eq_true]at h;rw[aY h.1.1];show (false||(backTo pos (starEach es env)).any (·.1))=false;rw[fT (dY:=dY) h.2];rfl
theorem qN(h:aR Γ dY es=true):(backTo pos (starEach es env)).all (λx=>!x.1)=true:=by
 have q:=fT (pos:=pos) (env:=env) h;rw[acG];intro x hx;have:=List.any_eq_false.mp q x hx;simpa using this
theorem zx(h:pT e=true):z9 e:=by
 intro o i;cases e<;>first|rfl|(simp[pT]at h)
theorem super_ok(h:superB e=true):attributeBase e x env whole=whole:=by
 cases e<;>first
  |rfl
  |skip
 rename_i f args kws pos;cases f<;>first
  |rfl
  |skip
 cases args with
 |cons a r=>rfl
 |nil=>
  cases kws with
  |cons a r=>rfl
  |nil=>simp[superB]at h
theorem cu(q:PE X e (tV Φ (bd X cl) EX ir))(he:∀whole,isTrue e X.env whole=(do let v <-whole;standAt e.pos;holding [v] (truthy v))):PT X e (tT Φ (bd X cl) EX ir) :=
 (C2 q he).imp λσ H Q ⟨ρ,env,h,hE,r,p⟩=>⟨ρ,env,h,hE,r,au p λv h1 ρ1 x H1 g1 r1 q1 p1=>by
  obtain⟨b,e,w⟩:=cS r1 p1;exact⟨b,L6 r1 q1 e,w⟩⟩
theorem C0:Sz X (unaryOp .USub) (λx H Q=>∃i,x=.int i/\Q (.int (-i)) H):=by
 intro pins s σ H x v Q I rx h;obtain⟨i,rfl,q⟩:=h;obtain⟨t,rfl⟩:=rx;exact neg_int ⟨.int (-i),H,I.tok _,⟨_,rfl⟩,q⟩
theorem Kr(h:PT X (.BoolOp op vs pos) t):PW X (.BoolOp op vs pos) t:=λwhole pins s σ H Q I hw=>h pins s σ H Q I hw
def bZ(Φ:Fn)(ir:IE):Prop:=∀(Γ:pS) (k:Nat) (X:Cx) (cl:Nat->Addr) (EX:Nat->List V->Hp->Prop) (e:Expr),Ctx Φ Γ k X cl EX->bB Γ ir e=true->PE X e (tV Φ (bd X cl) EX ir)/\PT X e (tT Φ (bd X cl) EX ir)
def j3(Φ:Fn)(dY:mD):Prop:=(∀(Γ:pS) (k:Nat) (X:Cx) (cl:Nat->Addr) (EX:Nat->List V->Hp->Prop) (es:List Expr),Ctx Φ Γ k X cl EX->aR Γ dY es=true->PA X es (VB Φ (bd X cl) EX dY))/\match dY with
 |.nil=>True
 | .cons e r=>bZ Φ e/\match r with
  |.nil=>True
  |.cons e' _=>bZ Φ e'
theorem AE(h:MB o op=true):op=zo o:=aan h
theorem IK(h:QC o op=true):op=Ar o:=aan h
theorem n5(hs:∀env h,aB Φ ir env h=.no):bZ Φ ir:=by
 intro Γ k X cl EX e c h;exact⟨λpins s σ H Q I ⟨ρ,env,h,hE,r,p⟩=>by rw[hs]at p;exact p.elim,λpins s σ H Q I ⟨ρ,env,h,hE,r,p⟩=>by unfold MD bnd at p;rw[hs]at p;exact p.elim⟩
theorem ME{i:Nat}:bZ Φ (.var i):=by
 intro Γ k X cl EX e c h;apply dh h;intro x pos h;simp only[and_eq_true,beq_iff_eq]at h;obtain⟨v1,v2,v3⟩:=c.vis h.2;have q:PE X (.Name x pos) (tV Φ (bd X cl) EX (.var i)):=by refine(yG (by rw[c.N];exact h.1) v1 v2 v3).imp λσ H Q aJ=>?_;obtain⟨ρ,env,h,hE,r,p⟩:=aJ;rw[aB.eq_def]at p;dsimp only at p;obtain⟨d,e1,w⟩:=dH r p;split at e1<;>cases e1;rename_i e1;obtain⟨x,e2,e3⟩:=hE i d e1;exact⟨x,e2,w x e3⟩
 exact⟨q,cu q λ_=>rfl⟩
theorem MF:bZ Φ (.cst d):=by
 intro Γ k X cl EX e c h;apply xj h;intro cc j pos h;have q:PE X (.Constant cc j pos) (tV Φ (bd X cl) EX (.cst d)):=by
  unfold Ea at h;split at h<;>first|cases h|skip
  ·refine K1.imp λσ H Q aJ=>?_;obtain⟨ρ,env,h,hE,r,p⟩:=aJ;simp only[aB]at p;exact aj r p _ VR.non
  ·cases eq_of_beq h;refine Pb.imp λσ H Q aJ=>?_;obtain⟨ρ,env,h,hE,r,p⟩:=aJ;simp only[aB]at p;exact aj r p _ VR.bl
  ·cases eq_of_beq h;refine K0.imp λσ H Q aJ=>?_;obtain⟨ρ,env,h,hE,r,p⟩:=aJ;simp only[aB]at p;exact aj r p _ VR.int
  ·cases eq_of_beq h;refine K2.imp λσ H Q aJ=>?_;obtain⟨ρ,env,h,hE,r,p⟩:=aJ;simp only[aB]at p;exact aj r p _ VR.str
 exact⟨q,cu q λ_=>rfl⟩
theorem Cj(h:zw a b=true):a=b:=by
 unfold zw at h;split at h<;>first|rfl|(cases eq_of_beq h;rfl)|cases h
theorem MG:bZ Φ (.con x d):=by
 intro Γ k X cl EX e c h;apply dh h;intro y pos h;simp only[and_eq_true,beq_iff_eq]at h;obtain⟨⟨h1,h2⟩,h3⟩:=h;subst h1;obtain⟨g1,g2,g3⟩:=c.gl h2;obtain⟨p,hp,h4⟩:=List.any_eq_true.mp h3;simp only[and_eq_true,beq_iff_eq]at h4;obtain⟨v,u,m1,m2,m3⟩:=c.cons p hp;rw[h4.1]at m1;have q:PE X (.Name x pos) (tV Φ (bd X cl) EX (.con x d)):=by refine(GZ g1 m1 m2 g2).imp λσ H Q aJ=>?_;obtain⟨ρ,env,h,hE,r,p⟩:=aJ;simp only[aB]at p;exact aj r p _ (by rw[<-Cj h4.2];exact m3 _ _ _)
 exact⟨q,cu q λ_=>rfl⟩
theorem QE:bZ Φ .no:=by
 intro Γ k X cl EX e c h
 (conv at h=>lhs;whnf);cases h
theorem Ec:j3 Φ .nil:=by
 refine⟨fun Γ k X cl EX es c h=>?_,trivial⟩;rw[aR]at h;cases es with
 |cons a r=>cases h
 |nil=>refine C5.imp λσ H Q aJ=>?_;obtain⟨ρ,env,h,hE,r,p⟩:=aJ;simp only[aK]at p;exact aj r p _ ay.nil
theorem AF(h1:bZ Φ e)(h2:j3 Φ es):j3 Φ (.cons e es):=by
 refine⟨fun Γ k X cl EX ls c h=>?_,h1,?_⟩
 ·rw[aR.eq_def]at h;dsimp only at h
  cases ls with
  |nil=>cases h
  |cons l ls=>simp only[and_eq_true]at h;refine(uL (h1 Γ k X cl EX l c h.1.2).1 (h2.1 Γ k X cl EX ls c h.2) (aY h.1.1)).imp λσ H Q aJ=>?_;obtain⟨ρ,env,h,hE,r,p⟩:=aJ;simp only[aK]at p;refine⟨ρ,env,h,hE,r,au p λv h1 ρ1 x H1 g1 r1 q1 p1=>⟨ρ1,env,h1,hE.up g1,r1,bq p1 λvs h2 ρ2 H2 g2 r2 p2 xs q2=>?_⟩⟩;exact aj r2 p2 _ (ay.cons (VR.up g2 _ _ q1) q2)
 ·cases es with
  |nil=>trivial
  |cons e' r=>exact h2.2.1
theorem MH(ha:bZ Φ a)(hb:bZ Φ b):bZ Φ (.bin o a b):=by
 intro Γ k X cl EX e c h;apply Ml h;intro l op r pos h;simp only[and_eq_true]at h;obtain⟨⟨h1,h2⟩,h3⟩:=h;have eo:op=zo o:=AE h1;subst eo;have q:PE X (.BinOp l (zo o) r pos) (tV Φ (bd X cl) EX (.bin o a b)):=by refine(Pz (L3 (cl:=cl) (EX:=EX) o) (ha Γ k X cl EX l c h2).1 (hb Γ k X cl EX r c h3).1).imp λσ H Q aJ=>?_;obtain⟨ρ,env,h,hE,r,p⟩:=aJ;simp only[aB]at p;exact⟨ρ,env,h,hE,r,au p λv h1 ρ1 x H1 g1 r1 q1 p1=>⟨ρ1,env,h1,hE.up g1,r1,au p1 λw h2 ρ2 y H2 g2 r2 q2 p2=>⟨ρ2,h2,v,w,r2,VR.up g2 _ _ q1,q2,p2⟩⟩⟩
 exact⟨q,cu q λ_=>rfl⟩
theorem MI(ha:bZ Φ a):bZ Φ (.neg a):=by
 intro Γ k X cl EX e c h;apply Km h;intro q1 l pos h;apply ud h;intro h;have q:PE X (.UnaryOp .USub l pos) (tV Φ (bd X cl) EX (.neg a)):=by
  refine(PB C0 (ha Γ k X cl EX l c h).1).imp λσ H Q aJ=>?_;obtain⟨ρ,env,h,hE,r,p⟩:=aJ;simp only[aB]at p;refine⟨ρ,env,h,hE,r,au p λv h1 ρ1 x H1 g1 r1 q1 p1=>?_⟩;cases v<;>first|exact p1.elim|skip
  rw[VR]at q1;exact⟨_,q1,aj r1 p1 _ VR.int⟩
 exact⟨q,cu q λ_=>rfl⟩
theorem MJ(ha:bZ Φ a)(hb:bZ Φ b):bZ Φ (.cmp o a b):=by
 intro Γ k X cl EX e c h;apply DU h;intro l q1 q2 pos h;apply iy h;intro op h;apply iy h;intro r h;simp only[and_eq_true,not_eq_true']at h;obtain⟨⟨⟨h1,h4⟩,h2⟩,h3⟩:=h;have eo:op=Ar o:=IK h1;subst eo;refine⟨(HE (DS (cl:=cl) c.units o) (ha Γ k X cl EX l c h2).1 (hb Γ k X cl EX r c h3).1 h4).imp λσ H Q ⟨ρ,env,h,hE,r,p⟩=>?_,(z4 (DS (cl:=cl) c.units o) (ha Γ k X cl EX l c h2).1 (hb Γ k X cl EX r c h3).1 h4).imp λσ H Q ⟨ρ,env,h,hE,r,p⟩=>?_⟩
 ·simp only[aB]at p;refine⟨ρ,env,h,hE,r,au p λv h1 ρ1 x H1 g1 r1 q1 p1=>⟨ρ1,env,h1,hE.up g1,r1,au p1 λw h2 ρ2 y H2 g2 r2 q2 p2=>?_⟩⟩;obtain⟨t,e,p3⟩:=aD p2;exact⟨ρ2,h2,v,w,t,r2,VR.up g2 _ _ q1,q2,e,aj r2 p3 _ VR.bl⟩
 ·simp only[MD,aB,bg,cK]at p;refine⟨ρ,env,h,hE,r,au p λv h1 ρ1 x H1 g1 r1 q1 p1=>⟨ρ1,env,h1,hE.up g1,r1,au p1 λw h2 ρ2 y H2 g2 r2 q2 p2=>?_⟩⟩;obtain⟨t,e,p3⟩:=aD p2;obtain⟨t',e',w'⟩:=cS r2 p3;cases (show some t=some t' from e');exact⟨ρ2,h2,v,w,t,r2,VR.up g2 _ _ q1,q2,e,t,rfl,w'⟩
theorem MK(ha:bZ Φ a)(hb:bZ Φ b)(hd:bZ Φ d):bZ Φ (.chn o o' a b d):=n5 λ_ _=>rfl
end
section
variable {B:Bd} {EX:Nat->List V->Hp->Prop} {ρ:List Addr} {H:Hp} {β:Type} {W:β -> Hs->List Addr->Hp->Prop} {h:Hs}
theorem post_bool(p:Post B EX ρ H W (bnd (qG v) f h)):∃t,v=.bl t/\Post B EX ρ H W (f t h):=by
 cases v with
 |bl t=>exact⟨t,rfl,p⟩
 |_=>exact p.elim
theorem n6(p:Post B EX ρ H W (bnd m F h))(k:∀v h1,Post B EX ρ H W (F v h1)->∃t,cj h1 v=some t/\∀ρ1 H1,Gr ρ H ρ1 H1->HR B ρ1 h1 H1->Q t H1) :
  Post B EX ρ H (WT Q) (bnd m (λx=>ask λh=>cj h x) h):=by
 unfold bnd at p |-;cases e:m h with
 |ok v h1=>
  rw[e]at p;obtain⟨t,e1,q⟩:=k v h1 p;show Post B EX ρ H (WT Q) (ask (λh=>cj h v) h1);have e2:ask (λh=>cj h v) h1=.ok t h1:=by unfold ask bG;dsimp only;rw[e1]
  rw[e2];exact λρ1 H1 g r=>q ρ1 H1 g r
 |exc c vs h1=>rw[e]at p;exact p
 |no=>rw[e]at p;exact p
end
section
variable {Φ:Fn} {Γ:pS} {k:Nat} {X:Cx} {cl:Nat->Addr} {EX:Nat->List V->Hp->Prop}
theorem ML(ha:bZ Φ a)(hb:bZ Φ b):bZ Φ (.and a b):=by
 intro Γ k X cl EX e c h;apply uc h;intro q1 q2 pos h;apply ud h;intro h;apply zq h;intro l q3 h;apply zq h;intro m r h;simp only[and_eq_true]at h;obtain⟨h1,h2⟩:=h;have hB:PE X (.BoolOp .And (m::r) pos) (tV Φ (bd X cl) EX b)/\PW X (.BoolOp .And (m::r) pos) (tT Φ (bd X cl) EX b):=by
  cases r with
  |nil=>exact⟨CO (hb Γ k X cl EX m c h2).1,Hg (hb Γ k X cl EX m c h2).2⟩
  |cons n r'=>exact⟨(hb Γ k X cl EX _ c h2).1,Kr (hb Γ k X cl EX _ c h2).2⟩
 refine⟨(K6 (ha Γ k X cl EX l c h1).1 hB.1).imp λσ H Q ⟨ρ,env,h,hE,r,p⟩=>?_,(K4 (ha Γ k X cl EX l c h1).2 hB.2).pt.imp λσ H Q ⟨ρ,env,h,hE,r,p⟩=>?_⟩
 ·simp only[aB]at p
  refine⟨ρ,env,h,hE,r,au p λv h1 ρ1 x H1 g1 r1 q1 p1=>?_⟩;obtain⟨t,rfl,p2⟩:=post_bool p1;rw[VR]at q1;refine⟨t,q1,?_⟩;cases t with
  |true=>rw[Z7 rfl]at p2 |-;refine⟨ρ1,env,h1,hE.up g1,r1,au p2 λw h2 ρ2 y H2 g2 r2 q2 p3=>?_⟩;obtain⟨u,rfl,p4⟩:=post_bool p3;exact aj r2 p4 _ q2
  |false=>rw[Z8 Z0]at p2 |-;exact aj r1 p2 _ VR.bl
 ·simp only[MD,aB,bg]at p
  refine⟨ρ,env,h,hE,r,n6 p λv h1 p1=>?_⟩;obtain⟨t,rfl,p2⟩:=post_bool p1;refine⟨t,rfl,λρ1 H1 g1 r1=>?_⟩;have p2:=Post.up g1 p2;cases t with
  |true=>rw[Z7 rfl]at p2 |-;simp only[bg,cK]at p2;refine⟨ρ1,env,h1,hE.up g1,r1,n6 p2 λw h2 p3=>?_⟩;obtain⟨u,rfl,p4⟩:=post_bool p3;exact⟨u,rfl,λρ2 H2 g2 r2=>by obtain⟨t',e',w'⟩:=cS r2 (Post.up g2 p4);cases (show some u=some t' from e');exact w'⟩
  |false=>rw[Z8 Z0]at p2 |-;obtain⟨t',e',w'⟩:=cS r1 (show Post _ _ ρ1 H1 _ (ask (λh=>cj h (.bl false)) h1) from p2);cases (show some false=some t' from e');exact w'
theorem QF(ha:bZ Φ a)(hb:bZ Φ b):bZ Φ (.or a b):=by
 intro Γ k X cl EX e c h;apply uc h;intro q1 q2 pos h;apply ud h;intro h;apply zq h;intro l q3 h;apply zq h;intro m r h;simp only[and_eq_true]at h;obtain⟨h1,h2⟩:=h;have hB:PE X (.BoolOp .Or (m::r) pos) (tV Φ (bd X cl) EX b)/\PW X (.BoolOp .Or (m::r) pos) (tT Φ (bd X cl) EX b):=by
  cases r with
  |nil=>exact⟨CO (hb Γ k X cl EX m c h2).1,K3 (hb Γ k X cl EX m c h2).2⟩
  |cons n r'=>exact⟨(hb Γ k X cl EX _ c h2).1,Kr (hb Γ k X cl EX _ c h2).2⟩
 refine⟨(Pf (ha Γ k X cl EX l c h1).1 hB.1).imp λσ H Q ⟨ρ,env,h,hE,r,p⟩=>?_,(Pc (ha Γ k X cl EX l c h1).2 hB.2).pt.imp λσ H Q ⟨ρ,env,h,hE,r,p⟩=>?_⟩
 ·simp only[aB]at p
  refine⟨ρ,env,h,hE,r,au p λv h1 ρ1 x H1 g1 r1 q1 p1=>?_⟩;obtain⟨t,rfl,p2⟩:=post_bool p1;rw[VR]at q1;refine⟨t,q1,?_⟩;cases t with
  |false=>rw[Z8 Z0]at p2 |-;refine⟨ρ1,env,h1,hE.up g1,r1,au p2 λw h2 ρ2 y H2 g2 r2 q2 p3=>?_⟩;obtain⟨u,rfl,p4⟩:=post_bool p3;exact aj r2 p4 _ q2
  |true=>rw[Z7 rfl]at p2 |-;exact aj r1 p2 _ VR.bl
 ·simp only[MD,aB,bg]at p
  refine⟨ρ,env,h,hE,r,n6 p λv h1 p1=>?_⟩;obtain⟨t,rfl,p2⟩:=post_bool p1;refine⟨t,rfl,λρ1 H1 g1 r1=>?_⟩;have p2:=Post.up g1 p2;cases t with
  |false=>rw[Z8 Z0]at p2 |-;simp only[bg,cK]at p2;refine⟨ρ1,env,h1,hE.up g1,r1,n6 p2 λw h2 p3=>?_⟩;obtain⟨u,rfl,p4⟩:=post_bool p3;exact⟨u,rfl,λρ2 H2 g2 r2=>by obtain⟨t',e',w'⟩:=cS r2 (Post.up g2 p4);cases (show some u=some t' from e');exact w'⟩
  |true=>rw[Z7 rfl]at p2 |-;obtain⟨t',e',w'⟩:=cS r1 (show Post _ _ ρ1 H1 _ (ask (λh=>cj h (.bl true)) h1) from p2);cases (show some true=some t' from e');exact w'
theorem MM(ha:bZ Φ a):bZ Φ (.not a):=by
 intro Γ k X cl EX e c h;apply Km h;intro q1 l pos h;apply ud h;intro h;refine⟨(K7 (ha Γ k X cl EX l c h).1).imp λσ H Q ⟨ρ,env,h,hE,r,p⟩=>?_,(K5 (ha Γ k X cl EX l c h).2).imp λσ H Q ⟨ρ,env,h,hE,r,p⟩=>?_⟩
 ·simp only[aB]at p;refine⟨ρ,env,h,hE,r,au p λv h1 ρ1 x H1 g1 r1 q1 p1=>?_⟩;obtain⟨t,rfl,p2⟩:=post_bool p1;rw[VR]at q1;exact⟨t,q1,aj r1 p2 _ VR.bl⟩
 ·simp only[MD,aB,bg]at p;refine⟨ρ,env,h,hE,r,n6 p λv h1 p1=>?_⟩;obtain⟨t,rfl,p2⟩:=post_bool p1;refine⟨t,rfl,λρ1 H1 g1 r1=>?_⟩;obtain⟨t',e',w'⟩:=cS r1 (show Post _ _ ρ1 H1 _ (ask (λh=>cj h (.bl (!t))) h1) from Post.up g1 p2);cases (show some (!t)=some t' from e');exact w'
theorem MN(ht:bZ Φ t)(ha:bZ Φ a)(hb:bZ Φ b):bZ Φ (.ite t a b):=n5 λ_ _=>rfl
theorem MO(hs:j3 Φ es):bZ Φ (.tup es):=by
 intro Γ k X cl EX e c h;apply Mn h;intro ls x1 pos h;have q:PE X (.Tuple ls x1 pos) (tV Φ (bd X cl) EX (.tup es)):=by refine(Lx (hs.1 Γ k X cl EX ls c h)).imp λσ H Q aJ=>?_;obtain⟨ρ,env,h,hE,r,p⟩:=aJ;simp only[aB]at p;refine⟨ρ,env,h,hE,r,bq p λvs h1 ρ1 H1 g1 r1 p1 xs q1=>?_⟩;obtain⟨e1,p2⟩:=aH p1;exact⟨by rw[<-q1.length];exact aan e1,λq hq=>qJ r1 hq q1 p2⟩
 exact⟨q,cu q λ_=>rfl⟩
theorem MP(hs:j3 Φ es):bZ Φ (.lst es):=by
 intro Γ k X cl EX e c h;apply Mp h;intro ls pos h;have q:PE X (.List ls pos) (tV Φ (bd X cl) EX (.lst es)):=by refine(Ly (hs.1 Γ k X cl EX ls c h)).imp λσ H Q aJ=>?_;obtain⟨ρ,env,h,hE,r,p⟩:=aJ;simp only[aB]at p;refine⟨ρ,env,h,hE,r,bq p λvs h1 ρ1 H1 g1 r1 p1 xs q1=>?_⟩;obtain⟨e1,p2⟩:=aH p1;exact⟨by rw[<-q1.length];exact aan e1,λq hq=>cF r1 hq q1 p2⟩
 exact⟨q,cu q λ_=>rfl⟩
theorem IL:bZ Φ .dct0:=by
 intro Γ k X cl EX e c h;apply Ay h;intro q1 q2 pos h;apply jk h;intro h;apply jk h;intro h;have q:PE X (.Dict [] [] pos) (tV Φ (bd X cl) EX .dct0):=by refine(Dh (X:=X) (pos:=pos)).imp λσ H Q aJ=>?_;obtain⟨ρ,env,h,hE,r,p⟩:=aJ;simp only[aB]at p;exact λa ha=>xg (o:=.dct []) (O:=.dK []) r ha ⟨[],aO,(by rw[gy])⟩ p
 exact⟨q,cu q λ_=>rfl⟩
theorem MQ(ha:bZ Φ a)(hb:bZ Φ b):bZ Φ (.idx a b):=by
 intro Γ k X cl EX e c h;apply u5 h;intro l r pos h;simp only[and_eq_true]at h;have q:PE X (.Subscript l r pos) (tV Φ (bd X cl) EX (.idx a b)):=by refine(PV (L7 (cl:=cl) c.units) (ha Γ k X cl EX l c h.1.2).1 (hb Γ k X cl EX r c h.2).1 (zx h.1.1)).imp λσ H Q aJ=>?_;obtain⟨ρ,env,h,hE,r,p⟩:=aJ;simp only[aB]at p;refine⟨ρ,env,h,hE,r,au p λv h1 ρ1 x H1 g1 r1 q1 p1=>⟨ρ1,env,h1,hE.up g1,r1,au p1 λw h2 ρ2 y H2 g2 r2 q2 p2=>?_⟩⟩;obtain⟨z,e,w'⟩:=cS r2 p2;exact⟨ρ2,h2,v,w,z,r2,VR.up g2 _ _ q1,q2,e,w'⟩
 exact⟨q,cu q λ_=>rfl⟩
def QG(Φ:Fn)(ir:IE)(env:Env):M (Option Int):=if cX ir=true then ret none else bnd (aB Φ ir env) λv=>bnd (bG (jB v)) λi=>ret (some i)
def tP(Φ:Fn)(B:Bd)(EX:Nat->List V->Hp->Prop)(ir:IE):TO:=λσ H Q=>∃ρ env h,cJ B.K ρ env σ H/\HR B ρ h H/\Post B EX ρ H (λo _ _ H'=>Q o H') (QG Φ ir env h)
theorem uf{i:Int}(h:jB d=some i):d=.int i:=by cases d<;>cases h;rfl
theorem AG(hi:bZ Φ ir)(c:Ctx Φ Γ k X cl EX)(h:(match o with|none=>cX ir|some e=>!cX ir&&bB Γ ir e)=true):PO X o (tP Φ (bd X cl) EX ir):=by
 cases o with
 |none=>refine HL.imp λσ H Q aJ=>?_;obtain⟨ρ,env,h',hE,r,p⟩:=aJ;unfold QG at p;rw[Z7 h]at p;exact aj r p
 |some e=>simp only[and_eq_true,not_eq_true']at h;refine(HM (hi Γ k X cl EX e c h.2).1).imp λσ H Q aJ=>?_;obtain⟨ρ,env,h',hE,r,p⟩:=aJ;unfold QG at p;rw[Z8 (by rw[h.1];exact Z0)]at p;refine⟨ρ,env,h',hE,r,au p λv h1 ρ1 x H1 g1 r1 q1 p1=>?_⟩;obtain⟨i,e1,p2⟩:=bz p1;cases uf e1;rw[VR]at q1;exact⟨i,q1,aj r1 p2⟩
theorem MR{a lo hi:IE}(ha:bZ Φ a)(hl:bZ Φ lo)(hh:bZ Φ hi):bZ Φ (.slc a lo hi):=by
 intro Γ k X cl EX e c h;apply u5 h;intro l q1 pos h;apply Mq h;intro l' h' q2 p2 h;apply Az h;intro h;simp only[and_eq_true]at h;have q:PE X (.Subscript l (.Slice l' h' none p2) pos) (tV Φ (bd X cl) EX (.slc a lo hi)):=by refine(C9 (L8 (cl:=cl) (EX:=EX)) (ha Γ k X cl EX l c h.1.1).1 (AG hl c h.1.2) (AG hh c h.2)).imp λσ H Q aJ=>?_;obtain⟨ρ,env,h,hE,r,p⟩:=aJ;simp only[aB]at p;refine⟨ρ,env,h,hE,r,au p λv h1 ρ1 x H1 g1 r1 q1 p1=>⟨ρ1,env,h1,hE.up g1,r1,bq (m:=QG Φ lo env) p1 λlo' h2 ρ2 H2 g2 r2 p3=>⟨ρ2,env,h2,(hE.up g1).up g2,r2,bq (m:=QG Φ hi env) p3 λhi' h3 ρ3 H3 g3 r3 p4=>?_⟩⟩⟩;exact⟨ρ3,h3,v,r3,VR.up (g2.trans g3) _ _ q1,p4⟩
 exact⟨q,cu q λ_=>rfl⟩
theorem MT(ha:bZ Φ a)(hs:bZ Φ sx):bZ Φ (.rev a sx):=n5 λ_ _=>rfl
theorem iK:∀{dY:mD} {ls:List Expr} {vs:List Val} {h h':Hs},aR Γ dY ls=true->aK Φ dY env h=.ok vs h'->vs.length=ls.length:=by
 intro dY
 induction dY using mD.rec (motive_1:=λ_=>True) with
 |nil=>
  intro ls ds h h' a b;rw[aR]at a;simp only[aK,ret]at b;cases b;cases ls with
  |nil=>rfl
  |cons _ _=>cases a
 |cons e es _ ih=>
  intro ls ds h h' a b;rw[aR.eq_def]at a;dsimp only at a;cases ls with
  |nil=>cases a
  |cons l ls=>
   simp only[and_eq_true]at a;simp only[aK,bnd]at b;cases e1:aB Φ e env h with
   |ok v h1=>
    rw[e1]at b;dsimp only at b;cases e2:aK Φ es env h1 with
    |ok vs h2=>rw[e2]at b;cases b;simp[ih a.2 e2]
    |exc _ _ _=>rw[e2]at b;cases b
    |no=>rw[e2]at b;cases b
   |exc _ _ _=>rw[e1]at b;cases b
   |no=>rw[e1]at b;cases b
 |_=>trivial
theorem dJ{α β:Type}{W:β -> Hs->List Addr->Hp->Prop}{W':α -> Hs->List Addr->Hp->Prop}{m:M α}{f:α -> M β}(p:Post B EX ρ H W (bnd m f h))(k:∀v h1 ρ1 H1,m h=.ok v h1->Gr ρ H ρ1 H1->HR B ρ1 h1 H1->Post B EX ρ1 H1 W (f v h1)->W' v h1 ρ1 H1):Post B EX ρ H W' (m h):=by
 unfold bnd at p;cases e:m h with
 |ok v h1=>rw[e]at p;exact λρ1 H1 g r=>k v h1 ρ1 H1 e g r (Post.up g p)
 |exc c vs h1=>rw[e]at p;exact p
 |no=>rw[e]at p;exact p
theorem dj{α:Type}{h:Hs}{W:α -> Hs->List Addr->Hp->Prop}{o:Out α}(n:∀c xs H,¬ EX c xs H)(p:Post B EX ρ H W o):Post B (λ_ _ _=>False) ρ H W o:=by
 cases o with
 |ok a h'=>exact p
 |exc c vs h'=>exact λρ' H' xs g r q=>n _ _ _ (p ρ' H' xs g r q)
 |no=>exact p
theorem AH{n c:Nat}{φ0:List Val->M Val}(r:HR B ρ h H)(hv:ay B.K ρ H vs xs)(hl:vs.length=n)(p:Post B (λ_ _ _=>False) ρ H (WV B.K Q) (CJ c φ0 vs h))
  (nx:H x=none) (nd:H dx=none) (ne:dx≠x):u9 B (n+1) φ0 (.ref x::xs) (upd (upd H dx (.own x)) x (.ins (B.cl c) dx [])) (λv H2=>v=.non/\Q (.ref x) H2) E:=by
 have r1:HR B ρ h (upd H dx (.own x)):=r.side nd;have VC:(upd H dx (.own x)) x=none:=by rw[ao λz=>ne z.symm];exact nx
 have g:Gr ρ H (ρ ++ [x]) (upd (upd H dx (.own x)) x (.ins (B.cl c) dx [])):=(Gr.side nd).trans (Gr.new VC);have r2:HR B (ρ ++ [x]) (h++[.ins c []]) (upd (upd H dx (.own x)) x (.ins (B.cl c) dx [])):=r1.new VC ⟨dx,[],aO,rfl⟩;have hx:(ρ ++ [x])[h.length]?=some x:=by rw[<-r.len];simp
 refine⟨ρ ++ [x],h++[.ins c []],.ref h.length::vs,by simp[hl],r2,ay.cons (VR.ref hx) (ay.up g _ _ hv),?_⟩;have p2:Post B (λ_ _ _=>False) (ρ ++ [x]) (upd (upd H dx (.own x)) x (.ins (B.cl c) dx [])) (WV B.K Q) (bnd (φ0 (.ref h.length::vs)) (λr=>match r with|.non=>ret (.ref h.length)|_=>bG none) (h++[.ins c []])):=Post.up g p;refine bq p2 λv h1 ρ1 H1 g1 r3 p3 y hy=>?_;cases v<;>first|exact p3.elim|skip
 rw[VR]at hy;exact⟨hy,aj r3 p3 _ (VR.ref (pR g1.pre hx))⟩
theorem IM{j:Nat}{k:Nat}(hs:j3 Φ es)(c:Ctx Φ Γ k X cl EX)
  (h:(vS Γ.sc x && Γ.fns[j]?==some (x,args.length)&&decide (args.length<1000)&&aR Γ es args)=true):PE X (.Call (.Name x p) args [] pos) (tV Φ (bd X cl) EX (.call j es))/\PT X (.Call (.Name x p) args [] pos) (tT Φ (bd X cl) EX (.call j es)):=by
 simp only[and_eq_true,beq_iff_eq,decide_eq_true_eq]at h;obtain⟨⟨⟨h1,h2⟩,h3⟩,h4⟩:=h;obtain⟨g1,g2,g3⟩:=c.gl h1;have room:cW k X.A:=c.room.mono (aaV k);have q:PE X (.Call (.Name x p) args [] pos) (tV Φ (bd X cl) EX (.call j es)):=by
  rcases c.fns j x _ h2 with ⟨_,⟨f,fd,ps,f1,f2,f3,f4,f5⟩|⟨cc,f,fd,ps,φ0,f0,f1,f2,f3,f4,f5⟩⟩|⟨z,_⟩
  ·cases args with
   |nil=>
    cases es with
    |cons i dY=>rw[aR.eq_def]at h4;cases h4
    |nil=>refine(C6 f5 room g1 f2 f3 f4 .nil qq g2).imp λσ H Q aJ=>?_;obtain⟨ρ,env,h,hE,r,p⟩:=aJ;simp only[aB,aK,cK]at p;exact⟨ρ,h,[],rfl,r,ay.nil,dj (h:=h) c.lE p⟩
   |cons l ls=>
    cases es with
    |nil=>rw[aR]at h4;cases h4
    |cons i dY=>have h5:=h4;rw[aR.eq_def]at h5;dsimp only at h5;simp only[and_eq_true]at h5;refine(HG f5 room g1 f2 f3 f4 .nil qq (hs.1 Γ k X cl EX _ c h4) g2 (aY h5.1.1) (fT h5.2)).imp λσ H Q aJ=>?_;obtain⟨ρ,env,h,hE,r,p⟩:=aJ;simp only[aB]at p;refine⟨ρ,env,h,hE,r,dJ p λvs h1 ρ1 H1 e1 g1 r1 p1 xs q1=>⟨ρ1,h1,vs,iK h4 e1,r1,by rw[aa2];exact q1,dj (h:=h1) c.lE p1⟩⟩
  ·cases args with
   |nil=>
    cases es with
    |cons i dY=>rw[aR.eq_def]at h4;cases h4
    |nil=>refine(C7 f3 f5 c.room g1 f2 f4 .nil qq g2).imp λσ H Q aJ=>?_;obtain⟨ρ,env,h,hE,r,p⟩:=aJ;simp only[aB,aK,cK]at p;intro y dy ny Uv Uw;rw[f0]at p;exact AH (B:=bd X cl) r ay.nil rfl (dj (h:=h) c.lE p) ny Uv Uw
   |cons l ls=>
    cases es with
    |nil=>rw[aR]at h4;cases h4
    |cons i dY=>have h5:=h4;rw[aR.eq_def]at h5;dsimp only at h5;simp only[and_eq_true]at h5;refine(HH f3 f5 c.room g1 f2 f4 .nil qq (hs.1 Γ k X cl EX _ c h4) g2 (aY h5.1.1) (fT h5.2)).imp λσ H Q aJ=>?_;obtain⟨ρ,env,h,hE,r,p⟩:=aJ;simp only[aB]at p;refine⟨ρ,env,h,hE,r,dJ p λvs h1 ρ1 H1 e1 g1 r1 p1 xs q1 y dy ny Uv Uw=>?_⟩;rw[f0]at p1;rw[aa2];exact AH (B:=bd X cl) r1 q1 (iK h4 e1) (dj (h:=h1) c.lE p1) ny Uv Uw
  ·omega
 exact⟨q,cu q λ_=>rfl⟩
theorem IP{j:Nat}{k:Nat}(hs:j3 Φ es)(c:Ctx Φ Γ k X cl EX)
  (h:(vS Γ.sc x && Γ.tb.GS.contains (x,m,j)&&(match Γ.fns[j]? with|some (_,n)=>n==1000+args.length|none=>false)&&decide (args.length<29)&&ap.endLine==cp.line&&aR Γ es args && !args.isEmpty)=true) :
  PE X (.Call (.Attribute (.Name x p) m ap) args [] cp) (tV Φ (bd X cl) EX (.call j es))/\PT X (.Call (.Attribute (.Name x p) m ap) args [] cp) (tT Φ (bd X cl) EX (.call j es)):=by
 simp only[and_eq_true,beq_iff_eq,decide_eq_true_eq,contains_iff_mem]at h;obtain⟨⟨⟨⟨⟨⟨h1,h2⟩,h3⟩,h4⟩,h5⟩,h6⟩,h7⟩:=h;obtain⟨g1,g2,g3⟩:=c.gl h1;obtain⟨C,hm,cm⟩:=c.GS _ h2;have hf:∃xx,Γ.fns[j]?=some (xx,1000+args.length):=by
  cases ef:Γ.fns[j]? with
  |none=>rw[ef]at h3;cases h3
  |some q=>rw[ef]at h3;obtain⟨q1,q2⟩:=q;exact⟨q1,by rw[show q2=_ from eq_of_beq h3]⟩
 obtain⟨xx,hf⟩:=hf;have room:cW k X.A:=c.room.mono (aaV k)
 rcases c.fns j xx _ hf with ⟨z,_⟩|⟨_,fd,ps,f1,f4,f5⟩
 ·omega
 rw[show 1000+args.length-1000=args.length by omega]at f5;have few:((backTo cp (starEach args X.env)).all (λx=>!x.1)&&(backToKw cp (keywordEach [] X.env)).all (λx=>x.1.isSome)
   && decide (args.length+([]:List Keyword).length+(if ([]:List Keyword).isEmpty then 0 else 1)<30))=true:=by
  rw[qN h6];simp only[Bool.true_and,and_eq_true];exact⟨rfl,decide_eq_true (by simp;omega)⟩
 have hl:(ap.endLine==cp.line)=true:=by rw[h5];exact abg _
 have q:PE X (.Call (.Attribute (.Name x p) m ap) args [] cp) (tV Φ (bd X cl) EX (.call j es)):=by
  cases args with
  |nil=>exact absurd h7 (by simp)
  |cons l ls=>
   cases es with
   |nil=>rw[aR]at h6;cases h6
   |cons i dY=>have h8:=h6;rw[aR.eq_def]at h8;dsimp only at h8;simp only[and_eq_true]at h8;refine(LY (k:=k) f5 room g1 hm cm f4 (hs.1 Γ k X cl EX _ c h6) g2 few hl (aY h8.1.1) (fT h8.2)).imp λσ H Q aJ=>?_;obtain⟨ρ,env,h,hE,r,p⟩:=aJ;simp only[aB]at p;refine⟨ρ,env,h,hE,r,dJ p λvs h1 ρ1 H1 e1 g1 r1 p1 xs q1=>⟨ρ1,h1,vs,iK h6 e1,r1,q1,dj (h:=h1) c.lE p1⟩⟩
 exact⟨q,cu q λ_=>rfl⟩
theorem IQ{j:Nat}(hs:j3 Φ es):bZ Φ (.call j es):=by
 intro Γ k X cl EX e c h
 rcases Qw h with h|h
 ·apply jC h;intro x _ args _ h;exact IM hs c h
 ·apply ue h;intro q1 m ap args cp h;apply dh h;intro x _ h;exact IP hs c h
theorem MU{n:Nat}(ha:bZ Φ a):bZ Φ (.fld n a x):=by
 intro Γ k X cl EX e c h;apply u6 h;intro o y pos h;simp only[and_eq_true,beq_iff_eq,contains_iff_mem]at h;obtain⟨⟨⟨⟨h1,h2⟩,h3⟩,h4⟩,h5⟩:=h;subst h1;have q:PE X (.Attribute o x pos) (tV Φ (bd X cl) EX (.fld n a x)):=by
  refine(pe_fld (ha Γ k X cl EX o c h5).1 (super_ok h2)).imp λσ H Q aJ=>?_;obtain⟨ρ,env,h,hE,r,p⟩:=aJ;simp only[aB]at p;refine⟨ρ,env,h,hE,r,au p λv h1 ρ1 y H1 g1 r1 q1 p1=>?_⟩;obtain⟨z,e1,w⟩:=cS r1 p1;cases v<;>first|(cases e1;done)|(rw[VR]at q1;exact q1.elim)|skip
  rename_i i;rw[VR]at q1;obtain⟨ad,rfl,q1⟩:=q1;have hx:∃c0 fs,h1[i]?=some (.ins c0 fs)/\c0<n/\fs.lookup x=some z:=by
   change (match h1[i]? with|some (.ins c fs)=>if c<n then fs.lookup x else none|_=>none)=some z at e1;split at e1
   ·rename_i c0 fs e2
    split at e1
    ·rename_i hc;exact⟨c0,fs,e2,hc,e1⟩
    ·cases e1
   ·cases e1
  obtain⟨c0,fs,e2,hc,e3⟩:=hx;obtain⟨dx,gs,k1,k2⟩:=r1.ob i _ ad e2 q1;obtain⟨y,l1,l2⟩:=k2.look.2 z e3;obtain⟨cc,nn⟩:=c.cls c0 (by omega);exact⟨ad,cl c0,dx,gs,y,rfl,k1,cc,nn x h4,l1,w y l2⟩
 exact⟨q,cu q λ_=>rfl⟩
theorem xr:∀{js:List (Nat×Nat)} {c j:Nat},js.lookup c=some j->(c,j)∈js
 | (a,b)::r,c,j,e=>by
  rw[aaB]at e;cases hb:c==a with
  |true=>rw[hb]at e;cases e;rw[eq_of_beq hb];exact Z9
  |false=>rw[hb]at e;exact aab _ (xr e)
theorem MV(ha:bZ Φ a)(hs:j3 Φ es):bZ Φ (.mth a m js es):=by
 intro Γ k X cl EX e c h;apply ue h;intro o x ap args cp h;simp only[and_eq_true,beq_iff_eq,all_eq_true,decide_eq_true_eq,contains_iff_mem]at h;obtain⟨⟨⟨⟨⟨⟨h1,h2⟩,h3⟩,h4⟩,h5⟩,h6⟩,h7⟩:=h;subst h1;have few:((backTo cp (starEach args X.env)).all (λx=>!x.1)&&(backToKw cp (keywordEach [] X.env)).all (λx=>x.1.isSome)
   && decide (args.length+([]:List Keyword).length+(if ([]:List Keyword).isEmpty then 0 else 1)<30))=true:=by
  rw[qN h7];simp only[Bool.true_and,and_eq_true];exact⟨rfl,decide_eq_true (by simp;omega)⟩
 have hl:(ap.endLine==cp.line)=true:=by rw[h4];exact abg _
 have room:cW k X.A:=c.room.mono (aaV k);have main:∀(σ:L2.St) (H:Hp) (Q:VK) (v:Val) (h1:Hs) (ρ1:List Addr) (y:V) (H1:Hp) (F:Nat->M Val),HR (bd X cl) ρ1 h1 H1->VR X.K ρ1 H1 v y->Post (bd X cl) EX ρ1 H1 (WV X.K Q) (bnd (ask λh=>kP h v x js) F h1) ->
   ∃j i ad c0 dx gs fd ps,v=.ref i/\y=.ref ad/\H1 ad=some (.ins (cl c0) dx gs)/\CH X.K (cl c0)/\Meth X.K (cl c0) x (cl (1000+j))/\gs.lookup x=none/\Binds X.K fd ps [] /\
    fh X.prog X.w X.K X.mg X.base yy k (cl (1000+j)) fd ps (u9 (bd X cl) (1+args.length) (Φ j))/\Post (bd X cl) EX ρ1 H1 (WV X.K Q) (F j h1):=by
  intro σ H Q v h1 ρ1 y H1 F r1 q1 p1;obtain⟨j,e1,p2⟩:=aD p1;cases v<;>first|(cases e1;done)|(rw[VR]at q1;exact q1.elim)|skip
  rename_i i;rw[VR]at q1;obtain⟨ad,rfl,q1⟩:=q1;have hx:∃c0 fs,h1[i]?=some (.ins c0 fs)/\fs.lookup x=none/\js.lookup c0=some j:=by
   change (match h1[i]? with|some (.ins c fs)=>if (fs.lookup x).isNone=true then js.lookup c else none|_=>none)=some j at e1;split at e1
   ·rename_i c0 fs e2
    split at e1
    ·rename_i hc;exact⟨c0,fs,e2,by simpa using hc,e1⟩
    ·cases e1
   ·cases e1
  obtain⟨c0,fs,e2,hn,e3⟩:=hx;obtain⟨dx,gs,k1,k2⟩:=r1.ob i _ ad e2 q1;obtain⟨⟨m1,m2⟩,m3⟩:=h5 _ (xr e3);dsimp only at m1 m2 m3;have cc:=(c.cls c0 m1).1;have mm:=c.II _ m2;dsimp only at mm;have hf:∃xx,Γ.fns[j]?=some (xx,1001+args.length):=by
   cases ef:Γ.fns[j]? with
   |none=>rw[ef]at m3;cases m3
   |some q=>rw[ef]at m3;obtain⟨q1,q2⟩:=q;exact⟨q1,by rw[show q2=_ from eq_of_beq m3]⟩
  obtain⟨xx,hf⟩:=hf
  rcases c.fns j xx _ hf with ⟨z,_⟩|⟨_,fd,ps,f1,f4,f5⟩
  ·omega
  ·rw[show 1001+args.length-1000=1+args.length by omega]at f5;exact⟨j,i,ad,c0,dx,gs,fd,ps,rfl,rfl,k1,cc,mm,k2.look.1 hn,f4,f5,p2⟩
 have q:PE X (.Call (.Attribute o x ap) args [] cp) (tV Φ (bd X cl) EX (.mth a x js es)):=by
  cases args with
  |nil=>
   cases es with
   |cons i dY=>rw[aR.eq_def]at h7;cases h7
   |nil=>refine(pe_mth0 (k:=k) (ha Γ k X cl EX o c h6).1 (super_ok h2) hl room).imp λσ H Q aJ=>?_;obtain⟨ρ,env,h,hE,r,p⟩:=aJ;simp only[aB,aK,cK]at p;refine⟨ρ,env,h,hE,r,au p λv h1 ρ1 y H1 g1 r1 q1 p1=>?_⟩;obtain⟨j,i,ad,c0,dx,gs,fd,ps,rfl,rfl,k1,cc,mm,k2,f4,f5,p2⟩:=main σ H Q v h1 ρ1 y H1 _ r1 q1 p1;exact⟨ad,cl c0,dx,gs,cl (1000+j),fd,ps,_,rfl,k1,cc,mm,k2,f4,f5,ρ1,h1,[.ref i],rfl,r1,ay.cons q1 ay.nil,dj (h:=h1) c.lE p2⟩
  |cons l ls=>
   cases es with
   |nil=>rw[aR]at h7;cases h7
   |cons i dY=>have h8:=h7;rw[aR.eq_def]at h8;dsimp only at h8;simp only[and_eq_true]at h8;refine(pe_mthD (k:=k) (ha Γ k X cl EX o c h6).1 (hs.1 Γ k X cl EX _ c h7) (super_ok h2) few hl room (aY h8.1.1) (fT h8.2)).imp λσ H Q aJ=>?_;obtain⟨ρ,env,h,hE,r,p⟩:=aJ;simp only[aB]at p;refine⟨ρ,env,h,hE,r,au p λv h1 ρ1 y H1 g1 r1 q1 p1=>?_⟩;obtain⟨j,i,ad,c0,dx,gs,fd,ps,rfl,rfl,k1,cc,mm,k2,f4,f5,p2⟩:=main σ H Q v h1 ρ1 y H1 _ r1 q1 p1;refine⟨ad,cl c0,dx,gs,cl (1000+j),fd,ps,_,rfl,k1,cc,mm,k2,f4,f5,ρ1,env,h1,hE.up g1,r1,dJ p2 λvs h2 ρ2 H2 e4 g2 r2 p3 xs q2=>?_⟩;refine⟨ρ2,h2,.ref i::vs,?_,r2,ay.cons (VR.up g2 _ _ q1) q2,dj (h:=h2) c.lE p3⟩;rw[aal,iK h7 e4];omega
 exact⟨q,cu q λ_=>rfl⟩
end
section
variable {Φ:Fn} {Γ:pS} {k:Nat} {X:Cx} {cl:Nat->Addr} {EX:Nat->List V->Hp->Prop}
theorem MW:bootBuiltins "all" = some (.builtin "all"):=by decide +kernel
theorem MX:bootBuiltins "any" = some (.builtin "any"):=by decide +kernel
theorem iL:bootBuiltins "sorted" = some (.builtin "sorted"):=by decide +kernel
theorem MY:bootBuiltins "min" = some (.builtin "min"):=by decide +kernel
theorem MZ:bootBuiltins "max" = some (.builtin "max"):=by decide +kernel
theorem pU:bootBuiltins "list" = some (.type "list"):=by decide +kernel
theorem xu:bootBuiltins "tuple" = some (.type "tuple"):=by decide +kernel
theorem Ed:bootBuiltins "str" = some (.type "str"):=by decide +kernel
theorem Ef:bootBuiltins "int" = some (.type "int"):=by decide +kernel
theorem IT:bootBuiltins "bool" = some (.type "bool"):=by decide +kernel
theorem IU:bootBuiltins "dict" = some (.type "dict"):=by decide +kernel
theorem IV:bootBuiltins "isinstance" = some (.builtin "isinstance"):=by decide +kernel
theorem xw:aK Φ #[e] env=bnd (aB Φ e env) λd=>ret [d]:=by
 simp only[aK,cK]
theorem six{T:String}(h:["list","tuple","str","bool","int","dict"].contains T=true):T = "list" \/ T = "tuple" \/ T = "str" \/ T = "bool" \/ T = "int" \/ T = "dict":=by simpa using h
theorem IW{T:String}(h:["list","tuple","str","bool","int","dict"].contains T=true):(T:Str)∈bltNames/\bootBuiltins (T:Str)=some (.type T)/\(T:Str) ≠ "__name__" /\ ((T:Str)==("__debug__":Str))=false:=by
 rcases six h with rfl|rfl|rfl|rfl|rfl|rfl
 ·exact⟨by decide,pU,by decide,by decide⟩
 ·exact⟨by decide,xu,by decide,by decide⟩
 ·exact⟨by decide,Ed,by decide,by decide⟩
 ·exact⟨by decide,IT,by decide,by decide⟩
 ·exact⟨by decide,Ef,by decide,by decide⟩
 ·exact⟨by decide,IU,by decide,by decide⟩
theorem IX{T:String}(hs:j3 Φ es):bZ Φ (.blt (.isin T) es):=by
 intro Γ k X cl EX e c h;apply jC h;intro x p args pos h;simp only[and_eq_true,beq_iff_eq]at h;obtain⟨⟨h1,h2⟩,h3⟩:=h;subst h2;obtain⟨g1,g2,g3⟩:=c.gl h1;split at h3<;>first|cases h3|skip
 rename_i a y yp;simp only[and_eq_true,beq_iff_eq]at h3;obtain⟨⟨⟨k1,k2⟩,k3⟩,k4⟩:=h3;obtain⟨b1,b2,b3,b4⟩:=IW k3;obtain⟨y1,y2,y3⟩:=c.gl k1;subst k2;cases es with
 |nil=>rw[aR]at k4;cases k4
 |cons i dY=>
  rw[aR.eq_def]at k4;dsimp only at k4;simp only[and_eq_true]at k4;cases dY with
  |cons j dY=>have:=k4.2;rw[aR.eq_def]at this;cases this
  |nil=>
   have q:PE X (.Call (.Name (QD (.isin T)) p) [a,.Name (T:Str) yp] [] pos) (tV Φ (bd X cl) EX (.blt (.isin T) #[i])):=by refine(gB (Iw (cl:=cl) (EX:=EX) (T:=T)) g1 (c.blt _ (show ("isinstance":Str)∈bltNames by decide)) IV (uL (hs.2.1 Γ k X cl EX a c k4.1.2).1 (uL (Hf (v:=.ty T) y1 (c.blt _ b1) b2 rfl b3 b4) C5) (aY k4.1.1)) g3 g2 (aY k4.1.1)).imp λσ H Q aJ=>?_;obtain⟨ρ,env,h,hE,r,p⟩:=aJ;simp only[aB,xw,bg,cK]at p;exact⟨ρ,env,h,hE,r,au p λv h1 ρ1 x H1 g1 r1 q1 p1=>⟨ρ1,h1,v,x,rfl,r1,q1,p1⟩⟩
   exact⟨q,cu q λ_=>rfl⟩
theorem M0:bootBuiltins "set" = some (.type "set"):=by decide +kernel
theorem IY(ha:bZ Φ a):bZ Φ (.sset a):=by
 intro Γ k X cl EX e c h;apply jC h;intro x p1 q1 pos1 h;apply iy h;intro q2 h;apply jC h;intro y p2 q3 pos2 h;apply iy h;intro l h;simp only[and_eq_true,beq_iff_eq]at h;obtain⟨⟨⟨⟨⟨h1,h2⟩,h3⟩,h4⟩,h5⟩,h6⟩:=h;subst h1;subst h2;have q:PE X (.Call (.Name "sorted" p1) [.Call (.Name "set" p2) [l] [] pos2] [] pos1) (tV Φ (bd X cl) EX (.sset a)):=by have qe:=(ha Γ k X cl EX l c h6).1;intro pins s σ H Q I hh;have hd:X.A.handled=none:=I.ok.hd c.calm;refine((Ih hd (c.gl h3).1 (c.blt _ (by decide)) (c.gl h4).1 (c.blt _ (by decide)) iL M0 qe (aY (env:=X.env) (es:=[]) h5)).imp λσ H Q ⟨ρ,env,h,hE,r,p⟩=>?_) pins s σ H Q I hh;simp only[aB]at p;refine⟨ρ,env,h,hE,r,au p λv h1 ρ1 x H1 g1 r1 q1 p1=>?_⟩;obtain⟨zs,e,p1⟩:=aD p1;obtain⟨ns,e1,p1⟩:=bz p1;obtain⟨e2,p1⟩:=aH p1;obtain⟨b,ys,rfl,q2,q3⟩:=eG r1 q1 e;rw[gz e1]at q3;rw[ay.ints.mp q3]at q2;exact⟨b,ns,rfl,q2,aan e2,λl hl=>cF r1 hl (ay.ints.mpr rfl) p1⟩
 exact⟨q,cu q λ_=>rfl⟩
theorem IZ{d k x:IE}(hd:bZ Φ d)(hk:bZ Φ k)(hx:bZ Φ x):bZ Φ (.dget d k x):=by
 intro Γ n X cl EX e c h;apply ue h;intro o m ap q1 cp h;apply Uu h;intro a b h;simp only[and_eq_true,beq_iff_eq]at h;obtain⟨⟨⟨⟨⟨⟨⟨h1,h2⟩,h3⟩,h4⟩,h5⟩,h6⟩,h7⟩,h8⟩:=h;subst h1;have st:starEach [a,b] X.env=[(false,eval a X.env),(false,eval b X.env)]:=by rw[aY h3,aY h4];rfl
 have m2:M2 X o "get" ap a b cp:=⟨super_ok h2,by rw[st];rfl,by rw[h5];exact abg _,by rw[st];rfl⟩;have q:PE X (.Call (.Attribute o "get" ap) [a,b] [] cp) (tV Φ (bd X cl) EX (.dget d k x)):=by
  refine(Dj (by have:=c.units;omega) (hd Γ n X cl EX o c h6).1 (hk Γ n X cl EX a c h7).1 (hx Γ n X cl EX b c h8).1 m2).imp λσ H Q aJ=>?_;obtain⟨ρ,env,h,hE,r,p⟩:=aJ;simp only[aB]at p;refine⟨ρ,env,h,hE,r,au p λv h1 ρ1 y H1 g1 r1 q1 p1=>?_⟩;obtain⟨u0,e1,pA⟩:=aD p1;clear p1;cases v<;>first|(cases e1;done)|(rw[VR]at q1;exact q1.elim)|skip
  rename_i i;rw[VR]at q1;obtain⟨ad,rfl,q1⟩:=q1;have hdc:∃kvs,h1[i]?=some (.dct kvs):=by
   change (match h1[i]? with|some (.dct _)=>some ()|_=>none)=some _ at e1;split at e1
   ·rename_i kvs e2;exact⟨kvs,e2⟩
   ·cases e1
  obtain⟨kvs,e2⟩:=hdc;obtain⟨ks,k1,k2⟩:=r1.ob i _ ad e2 q1;refine⟨ad,rfl,.inl ⟨ks,.inl k1⟩,ρ1,env,h1,hE.up g1,r1,au pA λw h2 ρ2 y2 H2 g2 r2 q2 p2=>?_⟩;obtain⟨kk,e3,p2⟩:=bz p2;refine⟨ρ2,env,h2,(hE.up g1).up g2,r2,au p2 λz h3 ρ3 y3 H3 g3 r3 q3 p3=>?_⟩;obtain⟨rr,e4,p3⟩:=aD p3;have q4:ρ3[i]?=some ad:=pR (g2.trans g3).pre q1;have XE:∃kvs,h3[i]?=some (.dct kvs)/\rr=cg kvs kk:=by
   change (match h3[i]? with|some (.dct kvs)=>some (cg kvs kk)|_=>none)=some rr at e4;split at e4
   ·rename_i kvs e2;cases e4;exact⟨kvs,e2,rfl⟩
   ·cases e4
  obtain⟨Ux,e5,rfl⟩:=XE;obtain⟨XF,k3,k4⟩:=r3.ob i _ ad e5 q4;have ek:y2=kV kk:=by
   cases w<;>first|(cases e3;done)|skip
   ·cases e3;rw[VR]at q2;exact q2
   ·cases e3;rw[VR]at q2;exact q2
  refine⟨iH XF kk,by rw[ek];exact pG.k k3,?_⟩;cases ev:cg Ux kk with
  |none=>rw[ev]at p3;rw[(gy.val kk k4).1 ev];exact aj r3 p3 _ q3
  |some z'=>obtain⟨t,e6,q6⟩:=(gy.val kk k4).2 z' ev;rw[ev]at p3;rw[e6];exact aj r3 p3 _ q6
 exact⟨q,cu q λ_=>rfl⟩
theorem AI{K:Frag}{ρ:List Addr}{H:Hp}:∀{kvs:List (Key×Val)} {ks:List (Key×V)},gy K ρ H kvs ks->ay K ρ H ((kvs.map (·.1)).map zm) (ks.map λkv=>kV kv.1)
 |[],ks,q=>by rw[gy]at q;subst q;exact rfl
 | (k,v)::kvs,ks,q=>by
  rw[gy]at q;obtain⟨x,r,rfl,_,q⟩:=q;refine⟨kV k,_,rfl,?_,AI q⟩;cases k with
  |inl i=>exact VR.int
  |inr s=>exact VR.str
theorem ug{l0:Unit}:∀(σ:L2.St) (H:Hp) (Q:VK),tV Φ (bd X cl) EX (.lkeys d) σ H Q->tLK (tV Φ (bd X cl) EX d) σ H Q:=λσ H Q ⟨ρ,env,h,hE,r,p⟩=>by
 simp only[aB]at p;refine⟨ρ,env,h,hE,r,au p λv h1 ρ1 y H1 g1 r1 q1 p1=>?_⟩;obtain⟨Uy,e1,pA⟩:=aD p1;clear p1;cases v<;>first|(cases e1;done)|(rw[VR]at q1;exact q1.elim)|skip
 rename_i i;rw[VR]at q1;obtain⟨ad,rfl,q1⟩:=q1;have hdc:∃kvs,h1[i]?=some (.dct kvs)/\Uy=kvs.map (·.1):=by
  change (match h1[i]? with|some (.dct kvs)=>some (kvs.map (·.1))|_=>none)=some _ at e1;split at e1
  ·rename_i kvs e2;cases e1;exact⟨kvs,e2,rfl⟩
  ·cases e1
 obtain⟨kvs,e2,rfl⟩:=hdc;obtain⟨ks,k1,k2⟩:=r1.ob i _ ad e2 q1;exact⟨ad,ks,rfl,k1,λl hl=>cF r1 hl (AI k2) pA⟩
theorem Eg(hd:bZ Φ d):bZ Φ (.lkeys d):=by
 intro Γ n X cl EX e c h
 rcases Qw h with h|h
 ·apply jC h;intro x p q1 pos h
  apply iy h;intro q2 h;apply ue h;intro o m ap q3 cp h;apply jk h;intro h;simp only[and_eq_true,beq_iff_eq]at h;obtain⟨⟨⟨⟨⟨h1,h2⟩,h3⟩,h4⟩,h5⟩,h6⟩:=h;subst h1;subst h2;have q:PE X (.Call (.Name "list" p) [.Call (.Attribute o "keys" ap) [] [] cp] [] pos) (tV Φ (bd X cl) EX (.lkeys d)):=by have qe:=(hd Γ n X cl EX o c h6).1;intro pins s σ H Q I hh;have hdl:X.A.handled=none:=I.ok.hd c.calm;exact((DI hdl (c.gl h3).1 (c.blt _ (by decide)) pU qe (super_ok h4) (by rw[h5];exact abg _)).imp (ug (l0:=()))) pins s σ H Q I hh
  exact⟨q,cu q λ_=>rfl⟩
 ·apply jC h;intro x p q1 pos h
  apply iy h;intro q2 h;apply dh h;intro y qp h;simp only[and_eq_true,beq_iff_eq]at h;obtain⟨⟨h1,h3⟩,h6⟩:=h;subst h1;have q:PE X (.Call (.Name "list" p) [.Name y qp] [] pos) (tV Φ (bd X cl) EX (.lkeys d)):=by have qe:=(hd Γ n X cl EX _ c h6).1;intro pins s σ H Q I hh;have hdl:X.A.handled=none:=I.ok.hd c.calm;exact((Ca hdl (aY rfl) (c.gl h3).1 (c.blt _ (by decide)) pU qe).imp (ug (l0:=()))) pins s σ H Q I hh
  exact⟨q,cu q λ_=>rfl⟩
theorem Ja{d k x:IE}(hd:bZ Φ d)(hk:bZ Φ k)(hx:bZ Φ x):bZ Φ (.sdef d k x):=n5 λ_ _=>rfl
theorem vc{K:Frag}{ρ:List Addr}{H:Hp}:∀{kvs:List (Key×Val)} {ks:List (Key×V)},gy K ρ H kvs ks->ks.map (·.1)=kvs.map (·.1)
 |[],ks,q=>by rw[gy]at q;subst q;rfl
 | (k,v)::kvs,ks,q=>by
  rw[gy]at q;obtain⟨x,r,rfl,_,q⟩:=q;rw[aac,aac,vc q]
theorem vd:∀{ks:List Key} {ns:List Int},qE ks=some ns->ks=ns.map Sum.inl
 |[],ns,e=>by cases e;rfl
 | k::ks,ns,e=>by
  unfold qE at e;rw[cz]at e;obtain⟨i,e1,e⟩:=Z1.mp e;obtain⟨r,e2,e⟩:=Z1.mp e;cases e;cases k with
  |inl j=>cases e1;rw[vd e2];rfl
  |inr _=>cases e1
theorem n8{l0:Unit}:∀(σ:L2.St) (H:Hp) (Q:VK),tV Φ (bd X cl) EX (.skeys d) σ H Q->tSK (tV Φ (bd X cl) EX d) σ H Q:=λσ H Q ⟨ρ,env,h,hE,r,p⟩=>by
 simp only[aB]at p;refine⟨ρ,env,h,hE,r,au p λv h1 ρ1 y H1 g1 r1 q1 p1=>?_⟩;obtain⟨ZR,e1,pA⟩:=aD p1;clear p1;unfold jX at e1;obtain⟨Uy,e5,e6⟩:=Z1.mp e1;clear e1;obtain⟨ns,e3,e4⟩:=Z1.mp e6;clear e6;have e1:=e5;clear e5;cases v<;>first|(cases e1;done)|(rw[VR]at q1;exact q1.elim)|skip
 rename_i i;rw[VR]at q1;obtain⟨ad,rfl,q1⟩:=q1;have hdc:∃kvs,h1[i]?=some (.dct kvs)/\Uy=kvs.map (·.1):=by
  change (match h1[i]? with|some (.dct kvs)=>some (kvs.map (·.1))|_=>none)=some _ at e1;split at e1
  ·rename_i kvs e2;cases e1;exact⟨kvs,e2,rfl⟩
  ·cases e1
 obtain⟨kvs,e2,rfl⟩:=hdc;obtain⟨ks,k1,k2⟩:=r1.ob i _ ad e2 q1
 by_cases hl:ns.length<64
 ·rw[Z7 hl]at e4;cases e4;exact⟨ad,ks,ns,rfl,k1,(vc k2).trans (vd e3),hl,λl hl=>cF r1 hl (ay.ints.mpr rfl) pA⟩
 ·rw[Z8 hl]at e4;cases e4
theorem Eh(hd:bZ Φ d):bZ Φ (.skeys d):=by
 intro Γ n X cl EX e c h
 rcases Qw h with h|h
 rcases Qw h with h|h
 ·apply jC h;intro x p q1 pos h
  apply iy h;intro q2 h;apply ue h;intro o m ap q3 cp h;apply jk h;intro h;simp only[and_eq_true,beq_iff_eq]at h;obtain⟨⟨⟨⟨⟨h1,h2⟩,h3⟩,h4⟩,h5⟩,h6⟩:=h;subst h1;subst h2;have q:PE X (.Call (.Name "sorted" p) [.Call (.Attribute o "keys" ap) [] [] cp] [] pos) (tV Φ (bd X cl) EX (.skeys d)):=by have qe:=(hd Γ n X cl EX o c h6).1;intro pins s σ H Q I hh;have hdl:X.A.handled=none:=I.ok.hd c.calm;exact((DJ hdl (c.gl h3).1 (c.blt _ (by decide)) iL qe (super_ok h4) (by rw[h5];exact abg _)).imp (n8 (l0:=()))) pins s σ H Q I hh
  exact⟨q,cu q λ_=>rfl⟩
 ·apply jC h;intro x p q1 pos h
  apply iy h;intro q2 h;apply dh h;intro y qp h;simp only[and_eq_true,beq_iff_eq]at h;obtain⟨⟨h1,h3⟩,h6⟩:=h;subst h1;have q:PE X (.Call (.Name "sorted" p) [.Name y qp] [] pos) (tV Φ (bd X cl) EX (.skeys d)):=by have qe:=(hd Γ n X cl EX _ c h6).1;intro pins s σ H Q I hh;have hdl:X.A.handled=none:=I.ok.hd c.calm;exact((t7 hdl (aY rfl) (c.gl h3).1 (c.blt _ (by decide)) iL qe).imp (n8 (l0:=()))) pins s σ H Q I hh
  exact⟨q,cu q λ_=>rfl⟩
 ·apply jC h;intro x p q1 pos h
  apply iy h;intro q2 h;apply u5 h;intro y y2 qp h;simp only[and_eq_true,beq_iff_eq]at h;obtain⟨⟨h1,h3⟩,h6⟩:=h;subst h1;have q:PE X (.Call (.Name "sorted" p) [.Subscript y y2 qp] [] pos) (tV Φ (bd X cl) EX (.skeys d)):=by have qe:=(hd Γ n X cl EX _ c h6).1;intro pins s σ H Q I hh;have hdl:X.A.handled=none:=I.ok.hd c.calm;exact((t7 hdl (aY rfl) (c.gl h3).1 (c.blt _ (by decide)) iL qe).imp (n8 (l0:=()))) pins s σ H Q I hh
  exact⟨q,cu q λ_=>rfl⟩
theorem Ei(hd:bZ Φ d):bZ Φ (.svals d):=n5 λ_ _=>rfl
theorem M1(hs:j3 Φ es):bZ Φ (.blt b es):=by
 cases b with
 |isin T=>exact IX hs
 |_=>
  intro Γ k X cl EX e c h;apply jC h;intro x p args pos h;simp only[and_eq_true,beq_iff_eq]at h;obtain⟨⟨h1,h2⟩,h3⟩:=h;subst h2;obtain⟨g1,g2,g3⟩:=c.gl h1;cases args with
  |nil=>cases h3.1
  |cons l ls=>
   cases es with
   |nil=>have:=h3.2;rw[aR]at this;cases this
   |cons i dY=>
    have h5:=h3.2;rw[aR.eq_def]at h5;dsimp only at h5;simp only[and_eq_true]at h5;have hA:=hs.1 Γ k X cl EX _ c h3.2;have st:=aY (env:=X.env) (es:=ls) h5.1.1;have an:=fT (pos:=pos) (env:=X.env) h5.2;refine(λq=>⟨q,cu q λ_=>rfl⟩) ?_
    first
     |refine(gB (Ma (cl:=cl) (EX:=EX)) g1 (c.blt _ (by decide)) PySem.boot_len hA g3 g2 st an).imp λσ H Q ⟨ρ,env,h,hE,r,p⟩=>?_
     |refine(gB (Mb (cl:=cl) (EX:=EX) c.calm) g1 (c.blt _ (by decide)) MY hA g3 g2 st an).imp λσ H Q ⟨ρ,env,h,hE,r,p⟩=>?_
     |refine(gB (Mc (cl:=cl) (EX:=EX) c.calm) g1 (c.blt _ (by decide)) MZ hA g3 g2 st an).imp λσ H Q ⟨ρ,env,h,hE,r,p⟩=>?_
     |refine(gB (Ce (cl:=cl) (EX:=EX)) g1 (c.blt _ (by decide)) iL hA g3 g2 st an).imp λσ H Q ⟨ρ,env,h,hE,r,p⟩=>?_
     |refine(gB (Mh (cl:=cl) (EX:=EX) c.calm) g1 (c.blt _ (by decide)) MW hA g3 g2 st an).imp λσ H Q ⟨ρ,env,h,hE,r,p⟩=>?_
     |refine(gB (Mi (cl:=cl) (EX:=EX) c.calm) g1 (c.blt _ (by decide)) MX hA g3 g2 st an).imp λσ H Q ⟨ρ,env,h,hE,r,p⟩=>?_
     |refine(kF (Iu (cl:=cl) (EX:=EX)) g1 (c.blt _ (by decide)) pU hA g3 g2 st an).imp λσ H Q ⟨ρ,env,h,hE,r,p⟩=>?_
     |refine(kF (DT (cl:=cl) (EX:=EX)) g1 (c.blt _ (by decide)) xu hA g3 g2 st an).imp λσ H Q ⟨ρ,env,h,hE,r,p⟩=>?_
     |refine(kF (Mf (cl:=cl) (EX:=EX)) g1 (c.blt _ (by decide)) Ed hA g3 g2 st an).imp λσ H Q ⟨ρ,env,h,hE,r,p⟩=>?_
     |refine(kF (Mg (cl:=cl) (EX:=EX)) g1 (c.blt _ (by decide)) Ef hA g3 g2 st an).imp λσ H Q ⟨ρ,env,h,hE,r,p⟩=>?_
    simp only[aB]at p;exact⟨ρ,env,h,hE,r,bq p λvs h1 ρ1 H1 g1 r1 p1 xs q1=>⟨ρ1,h1,vs,r1,q1,p1⟩⟩
def VD:Me->String
 |.join=>"str" | .append=>"list" | .extend=>"list" | .remove=>"list" | .pop=>"list"
theorem Jb(r:HR B ρ h H)(q:VR B.K ρ H v x)(e:recv h m v=some ()):TX B.K (VD m) x H:=by
 cases m<;>cases v<;>simp only[recv]at e<;>first|cases e|skip
 ·rw[VR]at q;subst q;rfl
 all_goals
  split at e
  ·rename_i xs e1;obtain⟨a,ys,rfl,q0,q1,q2⟩:=jg r q e1;exact .inl ⟨rfl,ys,.inl (.inl q1)⟩
  ·cases e
theorem M3(ha:bZ Φ a)(hs:j3 Φ es):bZ Φ (.met m a es):=by
 intro Γ k X cl EX e c h;apply ue h;intro o x ap args cp h;simp only[and_eq_true,beq_iff_eq]at h;obtain⟨⟨⟨⟨⟨⟨h1,h2⟩,h3⟩,h4⟩,h5⟩,h6⟩,h7⟩:=h;subst h1;cases args with
 |nil=>cases h3
 |cons l ls=>
  have hA:=hs.1 Γ k X cl EX _ c h7;have h8:noStar l=true/\∃dY,aR Γ dY ls=true:=by
   cases es with
   |nil=>rw[aR]at h7;cases h7
   |cons i dY=>rw[aR.eq_def]at h7;dsimp only at h7;simp only[and_eq_true]at h7;exact⟨h7.1.1,dY,h7.2⟩
  obtain⟨n1,dY,n2⟩:=h8;have st:=aY (env:=X.env) (es:=ls) n1;have an:=fT (pos:=cp) (env:=X.env) n2;have few:((backTo cp (starEach (l::ls) X.env)).all (λx=>!x.1)&&(backToKw cp (keywordEach [] X.env)).all (λx=>x.1.isSome)
   && decide ((l::ls).length+([]:List Keyword).length+(if ([]:List Keyword).isEmpty then 0 else 1)<30))=true:=by
   rw[qN h7];have:(l::ls).length<29:=aan h4;simp only[Bool.true_and,and_eq_true];exact⟨rfl,decide_eq_true (by simp at this |-;omega)⟩
  have hl:(ap.endLine==cp.line)=true:=by rw[h5];exact abg _
  refine(λq=>⟨q,cu q λ_=>rfl⟩) ?_;have fin:∀(T:String) (r:V->List V->Hp->VK->Prop),(∀x xs H Q,OP (bd X cl) EX m x xs H Q->r x xs H Q)->T=VD m->∀σ H Q,tV Φ (bd X cl) EX (.met m a es) σ H Q->Vi X.K T r (tV Φ (bd X cl) EX a) (VB Φ (bd X cl) EX es) σ H Q:=by rintro T rr hr rfl σ H Q ⟨ρ,env,h,hE,r,p⟩;simp only[aB]at p;refine⟨ρ,env,h,hE,r,au p λv h1 ρ1 x H1 g1 r1 q1 p1=>?_⟩;obtain⟨_,e1,p2⟩:=aD p1;refine⟨Jb r1 q1 e1,ρ1,env,h1,hE.up g1,r1,bq p2 λvs h2 ρ2 H2 g2 r2 p3 xs q2=>hr _ _ _ _ ⟨ρ2,h2,v,vs,r2,VR.up g2 _ _ q1,q2,p3⟩⟩
  cases m with
  |join=>exact(we PySem.F.plainAttrs_str PySem.F.slot_str_join PySem.F.type_str_join (Iz (cl:=cl) (EX:=EX)) (ha Γ k X cl EX o c h6).1 hA (super_ok h2) few hl st an).imp (fin _ _ (λ_ _ _ _ z=>z) rfl)
  |append=>exact(we abA PySem.F.slot_list_append PySem.F.type_list_append (Cf (cl:=cl) (EX:=EX)) (ha Γ k X cl EX o c h6).1 hA (super_ok h2) few hl st an).imp (fin _ _ (λ_ _ _ _ z=>z) rfl)
  |extend=>exact(we abA PySem.F.slot_list_extend PySem.F.type_list_extend (Cg (cl:=cl) (EX:=EX)) (ha Γ k X cl EX o c h6).1 hA (super_ok h2) few hl st an).imp (fin _ _ (λ_ _ _ _ z=>z) rfl)
  |remove=>exact(we abA PySem.F.slot_list_remove PySem.F.type_list_remove (Ci (cl:=cl) (EX:=EX)) (ha Γ k X cl EX o c h6).1 hA (super_ok h2) few hl st an).imp (fin _ _ (λ_ _ _ _ z=>z) rfl)
  |pop=>exact(we abA PySem.F.slot_list_pop PySem.F.type_list_pop (Mj (cl:=cl) (EX:=EX)) (ha Γ k X cl EX o c h6).1 hA (super_ok h2) few hl st an).imp (fin _ _ (λ_ _ _ _ z=>z) rfl)
end
theorem _root_.L2.PI.or(h:PI X tg iter t)(h':PI X tg iter t'):PI X tg iter (λσ H R=>t σ H R\/t' σ H R):=λpins s σ H R I hw=>hw.elim (h pins s σ H R I) (h' pins s σ H R I)
structure Walks (B:Bd) (src:Src) (J:It) (ρ1:List Addr) (H1:Hp):Prop where
 stop:∀{ρ h H i xs},Gw ρ1 H1 ρ H->HR B ρ h H->src.items h=some xs->xs.length<=i->J.stop i H
 go:∀{ρ h H i xs v},Gw ρ1 H1 ρ H->HR B ρ h H->src.items h=some xs->xs[i]?=some v->J.go i H
 yH:∀{ρ h H i xs v y H'},Gw ρ1 H1 ρ H->HR B ρ h H->src.items h=some xs->xs[i]?=some v->J.yH i H y H'->Gr ρ H ρ H'/\HR B ρ h H'/\VR B.K ρ H' v y
section
variable {B:Bd} {ρ1:List Addr} {H1:Hp} {a:Addr}
theorem Ck(q:jP B.K H1 a xs)(e:ay B.K ρ1 H1 vs xs):Walks B (.fix vs) (Tr B.K a) ρ1 H1 where
 stop:=λg r hi hl=>by
  cases hi;exact⟨xs,g.SH q,by rw[<-e.length];exact hl⟩
 go:=λg r hi hv=>by
  cases hi;obtain⟨x,k1,_⟩:=e.get hv;exact⟨xs,x,g.SH q,k1⟩
 yH:=λg r hi hv y=>by
  cases hi;obtain⟨rfl,y⟩:=y;obtain⟨x,k1,k2⟩:=e.get hv;have:=y xs (g.SH q);rw[k1]at this;cases this;exact⟨Gr.refl,r,VR.kQ g _ _ k2⟩
theorem Ej(q:Kh B.K H1 a xs)(e:ay B.K ρ1 H1 vs xs):Walks B (.fix vs) (Sx B.K a) ρ1 H1 where
 stop:=λg r hi hl=>by
  cases hi;exact⟨xs,(g.L0 q).sq,by rw[<-e.length];exact hl⟩
 go:=λg r hi hv=>by
  cases hi;obtain⟨x,k1,_⟩:=e.get hv;exact⟨xs,x,(g.L0 q).sq,k1⟩
 yH:=λg r hi hv y=>by
  cases hi;obtain⟨rfl,y⟩:=y;obtain⟨x,k1,k2⟩:=e.get hv;have:=y xs (g.L0 q).sq;rw[k1]at this;cases this;exact⟨Gr.refl,r,VR.kQ g _ _ k2⟩
theorem kI{i:Nat}(q:ρ1[i]?=some a)(g:Gw ρ1 H1 ρ H)(r:HR B ρ h H)(hi:(Src.live i).items h=some xs):∃ys,gA B.K H a ys/\ay B.K ρ H xs ys:=by
 obtain⟨b,ys,e,k1,k2⟩:=eG r (VR.ref (pR g.pre q)) (show aF h (.ref i)=some xs from hi);cases e;exact⟨ys,k1,k2⟩
theorem zy{i:Nat}(q:ρ1[i]?=some a):Walks B (.live i) (Sx B.K a) ρ1 H1 where
 stop:=λg r hi hl=>by
  obtain⟨ys,k1,k2⟩:=kI q g r hi;exact⟨ys,k1,by rw[<-k2.length];exact hl⟩
 go:=λg r hi hv=>by
  obtain⟨ys,k1,k2⟩:=kI q g r hi;obtain⟨x,k3,_⟩:=k2.get hv;exact⟨ys,x,k1,k3⟩
 yH:=λg r hi hv y=>by
  obtain⟨ys,k1,k2⟩:=kI q g r hi;obtain⟨rfl,y⟩:=y;obtain⟨x,k3,k4⟩:=k2.get hv;have:=y ys k1;rw[k3]at this;cases this;exact⟨Gr.refl,r,k4⟩
theorem iz(lo:Int)(n:Nat):(ck lo n).length=n:=by unfold ck;simp
theorem oX{lo:Int}{n:Nat}:Walks B (.fix (ck lo n)) (Pu lo n) ρ1 H1 where
 stop:=λg r hi hl=>by
  cases hi;rw[iz]at hl;exact hl
 go:=λg r hi hv=>by
  cases hi;have:=(Z5.mp hv).1;rw[iz]at this;exact this
 yH:=λ{ρ h H i xs v y H'} g r hi hv y'=>by
  cases hi;obtain⟨rfl,rfl⟩:=y';have hl:=(Z5.mp hv).1;rw[iz]at hl;have e:(ck lo n)[i]?=some (.int (lo+i)):=by unfold ck;simp[hl]
  rw[e]at hv;cases hv;exact⟨Gr.refl,r,VR.int⟩
theorem gj:∀(i:Nat) (ds:List Val),(cI i ds).length=ds.length
 |_,[]=>rfl
 |i,d::r=>by simp[cI,gj (i+1) r]
theorem uh:∀(k:Nat) (ds:List Val) (i:Nat) (d:Val),ds[i]?=some d->(cI k ds)[i]?=some (.tup [.int ((k+i:Nat):Int),d])
 |_,[],_,_,h=>by simp at h
 |k,e::r,0,d,h=>by simp at h;subst h;simp[cI]
 | k,e::r,i+1,d,h=>by
  have:=uh (k+1) r i d (by simpa using h);simp only[cI,List.getElem?_cons_succ];rw[this];have e1:k+1+i=k+(i+1):=by omega
  rw[e1]
theorem n9{i:Nat}(e:(cI 0 ds)[i]?=some v):∃d,ds[i]?=some d/\v=.tup [.int (i:Int),d]:=by
 have hl:=(Z5.mp e).1;rw[gj]at hl;have e1:=uh 0 ds i ds[i] (aap hl);rw[e]at e1;cases e1;exact⟨ds[i],aap hl,by rw[Nat.zero_add]⟩
theorem xy{i:Nat}(r:HR B ρ h H)(k1:gA B.K H a ys)(k2:ay B.K ρ H xs ys)(hv:(cI 0 xs)[i]?=some v)(hy:(P9 B.K a).yH i H y H'):Gr ρ H ρ H'/\HR B ρ h H'/\VR B.K ρ H' v y:=by
 obtain⟨p,w,hn,rfl,rfl,hy⟩:=hy;obtain⟨d,e1,rfl⟩:=n9 hv;obtain⟨x,k3,k4⟩:=k2.get e1;have:=hy ys k1;rw[k3]at this;cases this;exact⟨Gr.side hn,r.side hn,VR.tup (jP.of aO) (ay.cons VR.int (ay.cons (VR.up (Gr.side hn) _ _ k4) ay.nil))⟩
theorem xA(q:Kh B.K H1 a xs)(e:ay B.K ρ1 H1 vs xs):Walks B (.fix (cI 0 vs)) (P9 B.K a) ρ1 H1 where
 stop:=λg r hi hl=>by
  cases hi;rw[gj]at hl;exact⟨xs,(g.L0 q).sq,by rw[<-e.length];exact hl⟩
 go:=λg r hi hv=>by
  cases hi;obtain⟨d,e1,_⟩:=n9 hv;obtain⟨x,k1,_⟩:=e.get e1;exact⟨xs,x,(g.L0 q).sq,k1⟩
 yH:=λg r hi hv y=>by
  cases hi;exact xy r (g.L0 q).sq (ay.kQ g _ _ e) hv y
theorem xB{i:Nat}(q:ρ1[i]?=some a):Walks B (.enum i) (P9 B.K a) ρ1 H1 where
 stop:=λg r hi hl=>by
  obtain⟨zs,e1,rfl⟩:=aaw.mp hi;obtain⟨ys,k1,k2⟩:=kI q g r e1;rw[gj]at hl;exact⟨ys,k1,by rw[<-k2.length];exact hl⟩
 go:=λg r hi hv=>by
  obtain⟨zs,e1,rfl⟩:=aaw.mp hi;obtain⟨ys,k1,k2⟩:=kI q g r e1;obtain⟨d,e2,_⟩:=n9 hv;obtain⟨x,k3,_⟩:=k2.get e2;exact⟨ys,x,k1,k3⟩
 yH:=λg r hi hv y=>by
  obtain⟨zs,e1,rfl⟩:=aaw.mp hi;obtain⟨ys,k1,k2⟩:=kI q g r e1;exact xy r k1 k2 hv y
end
section
variable {Φ:Fn} {Γ:pS} {k:Nat} {X:Cx} {cl:Nat->Addr} {EX:Nat->List V->Hp->Prop}
def OS(Φ:Fn)(ik:Ik)(it:mD)(env:Env):M Src:=bnd (aK Φ it env) λits=>bG (srcOf ik its)
def tI(Φ:Fn)(B:Bd)(EX:Nat->List V->Hp->Prop)(ik:Ik)(it:mD):TI:=λσ H R=>∃ρ env h,cJ B.K ρ env σ H/\HR B ρ h H /\
 Post B EX ρ H (λsrc h' ρ' H'=>(∃xs,src.items h'=some xs)/\∀J,Walks B src J ρ' H'->R J H') (OS Φ ik it env h)
theorem Ks(hs:j3 Φ it)(c:Ctx Φ Γ k X cl EX)(h:AD Γ ik it iter=true)(ht:ik=.enum\/ik=.zip->∃es kk pos,tg=.Tuple es kk pos):PI X tg iter (tI Φ (bd X cl) EX ik it)/\∀x,foldedSetIterable iter X.env x=pure x:=by
 cases it with
 |nil=>rw[AD]at h;cases h
 |cons e es=>
  cases ik with
  |seq=>
   replace h:=Eb h;obtain⟨rfl,h⟩:=h;simp only[and_eq_true]at h;have q:=(hs.2.1 Γ k X cl EX iter c h.2).1;refine⟨((Hq q).or (Lh q)).imp λσ H R ⟨ρ,env,h,hE,r,p⟩=>?_,λx=>?_⟩
   ·simp only[OS,xw,bg,cK]at p
    have key:∀(Q:VK),(∀v h1 ρ1 x H1,aB Φ e env h=.ok v h1->Gr ρ H ρ1 H1->HR (bd X cl) ρ1 h1 H1->VR X.K ρ1 H1 v x->Post (bd X cl) EX ρ1 H1 (λsrc h' ρ' H'=>(∃xs,src.items h'=some xs)/\∀J,Walks (bd X cl) src J ρ' H'->R J H') (bG (srcOf .seq [v]) h1)->Q x H1)->tV Φ (bd X cl) EX e σ H Q:=λQ kk=>
     ⟨ρ,env,h,hE,r,dJ p λv h1 ρ1 H1 e1 g1 r1 p1 x q1=>kk v h1 ρ1 x H1 e1 g1 r1 q1 p1⟩
    cases ev:aB Φ e env h with
    |ok v h1=>
     cases v with
     |tup vs=>refine .inr (key _ λv h1 ρ1 x H1 e1 g1 r1 q1 p1=>?_);rw[ev]at e1;cases e1;obtain⟨src,e2,w1,w2⟩:=dH r1 p1;cases e2;rw[VR]at q1;obtain⟨a,xs,rfl,k1,k2⟩:=q1;exact⟨a,rfl,⟨xs,k1⟩,w2 _ (Ck k1 k2)⟩
     |rl vs=>refine .inl (key _ λv h1 ρ1 x H1 e1 g1 r1 q1 p1=>?_);rw[ev]at e1;cases e1;obtain⟨src,e2,w1,w2⟩:=dH r1 p1;cases e2;rw[VR]at q1;obtain⟨a,xs,rfl,k1,k2⟩:=q1;exact⟨a,rfl,⟨xs,k1.sq⟩,w2 _ (Ej k1 k2)⟩
     |ref i=>refine .inl (key _ λv h1 ρ1 x H1 e1 g1 r1 q1 p1=>?_);rw[ev]at e1;cases e1;obtain⟨src,e2,⟨zs,w1⟩,w2⟩:=dH r1 p1;cases e2;have q0:=q1;rw[VR]at q1;obtain⟨a,rfl,k1⟩:=q1;obtain⟨b,ys,e3,k2,k3⟩:=eG r1 q0 (show aF h1 (.ref i)=some zs from w1);cases e3;exact⟨a,rfl,⟨ys,k2⟩,w2 _ (zy k1)⟩
     |_=>refine .inl (key _ λv h1 ρ1 x H1 e1 g1 r1 q1 p1=>?_);rw[ev]at e1;cases e1;obtain⟨src,e2,_⟩:=dH r1 p1;cases e2
    |exc _ _ _=>exact .inl (key _ λv h1 ρ1 x H1 e1=>by rw[ev]at e1;cases e1)
    |no=>exact .inl (key _ λv h1 ρ1 x H1 e1=>by rw[ev]at e1;cases e1)
   ·cases iter<;>first|rfl|(exact absurd h.1 Z0)
  |range=>
   apply jC h;intro x xp q1 pos h;apply zq h;intro a args h;simp only[and_eq_true,beq_iff_eq]at h;obtain⟨⟨⟨⟨⟨h1,h2⟩,h3⟩,h4⟩,h5⟩,h6⟩:=h;subst h1;obtain⟨g1,g2,g3⟩:=c.gl h2;have hm:=c.blt _ (show ("range":Str)∈bltNames by decide);refine⟨?_,λx=>rfl⟩;have hA:=hs.1 Γ k X cl EX (a::args) c (by rw[aR.eq_def];simp[h3,h4,h5]);cases args with
   |nil=>
    cases es with
    |cons i dY=>rw[aR.eq_def]at h5;cases h5
    |nil=>
     refine(BE g1 hm hA (aY h3)).imp λσ H R aJ=>?_;obtain⟨ρ,env,h,hE,r,p⟩:=aJ;refine⟨ρ,env,h,hE,r,dJ p λvs h1 ρ1 H1 e1 VE r1 p1 xs q1=>?_⟩;obtain⟨src,e2,w1,w2⟩:=dH r1 p1
     match vs,e2 with
     |[.int n],e2=>
      change (if inR n=true then some (Src.fix (ck 0 n.toNat)) else none)=some src at e2;split at e2
      ·rename_i hn;cases e2;simp only[inR,and_eq_true,decide_eq_true_eq]at hn;obtain⟨x,rfl,hx⟩:=ay.one q1;rw[VR]at hx;subst hx;exact⟨n,rfl,hn.1,hn.2,w2 _ oX⟩
      ·cases e2
     |[.int _,.int _],e2=>have:=iK (Γ:=Γ) (ls:=[a]) (by rw[aR.eq_def];simp[h3,h4,aR]) e1;simp at this
   |cons b args=>
    cases args with
    |cons _ _=>have:=aan h6;simp only[length_cons]at this;omega
    |nil=>
     have hb:noStar b=true:=by
      cases es with
      |nil=>rw[aR]at h5;cases h5
      |cons i dY=>rw[aR.eq_def]at h5;dsimp only at h5;simp only[and_eq_true]at h5;exact h5.1.1
     refine(BF g1 hm hA (by rw[aY h3,aY hb];rfl) (by rw[aY hb];rfl)).imp λσ H R aJ=>?_;obtain⟨ρ,env,h,hE,r,p⟩:=aJ;refine⟨ρ,env,h,hE,r,dJ p λvs h1 ρ1 H1 e1 VE r1 p1 xs q1=>?_⟩;obtain⟨src,e2,w1,w2⟩:=dH r1 p1
     match vs,e2 with
     |[.int _],e2=>have:=iK (Γ:=Γ) (ls:=[a,b]) (by rw[aR.eq_def];simp[h3,h4,h5]) e1;simp at this
     |[.int lo,.int hi],e2=>
      change (if (inR lo&&inR hi)=true then some (Src.fix (ck lo (hi-lo).toNat)) else none)=some src at e2;split at e2
      ·rename_i hn;cases e2;simp only[inR,and_eq_true,decide_eq_true_eq]at hn;obtain⟨x,y,rfl,hx,hy⟩:=ay.two q1;rw[VR]at hx;rw[VR]at hy;subst hx;subst hy;exact⟨lo,hi,rfl,⟨hn.1.1,hn.1.2,hn.2.1,hn.2.2⟩,w2 _ oX⟩
      ·cases e2
  |enum=>
   replace h:=Eb h;obtain⟨rfl,h⟩:=h;apply jC h;intro x xp q1 pos h;apply iy h;intro a h;simp only[and_eq_true,beq_iff_eq]at h;obtain⟨⟨⟨h1,h2⟩,h3⟩,h4⟩:=h;subst h1;obtain⟨g1,g2,g3⟩:=c.gl h2;have hm:=c.blt _ (show ("enumerate":Str)∈bltNames by decide);obtain⟨ZS,tk,tp,rfl⟩:=ht (.inl rfl);refine⟨?_,λx=>rfl⟩;have hA:=hs.1 Γ k X cl EX [a] c (by rw[aR.eq_def];simp[h3,h4,aR]);refine(Ib g1 hm hA (aY h3)).imp λσ H R aJ=>?_;obtain⟨ρ,env,h,hE,r,p⟩:=aJ;refine⟨ρ,env,h,hE,r,dJ p λvs h1 ρ1 H1 e1 VE r1 p1 xs q1=>?_⟩;obtain⟨src,e2,⟨zs,w1⟩,w2⟩:=dH r1 p1
   match vs,e2 with
   |[.rl ws],e2=>cases e2;obtain⟨x,rfl,hx⟩:=ay.one q1;rw[VR]at hx;obtain⟨b,ys,rfl,k1,k2⟩:=hx;exact⟨b,rfl,⟨ys,k1.sq⟩,w2 _ (xA k1 k2)⟩
   |[.ref i],e2=>cases e2;obtain⟨x,rfl,hx⟩:=ay.one q1;obtain⟨us,w3,_⟩:=aaw.mp w1;obtain⟨b,ys,rfl,k2,k3⟩:=eG r1 hx w3;rw[VR]at hx;obtain⟨b',e3,k1⟩:=hx;cases e3;exact⟨b,rfl,⟨ys,k2⟩,w2 _ (xB k1)⟩
  |zip=>cases h
end
section
variable {Φ:Fn} {Γ:pS} {k:Nat} {X:Cx} {cl:Nat->Addr} {EX:Nat->List V->Hp->Prop}
def qO:List Nat->OJ
 |[]=>Po
 |i::is=>J8 (oR i) (qO is)
def Cm(K:Frag):Ak->TG
 |.one i=>oR i
 |.tup is=>Pp K is.length (qO is)
def iA:List Nat->List V->L2.St->L2.St
 |i::is,v::vs,σ=>iA is vs (σ.set i (some v))
 |_,_,σ=>σ
theorem oh:∀{is:List Nat} {vs:List V} {σ:L2.St} {H:Hp} {Q:L2.St->Hp->Prop},vs.length=is.length->Q (iA is vs σ) H->qO is vs σ H Q
 |[],[],_,_,_,_,h=>⟨rfl,h⟩
 |i::is,v::vs,σ,H,Q,hl,h=>⟨v,vs,rfl,oh (by simpa using hl) h⟩
theorem um(hnd:X.N.Nodup):∀{is:List Nat} {es:List Expr},es.length=is.length->(∀p∈is.zip es,∃x pos,p.2=.Name x pos/\X.N[p.1]?=some x/\X.env.scope.names.lookup x=some .local)->OL X es (qO is)
 |[],[],_,_=>zY
 | i::is,e::es,hl,h=>by
  obtain⟨x,pos,rfl,h1,h2⟩:=h (i,e) (by simp);exact vZ (pO hnd h1 (.inl h2) (.inr h2)) (um hnd (by simpa using hl) λp hp=>h p (by simp[hp]))
theorem gE:∀{es:List Expr},(∀e∈es,∃x pos,e=.Name x pos)->(assignEach es env).length=es.length/\(assignEach es env).findIdx? (·.1)=none
 |[],_=>⟨rfl,rfl⟩
 | e::es,h=>by
  obtain⟨x,pos,rfl⟩:=h e Z9;obtain⟨h1,h2⟩:=gE (env:=env) (es:=es) λe he=>h e (aab _ he);have e1:assignEach (Expr.Name x pos::es) env=(false,assign (Expr.Name x pos) env)::assignEach es env:=rfl;rw[e1];refine⟨by simp[h1],?_⟩;rw[List.findIdx?_cons,h2];rfl
theorem Ek{i:Nat}(h:xm Γ (.one i) tg=true):∃x p,tg=.Name x p:=by
 cases tg<;>first|exact⟨_,_,rfl⟩|exact absurd h Z0
theorem xC{is:List Nat}(h:xm Γ (.tup is) tg=true):∃es k p,tg=.Tuple es k p:=by
 cases tg<;>first|exact⟨_,_,_,rfl⟩|exact absurd h Z0
theorem El(c:Ctx Φ Γ k X cl EX)(hnd:X.N.Nodup)(h:xm Γ pat tg=true):PG X tg (Cm X.K pat):=by
 cases pat with
 |one i=>obtain⟨x,xp,rfl⟩:=Ek h;simp only[xm,and_eq_true,beq_iff_eq]at h;obtain⟨h1,h2⟩:=h;exact pO hnd (by rw[c.N];exact h1) (.inl (by rw[c.sc];exact h2)) (.inr (by rw[c.sc];exact h2))
 |tup is=>
  obtain⟨es,kk,pos,rfl⟩:=xC h
  ·
   simp only[xm,and_eq_true,beq_iff_eq,all_eq_true]at h;obtain⟨h1,h2⟩:=h;have names:∀p∈is.zip es,∃x pos,p.2=.Name x pos/\X.N[p.1]?=some x/\X.env.scope.names.lookup x=some .local:=λp hp=>by
    have q:=h2 p hp;cases ep:p.2<;>rw[ep]at q<;>simp at q;rename_i x pos';exact⟨x,pos',rfl,by rw[c.N];exact q.1,by rw[c.sc];exact q.2⟩
   have all:∀e∈es,∃x pos,e=.Name x pos:=λe he=>by
    obtain⟨n,hn,rfl⟩:=abS he;have hm:(is[n]'(by omega),es[n])∈is.zip es:=ab8.mpr ⟨n,by rw[abQ];simp[hn]⟩;obtain⟨x,pos,q,_⟩:=names _ hm;exact⟨x,pos,q⟩
   obtain⟨l1,l2⟩:=gE (env:=X.env) all;exact CU c.calm (um hnd h1 names) (by rw[l1,h1]) l2
def xD(Γ:pS):Ak->Expr->Bool
 |.one i,.Name x _=>Γ.N[i]?==some x&&(Γ.sc.names.lookup x==some .local || Γ.sc.names.lookup x==some .cell)
 | .tup is,.Tuple es _ _=>es.length==is.length&&(is.zip es).all λp=>match p.2 with
  |.Name x _=>Γ.N[p.1]?==some x&&(Γ.sc.names.lookup x==some .local || Γ.sc.names.lookup x==some .cell)
  |_=>false
 |_,_=>false
theorem qP(hfn:∀x,X.fn x=true)(hnd:X.N.Nodup):∀{is:List Nat} {es:List Expr},es.length=is.length->(∀p∈is.zip es,∃x pos,p.2=.Name x pos/\X.N[p.1]?=some x/\Loc X.env.scope x)->OL X es (qO is)
 |[],[],_,_=>zY
 | i::is,e::es,hl,h=>by
  obtain⟨x,pos,rfl,h1,h2⟩:=h (i,e) (by simp);exact vZ (pO hnd h1 h2 (.inl (hfn x))) (qP hfn hnd (by simpa using hl) λp hp=>h p (by simp[hp]))
theorem qQ{i:Nat}(h:xD Γ (.one i) tg=true):∃x p,tg=.Name x p:=by
 cases tg<;>first|exact⟨_,_,rfl⟩|exact absurd h Z0
theorem mK{is:List Nat}(h:xD Γ (.tup is) tg=true):∃es k p,tg=.Tuple es k p:=by
 cases tg<;>first|exact⟨_,_,_,rfl⟩|exact absurd h Z0
theorem AJ(c:Ctx Φ Γ k X cl EX)(hfn:∀x,X.fn x=true)(hnd:X.N.Nodup)(h:xD Γ pat tg=true):PG X tg (Cm X.K pat):=by
 have loc:∀x,(Γ.sc.names.lookup x==some .local || Γ.sc.names.lookup x==some .cell)=true->Loc X.env.scope x:=λx e=>by
  unfold L2.Loc;rw[c.sc];simpa using e
 cases pat with
 |one i=>obtain⟨x,pos,rfl⟩:=qQ h;simp only[xD,and_eq_true,beq_iff_eq]at h;obtain⟨h1,h2⟩:=h;exact pO hnd (by rw[c.N];exact h1) (loc _ h2) (.inl (hfn _))
 |tup is=>
  obtain⟨es,kk,pos,rfl⟩:=mK h
  ·
   simp only[xD,and_eq_true,beq_iff_eq,all_eq_true]at h;obtain⟨h1,h2⟩:=h;have names:∀p∈is.zip es,∃x pos,p.2=.Name x pos/\X.N[p.1]?=some x/\Loc X.env.scope x:=λp hp=>by
    have q:=h2 p hp;cases ep:p.2<;>rw[ep]at q<;>first|cases q|skip
    rename_i x pos';simp only[and_eq_true,beq_iff_eq]at q;exact⟨x,pos',rfl,by rw[c.N];exact q.1,loc _ q.2⟩
   have all:∀e∈es,∃x pos,e=.Name x pos:=λe he=>by
    obtain⟨n,hn,rfl⟩:=abS he;have hm:(is[n]'(by omega),es[n])∈is.zip es:=ab8.mpr ⟨n,by rw[abQ];simp[hn]⟩;obtain⟨x,pos,q,_⟩:=names _ hm;exact⟨x,pos,q⟩
   obtain⟨l1,l2⟩:=gE (env:=X.env) all;exact CU c.calm (qP hfn hnd h1 names) (by rw[l1,h1]) l2
theorem cJ.set{K:Frag}{ρ:List Addr}{env:Env}{σ:L2.St}{H:Hp}{i:Nat}{v:Val}{x:V}(e:cJ K ρ env σ H)(hl:env.length = σ.length)(q:VR K ρ H v x):cJ K ρ (env.set i (some v)) (σ.set i (some x)) H:=λj w hj=>by
 by_cases hij:i=j
 ·subst hij
  have hi:i<env.length:=by have:=(Z5.mp hj).1;simpa using this
  rw[aad hi]at hj;cases hj;exact⟨x,by rw[aad (by rw[<-hl];exact hi)],q⟩
 ·rw[Z2 hij]at hj;rw[Z2 hij];exact e j w hj
theorem lM{K:Frag}{ρ:List Addr}{H:Hp}:∀{is:List Nat} {ds:List Val} {xs:List V} {env env':Env} {σ:L2.St},bindAll is ds env=some env'->ay K ρ H ds xs->cJ K ρ env σ H->env.length = σ.length->cJ K ρ env' (iA is xs σ) H/\env'.length=(iA is xs σ).length/\(iA is xs σ).length = σ.length/\xs.length=is.length
 | [],[],xs,env,env',σ,e,q,hE,hl=>by
  rw[ay]at q;subst q;simp only[bindAll]at e;cases e;exact⟨hE,hl,rfl,rfl⟩
 | i::is,d::ds,xs,env,env',σ,e,q,hE,hl=>by
  rw[ay]at q;obtain⟨x,r,rfl,q1,q2⟩:=q;simp only[bindAll]at e;obtain⟨a1,a2,a3,a4⟩:=lM e q2 (hE.set hl q1) (by simp[hl]);exact⟨a1,a2,by rw[show iA (i::is) (x::r) σ = iA is r (σ.set i (some x)) from rfl,a3];simp,by simp[a4]⟩
 |[],_::_,_,_,_,_,e,_,_,_=>by simp[bindAll]at e
 |_::_,[],_,_,_,_,e,_,_,_=>by simp[bindAll]at e
theorem AK{K:Frag}{ρ:List Addr}{H:Hp}{pat:Ak}{v:Val}{x:V}{env env':Env}{σ:L2.St}{Q:L2.St->Hp->Prop}(e:fR pat v env=some env')(q:VR K ρ H v x)(hE:cJ K ρ env σ H)(hl:env.length = σ.length)
  (kk:∀σ',cJ K ρ env' σ' H->env'.length = σ'.length -> σ'.length = σ.length->Q σ' H):Cm K pat x σ H Q:=by
 cases pat with
 |one i=>simp only[fR]at e;cases e;exact kk _ (hE.set hl q) (by simp[hl]) (by simp)
 |tup is=>
  cases v<;>simp only[fR]at e<;>first|cases e|skip
  rw[VR]at q;obtain⟨a,xs,rfl,q1,q2⟩:=q;obtain⟨a1,a2,a3,a4⟩:=lM e q2 hE hl;exact⟨a,xs,rfl,q1,a4,oh a4 (kk _ a1 a2 a3)⟩
theorem kJ{α β:Type}{W:β -> Hs->List Addr->Hp->Prop}{W':α -> Hs->List Addr->Hp->Prop}{m:M α}{f:α -> M β}(g:Gr ρ H ρ' H')(p:Post B EX ρ H W (bnd m f h))
  (kk:∀v h1 ρ2 H2,m h=.ok v h1->Post B EX ρ H W (f v h1)->Gr ρ' H' ρ2 H2->HR B ρ2 h1 H2->W' v h1 ρ2 H2):Post B EX ρ' H' W' (m h):=by
 unfold bnd at p;cases e:m h with
 |ok v h1=>rw[e]at p;exact λρ2 H2 g2 r2=>kk v h1 ρ2 H2 e p g2 r2
 |exc c vs h1=>rw[e]at p;exact λρ2 H2 xs g2 r2 q=>p ρ2 H2 xs (g.trans g2) r2 q
 |no=>rw[e]at p;exact p
theorem HR.adopt(r:HR B ρ h H)(hD:D ∉ ρ)(q:OR B (ρ ++ [D]) H D u):HR B (ρ ++ [D]) (h++[u]) H where
 len:=by simp[r.len]
 nd:=by rw[aaA];refine⟨r.nd,by simp,λa ha b hb=>?_⟩;rw[aai.mp hb];rintro rfl;exact hD ha
 ob i v a q1 q2:=by
  by_cases hi:i<h.length
  ·rw[aag hi]at q1;rw[aag (by rw[r.len];exact hi)]at q2;exact OR.kQ ⟨aaO _ _,λ_ _ e _=>e⟩ rfl (r.ob i v a q1 q2)
  ·rw[aau (by omega)]at q1
   rw[aau (by rw[r.len];omega)]at q2;have hi0:i-h.length=0:=by have:=(Z5.mp q1).1;simp at this;omega
   rw[hi0]at q1;rw[r.len,hi0]at q2;simp at q1 q2;subst q1;subst q2;exact q
theorem Gr.over(g:Gr ρ H ρ' H')(hD:H D=none):Gr ρ H ρ' (upd H' D o) where
 pre:=g.pre
 keep a u e n:=by rw[ao (aI e hD)];exact g.keep a u e n
 firm a u e n:=by rw[ao (aI e hD)];exact g.firm a u e n
 fresh:=g.fresh
theorem Gr.adopt(g:Gr ρ H ρ' H')(hD:H D=none):Gr ρ H (ρ'++[D]) H' where
 pre:=g.pre.trans (aaO _ _)
 keep:=g.keep
 firm:=g.firm
 fresh a z n:=by
  rcases aaF.mp z with z|z
  ·exact g.fresh a z n
  ·rw[aai.mp z];exact hD
theorem Jc{K:Frag}{ρ:List Addr}{env:Env}{σ:L2.St}{H:Hp}{js:List (Option Nat)}(e:cJ K ρ env σ H):cJ K ρ (jY js env) (gD js σ) H:=λi v q=>by
 unfold jY at q;rw[aas]at q;cases hj:js[i]? with
 |none=>rw[hj]at q;cases q
 |some o=>
  rw[hj]at q;simp only[map_some]at q;cases o with
  |none=>cases q
  |some j=>
   dsimp only at q;cases ej:env[j]? with
   |none=>rw[ej]at q;cases q
   |some w=>
    cases w with
    |none=>rw[ej]at q;cases q
    |some d=>rw[ej]at q;cases q;obtain⟨x,q1,q2⟩:=e j _ ej;refine⟨x,?_,q2⟩;unfold gD;rw[aas,hj];simp only[map_some];rw[q1]
theorem Em{K:Frag}{ρ:List Addr}{env:Env}{σ σ':L2.St}{H:Hp}{js:List (Option Nat)}{pat:Ak}(hp:(xq pat).all (λi=>js[i]?==some none)=true)(e:cJ K ρ (jY js env) σ H)(hs:∀i,i∉xq pat -> σ'[i]? = σ[i]?):cJ K ρ (jY js env) σ' H:=λi v q=>by
 have hi:i∉xq pat:=λz=>by
  have h1:=acG.mp hp i z;have h2:js[i]?=some none:=eq_of_beq h1;unfold jY at q;rw[aas,h2]at q;cases q
 obtain⟨x,q1,q2⟩:=e i v q;exact⟨x,(hs i hi).trans q1,q2⟩
theorem qR:∀{is:List Nat} {xs:List V} {σ:L2.St} {i:Nat},i∉is->(iA is xs σ)[i]? = σ[i]?
 |[],xs,σ,i,_=>by cases xs<;>rfl
 |j::is,[],σ,i,_=>rfl
 | j::is,x::xs,σ,i,h=>by
  rw[show iA (j::is) (x::xs) σ = iA is xs (σ.set j (some x)) from rfl,qR λz=>h (aab _ z),Z2 λz=>h (by rw[z];exact Z9)]
theorem En{K:Frag}{ρ:List Addr}{H:Hp}{pat:Ak}{v:Val}{x:V}{env env':Env}{σ:L2.St}{Q:L2.St->Hp->Prop}(e:fR pat v env=some env')(q:VR K ρ H v x)(hE:cJ K ρ env σ H)(hl:env.length = σ.length)
  (kk:∀σ',cJ K ρ env' σ' H -> σ'.length = σ.length->(∀i,i∉xq pat -> σ'[i]? = σ[i]?)->Q σ' H):Cm K pat x σ H Q:=by
 cases pat with
 |one i=>simp only[fR]at e;cases e;exact kk _ (hE.set hl q) (by simp) λj hj=>Z2 λz=>hj (by rw[z];exact aai.mpr rfl)
 |tup is=>
  cases v<;>simp only[fR]at e<;>first|cases e|skip
  rw[VR]at q;obtain⟨a,xs,rfl,q1,q2⟩:=q;obtain⟨a1,a2,a3,a4⟩:=lM e q2 hE hl;exact⟨a,xs,rfl,q1,a4,oh a4 (kk _ a1 a3 λj hj=>qR hj)⟩
theorem qS(hs:j3 Φ it)(hc:bZ Φ t)(he:bZ Φ elt)(c:Ctx Φ Γ k X cl EX)(h:bB Γ (.comp N' js pat ik it t elt) e=true) :
  ∃e' tg iter ifs scope pos wi g tt te,e=.ListComp e' [⟨tg,iter,ifs,0⟩] scope pos/\gi X.N X.env.scope scope N' js=true/\PI X tg iter wi/\(∀cls C s H fp,PG (bw X scope N' cls C s H fp) tg g)/\(∀cls C s H fp,GO (bw X scope N' cls C s H fp) ifs tt) /\
   (∀cls C s H fp,PE (bw X scope N' cls C s H fp) e' te)/\(∀x,foldedSetIterable iter X.env x=pure x)/\∀σ H Q,tV Φ (bd X cl) EX (.comp N' js pat ik it t elt) σ H Q->wG wi js g tt te σ H Q:=by
 apply Ax h;intro e' q1 scope pos h;apply iy h;intro q2 h;apply D4 h;intro tg iter ifs q3 h;apply ud h;intro h;simp only[and_eq_true]at h;obtain⟨⟨⟨⟨⟨⟨⟨h1,h2⟩,h3⟩,h4⟩,h5⟩,h6⟩,h7⟩,h8⟩:=h;have hnd:N'.Nodup:=aan h3;have hen:ik=.enum\/ik=.zip->∃es kk pos,tg=.Tuple es kk pos:=by
  intro hz;cases pat with
  |one i=>rcases hz with rfl|rfl<;>cases h6
  |tup is=>exact xC h4
 obtain⟨hi,hf⟩:=Ks hs c h2 hen
 let tt:TT:=if cX t=true then wF else tT Φ (bd X cl) EX t
 have TL:∀cls C s H fp,GO (bw X scope N' cls C s H fp) ifs tt:=λcls C s H fp=>by
  have c':=c.u7 scope N' cls C s H fp;cases ifs with
  |nil=>have:cX t=true:=h7;show GO _ [] (if cX t=true then wF else tT Φ (bd X cl) EX t);rw[Z7 this];exact HZ
  |cons a r=>
   cases r with
   |cons _ _=>cases h7
   |nil=>simp only[and_eq_true,not_eq_true']at h7;show GO _ [a] (if cX t=true then wF else tT Φ (bd X cl) EX t);rw[Z8 (by rw[h7.1];exact Z0)];exact Ad (hc _ _ _ _ _ _ c' h7.2).2
 refine⟨e',tg,iter,ifs,scope,pos,_,Cm X.K pat,tt,tV Φ (bd X cl) EX elt,rfl,by rw[c.N,c.sc];exact h1,hi,λcls C s H fp=>El (c.u7 scope N' cls C s H fp) hnd h4,TL,λcls C s H fp=>(he _ _ _ _ _ _ (c.u7 scope N' cls C s H fp) h8).1,hf,λσ H Q ⟨ρ,env,h,hE,r,p⟩=>?_⟩
 ·skip
  simp only[aB]at p
  let f:Val->M (Option Val):=λd=>bnd (bG (fR pat d (jY js env))) λenv'=>bnd (if cX t=true then ret true else bnd (aB Φ t env') λv=>ask λh=>cj h v) λt=>
    if t=true then bnd (aB Φ elt env') λe=>ret (some e) else ret none
  have p':Post (bd X cl) EX ρ H (WV X.K Q) (bnd (OS Φ ik it env) (λsrc=>bnd (ask λh=>src.items h) λxs=>aE (decide (xs.length<=100000)) (bnd (fS src f xs.length 0 []) λys=>new (.lst ys))) h):=by unfold OS;rw[bg];exact p
  refine⟨ρ,env,h,hE,r,bq p' λsrc h1 ρ1 H1 g1 r1 p1=>?_⟩;obtain⟨xs,e1,p2⟩:=aD p1;obtain⟨e2,p3⟩:=aH p2;have e2:=aan e2;refine⟨⟨xs,e1⟩,λJ wk D hD=>?_⟩;have ZT:(100000:Nat)<sizeLine:=by rw[aaT];decide
  refine⟨λi m σ' H'=>∃ρ' h' acc ys,Gr ρ1 H1 ρ' H'/\HR (bd X cl) ρ' h' H'/\D ∉ ρ'/\H' D=some (.lst ys)/\ay X.K ρ' H' acc ys/\cJ X.K ρ' (jY js env) σ' H' /\ σ'.length=js.length/\acc.length<=i/\i+m=xs.length /\
   Post (bd X cl) EX ρ1 H1 (WV X.K Q) (bnd (fS src f m i acc) (λys=>new (.lst ys)) h'),⟨xs.length,ρ1,h1,[],[],Gr.side hD,r1.side hD,r1.out hD,aO,ay.nil,(Jc (hE.up g1)).up (Gr.side hD),ig js σ,aaa _,by omega,p3⟩,?_⟩
  rintro i m σ' H' ⟨ρ',h',acc,ys,w1,w2,w3,w4,w5,w6,w7,w8,w9,ve⟩;have fin:∀p:Post (bd X cl) EX ρ1 H1 (WV X.K Q) (new (.lst acc) h'),Q (.ref D) H':=λp=>by
   refine p (ρ'++[D]) H' (w1.adopt hD) (w2.adopt w3 ⟨ys,w4,ay.kQ ⟨aaO _ _,λ_ _ e _=>e⟩ _ _ w5⟩) _ (VR.ref (by rw[<-w2.len];simp))
  cases m with
  |zero=>
   simp only[fS,bg]at ve;obtain⟨xs',k1,ve⟩:=aD ve;have QH:Post (bd X cl) EX ρ1 H1 (WV X.K Q) (bnd (aE (decide (xs'.length<=i)) (ret acc)) (λys=>new (.lst ys)) h'):=ve;unfold aE at QH
   by_cases hl:xs'.length<=i
   ·have:bnd (λh=>if decide (xs'.length<=i)=true then ret acc h else Out.no) (λys=>new (.lst ys)) h'=new (.lst acc) h':=by
     unfold bnd;dsimp only;rw[Z7 (decide_eq_true hl)];rfl
    rw[this] at QH;exact .inl ⟨wk.stop w1.w w2 k1 hl,fin QH⟩
   ·have:bnd (λh=>if decide (xs'.length<=i)=true then ret acc h else Out.no) (λys=>new (.lst ys)) h'=Out.no:=by
     unfold bnd;dsimp only;rw[Z8 (by rw[decide_eq_false hl];exact Z0)]
    rw[this] at QH;exact QH.elim
  |succ m=>
   simp only[fS,bg]at ve;obtain⟨xs',k1,ve⟩:=aD ve;cases hx:xs'[i]? with
   |none=>rw[hx]at ve;exact .inl ⟨wk.stop w1.w w2 k1 (abr.mp hx),fin ve⟩
   |some v=>
    rw[hx]at ve;dsimp only at ve;refine .inr ⟨wk.go w1.w w2 k1 hx,_,λAe Ia w=>⟨m,aaP _,w⟩,λy H2 hy=>?_⟩;obtain⟨z1,z2,z3⟩:=wk.yH w1.w w2 k1 hx hy;simp only[bg]at ve;simp only[f,bg]at ve;obtain⟨env',k2,ve⟩:=bz ve;refine En k2 z3 (w6.up z1) (by rw[w7];simp[jY]) λσ2 SK hl2 hout=>?_;have M4:H2 D=some (.lst ys):=z1.keep _ _ w4 w3;have G2:Gr ρ1 H1 ρ' H2:=w1.trans z1;have body:∀(b:Bool) (h3:Hs) (ρ3:List Addr) (H3:Hp),Gr ρ' H2 ρ3 H3->HR (bd X cl) ρ3 h3 H3->Post (bd X cl) EX ρ1 H1 (WV X.K Q) (bnd (if b=true then bnd (aB Φ elt env') λe=>ret (some e) else ret none) (λo=>bnd (fS src f m (i+1) (match o with|some e=>acc++[e]|none=>acc)) λys=>new (.lst ys)) h3) ->
      (if b=true then tV Φ (bd X cl) EX elt σ2 H3 (λy H4=>∃ys,H4 D=some (.lst ys)/\ys.length<sizeLine/\(λσ' H'=>∃ρ' h' acc ys,Gr ρ1 H1 ρ' H'/\HR (bd X cl) ρ' h' H'/\D ∉ ρ'/\H' D=some (.lst ys)/\ay X.K ρ' H' acc ys/\cJ X.K ρ' (jY js env) σ' H' /\ σ'.length=js.length/\acc.length<=i+1/\i+1+m=xs.length /\
       Post (bd X cl) EX ρ1 H1 (WV X.K Q) (bnd (fS src f m (i+1) acc) (λys=>new (.lst ys)) h')) σ2 (upd H4 D (.lst (ys++[y]))))
      else (λσ' H'=>∃ρ' h' acc ys,Gr ρ1 H1 ρ' H'/\HR (bd X cl) ρ' h' H'/\D ∉ ρ'/\H' D=some (.lst ys)/\ay X.K ρ' H' acc ys/\cJ X.K ρ' (jY js env) σ' H' /\ σ'.length=js.length/\acc.length<=i+1/\i+1+m=xs.length /\
       Post (bd X cl) EX ρ1 H1 (WV X.K Q) (bnd (fS src f m (i+1) acc) (λys=>new (.lst ys)) h')) σ2 H3):=by
     intro b h3 ρ3 H3 g3 r3 p5;have Uz:D ∉ ρ3:=λz=>by have:=g3.fresh D z w3;rw[M4]at this;cases this
     have OT:H3 D=some (.lst ys):=g3.keep _ _ M4 w3;have E3:cJ X.K ρ3 (jY js env) σ2 H3:=(Em h5 (w6.up z1) hout).up g3;cases b with
     |true=>
      rw[Z7 rfl]at p5 |-;simp only[bg,cK]at p5;refine⟨ρ3,env',h3,SK.up g3,r3,kJ (G2.trans g3) p5 λv4 h4 ρ4 H4 _ p6 g4 r4 y4 q4=>?_⟩;have VF:D ∉ ρ4:=λz=>by have:=g4.fresh D z Uz;rw[OT]at this;cases this
      have QI:H4 D=some (.lst ys):=g4.keep _ _ OT Uz;have gw:Gw ρ4 H4 ρ4 (upd H4 D (.lst (ys++[y4]))):=Gw.other QI rfl;have la:=w5.length;refine⟨ys,QI,by omega,ρ4,h4,acc++[v4],ys++[y4],((G2.trans g3).trans g4).over hD,r4.other VF QI rfl,VF,aO,ay.append (ay.kQ gw _ _ (ay.up ((z1.trans g3).trans g4) _ _ w5)) (ay.kQ gw _ _ (ay.cons q4 ay.nil)),(E3.up g4).kQ gw,by rw[hl2,w7],by simp;omega,by omega,p6⟩
     |false=>rw[Z8 Z0]at p5 |-;exact⟨ρ3,h3,acc,ys,G2.trans g3,r3,Uz,OT,ay.up (z1.trans g3) _ _ w5,E3,by rw[hl2,w7],by omega,by omega,p5⟩
    show (if cX t=true then wF else tT Φ (bd X cl) EX t) σ2 H2 _
    by_cases hn:cX t=true
    ·rw[Z7 hn];rw[Z7 hn,cK]at ve;exact body true h' ρ' H2 Gr.refl z2 ve
    ·rw[Z8 hn];rw[Z8 hn]at ve;exact⟨ρ',env',h',SK,z2,kJ G2 ve λb h3 ρ3 H3 _ p5 g3 r3=>body b h3 ρ3 H3 g3 r3 p5⟩
theorem Jd(hs:j3 Φ it)(hc:bZ Φ t)(he:bZ Φ elt):bZ Φ (.comp N' js pat ik it t elt):=by
 intro Γ k X cl EX e c h;obtain⟨e',tg,iter,ifs,scope,pos,wi,g,tt,te,rfl,h1,h2,h3,h4,h5,h6,h7⟩:=qS hs hc he c h;have q:=(Af (pos:=pos) h1 c.calm h2 h3 h4 h5 h6).imp h7;exact⟨q,cu q λ_=>rfl⟩
theorem Je{k v:IE}(hk:bZ Φ k)(hv:bZ Φ v):bZ Φ (.dct1 k v):=by
 intro Γ n X cl EX e c h;apply Ay h;intro q1 q2 pos h;apply iy h;intro q3 h;apply AA h;intro a h;apply iy h;intro b h;simp only[and_eq_true]at h;have q:PE X (.Dict [some a] [b] pos) (tV Φ (bd X cl) EX (.dct1 k v)):=by
  refine(HX (Di (hk Γ n X cl EX a c h.1).1 (hv Γ n X cl EX b c h.2).1 HW) rfl rfl (by simp) (by simp)).imp λσ H Q aJ=>?_;obtain⟨ρ,env,h,hE,r,p⟩:=aJ;intro D hD;have g0:Gr ρ H ρ (upd H D (.dK [])):=Gr.side hD;simp only[aB]at p;refine⟨ρ,env,h,hE.up g0,r.side hD,kJ g0 p λx h1 ρ1 H1 _ p1 g1 r1 y1 q1=>?_⟩;obtain⟨kk,e1,p1⟩:=bz p1;refine⟨ρ1,env,h1,(hE.up g0).up g1,r1,kJ (g0.trans g1) p1 λy h2 ρ2 H2 _ p2 g2 r2 y2 q2=>?_⟩;have VG:D ∉ ρ:=r.out hD;have M4:D ∉ ρ2:=λz=>by have:=(g1.trans g2).fresh D z VG;rw[aO]at this;cases this
  have e2:H2 D=some (.dK []):=(g1.trans g2).keep D _ aO VG;have ek:y1=kV kk:=by
   cases x<;>first|(cases e1;done)|skip
   ·cases e1;rw[VR]at q1;exact q1
   ·cases e1;rw[VR]at q1;exact q1
  refine⟨e2,[(kk,y2)],by rw[ek];rfl,by simp,?_⟩;have gw:Gw ρ2 H2 (ρ2++[D]) (upd H2 D (.dK (nR [] [(kk,y2)]))):=⟨aaO _ _,(Gw.other (ρ:=ρ2) e2 rfl).firm⟩;exact p2 (ρ2++[D]) _ ((((g0.trans g1).trans g2).over hD).adopt hD) ((r2.other M4 e2 rfl).adopt M4 ⟨[(kk,y2)],aO,y2,[],rfl,VR.kQ gw _ _ q2,rfl⟩) _ (Ao r2)
 exact⟨q,cu q λ_=>rfl⟩
theorem Eo{ns ms:List Int}{kvs:List (Key×V)}(e:kvs.map (·.1)=ns.map Sum.inl):((kvs.map λkv=>kV kv.1).filter λk=>!GL k (ms.map V.int))=(ns.filter λn=>!(ms.any λm=>m==n)).map V.int:=by
 have hk:(kvs.map λkv=>kV kv.1)=ns.map V.int:=by have:=aaS (List.map kV) e;rw[aaE,aaE]at this;exact this
 rw[hk,List.filter_map]
 congr 1
 refine List.filter_congr λn _=>?_;show (!GL (V.int n) (ms.map V.int))=_;unfold GL;rw[any_map];rfl
def XG(Γ:pS)(N':List Str)(js:List (Option Nat))(p q i j:Nat)(e:Expr):Prop:=∃y1 p1 y2 yp dn dp y3 p3 en ep cp ia scope pos,e=.ListComp (.Name y1 p1) [⟨.Name y2 yp,.Name dn dp,[.Compare (.Name y3 p3) [.NotIn] [.Name en ep] cp],ia⟩] scope pos/\(ia==0&&gi Γ.N Γ.sc scope N' js&&decide (N'.Nodup)&&xm (Γ.u7 scope N') (.one p) (.Name y2 yp)&&js[p]?==some none&&js[q]?==some (some j)&&p != q && !behindInMarks .NotIn (.Name en ep) &&
   (N'[p]?==some y1&&pJ (Γ.u7 scope N').sc y1)&&(N'[p]?==some y3&&pJ (Γ.u7 scope N').sc y3)&&(N'[q]?==some en&&pJ (Γ.u7 scope N').sc en)&&(Γ.N[i]?==some dn&&pJ Γ.sc dn))=true
theorem Cn{p q i j:Nat}(h:Kq Γ N' js p q i j e=true):XG Γ N' js p q i j e:=by
 apply Ax h;intro e1 q1 scope pos h;apply dh h;intro y1 p1 h;apply iy h;intro g h;apply D4 h;intro tg iter ifs ia h;apply dh h;intro y2 yp h;apply dh h;intro dn dp h;apply iy h;intro c0 h;apply DU h;intro l ops rs cp h;apply dh h;intro y3 p3 h;apply iy h;intro op h;apply ud h;intro h;apply iy h;intro r h;apply dh h;intro en ep h;exact⟨_,_,_,_,_,_,_,_,_,_,_,_,_,_,rfl,h⟩
theorem qT{p q:Nat}(c:Ctx Φ Γ k X cl EX)(h:bB Γ (.dflt N' js p q d w) e=true) :
  ∃e' tg iter ifs scope pos wi g tt te,e=.ListComp e' [⟨tg,iter,ifs,0⟩] scope pos/\gi X.N X.env.scope scope N' js=true/\PI X tg iter wi/\(∀cls C s H fp,PG (bw X scope N' cls C s H fp) tg g)/\(∀cls C s H fp,GO (bw X scope N' cls C s H fp) ifs tt) /\
   (∀cls C s H fp,PE (bw X scope N' cls C s H fp) e' te)/\(∀x,foldedSetIterable iter X.env x=pure x)/\∀σ H Q,tV Φ (bd X cl) EX (.dflt N' js p q d w) σ H Q->DK (wG wi js g tt te) σ H Q:=by
 apply D9 h;intro i h;apply D9 h;intro j h;obtain⟨y1,p1,y2,yp,dn,dp,y3,p3,en,ep,cp,ia,scope,pos,e0,hh⟩:=Cn h;clear h;subst e0;have h:=hh;simp only[and_eq_true,beq_iff_eq,bne_iff_ne,ne_eq,not_eq_true']at h;obtain⟨⟨⟨⟨⟨⟨⟨⟨⟨⟨⟨h0,h1⟩,h2⟩,h3⟩,h4⟩,h5⟩,h6⟩,h7⟩,h8⟩,h9⟩,M5⟩,h11⟩:=h;subst h0;have hnd:N'.Nodup:=aan h2;have nm:∀{x:Str} {i:Nat} {pos:Pos} (_:N'[i]?=some x/\pJ (Γ.u7 scope N').sc x=true) cls C s H fp,PE (bw X scope N' cls C s H fp) (.Name x pos) (sI i):=λhx cls C s H fp=>by
  obtain⟨v1,v2,v3⟩:=(c.u7 scope N' cls C s H fp).vis hx.2;exact yG hx.1 v1 v2 v3
 obtain⟨v1,v2,v3⟩:=c.vis h11.2;have hpl:p<js.length:=(Z5.mp h4).1;refine⟨_,_,_,_,_,_,DM (sI i),oR p,C1 (ON (TV X.K true) (sI p) (sI q)),sI p,rfl,by rw[c.N,c.sc];exact h1,Im (yG (by rw[c.N];exact h11.1) v1 v2 v3),λcls C s H fp=>El (c.u7 scope N' cls C s H fp) hnd h3,
  λcls C s H fp=>Ad (z4 (X:=bw X scope N' cls C s H fp) uQ (nm h9 cls C s H fp) (nm M5 cls C s H fp) h7),nm h8,λx=>rfl,λσ H Q ⟨ρ,env,h,hE,r,pp⟩=>?_⟩
 simp only[aB]at pp;obtain⟨o,e1,pp⟩:=bz pp;obtain⟨ks,e2,pp⟩:=aD pp;obtain⟨u,e3,pp⟩:=bz pp;obtain⟨zs,e4,pp⟩:=aD pp;split at e1<;>cases e1;rename_i e1;split at e3<;>cases e3;rename_i e3;obtain⟨x,s1,q1⟩:=hE i o e1;obtain⟨y,s2,q2⟩:=hE j u e3;cases o<;>first|(cases e2;done)|(rw[VR]at q1;exact q1.elim)|skip
 rename_i n;rw[VR]at q1;obtain⟨ad,rfl,q1⟩:=q1;have hdc:∃kvs,h[n]?=some (.dct kvs)/\ks=kvs.map (·.1):=by
  change (match h[n]? with|some (.dct kvs)=>some (kvs.map (·.1))|_=>none)=some _ at e2;split at e2
  ·rename_i kvs e5;cases e2;exact⟨kvs,e5,rfl⟩
  ·cases e2
 obtain⟨kvs,e5,rfl⟩:=hdc;obtain⟨VH,k1,k2⟩:=r.ob n _ ad e5 q1;unfold qF at e4;obtain⟨ns,e6,e4⟩:=Z1.mp e4;obtain⟨xs,e7,e4⟩:=Z1.mp e4;obtain⟨ms,e8,e4⟩:=Z1.mp e4;obtain⟨b,ys,rfl,sq,vr⟩:=eG r q2 e7
 by_cases hl:ns.length<=100000
 ·rw[Z7 hl]at e4
  cases e4;rw[gz e8]at vr;have ey:=ay.ints.mp vr;subst ey;have ek:=(vc k2).trans (vd e6);have el:VH.length=ns.length:=by have:=aaS length ek;simpa using this
  refine LW h6 hpl ⟨ad,VH,b,_,s1,k1,by rw[el,aaT];omega,?_,sq,?_,λD hD=>?_⟩
  ·unfold gD;rw[aas,h5];show some (match σ[j]? with|some (some v)=>some v|_=>none)=_;rw[s2]
  ·rw[all_map];exact acG.mpr λ_ _=>rfl
  ·rw[Eo ek];exact cF r hD (ay.ints.mpr rfl) pp
 ·rw[Z8 hl]at e4;cases e4
theorem Jf{p q:Nat}:bZ Φ (.dflt N' js p q d w):=by
 intro Γ k X cl EX e c h;obtain⟨e2,UA,iter,ifs,zA,pos2,wi,g,tt,te,rfl,q1,q2,q3,q4,q5,q6,q7⟩:=qT c h;have q:PE X (.ListComp e2 [⟨UA,iter,ifs,0⟩] zA pos2) (tV Φ (bd X cl) EX (.dflt N' js p q d w)):=(Ij (Af q1 c.calm q2 q3 q4 q5 q6)).imp q7;exact⟨q,cu q λ_=>rfl⟩
theorem M6(ha:bZ Φ a):bZ Φ (.isc a x bs):=n5 λ_ _=>rfl
theorem oj:(∀ir,bZ Φ ir)/\∀dY,j3 Φ dY:=by
 have one:∀ir,bZ Φ ir:=by
  intro ir;exact IE.rec (motive_1:=λir=>bZ Φ ir) (motive_2:=λdY=>j3 Φ dY) (λ_=>ME) (λ_=>MF) (λ_ _=>MG) QE (λ_ _ _ a b=>MH a b) (λ_ a=>MI a) (λ_ _ _ a b=>MJ a b) (λ_ _ _ _ _ a b c=>MK a b c)
   (λ_ _ a b=>ML a b) (λ_ _ a b=>QF a b) (λ_ a=>MM a) (λ_ _ _ a b c=>MN a b c) (λ_ a=>MO a) (λ_ a=>MP a) (λ_ _ a b=>MQ a b) (λ_ _ _ a b c=>MR a b c) (λ_ _ a=>IQ a) (λ_ _ a=>M1 a)
   (λ_ _ _ a b=>M3 a b) (λ_ _ _ _ _ _ _ a b c=>Jd a b c) IL (λ_ a=>IY a) (λ_ _ _ a b c=>IZ a b c) (λ_ _ a b=>Je a b) (λ_ a=>Eg a) (λ_ _ _ a b c=>Ja a b c) (λ_ a=>Ei a) (λ_ a=>Eh a) (λ_ _ _ a=>MU a) (λ_ _ _ _ a b=>MV a b) (λ_ _ a b=>MT a b) (λ_ _ _ _ _ _ _ _=>Jf) (λ_ _ _ a=>M6 a) Ec (λ_ _ a b=>AF a b) ir
 refine⟨one,λdY=>?_⟩
 induction dY using mD.rec (motive_1:=λ_=>True) with
 |nil=>exact Ec
 |cons e es _ ih=>exact AF (one e) ih
 |_=>trivial
end
def om:Expr->Bool
 |.ListComp ..=>false|.SetComp ..=>false|.DictComp ..=>false
 |_=>true
def QJ:Expr->Bool
 |.Tuple ..=>false
 |_=>true
def UB:Expr->Bool
 |.SetComp ..=>false|.DictComp ..=>false
 |_=>true
mutual
noncomputable def QK(Γ:pS):IS->Stmt->Bool
 |.expr e,s=>D5 (λx _=>om x&&bB Γ e x) s
 |.asg p e,s=>ID (λq1 x _=>k1 (λtg=>xD Γ p tg&&bB Γ e x&&(match p with|.one _=>UB x|.tup _=>om x&&QJ x)) q1) s
 |.aug i o e,s=>Qx (λq1 op v _=>iJ (λx _=>Γ.N[i]?==some x&&(Γ.sc.names.lookup x==some .local || Γ.sc.names.lookup x==some .cell)&&MB o op&&(match o with|.pow=>false|_=>true)&&bB Γ e v) q1) s
 |.cR o i v,s=>ID (λq1 x _=>k1 (λq2=>DV (λa b _=>pT b&&om x&&bB Γ o a&&bB Γ i b&&bB Γ v x) q2) q1) s
 |.iff c a b,s=>VA (λt x y _=>bB Γ c t&&aU Γ a x&&aU Γ b y) s
 |.for p k it body,s=>Qz (λtg iter x q1 _=>sU q1 (xD Γ p tg&&AD Γ k it iter&&(match k,p with|.enum,.one _=>false|.zip,.one _=>false|_,_=>true)&&aU Γ body x)) s
 |.whl _ c body,s=>D6 (λt x q1 _=>sU q1 (bB Γ c t&&aU Γ body x)) s
 |.ret e,s=>Mx (λq1 _=>D3 (λx=>bB Γ e x) q1) s
 |.Iq,s=>Mx (λq1 _=>DZ q1 (true)) s
 |.brk,s=>QA (λ_=>true) s
 |.cnt,s=>QB (λ_=>true) s
 |.pass,s=>Ko (λ_=>true) s||D5 (λq1 _=>zp (λq2 _ _=>Qv (λ_=>true) q2) q1) s
 |.never,_=>true
 |.setF n a x v,s=>ID (λq1 e _=>k1 (λq2=>Aw (λo y _=>x==y&&om e&&n == Γ.tb.nc && Γ.tb.IG.contains x&&bB Γ a o&&bB Γ v e) q2) q1) s
noncomputable def aU(Γ:pS):dg->List Stmt->Bool
 |.nil,ls=>ls.isEmpty
 | .cons s r,ls=>match ls with
  |l::ls=>QK Γ s l&&aU Γ r ls
  |[]=>false
end
structure M7 (Φ:Fn) (Γ:pS) (k:Nat) (X:Cx) (cl:Nat->Addr) (EX:Nat->List V->Hp->Prop):Prop extends Ctx Φ Γ k X cl EX where
 fn:∀x,X.fn x=true
 nd:X.N.Nodup
 kind:X.env.scope.kind=.function
 xe:PassesOwn (model X.prog X.w) X.A X.env X.xe
def WF(K:Frag)(D:Ends):Fl->Hs->List Addr->Hp->Prop
 |.nx env',_,ρ',H'=>∀σ',cJ K ρ' env' σ' H'->env'.length = σ'.length->D.nx σ' H'
 |.rt v,_,ρ',H'=>∀x,VR K ρ' H' v x->D.rt x H'
 |.bk env',_,ρ',H'=>∀σ',cJ K ρ' env' σ' H'->env'.length = σ'.length->D.bk σ' H'
 |.ct env',_,ρ',H'=>∀σ',cJ K ρ' env' σ' H'->env'.length = σ'.length->D.ct σ' H'
def tS(Φ:Fn)(B:Bd)(EX:Nat->List V->Hp->Prop)(ir:IS):TS:=λD σ H=>∃ρ env h,cJ B.K ρ env σ H/\env.length = σ.length/\HR B ρ h H/\Post B EX ρ H (WF B.K D) (dU Φ ir env h)
def XH(Φ:Fn)(B:Bd)(EX:Nat->List V->Hp->Prop)(ir:dg):TS:=λD σ H=>∃ρ env h,cJ B.K ρ env σ H/\env.length = σ.length/\HR B ρ h H/\Post B EX ρ H (WF B.K D) (bS Φ ir env h)
theorem _root_.L2.PS.imp(h:PS X e t)(i:∀D σ H,t' D σ H->t D σ H):PS X e t':=λpins s σ H D I hw=>h pins s σ H D I (i D σ H hw)
theorem _root_.L2.yx.imp(h:yx X e t)(i:∀D σ H,t' D σ H->t D σ H):yx X e t':=λpins s σ H D I hw=>h pins s σ H D I (i D σ H hw)
section
variable {Φ:Fn} {Γ:pS} {k:Nat} {X:Cx} {cl:Nat->Addr} {EX:Nat->List V->Hp->Prop}
def yz(Φ:Fn)(ir:IS):Prop:=∀(Γ:pS) (k:Nat) (X:Cx) (cl:Nat->Addr) (EX:Nat->List V->Hp->Prop) (st:Stmt),M7 Φ Γ k X cl EX->QK Γ ir st=true->PS X st (tS Φ (bd X cl) EX ir)
def vf(Φ:Fn)(dY:dg):Prop:=∀(Γ:pS) (k:Nat) (X:Cx) (cl:Nat->Addr) (EX:Nat->List V->Hp->Prop) (st:List Stmt),M7 Φ Γ k X cl EX->aU Γ dY st=true->yx X st (XH Φ (bd X cl) EX dY)
theorem j4{n:Nat}(h:om e=true):swapsWith e t n env=pure false:=by
 cases e<;>first|rfl|(exact absurd h Z0)
theorem Jg(ir:IE)(c:Ctx Φ Γ k X cl EX)(h:bB Γ ir e=true):PE X e (tV Φ (bd X cl) EX ir):=(oj.1 ir Γ k X cl EX e c h).1
theorem VI(ir:IE)(c:Ctx Φ Γ k X cl EX)(h:bB Γ ir e=true):PT X e (tT Φ (bd X cl) EX ir):=(oj.1 ir Γ k X cl EX e c h).2
theorem M8:yz Φ (.expr e):=by
 intro Γ k X cl EX st c h;apply AB h;intro x _ h;simp only[and_eq_true]at h;refine(Hj (Jg e c.toCtx h.2) (j4 h.1)).imp λD σ H aJ=>?_;obtain⟨ρ,env,h,hE,hl,r,p⟩:=aJ;simp only[dU]at p;exact⟨ρ,env,h,hE,r,au p λv h1 ρ1 x H1 g1 r1 q1 p1=>aj r1 p1 σ (hE.up g1) hl⟩
theorem QL:yz Φ (.asg p e):=by
 intro Γ k X cl EX st c h;apply zu h;intro q1 x pos h;apply iy h;intro tg h;simp only[and_eq_true]at h;obtain⟨⟨h1,h2⟩,h3⟩:=h;have hg:=AJ c.toCtx c.fn c.nd h1;have he:=Jg e c.toCtx h2;have fin:∀D σ H,tS Φ (bd X cl) EX (.asg p e) D σ H->Ho (tV Φ (bd X cl) EX e) (Cm X.K p) D σ H:=λD σ H ⟨ρ,env,h,hE,hl,r,pp⟩=>by
  simp only[dU]at pp;refine⟨ρ,env,h,hE,r,au pp λv h1 ρ1 x H1 g1 r1 q1 p1=>?_⟩;obtain⟨env',e1,p2⟩:=bz p1;exact AK e1 q1 (hE.up g1) hl λσ' UC hl' _=>aj r1 p2 σ' UC hl'
 have XI:(assignEach [tg] X.env).map (·.2)=[assign tg X.env]:=by
  cases p with
  |one i=>obtain⟨t,tp,rfl⟩:=qQ h1;rfl
  |tup is=>obtain⟨es,kk,tp,rfl⟩:=mK h1;rfl
 cases p with
 |tup is=>
  simp only[and_eq_true]at h3;refine(CV he hg ?_ ?_ XI).imp fin
  ·show swapsWith x (some tg) _ _=_;exact j4 h3.1
  ·obtain⟨es,kk,tp,rfl⟩:=mK h1;cases x<;>first|rfl|(exact absurd h3.2 Z0)
 |one i=>
  obtain⟨t,tp,rfl⟩:=qQ h1
  ·
   simp only[xD,and_eq_true,beq_iff_eq]at h1;have loc:L2.Loc X.env.scope t:=by unfold L2.Loc;rw[c.sc];simpa using h1.2
   have pl:om x=true->PS X (.Assign [.Name t tp] x pos) (tS Φ (bd X cl) EX (.asg (.one i) e)):=λhx=>(CW c.nd (by rw[c.N];exact h1.1) loc he (j4 hx) (.inl (c.fn t))).imp fin;cases x with
   |ListComp e' gens scope p2=>
    cases hb:(X.env.kindOf t==some .local&&tp.line==p2.line && !(scope.names.any λ(n,k)=>n==t&&(k==.local||k==.cell))) with
    |false=>
     refine(CW c.nd (by rw[c.N];exact h1.1) loc he ?_ (.inl (c.fn t))).imp fin;have bk:(X.env.blockKind==.function)=true:=by unfold Env.blockKind;rw[c.kind];rfl
     show (pure (X.env.blockKind==.function&&X.env.kindOf t==some .local&&tp.line==p2.line && !(scope.names.any λ(n,k)=>n==t&&(k==.local||k==.cell))):Sem Bool)=pure false;rw[bk,abH,hb]
    |true=>
     have bk:(X.env.blockKind==.function)=true:=by unfold Env.blockKind;rw[c.kind];rfl
     have hsw:swapsWith (.ListComp e' gens scope p2) (some (.Name t tp)) pos.line X.env=pure true:=by show (pure (X.env.blockKind==.function&&X.env.kindOf t==some .local&&tp.line==p2.line && !(scope.names.any λ(n,k)=>n==t&&(k==.local||k==.cell))):Sem Bool)=pure true;rw[bk,abH,hb]
     cases e with
     |comp N' js pat ik it QM elt=>obtain⟨e2,UA,iter,ifs,zA,pos2,wi,g,tt,te,q0,q1,q2,q3,q4,q5,q6,q7⟩:=qS (oj.2 it) (oj.1 QM) (oj.1 elt) c.toCtx h2;cases q0;refine(Ag c.nd (by rw[c.N];exact h1.1) loc q1 c.calm q2 q3 q4 q5 hsw (.inl (c.fn t)) q6).imp λD σ H hh=>?_;exact q7 σ H _ (fin D σ H hh)
     |dflt N' js p q d w=>obtain⟨e2,UA,iter,ifs,zA,pos2,wi,g,tt,te,q0,q1,q2,q3,q4,q5,q6,q7⟩:=qT c.toCtx h2;cases q0;refine(Il (Ag c.nd (by rw[c.N];exact h1.1) loc q1 c.calm q2 q3 q4 q5 hsw (.inl (c.fn t)) q6)).imp λD σ H hh=>?_;exact q7 σ H _ (fin D σ H hh)
     |_=>first|exact absurd h2 Z0|(rw[bB.eq_def]at h2;cases h2)
   |SetComp _ _ _ _=>exact absurd h3 Z0
   |DictComp _ _ _ _ _=>exact absurd h3 Z0
   |_=>exact pl rfl
def VJ(B:Bd)(EX:Nat->List V->Hp->Prop)(o:Ip):R2:=λx y H Q=>∃ρ h i j,HR B ρ h H/\x=.int i/\y=.int j/\Post B EX ρ H (WV B.K Q) (Kf o (.int i) (.int j) h)
theorem M9(ho:(match o with|.pow=>false|_=>true)=true):jU X (inplaceOp (zo o)) (VJ (bd X cl) EX o):=by
 intro pins s σ H x y v' u' Q I rx ry hh;obtain⟨ρ,h,i,j,r,rfl,rfl,p⟩:=hh;cases o with
 |add=>exact Hw pins s σ H _ _ _ _ Q I rx ry ⟨_,_,rfl,rfl,aj r p _ VR.int⟩
 |sub=>exact Hx pins s σ H _ _ _ _ Q I rx ry ⟨_,_,rfl,rfl,aj r p _ VR.int⟩
 |mul=>obtain⟨hm,p⟩:=aH p;refine Hy pins s σ H _ _ _ _ Q I rx ry ⟨_,_,rfl,rfl,?_,aj r p _ VR.int⟩;unfold jA at hm;simp only[or_eq_true,and_eq_true,decide_eq_true_eq]at hm;exact hm
 |fdiv=>obtain⟨hm,p⟩:=aH p;exact Cd pins s σ H _ _ _ _ Q I rx ry ⟨_,_,rfl,rfl,hm,aj r p _ VR.int⟩
 |mod=>obtain⟨hm,p⟩:=aH p;have hm:=aan hm;exact Hz pins s σ H _ _ _ _ Q I rx ry ⟨_,_,rfl,rfl,hm,aj r p _ VR.int⟩
 |pow=>cases ho
theorem QN{i:Nat}:yz Φ (.aug i o e):=by
 intro Γ k X cl EX st c h;apply Mv h;intro q1 op v pos h;apply dh h;intro x xp h;simp only[and_eq_true,beq_iff_eq]at h;obtain⟨⟨⟨⟨h1,h2⟩,h3⟩,h4⟩,h5⟩:=h;have eo:op=zo o:=AE h3;subst eo;have loc:L2.Loc X.env.scope x:=by unfold L2.Loc;rw[c.sc];simpa using h2
 refine(Lf (ti:=VJ (bd X cl) EX o) c.nd (by rw[c.N];exact h1) loc (Jg e c.toCtx h5) (M9 h4) (.inl (c.fn x))).imp λD σ H aJ=>?_;obtain⟨ρ,env,h,hE,hl,r,p⟩:=aJ;simp only[dU]at p;obtain⟨n,e1,p⟩:=bz p;split at e1<;>cases e1;rename_i e1;obtain⟨y,k1,k2⟩:=hE i _ e1;rw[VR]at k2;subst k2;refine⟨_,k1,ρ,env,h,hE,r,au p λv h1 ρ1 z H1 g1 r1 q1 p1=>?_⟩;obtain⟨m,e2,p2⟩:=bz p1;cases uf e2;rw[VR]at q1;subst q1;refine⟨ρ1,h1,n,m,r1,rfl,rfl,au p2 λw h2 ρ2 u H2 g2 r2 q2 p3=>?_⟩;exact aj r2 p3 _ (((hE.up g1).up g2).set hl q2) (by simp[hl])
def QO(B:Bd)(EX:Nat->List V->Hp->Prop):Lc:=λo i v H Q=>∃ρ h a b w,HR B ρ h H/\VR B.K ρ H a o/\VR B.K ρ H b i/\VR B.K ρ H w v/\Post B EX ρ H (λ_ _ _ H'=>Q H') (t9 a b w h)
theorem Na(hu:X.A.units+64<cLine):Ld X (QO (bd X cl) EX):=by
 intro pins s σ H o i v ov iv u Q I ro ri rv hh;obtain⟨ρ,h,a,b,w,r,ha,hb,hw,p⟩:=hh;cases a with
 |ref j=>
  simp only[t9]at p;obtain⟨ob,e1,p⟩:=aD p;have dict:∀kvs,ob=.dct kvs->Post (bd X cl) EX ρ H (λ_ _ _ H'=>Q H') (bnd (bG (keyOf b)) (λk=>aE (decide (kvs.length<sizeLine)) (put j (.dct (gR kvs k w)))) h)->wpAny (model X.prog X.w) X.A (setItem ov iv u) (λ_ s'=>∃H',L2.Inv X pins σ H' s'/\Q H') X.xe s:=by rintro kvs rfl p;obtain⟨kk,e2,p⟩:=bz p;obtain⟨e3,p⟩:=aH p;have e3:=aan e3;rw[VR]at ha;obtain⟨A,rfl,k1⟩:=ha;obtain⟨ks,k2,k3⟩:=r.ob j _ A e1 k1;cases ro;have ek:=L5 hb e2;subst ek;refine BU (by omega) I (HV.k (v:=v) k2 (by rw[<-k3.length];exact e3)) ri rv λs' I'=>⟨_,I',?_⟩;have g:Gr ρ H ρ (upd H A (.dK (putK ks kk v))):=Gr.put (aaq k1) k2 rfl;exact p ρ _ g (r.put k1 e1 (u:=.dct (gR kvs kk w)) ⟨_,aO,gy.put kk (VR.up g _ _ hw) (gy.up g _ _ k3)⟩)
  cases ob with
  |lst xs=>
   cases b<;>first|(exact p.elim)|skip
   rename_i n _;obtain⟨jj,e2,p⟩:=bz p;obtain⟨A,ys,rfl,k1,k2,k3⟩:=jg r ha e1;rw[VR]at hb;subst hb;refine set_list pins s σ H _ _ v ov iv u Q I ro ri rv ⟨A,ys,n,jj,rfl,rfl,k2,by rw[<-k3.length];exact e2,?_⟩;have g:Gr ρ H ρ (upd H A (.lst (ys.set jj v))):=Gr.put (aaq k1) k2 rfl;exact p ρ _ g (r.put k1 e1 (u:=.lst (xs.set jj w)) ⟨_,aO,ay.set jj (ay.up g _ _ k3) (VR.up g _ _ hw)⟩)
  |dct kvs=>exact dict kvs rfl (by cases b<;>exact p)
  |ins c fs=>cases b<;>exact p.elim
 |_=>exact p.elim
theorem Nb:yz Φ (.cR o i v):=by
 intro Γ k X cl EX st c h;apply zu h;intro q1 x pos h;apply iy h;intro q2 h;apply u5 h;intro a b sp h;simp only[and_eq_true]at h;obtain⟨⟨⟨⟨h1,h2⟩,h3⟩,h4⟩,h5⟩:=h;have XJ:PG X (.Subscript a b sp) (Pq (tV Φ (bd X cl) EX o) (tV Φ (bd X cl) EX i) (QO (bd X cl) EX)):=Le (Jg o c.toCtx h3) (Jg i c.toCtx h4) (Na c.units) (by
  intro v;cases b<;>first|rfl|(exact absurd h1 Z0))
 refine(CV (Jg v c.toCtx h5) XJ (j4 (t:=some (.Subscript a b sp)) (n:=pos.line) (env:=X.env) h2) (by cases x<;>rfl) rfl).imp λD σ H aJ=>?_;obtain⟨ρ,env,h,hE,hl,r,p⟩:=aJ;simp only[dU]at p;refine⟨ρ,env,h,hE,r,au p λw h1 ρ1 x1 H1 g1 r1 q1 p1=>⟨ρ1,env,h1,hE.up g1,r1,au p1 λw2 h2 ρ2 x2 H2 g2 r2 q2 p2=>⟨ρ2,env,h2,(hE.up g1).up g2,r2,au p2 λw3 h3 ρ3 x3 H3 g3 r3 q3 p3=>?_⟩⟩⟩;refine⟨ρ3,h3,w2,w3,w,r3,VR.up g3 _ _ q2,q3,VR.up (g2.trans g3) _ _ q1,bq p3 λ_ h4 ρ4 H4 g4 r4 p4=>?_⟩;exact aj r4 p4 σ (((hE.up g1).up g2).up g3 |>.up g4) hl
theorem QS(ha:vf Φ a)(hb:vf Φ b):yz Φ (.iff t a b):=by
 intro Γ k X cl EX st c h;apply Qy h;intro tt x y pos h;simp only[and_eq_true]at h;refine(Pn (VI t c.toCtx h.1.1) (ha Γ k X cl EX x c h.1.2) (hb Γ k X cl EX y c h.2)).imp λD σ H aJ=>?_;obtain⟨ρ,env,h,hE,hl,r,p⟩:=aJ;simp only[dU]at p;refine⟨ρ,env,h,hE,r,n6 p λv h1 p1=>?_⟩;obtain⟨s,e1,p2⟩:=aD p1;refine⟨s,e1,λρ1 H1 g1 r1=>?_⟩;have p2:=Post.up g1 p2;cases s with
 |true=>rw[Z7 rfl]at p2 |-;exact⟨ρ1,env,h1,hE.up g1,hl,r1,p2⟩
 |false=>rw[Z8 Z0]at p2 |-;exact⟨ρ1,env,h1,hE.up g1,hl,r1,p2⟩
theorem QT(hb:vf Φ body):yz Φ (.for p ik it body):=by
 intro Γ k X cl EX st c h;apply Mw h;intro tg iter x q1 pos h;apply jk h;intro h;simp only[and_eq_true]at h;obtain⟨⟨⟨h1,h2⟩,h3⟩,h4⟩:=h;have hen:ik=.enum\/ik=.zip->∃es kk pos,tg=.Tuple es kk pos:=by
  intro hz;cases p with
  |one i=>rcases hz with rfl|rfl<;>cases h3
  |tup is=>exact mK h1
 obtain⟨hi,hf⟩:=Ks (oj.2 it) c.toCtx h2 hen;refine(Li c.xe c.calm hi (AJ c.toCtx c.fn c.nd h1) (hb Γ k X cl EX x c h4) hf).imp λD σ H aJ=>?_;obtain⟨ρ,env,h,hE,hl,r,pp⟩:=aJ;simp only[dU]at pp;have p':Post (bd X cl) EX ρ H (WF X.K D) (bnd (OS Φ ik it env) (λsrc=>bnd (ask λh=>src.items h) λxs=>forM src (λx env=>bnd (bG (fR p x env)) λenv'=>bS Φ body env') xs.length 0 env) h):=by unfold OS;rw[bg];exact pp
 refine⟨ρ,env,h,hE,r,bq p' λsrc h1 ρ1 H1 g1 r1 p1=>?_⟩;obtain⟨xs,e1,p2⟩:=aD p1;refine⟨⟨xs,e1⟩,λJ wk=>?_⟩;refine⟨λi m σ' H'=>∃ρ' env' h',Gr ρ1 H1 ρ' H'/\cJ X.K ρ' env' σ' H'/\env'.length = σ'.length/\HR (bd X cl) ρ' h' H'/\Post (bd X cl) EX ρ' H' (WF X.K D) (forM src (λx env=>bnd (bG (fR p x env)) λenv'=>bS Φ body env') m i env' h'),
  ⟨xs.length,ρ1,env,h1,Gr.refl,hE.up g1,hl,r1,p2⟩,?_⟩
 rintro i m σ' H' ⟨ρ',env',h',w1,w2,w3,w4,w5⟩;cases m with
 |zero=>simp only[forM]at w5;obtain⟨xs',k1,w5⟩:=aD w5;obtain⟨k2,w5⟩:=aH w5;exact .inl ⟨wk.stop w1.w w4 k1 (aan k2),aj w4 w5 σ' w2 w3⟩
 |succ m=>
  simp only[forM]at w5;obtain⟨xs',k1,w5⟩:=aD w5;cases hx:xs'[i]? with
  |none=>rw[hx]at w5;exact .inl ⟨wk.stop w1.w w4 k1 (abr.mp hx),aj w4 w5 σ' w2 w3⟩
  |some v=>
   rw[hx]at w5;dsimp only at w5;refine .inr ⟨wk.go w1.w w4 k1 hx,_,λAe Ia w=>⟨m,aaP _,w⟩,λy H2 hy=>?_⟩;obtain⟨z1,z2,z3⟩:=wk.yH w1.w w4 k1 hx hy;rw[bg]at w5;obtain⟨lN,k2,w5⟩:=bz w5;refine AK k2 z3 (w2.up z1) w3 λσ2 SK hl2 _=>⟨ρ',lN,h',SK,hl2,z2,bq (Post.up z1 w5) λf h3 ρ3 H3 g3 r3 p3=>?_⟩;cases f with
   |nx vg=>exact λσ3 Ep hl3=>⟨ρ3,vg,h3,(w1.trans z1).trans g3,Ep,hl3,r3,p3⟩
   |ct vg=>exact λσ3 Ep hl3=>⟨ρ3,vg,h3,(w1.trans z1).trans g3,Ep,hl3,r3,p3⟩
   |bk vg=>exact λσ3 Ep hl3=>aj r3 p3 σ3 Ep hl3
   |rt v=>exact(aj r3 p3:WF X.K D (.rt v) h3 ρ3 H3)
theorem QU{n:Nat}(hb:vf Φ body):yz Φ (.whl n t body):=by
 intro Γ k X cl EX st c h;apply D7 h;intro tt x q1 pos h;apply jk h;intro h;simp only[and_eq_true]at h;refine(CY c.xe (VI t c.toCtx h.1) (hb Γ k X cl EX x c h.2)).imp λD σ H aJ=>?_;obtain⟨ρ,env,h,hE,hl,r,p⟩:=aJ;simp only[dU]at p;refine⟨λm σ H=>∃ρ env h,cJ X.K ρ env σ H/\env.length = σ.length/\HR (bd X cl) ρ h H/\Post (bd X cl) EX ρ H (WF X.K D) (nX (λenv=>bnd (aB Φ t env) λx=>ask λh=>cj h x) (bS Φ body) m env h),⟨n,ρ,env,h,hE,hl,r,p⟩,?_⟩;rintro m σ' H' ⟨ρ',env',h',w1,w2,w3,w4⟩;cases m with
 |zero=>exact w4.elim
 |succ m=>
  simp only[nX]at w4;refine⟨ρ',env',h',w1,w3,bq (m:=MD Φ t env') w4 λb h1 ρ1 H1 g1 r1 p1=>?_⟩;show if b=true then _ else _
  cases b with
  |true=>
   rw[Z7 rfl]at p1 |-;refine⟨_,λAe Ia w=>⟨m,aaP _,w⟩,ρ1,env',h1,w1.up g1,w2,r1,bq p1 λf h3 ρ3 H3 g3 r3 p3=>?_⟩;cases f with
   |nx vg=>exact λσ3 Ep hl3=>⟨ρ3,vg,h3,Ep,hl3,r3,p3⟩
   |ct vg=>exact λσ3 Ep hl3=>⟨ρ3,vg,h3,Ep,hl3,r3,p3⟩
   |bk vg=>exact λσ3 Ep hl3=>aj r3 p3 σ3 Ep hl3
   |rt v=>exact(aj r3 p3:WF X.K D (.rt v) h3 ρ3 H3)
  |false=>rw[Z8 Z0]at p1 |-;exact aj r1 p1 σ' (w1.up g1) w2
theorem QV:yz Φ (.ret e):=by
 intro Γ k X cl EX st c h;apply D8 h;intro q1 _ h;apply AA h;intro x h;refine(La (Jg e c.toCtx h)).imp λD σ H aJ=>?_;obtain⟨ρ,env,h,hE,hl,r,p⟩:=aJ;simp only[dU]at p;exact⟨ρ,env,h,hE,r,au p λv h1 ρ1 x H1 g1 r1 q1 p1=>aj r1 p1 x q1⟩
theorem Nc:yz Φ .Iq:=by
 intro Γ k X cl EX st c h;apply D8 h;intro q1 _ h;apply Az h;intro h;refine Hl.imp λD σ H aJ=>?_;obtain⟨ρ,env,h,hE,hl,r,p⟩:=aJ;simp only[dU]at p;exact aj r p _ VR.non
theorem QW:yz Φ .brk:=by
 intro Γ k X cl EX st c h;apply My h;intro _ h;refine CS.imp λD σ H aJ=>?_;obtain⟨ρ,env,h,hE,hl,r,p⟩:=aJ;simp only[dU]at p;exact aj r p σ hE hl
theorem QX:yz Φ .cnt:=by
 intro Γ k X cl EX st c h;apply Mz h;intro _ h;refine vY.imp λD σ H aJ=>?_;obtain⟨ρ,env,h,hE,hl,r,p⟩:=aJ;simp only[dU]at p;exact aj r p σ hE hl
theorem Nd:yz Φ .pass:=by
 intro Γ k X cl EX st c h
 rcases Qw h with h|h
 ·apply IF h;intro _ h;refine Hi.imp λD σ H aJ=>?_;obtain⟨ρ,env,h,hE,hl,r,p⟩:=aJ;simp only[dU]at p;exact aj r p σ hE hl
 ·apply AB h;intro q1 _ h;apply xj h;intro q2 _ _ h;apply Mt h;intro _ h;refine K9.imp λD σ H aJ=>?_;obtain⟨ρ,env,h,hE,hl,r,p⟩:=aJ;simp only[dU]at p;exact aj r p σ hE hl
theorem Jh:yz Φ .never:=by
 intro Γ k X cl EX st c h;refine CT.imp λD σ H aJ=>?_;obtain⟨ρ,env,h,hE,hl,r,p⟩:=aJ;simp only[dU]at p;exact p.elim
theorem Co{α β:Type}(c:Bool)(m:M α)(f:α -> M β):bnd (aE c m) f=aE c (bnd m f):=by
 funext h;unfold bnd aE;cases c<;>rfl
theorem Nf{n:Nat}:yz Φ (.setF n a x v):=by
 intro Γ k X cl EX st c h;apply zu h;intro q1 e pos h;apply iy h;intro q2 h;apply u6 h;intro o y ap h;simp only[and_eq_true,beq_iff_eq,contains_iff_mem]at h;obtain⟨⟨⟨⟨⟨h1,h2⟩,h3⟩,h4⟩,h5⟩,h6⟩:=h;subst h1;refine(Lv (Jg a c.toCtx h5) (Jg v c.toCtx h6) (j4 (t:=some (.Attribute o x ap)) (n:=pos.line) (env:=X.env) h2)).imp λD σ H aJ=>?_;obtain⟨ρ,env,h,hE,hl,r,p⟩:=aJ;simp only[dU]at p;refine⟨ρ,env,h,hE,r,au p λw h1 ρ1 x1 H1 g1 r1 q1 p1=>⟨ρ1,env,h1,hE.up g1,r1,au p1 λw2 h2 ρ2 x2 H2 g2 r2 q2 p2=>?_⟩⟩;cases w2<;>first|exact p2.elim|skip
 rename_i i;rw[VR]at q2;obtain⟨ad,rfl,q2⟩:=q2;unfold Am at p2;dsimp only at p2;rw[bg]at p2;obtain⟨pr,e1,p3⟩:=aD p2;have hx:h2[i]?=some (.ins pr.1 pr.2)/\pr.1<n:=by
  split at e1
  ·rename_i c0 fs e2
   split at e1
   ·rename_i hc;cases e1;exact⟨e2,hc⟩
   ·cases e1
  ·cases e1
 obtain⟨dx,gs,k1,k2⟩:=r2.ob i _ ad hx.1 q2;obtain⟨cc,nn⟩:=c.cls pr.1 (by omega);have p4:Post (bd X cl) EX ρ2 H2 (WF X.K D) (aE (decide (pr.2.length<1000)) (bnd (put i (.ins pr.1 (qH x w pr.2))) λ_=>ret (.nx env)) h2):=by rw[<-Co];exact p3
 obtain⟨el,p5⟩:=aH p4;refine⟨ad,cl pr.1,dx,gs,rfl,k1,cc,nn x h4,by rw[<-k2.length];exact aan el,?_⟩;have g:Gr ρ2 H2 ρ2 (upd H2 ad (.ins (cl pr.1) dx (jd x x1 gs))):=Gr.put (aaq q2) k1 rfl;exact p5 ρ2 _ g (r2.put q2 hx.1 (u:=.ins pr.1 (qH x w pr.2)) ⟨dx,_,aO,mJ.put (VR.up (g2.trans g) _ _ q1) (mJ.up g _ _ k2)⟩) σ (((hE.up g1).up g2).up g) hl
theorem Ng:vf Φ .nil:=by
 intro Γ k X cl EX st c h;rw[aU]at h;cases st with
 |cons _ _=>cases h
 |nil=>refine Hh.imp λD σ H aJ=>?_;obtain⟨ρ,env,h,hE,hl,r,p⟩:=aJ;simp only[bS]at p;exact aj r p σ hE hl
theorem Ji(h1:yz Φ s)(h2:vf Φ ss):vf Φ (.cons s ss):=by
 intro Γ k X cl EX st c h;rw[aU.eq_def]at h;dsimp only at h;cases st with
 |nil=>cases h
 |cons l ls=>
  simp only[and_eq_true]at h;refine(CQ (h1 Γ k X cl EX l c h.1) (h2 Γ k X cl EX ls c h.2)).imp λD σ H aJ=>?_;obtain⟨ρ,env,h,hE,hl,r,p⟩:=aJ;simp only[bS]at p;refine⟨ρ,env,h,hE,hl,r,bq p λf h1 ρ1 H1 g1 r1 p1=>?_⟩;cases f with
  |nx env'=>exact λσ' UC hl'=>⟨ρ1,env',h1,UC,hl',r1,p1⟩
  |rt v=>exact(aj r1 p1:WF X.K D (.rt v) h1 ρ1 H1)
  |bk env'=>exact(aj r1 p1:WF X.K D (.bk env') h1 ρ1 H1)
  |ct env'=>exact(aj r1 p1:WF X.K D (.ct env') h1 ρ1 H1)
theorem Er:∀dY,vf Φ dY:=by
 intro dY;exact dg.rec (motive_1:=λs=>yz Φ s) (motive_2:=λss=>vf Φ ss) (λ_=>M8) (λ_ _=>QL) (λ_ _ _=>QN) (λ_ _ _=>Nb) (λ_ _ _ a b=>QS a b) (λ_ _ _ _ a=>QT a) (λ_ _ _ a=>QU a) (λ_=>QV) Nc QW QX Nd Jh (λ_ _ _ _=>Nf)
  Ng (λ_ _ a b=>Ji a b) dY
end
abbrev Row:=Str×Nat×(List Val->M Val)
def look(fs:List Row)(j:Nat):List Val->M Val:=match fs[j]? with
 |some r=>r.2.2
 |none=>λ_=>bG none
def bP(P:Program)(w:World)(B:Bd)(mg:Str->Option Value)(base:Heap)(k:Nat)(fs:List Row):Prop:=∀(j:Nat) (r:Row),fs[j]?=some r->OQ P w B mg base k j r.1 r.2.1 r.2.2
def aN(N P:List Str)(sc:Scope):Bool :=
 sc.kind==.function && !sc.isCoroutine && !sc.isGenerator&&decide N.Nodup&&N.take P.length==P&&(P.all λx=>sc.names.lookup x==some .local||sc.names.lookup x==some .cell)&&(sc.names.all λy=>y.2 != .free)
theorem Es(h:aN N P sc=true):pP N P sc:=by
 unfold aN at h;simp only[and_eq_true,beq_iff_eq,not_eq_true',decide_eq_true_eq,all_eq_true,or_eq_true,bne_iff_ne]at h;obtain⟨⟨⟨⟨⟨⟨h1,h2⟩,h3⟩,h4⟩,h5⟩,h6⟩,h7⟩:=h;exact⟨h1,h2,h3,h4,h5,h6,h7⟩
structure Base (K:Frag) (cl:Nat->Addr) (mg:Str->Option Value) (cons:List (Str×Val)) (tb:Tb):Prop where
 blt:∀x∈bltNames,mg x=none
 cons:∀p∈cons,∃v u,mg p.1=some u/\RelV v u/\∀K ρ H,VR K ρ H p.2 v
 cls:∀c,c<tb.nc->CH K (cl c)/\∀x∈tb.IG,jV K (cl c) x
 II:∀p∈tb.II,Meth K (cl p.1) p.2.1 (cl (1000+p.2.2))
 GS:∀p∈tb.GS,∃C,mg p.1=some (.ref C)/\LX K C p.2.1 (cl (1000+p.2.2))
 isc:∀p∈tb.isc,∃C,mg p.1=some (.ref C)/\∀c b,p.2[c]?=some b->Vy K (cl c)/\kitOne K (.ref (cl c)) (.ref C)=some b
section
variable {P:Program} {w:World} {K:Frag} {cl:Nat->Addr} {mg:Str->Option Value} {base:Heap} {k:Nat} {fs:List Row} {cons:List (Str×Val)} {tb:Tb}
theorem AL{x qual:Str}{st:Stmt}{f:Addr}{fd:FuncData}{N ps:List Str}{body:dg}(T:Base K cl mg cons tb)(A:bP P w ⟨K,cl⟩ mg base k fs)(F:GN K x qual st f fd)(hS:aN N ps (af st)=true)
  (hc:aU ⟨N,af st,fs.map (λr=>(r.1,r.2.1)),cons,tb⟩ body (av st)=true):fh P w K mg base yy (k+2) f fd ps (u9 ⟨K,cl⟩ ps.length (dX (look fs) N.length body)):=by
 have S:=Es hS;refine F.ok S (λvs H Q E h=>?_) (λcdv A' outer s H vs Q E hr h=>?_)
 ·obtain⟨ρ,h,ws,h1,_,h2,_⟩:=h;rw[<-h2.length,h1]
 ·obtain⟨ρ,h,ws,hl,r,hv,p⟩:=h
  have lv:=hv.length
  let X:Cx:=(yS yy P w K mg base N qual (af st) f cdv A' outer s H E).Pg
  have c:M7 (look fs) ⟨N,af st,fs.map (λr=>(r.1,r.2.1)),cons,tb⟩ k X cl (λ_ _ _=>False):=by
   refine { N:=rfl,sc:=rfl,calm:=rfl,room:=hr,lE:=λ_ _ _ z=>z,fns:=λj x n e=>?_,cls:=T.cls,II:=T.II,GS:=T.GS,isc:=T.isc,cons:=T.cons,blt:=T.blt,fn:=λ_=>rfl,nd:=S.nd,kind:=S.kind,xe:=PassesOwn.never };have e':(fs.map (λr=>(r.1,r.2.1)))[j]?=some (x,n):=e;rw[aas]at e';cases er:fs[j]? with
   |none=>rw[er]at e';cases e'
   |some r=>rw[er]at e';cases e';have:=A j r er;unfold look;rw[er];exact this
  refine⟨_,Er body _ k X cl _ (av st) c hc,ρ,ws.map some++replicate (N.length-ws.length) none,h,λi v e=>?_,?_,r,bq p λfl h1 ρ1 H1 g1 r1 p1=>?_⟩
  ·by_cases hi:i<ws.length
   ·rw[aag (by simpa using hi)]at e
    rw[aas]at e;cases ei:ws[i]? with
    |none=>rw[ei]at e;cases e
    |some w'=>rw[ei]at e;cases e;obtain⟨y,q1,q2⟩:=hv.get ei;refine⟨y,?_,q2⟩;show (vs.map some++_)[i]?=_;rw[aag (by rw[Z4,<-lv];exact hi),aas,q1];rfl
   ·rw[aau (by simp;omega)]at e;have:=aaq e;rw[List.mem_replicate]at this;exact absurd this.2 (by simp)
  ·show _=(vs.map some++_).length;simp[lv]
  ·cases fl with
   |nx env'=>exact λσ' _ _=>aj r1 p1 _ VR.non
   |rt v=>exact(aj r1 p1:WV K Q v h1 ρ1 H1)
   |bk env'=>exact p1.elim
   |ct env'=>exact p1.elim
theorem _root_.Hv.OQ.mono{j:Nat}{n:Nat}(g:OQ P w B mg base k j x n φ):OQ P w B mg base (k+2) j x n φ:=by
 have le:k<=k+2:=Nat.le_add_right _ _
 rcases g with ⟨h,⟨f,fd,ps,q1,q2,q3,q4,q5⟩|⟨c,f,fd,ps,φ0,q0,q1,q2,q3,q4,q5⟩⟩|⟨h,fd,ps,q1,q4,q5⟩
 ·exact .inl ⟨h,.inl ⟨f,fd,ps,q1,q2,q3,q4,q5.mono le⟩⟩
 ·exact .inl ⟨h,.inr ⟨c,f,fd,ps,φ0,q0,q1,q2,q3,q4,q5.mono le⟩⟩
 ·exact .inr ⟨h,fd,ps,q1,q4,q5.mono le⟩
theorem all_nil:bP P w ⟨K,cl⟩ mg base k []:=λj r e=>by simp at e
theorem vh{r0:Row}(A:bP P w ⟨K,cl⟩ mg base k fs)(g:OQ P w ⟨K,cl⟩ mg base (k+2) fs.length r0.1 r0.2.1 r0.2.2):bP P w ⟨K,cl⟩ mg base (k+2) (fs++[r0]):=λj r e=>by
 by_cases hj:j<fs.length
 ·rw[aag hj]at e;exact(A j r e).mono
 ·rw[aau (by omega)]at e
  have hj0:j-fs.length=0:=by have:=(Z5.mp e).1;simp at this;omega
  rw[hj0]at e;simp at e;subst e;rw[show j=fs.length by omega];exact g
theorem Et{x qual:Str}{st:Stmt}{f:Addr}{fd:FuncData}{N ps:List Str}{body:dg}(T:Base K cl mg cons tb)(A:bP P w ⟨K,cl⟩ mg base k fs)(F:GN K x qual st f fd)(hm:mg x=some (.ref f))(hb:Binds K fd ps [])(qU:ps.length<1000)(hS:aN N ps (af st)=true)
  (hc:aU ⟨N,af st,fs.map (λr=>(r.1,r.2.1)),cons,tb⟩ body (av st)=true):bP P w ⟨K,cl⟩ mg base (k+2) (fs++[(x,ps.length,dX (look fs) N.length body)]) :=
 vh (r0:=(x,ps.length,dX (look fs) N.length body)) A (.inl ⟨qU,.inl ⟨f,fd,ps,rfl,hm,F.kp,hb,AL T A F hS hc⟩⟩)
theorem Eu{x qual y:Str}{st:Stmt}{f:Addr}{fd:FuncData}{N ps:List Str}{body:dg}(T:Base K cl mg cons tb)(A:bP P w ⟨K,cl⟩ mg base k fs)(F:GN K x qual st f fd)(hf:cl (1000+fs.length)=f)(hb:Binds K fd ps [])(hS:aN N ps (af st)=true)
  (hc:aU ⟨N,af st,fs.map (λr=>(r.1,r.2.1)),cons,tb⟩ body (av st)=true):bP P w ⟨K,cl⟩ mg base (k+2) (fs++[(y,1000+ps.length,dX (look fs) N.length body)]):=by
 refine vh (r0:=(y,1000+ps.length,dX (look fs) N.length body)) A (.inr ⟨Nat.le_add_right _ _,fd,ps,?_,hb,?_⟩)
 ·show ps.length=1000+ps.length-1000;omega
 ·show fh P w K mg base yy (k+2) (cl (1000+fs.length)) fd ps (u9 ⟨K,cl⟩ (1000+ps.length-1000) _);rw[hf,show 1000+ps.length-1000=ps.length by omega];exact AL T A F hS hc
theorem all_class{x i qual:Str}{st:Stmt}{f:Addr}{fd:FuncData}{N ps:List Str}{n c:Nat}{body:dg}(T:Base K cl mg cons tb)(A:bP P w ⟨K,cl⟩ mg base k fs)(F:GN K i qual st f fd)(hm:mg x=some (.ref (cl c)))(M:Mk K (cl c) f)(hb:Binds K fd ps [])(hn:ps.length=n+1)(qU:n<1000)(hS:aN N ps (af st)=true)
  (hc:aU ⟨N,af st,fs.map (λr=>(r.1,r.2.1)),cons,tb⟩ body (av st)=true):bP P w ⟨K,cl⟩ mg base (k+2) (fs++[(x,n,CJ c (dX (look fs) N.length body))]):=by
 refine vh (r0:=(x,n,CJ c (dX (look fs) N.length body))) A (.inl ⟨qU,.inr ⟨c,f,fd,ps,_,rfl,hn,hm,M,hb,?_⟩⟩);rw[<-hn];exact AL T A F hS hc
end
def jR(K:Frag)(x qual:Str)(st:Stmt)(f:Addr):Prop:=∃fd,GN K x qual st f fd
theorem jR.kp{K:Frag}{x qual:Str}{st:Stmt}{f:Addr}(F:jR K x qual st f):keepIn K (.ref f)=true:=F.elim λ_ F=>F.kp
section
variable {α:Type} {p:List α -> Prop}
theorem OU:∀{us:List α},us.length=1->(∀a,p [a])->p us
 |[a],_,h=>h a
theorem ln2:∀{us:List α},us.length=2->(∀a b,p [a,b])->p us
 |[a,b],_,h=>h a b
theorem QY:∀{us:List α},us.length=3->(∀a b c,p [a,b,c])->p us
 |[a,b,c],_,h=>h a b c
end
def UD(x qual:Str)(st:Stmt)(ps:List Str):Prop:=∀(kV doc pm:Value) (an:Option Addr) (cdv ct:Value) (us:List Value),us.length=ps.length->bindArgs (fnOf x qual (mq st) (av st) (af st) .none kV doc pm an cdv ct) ⟨us,[]⟩=pure (ps.zip us)
section
variable {P:Program} {w:World} {K:Frag} {cl:Nat->Addr} {mg:Str->Option Value} {base:Heap} {k:Nat} {fs:List Row} {cons:List (Str×Val)} {tb:Tb} {x i y qual:Str} {st:Stmt} {f:Addr} {N ps:List Str} {body:dg} (T:Base K cl mg cons tb) (A:bP P w ⟨K,cl⟩ mg base k fs)
include T A
theorem dM(F:jR K x qual st f)(hm:mg x=some (.ref f))(hS:aN N ps (af st)=true)
  (hc:aU ⟨N,af st,fs.map (λr=>(r.1,r.2.1)),cons,tb⟩ body (av st)=true) (qU:ps.length<1000) (hb:UD x qual st ps):bP P w ⟨K,cl⟩ mg base (k+2) (fs++[(x,ps.length,dX (look fs) N.length body)]):=F.elim λ_ F=>Et T A F hm (F.binds hb) qU hS hc
theorem qV(F:jR K x qual st f)(hf:cl (1000+fs.length)=f)(hS:aN N ps (af st)=true)
  (hc:aU ⟨N,af st,fs.map (λr=>(r.1,r.2.1)),cons,tb⟩ body (av st)=true) (hb:UD x qual st ps):bP P w ⟨K,cl⟩ mg base (k+2) (fs++[(y,1000+ps.length,dX (look fs) N.length body)]):=F.elim λ_ F=>Eu T A F hf (F.binds hb) hS hc
theorem zB{n c:Nat}(F:jR K i qual st f)(hm:mg x=some (.ref (cl c)))(M:Mk K (cl c) f)(hS:aN N ps (af st)=true)
  (hc:aU ⟨N,af st,fs.map (λr=>(r.1,r.2.1)),cons,tb⟩ body (av st)=true) (hn:ps.length=n+1) (qU:n<1000) (hb:UD i qual st ps):bP P w ⟨K,cl⟩ mg base (k+2) (fs++[(x,n,CJ c (dX (look fs) N.length body))]):=F.elim λ_ F=>all_class T A F hm M (F.binds hb) hn qU hS hc
end
theorem Nh{K:Frag}{cl:Nat->Addr}{φ:List Val->M Val}{H:Hp}{a:Addr}{ns:List Int}(hO:Dk H)(hS:gA K H a (ns.map V.int))(h:∃h',φ [.rl (ns.map .int)] []=.ok (.bl true) h') :
  u9 ⟨K,cl⟩ 1 φ [.ref a] H (λv _=>v=.bl true) λ_ _ _=>False:=by
 obtain⟨h',e⟩:=h;have sr:Kh K H a (ns.map V.int):=by
  rcases hS with (z|z)|z
  ·rcases hO a with y|⟨o,xs,y⟩
   ·rw[y]at z;cases z
   ·rw[y]at z;cases z
  ·exact .inl z
  ·exact .inr (.inr z)
 refine⟨[],[],[.rl (ns.map .int)],rfl,⟨rfl,aa8,λi o a e=>by simp at e⟩,ay.cons (by rw[VR];exact⟨a,_,rfl,sr,ay.ints.mpr rfl⟩) ay.nil,?_⟩;rw[e];intro ρ' H' g r x q;rw[VR]at q;exact q
def SM(K:Frag):Sp:=λvs H Q _=>∃(a:Addr) (ns:List Int),vs=[.ref a]/\Dk H/\gA K H a (ns.map V.int)/\ns.length<=63/\∀H',Q (.bl true) H'
theorem Ni{K:Frag}{cl:Nat->Addr}{φ:List Val->M Val}(hφ:∀ns:List Int,ns.length<=63->∃h',φ [.rl (ns.map .int)] []=.ok (.bl true) h')(vs:List V)(H:Hp)(Q:VK)(E:XK)(h:SM K vs H Q E):u9 ⟨K,cl⟩ 1 φ vs H Q E:=by
 obtain⟨a,ns,rfl,hO,hS,hl,hq⟩:=h;obtain⟨ρ,h,vs,q1,q2,q3,q4⟩:=Nh (cl:=cl) hO hS (hφ ns hl);refine⟨ρ,h,vs,q1,q2,q3,?_⟩;revert q4;cases φ vs h with
 |ok v h'=>exact λq4 ρ' H' g r x hx=>by rw[show x=_ from q4 ρ' H' g r x hx];exact hq H'
 |exc c ws h'=>exact λq4=>q4
 |no=>exact λq4=>q4
theorem walk{l:PySem.W.OpenLaw}{q:Program}{loose:List Str}{XP:(Str->Option Value)->Heap->Prop}{YP:World->Heap->Prop}{d:DefRec}{K:Params->Frag}{k:Nat}{x:Str}(hn:l.most=some 63)(hdf:d.params.defaults=[])(hr:cW k callerA)
  (hY:∀(w:World) (h:Heap),YP w h->(K w.params).In h)
  (F:∀(w:World) (mg:Str->Option Value) (fa:Addr) (h:Heap),(K w.params).In h->h.Ns mainGlobals mg->mg d.name=some (.ref fa) ->
   ∃fd:FuncData,(∀(s:Shared) (u:Value),BindsTo s fd ⟨[u],[]⟩ [(x,u)])/\∀base:Heap,(K w.params).In base->base.Ns mainGlobals mg->fh l.prog w (K w.params) mg base yy k fa fd [x] (SM (K w.params))) :
  PySem.W.WalkO q loose XP YP l.row.toRowW d [] (λf vs=>PySem.call f vs) :=
 L2.HY (n:=63) (k:=k) (x:=x) (CX:=λ_=>yy) (sp:=λw=>SM (K w.params)) hn (by decide) hdf hr hY F (λ_ _ a ns hl hO hS=>⟨a,ns,rfl,hO,hS,hl,λ_=>rfl⟩) λ_ _ _ _ _ z=>z
end Hv
end
section
namespace Hv
open PySem L2
inductive Pr (α:Type)
 |ok (a:α)|exc (c:Nat) (ds:List Val)|no
def pb{α β:Type}(m:Pr α)(f:α -> Pr β):Pr β:=match m with
 |.ok a=>f a
 |.exc c ds=>.exc c ds
 |.no=>.no
def pl{α:Type}(o:Option α):Pr α:=match o with
 |some a=>.ok a
 |none=>.no
def pg{α:Type}(c:Bool)(m:Pr α):Pr α:=if c=true then m else .no
inductive Mk
 |sh|nw|ow
def oq:Mk->Bool
 |.ow=>false
 |_=>true
def OV:Mk->Bool
 |.nw=>true
 |_=>false
abbrev bC:=List (Option (Mk×Val))
abbrev FV:=Bool×Val
mutual
noncomputable def jb:Val->Bool
 |.rl _=>false
 |.dc _ _=>false
 |.ob _ _ _=>false
 |.ref _=>false
 |.tup vs=>bT vs
 |.non=>true
 |.bl _=>true
 |.int _=>true
 |.str _=>true
noncomputable def bT:List Val->Bool
 |[]=>true
 |v::vs=>jb v&&bT vs
end
def gS(f:Bool)(d:Val):Mk:=if (f && !jb d)=true then .nw else .sh
def putD(ks:List Key)(ds:List Val)(k:Key)(d:Val):Val:=.dc ((gR (ks.zip ds) k d).map (·.1)) ((gR (ks.zip ds) k d).map (·.2))
def j5:Ip->Val->Val->Pr FV
 |.add,.int a,.int b=>.ok (true,.int (a+b))
 |.add,.str a,.str b=>pg (decide (a.length+b.length<=sizeLine)) (.ok (true,.str (a++b)))
 |.add,.tup a,.tup b=>pg (!a.isEmpty&&decide (a.length+b.length<=sizeLine)) (.ok (bT (a++b),.tup (a++b)))
 |.add,.rl a,.rl b=>pg (decide (a.length+b.length<=sizeLine)) (.ok (bT (a++b),.rl (a++b)))
 |.sub,.int a,.int b=>.ok (true,.int (a-b))
 |.mul,.int a,.int b=>pg (jA a b) (.ok (true,.int (a*b)))
 |.fdiv,.int a,.int b=>pg (jf b) (.ok (true,.int (a/b)))
 |.mod,.int a,.int b=>pg (decide (0<b)) (.ok (true,.int (a%b)))
 |.pow,.int a,.int b=>pg (decide (0<=b/\b<=1000000/\a.natAbs<2 ^ 64)) (.ok (true,.int (a ^ b.toNat)))
 |_,_,_=>.no
def zC(v:Val)(lo hi:Option Int):Pr FV:=match v with
 |.tup vs=>pg (!(decide (HT.dQ vs.length 0 lo=0)&&decide (HT.dQ vs.length vs.length hi=vs.length))) (.ok (bT (cA vs lo hi),.tup (cA vs lo hi)))
 |.rl vs=>.ok (bT (cA vs lo hi),.rl (cA vs lo hi))
 |_=>.no
def gT:Bl->List Val->Pr FV
 |.len,[v]=>pb (pl (mH [] v)) λn=>.ok (true,.int n)
 |.min,[.int a,.int b]=>.ok (true,.int (if b<a then b else a))
 |.max,[.int a,.int b]=>.ok (true,.int (if b>a then b else a))
 |.sorted,[.rl xs]=>pb (pl (dD xs)) λys=>.ok (true,.rl ys)
 |.list,[v]=>pb (pl (kZ [] v)) λxs=>.ok (bT xs,.rl xs)
 |.int,[.bl b]=>.ok (true,.int (if b=true then 1 else 0))
 |.int,[.int i]=>.ok (true,.int i)
 |.all,[.rl xs]=>pb (pl (fq xs)) λbs=>.ok (true,.bl (bs.all id))
 |.isin T,[v]=>pb (pl (wV [] v)) λt=>pb (pl (wW T t)) λb=>.ok (true,.bl b)
 |_,_=>.no
def jM:Ik->List Val->Option (List Val)
 |.seq,[.tup vs]=>some vs
 |.seq,[.rl vs]=>some vs
 |.range,[.int n]=>if inR n then some (ck 0 n.toNat) else none
 |.range,[.int a,.int b]=>if inR a&&inR b then some (ck a (b-a).toNat) else none
 |.enum,[.rl vs]=>some (cI 0 vs)
 |_,_=>none
def Ew(k:Ik)(ds:List Val):Option (List Val):=match k with
 |.zip=>none
 |k=>jM k ds
def cB:List Nat->List Val->bC->Option bC
 |[],[],env=>some env
 |i::is,d::ds,env=>cB is ds (env.set i (some (.sh,d)))
 |_,_,_=>none
def ff:Ak->Val->bC->Option bC
 |.one i,d,env=>some (env.set i (some (.sh,d)))
 |.tup is,.tup ds,env=>cB is ds env
 |_,_,_=>none
def iM(js:List (Option Nat))(env:bC):bC:=js.map λo=>match o with
 |none=>none
 | some j=>match env[j]? with
  |some (some d)=>some d
  |_=>none
def jD(f:Val->Pr (Option FV)):List Val->Pr (Bool×List Val)
 |[]=>.ok (true,[])
 |x::r=>pb (f x) λo=>pb (jD f r) λp=>.ok (match o with|some e=>(e.1&&p.1,e.2::p.2)|none=>p)
def qW:Val->Pr Bool
 |.bl b=>.ok b
 |_=>.no
def gU(env:bC):IE->Option FV
 | .var i=>match env[i]? with
  |some (some (_,d))=>some (jb d,d)
  |_=>none
 |_=>none
def isVar:IE->Bool
 |.var _=>true
 |_=>false
mutual
noncomputable def bH(Ψ:Nat->List Val->Pr FV):IE->bC->Pr FV
 | .var i,env=>match env[i]? with
  |some (some (m,d))=>pg (oq m) (.ok (jb d,d))
  |_=>.no
 |.cst d,_=>.ok (jb d,d)
 |.con _ d,_=>.ok (jb d,d)
 |.no,_=>.no
 |.bin o a b,env=>pb (if isVar a=true then pl (gU env a) else bH Ψ a env) λx=>pb (if isVar b=true then pl (gU env b) else bH Ψ b env) λy=>j5 o x.2 y.2
 | .neg a,env=>pb (bH Ψ a env) λx=>match x.2 with
  |.int i=>.ok (true,.int (-i))
  |_=>.no
 |.cmp o a b,env=>pb (if isVar a=true then pl (gU env a) else bH Ψ a env) λx=>pb (if isVar b=true then pl (gU env b) else bH Ψ b env) λy=>pb (pl (cop [] o x.2 y.2)) λt=>.ok (true,.bl t)
 |.chn _ _ _ _ _,_=>.no
 |.and a b,env=>pb (bH Ψ a env) λx=>pb (qW x.2) λt=>if t=true then pb (bH Ψ b env) λy=>pb (qW y.2) λu=>.ok (true,.bl u) else .ok (true,.bl false)
 |.or a b,env=>pb (bH Ψ a env) λx=>pb (qW x.2) λt=>if t=true then .ok (true,.bl true) else pb (bH Ψ b env) λy=>pb (qW y.2) λu=>.ok (true,.bl u)
 |.not a,env=>pb (bH Ψ a env) λx=>pb (qW x.2) λt=>.ok (true,.bl (!t))
 |.ite _ _ _,_=>.no
 |.tup es,env=>pb (vj Ψ es env) λp=>pg (decide (p.2.length<=sizeLine)) (.ok (p.1,.tup p.2))
 |.lst es,env=>pb (vj Ψ es env) λp=>pg (decide (p.2.length<=sizeLine)) (.ok (p.1,.rl p.2))
 |.idx a b,env=>pb (if isVar a=true then pl (gU env a) else bH Ψ a env) λx=>pb (bH Ψ b env) λy=>pb (pl (lK [] x.2 y.2)) λz=>.ok (jb z,z)
 |.slc a lo hi,env=>pb (if isVar a=true then pl (gU env a) else bH Ψ a env) λx=>pb (if cX lo=true then .ok none else pb (bH Ψ lo env) λv=>pb (pl (jB v.2)) λi=>.ok (some i)) λl=>
   pb (if cX hi=true then .ok none else pb (bH Ψ hi env) λv=>pb (pl (jB v.2)) λi=>.ok (some i)) λu=>zC x.2 l u
 |.call j es,env=>pb (vj Ψ es env) λp=>Ψ j p.2
 |.blt b es,env=>pb (gm Ψ es env) λds=>gT b ds
 | .met m a es,env=>match m with
  |.join=>.no
  |_=>.no
 | .comp _ js pat k it c elt,env=>pb (gm Ψ it env) λits=>pb (pl (Ew k its)) λxs=>pg (decide (xs.length<=100000))
   (pb (jD (λd=>pb (pl (ff pat d (iM js env))) λenv'=>pb (if cX c=true then .ok true else pb (bH Ψ c env') λv=>pl (cj [] v.2)) λt=>
    if t=true then pb (bH Ψ elt env') λe=>.ok (some e) else .ok none) xs) λp=>.ok (p.1,.rl p.2))
 |.dct0,_=>.ok (true,.dc [] [])
 | .sset a,env=>pb (if isVar a=true then pl (gU env a) else bH Ψ a env) λx=>match x.2 with
  |.rl xs=>pb (pl (bX xs)) λns=>pg (decide (ns.length<64)) (.ok (true,.rl ((sortI (L2.dS [] ns)).map .int)))
  |_=>.no
 |.dget d k x,env=>pb (if isVar d=true then pl (gU env d) else bH Ψ d env) λo=>pb (pl (DO [] o.2)) λ_=>pb (bH Ψ k env) λi=>pb (pl (keyOf i.2)) λkk=>pb (bH Ψ x env) λz=>pb (pl (zl [] o.2 kk)) λr=>.ok (jb (r.getD z.2),r.getD z.2)
 |.dct1 k v,env=>pb (bH Ψ k env) λx=>pb (pl (keyOf x.2)) λkk=>pb (bH Ψ v env) λy=>.ok (y.1,.dc [kk] [y.2])
 |.lkeys d,env=>pb (if isVar d=true then pl (gU env d) else bH Ψ d env) λo=>pb (pl (lq [] o.2)) λks=>.ok (true,.rl (ks.map zm))
 |.sdef ..,_=>.no
 |.svals _,_=>.no
 |.skeys d,env=>pb (if isVar d=true then pl (gU env d) else bH Ψ d env) λo=>pb (pl (jX [] o.2)) λns=>.ok (true,.rl (ns.map .int))
 |.fld n a x,env=>pb (if isVar a=true then pl (gU env a) else bH Ψ a env) λo=>pb (pl (iw n [] o.2 x)) λz=>.ok (jb z,z)
 |.mth a m js es,env=>pb (bH Ψ a env) λo=>pb (pl (kP [] o.2 m js)) λj=>pb (vj Ψ es env) λp=>Ψ j (o.2::p.2)
 |.rev _ _,_=>.no
 |.dflt _ _ _ _ d w,env=>pb (if isVar d=true then pl (gU env d) else bH Ψ d env) λo=>pb (pl (lq [] o.2)) λks=>pb (if isVar w=true then pl (gU env w) else bH Ψ w env) λv=>pb (pl (qF [] ks v.2)) λns=>.ok (true,.rl (ns.map .int))
 |.isc _ _ _,_=>.no
noncomputable def vj(Ψ:Nat->List Val->Pr FV):mD->bC->Pr (Bool×List Val)
 |.nil,_=>.ok (true,[])
 |.cons e es,env=>pb (bH Ψ e env) λd=>pb (vj Ψ es env) λp=>.ok (d.1&&p.1,d.2::p.2)
noncomputable def gm(Ψ:Nat->List Val->Pr FV):mD->bC->Pr (List Val)
 |.nil,_=>.ok []
 |.cons e es,env=>pb (if isVar e=true then pl (gU env e) else bH Ψ e env) λd=>pb (gm Ψ es env) λp=>.ok (d.2::p)
end
def Ku(Ψ:Nat->List Val->Pr FV)(e:IE)(env:bC):Pr FV:=if isVar e=true then pl (gU env e) else bH Ψ e env
inductive Cp
 |nx (env:bC)|rt (p:FV)|bk (env:bC)|ct (env:bC)
mutual
noncomputable def qX:IS->List Nat
 |.expr (.met .append (.var i) _)=>[i]
 |.expr (.met .extend (.var i) _)=>[i]
 |.cR (.var i) _ _=>[i]
 |.asg _ (.met .pop (.var j) _)=>[j]
 |.iff _ a b=>iN a++iN b
 |.for _ _ _ b=>iN b
 |.whl _ _ b=>iN b
 |_=>[]
noncomputable def iN:dg->List Nat
 |.nil=>[]
 |.cons s r=>qX s++iN r
end
def stored:Ak->List Nat
 |.one i=>[i]
 |.tup is=>is
mutual
noncomputable def mL:IS->List Nat
 |.asg p _=>stored p
 |.aug i _ _=>[i]
 |.iff _ a b=>lu a++lu b
 |.for p _ _ b=>stored p++lu b
 |.whl _ _ b=>lu b
 |_=>[]
noncomputable def lu:dg->List Nat
 |.nil=>[]
 |.cons s r=>mL s++lu r
end
def UE:IE->Bool
 |.lst _=>true
 |.comp ..=>true
 |.slc ..=>true
 |.blt .list _=>true
 |.blt .sorted _=>true
 |.lkeys _=>true
 |.dct0=>true
 |.dct1 ..=>true
 |_=>false
def iO(body:Val->bC->Pr Cp):List Val->bC->Pr Cp
 |[],env=>.ok (.nx env)
 | x::r,env=>pb (body x env) λf=>match f with
  |.nx env'=>iO body r env'
  |.ct env'=>iO body r env'
  |.bk env'=>.ok (.nx env')
  |.rt p=>.ok (.rt p)
def xE(c:bC->Pr Bool)(body:bC->Pr Cp):Nat->bC->Pr Cp
 |0,_=>.no
 | n+1,env=>pb (c env) λt=>if t=true then pb (body env) λf=>(match f with
   |.nx env'=>xE c body n env'
   |.ct env'=>xE c body n env'
   |.bk env'=>.ok (.nx env')
   |.rt p=>.ok (.rt p)) else .ok (.nx env)
def VL:Mk->Mk
 |.ow=>.sh
 |m=>m
def VM:Option (Mk×Val)->Option (Mk×Val)
 |none=>none
 |some (m,d)=>some (VL m,d)
def jL(env:bC):bC:=env.map VM
def Jj(env:bC):mD->Option (Val×Val)
 | .cons (.var i) #[.var j]=>match env[i]?,env[j]? with
  |some (some (.nw,d)),some (some (.nw,e))=>some (d,e)
  |_,_=>none
 |_=>none
def Jk(Ψ:Nat->List Val->Pr FV)(es:mD)(env:bC):Pr FV:=match Jj env es with
 |some p=>.ok (true,.tup [p.1,p.2])
 |none=>bH Ψ (.tup es) (jL env)
def SN(Ψ:Nat->List Val->Pr FV)(e:IE)(env:bC):Pr FV:=match e with
 | .var i=>match env[i]? with
  | some (some (m,d))=>if oq m=true then .ok (jb d||OV m,d) else match d with
   |.rl ds=>.ok (bT ds,.rl ds)
   |.dc ks ds=>.ok (bT ds,.dc ks ds)
   |_=>.no
  |_=>.no
 |.call j es=>bH Ψ (.call j es) (jL env)
 |.tup es=>Jk Ψ es env
 |e=>bH Ψ e env
def uo(p:Ak)(it:mD)(body:dg):Bool:=match it with
 |.cons (.var i) .nil=>!(iN body).contains i && !(lu body).contains i && !(stored p).contains i
 |_=>true
def xF:IE->Option Nat
 |.met .pop (.var j) #[¬0]=>some j
 |_=>none
def Nj(ms:List Nat)(i:Nat)(o:Option Nat)(env:bC):Pr Cp:=match o with
 | some j=>pg (!ms.contains i&&decide (i≠j)) (match env[j]? with
  |some (some (.ow,.rl (d::ds)))=>pg (jb d) (.ok (.nx ((env.set j (some (.ow,.rl ds))).set i (some (.sh,d)))))
  |_=>.no)
 |none=>.no
mutual
noncomputable def bu(Ψ:Nat->List Val->Pr FV)(ms:List Nat):IS->bC->Pr Cp
 | .expr e,env=>match e with
  | .met .append (.var i) #[a]=>match env[i]? with
   |some (some (.ow,.rl ds))=>pb (bH Ψ a env) λx=>pg (decide (ds.length<sizeLine)) (.ok (.nx (env.set i (some (.ow,.rl (ds++[x.2]))))))
   |_=>.no
  | .met .extend (.var i) #[a]=>match env[i]? with
   | some (some (.ow,.rl ds))=>pb (bH Ψ a env) λx=>match x.2 with
    |.tup vs=>pg (decide (ds.length+vs.length<=sizeLine)) (.ok (.nx (env.set i (some (.ow,.rl (ds++vs))))))
    |_=>.no
   |_=>.no
  |e=>pb (bH Ψ e env) λ_=>.ok (.nx env)
 | .asg p e,env=>match p with
  | .one i=>if (xF e).isSome=true then Nj ms i (xF e) env else if ms.contains i=true then pg (UE e) (pb (bH Ψ e env) λx=>match x.2 with
    |.rl ds=>.ok (.nx (env.set i (some (.ow,.rl ds))))
    |.dc ks ds=>.ok (.nx (env.set i (some (.ow,.dc ks ds))))
    |_=>.no) else pb (bH Ψ e env) λx=>.ok (.nx (env.set i (some (gS x.1 x.2,x.2))))
  |.tup is=>pg (is.all λi=>!ms.contains i) (pb (bH Ψ e env) λx=>pb (pl (ff (.tup is) x.2 env)) λenv'=>.ok (.nx env'))
 |.aug i o e,env=>pg (!ms.contains i) (pb (pl (match env[i]? with|some (some (_,.int x))=>some x|_=>none)) λx=>pb (bH Ψ e env) λv=>pb (pl (jB v.2)) λy=>pb (j5 o (.int x) (.int y)) λz=>.ok (.nx (env.set i (some (.sh,z.2)))))
 | .cR o i v,env=>match o with
  | .var j=>pb (bH Ψ v env) λx=>match env[j]? with
   |some (some (.ow,.rl ds))=>pb (bH Ψ i env) λz=>pb (pl (jB z.2)) λk=>pb (pl (BO ds.length k)) λn=>.ok (.nx (env.set j (some (.ow,.rl (ds.set n x.2)))))
   |some (some (.ow,.dc ks ds))=>pb (bH Ψ i env) λz=>pb (pl (keyOf z.2)) λk=>pg (decide (ks.length<sizeLine)) (.ok (.nx (env.set j (some (.ow,putD ks ds k x.2)))))
   |_=>.no
  |_=>.no
 |.iff c a b,env=>pb (Ku Ψ c env) λx=>pb (pl (cj [] x.2)) λt=>if t=true then bF Ψ ms a env else bF Ψ ms b env
 |.for p k it body,env=>pg (uo p it body&&(stored p).all λi=>!ms.contains i) (pb (gm Ψ it env) λits=>pb (pl (jM k its)) λxs=>
   iO (λx env=>pb (pl (ff p x env)) λenv'=>bF Ψ ms body env') xs env)
 |.whl n c body,env=>xE (λenv=>pb (Ku Ψ c env) λx=>pl (cj [] x.2)) (bF Ψ ms body) n env
 |.ret e,env=>pb (SN Ψ e env) λp=>.ok (.rt p)
 |.Iq,_=>.ok (.rt (true,.non))
 |.brk,env=>.ok (.bk env)
 |.cnt,env=>.ok (.ct env)
 |.pass,env=>.ok (.nx env)
 |.never,_=>.no
 |.setF _ _ _ _,_=>.no
noncomputable def bF(Ψ:Nat->List Val->Pr FV)(ms:List Nat):dg->bC->Pr Cp
 |.nil,env=>.ok (.nx env)
 | .cons s r,env=>pb (bu Ψ ms s env) λf=>match f with
  |.nx env'=>bF Ψ ms r env'
  |f=>.ok f
end
def fc(Ψ:Nat->List Val->Pr FV)(n:Nat)(body:dg)(ds:List Val):Pr FV :=
 pb (bF Ψ (iN body) body (ds.map (λd=>some (.sh,d))++replicate (n-ds.length) none)) λf=>match f with
  |.nx _=>.ok (true,.non)
  |.rt p=>.ok p
  |_=>.no
abbrev AP:=Option Nat->Prop
def Fr(n:Nat):AP:=λo=>match o with
 |none=>False
 |some k=>n<=k
theorem Fr.le{n m:Nat}(h:n<=m):∀o,Fr m o->Fr n o
 |none,e=>e
 |some k,e=>aay h e
mutual
noncomputable def Dn(A:AP)(h:Hs):Val->Val->Prop
 |.non,v=>v=.non
 |.bl b,v=>v=.bl b
 |.int i,v=>v=.int i
 |.str x,v=>v=.str x
 |.tup ds,v=>∃vs,v=.tup vs/\ak A h ds vs
 |.rl ds,v=>(∃vs,v=.rl vs/\A none/\ak A h ds vs)\/∃i vs,v=.ref i/\A (some i)/\h[i]?=some (.lst vs)/\ak A h ds vs
 |.dc ks ds,v=>∃i kvs,v=.ref i/\A (some i)/\h[i]?=some (.dct kvs)/\kvs.map (·.1)=ks/\ak A h ds (kvs.map (·.2))
 |.ob c xs ds,v=>∃i fs,v=.ref i/\A (some i)/\h[i]?=some (.ins c fs)/\fs.map (·.1)=xs/\ak A h ds (fs.map (·.2))
 |.ref _,_=>False
noncomputable def ak(A:AP)(h:Hs):List Val->List Val->Prop
 |[],vs=>vs=[]
 |d::ds,vs=>∃v r,vs=v::r/\Dn A h d v/\ak A h ds r
end
section
variable {A A':AP} {h h' h1:Hs}
mutual
theorem Dn.mono(hA:∀i,A i->A' i)(hh:∀(i:Nat) (o:Ob),A (some i)->h[i]?=some o->h'[i]?=some o):∀(d v:Val),Dn A h d v->Dn A' h' d v
 |.non,v,e=>by rw[Dn]at e |-;exact e
 |.bl _,v,e=>by rw[Dn]at e |-;exact e
 |.int _,v,e=>by rw[Dn]at e |-;exact e
 |.str _,v,e=>by rw[Dn]at e |-;exact e
 | .tup ds,v,e=>by
  rw[Dn]at e |-;obtain⟨vs,rfl,q⟩:=e;exact⟨vs,rfl,ak.mono hA hh ds vs q⟩
 | .rl ds,v,e=>by
  rw[Dn]at e |-
  rcases e with ⟨vs,rfl,n,q⟩|⟨i,vs,rfl,a,g,q⟩
  ·exact .inl ⟨vs,rfl,hA _ n,ak.mono hA hh ds vs q⟩
  ·exact .inr ⟨i,vs,rfl,hA _ a,hh i _ a g,ak.mono hA hh ds vs q⟩
 | .dc ks ds,v,e=>by
  rw[Dn]at e |-;obtain⟨i,kvs,rfl,a,g,k,q⟩:=e;exact⟨i,kvs,rfl,hA _ a,hh i _ a g,k,ak.mono hA hh ds _ q⟩
 | .ob c xs ds,v,e=>by
  rw[Dn]at e |-;obtain⟨i,kvs,rfl,a,g,k,q⟩:=e;exact⟨i,kvs,rfl,hA _ a,hh i _ a g,k,ak.mono hA hh ds _ q⟩
 |.ref _,v,e=>by rw[Dn]at e;exact e.elim
theorem ak.mono(hA:∀i,A i->A' i)(hh:∀(i:Nat) (o:Ob),A (some i)->h[i]?=some o->h'[i]?=some o):∀(ds vs:List Val),ak A h ds vs->ak A' h' ds vs
 |[],vs,e=>by rw[ak]at e |-;exact e
 | d::ds,vs,e=>by
  rw[ak]at e |-;obtain⟨v,r,rfl,q1,q2⟩:=e;exact⟨v,r,rfl,Dn.mono hA hh d v q1,ak.mono hA hh ds r q2⟩
end
theorem bK{i:Nat}(p:h<+:h')(e:h[i]?=some o):h'[i]?=some o:=by
 obtain⟨t,rfl⟩:=p;have hi:i<h.length:=(Z5.mp e).1;rw[aag hi];exact e
theorem Dn.ext(p:h<+:h')(e:Dn A h d v):Dn A h' d v:=Dn.mono (λ_ a=>a) (λ_ _ _ q=>bK p q) d v e
theorem ak.ext(p:h<+:h')(e:ak A h d v):ak A h' d v:=ak.mono (λ_ a=>a) (λ_ _ _ q=>bK p q) d v e
theorem Dn.wid(hA:∀i,A i->A' i)(e:Dn A h d v):Dn A' h d v:=Dn.mono hA (λ_ _ _ q=>q) d v e
theorem ak.wid(hA:∀i,A i->A' i)(e:ak A h d v):ak A' h d v:=ak.mono hA (λ_ _ _ q=>q) d v e
mutual
theorem eL:∀(d v:Val),jb d=true->(Dn A h d v↔v=d)
 |.non,v,_=>by rw[Dn]
 |.bl _,v,_=>by rw[Dn]
 |.int _,v,_=>by rw[Dn]
 |.str _,v,_=>by rw[Dn]
 | .tup ds,v,e=>by
  rw[jb]at e;rw[Dn];constructor
  ·rintro⟨vs,rfl,q⟩;rw[(aQ ds vs e).mp q]
  ·rintro rfl;exact⟨ds,rfl,(aQ ds ds e).mpr rfl⟩
 |.rl _,v,e=>by rw[jb]at e;cases e
 |.dc _ _,v,e=>by rw[jb]at e;cases e
 |.ob _ _ _,v,e=>by rw[jb]at e;cases e
 |.ref _,v,e=>by rw[jb]at e;cases e
theorem aQ:∀(ds vs:List Val),bT ds=true->(ak A h ds vs↔vs=ds)
 |[],vs,_=>by rw[ak]
 | d::ds,vs,e=>by
  rw[bT,abm]at e;rw[ak];constructor
  ·rintro⟨v,r,rfl,q1,q2⟩;rw[(eL d v e.1).mp q1,(aQ ds r e.2).mp q2]
  ·rintro rfl;exact⟨d,ds,rfl,(eL d d e.1).mpr rfl,(aQ ds ds e.2).mpr rfl⟩
end
theorem ak.nil:ak A h [] []:=by rw[ak]
theorem ak.cons{d v:Val}{ds vs:List Val}(a:Dn A h d v)(b:ak A h ds vs):ak A h (d::ds) (v::vs):=by rw[ak];exact⟨v,vs,rfl,a,b⟩
theorem ak.length:∀{ds vs:List Val},ak A h ds vs->ds.length=vs.length
 |[],vs,e=>by rw[ak]at e;subst e;rfl
 |d::ds,vs,e=>by rw[ak]at e;obtain⟨v,r,rfl,_,q⟩:=e;simp[ak.length q]
theorem ak.get:∀{ds vs:List Val} {i:Nat} {d:Val},ak A h ds vs->ds[i]?=some d->∃v,vs[i]?=some v/\Dn A h d v
 |[],vs,i,d,e,q=>by simp at q
 | c::ds,vs,0,d,e,q=>by
  rw[ak]at e;obtain⟨v,r,rfl,a,_⟩:=e;simp at q;subst q;exact⟨v,rfl,a⟩
 | c::ds,vs,i+1,d,e,q=>by
  rw[ak]at e;obtain⟨v,r,rfl,_,b⟩:=e;simp at q;obtain⟨w,q1,q2⟩:=ak.get b q;exact⟨w,by simpa using q1,q2⟩
theorem ak.append:∀{ds es vs ws:List Val},ak A h ds vs->ak A h es ws->ak A h (ds++es) (vs++ws)
 |[],es,vs,ws,e,q=>by rw[ak]at e;subst e;exact q
 | d::ds,es,vs,ws,e,q=>by
  rw[ak]at e;obtain⟨v,r,rfl,a,b⟩:=e;exact ak.cons a (ak.append b q)
theorem ak.take:∀{ds vs:List Val} (n:Nat),ak A h ds vs->ak A h (ds.take n) (vs.take n)
 |_,_,0,_=>by simp;exact ak.nil
 |[],vs,n+1,e=>by rw[ak]at e;subst e;simp;exact ak.nil
 | d::ds,vs,n+1,e=>by
  rw[ak]at e;obtain⟨v,r,rfl,a,b⟩:=e;exact ak.cons a (ak.take n b)
theorem ak.drop:∀{ds vs:List Val} (n:Nat),ak A h ds vs->ak A h (ds.drop n) (vs.drop n)
 |_,_,0,e=>by simpa using e
 |[],vs,n+1,e=>by rw[ak]at e;subst e;simp;exact ak.nil
 | d::ds,vs,n+1,e=>by
  rw[ak]at e;obtain⟨v,r,rfl,a,b⟩:=e;exact ak.drop n b
theorem ak.cut(lo hi:Option Int)(e:ak A h ds vs):ak A h (cA ds lo hi) (cA vs lo hi):=by
 unfold cA;rw[e.length];exact ak.take _ (ak.drop _ e)
theorem ak.app:∀{ds es vs ws:List Val},ak A h ds vs->ak A h es ws->ak A h (ds++es) (vs++ws)
 |[],_,vs,_,e,q=>by rw[ak]at e;subst e;exact q
 | d::ds,_,vs,_,e,q=>by
  rw[ak]at e;obtain⟨v,r,rfl,a,b⟩:=e;rw[acH,acH,ak];exact⟨v,_,rfl,a,ak.app b q⟩
theorem ak.set:∀{ds vs:List Val} (n:Nat) {d v:Val},ak A h ds vs->Dn A h d v->ak A h (ds.set n d) (vs.set n v)
 |[],vs,n,d,v,e,q=>by rw[ak]at e;subst e;simp;exact ak.nil
 | c::ds,vs,0,d,v,e,q=>by
  rw[ak]at e;obtain⟨w,r,rfl,a,b⟩:=e;exact ak.cons q b
 | c::ds,vs,n+1,d,v,e,q=>by
  rw[ak]at e;obtain⟨w,r,rfl,a,b⟩:=e;exact ak.cons a (ak.set n b q)
theorem ak.jQ{i:Int}(e:ak A h ds vs)(q:L2.jQ ds i=some d):∃v,L2.jQ vs i=some v/\Dn A h d v:=by
 unfold L2.jQ at q |-;rw[e.length]at q;cases hi:L2.BO vs.length i with
 |none=>rw[hi]at q;cases q
 |some n=>rw[hi]at q;exact ak.get e q
theorem ak.one(e:ak A h [d] vs):∃v,vs=[v]/\Dn A h d v:=by
 rw[ak]at e;obtain⟨v,r,rfl,a,b⟩:=e;rw[ak]at b;subst b;exact⟨v,rfl,a⟩
def OD(A:AP)(h:Hs)(d:Val)(a:Nat):Prop:=match d with
 |.rl ds=>∃vs,h[a]?=some (.lst vs)/\ak A h ds vs
 |.dc ks ds=>∃kvs,h[a]?=some (.dct kvs)/\kvs.map (·.1)=ks/\ak A h ds (kvs.map (·.2))
 |_=>False
theorem OD.mono{a:Nat}(e:OD A h d a)(ho:∀o,h[a]?=some o->h'[a]?=some o)(hq:∀ds vs,ak A h ds vs->ak A' h' ds vs):OD A' h' d a:=by
 cases d with
 |rl ds=>obtain⟨vs,g,q⟩:=e;exact⟨vs,ho _ g,hq _ _ q⟩
 |dc ks ds=>obtain⟨kvs,g,k,q⟩:=e;exact⟨kvs,ho _ g,k,hq _ _ q⟩
 |_=>exact False.elim e
theorem OD.ext{a:Nat}(p:h<+:h')(e:OD A h d a):OD A h' d a:=e.mono (λ_ g=>bK p g) λ_ _ q=>q.ext p
theorem OD.lt{a:Nat}(e:OD A h d a):a<h.length:=by
 cases d with
 |rl ds=>obtain⟨vs,g,q⟩:=e;exact(Z5.mp g).1
 |dc ks ds=>obtain⟨kvs,g,k,q⟩:=e;exact(Z5.mp g).1
 |_=>exact False.elim e
theorem OD.dn{a:Nat}(e:OD A h d a)(ha:A (.some a)):Dn A h d (.ref a):=by
 cases d with
 |rl ds=>obtain⟨vs,g,q⟩:=e;rw[Dn];exact .inr ⟨a,vs,rfl,ha,g,q⟩
 |dc ks ds=>obtain⟨kvs,g,k,q⟩:=e;rw[Dn];exact⟨a,kvs,rfl,ha,g,k,q⟩
 |_=>exact False.elim e
def OB(A:AP)(h:Hs)(d:Val)(o:Ob):Prop:=match d with
 |.rl ds=>∃vs,o=.lst vs/\ak A h ds vs
 |.dc ks ds=>∃kvs,o=.dct kvs/\kvs.map (·.1)=ks/\ak A h ds (kvs.map (·.2))
 |_=>False
theorem OB.od{a:Nat}(e:OB A h d o)(g:h'[a]?=.some o)(hq:∀ds vs,ak A h ds vs->ak A' h' ds vs):OD A' h' d a:=by
 cases d with
 |rl ds=>obtain⟨vs,rfl,q⟩:=e;exact⟨vs,g,hq _ _ q⟩
 |dc ks ds=>obtain⟨kvs,rfl,k,q⟩:=e;exact⟨kvs,g,k,hq _ _ q⟩
 |_=>exact False.elim e
def DB(A:AP)(h:Hs)(d v:Val):Prop:=Dn A h d v\/∃i,v=.ref i/\OD A h d i
theorem DB.all(e:DB A h d v):Dn (λ_=>True) h d v:=by
 rcases e with e|⟨i,rfl,q⟩
 ·exact e.wid λ_ _=>trivial
 ·exact(q.mono (A':=λ_=>True) (λ_ g=>g) λ_ _ z=>z.wid λ_ _=>trivial).dn trivial
theorem DB.ext(p:h<+:h')(e:DB A h d v):DB A h' d v:=by
 rcases e with e|⟨i,rfl,q⟩
 ·exact .inl (e.ext p)
 ·exact .inr ⟨i,rfl,q.ext p⟩
theorem DB.dc(e:DB A h (.dc ks ds) v):∃i kvs,v=.ref i/\h[i]?=some (.dct kvs)/\kvs.map (·.1)=ks/\ak A h ds (kvs.map (·.2)):=by
 rcases e with e|⟨i,rfl,kvs,g,k,q⟩
 ·rw[Dn]at e;obtain⟨i,kvs,rfl,_,g,k,q⟩:=e;exact⟨i,kvs,rfl,g,k,q⟩
 ·exact⟨i,kvs,rfl,g,k,q⟩
theorem DB.lst(e:DB A h (.rl ds) v):∃vs,aF h v=some vs/\ak A h ds vs:=by
 rcases e with e|⟨i,rfl,vs,g,q⟩
 ·rw[Dn]at e
  rcases e with ⟨vs,rfl,_,q⟩|⟨i,vs,rfl,_,g,q⟩
  ·exact⟨vs,rfl,q⟩
  ·exact⟨vs,by simp[aF,g],q⟩
 ·exact⟨vs,by simp[aF,g],q⟩
theorem DB.seq(e:DB A h d v)(q:kZ [] d=some ds):∃vs,kZ h v=some vs/\ak A h ds vs:=by
 cases d with
 |tup es=>
  simp only[kZ]at q;cases q
  rcases e with e|⟨_,_,e1⟩
  ·rw[Dn]at e;obtain⟨vs,rfl,q⟩:=e;exact⟨vs,rfl,q⟩
  ·exact False.elim e1
 |rl es=>simp only[kZ,aF]at q;cases q;obtain⟨vs,q1,q2⟩:=e.lst;refine⟨vs,?_,q2⟩;cases v<;>first|(simp[aF]at q1;done)|exact q1
 |ref i=>simp[kZ,aF]at q
 |_=>simp[kZ,aF]at q
theorem DB.int{i:Int}(e:DB A h (.int i) v):v=.int i:=by
 rcases e with e|⟨_,_,e1⟩
 ·rw[Dn]at e;exact e
 ·exact False.elim e1
theorem DB.str(e:DB A h (.str i) v):v=.str i:=by
 rcases e with e|⟨_,_,e1⟩
 ·rw[Dn]at e;exact e
 ·exact False.elim e1
theorem DB.bl{i:Bool}(e:DB A h (.bl i) v):v=.bl i:=by
 rcases e with e|⟨_,_,e1⟩
 ·rw[Dn]at e;exact e
 ·exact False.elim e1
theorem DB.tup(e:DB A h (.tup ds) v):∃vs,v=.tup vs/\ak A h ds vs:=by
 rcases e with e|⟨_,_,e1⟩
 ·rw[Dn]at e;exact e
 ·exact False.elim e1
theorem vo:∀(n:Nat) (d v:Val) (p:PyData),Dn (λ_=>True) h d v->toD n [] d=some p->toD n h v=some p:=by
 intro n
 induction n with
 |zero=>intro d v p _ e;simp[toD]at e
 |succ n ih=>
  have all:∀(ds vs:List Val) (ps:List PyData),ak (λ_=>True) h ds vs->cz (toD n []) ds=some ps->cz (toD n h) vs=some ps:=by
   intro ds
   induction ds with
   |nil=>intro vs ps q e;rw[ak]at q;subst q;exact e
   |cons d ds XM=>intro vs ps q e;rw[ak]at q;obtain⟨v,r,rfl,q1,q2⟩:=q;simp only[cz]at e |-;obtain⟨x,e1,e⟩:=Z1.mp e;obtain⟨xs,e2,e⟩:=Z1.mp e;rw[ih d v x q1 e1,XM r xs q2 e2];exact e
  intro d v p q e;cases d with
  |non=>rw[Dn]at q;subst q;exact e
  |bl b=>rw[Dn]at q;subst q;exact e
  |int b=>rw[Dn]at q;subst q;exact e
  |str b=>rw[Dn]at q;subst q;exact e
  |tup ds=>rw[Dn]at q;obtain⟨vs,rfl,q⟩:=q;simp only[toD]at e |-;obtain⟨ps,e1,e⟩:=Z1.mp e;rw[all ds vs ps q e1];exact e
  |rl ds=>
   rw[Dn]at q;simp only[toD]at e;obtain⟨ps,e1,e⟩:=Z1.mp e
   rcases q with ⟨vs,rfl,_,q⟩|⟨i,vs,rfl,_,g,q⟩
   ·simp only[toD];rw[all ds vs ps q e1];exact e
   ·simp only[toD,aF,g,bind_some];rw[all ds vs ps q e1];exact e
  |dc ks ds=>simp[toD]at e
  |ob c xs ds=>simp[toD]at e
  |ref i=>rw[Dn]at q;exact q.elim
theorem Kv{b:Bool}(a:DB A h d v)(c:DB A h e w)(q:CI [] d e=some b):CI h v w=some b:=by
 unfold CI at q |-;obtain⟨x,e1,q⟩:=Z1.mp q;obtain⟨y,e2,q⟩:=Z1.mp q;rw[vo 16 d v x a.all e1,vo 16 e w y c.all e2];exact q
theorem Ex(a:DB A h d v):mG v=mG d:=by
 rcases a with a|⟨i,rfl,q⟩
 ·cases d<;>rw[Dn]at a
  ·subst a;rfl
  ·subst a;rfl
  ·subst a;rfl
  ·subst a;rfl
  ·obtain⟨vs,rfl,_⟩:=a;rfl
  ·rcases a with ⟨vs,rfl,_⟩|⟨i,vs,rfl,_⟩<;>rfl
  ·obtain⟨i,kvs,rfl,_⟩:=a;rfl
  ·obtain⟨i,kvs,rfl,_⟩:=a;rfl
  ·exact a.elim
 ·cases d<;>first|exact False.elim q|rfl
theorem Ey{b:Bool}(a:DB A h d v)(c:DB A h e w)(q:wU [] d e=some b):wU h v w=some b:=by
 have data:memD [] d e=some b->memD h v w=some b:=λq=>by
  unfold memD at q |-;obtain⟨x,e1,q⟩:=Z1.mp q;obtain⟨y,e2,q⟩:=Z1.mp q;rw[vo 16 e w x c.all e1,vo 16 d v y a.all e2];exact q
 exact data q
theorem Ez{b:Bool}(a:DB A h d v)(c:DB A h e w)(q:Kg d e=some b):Kg v w=some b:=by
 cases e<;>first|(cases q;done)|skip
 ·have:w=.non:=by
   rcases c with c|⟨_,_,e1⟩
   ·rw[Dn]at c;exact c
   ·exact False.elim e1
  subst this;show some (mG v)=_;rw[Ex a];exact q
 ·have:=c.bl;subst this
  cases d<;>first|(cases q;done)|skip
  have:=a.bl;subst this;exact q
theorem Nk{b:Bool}(a:DB A h d v)(c:DB A h e w)(q:cop [] o d e=some b):cop h o v w=some b:=by
 cases o with
 |eq=>exact Kv a c q
 |ne=>obtain⟨x,e1,e2⟩:=aaw.mp (show (CI [] d e).map _=some b from q);show (CI h v w).map _=_;rw[Kv a c e1];exact aaS some e2
 |isn=>exact Ez a c q
 |ntn=>obtain⟨x,e1,e2⟩:=aaw.mp (show (Kg d e).map _=some b from q);show (Kg v w).map _=_;rw[Ez a c e1];exact aaS some e2
 |t8=>exact Ey a c q
 |nin=>obtain⟨x,e1,e2⟩:=aaw.mp (show (wU [] d e).map _=some b from q);show (wU h v w).map _=_;rw[Ey a c e1];exact aaS some e2
 |lt=>obtain⟨i,j,rfl,rfl⟩:=jZ (.inl rfl) q;have:=a.int;subst this;have:=c.int;subst this;exact q
 |le=>obtain⟨i,j,rfl,rfl⟩:=jZ (.inr (.inl rfl)) q;have:=a.int;subst this;have:=c.int;subst this;exact q
 |gt=>obtain⟨i,j,rfl,rfl⟩:=jZ (.inr (.inr (.inl rfl))) q;have:=a.int;subst this;have:=c.int;subst this;exact q
 |ge=>obtain⟨i,j,rfl,rfl⟩:=jZ (.inr (.inr (.inr rfl))) q;have:=a.int;subst this;have:=c.int;subst this;exact q
theorem vp{b:Bool}(a:DB A h d v)(q:cj [] d=some b):cj h v=some b:=by
 cases d with
 |rl ds=>
  obtain⟨vs,q1,q2⟩:=a.lst;have l:=q2.length;have e:(!ds.isEmpty) = !vs.isEmpty:=by cases ds<;>cases vs<;>simp_all
  simp only[cj]at q;rw[e]at q;cases v<;>simp only[aF]at q1<;>first|(cases q1;done)|skip
  ·cases q1;exact q
  ·split at q1<;>cases q1;rename_i g;simp only[cj,g];exact q
 |tup ds=>
  obtain⟨vs,rfl,q2⟩:=a.tup;have l:=q2.length;have e:(!ds.isEmpty) = !vs.isEmpty:=by cases ds<;>cases vs<;>simp_all
  simp only[cj]at q |-;rw[<-e];exact q
 |dc ks ds=>obtain⟨i,kvs,rfl,g,hk,_⟩:=a.dc;subst hk;simp only[cj,g]at q |-;rw[<-q];cases kvs<;>rfl
 |ob c xs ds=>cases q
 |ref i=>
  rcases a with a|⟨_,_,e1⟩
  ·rw[Dn]at a;exact a.elim
  ·exact False.elim e1
 |non=>
  rcases a with a|⟨_,_,e1⟩
  ·rw[Dn]at a;subst a;exact q
  ·exact False.elim e1
 |bl b=>have:=a.bl;subst this;exact q
 |int b=>have:=a.int;subst this;exact q
 |str b=>have:=a.str;subst this;exact q
theorem Nl{n:Nat}(a:DB A h d v)(q:mH [] d=some n):mH h v=some n:=by
 cases d with
 |rl ds=>
  obtain⟨vs,q1,q2⟩:=a.lst;have l:=q2.length;simp only[mH]at q;rw[l]at q;cases v<;>simp only[aF]at q1<;>first|(cases q1;done)|skip
  ·cases q1;exact q
  ·split at q1<;>cases q1;rename_i g;simp only[mH,g];exact q
 |tup ds=>obtain⟨vs,rfl,q2⟩:=a.tup;simp only[mH]at q |-;rw[<-q2.length];exact q
 |dc ks ds=>obtain⟨i,kvs,rfl,g,hk,_⟩:=a.dc;subst hk;simp only[mH,g]at q |-;rw[<-q];simp
 |str b=>have:=a.str;subst this;exact q
 |_=>simp[mH]at q
theorem QZ{t:String}(a:DB A h d v)(q:wV [] d=some t):wV h v=some t:=by
 cases d with
 |rl ds=>
  obtain⟨vs,q1,q2⟩:=a.lst;cases v<;>simp only[aF]at q1<;>first|(cases q1;done)|skip
  ·exact q
  ·split at q1<;>cases q1;rename_i g;simp only[wV,g];exact q
 |tup ds=>obtain⟨vs,rfl,q2⟩:=a.tup;exact q
 |dc ks ds=>obtain⟨i,kvs,rfl,g,hk,_⟩:=a.dc;simp only[wV,g]at q |-;exact q
 |ob c xs ds=>cases q
 |ref i=>
  rcases a with a|⟨_,_,e1⟩
  ·rw[Dn]at a;exact a.elim
  ·exact False.elim e1
 |non=>
  rcases a with a|⟨_,_,e1⟩
  ·rw[Dn]at a;subst a;exact q
  ·exact False.elim e1
 |bl b=>have:=a.bl;subst this;exact q
 |int b=>have:=a.int;subst this;exact q
 |str b=>have:=a.str;subst this;exact q
theorem mO:∀{kvs:List (Key×Val)} {ks:List Key} {ds:List Val} {z:Val},kvs.map (·.1)=ks->ak A h ds (kvs.map (·.2))->cg (ks.zip ds) k=some z->∃v,cg kvs k=some v/\Dn A h z v
 |[],ks,ds,z,hk,q,e=>by subst hk;simp[cg]at e
 | (k',v')::kvs,ks,ds,z,hk,q,e=>by
  subst hk;have l:=q.length;cases ds with
  |nil=>simp at l
  |cons d ds=>
   simp only[map_cons]at q;rw[ak]at q;obtain⟨v,r,e1,q1,q2⟩:=q;cases e1
   by_cases hkk:k'=k
   ·subst hkk;simp[cg]at e |-;subst e;exact q1
   ·have e':cg ((kvs.map (·.1)).zip ds) k=some z:=by simpa [cg,hkk] using e
    obtain⟨w,a1,a2⟩:=mO rfl q2 e';exact⟨w,by simpa [cg,hkk] using a1,a2⟩
theorem DB.oY{j:Nat}(c:DB A h (.ref j) v):False:=by
 rcases c with c|⟨_,_,e1⟩
 ·rw[Dn]at c;exact c
 ·exact e1
theorem AM:∀{kvs:List (Key×Val)} {ds:List Val},ak A h ds (kvs.map (·.2))->cg ((kvs.map (·.1)).zip ds) k=none->cg kvs k=none
 |[],ds,q,e=>rfl
 | (k',v')::kvs,ds,q,e=>by
  cases ds with
  |nil=>rw[ak]at q;cases q
  |cons d ds=>
   rw[aac,ak]at q;obtain⟨v,r,eq,q1,q2⟩:=q;cases eq;unfold cg at e |-;rw[aac,aaW,abX]at e;rw[abX]
   by_cases hk:k'=k
   ·simp[hk]at e
   ·simp only[hk,decide_false]at e |-;exact AM q2 e
theorem zE(a:Dn A h d v)(e:keyOf d=some kk):keyOf v=some kk:=by
 cases d<;>first|(cases e;done)|skip
 ·rw[Dn]at a;subst a;exact e
 ·rw[Dn]at a;subst a;exact e
theorem Nm(a:DB A h o v)(e:zl [] o k=some r):∃r',zl h v k=some r'/\∀z z',Dn A h z z'->Dn A h (r.getD z) (r'.getD z'):=by
 cases o<;>first|(cases e;done)|(exact(DB.oY a).elim)|skip
 rename_i ks ds;obtain⟨i,kvs,rfl,g,hk,q⟩:=a.dc;cases e;have eg:zl h (.ref i) k=some (cg kvs k):=by show (match h[i]? with|some (.dct kvs)=>some (cg kvs k)|_=>none)=_;rw[g]
 refine⟨_,eg,λz z' hz=>?_⟩;cases ev:cg (ks.zip ds) k with
 |none=>subst hk;rw[AM q ev];exact hz
 |some d=>obtain⟨u,e1,e2⟩:=mO hk q ev;rw[e1];exact e2
theorem mP(a:DB A h o v)(e:lq [] o=some ks):lq h v=some ks:=by
 cases o<;>first|(cases e;done)|(exact(DB.oY a).elim)|skip
 obtain⟨i,kvs,rfl,g,hk,q⟩:=a.dc;cases e;show (match h[i]? with|some (.dct kvs)=>some (kvs.map (λkv:Key×Val=>kv.1))|_=>none)=_;rw[g];exact aaS some hk
theorem j6:∀ks:List Key,bT (ks.map zm)=true
 |[]=>rfl
 |.inl _::ks=>by rw[aac,bT,j6 ks];rfl
 |.inr _::ks=>by rw[aac,bT,j6 ks];rfl
theorem Jl{u:Unit}(a:DB A h o v)(e:DO [] o=some u):DO h v=some u:=by
 cases o<;>first|(cases e;done)|(exact(DB.oY a).elim)|skip
 obtain⟨i,kvs,rfl,g,hk,q⟩:=a.dc;show (match h[i]? with|some (.dct _)=>some ()|_=>none)=_;rw[g]
theorem Nn(a:DB A h d v)(c:Dn A h e w)(q:lK [] d e=some z):∃u,lK h v w=some u/\Dn A h z u:=by
 cases e with
 |int i=>
  rw[Dn]at c;subst c;cases d with
  |str x=>
   have:=a.str;subst this;refine⟨z,q,?_⟩;change (if x.length<=sizeLine then (jQ x.cps.toList i).map (λc=>Val.str ⟨[c].toArray⟩) else none)=some z at q;split at q
   ·obtain⟨c,_,rfl⟩:=aaw.mp q;rw[Dn]
   ·cases q
  |tup ds=>obtain⟨vs,rfl,q2⟩:=a.tup;exact q2.jQ q
  |rl ds=>
   obtain⟨vs,q1,q2⟩:=a.lst;obtain⟨u,q3,q4⟩:=q2.jQ q;refine⟨u,?_,q4⟩;cases v<;>simp only[aF]at q1<;>first|(cases q1;done)|skip
   ·cases q1;exact q3
   ·split at q1<;>cases q1;rename_i g;unfold lK;simp only[aF,g,bind_some];exact q3
  |dc ks ds=>obtain⟨i',kvs,rfl,g,hk,q2⟩:=a.dc;obtain⟨u,q3,q4⟩:=mO hk q2 q;refine⟨u,?_,q4⟩;show (match h[i']? with|some (.dct kvs)=>cg kvs (.inl i)|_=>(aF h (.ref i')).bind λxs=>jQ xs i)=_;rw[g];exact q3
  |ref j=>exact(DB.oY a).elim
  |_=>cases q
 |str x=>
  rw[Dn]at c;subst c;cases d with
  |dc ks ds=>obtain⟨i',kvs,rfl,g,hk,q2⟩:=a.dc;obtain⟨u,q3,q4⟩:=mO hk q2 q;refine⟨u,?_,q4⟩;show (match h[i']? with|some (.dct kvs)=>cg kvs (.inr x)|_=>none)=_;rw[g];exact q3
  |ref j=>exact(DB.oY a).elim
  |_=>cases q
 |_=>cases d<;>first|(cases q;done)|exact(DB.oY a).elim
theorem vq:∀{fs:List (Str×Val)} {ds:List Val},ak A h ds (fs.map (·.2))->(((fs.map (·.1)).zip ds).lookup x=none->fs.lookup x=none)/\∀z,((fs.map (·.1)).zip ds).lookup x=some z->∃u,fs.lookup x=some u/\Dn A h z u
 |[],ds,q=>⟨λ_=>rfl,λz e=>by simp at e⟩
 | (k,v)::fs,ds,q=>by
  cases ds with
  |nil=>rw[ak]at q;cases q
  |cons d ds=>
   rw[aac,ak]at q;obtain⟨w,r,eq,q1,q2⟩:=q;cases eq;rw[aac,aaW,aaB,aaB];cases hb:x==k with
   |true=>exact⟨λz=>(by cases z),λz e=>(by cases e;exact⟨v,rfl,q1⟩)⟩
   |false=>exact vq q2
theorem DB.ob{c:Nat}(e:DB A h (.ob c xs ds) v):∃i fs,v=.ref i/\h[i]?=some (.ins c fs)/\fs.map (·.1)=xs/\ak A h ds (fs.map (·.2)):=by
 rcases e with e|⟨_,_,e1⟩
 ·rw[Dn]at e;obtain⟨i,fs,rfl,_,g,k,q⟩:=e;exact⟨i,fs,rfl,g,k,q⟩
 ·exact False.elim e1
theorem Np{n:Nat}(a:DB A h o v)(e:iw n [] o x=some z):∃u,iw n h v x=some u/\Dn A h z u:=by
 cases o<;>first|(cases e;done)|(exact(DB.oY a).elim)|skip
 obtain⟨i,fs,rfl,g,hk,q⟩:=a.ob;subst hk;unfold iw at e;dsimp only at e;split at e
 ·rename_i hc;obtain⟨u,e1,e2⟩:=(vq q).2 z e;refine⟨u,?_,e2⟩;unfold iw;dsimp only;rw[g];dsimp only;rw[Z7 hc];exact e1
 ·cases e
theorem Nq{j:Nat}(a:DB A h o v)(e:kP [] o m js=some j):kP h v m js=some j:=by
 cases o<;>first|(cases e;done)|(exact(DB.oY a).elim)|skip
 obtain⟨i,fs,rfl,g,hk,q⟩:=a.ob;subst hk;unfold kP at e;dsimp only at e;split at e
 ·rename_i hc;have e1:=(vq q).1 (by simpa using hc);unfold kP;dsimp only;rw[g];dsimp only;rw[Z7 (by rw[e1];rfl)];exact e
 ·cases e
end
def Up(A:AP)(h:Hs):Prop:=∀k,h.length<=k->A (some k)
def Rel(A:AP)(h:Hs){α β:Type}(R:α -> Hs -> β -> Prop)(o:Out β):Pr α -> Prop
 |.ok a=>∃b h',o=.ok b h'/\h<+:h'/\R a h' b
 |.exc c es=>∃ws h',o=.exc c ws h'/\h<+:h'/\ak A h' es ws
 |.no=>True
def RV(A:AP)(h:Hs):FV->Hs->Val->Prop:=λx h' v=>Dn A h' x.2 v/\(x.1=true->Dn (Fr h.length) h' x.2 v)
def XO(A:AP)(h:Hs):Bool×List Val->Hs->List Val->Prop:=λx h' v=>ak A h' x.2 v/\(x.1=true->ak (Fr h.length) h' x.2 v)
def UG(A:AP):FV->Hs->Val->Prop:=λx h' v=>DB A h' x.2 v
def Jm(A:AP)(h:Hs):List Val->List Val->Prop
 |[],vs=>vs=[]
 |d::ds,vs=>∃v r,vs=v::r/\DB A h d v/\Jm A h ds r
def ER(A:AP)(aa:bC)(env:Env)(h:Hs):Prop:=∀(i:Nat) (f:Mk) (d:Val),aa[i]?=some (some (f,d)) ->
 if oq f=false then ∃a,env[i]?=some (some (.ref a))/\OD A h d a else ∃v,env[i]?=some (some v)/\Dn A h d v
section
variable {A:AP} {h h1:Hs} {α β γ δ:Type}
theorem Up.ext(u:Up A h)(p:h<+:h1):Up A h1:=λk hk=>u k (aay p.length_le hk)
theorem ER.ext(e:ER A aa env h)(p:h<+:h1):ER A aa env h1:=λi f d q=>by
 have:=e i f d q;revert this;generalize oq f=t;intro this;cases t with
 |false=>rw[Z7 rfl]at this |-;obtain⟨a,k2,k3⟩:=this;exact⟨a,k2,k3.ext p⟩
 |true=>rw[Z8 (by decide)]at this |-;obtain⟨v,k1,k2⟩:=this;exact⟨v,k1,k2.ext p⟩
theorem ah(r:Rel A h R (m h) p)(k:∀a h1 b,h<+:h1->R a h1 b->Rel A h1 R' (f b h1) (F a)):Rel A h R' (bnd m f h) (pb p F):=by
 unfold bnd;cases p with
 |ok a=>
  obtain⟨b,h1,e,q,r⟩:=r;rw[e];show Rel A h R' (f b h1) (F a);have:=k a h1 b q r;cases e2:F a with
  |ok c=>rw[e2]at this;obtain⟨d,h2,e3,q2,r2⟩:=this;exact⟨d,h2,e3,q.trans q2,r2⟩
  |exc c es=>rw[e2]at this;obtain⟨d,h2,e3,q2,r2⟩:=this;exact⟨d,h2,e3,q.trans q2,r2⟩
  |no=>trivial
 |exc c es=>obtain⟨ws,h1,e,q,r⟩:=r;rw[e];exact⟨ws,h1,rfl,q,r⟩
 |no=>trivial
theorem aC(r:R a h b):Rel A h R (ret b h) (.ok a):=⟨b,h,rfl,aar _,r⟩
theorem bx(r:∀a,o=some a->∃b,o'=some b/\R a h b):Rel A h R (bG o' h) (pl o):=by
 cases o with
 |none=>trivial
 |some a=>obtain⟨b,rfl,q⟩:=r a rfl;exact⟨b,h,rfl,aar _,q⟩
theorem bL(r:∀a,o=some a->∃b,f h=some b/\R a h b):Rel A h R (ask f h) (pl o):=bx r
theorem bQ{c c':Bool}(e:c=true->c'=true)(r:c=true->Rel A h R (m h) p):Rel A h R (aE c' m h) (pg c p):=by
 unfold aE pg;cases c with
 |true=>rw[Z7 (e rfl),Z7 rfl];exact r rfl
 |false=>rw[Z8 Z0];trivial
theorem xG(r:Rel A h R o p)(k:∀a h' b,h<+:h'->R a h' b->R' a h' b):Rel A h R' o p:=by
 cases p with
 |ok a=>obtain⟨b,h',e,q,r⟩:=r;exact⟨b,h',e,q,k a h' b q r⟩
 |exc c es=>exact r
 |no=>trivial
theorem bN(o:Ob):h<+:h++[o]:=aaO _ _
theorem iP(o:Ob):(h++[o])[h.length]?=some o:=by simp
theorem fO{f:Bool}{h0:Hs}(u:Up A h)(p:h0<+:h)(q:ak A h xs vs)(g:f=true->ak (Fr h0.length) h xs vs):Rel A h (RV A h0) (new (.lst vs) h) (.ok (f,.rl xs)):=by
 refine⟨_,_,rfl,bN _,?_,λhf=>?_⟩
 ·show Dn A _ (.rl xs) _;rw[Dn];exact .inr ⟨_,vs,rfl,u _ (aaa _),iP _,q.ext (bN _)⟩
 ·show Dn _ _ (.rl xs) _;rw[Dn];exact .inr ⟨_,vs,rfl,p.length_le,iP _,(g hf).ext (bN _)⟩
theorem ou{h0:Hs}(q:Dn A h d v):RV A h0 (jb d,d) h v:=⟨q,λhi=>(eL d v hi).mpr ((eL d v hi).mp q)⟩
theorem gF(q:ak A h ds vs)(hi:bT ds=true):ak A' h' ds vs:=(aQ ds vs hi).mpr ((aQ ds vs hi).mp q)
theorem jl{i:Int}{h0:Hs}{f:Bool}:RV A h0 (f,.int i) h (.int i):=⟨by rw[Dn],λ_=>by rw[Dn]⟩
theorem oZ{i:Bool}{h0:Hs}{f:Bool}:RV A h0 (f,.bl i) h (.bl i):=⟨by rw[Dn],λ_=>by rw[Dn]⟩
theorem Nr{h0:Hs}{f:Bool}:RV A h0 (f,.str i) h (.str i):=⟨by rw[Dn],λ_=>by rw[Dn]⟩
theorem RV.br{h0:Hs}(r:RV A h0 x h v):UG A x h v:=.inl r.1
theorem Jo(ho:o≠.add)(v w:Val):(∃i j,v=.int i/\w=.int j)\/j5 o v w=.no:=by
 cases v with
 |int i=>
  cases w with
  |int j=>exact .inl ⟨i,j,rfl,rfl⟩
  |_=>right;cases o<;>first|rfl|exact absurd rfl ho
 |_=>right;cases o<;>first|rfl|exact absurd rfl ho
theorem AN{h0:Hs}(u:Up A h)(p:h0<+:h)(a:DB A h d v)(c:DB A h e w):Rel A h (RV A h0) (Kf o v w h) (j5 o d e):=by
 have ii:o≠.add->(∃i j,d=.int i/\e=.int j)\/j5 o d e=.no:=λho=>Jo ho d e;cases o with
 |add=>
  cases d<;>cases e<;>first|trivial|skip
  ·have:=a.int;subst this;have:=c.int;subst this;exact aC jl
  ·have:=a.str;subst this;have:=c.str;subst this;exact bQ (λz=>z) λ_=>aC Nr
  ·rename_i xs ys
   obtain⟨vs,rfl,q1⟩:=a.tup;obtain⟨ws,rfl,q2⟩:=c.tup;have l1:=q1.length;have l2:=q2.length;refine bQ (λz=>?_) λ_=>aC ⟨?_,λhi=>?_⟩
   ·rw[l1,l2]at z
    have:xs.isEmpty=vs.isEmpty:=by cases xs<;>cases vs<;>simp_all
    rw[<-this];exact z
   ·show Dn A h (.tup _) _;rw[Dn];exact⟨_,rfl,q1.append q2⟩
   ·show Dn _ h (.tup _) _;rw[Dn];exact⟨_,rfl,gF (q1.append q2) hi⟩
  ·rename_i xs ys
   obtain⟨vs,e1,q1⟩:=a.lst;obtain⟨ws,e2,q2⟩:=c.lst;have eb:Kf .add v w=bnd (ask λh=>aF h v) λa=>bnd (ask λh=>aF h w) λb=>aE (decide (a.length+b.length<=sizeLine)) (new (.lst (a++b))):=by
    cases v<;>simp only[aF]at e1<;>first|(cases e1;done)|skip
    all_goals cases w<;>simp only[aF]at e2<;>first|(cases e2;done)|rfl
   have ev:Kf .add v w h=aE (decide (vs.length+ws.length<=sizeLine)) (new (.lst (vs++ws))) h:=by rw[eb];unfold bnd ask bG;dsimp only;rw[e1];dsimp only;rw[e2]
   rw[ev];refine bQ (λz=>?_) λ_=>fO u p (q1.append q2) λhi=>gF (q1.append q2) hi;rw[<-q1.length,<-q2.length];exact z
 |_=>
  rcases ii (by intro z;cases z) with ⟨i,j,rfl,rfl⟩|z
  case inr=>rw[z];trivial
  have:=a.int;subst this;have:=c.int;subst this
  first
   |exact aC jl
   |exact bQ (λz=>z) λ_=>aC jl
theorem Jp{lo hi:Option Int}{h0:Hs}(u:Up A h)(p:h0<+:h)(a:DB A h d v):Rel A h (RV A h0) (sS v lo hi h) (zC d lo hi):=by
 cases d with
 |tup ds=>
  obtain⟨vs,rfl,q⟩:=a.tup;have l:=q.length;simp only[zC,sS];refine bQ (λz=>?_) λ_=>aC ⟨?_,λhi=>?_⟩
  ·rw[l]at z;exact z
  ·show Dn A h (.tup _) _;rw[Dn];exact⟨_,rfl,q.cut lo hi⟩
  ·show Dn _ h (.tup _) _;rw[Dn];exact⟨_,rfl,gF (q.cut _ _) hi⟩
 |rl ds=>
  obtain⟨vs,e1,q⟩:=a.lst;have ev:sS v lo hi h=new (.lst (cA vs lo hi)) h:=by
   have:sS v lo hi=bnd (ask λh=>aF h v) λxs=>new (.lst (cA xs lo hi)):=by cases v<;>simp only[aF]at e1<;>first|(cases e1;done)|rfl
   rw[this];unfold bnd ask bG;dsimp only;rw[e1]
  rw[ev];exact fO u p (q.cut lo hi) λhh=>gF (q.cut lo hi) hh
 |_=>trivial
theorem Jm.one(e:Jm A h [d] vs):∃v,vs=[v]/\DB A h d v:=by
 obtain⟨v,r,rfl,a,b⟩:=e;cases (show r=[] from b);exact⟨v,rfl,a⟩
theorem EA(q:ak A h ds vs)(e:fq ds=some ns):vs=ds:=by
 have:bT ds=true:=by
  clear q
  induction ds generalizing ns with
  |nil=>rfl
  |cons d ds ih=>
   simp only[fq,cz]at e;obtain⟨i,e1,e⟩:=Z1.mp e;obtain⟨is,e2,e⟩:=Z1.mp e;cases d<;>first|(cases e1;done)|skip
   rw[bT,jb,abH];exact ih e2
 exact(aQ ds vs this).mp q
theorem qY:∀{ds:List Val} {ns:List Int},bX ds=some ns->bT ds=true
 |[],_,_=>rfl
 | d::ds,ns,e=>by
  simp only[bX,cz]at e;obtain⟨i,e1,e⟩:=Z1.mp e;obtain⟨is,e2,e⟩:=Z1.mp e;cases d<;>first|(cases e1;done)|skip
  rw[bT,jb,abH];exact qY (show bX ds=some is from e2)
theorem xH:∀{ds:List Val} {ns:List (List Int)},lg ds=some ns->bT ds=true
 |[],_,_=>rfl
 | d::ds,ns,e=>by
  simp only[lg,cz]at e;obtain⟨i,e1,e⟩:=Z1.mp e;obtain⟨is,e2,e⟩:=Z1.mp e;cases d<;>first|(cases e1;done)|skip
  rename_i vs;dsimp only at e1;split at e1
  ·cases e1
  ·rw[bT,jb,qY e1,abH];exact xH (show lg ds=some is from e2)
theorem aS:∀ns:List Int,bT (ns.map .int)=true
 |[]=>rfl
 |n::ns=>by rw[aac,bT,jb,abH];exact aS ns
theorem mQ:∀pQ:List (List Int),bT (pQ.map mF)=true
 |[]=>rfl
 |n::ns=>by rw[aac,bT,mF,jb,aS,abH];exact mQ ns
theorem uq(e:dD xs=some ys):bT xs=true/\bT ys=true:=by
 unfold dD at e;split at e
 ·cases e2:bX xs with
  |some ns=>rw[e2]at e;cases e;exact⟨qY e2,aS _⟩
  |none=>rw[e2]at e;obtain⟨pQ,e3,e4⟩:=Z1.mp e;cases e4;exact⟨xH e3,mQ _⟩
 ·cases e
theorem Jq{h0:Hs}(u:Up A h)(p:h0<+:h)(a:Jm A h ds vs):Rel A h (RV A h0) (blt b vs h) (gT b ds):=by
 match ds,a with
 |[],a=>cases b<;>trivial
 |[d],a=>
  obtain⟨v,rfl,hv⟩:=a.one;cases b with
  |len=>exact ah (R:=λn _ m=>m=n) (bL λn e=>⟨n,Nl hv e,rfl⟩) λn h1 m _ e=>by subst e;exact aC jl
  |min=>cases d<;>trivial
  |max=>cases d<;>trivial
  |sorted=>
   cases d<;>first|trivial|skip
   rename_i xs;obtain⟨ws,e1,q⟩:=hv.lst;have ev:bnd (ask λh=>aF h v) (λxs=>bnd (bG (dD xs)) λys=>new (.lst ys)) h=bnd (bG (dD ws)) (λys=>new (.lst ys)) h:=by unfold bnd ask bG;dsimp only;rw[e1]
   show Rel A h (RV A h0) (bnd (ask λh=>aF h v) (λxs=>bnd (bG (dD xs)) λys=>new (.lst ys)) h) _;rw[ev];refine ah (R:=λys _ zs=>zs=ys/\bT ys=true) (bx λys e=>?_) λys h1 zs q1 hz=>?_
   ·obtain⟨i1,i2⟩:=uq e;rw[(aQ xs ws i1).mp q];exact⟨ys,e,rfl,i2⟩
   ·obtain⟨rfl,hi⟩:=hz;exact fO (u.ext q1) (p.trans q1) ((aQ _ _ hi).mpr rfl) λ_=>(aQ _ _ hi).mpr rfl
  |list=>refine ah (R:=λxs h' ws=>ak A h' xs ws) (bL λxs e=>hv.seq e) λxs h1 ws q1 q=>?_;exact fO (u.ext q1) (p.trans q1) q λhi=>gF q hi
  |tuple=>trivial
  |str=>trivial
  |int=>
   cases d<;>first|trivial|skip
   ·have:=hv.bl;subst this;exact aC jl
   ·have:=hv.int;subst this;exact aC jl
  |all=>
   cases d<;>first|trivial|skip
   rename_i xs;obtain⟨ws,e1,q⟩:=hv.lst;have ev:bnd (ask λh=>aF h v) (λxs=>bnd (bG (fq xs)) λbs=>ret (Val.bl (bs.all id))) h=bnd (bG (fq ws)) (λbs=>ret (Val.bl (bs.all id))) h:=by unfold bnd ask bG;dsimp only;rw[e1]
   show Rel A h (RV A h0) (bnd (ask λh=>aF h v) (λxs=>bnd (bG (fq xs)) λbs=>ret (Val.bl (bs.all id))) h) _;rw[ev];exact ah (R:=λys _ zs=>zs=ys) (bx λys e=>⟨ys,by rw[EA q e];exact e,rfl⟩) λys h1 zs q1 hz=>by subst hz;exact aC oZ
  |any=>trivial
  |isin T=>refine ah (R:=λn _ m=>m=n) (bL λn e=>⟨n,QZ hv e,rfl⟩) λn h1 m _ e=>?_;subst e;exact ah (R:=λn _ m=>m=n) (bx λn e=>⟨n,e,rfl⟩) λn h1 m _ e=>by subst e;exact aC oZ
 |[d,e],a=>
  obtain⟨v,r,rfl,hv,hr⟩:=a;obtain⟨w,rfl,hw⟩:=Jm.one hr;cases b<;>first|trivial|(cases d<;>trivial)|skip
  ·cases d<;>cases e<;>first|trivial|skip
   have:=hv.int;subst this;have:=hw.int;subst this;exact aC jl
  ·cases d<;>cases e<;>first|trivial|skip
   have:=hv.int;subst this;have:=hw.int;subst this;exact aC jl
 |x::y::z::t,a=>cases b<;>first|trivial|(cases x<;>trivial)|(cases x<;>cases y<;>trivial)
end
def Imp(φ:List Val->M Val)(ψ:List Val->Pr FV):Prop:=∀(A:AP) (h:Hs) (ds vs:List Val),Up A h->ak A h ds vs->Rel A h (RV A h) (φ vs h) (ψ ds)
section
variable {Φ:Nat->List Val->M Val} {Ψ:Nat->List Val->Pr FV} {A:AP} {h h1:Hs}
theorem gn{x y:Bool}(f:(x&&y)=true):x=true/\y=true:=Bool.and_eq_true_iff.mp f
theorem vv{x y z:Bool}(f:(x&&y&&z)=true):(x=true/\y=true)/\z=true:=⟨gn (gn f).1,(gn f).2⟩
def bW(Φ:Nat->List Val->M Val)(Ψ:Nat->List Val->Pr FV)(ir:IE):Prop:=∀(aa:bC) (env:Env) (A:AP) (h:Hs),Up A h->ER A aa env h->Rel A h (RV A h) (aB Φ ir env h) (bH Ψ ir aa)
def kR(Φ:Nat->List Val->M Val)(Ψ:Nat->List Val->Pr FV)(dY:mD):Prop:=(∀(aa:bC) (env:Env) (A:AP) (h:Hs),Up A h->ER A aa env h->Rel A h (XO A h) (aK Φ dY env h) (vj Ψ dY aa)) /\
 ∀(aa:bC) (env:Env) (A:AP) (h:Hs),Up A h->ER A aa env h->Rel A h (λds h' vs=>Jm A h' ds vs) (aK Φ dY env h) (gm Ψ dY aa)
theorem RV.up{h0 h':Hs}(p:h0<+:h)(r:RV A h x h' v):RV A h0 x h' v:=⟨r.1,λf=>(r.2 f).wid (Fr.le p.length_le)⟩
theorem EB{h0:Hs}(p:h0<+:h)(r:Rel A h (RV A h) o x):Rel A h (RV A h0) o x:=xG r λ_ _ _ _ q=>q.up p
theorem Q0{i:Nat}(e:ER A aa env h):Rel A h (UG A) (aB Φ (.var i) env h) (pl (gU aa (.var i))):=by
 rw[aB];refine bx λx hx=>?_;simp only[gU]at hx;split at hx
 ·rename_i f d hd
  cases hx;have:=e i f d hd;revert this;generalize oq f=t;intro this;cases t with
  |false=>rw[Z7 rfl]at this;obtain⟨a,k2,k3⟩:=this;exact⟨.ref a,by rw[k2],.inr ⟨a,rfl,k3⟩⟩
  |true=>rw[Z8 (by decide)]at this;obtain⟨v,k1,k2⟩:=this;exact⟨v,by rw[k1],.inl k2⟩
 ·cases hx
theorem jN(o:bW Φ Ψ ir)(u:Up A h)(e:ER A aa env h):Rel A h (UG A) (aB Φ ir env h) (if isVar ir=true then pl (gU aa ir) else bH Ψ ir aa):=by
 by_cases hv:isVar ir=true
 ·rw[Z7 hv];cases ir<;>first|(cases hv;done)|exact Q0 e
 ·rw[Z8 hv];exact xG (o aa env A h u e) λ_ _ _ _ q=>q.br
theorem Jr{α β:Type}{R:α -> Hs -> β -> Prop}{c:Bool}{o:Out β}{p:Pr α}(r:c=true->Rel A h R o p):Rel A h R o (pg c p):=by
 unfold pg;cases c with
 |true=>rw[Z7 rfl];exact r rfl
 |false=>rw[Z8 Z0];trivial
theorem v_var{i:Nat}:bW Φ Ψ (.var i):=λaa env A h u e=>by
 rw[aB,bH];cases hv:aa[i]? with
 |none=>trivial
 |some o=>
  cases o with
  |none=>trivial
  |some fd=>
   obtain⟨f,d⟩:=fd;refine Jr λhf=>?_
   ·have:=e i f d hv;rw[Z8 (by simp[hf])]at this;obtain⟨v,k1,k2⟩:=this;rw[k1];exact⟨v,h,rfl,aar _,ou k2⟩
theorem AO{α:Type}{f:Hs->Option α}:ask f h=bnd (ask f) (λz=>ret z) h:=by unfold bnd ask bG;cases f h<;>rfl
theorem AQ(f:jb d=true):Dn A h d d:=(eL d d f).mpr rfl
theorem Q2(f:jb d=true):bW Φ Ψ (.cst d):=λaa env A h u e=>by rw[aB,bH];exact aC (ou (AQ f))
theorem Q3(f:jb d=true):bW Φ Ψ (.con x d):=λaa env A h u e=>by rw[aB,bH];exact aC (ou (AQ f))
theorem UH:bW Φ Ψ .no:=λaa env A h u e=>by rw[bH];trivial
theorem Q4(ha:bW Φ Ψ a)(hb:bW Φ Ψ b):bW Φ Ψ (.bin o a b):=λaa env A h u e=>by
 rw[aB,bH];exact ah (jN ha u e) λx h1 v p1 q1=>ah (jN hb (u.ext p1) (e.ext p1)) λy h2 w p2 q2=>AN ((u.ext p1).ext p2) (p1.trans p2) (DB.ext p2 q1) q2
theorem Q5(ha:bW Φ Ψ a):bW Φ Ψ (.neg a):=λaa env A h u e=>by
 rw[aB,bH];refine ah (ha aa env A h u e) λx h1 v p1 q1=>?_;obtain⟨f,d⟩:=x;have q:=q1.1;cases d<;>dsimp only<;>first|trivial|skip
 dsimp only at q;rw[Dn]at q;subst q;exact aC jl
theorem Q6(ha:bW Φ Ψ a)(hb:bW Φ Ψ b):bW Φ Ψ (.cmp o a b):=λaa env A h u e=>by
 rw[aB,bH];exact ah (jN ha u e) λx h1 v p1 q1=>ah (jN hb (u.ext p1) (e.ext p1)) λy h2 w p2 q2=>
  ah (R:=λt _ t'=>t'=t) (bL λt et=>⟨t,Nk (DB.ext p2 q1) q2 et,rfl⟩) λt h3 t' p3 et=>by subst et;exact aC oZ
theorem Q7(ha:bW Φ Ψ a)(hb:bW Φ Ψ b)(hc:bW Φ Ψ c):bW Φ Ψ (.chn o o' a b c):=λaa env A h u e=>by rw[bH];trivial
theorem j7(q:Dn A h d v):Rel A h (λt _ t'=>t'=t) (qG v h) (qW d):=by
 cases d<;>first|trivial|skip
 rw[Dn]at q;subst q;exact aC rfl
theorem v_and(ha:bW Φ Ψ a)(hb:bW Φ Ψ b):bW Φ Ψ (.and a b):=λaa env A h u e=>by
 rw[aB,bH];refine ah (ha aa env A h u e) λx h1 v p1 q1=>ah (j7 q1.1) λt h2 t' p2 et=>?_;subst et;cases t' with
 |true=>rw[Z7 rfl,Z7 rfl];exact ah (hb aa env A h2 ((u.ext p1).ext p2) ((e.ext p1).ext p2)) λy h3 w p3 q3=>ah (j7 q3.1) λt h2 t' p2 et=>by subst et;exact aC oZ
 |false=>rw[Z8 Z0,Z8 Z0];exact aC oZ
theorem v_or(ha:bW Φ Ψ a)(hb:bW Φ Ψ b):bW Φ Ψ (.or a b):=λaa env A h u e=>by
 rw[aB,bH];refine ah (ha aa env A h u e) λx h1 v p1 q1=>ah (j7 q1.1) λt h2 t' p2 et=>?_;subst et;cases t' with
 |false=>rw[Z8 Z0,Z8 Z0];exact ah (hb aa env A h2 ((u.ext p1).ext p2) ((e.ext p1).ext p2)) λy h3 w p3 q3=>ah (j7 q3.1) λt h2 t' p2 et=>by subst et;exact aC oZ
 |true=>rw[Z7 rfl,Z7 rfl];exact aC oZ
theorem v_not(ha:bW Φ Ψ a):bW Φ Ψ (.not a):=λaa env A h u e=>by
 rw[aB,bH];exact ah (ha aa env A h u e) λx h1 v p1 q1=>ah (j7 q1.1) λt h2 t' p2 et=>by subst et;exact aC oZ
theorem v_ite(hc:bW Φ Ψ c)(ha:bW Φ Ψ a)(hb:bW Φ Ψ b):bW Φ Ψ (.ite c a b):=λaa env A h u e=>by rw[bH];trivial
theorem Kw:kR Φ Ψ .nil:=⟨λaa env A h u e=>by rw[aK,vj];exact aC ⟨ak.nil,λ_=>ak.nil⟩,λaa env A h u e=>by rw[aK,gm];exact aC rfl⟩
theorem EC(he:bW Φ Ψ e)(hs:kR Φ Ψ es):kR Φ Ψ (.cons e es):=by
 refine⟨λaa env A h u er=>?_,λaa env A h u er=>?_⟩
 ·rw[aK,vj]
  refine ah (he aa env A h u er) λx h1 v p1 q1=>ah (hs.1 aa env A h1 (u.ext p1) (er.ext p1)) λy h2 vs p2 q2=>?_;refine aC ⟨ak.cons (q1.1.ext p2) q2.1,λhf=>?_⟩;have hf':x.1=true/\y.1=true:=by simpa using hf
  exact ak.cons ((q1.2 hf'.1).ext p2) ((q2.2 hf'.2).wid (Fr.le p1.length_le))
 ·rw[aK,gm];refine ah (jN he u er) λx h1 v p1 q1=>ah (hs.2 aa env A h1 (u.ext p1) (er.ext p1)) λy h2 vs p2 q2=>?_;exact aC ⟨v,vs,rfl,DB.ext p2 q1,q2⟩
theorem Q8(hs:kR Φ Ψ es):bW Φ Ψ (.tup es):=λaa env A h u e=>by
 rw[aB,bH];refine ah (hs.1 aa env A h u e) λx h1 vs p1 q1=>bQ (λz=>by rw[<-q1.1.length];exact z) λ_=>aC ⟨?_,λhf=>?_⟩
 ·show Dn A h1 (.tup _) _;rw[Dn];exact⟨vs,rfl,q1.1⟩
 ·show Dn _ h1 (.tup _) _;rw[Dn];exact⟨vs,rfl,q1.2 hf⟩
theorem Nt:bW Φ Ψ .dct0:=λaa env A h u e=>by
 rw[aB,bH];refine⟨_,_,rfl,bN _,?_,λhf=>?_⟩
 ·show Dn A _ (.dc [] []) _;rw[Dn];exact⟨_,[],rfl,u _ (aaa _),iP _,rfl,ak.nil⟩
 ·show Dn _ _ (.dc [] []) _;rw[Dn];exact⟨_,[],rfl,aaa _,iP _,rfl,ak.nil⟩
theorem Nu(hk:bW Φ Ψ k)(hv:bW Φ Ψ v):bW Φ Ψ (.dct1 k v):=λaa env A h u e=>by
 rw[aB,bH];refine ah (hk aa env A h u e) λx h1 w p1 q1=>ah (R:=λkk _ kk'=>kk'=kk) (bx λkk ek=>⟨kk,zE q1.1 ek,rfl⟩) λkk h2 kk' p2 hkk=>?_;subst hkk;refine ah (hv aa env A h2 ((u.ext p1).ext p2) ((e.ext p1).ext p2)) λy h3 z p3 q3=>?_;have p:=(p1.trans p2).trans p3;refine⟨_,_,rfl,bN _,?_,λhf=>?_⟩
 ·show Dn A _ (.dc [kk'] [y.2]) _;rw[Dn];exact⟨_,[(kk',z)],rfl,u _ p.length_le,iP _,rfl,ak.cons (q3.1.ext (bN _)) ak.nil⟩
 ·show Dn _ _ (.dc [kk'] [y.2]) _;rw[Dn];exact⟨_,[(kk',z)],rfl,p.length_le,iP _,rfl,ak.cons (((q3.2 hf).wid (Fr.le (p1.trans p2).length_le)).ext (bN _)) ak.nil⟩
theorem Nv(hd:bW Φ Ψ d)(hk:bW Φ Ψ k)(hx:bW Φ Ψ x):bW Φ Ψ (.dget d k x):=λaa env A h u e=>by
 rw[aB,bH];refine ah (jN hd u e) λo h1 v p1 q1=>ah (R:=λ_ _ _=>True) (bL λt et=>⟨t,Jl q1 et,trivial⟩) λ_ h2 _ p2 _=>?_;refine ah (hk aa env A h2 ((u.ext p1).ext p2) ((e.ext p1).ext p2)) λi h3 w p3 q3=>ah (R:=λkk _ kk'=>kk'=kk) (bx λkk ek=>⟨kk,zE q3.1 ek,rfl⟩) λkk h4 kk' p4 hkk=>?_;subst hkk;have VN:=((p1.trans p2).trans p3).trans p4;refine ah (hx aa env A h4 (u.ext VN) (e.ext VN)) λz h5 z' p5 q5=>?_;refine ah (R:=λr h' r'=>∀a b,Dn A h5 a b->Dn A h' (r.getD a) (r'.getD b)) (bL λr er=>?_) λr h6 r' p6 hr=>aC (ou (hr _ _ q5.1));obtain⟨r',e1,e2⟩:=Nm (DB.ext ((p2.trans p3).trans (p4.trans p5)) q1) er;exact⟨r',e1,e2⟩
theorem Js(hd:bW Φ Ψ d):bW Φ Ψ (.lkeys d):=λaa env A h u e=>by
 rw[aB,bH];refine ah (jN hd u e) λo h1 v p1 q1=>ah (R:=λks _ ks'=>ks'=ks) (bL λks ek=>⟨ks,mP q1 ek,rfl⟩) λks h2 ks' p2 hk=>?_;subst hk;exact fO ((u.ext p1).ext p2) (p1.trans p2) ((aQ _ _ (j6 ks')).mpr rfl) λ_=>(aQ _ _ (j6 ks')).mpr rfl
theorem Jt(hd:bW Φ Ψ d):bW Φ Ψ (.skeys d):=λaa env A h u e=>by
 rw[aB,bH];refine ah (jN hd u e) λo h1 v p1 q1=>ah (R:=λns _ ns'=>ns'=ns) (bL λns en=>⟨ns,?_,rfl⟩) λns h2 ns' p2 hk=>?_
 ·unfold jX at en |-;obtain⟨ks,e1,e2⟩:=Z1.mp en;rw[mP q1 e1];exact e2
 ·subst hk;exact fO ((u.ext p1).ext p2) (p1.trans p2) ((aQ _ _ (aS ns')).mpr rfl) λ_=>(aQ _ _ (aS ns')).mpr rfl
theorem j8:∀{xs:List Val} {ns:List Int},bX xs=some ns->xs=ns.map .int
 |[],ns,e=>by cases e;rfl
 | x::xs,ns,e=>by
  unfold bX at e;rw[cz]at e;obtain⟨i,e1,e⟩:=Z1.mp e;obtain⟨r,e2,e⟩:=Z1.mp e;cases e;cases x<;>simp at e1;subst e1;rw[j8 e2];rfl
theorem Nx{p q:Nat}(hd:bW Φ Ψ d)(hw:bW Φ Ψ w):bW Φ Ψ (.dflt N' js p q d w):=λaa env A h u e=>by
 rw[aB,bH];refine ah (jN hd u e) λo h1 v p1 q1=>ah (R:=λks _ ks'=>ks'=ks) (bL λks ek=>⟨ks,mP q1 ek,rfl⟩) λks h2 ks' p2 hk=>?_;subst hk;refine ah (jN hw ((u.ext p1).ext p2) ((e.ext p1).ext p2)) λx h3 z p3 q3=>ah (R:=λns _ ns'=>ns'=ns) (bL λns en=>⟨ns,?_,rfl⟩) λns h4 ns' p4 hk=>?_
 ·unfold qF at en |-
  obtain⟨ZU,e1,VO⟩:=Z1.mp en;obtain⟨xs,e2,VP⟩:=Z1.mp VO;obtain⟨ms,e3,XQ⟩:=Z1.mp VP;clear en VO VP;obtain⟨f,d⟩:=x;cases d<;>first|(cases e2;done)|skip
  cases e2;obtain⟨vs,e4,e5⟩:=DB.lst q3;rw[j8 e3]at e5;rw[e1,e4,(aQ _ _ (aS ms)).mp e5,<-j8 e3];show ((bX _).bind _)=_;rw[e3];exact XQ
 ·subst hk;exact fO ((((u.ext p1).ext p2).ext p3).ext p4) (((p1.trans p2).trans p3).trans p4) ((aQ _ _ (aS ns')).mpr rfl) λ_=>(aQ _ _ (aS ns')).mpr rfl
theorem Q9(ha:bW Φ Ψ a):bW Φ Ψ (.isc a x bs):=λaa env A h u e=>by rw[bH];trivial
theorem Ny(ha:bW Φ Ψ a):bW Φ Ψ (.sset a):=λaa env A h u e=>by
 rw[aB,bH];refine ah (jN ha u e) λx h1 v p1 q1=>?_;obtain⟨f,d⟩:=x;cases d<;>first|trivial|skip
 rename_i xs;obtain⟨vs,e1,e2⟩:=DB.lst q1;have ea:∀(F:List Val->M Val),bnd (ask λh=>aF h v) F h1=F vs h1:=λF=>by unfold bnd ask bG;dsimp only;rw[e1]
 rw[ea];show Rel A h1 _ _ (pb (pl (bX xs)) _);refine ah (R:=λns h' ns'=>ns'=ns) (bx λns en=>⟨ns,?_,rfl⟩) λns h2 ns' p2 en=>?_
 ·have ei:=j8 en;subst ei;rw[(aQ _ _ (aS ns)).mp e2];exact en
 ·subst en;refine bQ (λz=>z) λ_=>?_;have hi:∀ms:List Int,ak A h2 (ms.map Val.int) (ms.map Val.int):=λms=>(aQ _ _ (aS ms)).mpr rfl;exact fO ((u.ext p1).ext p2) (p1.trans p2) (hi _) λ_=>(aQ _ _ (aS _)).mpr rfl
theorem Ra(hs:kR Φ Ψ es):bW Φ Ψ (.lst es):=λaa env A h u e=>by
 rw[aB,bH];exact ah (hs.1 aa env A h u e) λx h1 vs p1 q1=>bQ (λz=>by rw[<-q1.1.length];exact z) λ_=>fO (u.ext p1) p1 q1.1 q1.2
theorem Rb(ha:bW Φ Ψ a)(hb:bW Φ Ψ b):bW Φ Ψ (.idx a b):=λaa env A h u e=>by
 rw[aB,bH];refine ah (jN ha u e) λx h1 v p1 q1=>ah (hb aa env A h1 (u.ext p1) (e.ext p1)) λy h2 w p2 q2=>?_;rw[AO];exact ah (R:=λz h' z'=>Dn A h' z z') (bL λz ez=>Nn (DB.ext p2 q1) q2.1 ez) λz h3 z' p3 q3=>aC (ou q3)
theorem mR(o:bW Φ Ψ ir)(u:Up A h)(e:ER A aa env h) :
  Rel A h (λ(t:Option Int) _ t'=>t'=t) ((if cX ir=true then ret none else bnd (aB Φ ir env) λv=>bnd (bG (jB v)) λi=>ret (some i)) h) (if cX ir=true then .ok none else pb (bH Ψ ir aa) λv=>pb (pl (jB v.2)) λi=>.ok (some i)):=by
 by_cases hn:cX ir=true
 ·rw[Z7 hn,Z7 hn];exact aC rfl
 ·rw[Z8 hn,Z8 hn]
  refine ah (o aa env A h u e) λx h1 v p1 q1=>ah (R:=λt _ t'=>t'=t) (bx λi ei=>?_) λt h2 t' p2 et=>by subst et;exact aC rfl
  obtain⟨f,d⟩:=x;have q:=q1.1;cases d<;>first|(cases ei;done)|skip
  dsimp only at q;rw[Dn]at q;subst q;exact⟨i,ei,rfl⟩
theorem Rc(ha:bW Φ Ψ a)(hl:bW Φ Ψ lo)(hh:bW Φ Ψ hi):bW Φ Ψ (.slc a lo hi):=λaa env A h u e=>by
 rw[aB,bH];refine ah (jN ha u e) λx h1 v p1 q1=>ah (mR hl (u.ext p1) (e.ext p1)) λl h2 l' p2 el=>ah (mR hh ((u.ext p1).ext p2) ((e.ext p1).ext p2)) λr h3 r' p3 er=>?_;subst el;subst er;exact Jp (((u.ext p1).ext p2).ext p3) ((p1.trans p2).trans p3) (DB.ext (p2.trans p3) q1)
theorem Rf(ha:bW Φ Ψ a)(hs:bW Φ Ψ sx):bW Φ Ψ (.rev a sx):=λaa env A h u e=>by rw[bH];trivial
theorem Nz{j:Nat}(hΦ:∀j,Imp (Φ j) (Ψ j))(hs:kR Φ Ψ es):bW Φ Ψ (.call j es):=λaa env A h u e=>by
 rw[aB,bH];exact ah (hs.1 aa env A h u e) λx h1 vs p1 q1=>EB p1 (hΦ j A h1 x.2 vs (u.ext p1) q1.1)
theorem Rg{n:Nat}(ha:bW Φ Ψ a):bW Φ Ψ (.fld n a x):=λaa env A h u e=>by
 rw[aB,bH];refine ah (jN ha u e) λo h1 v p1 q1=>?_;rw[AO];exact ah (R:=λz h' z'=>Dn A h' z z') (bL λz ez=>Np q1 ez) λz h3 z' p3 q3=>aC (ou q3)
theorem Rh(hΦ:∀j,Imp (Φ j) (Ψ j))(ha:bW Φ Ψ a)(hs:kR Φ Ψ es):bW Φ Ψ (.mth a m js es):=λaa env A h u e=>by
 rw[aB,bH];refine ah (ha aa env A h u e) λo h1 v p1 q1=>ah (R:=λj _ j'=>j'=j) (bL λj ej=>⟨j,Nq (.inl q1.1) ej,rfl⟩) λj h2 j' p2 hj=>?_;subst hj;exact ah (hs.1 aa env A h2 ((u.ext p1).ext p2) ((e.ext p1).ext p2)) λx h3 vs p3 q3=>EB ((p1.trans p2).trans p3) (hΦ j' A h3 (o.2::x.2) (v::vs) (((u.ext p1).ext p2).ext p3) (ak.cons (q1.1.ext (p2.trans p3)) q3.1))
theorem Ri(hs:kR Φ Ψ es):bW Φ Ψ (.blt b es):=λaa env A h u e=>by
 rw[aB,bH];exact ah (hs.2 aa env A h u e) λx h1 vs p1 q1=>Jq (u.ext p1) p1 q1
theorem Rj(ha:bW Φ Ψ a)(hs:kR Φ Ψ es):bW Φ Ψ (.met m a es):=λaa env A h u e=>by
 cases m with
 |join=>rw[bH];trivial
 |_=>rw[bH]<;>first|trivial|(intro z;cases z)
def SrcR(A:AP)(h:Hs)(xs:List Val)(src:Src):Prop:=∃ws,ak A h xs ws/\∀h',h<+:h'->src.items h'=some ws
theorem kK{lo:Int}{n:Nat}:ak A h (ck lo n) (ck lo n):=by
 unfold ck;generalize List.range n=l
 induction l with
 |nil=>exact ak.nil
 |cons a l ih=>exact ak.cons (by rw[Dn]) ih
theorem iQ:∀{xs ws:List Val} (i:Nat),ak A h xs ws->ak A h (cI i xs) (cI i ws)
 |[],ws,i,q=>by rw[ak]at q;subst q;exact ak.nil
 | x::xs,ws,i,q=>by
  rw[ak]at q;obtain⟨w,r,rfl,a,b⟩:=q;exact ak.cons (by rw[Dn];exact⟨_,rfl,ak.cons (by rw[Dn]) (ak.cons a ak.nil)⟩) (iQ (i+1) b)
theorem AR{ds vs:List Val}(a:DB A h (.rl ds) v):∃ws,ak A h ds ws/\((v=.rl ws)\/∃i,v=.ref i/\∀h',h<+:h'->aF h' (.ref i)=some ws):=by
 rcases a with a|⟨i,rfl,vs,g,q⟩
 ·rw[Dn]at a
  rcases a with ⟨vs,rfl,_,q⟩|⟨i,vs,rfl,_,g,q⟩
  ·exact⟨vs,q,.inl rfl⟩
  ·exact⟨vs,q,.inr ⟨i,rfl,λh' p=>by simp[aF,bK p g]⟩⟩
 ·exact⟨vs,q,.inr ⟨i,rfl,λh' p=>by simp[aF,bK p g]⟩⟩
theorem AS(a:Jm A h ds vs):Rel A h (λxs h' src=>SrcR A h' xs src) (bG (srcOf k vs) h) (pl (Ew k ds)):=by
 refine bx λxs e=>?_;cases k with
 |seq=>
  match ds,e with
  |[.tup es],e=>cases e;obtain⟨v,rfl,hv⟩:=a.one;obtain⟨ws,rfl,q⟩:=hv.tup;exact⟨.fix ws,rfl,ws,q,λ_ _=>rfl⟩
  |[.rl es],e=>
   cases e;obtain⟨v,rfl,hv⟩:=a.one;obtain⟨ws,q,rfl|⟨i,rfl,g⟩⟩:=AR (vs:=[]) hv
   ·exact⟨.fix ws,rfl,ws,q,λ_ _=>rfl⟩
   ·exact⟨.live i,rfl,ws,q,λh' p=>g h' p⟩
 |range=>
  match ds,e with
  |[.int n],e=>
   obtain⟨v,rfl,hv⟩:=a.one;have:=hv.int;subst this;change (if inR n=true then some (ck 0 n.toNat) else none)=some _ at e;split at e
   ·rename_i hn;cases e;exact⟨.fix _,Z7 hn,_,kK,λ_ _=>rfl⟩
   ·cases e
  |[.int n,.int m],e=>
   obtain⟨v,r,rfl,hv,hr⟩:=a;obtain⟨w,rfl,hw⟩:=Jm.one hr;have:=hv.int;subst this;have:=hw.int;subst this;change (if (inR n&&inR m)=true then some (ck n (m-n).toNat) else none)=some _ at e;split at e
   ·rename_i hn;cases e;exact⟨.fix _,Z7 hn,_,kK,λ_ _=>rfl⟩
   ·cases e
 |enum=>
  match ds,e with
  |[.rl es],e=>
   cases e;obtain⟨v,rfl,hv⟩:=a.one;obtain⟨ws,q,rfl|⟨i,rfl,g⟩⟩:=AR (vs:=[]) hv
   ·exact⟨.fix _,rfl,_,iQ 0 q,λ_ _=>rfl⟩
   ·exact⟨.enum i,rfl,_,iQ 0 q,λh' p=>by simp[Src.items,g h' p]⟩
 |zip=>cases e
theorem AU:∀{is:List Nat} {ds vs:List Val} {aa aM:bC} {env:Env},cB is ds aa=some aM->ak A h ds vs->ER A aa env h->(∀i∈is,i<aa.length->i<env.length)->∃env',bindAll is vs env=some env'/\ER A aM env' h
 | [],[],vs,aa,aM,env,e,q,er,_=>by
  rw[ak]at q;subst q;simp only[cB]at e;cases e;exact⟨env,rfl,er⟩
 | i::is,d::ds,vs,aa,aM,env,e,q,er,hl=>by
  rw[ak]at q;obtain⟨v,r,rfl,q1,q2⟩:=q;simp only[cB]at e;have XR:ER A (aa.set i (some (.sh,d))) (env.set i (some v)) h:=λj f d' hj=>by
   by_cases hij:i=j
   ·subst hij
    have hi:i<aa.length:=by have:=(Z5.mp hj).1;simpa using this
    rw[aad hi]at hj;cases hj;rw[Z8 (by decide)];exact⟨v,by rw[aad (hl i Z9 hi)],q1⟩
   ·rw[Z2 hij]at hj;rw[Z2 hij];exact er j f d' hj
  simp only[bindAll];exact AU e q2 XR λj hj hl'=>by simpa using hl j (aab _ hj) (by simpa using hl')
 |[],_::_,_,_,_,_,e,_,_,_=>by simp[cB]at e
 |_::_,[],_,_,_,_,e,_,_,_=>by simp[cB]at e
theorem xJ(e:ff p d aa=some aM)(q:Dn A h d v)(er:ER A aa env h)(hl:aa.length<=env.length):∃env',fR p v env=some env'/\ER A aM env' h:=by
 cases p with
 |one i=>
  simp only[ff]at e;cases e;refine⟨_,rfl,λj f d' hj=>?_⟩
  by_cases hij:i=j
  ·subst hij
   have hi:i<aa.length:=by have:=(Z5.mp hj).1;simpa using this
   rw[aad hi]at hj;cases hj;rw[Z8 (by decide)];exact⟨v,by rw[aad (by omega)],q⟩
  ·rw[Z2 hij]at hj;rw[Z2 hij];exact er j f d' hj
 |tup is=>
  cases d<;>simp only[ff]at e<;>first|(cases e;done)|skip
  rw[Dn]at q;obtain⟨vs,rfl,q⟩:=q;exact AU e q er λi _ hi=>by omega
theorem AV(e:ER A aa env h):ER A (iM js aa) (jY js env) h:=λi f d q=>by
 unfold iM at q;rw[aas]at q;cases hj:js[i]? with
 |none=>rw[hj]at q;cases q
 |some o=>
  rw[hj]at q;simp only[map_some]at q;cases o with
  |none=>cases q
  |some j=>
   dsimp only at q;cases ej:aa[j]? with
   |none=>rw[ej]at q;cases q
   |some w=>
    cases w with
    |none=>rw[ej]at q;cases q
    |some fd=>
     rw[ej]at q;cases q;have:=e j f d ej;revert this;generalize oq f=t;intro this;cases t with
     |false=>rw[Z7 rfl]at this |-;obtain⟨a,k2,k3⟩:=this;refine⟨a,?_,k3⟩;unfold jY;rw[aas,hj];simp only[map_some];rw[k2]
     |true=>rw[Z8 (by decide)]at this |-;obtain⟨v,k1,k2⟩:=this;refine⟨v,?_,k2⟩;unfold jY;rw[aas,hj];simp only[map_some];rw[k1]
theorem qZ :
  ∀(xs:List Val) (vs:List Val) (i:Nat) (acc:List Val) (h:Hs),hb<+:h->Up A h->(∀h',h<+:h'->src.items h'=some ws)->ws.drop i=vs->ak A h xs vs ->
   (∀x v h',h<+:h'->Dn A h' x v->Rel A h' (λo h'' o'=>match o,o' with|some e,some e'=>RV A hb e h'' e'|none,none=>True|_,_=>False) (f v h') (g x)) ->
   Rel A h (λp h' ys=>∃zs,ys=acc++zs/\ak A h' p.2 zs/\(p.1=true->ak (Fr hb.length) h' p.2 zs)) (fS src f vs.length i acc h) (jD g xs)
 | [],vs,i,acc,h,VQ,u,hi,hd,q,hf=>by
  rw[ak]at q;subst q;have hl:ws.length<=i:=List.drop_eq_nil_iff.mp hd;have ev:fS src f ([]:List Val).length i acc h=.ok acc h:=by show fS src f 0 i acc h=_;simp only[fS];unfold bnd ask bG aE;dsimp only;rw[hi h (aar _)];dsimp only;rw[Z7 (decide_eq_true hl)];rfl
  rw[ev,jD];exact⟨acc,h,rfl,aar _,[],by simp,ak.nil,λ_=>ak.nil⟩
 | x::xs,vs,i,acc,h,VQ,u,hi,hd,q,hf=>by
  rw[ak]at q;obtain⟨v,r,rfl,q1,q2⟩:=q;have hv:ws[i]?=some v:=by have:=aaS (λl=>l[0]?) hd;simpa using this
  have hr:ws.drop (i+1)=r:=by
   have:ws.drop (i+1)=(ws.drop i).drop 1:=by rw[List.drop_drop]
   rw[this,hd];rfl
  have ev:fS src f (v::r).length i acc h=bnd (f v) (λo=>fS src f r.length (i+1) (match o with|some e=>acc++[e]|none=>acc)) h:=by show fS src f (r.length+1) i acc h=_;simp only[fS];unfold bnd ask bG;dsimp only;rw[hi h (aar _)];dsimp only;rw[hv];try rfl
  rw[ev,jD];refine ah (hf x v h (aar _) q1) λo h1 o' p1 ho=>?_;have ih:=λacc'=>qZ xs r (i+1) acc' h1 (VQ.trans p1) (u.ext p1) (λh' p=>hi h' (p1.trans p)) hr (q2.ext p1) λx v h' p=>hf x v h' (p1.trans p);cases o' with
  |some e'=>
   cases o with
   |none=>exact ho.elim
   |some e=>
    have ih:=ih (acc++[e']);cases e2:jD g xs with
    |ok p=>
     rw[e2]at ih;obtain⟨ys,h2,e3,p2,zs,rfl,z1,z2⟩:=ih;refine⟨_,h2,e3,p2,e'::zs,by simp,ak.cons (ho.1.ext p2) z1,λhp=>?_⟩;have VS:e.1=true/\p.1=true:=by simpa using hp
     exact ak.cons ((ho.2 VS.1).ext p2) (z2 VS.2)
    |exc c es=>rw[e2]at ih;exact ih
    |no=>trivial
  |none=>
   cases o with
   |some e'=>exact ho.elim
   |none=>
    have ih:=ih acc;cases e2:jD g xs with
    |ok p=>rw[e2]at ih;obtain⟨ys,h2,e3,p2,zs,rfl,z1,z2⟩:=ih;exact⟨_,h2,e3,p2,zs,rfl,z1,z2⟩
    |exc c es=>rw[e2]at ih;exact ih
    |no=>trivial
theorem NB(hs:kR Φ Ψ it)(hc:bW Φ Ψ c)(he:bW Φ Ψ elt):bW Φ Ψ (.comp N js pat k it c elt):=λaa env A h u e=>by
 rw[aB,bH];refine ah (hs.2 aa env A h u e) λds h1 vs p1 q1=>ah (AS q1) λxs h2 src p2 q2=>?_;obtain⟨ws,q3,q4⟩:=q2;have l:=q3.length;have ev:∀(F:List Val->M Val),bnd (ask λh=>src.items h) F h2=F ws h2:=λF=>by unfold bnd ask bG;dsimp only;rw[q4 h2 (aar _)]
 rw[ev];refine bQ (λz=>by rw[<-l];exact z) λ_=>?_;have u2:=(u.ext p1).ext p2;have e2:=(e.ext p1).ext p2;refine ah (qZ (hb:=h) xs ws 0 [] h2 (p1.trans p2) u2 q4 rfl q3 λx v h' p' qx=>?_) λp h3 ys p3 hp=>?_
 ·refine ah (R:=λaM _ env'=>∃_:ER A aM env' h',True) (bx λaM ev'=>?_) λaM h4 env' p4 he'=>?_
  ·obtain⟨env',a1,a2⟩:=xJ ev' qx (AV (e2.ext p')) (by simp[iM,jY]);exact⟨env',a1,a2,trivial⟩
  ·obtain⟨er,_⟩:=he'
   have er:=er.ext p4;have u4:=(u2.ext p').ext p4;have QM:Rel A h4 (λt _ t'=>t'=t) ((if cX c=true then ret true else bnd (aB Φ c env') λv=>ask λh=>cj h v) h4) (if cX c=true then .ok true else pb (bH Ψ c aM) λv=>pl (cj [] v.2)):=by
    by_cases hn:cX c=true
    ·rw[Z7 hn,Z7 hn];exact aC rfl
    ·rw[Z8 hn,Z8 hn];exact ah (hc aM env' A h4 u4 er) λy h5 w p5 q5=>bL λt et=>⟨t,vp q5.br et,rfl⟩
   refine ah QM λt h5 t' p5 et=>?_;subst et;cases t' with
   |true=>rw[Z7 rfl,Z7 rfl];exact ah (he aM env' A h5 (u4.ext p5) (er.ext p5)) λy h6 w p6 q6=>aC (q6.up ((p1.trans p2).trans (p'.trans (p4.trans p5))))
   |false=>rw[Z8 Z0,Z8 Z0];exact aC trivial
 ·obtain⟨zs,rfl,z1,z2⟩:=hp;exact fO (u2.ext p3) ((p1.trans p2).trans p3) z1 z2
mutual
noncomputable def dN:IE->Bool
 |.cst d=>jb d
 |.con _ d=>jb d
 |.bin _ a b=>dN a&&dN b
 |.neg a=>dN a
 |.cmp _ a b=>dN a&&dN b
 |.chn _ _ a b c=>dN a&&dN b&&dN c
 |.and a b=>dN a&&dN b
 |.or a b=>dN a&&dN b
 |.not a=>dN a
 |.ite a b c=>dN a&&dN b&&dN c
 |.tup es=>mT es
 |.lst es=>mT es
 |.idx a b=>dN a&&dN b
 |.slc a b c=>dN a&&dN b&&dN c
 |.call _ es=>mT es
 |.blt _ es=>mT es
 |.met _ a es=>dN a&&mT es
 |.comp _ _ _ _ es a b=>mT es&&dN a&&dN b
 |.var _=>true
 |.no=>true
 |.dct0=>true
 |.sset a=>dN a
 |.dget a b c=>dN a&&dN b&&dN c
 |.dct1 a b=>dN a&&dN b
 |.lkeys a=>dN a
 |.sdef ..=>false
 |.svals _=>false
 |.skeys a=>dN a
 |.fld _ a _=>dN a
 |.mth a _ _ es=>dN a&&mT es
 |.rev a b=>dN a&&dN b
 |.dflt _ _ _ _ a b=>dN a&&dN b
 |.isc a _ _=>dN a
noncomputable def mT:mD->Bool
 |.nil=>true
 |.cons e es=>dN e&&mT es
end
theorem v_all(hΦ:∀j,Imp (Φ j) (Ψ j)):(∀ir,dN ir=true->bW Φ Ψ ir)/\∀dY,mT dY=true->kR Φ Ψ dY:=by
 have one:∀ir,dN ir=true->bW Φ Ψ ir:=by
  intro ir;refine IE.rec (motive_1:=λir=>dN ir=true->bW Φ Ψ ir) (motive_2:=λdY=>mT dY=true->kR Φ Ψ dY) ?_ ?_ ?_ ?_ ?_ ?_ ?_ ?_ ?_ ?_ ?_ ?_ ?_ ?_ ?_ ?_ ?_ ?_ ?_ ?_ ?_ ?_ ?_ ?_ ?_ ?_ ?_ ?_ ?_ ?_ ?_ ?_ ?_ ?_ ?_ ir
  ·exact λ_ _=>v_var
  ·exact λ_ f=>Q2 f
  ·exact λ_ _ f=>Q3 f
  ·exact λ_=>UH
  ·intro _ _ _ a b f;have f:=gn f;exact Q4 (a f.1) (b f.2)
  ·intro _ a f;exact Q5 (a f)
  ·intro _ _ _ a b f;have f:=gn f;exact Q6 (a f.1) (b f.2)
  ·intro _ _ _ _ _ a b c f;have f:=vv f;exact Q7 (a f.1.1) (b f.1.2) (c f.2)
  ·intro _ _ a b f;have f:=gn f;exact v_and (a f.1) (b f.2)
  ·intro _ _ a b f;have f:=gn f;exact v_or (a f.1) (b f.2)
  ·intro _ a f;exact v_not (a f)
  ·intro _ _ _ a b c f;have f:=vv f;exact v_ite (a f.1.1) (b f.1.2) (c f.2)
  ·intro _ a f;exact Q8 (a f)
  ·intro _ a f;exact Ra (a f)
  ·intro _ _ a b f;have f:=gn f;exact Rb (a f.1) (b f.2)
  ·intro _ _ _ a b c f;have f:=vv f;exact Rc (a f.1.1) (b f.1.2) (c f.2)
  ·intro _ _ a f;exact Nz hΦ (a f)
  ·intro _ _ a f;exact Ri (a f)
  ·intro _ _ _ a b f;have f:=gn f;exact Rj (a f.1) (b f.2)
  ·intro _ _ _ _ _ _ _ a b c f;have f:=vv f;exact NB (a f.1.1) (b f.1.2) (c f.2)
  ·exact λ_=>Nt
  ·intro _ a f;exact Ny (a f)
  ·intro _ _ _ a b c f;have f:=vv f;exact Nv (a f.1.1) (b f.1.2) (c f.2)
  ·intro _ _ a b f;have f:=gn f;exact Nu (a f.1) (b f.2)
  ·intro _ a f;exact Js (a f)
  ·intro _ _ _ _ _ _ f;exact nomatch (show false=true from f)
  ·intro _ _ f;exact nomatch (show false=true from f)
  ·intro _ a f;exact Jt (a f)
  ·intro _ _ _ a f;exact Rg (a f)
  ·intro _ _ _ _ a b f;have f:=gn f;exact Rh hΦ (a f.1) (b f.2)
  ·intro _ _ a b f;have f:=gn f;exact Rf (a f.1) (b f.2)
  ·intro _ _ _ _ _ _ a b f;have f:=gn f;exact Nx (a f.1) (b f.2)
  ·intro _ _ _ a f;exact Q9 (a f)
  ·exact λ_=>Kw
  ·intro _ _ a b f;have f:=gn f;exact EC (a f.1) (b f.2)
 refine⟨one,λdY=>?_⟩
 induction dY using mD.rec (motive_1:=λ_=>True) with
 |nil=>exact λ_=>Kw
 |cons e es _ ih=>exact λf=>by have f:=gn f;exact EC (one e f.1) (ih f.2)
 |_=>trivial
end
section
variable {A A':AP} {h h':Hs}
mutual
theorem Dn.move(hn:A none->A' none)(hh:∀(i:Nat) (o:Ob),A (some i)->h[i]?=some o->A' (some i)/\h'[i]?=some o):∀(d v:Val),Dn A h d v->Dn A' h' d v
 |.non,v,e=>by rw[Dn]at e |-;exact e
 |.bl _,v,e=>by rw[Dn]at e |-;exact e
 |.int _,v,e=>by rw[Dn]at e |-;exact e
 |.str _,v,e=>by rw[Dn]at e |-;exact e
 | .tup ds,v,e=>by
  rw[Dn]at e |-;obtain⟨vs,rfl,q⟩:=e;exact⟨vs,rfl,ak.move hn hh ds vs q⟩
 | .rl ds,v,e=>by
  rw[Dn]at e |-
  rcases e with ⟨vs,rfl,n,q⟩|⟨i,vs,rfl,a,g,q⟩
  ·exact .inl ⟨vs,rfl,hn n,ak.move hn hh ds vs q⟩
  ·exact .inr ⟨i,vs,rfl,(hh i _ a g).1,(hh i _ a g).2,ak.move hn hh ds vs q⟩
 | .dc ks ds,v,e=>by
  rw[Dn]at e |-;obtain⟨i,kvs,rfl,a,g,k,q⟩:=e;exact⟨i,kvs,rfl,(hh i _ a g).1,(hh i _ a g).2,k,ak.move hn hh ds _ q⟩
 | .ob c xs ds,v,e=>by
  rw[Dn]at e |-;obtain⟨i,kvs,rfl,a,g,k,q⟩:=e;exact⟨i,kvs,rfl,(hh i _ a g).1,(hh i _ a g).2,k,ak.move hn hh ds _ q⟩
 |.ref _,v,e=>by rw[Dn]at e;exact e.elim
theorem ak.move(hn:A none->A' none)(hh:∀(i:Nat) (o:Ob),A (some i)->h[i]?=some o->A' (some i)/\h'[i]?=some o):∀(ds vs:List Val),ak A h ds vs->ak A' h' ds vs
 |[],vs,e=>by rw[ak]at e |-;exact e
 | d::ds,vs,e=>by
  rw[ak]at e |-;obtain⟨v,r,rfl,q1,q2⟩:=e;exact⟨v,r,rfl,Dn.move hn hh d v q1,ak.move hn hh ds r q2⟩
end
end
def Al(A0:AP)(O:Nat->Option Nat):AP:=λo=>A0 o/\∀i,o.isSome=true->O i≠o
structure SR (A0:AP) (h0:Hs) (aa:bC) (env:Env) (h:Hs) (O:Nat->Option Nat):Prop where
 len:aa.length=env.length
 sh:∀(i:Nat) (m:Mk) (d:Val),aa[i]?=some (some (m,d))->oq m=true->∃v,env[i]?=some (some v)/\Dn (Al A0 O) h d v/\(OV m=true->Dn (Al (Fr h0.length) O) h d v)
 ow:∀(i:Nat) (d:Val),aa[i]?=some (some (.ow,d))->∃a,env[i]?=some (some (.ref a))/\O i=some a/\OD (Al A0 O) h d a
 own:∀i a,O i=some a->h0.length<=a/\a<h.length/\∃d,aa[i]?=some (some (.ow,d))
 inj:∀i j a,O i=some a->O j=some a->i=j
 pre:h0<+:h
 up:Up A0 h0
structure Fm (m:List Nat) (aa:bC) (env:Env) (h:Hs) (O:Nat->Option Nat) (aM:bC) (env':Env) (h':Hs) (O':Nat->Option Nat):Prop where
 le:h.length<=h'.length
 keep:∀k,k<h.length->(∀i,O i≠some k)->h'[k]?=h[k]?/\∀i,O' i≠some k
 stay:∀i,i∉m->O' i=O i/\aM[i]?=aa[i]?/\env'[i]?=env[i]?/\∀a,O i=some a->h'[a]?=h[a]?
def RF(A0:AP)(h0:Hs)(m:List Nat)(aa:bC)(env:Env)(h:Hs)(O:Nat->Option Nat):Cp->Hs->Fl->Prop
 |.nx aM,h',.nx env'=>∃O',SR A0 h0 aM env' h' O'/\Fm m aa env h O aM env' h' O'
 |.bk aM,h',.bk env'=>∃O',SR A0 h0 aM env' h' O'/\Fm m aa env h O aM env' h' O'
 |.ct aM,h',.ct env'=>∃O',SR A0 h0 aM env' h' O'/\Fm m aa env h O aM env' h' O'
 |.rt p,h',.rt v=>Dn A0 h' p.2 v/\(p.1=true->Dn (Fr h0.length) h' p.2 v)/\h0<+:h'
 |_,_,_=>False
def gG(A0:AP)(h0:Hs){α β:Type}(R:α -> Hs -> β -> Prop)(o:Out β):Pr α -> Prop
 |.ok f=>∃g h',o=.ok g h'/\R f h' g
 |.exc c es=>∃ws h',o=.exc c ws h'/\h0<+:h'/\ak A0 h' es ws
 |.no=>True
section
variable {A0:AP} {h0:Hs} {aa:bC} {env:Env} {h h1:Hs} {O:Nat->Option Nat} {m:List Nat}
theorem SR.er(s:SR A0 h0 aa env h O):ER (Al A0 O) aa env h:=λi f d e=>by
 cases f with
 |ow=>rw[Z7 (show oq .ow=false by decide)];obtain⟨a,k2,_,k3⟩:=s.ow i d e;exact⟨a,k2,k3⟩
 |sh=>rw[Z8 (by decide)];obtain⟨v,k1,k2,_⟩:=s.sh i _ d e rfl;exact⟨v,k1,k2⟩
 |nw=>rw[Z8 (by decide)];obtain⟨v,k1,k2,_⟩:=s.sh i _ d e rfl;exact⟨v,k1,k2⟩
theorem SR.yC(s:SR A0 h0 aa env h O):Up (Al A0 O) h:=λk hk=>⟨s.up k (aay s.pre.length_le hk),λi _ e=>by have:=(s.own i k e).2.1;omega⟩
theorem SR.ext(s:SR A0 h0 aa env h O)(p:h<+:h1):SR A0 h0 aa env h1 O where
 len:=s.len
 sh i m d e hm:=by obtain⟨v,k1,k2,k3⟩:=s.sh i m d e hm;exact⟨v,k1,k2.ext p,λz=>(k3 z).ext p⟩
 ow i d e:=by obtain⟨a,k2,k3,k4⟩:=s.ow i d e;exact⟨a,k2,k3,k4.ext p⟩
 own i a e:=by obtain⟨k1,k2,k3⟩:=s.own i a e;exact⟨k1,aah k2 p.length_le,k3⟩
 inj:=s.inj
 pre:=s.pre.trans p
 up:=s.up
theorem iR(p:h<+:h1){k:Nat}(hk:k<h.length):h1[k]?=h[k]?:=by
 obtain⟨t,rfl⟩:=p;rw[aag hk]
theorem Fm.refl(s:SR A0 h0 aa env h O)(p:h<+:h1):Fm m aa env h O aa env h1 O where
 le:=p.length_le
 keep k hk n:=⟨iR p hk,n⟩
 stay i _:=⟨rfl,rfl,rfl,λa e=>iR p (s.own i a e).2.1⟩
theorem Fm.trans{mU o4:bC}{gp lN:Env}{h2:Hs}{O1 O2:Nat->Option Nat}(a:Fm m aa env h O mU gp h1 O1)(b:Fm m mU gp h1 O1 o4 lN h2 O2):Fm m aa env h O o4 lN h2 O2 where
 le:=aay a.le b.le
 keep k hk n:=by obtain⟨a1,a2⟩:=a.keep k hk n;obtain⟨b1,b2⟩:=b.keep k (aah hk a.le) a2;exact⟨b1.trans a1,b2⟩
 stay i hi:=by obtain⟨a1,a2,a3,a4⟩:=a.stay i hi;obtain⟨b1,b2,b3,b4⟩:=b.stay i hi;exact⟨b1.trans a1,b2.trans a2,b3.trans a3,λc e=>(b4 c (a1.trans e)).trans (a4 c e)⟩
theorem Fm.wid{m':List Nat}(hm:∀i∈m,i∈m')(a:Fm m aa env h O aM env' h1 O'):Fm m' aa env h O aM env' h1 O':=⟨a.le,a.keep,λi hi=>a.stay i λz=>hi (hm i z)⟩
theorem RF.pre(s:SR A0 h0 aa env h O)(p:h<+:h1)(r:RF A0 h0 m aa env h1 O f h' g):RF A0 h0 m aa env h O f h' g:=by
 cases f<;>cases g<;>first|exact r.elim|exact r|(obtain⟨O',a,b⟩:=r;exact⟨O',a,(Fm.refl s p).trans b⟩)
theorem RF.wid{m':List Nat}(hm:∀i∈m,i∈m')(r:RF A0 h0 m aa env h O f h' g):RF A0 h0 m' aa env h O f h' g:=by
 cases f<;>cases g<;>first|exact r.elim|exact r|(obtain⟨O',a,b⟩:=r;exact⟨O',a,b.wid hm⟩)
theorem RF.seq{mU:bC}{gp:Env}{O1:Nat->Option Nat}(a:Fm m aa env h O mU gp h1 O1)(r:RF A0 h0 m mU gp h1 O1 f h' g):RF A0 h0 m aa env h O f h' g:=by
 cases f<;>cases g<;>first|exact r.elim|exact r|(obtain⟨O',b,c⟩:=r;exact⟨O',b,a.trans c⟩)
theorem bh{α β γ δ:Type}{R:α -> Hs -> β -> Prop}{R':γ -> Hs -> δ -> Prop}{mm:M β}{f:β -> M δ}{p:Pr α}{F:α -> Pr γ}(s:SR A0 h0 aa env h O)(r:Rel (Al A0 O) h R (mm h) p)(k:∀a h1 b,h<+:h1->R a h1 b->gG A0 h0 R' (f b h1) (F a)):gG A0 h0 R' (bnd mm f h) (pb p F):=by
 unfold bnd;cases p with
 |ok a=>obtain⟨b,h1,e,q,r⟩:=r;rw[e];exact k a h1 b q r
 |exc c es=>obtain⟨ws,h1,e,q,r⟩:=r;rw[e];exact⟨ws,h1,rfl,s.pre.trans q,r.wid λ_ z=>z.1⟩
 |no=>trivial
theorem aZ{α β:Type}{R:α -> Hs -> β -> Prop}{a:α}{b:β}(r:R a h b):gG A0 h0 R (ret b h) (.ok a):=⟨b,h,rfl,r⟩
theorem fu{α β:Type}{R R':α -> Hs -> β -> Prop}{o:Out β}{p:Pr α}(r:gG A0 h0 R o p)(k:∀a h' b,R a h' b->R' a h' b):gG A0 h0 R' o p:=by
 cases p with
 |ok a=>obtain⟨b,h',e,r⟩:=r;exact⟨b,h',e,k a h' b r⟩
 |exc c es=>exact r
 |no=>trivial
theorem mV{α β γ δ:Type}{R:α -> Hs -> β -> Prop}{R':γ -> Hs -> δ -> Prop}{mm:M β}{f:β -> M δ}{p:Pr α}{F:α -> Pr γ}(r:gG A0 h0 R (mm h) p)(k:∀a h1 b,R a h1 b->gG A0 h0 R' (f b h1) (F a)):gG A0 h0 R' (bnd mm f h) (pb p F):=by
 unfold bnd;cases p with
 |ok a=>obtain⟨b,h1,e,r⟩:=r;rw[e];exact k a h1 b r
 |exc c es=>obtain⟨ws,h1,e,q,r⟩:=r;rw[e];exact⟨ws,h1,rfl,q,r⟩
 |no=>trivial
theorem gr{α β:Type}{R:α -> Hs -> β -> Prop}{c:Bool}{o:Out β}{p:Pr α}(r:c=true->gG A0 h0 R o p):gG A0 h0 R o (pg c p):=by
 unfold pg;cases c with
 |true=>rw[Z7 rfl];exact r rfl
 |false=>rw[Z8 Z0];trivial
def gh(O:Nat->Option Nat)(i:Nat):Nat->Option Nat:=λj=>if j=i then none else O j
theorem pV:Al A0 O none->Al A0 O none:=id
theorem j9:Al A0 O none->Al A0 O' none:=λh=>⟨h.1,λ_ z=>by cases z⟩
theorem jm{i:Nat}:∀k,Al A0 O k->Al A0 (gh O i) k:=λk ⟨a,b⟩=>⟨a,λj z=>by unfold gh;split;(cases k<;>simp_all);exact b j z⟩
theorem SR.setM(s:SR A0 h0 aa env h O){i:Nat}{mk:Mk}{d v:Val}(XS:oq mk=true)(q:Dn (Al A0 O) h d v)(qn:OV mk=true->Dn (Al (Fr h0.length) O) h d v):SR A0 h0 (aa.set i (some (mk,d))) (env.set i (some v)) h (gh O i)/\Fm [i] aa env h O (aa.set i (some (mk,d))) (env.set i (some v)) h (gh O i):=by
 refine⟨⟨by simp[s.len],λj m' d' e hm'=>?_,λj d' e=>?_,λj a e=>?_,λj l a e1 e2=>?_,s.pre,s.up⟩,aaa _,λk hk n=>⟨rfl,λj=>?_⟩,λj hj=>?_⟩
 ·by_cases hij:i=j
  ·subst hij
   have hi:i<aa.length:=by have:=(Z5.mp e).1;simpa using this
   rw[aad hi]at e;cases e;exact⟨v,by rw[aad (by rw[<-s.len];exact hi)],q.wid jm,λz=>(qn z).wid jm⟩
  ·rw[Z2 hij]at e;rw[Z2 hij];obtain⟨w,k1,k2,k3⟩:=s.sh j m' d' e hm';exact⟨w,k1,k2.wid jm,λz=>(k3 z).wid jm⟩
 ·by_cases hij:i=j
  ·subst hij
   have hi:i<aa.length:=by have:=(Z5.mp e).1;simpa using this
   rw[aad hi]at e;cases e;cases XS
  ·rw[Z2 hij]at e;rw[Z2 hij];obtain⟨a,k2,k3,k4⟩:=s.ow j d' e;exact⟨a,k2,by unfold gh;rw[Z8 (λz=>hij z.symm)];exact k3,k4.mono (λ_ g=>g) λ_ _ z=>z.wid jm⟩
 ·unfold gh at e
  split at e
  ·cases e
  ·rename_i hj;obtain⟨k1,k2,d',k3⟩:=s.own j a e;exact⟨k1,k2,d',by rw[Z2 (λz=>hj z.symm)];exact k3⟩
 ·unfold gh at e1 e2
  split at e1
  ·cases e1
  ·split at e2
   ·cases e2
   ·exact s.inj j l a e1 e2
 ·unfold gh;split;simp;exact n j
 ·have hj':j≠i:=by simpa using hj
  exact⟨by unfold gh;rw[Z8 hj'],Z2 (λz=>hj' z.symm),Z2 (λz=>hj' z.symm),λ_ _=>rfl⟩
theorem SR.set(s:SR A0 h0 aa env h O){i:Nat}(q:Dn (Al A0 O) h d v):SR A0 h0 (aa.set i (some (.sh,d))) (env.set i (some v)) h (gh O i)/\Fm [i] aa env h O (aa.set i (some (.sh,d))) (env.set i (some v)) h (gh O i):=s.setM rfl q λz=>nomatch z
theorem SR.binds:∀{is:List Nat} {ds vs:List Val} {aa:bC} {env:Env} {O:Nat->Option Nat} {aM:bC},SR A0 h0 aa env h O->cB is ds aa=some aM->ak (Al A0 O) h ds vs ->
  ∃env' O',bindAll is vs env=some env'/\SR A0 h0 aM env' h O'/\Fm is aa env h O aM env' h O'
 | [],[],vs,aa,env,O,aM,s,e,q=>by
  rw[ak]at q;subst q;simp only[cB]at e;cases e;exact⟨env,O,rfl,s,Fm.refl s (aar _)⟩
 | i::is,d::ds,vs,aa,env,O,aM,s,e,q=>by
  rw[ak]at q;obtain⟨v,r,rfl,q1,q2⟩:=q;simp only[cB]at e;obtain⟨s1,f1⟩:=s.set (i:=i) q1;obtain⟨env',O',b1,b2,b3⟩:=SR.binds s1 e (q2.wid jm);refine⟨env',O',by simp only[bindAll];exact b1,b2,(f1.wid λj hj=>?_).trans (b3.wid λj hj=>aab _ hj)⟩;rw[aai.mp hj];exact Z9
 |[],_::_,_,_,_,_,_,_,e,_=>by simp[cB]at e
 |_::_,[],_,_,_,_,_,_,e,_=>by simp[cB]at e
theorem SR.bind(s:SR A0 h0 aa env h O)(e:ff p d aa=some aM)(q:Dn (Al A0 O) h d v):∃env' O',fR p v env=some env'/\SR A0 h0 aM env' h O'/\Fm (stored p) aa env h O aM env' h O':=by
 cases p with
 |one i=>simp only[ff]at e;cases e;obtain⟨s1,f1⟩:=s.set (i:=i) q;exact⟨_,_,rfl,s1,f1⟩
 |tup is=>
  cases d<;>simp only[ff]at e<;>first|(cases e;done)|skip
  rw[Dn]at q;obtain⟨vs,rfl,q⟩:=q;exact s.binds e q
theorem AW{a:Nat}(p:h0<+:h)(ha:h0.length<=a):h0<+:h.set a o:=by
 obtain⟨t,rfl⟩:=p;rw[List.set_append_right _ _ ha];exact aaO _ _
theorem SR.put(s:SR A0 h0 aa env h O){i a:Nat}{d d1:Val}(e:aa[i]?=some (some (.ow,d)))(ha:O i=some a)(q:OB (Al A0 O) h d1 ob) :
  SR A0 h0 (aa.set i (some (.ow,d1))) env (h.set a ob) O/\Fm [i] aa env h O (aa.set i (some (.ow,d1))) env (h.set a ob) O:=by
 obtain⟨o1,o2,_⟩:=s.own i a ha;have hi:i<aa.length:=(Z5.mp e).1;have mv:∀{A0:AP} (k:Nat) (o:Ob),Al A0 O k->h[k]?=some o->Al A0 O k/\(h.set a ob)[k]?=some o:=λk o hk g=>⟨hk,by rw[Z2 λz=>hk.2 i rfl (by rw[<-z];exact ha)];exact g⟩;obtain⟨a0,e2,e3,_⟩:=s.ow i d e;refine⟨⟨by simp[s.len],λj m' d' ej hm'=>?_,λj d' ej=>?_,λj b ej=>?_,s.inj,AW s.pre o1,s.up⟩,by simp,λk hk n=>⟨?_,n⟩,λj hj=>?_⟩
 ·by_cases hij:i=j
  ·subst hij;rw[aad hi]at ej;cases ej;cases hm'
  ·rw[Z2 hij]at ej;obtain⟨w,k1,k2,k3⟩:=s.sh j m' d' ej hm';exact⟨w,k1,Dn.move pV mv _ _ k2,λz=>Dn.move pV mv _ _ (k3 z)⟩
 ·by_cases hij:i=j
  ·subst hij;rw[aad hi]at ej;cases ej;rw[ha]at e3;cases e3;exact⟨a,e2,ha,q.od (by rw[aad o2]) λ_ _ z=>ak.move pV mv _ _ z⟩
  ·rw[Z2 hij]at ej;obtain⟨a1,k2,k3,k4⟩:=s.ow j d' ej;have:a≠a1:=λz=>hij (s.inj i j a ha (by rw[z];exact k3));exact⟨a1,k2,k3,k4.mono (λ_ g=>by rw[Z2 this];exact g) λ_ _ z=>ak.move pV mv _ _ z⟩
 ·obtain⟨k1,k2,d',k3⟩:=s.own j b ej
  refine⟨k1,by simp[k2],?_⟩
  by_cases hij:i=j
  ·subst hij;exact⟨_,by rw[aad hi]⟩
  ·exact⟨d',by rw[Z2 hij];exact k3⟩
 ·rw[Z2 λz=>n i (by rw[<-z];exact ha)]
 ·have hj':j≠i:=by simpa using hj
  exact⟨rfl,Z2 (λz=>hj' z.symm),rfl,λb eb=>by rw[Z2 λz=>hj' (s.inj j i b eb (by rw[<-z];exact ha))]⟩
def sV(O:Nat->Option Nat)(i a:Nat):Nat->Option Nat:=λj=>if j=i then some a else O j
theorem SR.fresh(s:SR A0 h0 aa env h O){i:Nat}{d1:Val}{h2:Hs}(p:h<+:h2)(q:OB (Al A0 O) h2 d1 ob) :
  SR A0 h0 (aa.set i (some (.ow,d1))) (env.set i (some (.ref h2.length))) (h2++[ob]) (if i<aa.length then sV O i h2.length else gh O i) /\
   Fm [i] aa env h O (aa.set i (some (.ow,d1))) (env.set i (some (.ref h2.length))) (h2++[ob]) (if i<aa.length then sV O i h2.length else gh O i):=by
 have pp:h<+:h2++[ob]:=p.trans (aaO _ _);have s2:=s.ext p;have mv:∀{A0:AP} (j:Nat),∀(k:Nat) (o:Ob),Al A0 O k->h2[k]?=some o->Al A0 (if i<aa.length then sV O i h2.length else gh O i) k/\(h2++[ob])[k]?=some o:=λ{A0} j k o hk g=>by
  have hlt:k<h2.length:=(Z5.mp g).1;refine⟨?_,by rw[aag hlt];exact g⟩
  split
  ·refine⟨hk.1,λl _=>?_⟩
   unfold sV
   split
   ·intro z;cases z;omega
   ·exact hk.2 l rfl
  ·exact jm k hk
 by_cases hi:i<aa.length
 ·rw[Z7 hi]at mv |-
  refine⟨⟨by simp[s.len],λj m' d' ej hm'=>?_,λj d' ej=>?_,λj b ej=>?_,λj l b e1 e2=>?_,s.pre.trans pp,s.up⟩,pp.length_le,λk hk n=>⟨iR pp hk,λl=>?_⟩,λj hj=>?_⟩
  ·by_cases hij:i=j
   ·subst hij;rw[aad hi]at ej;cases ej;cases hm'
   ·rw[Z2 hij]at ej;rw[Z2 hij];obtain⟨w,k1,k2,k3⟩:=s2.sh j m' d' ej hm';exact⟨w,k1,Dn.move j9 (mv 0) _ _ k2,λz=>Dn.move j9 (mv 0) _ _ (k3 z)⟩
  ·by_cases hij:i=j
   ·subst hij;rw[aad hi]at ej;cases ej;exact⟨h2.length,by rw[aad (by rw[<-s.len];exact hi)],by unfold sV;rw[Z7 rfl],q.od (by simp) λ_ _ z=>ak.move j9 (mv 0) _ _ z⟩
   ·rw[Z2 hij]at ej;rw[Z2 hij];obtain⟨a1,k2,k3,k4⟩:=s2.ow j d' ej;have hlt:a1<h2.length:=k4.lt;exact⟨a1,k2,by unfold sV;rw[Z8 λz=>hij z.symm];exact k3,k4.mono (λ_ g=>by rw[aag hlt];exact g) λ_ _ z=>ak.move j9 (mv 0) _ _ z⟩
  ·unfold sV at ej
   split at ej
   ·rename_i hj;cases ej;subst hj;exact⟨aay s.pre.length_le p.length_le,by simp,_,by rw[aad hi]⟩
   ·rename_i hj;obtain⟨k1,k2,d',k3⟩:=s2.own j b ej;exact⟨k1,by simp;omega,d',by rw[Z2 λz=>hj z.symm];exact k3⟩
  ·unfold sV at e1 e2
   split at e1
   ·rename_i h1;cases e1
    split at e2
    ·rename_i h3;rw[h1,h3]
    ·have:=(s2.own l _ e2).2.1;omega
   ·split at e2
    ·cases e2;have:=(s2.own j _ e1).2.1;omega
    ·exact s.inj j l b e1 e2
  ·unfold sV;split
   ·intro z;cases z;have:=p.length_le;omega
   ·exact n l
  ·have hj':j≠i:=by simpa using hj
   exact⟨by unfold sV;rw[Z8 hj'],Z2 (λz=>hj' z.symm),Z2 (λz=>hj' z.symm),λb eb=>iR pp (s.own j b eb).2.1⟩
 ·rw[Z8 hi]at mv |-
  have e1:aa.set i (some (.ow,d1))=aa:=List.set_eq_of_length_le (by omega);have e2:env.set i (some (.ref h2.length))=env:=List.set_eq_of_length_le (by rw[<-s.len];omega);have e3:gh O i=O:=by
   funext j;unfold gh;split
   ·rename_i hj;subst hj
    cases e:O j with
    |none=>rfl
    |some a=>obtain⟨_,_,d,k⟩:=s.own j a e;exact absurd (Z5.mp k).1 hi
   ·rfl
  rw[e1,e2,e3];exact⟨s.ext pp,Fm.refl s pp⟩
end
section
variable {Φ:Nat->List Val->M Val} {Ψ:Nat->List Val->Pr FV} {A:AP} {h h1:Hs}
def isRef:Val->Bool
 |.rl _=>true
 |.dc _ _=>true
 |_=>false
def RN(A:AP)(h:Hs):FV->Hs->Val->Prop:=λx h' v=>isRef x.2=true->∃h2 o,h'=h2++[o]/\v=.ref h2.length/\h<+:h2/\OB A h2 x.2 o
def Ju(Φ:Nat->List Val->M Val)(Ψ:Nat->List Val->Pr FV)(ir:IE):Prop:=∀(aa:bC) (env:Env) (A:AP) (h:Hs),Up A h->ER A aa env h->Rel A h (RN A h) (aB Φ ir env h) (bH Ψ ir aa)
theorem iS{f:Bool}{h0:Hs}(p:h0<+:h)(q:ak A h xs vs):Rel A h (RN A h0) (new (.lst vs) h) (.ok (f,.rl xs)) :=
 ⟨_,_,rfl,bN _,λ_=>⟨h,.lst vs,rfl,rfl,p,vs,rfl,q⟩⟩
theorem NC:Ju Φ Ψ .dct0:=λaa env A h u e=>by
 rw[aB,bH];exact⟨_,_,rfl,bN _,λ_=>⟨h,.dct [],rfl,rfl,aar _,[],rfl,rfl,ak.nil⟩⟩
theorem ND(hk:bW Φ Ψ k)(hv:bW Φ Ψ v):Ju Φ Ψ (.dct1 k v):=λaa env A h u e=>by
 rw[aB,bH];refine ah (hk aa env A h u e) λx h1 w p1 q1=>ah (R:=λkk _ kk'=>kk'=kk) (bx λkk ek=>⟨kk,zE q1.1 ek,rfl⟩) λkk h2 kk' p2 hkk=>?_;subst hkk;refine ah (hv aa env A h2 ((u.ext p1).ext p2) ((e.ext p1).ext p2)) λy h3 z p3 q3=>?_;exact⟨_,_,rfl,bN _,λ_=>⟨h3,.dct [(kk',z)],rfl,rfl,(p1.trans p2).trans p3,[(kk',z)],rfl,rfl,ak.cons q3.1 ak.nil⟩⟩
theorem Jv(hd:bW Φ Ψ d):Ju Φ Ψ (.lkeys d):=λaa env A h u e=>by
 rw[aB,bH];refine ah (jN hd u e) λo h1 v p1 q1=>ah (R:=λks _ ks'=>ks'=ks) (bL λks ek=>⟨ks,mP q1 ek,rfl⟩) λks h2 ks' p2 hk=>?_;subst hk;exact iS (p1.trans p2) ((aQ _ _ (j6 ks')).mpr rfl)
theorem Rk(hs:kR Φ Ψ es):Ju Φ Ψ (.lst es):=λaa env A h u e=>by
 rw[aB,bH];exact ah (hs.1 aa env A h u e) λx h1 vs p1 q1=>bQ (λz=>by rw[<-q1.1.length];exact z) λ_=>iS p1 q1.1
theorem Rm(ha:bW Φ Ψ a)(hl:bW Φ Ψ lo)(hh:bW Φ Ψ hi):Ju Φ Ψ (.slc a lo hi):=λaa env A h u e=>by
 rw[aB,bH];refine ah (jN ha u e) λx h1 v p1 q1=>ah (mR hl (u.ext p1) (e.ext p1)) λl h2 l' p2 el=>ah (mR hh ((u.ext p1).ext p2) ((e.ext p1).ext p2)) λr h3 r' p3 er=>?_;subst el;subst er;have q1:=DB.ext (p2.trans p3) q1;obtain⟨f,d⟩:=x;cases d with
 |tup ds=>obtain⟨vs,rfl,q⟩:=DB.tup q1;have l:=q.length;simp only[zC,sS];exact bQ (λz=>by rw[l]at z;exact z) λ_=>aC λe=>by cases e
 |rl ds=>
  obtain⟨vs,e1,q⟩:=DB.lst q1;have ev:sS v l' r' h3=new (.lst (cA vs l' r')) h3:=by
   have:sS v l' r'=bnd (ask λh=>aF h v) λxs=>new (.lst (cA xs l' r')):=by cases v<;>simp only[aF]at e1<;>first|(cases e1;done)|rfl
   rw[this];unfold bnd ask bG;dsimp only;rw[e1]
  rw[ev];exact iS ((p1.trans p2).trans p3) (q.cut l' r')
 |_=>trivial
theorem NG(hs:kR Φ Ψ es):Ju Φ Ψ (.blt .list es):=λaa env A h u e=>by
 rw[aB,bH];refine ah (hs.2 aa env A h u e) λds h1 vs p1 q1=>?_
 match ds,q1 with
 |[],q1=>trivial
 |[d],q1=>obtain⟨v,rfl,hv⟩:=q1.one;exact ah (R:=λxs h' ws=>ak A h' xs ws) (bL λxs e=>hv.seq e) λxs h2 ws p2 q=>iS (p1.trans p2) q
 |_::_::_,_=>trivial
theorem ED(hs:kR Φ Ψ es):Ju Φ Ψ (.blt .sorted es):=λaa env A h u e=>by
 rw[aB,bH];refine ah (hs.2 aa env A h u e) λds h1 vs p1 q1=>?_
 match ds,q1 with
 |[],q1=>trivial
 |[d],q1=>
  obtain⟨v,rfl,hv⟩:=q1.one;cases d<;>first|trivial|skip
  rename_i xs;obtain⟨ws,e1,q⟩:=hv.lst;have ev:bnd (ask λh=>aF h v) (λxs=>bnd (bG (dD xs)) λys=>new (.lst ys)) h1=bnd (bG (dD ws)) (λys=>new (.lst ys)) h1:=by unfold bnd ask bG;dsimp only;rw[e1]
  show Rel A h1 (RN A h) (bnd (ask λh=>aF h v) (λxs=>bnd (bG (dD xs)) λys=>new (.lst ys)) h1) _;rw[ev];refine ah (R:=λys _ zs=>zs=ys/\bT ys=true) (bx λys e=>?_) λys h2 zs p2 hz=>?_
  ·obtain⟨i1,i2⟩:=uq e;rw[(aQ xs ws i1).mp q];exact⟨ys,e,rfl,i2⟩
  ·obtain⟨rfl,hi⟩:=hz;exact iS (p1.trans p2) ((aQ _ _ hi).mpr rfl)
 |x::_::_,_=>cases x<;>trivial
theorem NH(hs:kR Φ Ψ it)(hc:bW Φ Ψ c)(he:bW Φ Ψ elt):Ju Φ Ψ (.comp N js pat k it c elt):=λaa env A h u e=>by
 rw[aB,bH];refine ah (hs.2 aa env A h u e) λds h1 vs p1 q1=>ah (AS q1) λxs h2 src p2 q2=>?_;obtain⟨ws,q3,q4⟩:=q2;have l:=q3.length;have ev:∀(F:List Val->M Val),bnd (ask λh=>src.items h) F h2=F ws h2:=λF=>by unfold bnd ask bG;dsimp only;rw[q4 h2 (aar _)]
 rw[ev];refine bQ (λz=>by rw[<-l];exact z) λ_=>?_;have u2:=(u.ext p1).ext p2;have e2:=(e.ext p1).ext p2;refine ah (qZ (hb:=h) xs ws 0 [] h2 (p1.trans p2) u2 q4 rfl q3 λx v h' p' qx=>?_) λp h3 ys p3 hp=>?_
 ·refine ah (R:=λaM _ env'=>∃_:ER A aM env' h',True) (bx λaM ev'=>?_) λaM h4 env' p4 he'=>?_
  ·obtain⟨env',a1,a2⟩:=xJ ev' qx (AV (e2.ext p')) (by simp[iM,jY]);exact⟨env',a1,a2,trivial⟩
  ·obtain⟨er,_⟩:=he'
   have er:=er.ext p4;have u4:=(u2.ext p').ext p4;have QM:Rel A h4 (λt _ t'=>t'=t) ((if cX c=true then ret true else bnd (aB Φ c env') λv=>ask λh=>cj h v) h4) (if cX c=true then .ok true else pb (bH Ψ c aM) λv=>pl (cj [] v.2)):=by
    by_cases hn:cX c=true
    ·rw[Z7 hn,Z7 hn];exact aC rfl
    ·rw[Z8 hn,Z8 hn];exact ah (hc aM env' A h4 u4 er) λy h5 w p5 q5=>bL λt et=>⟨t,vp q5.br et,rfl⟩
   refine ah QM λt h5 t' p5 et=>?_;subst et;cases t' with
   |true=>rw[Z7 rfl,Z7 rfl];exact ah (he aM env' A h5 (u4.ext p5) (er.ext p5)) λy h6 w p6 q6=>aC (q6.up ((p1.trans p2).trans (p'.trans (p4.trans p5))))
   |false=>rw[Z8 Z0,Z8 Z0];exact aC trivial
 ·obtain⟨zs,rfl,z1,z2⟩:=hp;exact iS ((p1.trans p2).trans p3) z1
theorem Rn(hΦ:∀j,Imp (Φ j) (Ψ j))(hf:UE e=true)(ho:dN e=true):Ju Φ Ψ e:=by
 have V:=v_all hΦ;cases e<;>first|(cases hf;done)|skip
 ·exact Rk (V.2 _ ho)
 ·have ho:=vv ho;exact Rm (V.1 _ ho.1.1) (V.1 _ ho.1.2) (V.1 _ ho.2)
 ·rename_i b es
  change mT _=true at ho;cases b<;>first|(cases hf;done)|skip
  ·exact ED (V.2 _ ho)
  ·exact NG (V.2 _ ho)
 ·have ho:=vv ho;exact NH (V.2 _ ho.1.1) (V.1 _ ho.1.2) (V.1 _ ho.2)
 ·exact NC
 ·have ho:=gn ho;exact ND (V.1 _ ho.1) (V.1 _ ho.2)
 ·exact Jv (V.1 _ ho)
mutual
noncomputable def VT:IS->Bool
 |.expr e=>dN e
 |.asg _ e=>dN e
 |.aug _ _ e=>dN e
 |.cR o i v=>dN o&&dN i&&dN v
 |.iff c a b=>dN c&&xK a&&xK b
 |.for _ _ it b=>mT it&&xK b
 |.whl _ c b=>dN c&&xK b
 |.ret e=>dN e
 |_=>true
noncomputable def xK:dg->Bool
 |.nil=>true
 |.cons s r=>VT s&&xK r
end
def mS(s:IS):List Nat:=qX s++mL s
def Jw(s:dg):List Nat:=iN s++lu s
variable {ms:List Nat}
def AX(Φ:Nat->List Val->M Val)(Ψ:Nat->List Val->Pr FV)(ms:List Nat)(s:IS):Prop:=∀(A0:AP) (h0:Hs) (aa:bC) (env:Env) (h:Hs) (O:Nat->Option Nat),SR A0 h0 aa env h O->gG A0 h0 (RF A0 h0 (mS s) aa env h O) (dU Φ s env h) (bu Ψ ms s aa)
def vz(Φ:Nat->List Val->M Val)(Ψ:Nat->List Val->Pr FV)(ms:List Nat)(s:dg):Prop:=∀(A0:AP) (h0:Hs) (aa:bC) (env:Env) (h:Hs) (O:Nat->Option Nat),SR A0 h0 aa env h O->gG A0 h0 (RF A0 h0 (Jw s) aa env h O) (bS Φ s env h) (bF Ψ ms s aa)
theorem EE(he:bW Φ Ψ e)(hx:∀aa,bu Ψ ms (.expr e) aa=pb (bH Ψ e aa) λ_=>.ok (.nx aa)):AX Φ Ψ ms (.expr e):=λA0 h0 aa env h O s=>by
 rw[dU,hx];exact bh s (he aa env _ h s.yC s.er) λx h1 v p1 q1=>aZ ⟨O,s.ext p1,Fm.refl s p1⟩
theorem bD{α β γ:Type}(m:M α)(f:α -> M β)(g:β -> M γ):bnd (bnd m f) g=bnd m λx=>bnd (f x) g:=by
 funext h;show (match (match m h with|.ok a h'=>f a h'|.exc c vs h'=>.exc c vs h'|.no=>.no) with|.ok a h'=>g a h'|.exc c vs h'=>.exc c vs h'|.no=>.no)=(match m h with|.ok a h'=>bnd (f a) g h'|.exc c vs h'=>.exc c vs h'|.no=>.no);cases m h<;>rfl
theorem ai{α β:Type}{m:M α}{f:α -> M β}{a:α}{h h1:Hs}(e:m h=.ok a h1):bnd m f h=f a h1:=by unfold bnd;rw[e]
theorem aG{i:Nat}(e:env[i]?=some (some v)):aB Φ (.var i) env h=.ok v h:=by rw[aB,e];rfl
theorem Cq{i:Nat}(ha:bW Φ Ψ a):AX Φ Ψ ms (.expr (.met .append (.var i) #[a])):=λA0 h0 aa env h O s=>by
 rw[dU,bu];try dsimp only
 split
 ·rename_i ds hv
  obtain⟨b,e2,e3,vs,e4,e5⟩:=s.ow i _ hv;have ev:bnd (aB Φ (.met .append (.var i) #[a]) env) (λ_=>ret (Fl.nx env)) h=bnd (aB Φ a env) (λv=>bnd (met .append (.ref b) [v]) λ_=>ret (Fl.nx env)) h:=by
   rw[aB,bD,ai (aG e2)];rw[bD,ai (a:=()) (h1:=h) (by unfold ask bG;simp[recv,e4])];rw[bD,aK,bD]
   congr 1
  rw[ev];refine bh s (ha aa env _ h s.yC s.er) λx h1 v p1 q1=>gr λhg=>?_;have s1:=s.ext p1;obtain⟨s2,f2⟩:=s1.put (d1:=.rl (ds++[x.2])) (ob:=.lst (vs++[v])) hv e3 ⟨_,rfl,(e5.ext p1).append (ak.cons q1.1 ak.nil)⟩;have l:=e5.length;refine⟨.nx env,h1.set b (.lst (vs++[v])),?_,O,s2,(Fm.refl s p1).trans (f2.wid λj hj=>?_)⟩
  ·have g:=bK p1 e4;unfold met bnd ask bG aE put ret;dsimp only;rw[g];dsimp only;rw[Z7 (by rw[<-l];exact hg)]
  ·rw[aai.mp hj];exact aaL _ Z9
 ·trivial
theorem Cr{i:Nat}(ha:bW Φ Ψ a):AX Φ Ψ ms (.expr (.met .extend (.var i) #[a])):=λA0 h0 aa env h O s=>by
 rw[dU,bu];try dsimp only
 split
 ·rename_i ds hv
  obtain⟨b,e2,e3,vs,e4,e5⟩:=s.ow i _ hv;have ev:bnd (aB Φ (.met .extend (.var i) #[a]) env) (λ_=>ret (Fl.nx env)) h=bnd (aB Φ a env) (λv=>bnd (met .extend (.ref b) [v]) λ_=>ret (Fl.nx env)) h:=by
   rw[aB,bD,ai (aG e2)];rw[bD,ai (a:=()) (h1:=h) (by unfold ask bG;simp[recv,e4])];rw[bD,aK,bD]
   congr 1
  rw[ev];refine bh s (ha aa env _ h s.yC s.er) λx h1 v p1 q1=>?_;obtain⟨f,d⟩:=x;cases d<;>first|trivial|skip
  rename_i ts;have q:=q1.1;dsimp only at q;rw[Dn]at q;obtain⟨ws,rfl,q⟩:=q;refine gr λhg=>?_;have s1:=s.ext p1;obtain⟨s2,f2⟩:=s1.put (d1:=.rl (ds++ts)) (ob:=.lst (vs++ws)) hv e3 ⟨_,rfl,(e5.ext p1).append q⟩;have l:=e5.length;have l2:=q.length;refine⟨.nx env,h1.set b (.lst (vs++ws)),?_,O,s2,(Fm.refl s p1).trans (f2.wid λj hj=>?_)⟩
  ·have g:=bK p1 e4;unfold met bnd ask bG aE put ret wR;dsimp only;rw[g];dsimp only;rw[Z7 (by rw[<-l,<-l2];exact hg)]
  ·rw[aai.mp hj];exact aaL _ Z9
 ·trivial
theorem Jx(hΦ:∀j,Imp (Φ j) (Ψ j))(ho:dN e=true):AX Φ Ψ ms (.expr e):=by
 have V:=v_all hΦ;have gen:(∀aa,bu Ψ ms (.expr e) aa=pb (bH Ψ e aa) λ_=>.ok (.nx aa))->AX Φ Ψ ms (.expr e):=λhx=>EE (V.1 e ho) hx;cases e with
 |met m a es=>
  cases m with
  |join=>exact gen λaa=>by rw[bu]<;>(intros;simp_all)
  |append=>
   cases a with
   |var i=>
    cases es with
    |nil=>exact gen λaa=>by rw[bu]<;>(intros;simp_all)
    |cons x r=>
     cases r with
     |nil=>exact Cq (V.1 x (gn (gn ho).2).1)
     |cons _ _=>exact gen λaa=>by rw[bu]<;>(intros;simp_all)
   |_=>exact gen λaa=>by rw[bu]<;>(intros;simp_all)
  |extend=>
   cases a with
   |var i=>
    cases es with
    |nil=>exact gen λaa=>by rw[bu]<;>(intros;simp_all)
    |cons x r=>
     cases r with
     |nil=>exact Cr (V.1 x (gn (gn ho).2).1)
     |cons _ _=>exact gen λaa=>by rw[bu]<;>(intros;simp_all)
   |_=>exact gen λaa=>by rw[bu]<;>(intros;simp_all)
  |remove=>exact gen λaa=>by rw[bu]<;>(intros;simp_all)
  |pop=>exact gen λaa=>by rw[bu]<;>(intros;simp_all)
 |_=>exact gen λaa=>by rw[bu]<;>(intros;simp_all)
end
section
variable {Φ:Nat->List Val->M Val} {Ψ:Nat->List Val->Pr FV} {ms:List Nat}
theorem xM{i:Nat}{l:List Nat}(h:i∈l):∀j∈[i],j∈l:=λj hj=>by rw[aai.mp hj];exact h
theorem NI{j:Nat}(h:xF e=some j):e=.met .pop (.var j) #[¬0]:=by
 unfold xF at h;split at h
 ·cases h;rfl
 ·cases h
theorem NJ{A0:AP}{h0:Hs}{i:Nat}{o:Option Nat}{j:Nat}(s:SR A0 h0 aa env h O)(hp:some j=xF e)(ho:o=xF e) :
  gG A0 h0 (RF A0 h0 (mS (.asg (.one i) e)) aa env h O) (bnd (aB Φ e env) (λv=>bnd (bG (fR (.one i) v env)) λenv'=>ret (.nx env')) h) (Nj ms i o aa):=by
 have e0:=NI hp.symm;have eo:o=some j:=ho.trans hp.symm;subst eo;subst e0;unfold Nj;dsimp only;refine gr λhf=>?_
 split
 ·rename_i d ds hj
  refine gr λhi=>?_;obtain⟨b,e2,e3,vs,e4,e5⟩:=s.ow j _ hj;rw[ak]at e5;obtain⟨w,r,rfl,q1,q2⟩:=e5;obtain⟨s3,f3⟩:=s.put (d1:=.rl ds) (ob:=.lst r) hj e3 ⟨_,rfl,q2⟩;have qi:w=d:=(eL d w hi).mp q1;obtain⟨s4,f4⟩:=s3.set (i:=i) (d:=d) (v:=w) ((eL d w hi).mpr qi);refine⟨.nx (env.set i (some w)),h.set b (.lst r),?_,_,s4,(f3.wid (xM (by simp[mS,qX]))).trans (f4.wid (xM (by simp[mS,mL,stored])))⟩;have b1:recv h .pop (.ref b)=some ():=by show (match h[b]? with|some (.lst _)=>some ()|_=>none)=_;rw[e4]
  have b2:aK Φ #[¬0] env h=.ok [.int 0] h:=by rw[aK,ai (a:=.int 0) (h1:=h) (by rw[aB];rfl),aK];rfl
  have b3:aB Φ (.met .pop (.var j) #[¬0]) env h=.ok w (h.set b (.lst r)):=by rw[aB,ai (aG e2)];rw[show ∀(f:Unit->M Val),bnd (ask λh=>recv h .pop (.ref b)) f h=f () h from λf=>by unfold bnd ask;dsimp only;rw[b1];rfl];rw[ai b2,met];unfold bnd ask aE bG put ret;dsimp only;rw[e4];rfl
  rw[ai b3];rfl
 ·trivial
theorem NK(hΦ:∀j,Imp (Φ j) (Ψ j))(ho:dN e=true):AX Φ Ψ ms (.asg p e):=λA0 h0 aa env h O s=>by
 have V:=(v_all hΦ).1 e ho;cases p with
 |one i=>
  rw[dU,bu];try dsimp only
  split
  ·rename_i hp;exact NJ s (Option.some_get hp) rfl
  split
  ·refine gr λhf=>?_
   refine bh s (Rn hΦ hf ho aa env _ h s.yC s.er) λx h1 v p1 q1=>?_;obtain⟨f,d⟩:=x;cases d<;>first|trivial|skip
   ·obtain⟨h2,vs,rfl,rfl,p2,q2⟩:=q1 rfl;obtain⟨s2,f2⟩:=s.fresh (i:=i) p2 q2;exact⟨_,_,rfl,_,s2,f2.wid (xM (by simp[mS,mL,stored]))⟩
   ·obtain⟨h2,vs,rfl,rfl,p2,q2⟩:=q1 rfl;obtain⟨s2,f2⟩:=s.fresh (i:=i) p2 q2;exact⟨_,_,rfl,_,s2,f2.wid (xM (by simp[mS,mL,stored]))⟩
  ·refine bh s (V aa env _ h s.yC s.er) λx h1 v p1 q1=>?_
   have hnw:OV (gS x.1 x.2)=true->Dn (Al (Fr h0.length) O) h1 x.2 v:=λz=>by
    have hx:x.1=true:=by
     unfold gS at z;split at z
     ·rename_i hh;simp only[and_eq_true]at hh;exact hh.1
     ·cases z
    refine(q1.2 hx).wid λo ho=>?_;cases o with
    |none=>exact ho.elim
    |some k=>exact⟨aay s.pre.length_le ho,λj _ e=>by have:=(s.own j k e).2.1;have ho':h.length<=k:=ho;omega⟩
   have hrd:oq (gS x.1 x.2)=true:=by unfold gS;split<;>rfl
   obtain⟨s2,f2⟩:=(s.ext p1).setM (i:=i) hrd q1.1 hnw;exact⟨_,_,rfl,_,s2,(Fm.refl s p1).trans (f2.wid (xM (by simp[mS,mL,stored])))⟩
 |tup is=>
  rw[dU,bu];try dsimp only
  refine gr λhf=>bh s (V aa env _ h s.yC s.er) λx h1 v p1 q1=>?_;have s1:=s.ext p1;refine bh s1 (R:=λaM h' env'=>∃O',SR A0 h0 aM env' h' O'/\Fm (stored (.tup is)) aa env h1 O aM env' h' O') (bx λaM ev=>?_) λaM h2 env' p2 hh=>?_
  ·obtain⟨env',O',b1,b2,b3⟩:=s1.bind ev q1.1;exact⟨env',b1,O',b2,b3⟩
  ·obtain⟨O',b2,b3⟩:=hh;exact aZ ⟨O',b2,(Fm.refl s p1).trans (b3.wid λj hj=>by simp only[mS,mL];exact aaz _ hj)⟩
theorem NL{i:Nat}(hΦ:∀j,Imp (Φ j) (Ψ j))(ho:dN e=true):AX Φ Ψ ms (.aug i o e):=λA0 h0 aa env h O s=>by
 have V:=(v_all hΦ).1 e ho;rw[dU,bu];refine gr λhf=>bh s (R:=λx _ y=>y=x) (bx λx hx=>?_) λx h1 y p1 XT=>?_
 ·split at hx<;>cases hx
  rename_i f hv;have:=s.er i f _ hv;revert this;generalize oq f=t;intro this;cases t with
  |false=>rw[Z7 rfl]at this;obtain⟨_,_,k⟩:=this;exact False.elim k
  |true=>rw[Z8 (by decide)]at this;obtain⟨v,k1,k2⟩:=this;rw[Dn]at k2;subst k2;exact⟨x,by rw[k1],rfl⟩
 ·subst XT
  have s1:=s.ext p1;refine bh s1 (V aa env _ h1 s1.yC s1.er) λz h2 v p2 q2=>?_;have s2:=s1.ext p2;refine bh s2 (R:=λx _ y=>y=x) (bx λn en=>?_) λn h3 n' p3 XU=>?_
  ·obtain⟨f,d⟩:=z
   have q:=q2.1;cases d<;>first|(cases en;done)|skip
   dsimp only at q;rw[Dn]at q;subst q;exact⟨n,en,rfl⟩
  ·subst XU;have s3:=s2.ext p3;refine bh s3 (AN (h0:=h3) s3.yC (aar _) (.inl (by rw[Dn])) (.inl (by rw[Dn]))) λw h4 w' p4 q4=>?_;obtain⟨s5,f5⟩:=(s3.ext p4).set (i:=i) q4.1;exact aZ ⟨_,s5,(Fm.refl s (((p1.trans p2).trans p3).trans p4)).trans (f5.wid (xM (by simp[mS,mL])))⟩
theorem AY(k:Key)(l:List (Key×Val)):(l.any λkv=>decide (kv.1=k))=((l.map (·.1)).any λx=>decide (x=k)):=by
 rw[any_map];rfl
theorem AZ(e:Dn A h d v):∀{kvs:List (Key×Val)} {ds:List Val},ak A h ds (kvs.map (·.2)) ->
  ak A h ((((kvs.map (·.1)).zip ds).map λkv=>if kv.1=k then (kv.1,d) else kv).map (·.2)) ((kvs.map λkv=>if kv.1=k then (kv.1,v) else kv).map (·.2))
 |[],ds,q=>by simp only[map_nil,List.zip_nil_left];exact ak.nil
 | (k',v')::kvs,ds,q=>by
  have l:=q.length;cases ds with
  |nil=>simp at l
  |cons d' ds=>
   simp only[map_cons]at q;rw[ak]at q;obtain⟨v1,r,e1,q1,q2⟩:=q;cases e1;simp only[map_cons,List.zip_cons_cons];refine ak.cons ?_ (AZ e q2)
   by_cases hk:k'=k
   ·rw[Z7 hk,Z7 hk];exact e
   ·rw[Z8 hk,Z8 hk];exact q1
theorem o5(k:Key)(d:Val)(l:List (Key×Val)):(l.map λkv=>if kv.1=k then (kv.1,d) else kv).map (·.1)=l.map (·.1):=by
 rw[aaE];refine aba λx _=>?_;show (if x.1=k then (x.1,d) else x).1=x.1
 split<;>rfl
theorem Jy(hk:kvs.map (·.1)=ks)(q:ak A h ds (kvs.map (·.2)))(e:Dn A h d v) :
  (gR kvs k v).map (·.1)=(gR (ks.zip ds) k d).map (·.1)/\ak A h ((gR (ks.zip ds) k d).map (·.2)) ((gR kvs k v).map (·.2)):=by
 subst hk;have l:=q.length;rw[Z4]at l;have z1:((kvs.map (·.1)).zip ds).map (·.1)=kvs.map (·.1):=List.map_fst_zip (by rw[Z4];omega);have z2:((kvs.map (·.1)).zip ds).map (·.2)=ds:=List.map_snd_zip (by rw[Z4];omega);unfold gR;rw[AY,AY,z1]
 split
 ·rw[o5,o5,z1];exact⟨rfl,AZ e q⟩
 ·rw[aaY,aaY,aaY,aaY,z1,z2];exact⟨rfl,q.append (ak.cons e ak.nil)⟩
theorem Jz(hΦ:∀j,Imp (Φ j) (Ψ j))(ho:dN o=true)(hi:dN i=true)(hv:dN v=true):AX Φ Ψ ms (.cR o i v):=λA0 h0 aa env h O s=>by
 have V:=(v_all hΦ).1;cases o with
 |var j=>
  rw[dU,bu];refine bh s (V v hv aa env _ h s.yC s.er) λx h1 w p1 q1=>?_;have s1:=s.ext p1
  split
  ·rename_i ds hj
   obtain⟨b,e2,e3,vs,e4,e5⟩:=s1.ow j _ hj;rw[ai (aG e2)];refine bh s1 (V i hi aa env _ h1 s1.yC s1.er) λz h2 u p2 q2=>?_;have s2:=s1.ext p2;obtain⟨f,d⟩:=z;have q:=q2.1;cases d<;>first|trivial|skip
   dsimp only at q;rw[Dn]at q;subst q;rename_i kk;have g:=bK p2 e4;have l:=e5.length;show gG A0 h0 _ _ (pb (pl (BO ds.length kk)) _);cases hn:BO ds.length kk with
   |none=>trivial
   |some n=>obtain⟨s3,f3⟩:=s2.put (d1:=.rl (ds.set n x.2)) (ob:=.lst (vs.set n w)) hj e3 ⟨_,rfl,(e5.ext p2).set n (q1.1.ext p2)⟩;refine⟨.nx env,h2.set b (.lst (vs.set n w)),?_,O,s3,(Fm.refl s (p1.trans p2)).trans (f3.wid (xM (by simp[mS,qX])))⟩;rw[l]at hn;simp only[t9];unfold bnd ask bG put ret;dsimp only;rw[g];dsimp only;rw[hn]
  ·rename_i ks ds hj
   obtain⟨b,e2,e3,kvs,e4,ek,e5⟩:=s1.ow j _ hj;rw[ai (aG e2)];refine bh s1 (V i hi aa env _ h1 s1.yC s1.er) λz h2 u p2 q2=>?_;have s2:=s1.ext p2;obtain⟨f,d⟩:=z;have q:=q2.1;dsimp only at q;show gG A0 h0 _ _ (pb (pl (keyOf d)) _);cases hk:keyOf d with
   |none=>trivial
   |some kk=>
    have hu:keyOf u=some kk:=by
     cases d<;>simp only[keyOf]at hk<;>first|(cases hk;done)|skip
     all_goals (rw[Dn]at q;subst q;exact hk)
    show gG A0 h0 _ _ (pg _ _);refine gr λhl=>?_;have g:=bK p2 e4;obtain⟨k1,k2⟩:=Jy (k:=kk) ek (e5.ext p2) (q1.1.ext p2);obtain⟨s3,f3⟩:=s2.put (d1:=putD ks ds kk x.2) (ob:=.dct (gR kvs kk w)) hj e3 ⟨_,rfl,k1,k2⟩;refine⟨.nx env,h2.set b (.dct (gR kvs kk w)),?_,O,s3,(Fm.refl s (p1.trans p2)).trans (f3.wid (xM (by simp[mS,qX])))⟩;have hl':decide (kvs.length<sizeLine)=true:=by rw[<-ek,Z4]at hl;exact hl
    simp only[t9];unfold bnd ask bG put ret aE;dsimp only;rw[g];dsimp only;rw[hu];dsimp only;rw[Z7 hl']
  ·trivial
 |_=>rw[bu]<;>first|trivial|(intros;simp_all)
theorem NN(hΦ:∀j,Imp (Φ j) (Ψ j))(hc:dN c=true)(ha:vz Φ Ψ ms a)(hb:vz Φ Ψ ms b):AX Φ Ψ ms (.iff c a b):=λA0 h0 aa env h O s=>by
 have V:=(v_all hΦ).1 c hc;rw[dU,bu];refine bh s (jN V s.yC s.er) λx h1 v p1 q1=>?_;have s1:=s.ext p1;refine bh s1 (R:=λt _ t'=>t'=t) (bL λt et=>⟨t,vp q1 et,rfl⟩) λt h2 t' p2 et=>?_;subst et;have s2:=s1.ext p2;cases t' with
 |true=>
  rw[Z7 rfl,Z7 rfl];refine fu (ha A0 h0 aa env h2 O s2) λf h' g r=>(r.pre s (p1.trans p2)).wid λi hi=>?_;simp only[Jw,mS,qX,mL,mem_append]at hi |-
  rcases hi with z|z
  ·exact .inl (.inl z)
  ·exact .inr (.inl z)
 |false=>
  rw[Z8 Z0,Z8 Z0];refine fu (hb A0 h0 aa env h2 O s2) λf h' g r=>(r.pre s (p1.trans p2)).wid λi hi=>?_;simp only[Jw,mS,qX,mL,mem_append]at hi |-
  rcases hi with z|z
  ·exact .inl (.inr z)
  ·exact .inr (.inr z)
def zF(h:Hs)(O:Nat->Option Nat)(m:List Nat)(src:Src)(ws:List Val):Prop :=
 ∀h':Hs,(∀k,k<h.length->(∀i,O i≠some k)->h'[k]?=h[k]?)->(∀i,i∉m->∀a,O i=some a->h'[a]?=h[a]?)->src.items h'=some ws
theorem dm{i:Nat}(e:h[i]?=some (.lst ws)):(Src.live i).items h=some ws:=by simp[Src.items,aF,e]
theorem jn{i:Nat}(e:h[i]?=some (.lst ws)):(Src.enum i).items h=some (cI 0 ws):=by simp[Src.items,aF,e]
theorem xN{A0:AP}{h0:Hs}{m:List Nat}(hb:∀aa env h O x v,SR A0 h0 aa env h O->Dn (Al A0 O) h x v->gG A0 h0 (RF A0 h0 m aa env h O) (body v env h) (bodyV x aa))
  {mU:bC} {gp:Env} {h1:Hs} {O1:Nat->Option Nat} (st:zF h1 O1 m src ws) :
  ∀(xs vs:List Val) (i:Nat) (aa:bC) (env:Env) (h:Hs) (O:Nat->Option Nat),SR A0 h0 aa env h O->Fm m mU gp h1 O1 aa env h O->ws.drop i=vs->ak (Al A0 O) h xs vs ->
   gG A0 h0 (RF A0 h0 m mU gp h1 O1) (forM src body vs.length i env h) (iO bodyV xs aa)
 | [],vs,i,aa,env,h,O,s,f,hd,q=>by
  rw[ak]at q;subst q;have hl:ws.length<=i:=List.drop_eq_nil_iff.mp hd;have hi:=st h (λk hk n=>(f.keep k hk n).1) (λj hj a e=>(f.stay j hj).2.2.2 a e);rw[iO];refine⟨.nx env,h,?_,O,s,f⟩;show forM src body 0 i env h=_;simp only[forM];unfold bnd ask bG aE;dsimp only;rw[hi];dsimp only;rw[Z7 (decide_eq_true hl)];rfl
 | x::xs,vs,i,aa,env,h,O,s,f,hd,q=>by
  rw[ak]at q;obtain⟨v,r,rfl,q1,q2⟩:=q;have hv:ws[i]?=some v:=by have:=aaS (λl=>l[0]?) hd;simpa using this
  have hr:ws.drop (i+1)=r:=by
   have:ws.drop (i+1)=(ws.drop i).drop 1:=by rw[List.drop_drop]
   rw[this,hd];rfl
  have hi:=st h (λk hk n=>(f.keep k hk n).1) (λj hj a e=>(f.stay j hj).2.2.2 a e);have ev:forM src body (v::r).length i env h=bnd (body v env) (λf=>match f with
   |.nx env'=>forM src body r.length (i+1) env'
   |.ct env'=>forM src body r.length (i+1) env'
   |.bk env'=>ret (.nx env')
   |.rt v=>ret (.rt v)) h:=by
   show forM src body (r.length+1) i env h=_;simp only[forM];unfold bnd ask bG;dsimp only;rw[hi];dsimp only;rw[hv];try rfl
  rw[ev,iO];refine mV (hb aa env h O x v s q1) λfl h2 gl hr2=>?_;have go:∀aM env' O',SR A0 h0 aM env' h2 O'->Fm m aa env h O aM env' h2 O'->gG A0 h0 (RF A0 h0 m mU gp h1 O1) (forM src body r.length (i+1) env' h2) (iO bodyV xs aM):=λaM env' O' s' f'=>by
   refine xN hb st xs r (i+1) aM env' h2 O' s' (f.trans f') hr (ak.move j9 (λk o hk g=>?_) _ _ q2);have hlt:k<h.length:=(Z5.mp g).1;obtain⟨a1,a2⟩:=f'.keep k hlt λi=>hk.2 i rfl;exact⟨⟨hk.1,λi _=>a2 i⟩,a1.trans g⟩
  cases fl<;>cases gl<;>first|exact hr2.elim|skip
  ·obtain⟨O',s',f'⟩:=hr2;exact go _ _ O' s' f'
  ·exact aZ hr2
  ·obtain⟨O',s',f'⟩:=hr2;exact aZ ⟨O',s',f.trans f'⟩
  ·obtain⟨O',s',f'⟩:=hr2;exact go _ _ O' s' f'
theorem EF{A0:AP}{m:List Nat}(q:Dn (Al A0 O) h d v)(e:jM k [d]=some xs):∃src ws,srcOf k [v]=some src/\ak (Al A0 O) h xs ws/\src.items h=some ws/\zF h O m src ws:=by
 have lst:∀es,d=.rl es->(∃ws,v=.rl ws/\ak (Al A0 O) h es ws)\/∃a ws,v=.ref a/\h[a]?=some (.lst ws)/\ak (Al A0 O) h es ws/\∀h':Hs,(∀k,k<h.length->(∀i,O i≠some k)->h'[k]?=h[k]?)->h'[a]?=some (Ob.lst ws):=by
  rintro es rfl;rw[Dn]at q
  rcases q with ⟨ws,rfl,_,q⟩|⟨a,ws,rfl,al,g,q⟩
  ·exact .inl ⟨ws,rfl,q⟩
  ·exact .inr ⟨a,ws,rfl,g,q,λh' hk=>(hk a (Z5.mp g).1 λi=>al.2 i rfl).trans g⟩
 cases k with
 |seq=>
  cases d<;>first|(cases e;done)|skip
  ·cases e;rw[Dn]at q;obtain⟨ws,rfl,q⟩:=q;exact⟨.fix ws,ws,rfl,q,rfl,λ_ _ _=>rfl⟩
  ·cases e
   rcases lst _ rfl with ⟨ws,rfl,q'⟩|⟨a,ws,rfl,g,q',st⟩
   ·exact⟨.fix ws,ws,rfl,q',rfl,λ_ _ _=>rfl⟩
   ·exact⟨.live a,ws,rfl,q',dm g,λh' hk _=>dm (st h' hk)⟩
 |range=>
  cases d<;>first|(cases e;done)|skip
  rw[Dn]at q;subst q;rename_i n;change (if inR n=true then some (ck 0 n.toNat) else none)=some _ at e;split at e
  ·rename_i hn;cases e;exact⟨.fix _,_,Z7 hn,kK,rfl,λ_ _ _=>rfl⟩
  ·cases e
 |enum=>
  cases d<;>first|(cases e;done)|skip
  cases e
  rcases lst _ rfl with ⟨ws,rfl,q'⟩|⟨a,ws,rfl,g,q',st⟩
  ·exact⟨.fix _,_,rfl,iQ 0 q',rfl,λ_ _ _=>rfl⟩
  ·exact⟨.enum a,_,rfl,iQ 0 q',jn g,λh' hk _=>jn (st h' hk)⟩
 |zip=>cases e
theorem EG{α β γ δ:Type}{R:α -> Hs -> β -> Prop}{R':γ -> Hs -> δ -> Prop}{m:M β}{f:β -> M δ}{p:Pr α}{F:α -> Pr γ}(r:Rel A h R (m h) p)(k:∀a h1 b,p=.ok a->h<+:h1->R a h1 b->Rel A h1 R' (f b h1) (F a)):Rel A h R' (bnd m f h) (pb p F):=by
 unfold bnd;cases p with
 |ok a=>
  obtain⟨b,h1,e,q,r⟩:=r;rw[e];show Rel A h R' (f b h1) (F a);have:=k a h1 b rfl q r;cases e2:F a with
  |ok c=>rw[e2]at this;obtain⟨d,h2,e3,q2,r2⟩:=this;exact⟨d,h2,e3,q.trans q2,r2⟩
  |exc c es=>rw[e2]at this;obtain⟨d,h2,e3,q2,r2⟩:=this;exact⟨d,h2,e3,q.trans q2,r2⟩
  |no=>trivial
 |exc c es=>obtain⟨ws,h1,e,q,r⟩:=r;rw[e];exact⟨ws,h1,rfl,q,r⟩
 |no=>trivial
theorem EH{e e2:IE}(h:gm Ψ (.cons e (.cons e2 r)) aa=.ok ds):2<=ds.length:=by
 rw[gm,gm]at h;cases h1:(if isVar e=true then pl (gU aa e) else bH Ψ e aa) with
 |ok a=>
  rw[h1]at h;cases h2:(if isVar e2=true then pl (gU aa e2) else bH Ψ e2 aa) with
  |ok b=>
   rw[h2]at h;cases h3:gm Ψ r aa with
   |ok c=>rw[h3]at h;cases h;simp
   |exc _ _=>rw[h3]at h;cases h
   |no=>rw[h3]at h;cases h
  |exc _ _=>rw[h2]at h;cases h
  |no=>rw[h2]at h;cases h
 |exc _ _=>rw[h1]at h;cases h
 |no=>rw[h1]at h;cases h
theorem EI{d1 d2:Val}(ex:jM k [d1,d2]=some xs):k=.range/\∃n m,d1=.int n/\d2=.int m/\(inR n&&inR m)=true/\xs=ck n (m-n).toNat:=by
 cases k with
 |seq=>cases d1<;>cases ex
 |enum=>cases d1<;>cases ex
 |zip=>cases ex
 |range=>
  cases d1<;>first|(cases ex;done)|skip
  cases d2<;>first|(cases ex;done)|skip
  rename_i n m;change (if (inR n&&inR m)=true then some (ck n (m-n).toNat) else none)=some xs at ex
  by_cases hn:(inR n&&inR m)=true
  ·rw[Z7 hn]at ex;cases ex;exact⟨rfl,n,m,rfl,rfl,hn,rfl⟩
  ·rw[Z8 hn]at ex;cases ex
theorem zG{d1 d2 d3:Val}:jM k (d1::d2::d3::r)=none:=by
 cases k with
 |seq=>cases d1<;>rfl
 |enum=>cases d1<;>rfl
 |zip=>rfl
 |range=>cases d1<;>first|rfl|(cases d2<;>rfl)
theorem JA{A0:AP}{h0:Hs}{m:List Nat}(hΦ:∀j,Imp (Φ j) (Ψ j))(hi:mT it=true)(s:SR A0 h0 aa env h O)(hm:∀i,it=.cons (.var i) .nil->i∉m) :
  Rel (Al A0 O) h (λxs h' src=>∃ws,ak (Al A0 O) h' xs ws/\src.items h'=some ws/\zF h' O m src ws) (bnd (aK Φ it env) (λits=>bG (srcOf k its)) h) (pb (gm Ψ it aa) λits=>pl (jM k its)):=by
 have V:=v_all hΦ;cases it with
 |nil=>rw[gm];cases k<;>trivial
 |cons e es=>
  cases es with
  |nil=>
   replace hi:=gn hi
   by_cases hv:isVar e=true
   ·cases e<;>first|(cases hv;done)|skip
    rename_i i;rw[gm,gm,Z7 hv];simp only[gU];cases hx:aa[i]? with
    |none=>trivial
    |some o=>
     cases o with
     |none=>trivial
     |some fd=>
      obtain⟨f,d⟩:=fd;show Rel _ _ _ _ (pl (jM k [d]));cases hf:oq f with
      |false=>
       have hf:f=.ow:=by cases f<;>first|rfl|cases hf
       subst hf;obtain⟨a,e2,e3,e4⟩:=s.ow i d hx;have ev:bnd (aK Φ #[.var i] env) (λits=>bG (srcOf k its)) h=bG (srcOf k [.ref a]) h:=by rw[aK,aK,bD,ai (aG e2)];rfl
       rw[ev];refine bx λxs ex=>?_;have hd:∃ds,d=.rl ds:=by cases d<;>first|exact⟨_,rfl⟩|exact False.elim e4|(cases k<;>cases ex)
       obtain⟨ds,rfl⟩:=hd;obtain⟨vs,e4,e5⟩:=e4;have st:∀h':Hs,(∀i,i∉m->∀a,O i=some a->h'[a]?=h[a]?)->h'[a]?=some (Ob.lst vs):=λh' hs=>(hs i (hm i rfl) a e3).trans e4;cases k with
       |seq=>cases ex;exact⟨.live a,rfl,vs,e5,dm e4,λh' _ hs=>dm (st h' hs)⟩
       |range=>cases ex
       |enum=>cases ex;exact⟨.enum a,rfl,_,iQ 0 e5,jn e4,λh' _ hs=>jn (st h' hs)⟩
       |zip=>cases ex
      |true=>
       obtain⟨v,e1,e2,_⟩:=s.sh i f d hx hf;have ev:bnd (aK Φ #[.var i] env) (λits=>bG (srcOf k its)) h=bG (srcOf k [v]) h:=by rw[aK,aK,bD,ai (aG e1)];rfl
       rw[ev];refine bx λxs ex=>?_;obtain⟨src,ws,a1,a2,a3,a4⟩:=EF (m:=m) e2 ex;exact⟨src,a1,ws,a2,a3,a4⟩
   ·rw[gm,gm,Z8 hv]
    have ev:bnd (aK Φ #[e] env) (λits=>bG (srcOf k its)) h=bnd (aB Φ e env) (λv=>bG (srcOf k [v])) h:=by rw[aK,aK,bD];rfl
    rw[ev];have ep:(pb (pb (bH Ψ e aa) λd=>pb (Pr.ok ([]:List Val)) λp=>Pr.ok (d.2::p)) λits=>pl (jM k its))=pb (bH Ψ e aa) λd=>pl (jM k [d.2]):=by cases bH Ψ e aa<;>rfl
    rw[ep];refine ah (V.1 e hi.1 aa env _ h s.yC s.er) λx h1 v p1 q1=>bx λxs ex=>?_;obtain⟨src,ws,a1,a2,a3,a4⟩:=EF (m:=m) q1.1 ex;exact⟨src,a1,ws,a2,a3,a4⟩
  |cons e2 r=>
   have V2:=V.2 _ hi;refine EG (V2.2 aa env _ h s.yC s.er) λds h1 vs eb p1 q1=>bx λxs ex=>?_;have hl:2<=ds.length:=EH eb
   match ds,q1 with
   |[],q1=>cases k<;>cases ex
   |[d],q1=>simp at hl
   |[d1,d2],q1=>obtain⟨v,rr,rfl,hv,hr⟩:=q1;obtain⟨w,rfl,hw⟩:=Jm.one hr;obtain⟨rfl,n,m',rfl,rfl,hn,rfl⟩:=EI ex;have:=hv.int;subst this;have:=hw.int;subst this;exact⟨.fix _,Z7 hn,_,kK,rfl,λ_ _ _=>rfl⟩
   |d1::d2::d3::dr,q1=>rw[zG]at ex;cases ex
theorem NO(hΦ:∀j,Imp (Φ j) (Ψ j))(hi:mT it=true)(hb:vz Φ Ψ ms body):AX Φ Ψ ms (.for p k it body):=λA0 h0 aa env h O s=>by
 rw[dU,bu];refine gr λhg=>?_;rw[abm]at hg;have hm:∀i,it=.cons (.var i) .nil->i∉mS (.for p k it body):=by
  rintro i rfl z;simp only[uo,and_eq_true,not_eq_true',List.contains_eq_mem,decide_eq_false_iff_not]at hg;simp only[mS,qX,mL,mem_append]at z
  rcases z with z|z|z
  ·exact hg.1.1.1 z
  ·exact hg.1.2 z
  ·exact hg.1.1.2 z
 have ev:∀(F:Src->M Fl),bnd (aK Φ it env) (λits=>bnd (bG (srcOf k its)) F) h=bnd (bnd (aK Φ it env) λits=>bG (srcOf k its)) F h:=λF=>by rw[bD]
 have ep:∀(F:List Val->Pr Cp),pb (gm Ψ it aa) (λits=>pb (pl (jM k its)) F)=pb (pb (gm Ψ it aa) λits=>pl (jM k its)) F:=λF=>by cases gm Ψ it aa<;>rfl
 rw[ev,ep];refine bh s (JA (m:=mS (.for p k it body)) hΦ hi s hm) λxs h1 src p1 hx=>?_;obtain⟨ws,q1,q2,st⟩:=hx;have s1:=s.ext p1;have l:=q1.length;have XW:∀(F:List Val->M Fl),bnd (ask λh=>src.items h) F h1=F ws h1:=λF=>by unfold bnd ask bG;dsimp only;rw[q2]
 rw[XW];refine fu (xN (m:=mS (.for p k it body)) (λaM env' h' O' x v s' qx=>?_) st xs ws 0 aa env h1 O s1 (Fm.refl s1 (aar _)) rfl q1) λf h' g r=>r.pre s p1;refine bh s' (R:=λo4 h2 lN=>∃O2,SR A0 h0 o4 lN h2 O2/\Fm (stored p) aM env' h' O' o4 lN h2 O2) (bx λo4 e2=>?_) λo4 h2 lN p2 hh=>?_
 ·obtain⟨lN,O2,b1,b2,b3⟩:=s'.bind e2 qx;exact⟨lN,b1,O2,b2,b3⟩
 ·obtain⟨O2,b2,b3⟩:=hh
  refine fu (hb A0 h0 o4 lN h2 O2 b2) λf h'' g r=>RF.seq (b3.wid λi hi=>?_) (r.wid λi hi=>?_)
  ·simp only[mS,qX,mL,mem_append];exact .inr (.inl hi)
  ·simp only[Jw,mS,qX,mL,mem_append]at hi |-
   rcases hi with z|z
   ·exact .inl z
   ·exact .inr (.inr z)
theorem NP{n:Nat}(hΦ:∀j,Imp (Φ j) (Ψ j))(hc:dN c=true)(hb:vz Φ Ψ ms body):AX Φ Ψ ms (.whl n c body):=λA0 h0 aa env h O s=>by
 have V:=(v_all hΦ).1 c hc;rw[dU,bu]
 induction n generalizing aa env h O with
 |zero=>trivial
 |succ n ih=>
  simp only[nX,xE];have ct:Rel (Al A0 O) h (λt _ t'=>t'=t) ((bnd (aB Φ c env) λx=>ask λh=>cj h x) h) (pb (Ku Ψ c aa) λx=>pl (cj [] x.2)) :=
   ah (jN V s.yC s.er) λx h1 v p1 q1=>bL λt et=>⟨t,vp q1 et,rfl⟩
  refine bh s ct λt h1 t' p1 et=>?_;subst et;have s1:=s.ext p1;cases t' with
  |true=>
   rw[Z7 rfl,Z7 rfl];refine mV (hb A0 h0 aa env h1 O s1) λf h2 g r=>?_;have r:=(r.pre s p1).wid (m':=mS (.whl n c body)) λi hi=>hi;cases f<;>cases g<;>first|exact r.elim|skip
   ·obtain⟨O',s',f'⟩:=r;exact fu (ih _ _ _ O' s') λf h' g r'=>RF.seq f' r'
   ·exact aZ r
   ·obtain⟨O',s',f'⟩:=r;exact aZ ⟨O',s',f'⟩
   ·obtain⟨O',s',f'⟩:=r;exact fu (ih _ _ _ O' s') λf h' g r'=>RF.seq f' r'
  |false=>rw[Z8 Z0,Z8 Z0];exact aZ ⟨O,s1,Fm.refl s p1⟩
theorem Ky:oq (VL m)=true:=by cases m<;>rfl
theorem SR.fr{A0:AP}{h0:Hs}(s:SR A0 h0 aa env h O):ER A0 (jL aa) env h:=λi f d e=>by
 unfold jL at e;rw[aas]at e;cases hx:aa[i]? with
 |none=>rw[hx]at e;cases e
 |some o=>
  rw[hx]at e;cases o with
  |none=>cases e
  |some fd=>
   obtain⟨m,d'⟩:=fd;cases e;rw[Z8 (by rw[Ky];decide)];cases hm:oq m with
   |false=>
    have hm:m=.ow:=by cases m<;>first|rfl|cases hm
    subst hm;obtain⟨a,e2,e3,e4⟩:=s.ow i d hx;exact⟨_,e2,(e4.mono (A':=A0) (λ_ g=>g) λ_ _ z=>z.wid λ_ y=>y.1).dn (s.up a (s.own i a e3).1)⟩
   |true=>obtain⟨v,e1,e2,_⟩:=s.sh i m d hx hm;exact⟨v,e1,e2.wid λ_ z=>z.1⟩
theorem ur{A0:AP}{h0:Hs}{α β γ δ:Type}{R:α -> Hs -> β -> Prop}{R':γ -> Hs -> δ -> Prop}{mm:M β}{f:β -> M δ}{p:Pr α}{F:α -> Pr γ}(s:SR A0 h0 aa env h O)(r:Rel A0 h R (mm h) p)(k:∀a h1 b,h<+:h1->R a h1 b->gG A0 h0 R' (f b h1) (F a)):gG A0 h0 R' (bnd mm f h) (pb p F):=by
 unfold bnd;cases p with
 |ok a=>obtain⟨b,h1,e,q,r⟩:=r;rw[e];exact k a h1 b q r
 |exc c es=>obtain⟨ws,h1,e,q,r⟩:=r;rw[e];exact⟨ws,h1,rfl,s.pre.trans q,r⟩
 |no=>trivial
theorem Cs(h:Jj env es=some p):∃i j,es=.cons (.var i) #[.var j]/\env[i]?=some (some (.nw,p.1))/\env[j]?=some (some (.nw,p.2)):=by
 unfold Jj at h;split at h
 ·split at h
  ·rename_i a b;cases h;exact⟨_,_,rfl,a,b⟩
  ·cases h
 ·cases h
theorem NQ(hΦ:∀j,Imp (Φ j) (Ψ j))(ho:dN e=true):AX Φ Ψ ms (.ret e):=λA0 h0 aa env h O s=>by
 have V:=(v_all hΦ).1 e ho;have gen:SN Ψ e aa=bH Ψ e aa->gG A0 h0 (RF A0 h0 (mS (.ret e)) aa env h O) (dU Φ (.ret e) env h) (bu Ψ ms (.ret e) aa):=λhe=>by
  rw[dU,bu,he];exact bh s (V aa env _ h s.yC s.er) λx h1 v p1 q1=>aZ ⟨q1.1.wid λ_ z=>z.1,λf=>(q1.2 f).wid (Fr.le s.pre.length_le),s.pre.trans p1⟩
 cases e with
 |var i=>
  rw[dU,bu];simp only[SN];cases hx:aa[i]? with
  |none=>trivial
  |some o=>
   cases o with
   |none=>trivial
   |some fd=>
    obtain⟨f,d⟩:=fd;cases hf:oq f with
    |false=>
     have hf:f=.ow:=by cases f<;>first|rfl|cases hf
     subst hf;obtain⟨a,e2,e3,e4⟩:=s.ow i d hx;rw[ai (aG e2)];have ha:=s.own i a e3;cases d<;>first|exact False.elim e4|skip
     ·refine⟨_,h,rfl,?_,λhi=>?_,s.pre⟩
      ·exact(e4.mono (A':=A0) (λ_ g=>g) λ_ _ z=>z.wid λ_ y=>y.1).dn (s.up a ha.1)
      ·obtain⟨vs,e4,e5⟩:=e4;show Dn _ h (.rl _) (.ref a);rw[Dn];exact .inr ⟨a,vs,rfl,ha.1,e4,gF e5 hi⟩
     ·refine⟨_,h,rfl,?_,λhi=>?_,s.pre⟩
      ·exact(e4.mono (A':=A0) (λ_ g=>g) λ_ _ z=>z.wid λ_ y=>y.1).dn (s.up a ha.1)
      ·obtain⟨kvs,e4,ek,e5⟩:=e4;show Dn _ h (.dc _ _) (.ref a);rw[Dn];exact⟨a,kvs,rfl,ha.1,e4,ek,gF e5 hi⟩
    |true=>
     obtain⟨v,e1,e2,e3⟩:=s.sh i f d hx hf;rw[ai (aG e1)];dsimp only;rw[Z7 hf];refine⟨_,h,rfl,e2.wid λ_ z=>z.1,λhi=>?_,s.pre⟩
     rcases(or_eq_true _ _).mp hi with hi|hi
     ·exact(eL d v hi).mpr ((eL d v hi).mp e2)
     ·exact(e3 hi).wid λ_ z=>z.1
 |call j es=>rw[dU,bu];exact ur s (V (jL aa) env A0 h (s.up.ext s.pre) s.fr) λx h1 v p1 q1=>aZ ⟨q1.1,λf=>(q1.2 f).wid (Fr.le s.pre.length_le),s.pre.trans p1⟩
 |tup es=>
  rw[dU,bu];change gG A0 h0 _ _ (pb (Jk Ψ es aa) _);unfold Jk
  split
  ·rename_i pp hp
   obtain⟨i,j,he,hi,hj⟩:=Cs hp;subst he;obtain⟨v,e1,e2,e3⟩:=s.sh i .nw _ hi rfl;obtain⟨w,k1,k2,k3⟩:=s.sh j .nw _ hj rfl;have ev:aB Φ (.tup #[.var i,.var j]) env h=.ok (.tup [v,w]) h:=by rw[aB,aK,aK,aK];rw[ai (a:=[v,w]) (h1:=h) (by rw[ai (aG e1),ai (a:=[w]) (h1:=h) (by rw[ai (aG k1)];rfl)];rfl)];rfl
   rw[ai ev];refine⟨_,h,rfl,?_,λ_=>?_,s.pre⟩
   ·show Dn A0 h (.tup _) _;rw[Dn];exact⟨_,rfl,ak.cons (e2.wid λ_ z=>z.1) (ak.cons (k2.wid λ_ z=>z.1) ak.nil)⟩
   ·show Dn (Fr h0.length) h (.tup _) _;rw[Dn];exact⟨_,rfl,ak.cons ((e3 rfl).wid λ_ z=>z.1) (ak.cons ((k3 rfl).wid λ_ z=>z.1) ak.nil)⟩
  exact ur s (V (jL aa) env A0 h (s.up.ext s.pre) s.fr) λx h1 v p1 q1=>aZ ⟨q1.1,λf=>(q1.2 f).wid (Fr.le s.pre.length_le),s.pre.trans p1⟩
 |_=>exact gen rfl
theorem NR:vz Φ Ψ ms .nil:=λA0 h0 aa env h O s=>by rw[bS,bF];exact aZ ⟨O,s,Fm.refl s (aar _)⟩
theorem JB(ha:AX Φ Ψ ms a)(hr:vz Φ Ψ ms r):vz Φ Ψ ms (.cons a r):=λA0 h0 aa env h O s=>by
 rw[bS,bF];have w1:∀i∈mS a,i∈Jw (.cons a r):=λi hi=>by
  simp only[mS,Jw,iN,lu,mem_append]at hi |-
  rcases hi with z|z
  ·exact .inl (.inl z)
  ·exact .inr (.inl z)
 have w2:∀i∈Jw r,i∈Jw (.cons a r):=λi hi=>by
  simp only[Jw,iN,lu,mem_append]at hi |-
  rcases hi with z|z
  ·exact .inl (.inr z)
  ·exact .inr (.inr z)
 refine mV (ha A0 h0 aa env h O s) λf h1 g rr=>?_;have rr:=rr.wid w1;cases f<;>cases g<;>first|exact rr.elim|skip
 ·obtain⟨O',s',f'⟩:=rr;exact fu (hr A0 h0 _ _ h1 O' s') λf h' g r'=>RF.seq f' (r'.wid w2)
 ·exact aZ rr
 ·exact aZ rr
 ·exact aZ rr
theorem Ro(hΦ:∀j,Imp (Φ j) (Ψ j)):∀ss,xK ss=true->vz Φ Ψ ms ss:=by
 intro ss;refine dg.rec (motive_1:=λs=>VT s=true->AX Φ Ψ ms s) (motive_2:=λss=>xK ss=true->vz Φ Ψ ms ss) ?_ ?_ ?_ ?_ ?_ ?_ ?_ ?_ ?_ ?_ ?_ ?_ ?_ ?_ ?_ ?_ ss
 ·exact λe f=>Jx hΦ f
 ·exact λp e f=>NK hΦ f
 ·exact λi o e f=>NL hΦ f
 ·intro o i v f;have f:=vv f;exact Jz hΦ f.1.1 f.1.2 f.2
 ·intro c a b ia ib f;have f:=vv f;exact NN hΦ f.1.1 (ia f.1.2) (ib f.2)
 ·intro p k it b ib f;have f:=gn f;exact NO hΦ f.1 (ib f.2)
 ·intro n c b ib f;have f:=gn f;exact NP hΦ f.1 (ib f.2)
 ·exact λe f=>NQ hΦ f
 ·exact λ_ A0 h0 aa env h O s=>by rw[dU,bu];exact aZ ⟨by rw[Dn],λ_=>by rw[Dn],s.pre⟩
 ·exact λ_ A0 h0 aa env h O s=>by rw[dU,bu];exact aZ ⟨O,s,Fm.refl s (aar _)⟩
 ·exact λ_ A0 h0 aa env h O s=>by rw[dU,bu];exact aZ ⟨O,s,Fm.refl s (aar _)⟩
 ·exact λ_ A0 h0 aa env h O s=>by rw[dU,bu];exact aZ ⟨O,s,Fm.refl s (aar _)⟩
 ·exact λ_ A0 h0 aa env h O s=>by rw[bu];trivial
 ·exact λ_ _ _ _ _ A0 h0 aa env h O s=>by rw[bu];trivial
 ·exact λ_=>NR
 ·intro a r ia ir f;have f:=gn f;exact JB (ia f.1) (ir f.2)
theorem Rp{n:Nat}(u:Up A h)(q:ak A h ds vs):SR A h (ds.map (λd=>some (.sh,d))++replicate (n-ds.length) none) (vs.map some++replicate (n-vs.length) none) h (λ_=>none):=by
 have l:=q.length;have al:∀k,A k->Al A (λ_=>none) k:=λk hk=>⟨hk,λi z e=>by subst e;cases z⟩;have get:∀(i:Nat) (f:Mk) (d:Val),(ds.map (λd=>some (.sh,d))++replicate (n-ds.length) none:bC)[i]?=some (some (f,d))->f=.sh/\ds[i]?=some d:=λi f d e=>by
  by_cases hi:i<ds.length
  ·rw[aag (by simpa using hi),aas]at e
   cases ei:ds[i]? with
   |none=>rw[ei]at e;cases e
   |some d'=>rw[ei]at e;cases e;exact⟨rfl,rfl⟩
  ·rw[aau (by simp;omega)]at e;have:=aaq e;rw[List.mem_replicate]at this;exact absurd this.2 (by simp)
 refine⟨by simp[l],λi m d e hm=>?_,λi d e=>?_,(λi a e=>nomatch e),(λi j a e=>nomatch e),aar _,u⟩
 ·obtain⟨hm',e⟩:=get i m d e;obtain⟨v,k1,k2⟩:=q.get e;have hi:i<vs.length:=(Z5.mp k1).1;exact⟨v,by rw[aag (by simpa using hi),aas,k1];rfl,k2.wid al,λz=>by subst hm';cases z⟩
 ·obtain⟨z,_⟩:=get i .ow d e;cases z
theorem bI{n:Nat}(hΦ:∀j,Imp (Φ j) (Ψ j))(ho:xK body=true):Imp (dX Φ n body) (fc Ψ n body):=λA h ds vs u q=>by
 have l:=q.length;have s:=Rp (n:=n) u q;unfold dX fc;have r:=mV (R':=λx h' v=>h<+:h'/\RV A h x h' v) (Ro (ms:=iN body) hΦ body ho A h _ _ h _ s) (f:=λf=>match f with
  |.nx _=>ret .non
  |.rt v=>ret v
  |_=>bG none) (F:=λf=>match f with
  |.nx _=>.ok (true,.non)
  |.rt p=>.ok p
  | _=>.no) λf h1 g rr=>by
   cases f<;>cases g<;>first|exact rr.elim|skip
   ·obtain⟨O',s',_⟩:=rr;exact aZ ⟨s'.pre,by show Dn _ _ Val.non _;rw[Dn],λ_=>by show Dn _ _ Val.non _;rw[Dn]⟩
   ·exact aZ ⟨rr.2.2,rr.1,rr.2.1⟩
   ·trivial
   ·trivial
 revert r;generalize (pb (bF Ψ (iN body) body (ds.map (λd=>some (.sh,d))++replicate (n-ds.length) none)) _)=p;intro r;cases p with
 |ok x=>obtain⟨v,h',e,a,b⟩:=r;exact⟨v,h',e,a,b⟩
 |exc c es=>exact r
 |no=>trivial
end
abbrev aX:=List Val->Pr FV
def aq(gs:List aX)(j:Nat):aX:=match gs[j]? with
 |some g=>g
 |none=>λ_=>.no
def cL(fs:List Row)(gs:List aX):Prop:=fs.length=gs.length/\∀(j:Nat) (r:Row) (g:aX),fs[j]?=some r->gs[j]?=some g->Imp r.2.2 g
theorem EJ:cL [] []:=⟨rfl,λj r g e=>by simp at e⟩
theorem az(a:cL fs gs)(j:Nat):Imp (look fs j) (aq gs j):=by
 unfold look aq;cases e:fs[j]? with
 |none=>
  have:gs[j]?=none:=by have:=abr.mp e;exact abr.mpr (by rw[<-a.1];exact this)
  rw[this];exact λ_ _ _ _ _ _=>trivial
 |some r=>
  cases e2:gs[j]? with
  |none=>exact λ_ _ _ _ _ _=>trivial
  |some g=>exact a.2 j r g e e2
theorem aA{k:Nat}(a:cL fs gs)(i:Imp f g):cL (fs++[(x,k,f)]) (gs++[g]):=by
 refine⟨by simp[a.1],λj r g' e1 e2=>?_⟩
 by_cases hj:j<fs.length
 ·rw[aag hj]at e1;rw[aag (by rw[<-a.1];exact hj)]at e2;exact a.2 j r g' e1 e2
 ·rw[aau (by omega)]at e1
  rw[aau (by rw[<-a.1];omega)]at e2;have hj0:j-fs.length=0:=by have:=(Z5.mp e1).1;simp at this;omega
  rw[<-a.1]at e2;rw[hj0]at e1 e2;simp at e1 e2;subst e1;subst e2;exact i
theorem EK(i:Imp φ ψ){ns:List Int}{f:Bool}(e:ψ [.rl (ns.map .int)]=.ok (f,.bl true)):∃h',φ [.rl (ns.map .int)] []=.ok (.bl true) h':=by
 have r:=i (λ_=>True) [] [.rl (ns.map .int)] [.rl (ns.map .int)] (λ_ _=>trivial) (ak.cons (by rw[Dn];exact .inl ⟨_,rfl,trivial,(aQ _ _ (aS ns)).mpr rfl⟩) ak.nil);rw[e]at r;obtain⟨v,h',e1,_,q⟩:=r;have q:=q.1;dsimp only at q;rw[Dn]at q;subst q;exact⟨h',e1⟩
section
variable {α β γ:Type}
theorem bf(a:α)(f:α -> Pr β):pb (.ok a) f=f a:=rfl
theorem NS(c:Prop)[Decidable c](m n:Pr α)(f:α -> Pr β):pb (if c then m else n) f=if c then pb m f else pb n f:=by split<;>rfl
theorem ly(m:Pr α)(f:α -> Pr β)(g:β -> Pr γ):pb (pb m f) g=pb m λx=>pb (f x) g:=by cases m<;>rfl
theorem b7(a:α):pl (some a)=.ok a:=rfl
theorem JC(m:Pr α):pg true m=m:=rfl
theorem NT(c:Prop)[Decidable c](m:Pr α):pg (decide c) m=if c then m else .no:=by unfold pg;simp
theorem lO{c:Bool}(h:c=true)(m:Pr α):pg c m=m:=by rw[h];rfl
end
theorem mW{f:Bool}:oq (gS f d)=true:=by unfold gS;split<;>rfl
theorem Rq:oq .sh=true:=rfl
theorem Rt:oq .nw=true:=rfl
theorem Ru:oq .ow=false:=rfl
theorem Rv:OV .sh=false:=rfl
theorem Rw:OV .nw=true:=rfl
theorem vA{f:Bool}{i:Int}:gS f (.int i)=.sh:=by cases f<;>rfl
theorem Rx{f:Bool}{i:Bool}:gS f (.bl i)=.sh:=by cases f<;>rfl
theorem NU{f:Bool}:gS f (.str i)=.sh:=by cases f<;>rfl
theorem NV{f:Bool}:gS f .non=.sh:=by cases f<;>rfl
theorem UI:gS false d=.sh:=rfl
theorem Ry:gS true (.rl ds)=.nw:=rfl
theorem Rz:gS true (.dc ks ds)=.nw:=rfl
section
variable {a b:Int} {x y:Str} {t:Bool} {vs ws:List Val} {v:Val}
theorem RA:j5 .add (.int a) (.int b)=.ok (true,.int (a+b)):=rfl
theorem RB:j5 .sub (.int a) (.int b)=.ok (true,.int (a-b)):=rfl
theorem EL(h:jA a b=true):j5 .mul (.int a) (.int b)=.ok (true,.int (a*b)):=by simp only[j5];exact lO h _
theorem jq(h:jf b=true):j5 .fdiv (.int a) (.int b)=.ok (true,.int (a/b)):=by simp only[j5];exact lO h _
theorem jE(h:decide (0<b)=true):j5 .mod (.int a) (.int b)=.ok (true,.int (a%b)):=by simp only[j5];exact lO h _
theorem Kz(h:decide (0<=b/\b<=1000000/\a.natAbs<2 ^ 64)=true):j5 .pow (.int a) (.int b)=.ok (true,.int (a ^ b.toNat)):=by simp only[j5];exact lO h _
theorem UJ:cop [] .lt (.int a) (.int b)=some (decide (a<b)):=rfl
theorem UK:cop [] .le (.int a) (.int b)=some (decide (a<=b)):=rfl
theorem UL:cop [] .gt (.int a) (.int b)=some (decide (b<a)):=rfl
theorem UM:cop [] .ge (.int a) (.int b)=some (decide (b<=a)):=rfl
theorem UN:cop [] .eq (.int a) (.int b)=some (decide (a=b)):=by
 show some (a==b)=_
 congr 1
theorem UO:cop [] .ne (.int a) (.int b)=some (!decide (a=b)):=by
 show some (!(a==b))=_
 congr 1
theorem RC:cop [] .isn v .non=some (mG v):=by cases v<;>rfl
theorem RD:cop [] .ntn v .non=some (!mG v):=by cases v<;>rfl
theorem EM:cj [] (.bl t)=some t:=rfl
theorem RE:cj [] (.int a)=some (a != 0):=rfl
theorem RG:cj [] (.rl vs)=some (!vs.isEmpty):=rfl
theorem RH:cj [] (.tup vs)=some (!vs.isEmpty):=rfl
theorem RI:gT .len [.rl vs]=.ok (true,.int vs.length):=rfl
theorem RJ:gT .len [.tup vs]=.ok (true,.int vs.length):=rfl
theorem RK:gT .min [.int a,.int b]=.ok (true,.int (if b<a then b else a)):=rfl
theorem RL:gT .max [.int a,.int b]=.ok (true,.int (if b>a then b else a)):=rfl
theorem NW:gT .list [.rl vs]=.ok (bT vs,.rl vs):=rfl
theorem NX:gT .list [.tup vs]=.ok (bT vs,.rl vs):=rfl
theorem RM:gT .int [.bl t]=.ok (true,.int (if t=true then 1 else 0)):=rfl
theorem rj(h:jQ vs a=some v):lK [] (.rl vs) (.int a)=some v:=h
theorem cM(h:jQ vs a=some v):lK [] (.tup vs) (.int a)=some v:=h
end
theorem pK:jQ (v::vs) (0:Int)=some v:=by
 have:=mj (xs:=v::vs) (j:=0) (v:=v) rfl;exact this
theorem rm:jQ (u::v::vs) (1:Int)=some v:=by
 have:=mj (xs:=u::v::vs) (j:=1) (v:=v) rfl;exact this
theorem RO:jQ (u::v::w::vs) (2:Int)=some w:=by
 have:=mj (xs:=u::v::w::vs) (j:=2) (v:=w) rfl;exact this
theorem oz{T:String}{t:String}(h1:wV [] v=some t)(h2:wW T t=some true):gT (.isin T) [v]=.ok (true,.bl true):=by
 show pb (pl (wV [] v)) _=_;rw[h1,b7,bf,h2];rfl
theorem zH{T:String}{t:String}(h1:wV [] v=some t)(h2:wW T t=some false):gT (.isin T) [v]=.ok (true,.bl false):=by
 show pb (pl (wV [] v)) _=_;rw[h1,b7,bf,h2];rfl
theorem ne_self(h:toD 16 [] d=some p)(hp:p.canLay0=true):cop [] .ne d d=some false:=by
 simp only[cop,CI,h,bind_some];rw[SeqAt.eqv_refl p hp];rfl
theorem KA:jM .seq [.tup vs]=some vs:=rfl
theorem fU:jM .seq [.rl vs]=some vs:=rfl
theorem NY:Ew .seq ds=jM .seq ds:=rfl
theorem NZ:Ew .range ds=jM .range ds:=rfl
theorem N1:Ew .enum ds=jM .enum ds:=rfl
theorem RP:jM .enum [.rl vs]=some (cI 0 vs):=rfl
theorem KC{lo hi:Option Int}:zC (.rl vs) lo hi=.ok (bT (cA vs lo hi),.rl (cA vs lo hi)):=rfl
theorem aW{i:Nat}:ff (.one i) d env=some (env.set i (some (.sh,d))):=rfl
theorem N2{i j:Nat}:ff (.tup [i,j]) (.tup [d,e]) env=some ((env.set i (some (.sh,d))).set j (some (.sh,e))):=rfl
theorem rq{α β:Type}(f:α -> β)(ds:List α)(lo hi:Option Int):cA (ds.map f) lo hi=(cA ds lo hi).map f:=by
 unfold cA;simp only[length_map,List.map_take,List.map_drop]
theorem kL:∀(i:Nat) (ds:List Val),(cI i ds).length=ds.length
 |_,[]=>rfl
 |i,d::r=>by rw[cI,aal,kL (i+1) r,aal]
theorem kc{α β γ:Type}{f:β -> Option γ}{g:α -> β}{k:α -> γ}:∀(xs:List α),(∀x∈xs,f (g x)=some (k x))->cz f (xs.map g)=some (xs.map k)
 |[],_=>rfl
 | x::r,h=>by
  rw[aac,cz,h x Z9,kc r λy hy=>h y (aab _ hy)];rfl
theorem ints_map(xs:List Int):bX (xs.map .int)=some xs:=by
 have:=kc (f:=λv=>match v with|.int i=>some i|_=>none) (g:=Val.int) (k:=id) xs λ_ _=>rfl;rw[map_id]at this;exact this
theorem zJ(pQ:List (List Int))(h:∀k∈pQ,k≠[])(hl:pQ.length<64):dD (pQ.map mF)=some ((mE pQ).map mF):=by
 unfold dD;rw[Z7 (by rw[Z4];exact hl)];cases pQ with
 |nil=>rfl
 |cons k r=>
  have e:bX (List.map mF (k::r))=none:=by unfold bX ;rw[aac,cz];rfl
  rw[e];have e2:lg (List.map mF (k::r))=some (k::r):=by
   have:=kc (f:=λv=>match v with|.tup vs=>if vs.isEmpty then none else bX vs|_=>none) (g:=mF) (k:=id) (k::r) λx hx=>by
    have hx:=h x hx;show (if (x.map Val.int).isEmpty=true then none else bX (x.map .int))=some x;rw[Z8 (by simpa using hx),ints_map]
   rw[map_id]at this;exact this
  show (lg (List.map mF (k::r))).bind _=_;rw[e2];rfl
theorem zK{α:Type}(xs:List α):fq (xs.map λ_=>Val.bl true)=some (xs.map λ_=>true):=kc (g:=λ_=>Val.bl true) (k:=λ_=>true) xs λ_ _=>rfl
theorem all_true{α:Type}(xs:List α):gT .all [.rl (xs.map λ_=>Val.bl true)]=.ok (true,.bl true):=by
 show pb (pl (fq _)) _=_;rw[zK,b7,bf]
 congr 3
 simp
theorem EN{α:Type}{n:Nat}(f:α -> Val)(g:α -> PyData)(xs:List α)(e:∀x∈xs,toD n h (f x)=some (g x)):toD (n+1) h (.rl (xs.map f))=some (.list (xs.map g)):=by
 show (cz (toD n h) _).bind _=_;rw[kc xs e];rfl
theorem rA{α:Type}(g:α -> PyData):∀(xs:List α),(∀x∈xs,(g x).canLay0=true)->PyData.canLayAll0 (xs.map g)=true
 |[],_=>by simp[PyData.canLayAll0]
 | x::r,h=>by
  rw[aac,PyData.canLayAll0,h x Z9,rA g r λy hy=>h y (aab _ hy)];rfl
theorem EO{n:Nat}(hc:c env=.ok false):xE c body (n+1) env=.ok (.nx env):=by
 rw[xE,hc,bf,Z8 (by decide)]
theorem uu{α:Type}(enc:α -> Val)(Q:List α -> bC->Prop):∀(us done:List α) (env:bC),Q done env->(∀(pre:List α) (u:α) (post:List α) (env:bC),done++us=pre++u::post->Q pre env->∃env',body (enc u) env=.ok (.nx env')/\Q (pre++[u]) env')->∃env',iO body (us.map enc) env=.ok (.nx env')/\Q (done++us) env'
 |[],done,env,q,_=>⟨env,rfl,by rw[aa2];exact q⟩
 | x::xs,done,env,q,h=>by
  obtain⟨env',e,q'⟩:=h done x xs env rfl q;have eq:done++x::xs=done++[x]++xs:=by simp
  obtain⟨lN,e2,q2⟩:=uu enc Q xs (done++[x]) env' q' (by rw[<-eq];exact h);refine⟨lN,?_,by rw[eq];exact q2⟩;rw[aac,iO,e,bf];exact e2
theorem bR{α:Type}(enc:α -> Val){us:List α}{l0:bC}{β:Type}{k:Cp->Pr β}(G:Pr β -> Prop)(Q:List α -> bC->Prop)(h0:Q [] l0)
  (step:∀(pre:List α) (u:α) (post:List α) (env:bC),us=pre++u::post->Q pre env->∃env',body (enc u) env=.ok (.nx env')/\Q (pre++[u]) env')
  (post:∀env',Q us env'->G (k (.nx env'))):G (pb (iO body (us.map enc) l0) k):=by
 obtain⟨env',e,q⟩:=uu enc Q us [] l0 h0 (λpre x post env ep q=>step pre x post env ep q);rw[e,bf];exact post env' q
theorem cT:∀{l m:List Int},l.Nodup->(∀x∈l,x∈m)->l.length<=m.length
 |[],_,_,_=>abb _
 | x::r,m,h,hs=>by
  rw[aaC]at h;have hx:x∈m:=hs x Z9;have:=cT (m:=m.erase x) h.2 λy hy=>(List.mem_erase_of_ne (λe:y=x=>h.1 (e▸hy))).mpr (hs y (aab _ hy));rw[abT hx]at this;have:=List.length_pos_of_mem hx;rw[aal];omega
abbrev kT(xs:List Int)(g:Int->Val):Val:=.dc (xs.map Sum.inl) (xs.map g)
def mX(g:Int->Val)(x:Int)(v:Val):Int->Val:=λy=>if y=x then v else g y
theorem vB(xs:List Int)(g:Int->Val):(xs.map (Sum.inl:Int->Key)).zip (xs.map g)=xs.map λx=>((Sum.inl x:Key),g x):=by
 induction xs with
 |nil=>rfl
 |cons x r ih=>simp only[map_cons,List.zip_cons_cons,ih]
theorem lP{xs:List Int}{x:Int}(h:x∈xs):lK [] (kT xs g) (.int x)=some (g x):=by
 show cg _ _=_;rw[vB];unfold cg
 induction xs with
 |nil=>simp at h
 |cons y r ih=>
  rw[aac,abX]
  by_cases e:y=x
  ·subst e;simp
  ·have:((Sum.inl y:Key)=Sum.inl x)=False:=by simp[e]
   simp only[this,decide_false];exact ih (by rcases aao.mp h with h|h;exact absurd h.symm e;exact h)
theorem zL(xs:List Int)(g:Int->Val)(x:Int):((xs.map λx=>((Sum.inl x:Key),g x)).any λkv=>decide (kv.1=Sum.inl x))=decide (x∈xs):=by
 induction xs with
 |nil=>rfl
 |cons y r ih=>
  rw[aac,abG,ih]
  by_cases e:y=x
  ·subst e;simp
  ·have e':¬ x=y:=λh=>e h.symm;simp[e,e']
theorem vC{xs:List Int}{x:Int}(h:x∈xs):putD (xs.map Sum.inl) (xs.map g) (.inl x) v=kT xs (mX g x v):=by
 unfold putD gR;rw[vB,zL,Z7 (by simpa using h)];unfold kT;rw[aaE,aaE]
 congr 1
 ·refine aba λy _=>?_
  show ((if (Sum.inl y:Key)=Sum.inl x then ((Sum.inl y:Key),v) else (Sum.inl y,g y)).1)=_
  split<;>rfl
 ·rw[aaE,aaE]
  refine aba λy _=>?_;show ((if (Sum.inl y:Key)=Sum.inl x then ((Sum.inl y:Key),v) else (Sum.inl y,g y)).2)=_;unfold mX
  by_cases e:y=x
  ·rw[Z7 (by rw[e]),Z7 e]
  ·rw[Z8 (by simpa using e),Z8 e]
theorem pW{xs:List Int}{x:Int}(h:x∉xs):putD (xs.map Sum.inl) (xs.map g) (.inl x) v=kT (xs++[x]) (mX g x v):=by
 unfold putD gR;rw[vB,zL,Z8 (by simpa using h)];unfold kT;simp only[map_append,List.map_map,map_cons,map_nil]
 congr 1
 congr 1
 ·refine aba λy hy=>?_;show g y=mX g x v y;unfold mX;rw[Z8 (λe:y=x=>h (e▸hy))]
 ·simp[mX]
theorem cy{xs:List Int}(h:∀x∈xs,g x=g' x):kT xs g=kT xs g':=by
 unfold kT;rw[aba h]
theorem o6{x:Int}:keyOf (.int x)=some (.inl x):=rfl
theorem JD(a b:Int):PyData.eqv (.int a) (.int b)=decide (a=b):=by
 show (a==b)=_
 by_cases h:a=b<;>simp[h]
theorem A8{xs:List Int}{x:Int}:cop [] .t8 (.int x) (.rl (xs.map .int))=some (decide (x∈xs)):=by
 show (toD 16 [] (.rl (xs.map .int))).bind _=_;rw[EN Val.int PyData.int xs λ_ _=>rfl];show some ((xs.map PyData.int).any λy=>PyData.eqv y (.int x))=_
 congr 1
 induction xs with
 |nil=>rfl
 |cons y r ih=>
  rw[aac,abG,ih,JD]
  by_cases e:y=x
  ·subst e;simp
  ·have e':¬ x=y:=λh=>e h.symm;simp[e,e']
theorem rD{xs:List Int}{x:Int}:cop [] .nin (.int x) (.rl (xs.map .int))=some (!decide (x∈xs)):=by
 show (cop [] .t8 (.int x) (.rl (xs.map .int))).map _=_;rw[A8];rfl
theorem rE(x:Int):∀(ns ks:List Int),x∈dS ks ns↔x∈ks\/x∈ns
 |[],ks=>by simp[dS]
 | k::r,ks=>by
  rw[dS,rE x r,eF]
  split
  ·rename_i h
   constructor
   ·rintro(h'|h')
    ·exact .inl h'
    ·exact .inr (aab _ h')
   ·rintro(h'|h')
    ·exact .inl h'
    ·rcases aao.mp h' with h'|h'
     ·exact .inl (h'▸h)
     ·exact .inr h'
  ·simp[or_assoc]
theorem fz:∀(ns ks:List Int),ks.Nodup->(dS ks ns).Nodup
 |[],ks,h=>h
 | k::r,ks,h=>by
  rw[dS];refine fz r _ ?_;rw[eF]
  split
  ·exact h
  ·rename_i hk;rw[aaA];exact⟨h,by simp,λa ha b hb=>by simp at hb;subst hb;exact λe=>hk (e▸ha)⟩
def cR(ns:List Int):List Int:=sortI (dS [] ns)
theorem ES(x:Int)(ns:List Int):x∈cR ns↔x∈ns:=by
 unfold cR;rw[(aaI _).mem_iff,rE];simp
theorem fD(ns:List Int):(cR ns).Nodup:=by
 unfold cR;rw[(aaI _).nodup_iff];exact fz ns [] aa8
inductive Way (es:List (Int×Int)):Int->Int->Prop
 |refl (a:Int):Way es a a
 |fwd {a b c:Int}:Way es a b->(b,c)∈es->Way es a c
 |bwd {a b c:Int}:Way es a b->(c,b)∈es->Way es a c
theorem Way.trans{a b c:Int}(h:Way es a b)(k:Way es b c):Way es a c:=by
 induction k with
 |refl=>exact h
 |fwd _ m ih=>exact .fwd ih m
 |bwd _ m ih=>exact .bwd ih m
theorem Way.symm{a b:Int}(h:Way es a b):Way es b a:=by
 induction h with
 |refl=>exact .refl _
 |fwd _ m ih=>exact(Way.bwd (.refl _) m).trans ih
 |bwd _ m ih=>exact(Way.fwd (.refl _) m).trans ih
theorem Way.mono(hs:∀e∈es,e∈fs){a b:Int}(h:Way es a b):Way fs a b:=by
 induction h with
 |refl=>exact .refl _
 |fwd _ m ih=>exact .fwd ih (hs _ m)
 |bwd _ m ih=>exact .bwd ih (hs _ m)
theorem Way.const{α:Type}(f:Int -> α)(hf:∀e∈es,f e.1=f e.2){a b:Int}(h:Way es a b):f a=f b:=by
 induction h with
 |refl=>rfl
 |fwd _ m ih=>exact ih.trans (hf _ m)
 |bwd _ m ih=>exact ih.trans (hf _ m).symm
structure jS (ps:List Int) (es:List (Int×Int)) (f:Int->Int):Prop where
 t8:∀x∈ps,f x∈ps
 way:∀x∈ps,Way es x (f x)
 same:∀e∈es,f e.1=f e.2
theorem jS.iff{ps:List Int}(h:jS ps es f){x y:Int}(hx:x∈ps)(hy:y∈ps):f x=f y↔Way es x y:=by
 constructor
 ·intro e;have:=(h.way y hy).symm;rw[<-e]at this;exact(h.way x hx).trans this
 ·exact λw=>w.const f h.same
theorem jS.start(ps:List Int):jS ps [] id:=⟨λx h=>h,λx _=>.refl x,λe h=>by simp at h⟩
theorem jS.step{ps:List Int}(h:jS ps es f){a b:Int}(ha:a∈ps)(hb:b∈ps)(kept gone:Int)(hk:(kept=f a/\gone=f b)\/(kept=f b/\gone=f a)):jS ps (es++[(a,b)]) (λx=>if f x=gone then kept else f x):=by
 have up:∀{x y},Way es x y->Way (es++[(a,b)]) x y:=λw=>w.mono λe he=>aaL _ he;have ab:Way (es++[(a,b)]) a b:=.fwd (.refl _) (by simp);refine⟨λx hx=>?_,λx hx=>?_,λe he=>?_⟩
 ·split
  ·rcases hk with ⟨k,_⟩|⟨k,_⟩<;>rw[k]<;>exact h.t8 _ (by assumption)
  ·exact h.t8 x hx
 ·split
  ·rename_i e
   have w1:=up (h.way x hx);rw[e]at w1;refine w1.trans ?_
   rcases hk with ⟨k,g⟩|⟨k,g⟩
   ·rw[k,g];exact((up (h.way b hb)).symm.trans ab.symm).trans (up (h.way a ha))
   ·rw[k,g];exact((up (h.way a ha)).symm.trans ab).trans (up (h.way b hb))
  ·exact up (h.way x hx)
 ·rcases aaF.mp he with he|he
  ·rw[h.same e he]
  ·rw[aai]at he
   subst he
   rcases hk with ⟨k,g⟩|⟨k,g⟩
   ·rw[k,g];rw[Z7 (rfl:f b=f b)];split<;>rfl
   ·rw[k,g];rw[Z7 (rfl:f a=f a)];split<;>rfl
abbrev T3:=Int×Int×Int
def l3(t:T3):List Int:=[t.1,t.2.1,t.2.2]
def eN(t:T3):Val:=.tup [.int t.1,.int t.2.1,.int t.2.2]
def rF(x:T3):List T3->List T3
 |[]=>[x]
 |y::r=>if HT.lexLt (l3 y) (l3 x)=true then y::rF x r else x::y::r
def jF:List T3->List T3
 |[]=>[]
 |x::r=>rF x (jF r)
theorem xO(x:T3):∀l:List T3,uY (l3 x) (l.map l3)=(rF x l).map l3
 |[]=>rfl
 | y::r=>by
  rw[aac,uY,rF]
  split
  ·rw[aac,xO x r]
  ·rfl
theorem uv:∀l:List T3,mE (l.map l3)=(jF l).map l3
 |[]=>rfl
 |x::r=>by rw[aac,mE,uv r,xO];rfl
theorem oA(x:T3):∀l:List T3,(rF x l).Perm (x::l)
 |[]=>.refl _
 | y::r=>by
  rw[rF]
  split
  ·exact((oA x r).cons y).trans (List.Perm.swap ..)
  ·exact .refl _
theorem fE:∀l:List T3,(jF l).Perm l
 |[]=>.refl _
 |x::r=>(oA x _).trans ((fE r).cons x)
theorem JE(ts:List T3)(hl:ts.length<64):dD (ts.map eN)=some ((jF ts).map eN):=by
 have e:∀us:List T3,us.map eN=(us.map l3).map mF:=λus=>by rw[aaE];rfl
 rw[e,zJ _ (λk hk=>by obtain⟨t,_,rfl⟩:=aaK.mp hk;simp[l3]) (by rw[Z4];exact hl),uv,e]
theorem xP(hl:ts.length<64):gT .sorted [.rl (ts.map eN)]=.ok (true,.rl ((jF ts).map eN)):=by
 show pb (pl (dD _)) _=_;rw[JE ts hl];rfl
def GU(ts:List T3):Prop:=ts.Pairwise λa b=>a.1<b.1
theorem Ba(x:T3):∀l:List T3,GU l->(∀y∈l,y.1≠x.1)->GU (rF x l)
 |[],_,_=>by simp[rF,GU]
 | y::r,h,hn=>by
  unfold GU at *;rw[aaN]at h;have ny:y.1≠x.1:=hn y Z9;rw[rF];have lx:HT.lexLt (l3 y) (l3 x)=decide (y.1<x.1):=by show HT.lexLt (y.1::_) (x.1::_)=_;rw[HT.fj,Z8 ny]
  rw[lx]
  by_cases c:y.1<x.1
  ·rw[Z7 (by simpa using c),aaN]
   refine⟨λz hz=>?_,Ba x r h.2 λz hz=>hn z (aab _ hz)⟩
   rcases aao.mp ((oA x r).mem_iff.mp hz) with hz|hz
   ·rw[hz];exact c
   ·exact h.1 z hz
  ·rw[Z8 (by simpa using c),aaN,aaN]
   refine⟨λz hz=>?_,h⟩;have:x.1<y.1:=by omega
   rcases aao.mp hz with hz|hz
   ·rw[hz];exact this
   ·have:=h.1 z hz;omega
theorem xQ:∀l:List T3,(l.map (·.1)).Nodup->GU (jF l)
 |[],_=>.nil
 | x::r,h=>by
  rw[aac,aaC]at h;refine Ba x _ (xQ r h.2) λy hy e=>h.1 ?_;rw[(fE r).mem_iff]at hy;exact aaK.mpr ⟨y,hy,e⟩
def turnT(t:T3):T3:=(t.1,if t.2.2<t.2.1 then t.2.2 else t.2.1,if t.2.2>t.2.1 then t.2.2 else t.2.1)
def dW(p q:Int)(ts:List T3):Val:=.tup [.tup [.int p,.int q],.rl (ts.map eN)]
theorem JF{i j k:Nat}:ff (.tup [i,j,k]) (eN t) env=some (((env.set i (some (.sh,.int t.1))).set j (some (.sh,.int t.2.1))).set k (some (.sh,.int t.2.2))):=rfl
theorem Ct{α:Type}(ds:List α)(lo:Int)(n:Nat)(h:0<=lo):(cA ds (some lo) (some (lo+n))).length<=n:=by
 unfold cA HT.dQ;dsimp only;rw[Z8 (by omega),Z8 (by omega)];simp only[List.length_take,List.length_drop];omega
theorem N3:zC (eN t) (some 1) none=.ok (true,.tup [.int t.2.1,.int t.2.2]):=rfl
theorem rG{α:Type}(enc:α -> Val)(g:α -> FV):∀(us:List α),(∀u∈us,f (enc u)=.ok (some (g u)))->jD f (us.map enc)=.ok (us.all λu=>(g u).1,us.map λu=>(g u).2)
 |[],_=>rfl
 | x::xs,h=>by
  rw[aac,jD,h x Z9,bf,rG enc g xs λy hy=>h y (aab _ hy),bf];rfl
theorem gH{α:Type}(enc dec:α -> Val)(us:List α)(h:∀u∈us,f (enc u)=.ok (some (true,dec u))):jD f (us.map enc)=.ok (true,us.map dec):=by
 rw[rG enc (λu=>(true,dec u)) us h];simp
theorem ju{α:Type}(enc dec:α -> Val)(t:α -> Bool):∀(us:List α),(∀u∈us,f (enc u)=.ok (if t u=true then some (true,dec u) else none))->jD f (us.map enc)=.ok (true,(us.filter t).map dec)
 |[],_=>rfl
 | x::xs,h=>by
  rw[aac,jD,h x Z9,bf,ju enc dec t xs λy hy=>h y (aab _ hy),bf]
  by_cases hx:t x=true
  ·rw[Z7 hx,ab1 hx];rfl
  ·rw[Z8 hx,ab2 hx]
theorem JG:∀m,m<67->∀d,d<67->0<m->0<d->(m*d)%67≠0:=by decide +kernel
theorem JH{m c i j:Int}(hm:0<m/\m<67)(hi:0<=i/\i<67)(hj:0<=j/\j<67)(e:(m*i+c)%67=(m*j+c)%67):i=j:=by
 have key:∀i j:Int,0<=i->j<67->i<j->(m*i+c)%67=(m*j+c)%67->False:=by
  intro i j h0 h1 hlt e;obtain⟨a,ha⟩:=aa5 (show 0<=m by omega);obtain⟨d,hd⟩:=aa5 (show 0<=j-i by omega);have p:=JG a (by omega) d (by omega) (by omega) (by omega);have:m*j=m*i+m*(j-i):=by rw[Int.mul_sub];omega
  rw[this]at e;have e2:(m*(j-i))%67=0:=by omega
  rw[ha,hd]at e2;apply p;have:((a*d:Nat):Int)%67=0:=by rw[Int.natCast_mul];exact e2
  omega
 rcases Int.lt_trichotomy i j with h|h|h
 ·exact(key i j hi.1 hj.2 h e).elim
 ·exact h
 ·exact(key j i hj.1 hi.2 h e.symm).elim
theorem mY{α:Type}{f:Hs->Option α}{a:α}(e:f h=some a):ask f h=.ok a h:=by show (match f h with|some a=>Out.ok a h|none=>Out.no)=_;rw[e]
theorem di{α β:Type}{f:Hs->Option α}{g:α -> M β}{a:α}(e:f h=some a):bnd (ask f) g h=g a h:=ai (mY e)
theorem mZ{α β:Type}{o:Option α}{g:α -> M β}{a:α}(e:o=some a):bnd (bG o) g h=g a h:=ai (by unfold bG;rw[e])
def GV:Val->Option (Int×Int×Int)
 |.tup [.int a,.int b,.int c]=>some (a,b,c)
 |_=>none
def iT(kvs:List (Key×Val))(t:Int×Int×Int):List (Key×Val):=gR kvs (.inl t.1) (.tup [.int t.2.1,.int t.2.2])
def bO(p q:Int)(ts:List (Int×Int×Int)):List (Key×Val):=ts.foldl iT [(.inl (-1),.tup [.int p,.int q])]
def kg(Ψ:Nat->List Val->Pr FV)(c jo jp:Nat)(ds:List Val):Pr FV:=match ds with
 | [net]=>(match Ψ jo [net] with
  | .ok (true,.tup [.tup [.int p,.int q],.rl ts])=>pb (pl (cz GV ts)) λes=>pg (decide (es.length<1000)) (match Ψ jp [.tup [.tup [.int p,.int q],.rl ts]] with
   |.ok (true,y)=>.ok (true,.ob c ["net","places","ends"] [.tup [.tup [.int p,.int q],.rl ts],y,.dc ((bO p q es).map (·.1)) ((bO p q es).map (·.2))])
   |_=>.no)
  |_=>.no)
 |_=>.no
abbrev rH(n jo jp:Nat):dg:=.cons (.setF n (!0) "net" (.call jo #[!1])) (.cons (.setF n (!0) "places" (.call jp #[.fld n (!0) "net"])) (.cons (.setF n (!0) "ends" (.dct1 (.con "THOUGHT" (.int (-1))) (.idx (.fld n (!0) "net") (¬0))))
 #[.for (.tup [2,3,4]) .seq #[.idx (.fld n (!0) "net") (¬1)] #[.cR (.fld n (!0) "ends") (!2) (.tup #[!3,!4])]]))
def Bb(t:Int×Int×Int):Val:=.tup [.int t.1,.int t.2.1,.int t.2.2]
theorem JI(e:GV v=some t):v=Bb t:=by
 unfold GV at e;split at e
 ·cases e;rfl
 ·cases e
theorem xR:∀{vs:List Val} {ts:List (Int×Int×Int)},cz GV vs=some ts->vs=ts.map Bb
 |[],ts,e=>by cases e;rfl
 | v::vs,ts,e=>by
  rw[cz]at e;obtain⟨t,e1,e⟩:=Z1.mp e;obtain⟨r,e2,e⟩:=Z1.mp e;cases e;rw[JI e1,xR e2];rfl
theorem vD:∀ts:List (Int×Int×Int),bT (ts.map Bb)=true
 |[]=>rfl
 |t::r=>by rw[aac,bT,vD r];rfl
theorem ET(kvs:List (Key×Val))(k:Key)(v:Val):(gR kvs k v).length<=kvs.length+1:=by
 unfold gR
 split
 ·rw[Z4];omega
 ·rw[aak];simp
theorem EU(hv:jb v=true)(kvs:List (Key×Val))(h:∀kv∈kvs,jb kv.2=true):∀kv∈gR kvs k v,jb kv.2=true:=by
 unfold gR;intro kv hk;split at hk
 ·obtain⟨z,hz,rfl⟩:=aaK.mp hk
  split
  ·exact hv
  ·exact h z hz
 ·rcases aaF.mp hk with hk|hk
  ·exact h kv hk
  ·rw[aai.mp hk];exact hv
theorem xS:∀(ts:List (Int×Int×Int)) (kvs:List (Key×Val)),(∀kv∈kvs,jb kv.2=true)->∀kv∈ts.foldl iT kvs,jb kv.2=true
 |[],kvs,h=>h
 |t::r,kvs,h=>xS r _ (EU rfl kvs h)
theorem xT:∀{vs:List Val},(∀v∈vs,jb v=true)->bT vs=true
 |[],_=>rfl
 |v::vs,h=>by rw[bT,h v Z9,xT λw hw=>h w (aab _ hw)];rfl
section
variable {Φ:Nat->List Val->M Val} {Ψ:Nat->List Val->Pr FV}
theorem uw{n c D L E:Nat}{ts:List (Int×Int×Int)}{fs:List (Str×Val)}(hc:c<n)(hf:fs.lookup ("ends":Str)=some (Val.ref E))(N4:ts.length<1000)(VU:D≠E)(UP:L≠E) :
  ∀(m j:Nat) (kvs:List (Key×Val)) (env:Env) (h h':Hs),m+j=ts.length->kvs.length<=j+1->env[0]?=some (some (.ref D))->4<env.length->h[D]?=some (.ins c fs)->h[L]?=some (.lst (ts.map Bb))->h'.length=h.length->(∀k,k≠E->h'[k]?=h[k]?)->h'[E]?=some (.dct kvs) ->
  ∃env' h2,forM (.live L) (λx env=>bnd (bG (fR (.tup [2,3,4]) x env)) λenv'=>bS Φ #[.cR (.fld n (!0) "ends") (!2) (.tup #[!3,!4])] env') m j env h'=.ok (.nx env') h2 /\
   h2.length=h.length/\(∀k,k≠E->h2[k]?=h[k]?)/\h2[E]?=some (.dct ((ts.drop j).foldl iT kvs))
 | 0,j,kvs,env,h,h',hm,hk,he,hl,hD,hL,h1,h2,h3=>by
  refine⟨env,h',?_,h1,h2,?_⟩
  ·rw[forM,di (a:=ts.map Bb) (dm (by rw[h2 L UP];exact hL))];unfold aE;rw[Z7 (decide_eq_true (by rw[Z4];omega))];rfl
  ·rw[List.drop_of_length_le (by omega)];exact h3
 | m+1,j,kvs,env,h,h',hm,hk,he,hl,hD,hL,h1,h2,h3=>by
  have hj:j<ts.length:=by omega
  have hE:E<h'.length:=(Z5.mp h3).1
  let gp:Env:=((env.set 2 (some (.int ts[j].1))).set 3 (some (.int ts[j].2.1))).set 4 (some (.int ts[j].2.2))
  have b1:fR (.tup [2,3,4]) (Bb ts[j]) env=some gp:=rfl;have g0:gp[0]?=some (some (.ref D)):=by show (((env.set 2 _).set 3 _).set 4 _)[0]?=_;rw[Z2 (by omega),Z2 (by omega),Z2 (by omega)];exact he
  have g2:gp[2]?=some (some (.int ts[j].1)):=by show (((env.set 2 _).set 3 _).set 4 _)[2]?=_;rw[Z2 (by omega),Z2 (by omega),aad (by omega)]
  have g3:gp[3]?=some (some (.int ts[j].2.1)):=by show (((env.set 2 _).set 3 _).set 4 _)[3]?=_;rw[Z2 (by omega),aad (by rw[abc];omega)]
  have g4:gp[4]?=some (some (.int ts[j].2.2)):=by show (((env.set 2 _).set 3 _).set 4 _)[4]?=_;rw[aad (by rw[abc,abc];omega)]
  have XX:aB Φ (.fld n (!0) "ends") gp h'=.ok (.ref E) h':=by rw[aB,ai (aG g0)];refine mY (f:=λh=>iw n h (.ref D) "ends") ?_;unfold iw;dsimp only;rw[h2 D VU,hD];dsimp only;rw[Z7 hc];exact hf
  have XY:aB Φ (.tup #[!3,!4]) gp h'=.ok (.tup [.int ts[j].2.1,.int ts[j].2.2]) h':=by
   rw[aB,ai (a:=[.int ts[j].2.1,.int ts[j].2.2]) (h1:=h')]
   ·unfold aE;rw[Z7 (decide_eq_true (show ([Val.int ts[j].2.1,Val.int ts[j].2.2]:List Val).length<=sizeLine from(by decide:2<=sizeLine)))];rfl
   ·rw[aK,ai (aG g3),aK];rw[show bnd (bnd (aB Φ (!4) gp) λd=>bnd (aK Φ .nil gp) λds=>ret (d::ds)) (λds=>ret (Val.int ts[j].2.1::ds)) h'=_ from ai (a:=[.int ts[j].2.2]) (h1:=h') (by rw[ai (aG g4),aK];rfl)];rfl
  have st:bS Φ #[.cR (.fld n (!0) "ends") (!2) (.tup #[!3,!4])] gp h'=.ok (.nx gp) (h'.set E (.dct (iT kvs ts[j]))):=by
   rw[bS,ai (a:=Fl.nx gp) (h1:=h'.set E (.dct (iT kvs ts[j])))]
   ·dsimp only;rw[bS];rfl
   ·rw[dU,ai XY,ai XX,ai (aG g2)]
    rw[ai (a:=()) (h1:=h'.set E (.dct (iT kvs ts[j])))]
    ·rfl
    ·unfold t9;dsimp only;rw[di (f:=λh=>h[E]?) h3];dsimp only;rw[mZ (o:=keyOf (.int ts[j].1)) (a:=.inl ts[j].1) rfl];unfold aE;rw[Z7 (decide_eq_true (by unfold sizeLine;omega))];rfl
  have hlen:(iT kvs ts[j]).length<=j+1+1:=aay (ET _ _ _) (by omega);obtain⟨lN,h4,r1,r2,r3,r4⟩:=uw hc hf N4 VU UP m (j+1) (iT kvs ts[j]) gp h (h'.set E (.dct (iT kvs ts[j]))) (by omega) hlen g0 (by show 4<(((env.set 2 _).set 3 _).set 4 _).length;simp;omega) hD hL (by simp[h1])
   (λk hk=>by rw[Z2 λz=>hk z.symm];exact h2 k hk) (aad hE)
  refine⟨lN,h4,?_,r2,r3,?_⟩
  ·rw[forM,di (a:=ts.map Bb) (dm (by rw[h2 L UP];exact hL))]
   rw[show (ts.map Bb)[j]?=some (Bb ts[j]) by rw[aas,aap hj];rfl];dsimp only;rw[ai (a:=Fl.nx gp) (h1:=h'.set E (.dct (iT kvs ts[j])))]
   ·exact r1
   ·rw[mZ b1];exact st
  ·rw[abR hj,List.foldl_cons];exact r4
theorem pX{n c i:Nat}(hc:c<n)(g:h[i]?=some (.ins c fs))(hl:fs.length<1000):bnd (Am n (.ref i) x v) (λ_=>ret (Fl.nx env)) h=.ok (.nx env) (h.set i (.ins c (qH x v fs))):=by
 unfold Am;dsimp only;rw[bD,di (a:=(c,fs)) (by rw[g];dsimp only;rw[Z7 hc])];dsimp only;unfold bnd aE;rw[Z7 (decide_eq_true hl)];rfl
theorem xU{n c jo jp:Nat}(hc:c<n)(hΦ:∀j,Imp (Φ j) (Ψ j)){p q':Int}(u:Up A h)(qn:Dn A h net v)(e1:Ψ jo [net]=.ok (true,.tup [.tup [.int p,.int q'],.rl ts]))(e2:cz GV ts=some es)(hz:es.length<1000)
  (e3:Ψ jp [.tup [.tup [.int p,.int q'],.rl ts]]=.ok (true,y)):∃(h8:Hs) (V1 v2 vE:Val),dX Φ 5 (rH n jo jp) [.ref h.length,v] (h++[Ob.ins c []])=.ok .non h8/\h<+:h8/\h8[h.length]?=some (.ins c [("net",V1),("places",v2),("ends",vE)]) /\
   ∀B:AP,(∀k,h.length+1<=k->B (some k))->ak B h8 [.tup [.tup [.int p,.int q'],.rl ts],y,.dc ((bO p q' es).map (·.1)) ((bO p q' es).map (·.2))] [V1,v2,vE]:=by
 have et:=xR e2;have VW:h<+:h++[Ob.ins c []]:=aaO _ _;have u1:=u.ext VW;have R1:=hΦ jo A (h++[Ob.ins c []]) [net] [v] u1 (ak.cons (qn.ext VW) ak.nil);rw[e1] at R1;obtain⟨v1,h2,f1,UQ,_,dF⟩:=R1;have dA:=dF rfl;clear dF;have M4:h2[h.length]?=some (.ins c []):=bK UQ (by simp);have l2:h.length+1<=h2.length:=by have:=UQ.length_le;simpa using this
 rw[Dn]at dA;obtain⟨ws,rfl,dB⟩:=dA;rw[ak]at dB;obtain⟨w0,r0,rfl,d0,d1⟩:=dB;obtain⟨w1,rfl,d5⟩:=ak.one d1;clear d1;have XZ:w0=.tup [.int p,.int q']:=(eL _ _ (show jb (.tup [.int p,.int q'])=true from rfl)).mp d0;subst XZ;rw[Dn]at d5
 rcases d5 with ⟨_,_,z,_⟩|⟨L,ws,rfl,aL,gL,d6⟩
 ·exact False.elim z
 rw[et]at d6;have X0:ws=es.map Bb:=(aQ _ _ (vD es)).mp d6;subst X0;have hL:(h++[Ob.ins c []]).length<=L:=aL;have hL':h.length+1<=L:=by simpa using hL
 have lL:L<h2.length:=(Z5.mp gL).1
 let V1:Val:=.tup [.tup [.int p,.int q'],.ref L]
 let h3:Hs:=h2.set h.length (.ins c [("net",V1)])
 have OT:h3[h.length]?=some (.ins c [("net",V1)]):=aad (by omega);have VX:h3[L]?=some (.lst (es.map Bb)):=by show (h2.set _ _)[L]?=_;rw[Z2 (by omega)];exact gL
 have l3:h3.length=h2.length:=abc;have VY:Dn (Fr (h.length+1)) h3 (.tup [.tup [.int p,.int q'],.rl ts]) V1:=by rw[Dn];refine⟨_,rfl,ak.cons ((eL _ _ (show jb (.tup [.int p,.int q'])=true from rfl)).mpr rfl) (ak.cons ?_ ak.nil)⟩;rw[Dn];exact .inr ⟨L,_,rfl,hL',VX,by rw[et];exact(aQ _ _ (vD es)).mpr rfl⟩
 have R2:=hΦ jp (Fr (h.length+1)) h3 [.tup [.tup [.int p,.int q'],.rl ts]] [V1] (λk hk=>by show h.length+1<=k;omega) (ak.cons VY ak.nil);rw[e3] at R2;obtain⟨v2,h4,f2,RQ,_,dG⟩:=R2;have d2:=dG rfl;clear dG;have QI:h4[h.length]?=some (.ins c [("net",V1)]):=bK RQ OT;have l4:h3.length<=h4.length:=RQ.length_le
 let h5:Hs:=h4.set h.length (.ins c [("net",V1),("places",v2)])
 have VZ:h5[h.length]?=some (.ins c [("net",V1),("places",v2)]):=aad (by omega);have l5:h5.length=h4.length:=abc
 let h6:Hs:=h5++[Ob.dct [(.inl (-1),.tup [.int p,.int q'])]]
 have X3:h6[h.length]?=some (.ins c [("net",V1),("places",v2)]):=bK (aaO _ _) VZ;have l6:h6.length=h5.length+1:=by show (h5++[_]).length=_;simp
 let FS:List (Str×Val):=[("net",V1),("places",v2),("ends",.ref h5.length)]
 let h7:Hs:=h6.set h.length (.ins c FS)
 have UR:h7[h.length]?=some (.ins c FS):=aad (by omega);have l7:h7.length=h6.length:=abc;have X4:h7[h5.length]?=some (.dct [(.inl (-1),.tup [.int p,.int q'])]):=by show (h6.set _ _)[h5.length]?=_;rw[Z2 (by omega)];show (h5++[_])[h5.length]?=_;simp
 have hk7:∀k,k≠h.length->k<h4.length->h7[k]?=h4[k]?:=λk n1 n2=>by
  show (h6.set _ _)[k]?=_;rw[Z2 λz=>n1 z.symm];show (h5++[_])[k]?=_;rw[aag (by omega)];show (h4.set _ _)[k]?=_;rw[Z2 λz=>n1 z.symm]
 have X5:h4[L]?=some (.lst (es.map Bb)):=bK RQ VX;have V3:h7[L]?=some (.lst (es.map Bb)):=by rw[hk7 L (by omega) (by omega)];exact X5
 let env:Env:=[some (.ref h.length),some v,none,none,none]
 have k1:("ends":Str) ≠ "net":=by decide
 obtain⟨env',h8,lp,l8,k8,d8⟩:=uw (Φ:=Φ) (fs:=FS) (ts:=es) hc (by rfl) hz (by omega) (by omega) es.length 0 [(.inl (-1),.tup [.int p,.int q'])] env h7 h7 (by omega) (by simp) rfl (by decide:4<5) UR V3 rfl (λ_ _=>rfl) X4;have fldN:∀(g:Hs) (fs:List (Str×Val)),g[h.length]?=some (.ins c (("net",V1)::fs))->aB Φ (.fld n (!0) "net") env g=.ok V1 g:=λg fs hg=>by
  rw[aB,ai (aG rfl)];refine mY (f:=λh'=>iw n h' (.ref h.length) "net") ?_;unfold iw;dsimp only;rw[hg];dsimp only;rw[Z7 hc];rfl
 have s1:dU Φ (.setF n (!0) "net" (.call jo #[!1])) env (h++[Ob.ins c []])=.ok (.nx env) h3:=by
  have e:aB Φ (.call jo #[!1]) env (h++[Ob.ins c []])=.ok V1 h2:=by
   rw[aB,ai (a:=[v]) (h1:=h++[Ob.ins c []])]
   ·exact f1
   ·rw[aK,ai (aG rfl),aK];rfl
  rw[dU,ai e,ai (aG rfl)];exact pX hc M4 (by decide)
 have s2:dU Φ (.setF n (!0) "places" (.call jp #[.fld n (!0) "net"])) env h3=.ok (.nx env) h5:=by
  have e:aB Φ (.call jp #[.fld n (!0) "net"]) env h3=.ok v2 h4:=by
   rw[aB,ai (a:=[V1]) (h1:=h3)]
   ·exact f2
   ·rw[aK,ai (fldN h3 [] OT),aK];rfl
  rw[dU,ai e,ai (aG rfl)];exact pX hc QI (by decide:1<1000)
 have s3:dU Φ (.setF n (!0) "ends" (.dct1 (.con "THOUGHT" (.int (-1))) (.idx (.fld n (!0) "net") (¬0)))) env h5=.ok (.nx env) h7:=by
  have e0:aB Φ (.idx (.fld n (!0) "net") (¬0)) env h5=.ok (.tup [.int p,.int q']) h5:=by rw[aB,ai (fldN h5 _ VZ),ai (a:=.int 0) (h1:=h5) (by rw[aB];rfl)];rfl
  have e:aB Φ (.dct1 (.con "THOUGHT" (.int (-1))) (.idx (.fld n (!0) "net") (¬0))) env h5=.ok (.ref h5.length) h6:=by rw[aB,ai (a:=.int (-1)) (h1:=h5) (by rw[aB];rfl),mZ (o:=keyOf (.int (-1))) (a:=.inl (-1)) rfl,ai e0];rfl
  rw[dU,ai e,ai (aG rfl)];exact pX hc X3 (by decide:2<1000)
 have s4:dU Φ (.for (.tup [2,3,4]) .seq #[.idx (.fld n (!0) "net") (¬1)] #[.cR (.fld n (!0) "ends") (!2) (.tup #[!3,!4])]) env h7=.ok (.nx env') h8:=by
  have e0:aB Φ (.idx (.fld n (!0) "net") (¬1)) env h7=.ok (.ref L) h7:=by rw[aB,ai (fldN h7 _ UR),ai (a:=.int 1) (h1:=h7) (by rw[aB];rfl)];rfl
  rw[dU,ai (a:=[.ref L]) (h1:=h7)]
  ·rw[mZ (o:=srcOf .seq [.ref L]) (a:=.live L) rfl,di (a:=es.map Bb) (dm V3),Z4];exact lp
  ·rw[aK,ai e0,aK];rfl
 have run:dX Φ 5 (rH n jo jp) [.ref h.length,v] (h++[Ob.ins c []])=.ok .non h8:=by
  unfold dX;rw[ai (a:=Fl.nx env') (h1:=h8)]
  ·rfl
  ·show bS Φ (rH n jo jp) env _=_;rw[bS,ai s1];dsimp only;rw[bS,ai s2];dsimp only;rw[bS,ai s3];dsimp only;rw[bS,ai s4];dsimp only;rw[bS];rfl
 have US:∀k,k≠h.length->k<h4.length->h8[k]?=h4[k]?:=λk n1 n2=>(k8 k (by omega)).trans (hk7 k n1 n2);have hpre:h<+:h8:=by
  refine abU.mpr λi hi=>?_;have X6:i<h4.length:=by omega
  rw[US i (by omega) X6];have:(h2.set h.length (.ins c [("net",V1)]))[i]?=h2[i]?:=Z2 (by omega);have X7:h4[i]?=h3[i]?:=iR RQ (by omega);rw[X7,this,iR UQ (by simp;omega),aag hi,aap hi]
 refine⟨h8,V1,v2,.ref h5.length,run,hpre,by rw[k8 _ (by omega)];exact UR,λB hB=>ak.cons ?_ (ak.cons ?_ (ak.cons ?_ ak.nil))⟩
 ·refine Dn.mono (A:=Fr (h.length+1)) (h:=h3) (λo z=>?_) (λk o a g=>?_) _ _ VY
  ·cases o with
   |none=>exact False.elim z
   |some k=>exact hB k z
  ·have a:h.length+1<=k:=a;have:=(Z5.mp g).1;rw[US k (by omega) (by omega)];exact bK RQ g
 ·refine Dn.mono (A:=Fr h3.length) (h:=h4) (λo z=>?_) (λk o a g=>?_) _ _ d2
  ·cases o with
   |none=>exact False.elim z
   |some k=>exact hB k (by have:h3.length<=k:=z;omega)
  ·have a:h3.length<=k:=a;have:=(Z5.mp g).1;rw[US k (by omega) (by omega)];exact g
 ·rw[Dn]
  refine⟨h5.length,bO p q' es,rfl,hB _ (by omega),?_,rfl,?_⟩
  ·rw[List.drop_zero]at d8;exact d8
  ·refine(aQ _ _ (xT λw hw=>?_)).mpr rfl;obtain⟨kv,hkv,rfl⟩:=aaK.mp hw;exact xS es _ (λkv hk=>by rw[aai.mp hk];rfl) kv hkv
theorem xV{n c jo jp:Nat}(hc:c<n)(hΦ:∀j,Imp (Φ j) (Ψ j)):Imp (CJ c (dX Φ 5 (rH n jo jp))) (kg Ψ c jo jp):=λA h ds vs u q=>by
 unfold kg
 split
 ·rename_i net
  obtain⟨v,rfl,qn⟩:=ak.one q
  split
  ·rename_i p q' ts e1
   cases e2:cz GV ts with
   |none=>trivial
   |some es=>
    show Rel A h (RV A h) _ (pg (decide (es.length<1000)) _)
    by_cases hz:es.length<1000
    ·unfold pg
     rw[Z7 (decide_eq_true hz)]
     split
     ·rename_i y e3
      obtain⟨h8,V1,v2,vE,r1,p8,g8,d8⟩:=xU (Ψ:=Ψ) hc hΦ u qn e1 e2 hz e3;have run:CJ c (dX Φ 5 (rH n jo jp)) [v] h=.ok (.ref h.length) h8:=by show bnd (dX Φ 5 (rH n jo jp) [.ref h.length,v]) _ (h++[Ob.ins c []])=_;rw[ai r1];rfl
      have dn:∀B:AP,(∀k,h.length<=k->B (some k))->Dn B h8 (.ob c ["net","places","ends"] [.tup [.tup [.int p,.int q'],.rl ts],y,.dc ((bO p q' es).map (·.1)) ((bO p q' es).map (·.2))]) (.ref h.length):=λB hB=>by
       rw[Dn];exact⟨h.length,_,rfl,hB _ (aaa _),g8,rfl,d8 B λk hk=>hB k (by omega)⟩
      exact⟨_,h8,run,p8,dn A λk hk=>u k hk,λ_=>dn _ λk hk=>hk⟩
     ·trivial
    ·unfold pg;rw[Z8 (by simpa using hz)];trivial
  ·trivial
 ·trivial
def ux(Ψ' Ψ:Nat->List Val->Pr FV)(c jo jp jt jr:Nat)(ds:List Val):Pr FV:=match kg Ψ' c jo jp ds with
 | .ok (_,.ob c' ns vs)=>(match Ψ jt [.ob c' ns vs] with
  | .ok (_,t)=>(match Ψ jr [.ob c' ns vs,t] with
   |.ok (_,.int m)=>.ok (true,.ob c' (ns++[("whole":Str)]) (vs++[.int m]))
   |_=>.no)
  |_=>.no)
 |_=>.no
abbrev Bc(n ji:Nat)(jst jsr:List (Nat×Nat)):dg:=.cons (.expr (.call ji #[!0,!1])) #[.setF n (!0) "whole" (.mth (!0) "tree_rank" jsr #[.mth (!0) "ties" jst .nil])]
theorem EW{c jo jp:Nat}(e:kg Ψ c jo jp ds=.ok fw):∃net p q ts es y,ds=[net] /\ Ψ jo [net]=.ok (true,.tup [.tup [.int p,.int q],.rl ts])/\cz GV ts=some es/\es.length<1000 /\ Ψ jp [.tup [.tup [.int p,.int q],.rl ts]]=.ok (true,y) /\
  fw=(true,.ob c ["net","places","ends"] [.tup [.tup [.int p,.int q],.rl ts],y,.dc ((bO p q es).map (·.1)) ((bO p q es).map (·.2))]):=by
 unfold kg at e;split at e
 ·rename_i net
  split at e
  ·rename_i p q ts e1
   cases e2:cz GV ts with
   |none=>rw[e2]at e;cases e
   |some es=>
    rw[e2]at e;change pg (decide (es.length<1000)) _=_ at e;unfold pg at e
    by_cases hz:es.length<1000
    ·rw[Z7 (decide_eq_true hz)]at e
     split at e
     ·rename_i y e3;cases e;exact⟨net,p,q,ts,es,y,rfl,e1,e2,hz,e3,rfl⟩
     ·cases e
    ·rw[Z8 (by simpa using hz)]at e;cases e
  ·cases e
 ·cases e
theorem EY{c c' jo jp jt jr:Nat}{f f1 f2:Bool}{m:Int}(e0:kg Ψ' c jo jp ds=.ok (f,.ob c' ns vs))(e1:Ψ jt [.ob c' ns vs]=.ok (f1,t))(e2:Ψ jr [.ob c' ns vs,t]=.ok (f2,.int m)):ux Ψ' Ψ c jo jp jt jr ds=.ok (true,.ob c' (ns++[("whole":Str)]) (vs++[.int m])):=by
 unfold ux;rw[e0];dsimp only;rw[e1];dsimp only;rw[e2]
theorem xW:Imp φ (λ_=>.no):=λ_ _ _ _ _ _=>trivial
theorem EZ{n c ji jo jp jt jr:Nat}(hc:c<n)(X8:∀j,Imp (Φ' j) (Ψ' j))(hΦ:∀j,Imp (Φ j) (Ψ j))(hji:Φ ji=dX Φ' 5 (rH n jo jp))(ht:jst.lookup c=some jt)(hr:jsr.lookup c=some jr) :
  Imp (CJ c (dX Φ 2 (Bc n ji jst jsr))) (ux Ψ' Ψ c jo jp jt jr):=λA h ds vs u q=>by
 unfold ux;cases e0:kg Ψ' c jo jp ds with
 |no=>trivial
 |exc _ _=>trivial
 |ok fw=>
  obtain⟨net,p,q',ts,es,y,rfl,e1,e2,hz,e3,rfl⟩:=EW e0;dsimp only;obtain⟨v,rfl,qn⟩:=ak.one q;obtain⟨h8,V1,v2,vE,r1,p8,g8,d8⟩:=xU (Φ:=Φ') (Ψ:=Ψ') hc X8 u qn e1 e2 hz e3;have l8:=p8.length_le;have b8:h.length<h8.length:=(Z5.mp g8).1;have dO:∀h',h8<+:h'->Dn (Fr h.length) h' (.ob c ["net","places","ends"] [.tup [.tup [.int p,.int q'],.rl ts],y,.dc ((bO p q' es).map (·.1)) ((bO p q' es).map (·.2))]) (.ref h.length):=λh' p'=>by
   rw[Dn];exact⟨h.length,_,rfl,aaa _,bK p' g8,rfl,ak.mono (λ_ a=>a) (λ_ _ _ g=>bK p' g) _ _ (d8 (Fr h.length) λk hk=>show h.length<=k by omega)⟩
  have R1:=hΦ jt (Fr h.length) h8 _ _ (λk hk=>show h.length<=k by omega) (ak.cons (dO h8 (aar _)) ak.nil);generalize hob:Val.ob c ["net","places","ends"] [.tup [.tup [.int p,.int q'],.rl ts],y,.dc ((bO p q' es).map (·.1)) ((bO p q' es).map (·.2))]=ob at R1 dO;cases e4:Ψ jt [ob] with
  |no=>trivial
  |exc _ _=>trivial
  |ok ft=>
   obtain⟨f1,t⟩:=ft;dsimp only;rw[e4] at R1;obtain⟨vt,h9,x1,p9,d9,_⟩:=R1;have l9:=p9.length_le;have R2:=hΦ jr (Fr h.length) h9 _ _ (λk hk=>show h.length<=k by omega) (ak.cons (dO h9 p9) (ak.cons d9 ak.nil));cases e5:Ψ jr [ob,t] with
   |no=>trivial
   |exc _ _=>trivial
   |ok fm=>
    obtain⟨f2,m⟩:=fm;rw[e5] at R2;obtain⟨vm,M5,x2,SO,OW,dz⟩:=R2;clear dz;cases m<;>first|trivial|skip
    rename_i m;have OW:Dn (Fr h.length) M5 (.int m) vm:=OW;rw[Dn] at OW;subst OW;subst hob;dsimp only;have Yb:=bK (p9.trans SO) g8;have g9:=bK p9 g8;have ZV:=SO.length_le
    let h11:Hs:=M5.set h.length (.ins c [("net",V1),("places",v2),("ends",vE),("whole",.int m)])
    let env:Env:=[some (.ref h.length),some v]
    have mt:∀(g:Hs) (x:Str) (js:List (Nat×Nat)) (jj:Nat),g[h.length]?=some (.ins c [("net",V1),("places",v2),("ends",vE)])->("net":Str)≠x->("places":Str)≠x->("ends":Str)≠x->js.lookup c=some jj->kP g (.ref h.length) x js=some jj:=λg x js jj hg n1 n2 n3 hj=>by
     unfold kP;dsimp only;rw[hg];dsimp only;rw[Z7]
     ·exact hj
     ·rw[aaB,aaB,aaB,List.lookup_nil];rw[aaD.mpr n1.symm,aaD.mpr n2.symm,aaD.mpr n3.symm];rfl
    have s1:dU Φ (.expr (.call ji #[!0,!1])) env (h++[Ob.ins c []])=.ok (.nx env) h8:=by
     rw[dU,ai (a:=.non) (h1:=h8)]
     ·rfl
     ·rw[aB,ai (a:=[.ref h.length,v]) (h1:=h++[Ob.ins c []])]
      ·rw[hji];exact r1
      ·rw[aK,ai (aG rfl),aK];rw[show bnd (bnd (aB Φ (!1) env) λd=>bnd (aK Φ .nil env) λds=>ret (d::ds)) (λds=>ret (Val.ref h.length::ds)) (h++[Ob.ins c []])=_ from ai (a:=[v]) (h1:=h++[Ob.ins c []]) (by rw[ai (aG rfl),aK];rfl)];rfl
    have eT:aB Φ (.mth (!0) "ties" jst .nil) env h8=.ok vt h9:=by rw[aB,ai (aG rfl),di (a:=jt) (mt h8 _ _ _ g8 (by decide) (by decide) (by decide) ht),aK];exact x1
    have s2:dU Φ (.setF n (!0) "whole" (.mth (!0) "tree_rank" jsr #[.mth (!0) "ties" jst .nil])) env h8=.ok (.nx env) h11:=by
     have e:aB Φ (.mth (!0) "tree_rank" jsr #[.mth (!0) "ties" jst .nil]) env h8=.ok (.int m) M5:=by
      rw[aB,ai (aG rfl),di (a:=jr) (mt h8 _ _ _ g8 (by decide) (by decide) (by decide) hr),aK];rw[ai (a:=[vt]) (h1:=h9)]
      ·exact x2
      ·rw[ai eT,aK];rfl
     rw[dU,ai e,ai (aG rfl)];exact pX hc Yb (by decide:3<1000)
    have run:CJ c (dX Φ 2 (Bc n ji jst jsr)) [v] h=.ok (.ref h.length) h11:=by
     show bnd (dX Φ 2 (Bc n ji jst jsr) [.ref h.length,v]) _ (h++[Ob.ins c []])=_;rw[ai (a:=.non) (h1:=h11)]
     ·rfl
     ·unfold dX
      rw[ai (a:=Fl.nx env) (h1:=h11)]
      ·rfl
      ·show bS Φ (Bc n ji jst jsr) env _=_;rw[bS,ai s1];dsimp only;rw[bS,ai s2];dsimp only;rw[bS];rfl
    have hpre:h<+:h11:=by refine abU.mpr λi hi=>?_;show (M5.set _ _)[i]?=_;rw[Z2 (by omega)];exact abU.mp ((p8.trans p9).trans SO) i hi
    have Yc:h11[h.length]?=some (.ins c [("net",V1),("places",v2),("ends",vE),("whole",.int m)]):=aad (by omega);have dn:∀B:AP,(∀k,h.length<=k->B (some k))->Dn B h11 (.ob c ((["net","places","ends"]:List Str)++[("whole":Str)]) ([.tup [.tup [.int p,.int q'],.rl ts],y,.dc ((bO p q' es).map (·.1)) ((bO p q' es).map (·.2))]++[.int m])) (.ref h.length):=λB hB=>by
     rw[Dn];refine⟨h.length,_,rfl,hB _ (aaa _),Yc,rfl,?_⟩;have dd:=ak.mono (A':=B) (h':=h11) (λo z=>?_) (λk o a g=>?_) _ _ (d8 (Fr (h.length+1)) λk hk=>hk)
     ·exact ak.app dd (ak.cons ((eL _ _ rfl).mpr rfl) ak.nil)
     ·cases o with
      |none=>exact False.elim z
      |some k=>exact hB k (by have:h.length+1<=k:=z;omega)
     ·have a:h.length+1<=k:=a;show (M5.set _ _)[k]?=_;rw[Z2 (by omega)];exact bK (p9.trans SO) g
    exact⟨_,h11,run,hpre,dn A λk hk=>u k hk,λ_=>dn _ λk hk=>hk⟩
end
def cnt(φ:Int->Int)(ps:List Int):Nat:=(dS [] (ps.map φ)).length
theorem fP{ps:List Int}{v:Int}:v∈dS [] (ps.map φ)↔∃x∈ps,φ x=v:=by
 rw[rE];simp
theorem E1{ps:List Int}(h:∀x∈ps,∀y∈ps,g x=g y->f x=f y):cnt f ps<=cnt g ps:=by
 classical
 let r:Int->Int:=λv=>if hv:∃x∈ps,f x=v then g (Classical.choose hv) else 0
 have hr:∀v∈dS [] (ps.map f),∃x∈ps,f x=v/\r v=g x:=λv hv=>by
  have e:=fP.mp hv;refine⟨Classical.choose e,(acd e).1,(acd e).2,?_⟩;show (if hv:∃x∈ps,f x=v then g (Classical.choose hv) else 0)=_;rw[dif_pos e]
 have nd:((dS [] (ps.map f)).map r).Nodup:=by
  have n0:=fz (ps.map f) [] aa8;revert hr n0;generalize dS [] (ps.map f)=l;intro hr n0
  induction l with
  |nil=>exact aa8
  |cons v l ih=>rw[aaC]at n0;rw[aac,aaC];refine⟨λhm=>?_,ih (λw hw=>hr w (aab _ hw)) n0.2⟩;obtain⟨w,hw,e⟩:=aaK.mp hm;obtain⟨x,hx,e1,e2⟩:=hr v (Z9 ..);obtain⟨y,hy,e3,e4⟩:=hr w (aab _ hw);have:f x=f y:=h x hx y hy (by rw[<-e2,<-e4,e]);exact n0.1 (by rw[<-e1,this,e3];exact hw)
 have:=cT nd (m:=dS [] (ps.map g)) λz hz=>by
  obtain⟨v,hv,rfl⟩:=aaK.mp hz;obtain⟨x,hx,_,e2⟩:=hr v hv;rw[e2];exact fP.mpr ⟨x,hx,rfl⟩
 rw[Z4]at this;exact this
theorem N5{ps:List Int}(h:∀x∈ps,∀y∈ps,f x=f y↔g x=g y):cnt f ps=cnt g ps :=
 Nat.le_antisymm (E1 λx hx y hy=>(h x hx y hy).mpr) (E1 λx hx y hy=>(h x hx y hy).mp)
theorem cnt_join{ps:List Int}{a b:Int}(ha:a∈ps)(hb:b∈ps)(ne:ψ a ≠ ψ b):cnt (λx=>if ψ x = ψ b then ψ a else ψ x) ps+1=cnt ψ ps:=by
 have m1:ψ b∈dS [] (ps.map ψ):=fP.mpr ⟨b,hb,rfl⟩;have n1:=fz (ps.map ψ) [] aa8;have n2:=fz (ps.map λx=>if ψ x = ψ b then ψ a else ψ x) [] aa8;have Yd:=cT n2 (m:=(dS [] (ps.map ψ)).erase (ψ b)) λv hv=>by
  obtain⟨x,hx,e⟩:=fP.mp hv;rw[List.Nodup.mem_erase_iff n1]
  by_cases c:ψ x = ψ b
  ·rw[Z7 c]at e;subst e;exact⟨ne,fP.mpr ⟨a,ha,rfl⟩⟩
  ·rw[Z8 c]at e;subst e;exact⟨c,fP.mpr ⟨x,hx,rfl⟩⟩
 have Ye:=cT (n1.erase (ψ b)) (m:=dS [] (ps.map λx=>if ψ x = ψ b then ψ a else ψ x)) λv hv=>by
  rw[List.Nodup.mem_erase_iff n1]at hv;obtain⟨x,hx,e⟩:=fP.mp hv.2;subst e;exact fP.mpr ⟨x,hx,by rw[Z8 hv.1]⟩
 rw[abT m1] at Yd Ye;have:=List.length_pos_of_mem m1;unfold cnt;omega
theorem jS.fix{ps:List Int}(h:jS ps es φ){x:Int}(hx:x∈ps):φ (φ x) = φ x:=((h.way x hx).const φ h.same).symm
def rk(φ:Int->Int)(ps:List Int):Nat:=(ps.filter λx=>!decide (φ x=x)).length
theorem Be(t:Int->Bool):∀ps:List Int,(ps.filter t).length+(ps.filter λx=>!t x).length=ps.length
 |[]=>rfl
 | x::r=>by
  have ih:=Be t r;cases h:t x with
  |true=>rw[ab1 h,ab2 (by simp[h]),aal,aal];omega
  |false=>rw[ab2 (by simp[h]),ab1 (by simp[h]),aal,aal];omega
theorem rJ{ps:List Int}(h:jS ps es φ)(hn:ps.Nodup):rk φ ps+cnt φ ps=ps.length:=by
 have e:cnt φ ps=(ps.filter λx=>decide (φ x=x)).length:=by
  unfold cnt;refine Nat.le_antisymm (cT (fz _ [] aa8) λv hv=>?_) (cT (hn.filter _) λv hv=>?_)
  ·obtain⟨x,hx,rfl⟩:=fP.mp hv;exact aaX.mpr ⟨h.t8 x hx,decide_eq_true (h.fix hx)⟩
  ·obtain⟨a,b⟩:=aaX.mp hv;exact fP.mpr ⟨v,a,aan b⟩
 rw[e];have:=Be (λx=>decide (φ x=x)) ps;unfold rk;omega
theorem N6{ps:List Int}(hn:ps.Nodup):cnt id ps=ps.length:=by
 have h:=rJ (jS.start ps) hn;have:rk id ps=0:=by unfold rk;rw[ab6.mpr λx _=>by simp];rfl
 omega
theorem KD{ps:List Int}{n:Nat}(h1:jS ps es φ)(h2:jS ps es ψ)(hn:ps.Nodup)(e:n+cnt ψ ps=ps.length):n=rk φ ps:=by
 have c:cnt φ ps=cnt ψ ps:=N5 λx hx y hy=>by rw[h1.iff hx hy,h2.iff hx hy]
 have:=rJ h1 hn;omega
theorem jS.uy{ps:List Int}(h:jS ps es f){a b:Int}(ha:a∈ps)(hb:b∈ps)(e:f a=f b):jS ps (es++[(a,b)]) f:=by
 have:=h.step ha hb (f a) (f b) (.inl ⟨rfl,rfl⟩);have ef:(λx=>if f x=f b then f a else f x)=f:=funext λx=>by
  split
  ·rename_i c;rw[c,e]
  ·rfl
 rwa [ef]at this
theorem N7{xs:List Int}{x:Int}:zl [] (kT xs g) (.inl x)=some (if x∈xs then some (g x) else none):=by
 unfold zl kT;dsimp only;rw[vB]
 congr 1
 unfold cg
 induction xs with
 |nil=>simp
 |cons y r ih=>
  rw[aac,abX]
  by_cases e:y=x
  ·subst e;simp
  ·have:((Sum.inl y:Key)=Sum.inl x)=False:=by simp[e]
   have e':¬ x=y:=λh=>e h.symm;simp only[this,decide_false];rw[ih];simp[e']
theorem Bf{ks:List Int}{ψ:Int->Int}{a:Int}:putD (ks.map Sum.inl) (ks.map λx=>Val.int (ψ x)) (.inl a) (.int (ψ a))=kT (eF ks a) λx=>.int (ψ x):=by
 have eu:∀y,mX (λx=>Val.int (ψ x)) a (.int (ψ a)) y=.int (ψ y):=λy=>by
  unfold mX
  split
  ·rename_i e;rw[e]
  ·rfl
 unfold eF
 by_cases h:a∈ks
 ·rw[vC h,Z7 h];exact cy λy _=>eu y
 ·rw[pW h,Z8 h];exact cy λy _=>eu y
theorem iU{ks:List Int}{a x:Int}:x∈eF ks a↔x∈ks\/x=a:=by
 unfold eF
 split
 ·rename_i h;exact⟨.inl,λk=>k.elim id λe=>e▸h⟩
 ·simp
theorem Bg{ks:List Int}{a:Int}(h:ks.Nodup):(eF ks a).Nodup:=by
 unfold eF
 split
 ·exact h
 ·rename_i n;rw[aaA];exact⟨h,by simp,λx hx y hy e=>n (by rw[aai]at hy;rw[<-hy,<-e];exact hx)⟩
theorem kh(ks:List Int)(a:Int):(eF ks a).length<=ks.length+1:=by
 unfold eF
 split
 ·omega
 ·simp
theorem rK:∀ks:List Int,qE (ks.map Sum.inl)=some ks
 |[]=>rfl
 | x::r=>by
  have ih:=rK r;unfold qE at ih |-;rw[aac,cz,ih];rfl
theorem E2{ks:List Int}(h:ks.length<64):jX [] (kT ks g)=some (sortI ks):=by
 unfold jX;show (qE (ks.map Sum.inl)).bind _=_;rw[rK];show (if ks.length<64 then some (sortI ks) else none)=_;rw[Z7 h]
structure Cu (ps ks:List Int) (es:List (Int×Int)) (ψ:Int->Int) (n:Nat):Prop where
 JJ:jS ps es ψ
 nd:ks.Nodup
 off:∀x,x∉ks -> ψ x=x
 t8:∀x∈ks,ψ x∈ks
 num:n+cnt ψ ps=ps.length
 len:ks.length<=2*es.length
theorem Cu.start{ps:List Int}(hn:ps.Nodup):Cu ps [] [] id 0:=⟨jS.start ps,aa8,λ_ _=>rfl,λx h=>by simp at h,by rw[N6 hn];omega,aaa _⟩
theorem Cu.stay{ps ks:List Int}{n:Nat}(m:Cu ps ks es ψ n){a b:Int}(ha:a∈ps)(hb:b∈ps)(e:ψ a = ψ b):Cu ps ks (es++[(a,b)]) ψ n :=
 ⟨m.JJ.uy ha hb e,m.nd,m.off,m.t8,m.num,by have:=m.len;simp;omega⟩
theorem Cu.join{ps ks:List Int}{n:Nat}(m:Cu ps ks es ψ n){a b:Int}(ha:a∈ps)(hb:b∈ps)(ne:ψ a ≠ ψ b):Cu ps (eF (eF ks a) b) (es++[(a,b)]) (λx=>if ψ x = ψ b then ψ a else ψ x) (n+1):=by
 have key:∀x,x∈ks\/x=a\/x=b -> ψ x∈eF (eF ks a) b:=λx hx=>by
  rw[iU,iU]
  by_cases h:x∈ks
  ·exact .inl (.inl (m.t8 x h))
  ·rw[m.off x h]
   rcases hx with hx|hx|hx
   ·exact absurd hx h
   ·exact .inl (.inr hx)
   ·exact .inr hx
 refine⟨m.JJ.step ha hb (ψ a) (ψ b) (.inl ⟨rfl,rfl⟩),Bg (Bg m.nd),λx hx=>?_,λx hx=>?_,?_,?_⟩
 ·have hx':x∉ks:=λh=>hx (iU.mpr (.inl (iU.mpr (.inl h))));rw[m.off x hx'];rw[Z8];intro e;exact hx (by rw[e];exact key b (.inr (.inr rfl)))
 ·split
  ·exact key a (.inr (.inl rfl))
  ·refine key x ?_
   rcases iU.mp hx with h|h
   ·rcases iU.mp h with h|h
    ·exact .inl h
    ·exact .inr (.inl h)
   ·exact .inr (.inr h)
 ·have:=cnt_join ha hb ne;have:=m.num;omega
 ·have h1:=kh (eF ks a) b;have h2:=kh ks a;have:=m.len;simp;omega
def OX(ps:List Int)(es:List (Int×Int)):Prop:=∀e∈es,e.1∈ps/\e.2∈ps
theorem E4{ps:List Int}:∀(es pre:List (Int×Int)) (φ:Int->Int),jS ps pre φ -> OX ps es->∃ψ,jS ps (pre++es) ψ
 |[],pre,φ,h,_=>⟨φ,by rw[aa2];exact h⟩
 | e::r,pre,φ,h,hi=>by
  obtain⟨h1,h2⟩:=hi e Z9;have st:=h.step h1 h2 (φ e.1) (φ e.2) (.inl ⟨rfl,rfl⟩);obtain⟨ψ,k⟩:=E4 r (pre++[(e.1,e.2)]) _ st λx hx=>hi x (aab _ hx);exact⟨ψ,by rw[acB]at k;exact k⟩
theorem E5{ps:List Int}(hi:OX ps es):∃ψ,jS ps es ψ:=by
 obtain⟨ψ,h⟩:=E4 es [] id (jS.start ps) hi;exact⟨ψ,h⟩
theorem jS.N8{ps:List Int}(h:jS ps es φ)(hm:∀e,e∈es↔e∈es'):jS ps es' φ :=
 ⟨h.t8,λx hx=>(h.way x hx).mono λe he=>(hm e).mp he,λe he=>h.same e ((hm e).mpr he)⟩
open Classical in
def tr(ps:List Int)(es:List (Int×Int)):Nat:=if h:∃φ,jS ps es φ then rk (Classical.choose h) ps else 0
theorem ng{ps:List Int}(h:jS ps es φ)(hn:ps.Nodup):tr ps es=rk φ ps:=by
 unfold tr;have h':∃φ,jS ps es φ:=⟨φ,h⟩;rw[dif_pos h'];have h2:=acd h';exact KD h h2 hn (rJ h2 hn)
theorem N9{ps:List Int}{n:Nat}(h:jS ps es ψ)(hn:ps.Nodup)(e:n+cnt ψ ps=ps.length):n=tr ps es:=by
 rw[ng h hn];exact KD h h hn e
theorem xX{ps:List Int}(hn:ps.Nodup)(hi:OX ps es)(hm:∀e,e∈es↔e∈es'):tr ps es=tr ps es':=by
 obtain⟨φ,h⟩:=E5 hi;rw[ng h hn,ng (h.N8 hm) hn]
open Classical in
theorem JK{ps:List Int}{a b:Int}(hn:ps.Nodup)(hi:OX ps es)(ha:a∈ps)(hb:b∈ps)(hm:∀e,e∈es'↔e∈es\/e=(a,b)):tr ps es'=tr ps es+if Way es a b then 0 else 1:=by
 obtain⟨φ,h⟩:=E5 hi;have hi':OX ps (es++[(a,b)]):=λe he=>by
  rcases aaF.mp he with he|he
  ·exact hi e he
  ·rw[aai.mp he];exact⟨ha,hb⟩
 rw[<-xX (es:=es++[(a,b)]) hn hi' (λe=>by rw[hm e];simp)]
 by_cases c:φ a = φ b
 ·rw[Z7 ((h.iff ha hb).mp c),ng (h.uy ha hb c) hn,ng h hn,Nat.add_zero]
 ·rw[Z8 (λw=>c ((h.iff ha hb).mpr w))];have st:=h.step ha hb (φ a) (φ b) (.inl ⟨rfl,rfl⟩);have e1:=rJ st hn;have e2:=rJ h hn;have e3:=cnt_join ha hb c;rw[ng st hn,ng h hn];omega
section
variable {Φ:Nat->List Val->M Val} {env env':Env} {h h1 h2:Hs}
theorem jv(e:dU Φ st env h=.ok (.nx env') h1):bS Φ (.cons st r) env h=bS Φ r env' h1:=by
 rw[bS,ai e]
theorem fF{i:Nat}(ev:aB Φ e env h=.ok v h1):dU Φ (.asg (.one i) e) env h=.ok (.nx (env.set i (some v))) h1:=by
 rw[dU,ai ev];rfl
theorem oB:aB Φ (.cst d) env h=.ok d h:=by rw[aB];rfl
theorem lQ(ea:aB Φ a env h=.ok x h)(eb:aB Φ b env h=.ok y h)(ei:lK h x y=some z):aB Φ (.idx a b) env h=.ok z h:=by
 rw[aB,ai ea,ai eb];exact mY ei
theorem rL(ea:aB Φ a env h=.ok x h):aB Φ (.cmp .ntn a (.cst .non)) env h=.ok (.bl (!mG x)) h:=by
 rw[aB,ai ea,ai oB,di (a:=!mG x)]
 ·rfl
 ·cases x<;>rfl
theorem KG{n:Nat}(ec:c env h=.ok true h)(eb:B env h=.ok (.nx env') h1):nX c B (n+1) env h=nX c B n env' h1:=by
 rw[nX,ai ec,Z7 rfl,ai eb]
theorem KH{n:Nat}(ec:c env h=.ok false h):nX c B (n+1) env h=.ok (.nx env) h:=by
 rw[nX,ai ec,Z8 Z0];rfl
theorem vF{t:Bool}(ec:aB Φ c env h=.ok (.bl t) h):bnd (aB Φ c env) (λx=>ask λh=>cj h x) h=.ok t h:=by
 rw[ai ec];rfl
end
abbrev E6(jh:Nat):dg:=#[.asg (.one 2) (.idx (!1) (¬0)),.asg (.one 3) (.idx (!1) (¬1)),.asg (.one 4) (.idx (!1) (¬2)),.whl 100000 (.cmp .ntn (!3) (.cst .non)) #[.asg (.one 5) (.call jh #[!0,!3]),.iff (.cmp .ntn (!5) (.cst .non)) #[.expr (.met .remove (.idx (!0) (!5)) #[!3])] .nil,.expr (.met .append (.idx (!0) (!4)) #[!3]),.asg (.one 4) (!5),.asg (.one 3) (.idx (!2) (!3))]]
abbrev xY(jw:Nat):IE:=.call jw #[!0,!2,!3]
abbrev rM:IE:=.tup #[.blt .sorted #[.idx (!3) (¬0)],.blt .sorted #[.idx (!3) (¬1)],.skeys (.idx (!4) (¬0))]
abbrev uz(jw jp:Nat):dg:=.cons (.asg (.one 2) (.blt .sorted #[!1])) #[.asg (.one 3) (.tup #[.lst .nil,.lst .nil]),.asg (.one 4) (xY jw),.whl 100000 (.cmp .ntn (.idx (!4) (¬1)) (.cst .non)) #[.expr (.call jp #[!3,!4]),.asg (.one 4) (xY jw)],.ret rM]
section
variable {Φ:Nat->List Val->M Val}
theorem JL{jh a b dd:Nat}{x:Int}{h h1:Hs}(ga:h1[a]?=some (.lst xs))(hl:xs.length<sizeLine)(gd:h1[dd]?=some (.dct kvs))(hv:cg kvs (.inl x)=some .non)
  (hh:Φ jh [.tup [.ref a,.ref b],.int x] h=.ok .non h1) :
  dX Φ 6 (E6 jh) [.tup [.ref a,.ref b],.tup [.ref dd,.int x,.int 0]] h=.ok .non (h1.set a (.lst (xs++[.int x]))):=by
 have had:a≠dd:=λe=>by rw[e,gd]at ga;cases ga
 have Yg:(h1.set a (.lst (xs++[.int x])))[dd]?=some (.dct kvs):=by rw[Z2 had];exact gd
 have run:bS Φ (E6 jh) [some (.tup [.ref a,.ref b]),some (.tup [.ref dd,.int x,.int 0]),none,none,none,none] h=.ok (.nx [some (.tup [.ref a,.ref b]),some (.tup [.ref dd,.int x,.int 0]),some (.ref dd),some .non,some .non,some .non]) (h1.set a (.lst (xs++[.int x]))):=by
  rw[jv (fF (lQ (x:=.tup [.ref dd,.int x,.int 0]) (y:=.int 0) (z:=.ref dd) (aG rfl) oB rfl))];rw[jv (fF (lQ (x:=.tup [.ref dd,.int x,.int 0]) (y:=.int 1) (z:=.int x) (aG rfl) oB rfl))];rw[jv (fF (lQ (x:=.tup [.ref dd,.int x,.int 0]) (y:=.int 2) (z:=.int 0) (aG rfl) oB rfl))];simp only[set_cons_succ,set_cons_zero];rw[jv (st:=.whl _ _ _) (env':=[some (.tup [.ref a,.ref b]),some (.tup [.ref dd,.int x,.int 0]),some (.ref dd),some .non,some .non,some .non]) (h1:=h1.set a (.lst (xs++[.int x])))]
  ·rw[bS];rfl
  ·rw[dU]
   show nX _ _ (99998+1+1) _ h=_;rw[KG (env':=[some (.tup [.ref a,.ref b]),some (.tup [.ref dd,.int x,.int 0]),some (.ref dd),some .non,some .non,some .non]) (h1:=h1.set a (.lst (xs++[.int x])))]
   ·exact KH (vF (rL (x:=.non) (aG rfl)))
   ·exact vF (rL (x:=.int x) (aG rfl))
   ·have e1:aB Φ (.call jh #[!0,!3]) [some (.tup [.ref a,.ref b]),some (.tup [.ref dd,.int x,.int 0]),some (.ref dd),some (.int x),some (.int 0),none] h=.ok .non h1:=by
     rw[aB,ai (a:=[.tup [.ref a,.ref b],.int x]) (h1:=h)]
     ·exact hh
     ·rw[aK,ai (aG rfl),ai (a:=[.int x]) (h1:=h)]
      ·rfl
      ·rw[aK,ai (aG rfl),ai (a:=[]) (h1:=h)]
       ·rfl
       ·rw[aK];rfl
    rw[jv (fF e1)];simp only[set_cons_succ,set_cons_zero];rw[jv (st:=.iff _ _ _) (env':=[some (.tup [.ref a,.ref b]),some (.tup [.ref dd,.int x,.int 0]),some (.ref dd),some (.int x),some (.int 0),some .non]) (h1:=h1)]
    ·have e2:aB Φ (.met .append (.idx (!0) (!4)) #[!3]) [some (.tup [.ref a,.ref b]),some (.tup [.ref dd,.int x,.int 0]),some (.ref dd),some (.int x),some (.int 0),some .non] h1=.ok .non (h1.set a (.lst (xs++[.int x]))):=by
      rw[aB,ai (lQ (x:=.tup [.ref a,.ref b]) (y:=.int 0) (z:=.ref a) (aG rfl) (aG rfl) rfl)];have b1:recv h1 .append (.ref a)=some ():=by show (match h1[a]? with|some (.lst _)=>some ()|_=>none)=_;rw[ga]
      rw[di (f:=λh=>recv h .append (.ref a)) b1];have b2:aK Φ #[!3] [some (.tup [.ref a,.ref b]),some (.tup [.ref dd,.int x,.int 0]),some (.ref dd),some (.int x),some (.int 0),some .non] h1=.ok [.int x] h1:=by rw[aK,ai (aG rfl),aK];rfl
      rw[ai b2];rw[met];try dsimp only
      rw[di (a:=xs) (by rw[ga])];unfold aE;rw[Z7 (decide_eq_true hl)];rfl
     rw[jv (st:=.expr _) (env':=[some (.tup [.ref a,.ref b]),some (.tup [.ref dd,.int x,.int 0]),some (.ref dd),some (.int x),some (.int 0),some .non]) (h1:=h1.set a (.lst (xs++[.int x]))) (by rw[dU,ai e2];rfl)];rw[jv (fF (v:=.non) (aG rfl))];simp only[set_cons_succ,set_cons_zero];rw[jv (fF (lQ (x:=.ref dd) (y:=.int x) (z:=.non) (aG rfl) (aG rfl) (by
      show (match (h1.set a (.lst (xs++[.int x])))[dd]? with|some (.dct kvs)=>cg kvs (.inl x)|_=>_)=_;rw[Yg];exact hv)))]
     rw[bS];rfl
    ·rw[dU,ai (rL (x:=.non) (aG rfl)),di (a:=false) rfl,Z8 Z0,bS];rfl
 show bnd (bS Φ (E6 jh) [some (.tup [.ref a,.ref b]),some (.tup [.ref dd,.int x,.int 0]),none,none,none,none]) _ h=_;rw[ai run];rfl
end
def Ab(A:AP)(a b:Nat):AP:=λo=>A o/\o≠some a/\o≠some b
structure PI (A:AP) (h0:Hs) (dr dw dn vr vw vn:Val) (a b:Nat) (la:List Int) (h:Hs):Prop where
 pre:h0<+:h
 ha:h0.length<=a
 hb:h0.length<=b
 ab:a≠b
 ga:h[a]?=some (.lst (la.map .int))
 gb:h[b]?=some (.lst [])
 rule:Dn (Ab A a b) h dr vr
 row:Dn (Ab A a b) h dw vw
 names:Dn (Ab A a b) h dn vn
section
variable {A:AP} {h0 h h1:Hs} {dr dw dn vr vw vn:Val} {a b:Nat} {la:List Int}
theorem xZ{ns:List Int}:ak A h (ns.map .int) (ns.map .int):=(aQ _ _ (aS ns)).mpr rfl
theorem PI.ext(p:PI A h0 dr dw dn vr vw vn a b la h)(e:h<+:h1):PI A h0 dr dw dn vr vw vn a b la h1 :=
 ⟨p.pre.trans e,p.ha,p.hb,p.ab,bK e p.ga,bK e p.gb,p.rule.ext e,p.row.ext e,p.names.ext e⟩
theorem PI.rows(p:PI A h0 dr dw dn vr vw vn a b la h)(u:Up A h0):Dn A h (.tup [.rl (la.map .int),.rl []]) (.tup [.ref a,.ref b]):=by
 rw[Dn];refine⟨_,rfl,ak.cons ?_ (ak.cons ?_ ak.nil)⟩
 ·rw[Dn];exact .inr ⟨a,_,rfl,u a p.ha,p.ga,xZ⟩
 ·rw[Dn];exact .inr ⟨b,[],rfl,u b p.hb,p.gb,ak.nil⟩
theorem PI.set{x:Int}(p:PI A h0 dr dw dn vr vw vn a b la h):PI A h0 dr dw dn vr vw vn a b (la++[x]) (h.set a (.lst (la.map .int++[.int x]))):=by
 have hl:a<h.length:=(Z5.mp p.ga).1;have mv:∀d v,Dn (Ab A a b) h d v->Dn (Ab A a b) (h.set a (.lst (la.map .int++[.int x]))) d v:=Dn.move (λz=>z) λi o hi g=>⟨hi,by rw[Z2 λe=>hi.2.1 (by rw[e])];exact g⟩;refine⟨AW p.pre p.ha,p.ha,p.hb,p.ab,?_,?_,mv _ _ p.rule,mv _ _ p.row,mv _ _ p.names⟩
 ·rw[aad hl,aaY];rfl
 ·rw[Z2 p.ab];exact p.gb
end
def rN(Ψ:Nat->List Val->Pr FV)(jw jh:Nat)(dr:Val)(ss:List Int):Prop :=
 (∀k,∀hk:k<ss.length,∃f ks ds f',Ψ jw [dr,.rl (ss.map .int),.tup [.rl ((ss.take k).map .int),.rl []]]=.ok (f,.tup [.dc ks ds,.int ss[k],.int 0])/\cg (ks.zip ds) (.inl ss[k])=some .non /\ Ψ jh [.tup [.rl ((ss.take k).map .int),.rl []],.int ss[k]]=.ok (f',.non)) /\
 ∃f,Ψ jw [dr,.rl (ss.map .int),.tup [.rl (ss.map .int),.rl []]]=.ok (f,.tup [.dc [] [],.non,.non])
def Bh(dr:Val)(xs:List Val)(ss:List Int):bC:=[some (.sh,dr),some (.sh,.rl xs),some (.sh,.rl (ss.map .int)),some (.sh,.tup [.rl (ss.map .int),.rl []]),some (.sh,.tup [.dc [] [],.non,.non])]
def E7(Ψ:Nat->List Val->Pr FV)(jw jh:Nat):List Val->Pr FV
 | [dr,.rl xs]=>match bX xs with
  |some ns=>open Classical in if rN Ψ jw jh dr (sortI ns)/\ns.length<64 then bH Ψ rM (Bh dr xs (sortI ns)) else .no
  |none=>.no
 |_=>.no
section
variable {Φ Φ':Nat->List Val->M Val} {Ψ:Nat->List Val->Pr FV} {A:AP} {h0:Hs} {dr dw vr vw vn:Val} {a b jw jp jh jH:Nat} {ss:List Int}
def KI(A:AP)(ss:List Int)(k:Nat)(h:Hs)(v:Val):Prop :=
 (∃(hk:k<ss.length) (ks:List Key) (ds:List Val),Dn A h (.tup [.dc ks ds,.int ss[k],.int 0]) v/\cg (ks.zip ds) (.inl ss[k])=some .non)\/(k=ss.length/\Dn A h (.tup [.dc [] [],.non,.non]) v)
theorem E8(hΦ:∀j,Imp (Φ j) (Ψ j))(u:Up A h0)(ok:rN Ψ jw jH dr ss){k:Nat}(hk:k<=ss.length)(p:PI A h0 dr dw (.rl (ss.map .int)) vr vw vn a b (ss.take k) h) :
  ∃v h',aB Φ (xY jw) [some vr,some vw,some vn,some (.tup [.ref a,.ref b]),w] h=.ok v h'/\h<+:h'/\KI A ss k h' v:=by
 have wid:∀d v,Dn (Ab A a b) h d v->Dn A h d v:=λd v q=>q.wid λ_ z=>z.1;have im:=hΦ jw A h [dr,.rl (ss.map .int),.tup [.rl ((ss.take k).map .int),.rl []]] [vr,vn,.tup [.ref a,.ref b]] (u.ext p.pre) (ak.cons (wid _ _ p.rule) (ak.cons (wid _ _ p.names) (ak.cons (p.rows u) ak.nil)));have ec:∀{v h'},Φ jw [vr,vn,.tup [.ref a,.ref b]] h=.ok v h'->aB Φ (xY jw) [some vr,some vw,some vn,some (.tup [.ref a,.ref b]),w] h=.ok v h':=λe=>by
  rw[aB,ai (a:=[vr,vn,.tup [.ref a,.ref b]]) (h1:=h)]
  ·exact e
  ·rw[aK,ai (aG rfl),ai (a:=[vn,.tup [.ref a,.ref b]]) (h1:=h)]
   ·rfl
   ·rw[aK,ai (aG rfl),ai (a:=[.tup [.ref a,.ref b]]) (h1:=h)]
    ·rfl
    ·rw[aK,ai (aG rfl),aK];rfl
 rcases Nat.lt_or_ge k ss.length with hk|hg
 ·obtain⟨f,ks,ds,f',e1,e2,_⟩:=ok.1 k hk;rw[e1]at im;obtain⟨v,h',e,pr,q⟩:=im;exact⟨v,h',ec e,pr,.inl ⟨hk,ks,ds,q.1,e2⟩⟩
 ·obtain⟨f,e1⟩:=ok.2
  have ek:k=ss.length:=by omega
  rw[ek,List.take_length]at im;rw[e1]at im;obtain⟨v,h',e,pr,q⟩:=im;exact⟨v,h',ec e,pr,.inr ⟨ek,q.1⟩⟩
theorem Bj(hy:jb y=true)(hz:jb z=true)(q:Dn A h (.tup [.dc ks ds,y,z]) v):∃dd kvs,v=.tup [.ref dd,y,z]/\h[dd]?=some (.dct kvs)/\kvs.map (·.1)=ks/\ak A h ds (kvs.map (·.2)):=by
 rw[Dn]at q;obtain⟨vs,rfl,q⟩:=q;rw[ak]at q;obtain⟨v1,r,rfl,q1,q⟩:=q;rw[ak]at q;obtain⟨v2,r,rfl,q2,q⟩:=q;rw[ak]at q;obtain⟨v3,r,rfl,q3,q⟩:=q;rw[ak]at q;subst q;rw[Dn]at q1;obtain⟨dd,kvs,rfl,_,g,k,q1⟩:=q1;rw[(eL y v2 hy).mp q2,(eL z v3 hz).mp q3];exact⟨dd,kvs,rfl,g,k,q1⟩
theorem uA(hΦ:∀j,Imp (Φ j) (Ψ j))(hp:Φ jp=dX Φ' 6 (E6 jh))(hh:Imp (Φ' jh) (Ψ jH))(u:Up A h0)(ok:rN Ψ jw jH dr ss)(h64:ss.length<64):∀(m k n:Nat) (h:Hs) (v:Val),m+k=ss.length->m<n->PI A h0 dr dw (.rl (ss.map .int)) vr vw vn a b (ss.take k) h->KI A ss k h v ->
  ∃v' h',nX (λenv=>bnd (aB Φ (.cmp .ntn (.idx (!4) (¬1)) (.cst .non)) env) λx=>ask λh=>cj h x) (bS Φ #[.expr (.call jp #[!3,!4]),.asg (.one 4) (xY jw)]) n [some vr,some vw,some vn,some (.tup [.ref a,.ref b]),some v] h=.ok (.nx [some vr,some vw,some vn,some (.tup [.ref a,.ref b]),some v']) h' /\
   PI A h0 dr dw (.rl (ss.map .int)) vr vw vn a b ss h'/\Dn A h' (.tup [.dc [] [],.non,.non]) v'
 |m,k,0,h,v,e,hn,p,w=>by omega
 | m,k,n+1,h,v,e,hn,p,w=>by
  rcases w with ⟨hk,ks,ds,q,hv⟩|⟨ek,q⟩
  ·obtain⟨dd,kvs,rfl,g,gk,gq⟩:=Bj rfl rfl q
   obtain⟨_,_,_,f',_,_,e3⟩:=ok.1 k hk;have im:=hh A h [.tup [.rl ((ss.take k).map .int),.rl []],.int ss[k]] [.tup [.ref a,.ref b],.int ss[k]] (u.ext p.pre) (ak.cons (p.rows u) (ak.cons (by rw[Dn]) ak.nil));rw[e3]at im;obtain⟨v1,h1,e4,pr,q1⟩:=im;have:v1=.non:=by have:=q1.1;rw[Dn]at this;exact this
   subst this;have p1:=p.ext pr;obtain⟨v2,a1,a2⟩:=mO gk gq hv;have:v2=.non:=by rw[Dn]at a2;exact a2
   subst this;have run:=JL (Φ:=Φ') (b:=b) p1.ga (by rw[Z4,abe];unfold sizeLine;omega) (bK pr g) a1 e4;rw[<-hp]at run;have p2:=p1.set (x:=ss[k]);rw[show ss.take k++[ss[k]]=ss.take (k+1) from(List.take_succ_eq_append_getElem hk).symm]at p2;obtain⟨v3,h3,e5,UT,w3⟩:=E8 hΦ u ok (k:=k+1) hk (w:=some (.tup [.ref dd,.int ss[k],.int 0])) p2;obtain⟨v',h',e6,p6,q6⟩:=uA hΦ hp hh u ok h64 (m-1) (k+1) n h3 v3 (by omega) (by omega) (p2.ext UT) w3;refine⟨v',h',?_,p6,q6⟩;rw[KG (env':=[some vr,some vw,some vn,some (.tup [.ref a,.ref b]),some v3]) (h1:=h3)]
   ·exact e6
   ·exact vF (rL (x:=.int ss[k]) (lQ (x:=.tup [.ref dd,.int ss[k],.int 0]) (y:=.int 1) (aG rfl) oB rfl))
   ·rw[jv (st:=.expr _) (env':=[some vr,some vw,some vn,some (.tup [.ref a,.ref b]),some (.tup [.ref dd,.int ss[k],.int 0])]) (h1:=h1.set a (.lst ((ss.take k).map .int++[.int ss[k]])))]
    ·rw[jv (fF e5),bS];rfl
    ·rw[dU,ai (a:=.non) (h1:=h1.set a (.lst ((ss.take k).map .int++[.int ss[k]])))]
     ·rfl
     ·rw[aB,ai (a:=[.tup [.ref a,.ref b],.tup [.ref dd,.int ss[k],.int 0]]) (h1:=h)]
      ·exact run
      ·rw[aK,ai (aG rfl),ai (a:=[.tup [.ref dd,.int ss[k],.int 0]]) (h1:=h)]
       ·rfl
       ·rw[aK,ai (aG rfl),aK];rfl
  ·obtain⟨dd,kvs,rfl,g,gk,gq⟩:=Bj rfl rfl q;rw[ek,List.take_length]at p;refine⟨_,h,?_,p,q⟩;exact KH (vF (rL (x:=.non) (lQ (x:=.tup [.ref dd,.non,.non]) (y:=.int 1) (aG rfl) oB rfl)))
theorem RS(q:ak A h ds vs):ER A (ds.map λd=>some (.sh,d)) (vs.map some) h:=λi f d e=>by
 rw[aas]at e;cases ei:ds[i]? with
 |none=>rw[ei]at e;cases e
 |some d'=>rw[ei]at e;cases e;rw[Z8 (by decide)];obtain⟨v,q1,q2⟩:=q.get ei;exact⟨v,by rw[aas,q1];rfl,q2⟩
theorem zM(hΦ:∀j,Imp (Φ j) (Ψ j))(hp:Φ jp=dX Φ' 6 (E6 jh))(hh:Imp (Φ' jh) (Ψ jH)):Imp (dX Φ 5 (uz jw jp)) (E7 Ψ jw jH):=λA h ds vs u q=>by
 unfold E7
 split
 ·rename_i dr xs
  split
  ·rename_i ns hi
   by_cases hc:rN Ψ jw jH dr (sortI ns)/\ns.length<64
   ·rw[Z7 hc]
    obtain⟨ok,h64⟩:=hc;have ex:=j8 hi;subst ex;rw[ak]at q;obtain⟨vr,r,rfl,qr,q⟩:=q;rw[ak]at q;obtain⟨vw,r,rfl,qw,q⟩:=q;rw[ak]at q;subst q;have hsl:(sortI ns).length<64:=by rw[(aaI ns).length_eq];exact h64
    have UU:dD (ns.map .int)=some ((sortI ns).map .int):=by unfold dD;rw[Z7 (by rw[Z4];exact h64),ints_map]
    generalize sortI ns=ss at *;have el:aF h vw=some (ns.map .int):=by
     have qw:=qw;rw[Dn]at qw
     rcases qw with ⟨ws,rfl,_,q⟩|⟨i,ws,rfl,_,g,q⟩
     ·rw[(aQ _ _ (aS ns)).mp q];rfl
     ·show (match h[i]? with|some (.lst xs)=>some xs|_=>none)=_;rw[g,(aQ _ _ (aS ns)).mp q]
    let h1:Hs:=h++[.lst (ss.map .int)]
    let h2:Hs:=(h1++[.lst []])++[.lst []]
    have l1:h1.length=h.length+1:=by simp[h1]
    have e1:∀env:Env,env[1]?=some (some vw)->aB Φ (.blt .sorted #[!1]) env h=.ok (.ref h.length) h1:=λenv he=>by
     rw[aB,ai (a:=[vw]) (h1:=h)]
     ·rw[blt];try dsimp only
      rw[di (a:=ns.map .int) el,mZ UU];rfl
     ·rw[aK,ai (aG he),aK];rfl
    have nl:∀(env:Env) (g:Hs),aB Φ (.lst .nil) env g=.ok (.ref g.length) (g++[Ob.lst []]):=λenv g=>by
     rw[aB,show bnd (aK Φ .nil env) (λds=>aE (decide (ds.length<=sizeLine)) (new (.lst ds))) g=aE (decide (([]:List Val).length<=sizeLine)) (new (.lst [])) g from ai (a:=[]) (by rw[aK];rfl)];rfl
    have e2:∀env:Env,aB Φ (.tup #[.lst .nil,.lst .nil]) env h1=.ok (.tup [.ref h1.length,.ref (h1.length+1)]) h2:=λenv=>by
     rw[aB,ai (a:=[.ref h1.length,.ref (h1.length+1)]) (h1:=h2)]
     ·rfl
     ·rw[aK,ai (nl env h1),ai (a:=[.ref (h1.length+1)]) (h1:=h2)]
      ·rfl
      ·rw[aK,ai (nl env _),aK,aak];rfl
    have V4:h<+:h2:=((bN _).trans (bN _)).trans (bN _);have mv:∀d v,Dn A h d v->Dn (Ab A h1.length (h1.length+1)) h2 d v:=Dn.move (λz=>⟨z,by simp,by simp⟩) λi o hi g=>by
     have hl:=(Z5.mp g).1;refine⟨⟨hi,λe=>?_,λe=>?_⟩,bK V4 g⟩<;>(injection e with e;omega)
    have p0:PI A h dr (.rl (ns.map .int)) (.rl (ss.map .int)) vr vw (.ref h.length) h1.length (h1.length+1) (ss.take 0) h2:=by
     refine⟨V4,by omega,by omega,by omega,?_,?_,mv _ _ qr,mv _ _ qw,?_⟩
     ·show ((h1++[Ob.lst []])++[Ob.lst []])[h1.length]?=_;rw[aag (by simp),aau (aaa _),Nat.sub_self];rfl
     ·show ((h1++[Ob.lst []])++[Ob.lst []])[h1.length+1]?=_;rw[aau (by simp)];simp
     ·rw[Dn]
      refine .inr ⟨h.length,_,rfl,⟨u _ (aaa _),λe=>?_,λe=>?_⟩,?_,xZ⟩
      ·injection e with e;omega
      ·injection e with e;omega
      ·refine bK (h:=h1) ((bN _).trans (bN _)) ?_;show (h++[Ob.lst (ss.map .int)])[h.length]?=_;rw[aau (aaa _),Nat.sub_self];rfl
    obtain⟨v3,h3,e3,UT,w3⟩:=E8 hΦ u ok (abb _) (w:=none) p0;obtain⟨v4,h4,e4,p4,q4⟩:=uA hΦ hp hh u ok hsl ss.length 0 100000 h3 v3 (by omega) (by omega) (p0.ext UT) w3;have wid:∀d v,Dn (Ab A h1.length (h1.length+1)) h4 d v->Dn A h4 d v:=λd v q=>q.wid λ_ z=>z.1;have Yh:ak A h4 [dr,.rl (ns.map .int),.rl (ss.map .int),.tup [.rl (ss.map .int),.rl []],.tup [.dc [] [],.non,.non]] [vr,vw,.ref h.length,.tup [.ref h1.length,.ref (h1.length+1)],v4] :=
     ak.cons (wid _ _ p4.rule) (ak.cons (wid _ _ p4.row) (ak.cons (wid _ _ p4.names) (ak.cons (p4.rows u) (ak.cons q4 ak.nil))))
    have V:=(v_all hΦ).1 rM (by decide) (Bh dr (ns.map .int) ss) [some vr,some vw,some (.ref h.length),some (.tup [.ref h1.length,.ref (h1.length+1)]),some v4] A h4 (u.ext p4.pre) (RS Yh);have run:∀{v h'},aB Φ rM [some vr,some vw,some (.ref h.length),some (.tup [.ref h1.length,.ref (h1.length+1)]),some v4] h4=.ok v h'->dX Φ 5 (uz jw jp) [vr,vw] h=.ok v h':=λ{v h'} e=>by
     show bnd (bS Φ (uz jw jp) [some vr,some vw,none,none,none]) _ h=_;rw[ai (a:=.rt v) (h1:=h')]
     ·rfl
     ·rw[jv (fF (e1 _ rfl))]
      simp only[set_cons_succ,set_cons_zero];rw[jv (fF (e2 _))];simp only[set_cons_succ,set_cons_zero];rw[jv (fF e3)];simp only[set_cons_succ,set_cons_zero];rw[jv (st:=.whl _ _ _) (by rw[dU];exact e4)];rw[bS,dU,ai (a:=.rt v) (h1:=h')]
      ·rfl
      ·rw[ai e];rfl
    have UW:∀{c ws h'},aB Φ rM [some vr,some vw,some (.ref h.length),some (.tup [.ref h1.length,.ref (h1.length+1)]),some v4] h4=.exc c ws h'->dX Φ 5 (uz jw jp) [vr,vw] h=.exc c ws h':=λ{c ws h'} e=>by
     show bnd (bS Φ (uz jw jp) [some vr,some vw,none,none,none]) _ h=_;have:bS Φ (uz jw jp) [some vr,some vw,none,none,none] h=.exc c ws h':=by rw[jv (fF (e1 _ rfl))];simp only[set_cons_succ,set_cons_zero];rw[jv (fF (e2 _))];simp only[set_cons_succ,set_cons_zero];rw[jv (fF e3)];simp only[set_cons_succ,set_cons_zero];rw[jv (st:=.whl _ _ _) (by rw[dU];exact e4)];rw[bS,dU];unfold bnd;rw[e]
     unfold bnd;rw[this]
    revert V;cases bH Ψ rM (Bh dr (ns.map .int) ss) with
    |ok x=>
     rintro⟨v,h',e,pr,q1,q2⟩;exact⟨v,h',run e,p4.pre.trans pr,q1,λz=>(q2 z).wid λo ho=>by
      cases o with
      |none=>exact ho
      |some k=>exact aay p4.pre.length_le ho⟩
    |exc c es=>rintro⟨ws,h',e,pr,q1⟩;exact⟨ws,h',UW e,p4.pre.trans pr,q1⟩
    |no=>exact λ_=>trivial
   ·rw[Z8 hc];trivial
  ·trivial
 ·trivial
end
end Hv
end
section
namespace K31
open PySem L2 Hv
abbrev E9:List PySem.Str:=["_law_script","_law_k"]
abbrev Oa:List PySem.Str:=["_law_one","_law_two","_law_k","_law_step","_law_shift"]
abbrev Oc:List PySem.Str:=["_law_script","_law_cells","_law_one","_law_two","_law_pick","_law_many","_law_places","_law_ties","_law_k","_law_cell_here","_law_here","_law_there","_law_poles"]
abbrev Od:List PySem.Str:=["_law_net_here","_law_ends_here","_law_name","_law_one","_law_other"]
abbrev Oe:List PySem.Str:=["_law_names","_law_cell_here","_law_row_here","_law_name"]
abbrev Of:List PySem.Str:=["_law_ends_here","_law_row_here","_law_part","_law_many","_law_name","_law_one","_law_other","_law_place"]
abbrev Og:List PySem.Str:=["_law_kind","_law_ends_here","_law_row_here","_law_rest"]
abbrev RT:List PySem.Str:=["_law_kind","_law_ends_here","_law_row_here"]
abbrev Oh:List PySem.Str:=["_law_kind","_law_ends_here","_law_names","_law_found","_law_name"]
abbrev RU:List PySem.Str:=["_law_kind","_law_ends_here","_law_names"]
abbrev eO:List PySem.Str:=["self","row"]
abbrev Fb:List PySem.Str:=["places","pairs","firsts","place","one","other","kept","gone"]
abbrev Fc:List PySem.Str:=["self","row","firsts"]
abbrev Fd:List PySem.Str:=["self","row","rest"]
abbrev Fe:List PySem.Str:=["rule","row","name","found","other"]
abbrev Ff:List PySem.Str:=["rule","names","rows","pushers","name","waiting","at","other"]
abbrev Fg:List PySem.Str:=["rows","name","at"]
abbrev Fi:List PySem.Str:=["rows","way","pushers","name","room","left"]
abbrev Fj:List PySem.Str:=["rule","row","names","rows","way"]
abbrev Fo:List PySem.Str:=["poles","ties","named","name","one","other"]
abbrev Fp:List PySem.Str:=["net","places","tie"]
abbrev nh:List PySem.Str:=["self","net","name","one","other"]
abbrev ki:List PySem.Str:=["self","net"]
abbrev x6:List PySem.Str:=["_law_kind","_law_net_here"]
abbrev x8:List PySem.Str:=["_law_found"]
abbrev KJ:List PySem.Str:=["_law_script","_law_size","_law_net_here","_law_ends_here","_law_kind","_law_names","_law_turn","_law_picked","_law_handed","_law_found","_law_each","_law_outside"]
def top(i:Nat):Stmt:=PySem.Challenge.pw_linkorcut_k31_free_rows_packed_whole.main.body.getD i (.Pass ⟨0,0,0,0⟩)
def cons:List (Str×Val):=[("THOUGHT",(.int (-1)))]
def tb:Tb:=⟨3,["places","ends","net","whole"],[(0,"tree_rank",10),(1,"tree_rank",10),(2,"tree_rank",10),(0,"ties",13),(1,"ties",13),(2,"ties",13),(0,"rank",8),(1,"rank",11),(2,"rank",14),(0,"free",15),(1,"free",15),(2,"free",15)],[("Rule","__init__",26)],[]⟩
def bY(i:Nat):Stmt:=match top 16 with|.ClassDef (body:=b) ..=>b.getD i (.Pass ⟨0,0,0,0⟩)|_=>.Pass ⟨0,0,0,0⟩
def Bk(i:Nat):Stmt:=match top 17 with|.ClassDef (body:=b) ..=>b.getD i (.Pass ⟨0,0,0,0⟩)|_=>.Pass ⟨0,0,0,0⟩
def o7(i:Nat):Stmt:=match top 18 with|.ClassDef (body:=b) ..=>b.getD i (.Pass ⟨0,0,0,0⟩)|_=>.Pass ⟨0,0,0,0⟩
def iV:dg:=#[.iff (.cmp .lt (!1) (.blt .len #[!0])) #[.ret (.idx (!0) (!1))] .nil,.ret (¬0)]
def fV:dg:=#[.asg (.one 3) (¬1),.asg (.one 4) (¬0),.iff (.cmp .gt (.bin .mod (!0) (¬3)) (¬0)) #[.asg (.one 3) (.bin .add (¬1) (.bin .mod (.bin .fdiv (!0) (¬3)) (.bin .pow (¬10) (¬56)))),.asg (.one 4) (.bin .mod (.bin .fdiv (!1) (¬66)) (.bin .pow (¬10) (¬58)))] .nil,.ret (.bin .add (.bin .mul (!3) (.bin .mod (.bin .add (.bin .mul (.bin .add (¬1) (.bin .mod (!1) (¬66))) (!2)) (!0)) (¬67))) (!4))]
def kj:dg:=#[.asg (.one 2) (.call 0 #[!0,¬0]),.asg (.one 3) (.call 0 #[!0,¬1]),.asg (.one 4) (.call 0 #[!0,¬2]),.asg (.one 5) (.bin .add (¬2) (.bin .mod (!4) (¬7))),.asg (.one 6) (.comp ["_law_k","_law_two","_law_one"] [none,some 3,some 2] (.one 0) .range #[!5] .no (.call 1 #[!1,!2,!0])),.asg (.one 7) (.lst .nil),.for (.tup [8,9]) .enum #[!1] #[.asg (.one 10) (.idx (!6) (.bin .mod (!9) (!5))),.asg (.one 11) (.idx (!6) (.bin .mod (.bin .fdiv (!9) (!5)) (!5))),.expr (.met .append (!7) #[.tup #[.call 1 #[!2,!3,!8],.blt .min #[!10,!11],.blt .max #[!10,!11]]])],.asg (.one 12) (.blt .sorted #[.lst #[.idx (!6) (¬0),.idx (!6) (.bin .sub (¬1) (.blt .int #[.cmp .eq (.bin .mod (.bin .fdiv (!4) (¬7)) (¬8)) (¬3)]))]]),.ret (.tup #[.tup #[.idx (!12) (¬0),.idx (!12) (¬1)],.blt .sorted #[!7]])]
def iW:dg:=#[.asg (.one 1) (.dct1 (.neg (¬1)) (.idx (!0) (¬0))),.for (.tup [2,3,4]) .seq #[.idx (!0) (¬1)] #[.cR (!1) (!2) (.tup #[!3,!4])],.ret (!1)]
def ko:dg:=#[.asg (.one 2) (.lst .nil),.for (.one 3) .seq #[!0] #[.iff (.cmp .eq (.bin .mod (!1) (¬2)) (¬1)) #[.expr (.met .append (!2) #[!3])] .nil,.asg (.one 1) (.bin .fdiv (!1) (¬2))],.ret (!2)]
def fW:dg:=#[.asg (.one 2) .dct0,.asg (.one 3) (¬0),.for (.one 4) .seq #[!1] #[.asg (.one 5) (.dget (!2) (.idx (.idx (!0) (!4)) (¬0)) (.idx (.idx (!0) (!4)) (¬0))),.asg (.one 6) (.dget (!2) (.idx (.idx (!0) (!4)) (¬1)) (.idx (.idx (!0) (!4)) (¬1))),.iff (.cmp .ne (!5) (!6)) #[.aug 3 .add (¬1),.cR (!2) (.idx (.idx (!0) (!4)) (¬0)) (!5),.cR (!2) (.idx (.idx (!0) (!4)) (¬1)) (!6),.for (.one 7) .seq #[.lkeys (!2)] #[.iff (.cmp .eq (.idx (!2) (!7)) (!6)) #[.cR (!2) (!7) (!5)] .nil]] .nil],.ret (!3)]
def fG:dg:=#[.iff (.cmp .eq (!0) (¬0)) #[.ret (.blt .len #[!2])] .nil,.iff (.cmp .eq (!0) (¬1)) #[.ret (.call 5 #[!1,!2])] .nil,.asg (.one 3) (.dflt ["_law_name","_law_row_here"] [none,some 2] 0 1 (!1) (!2)),.ret (.bin .add (.bin .sub (.blt .len #[!2]) (.call 5 #[!1,.lkeys (!1)])) (.call 5 #[!1,!3]))]
def cY:dg:=#[.asg (.one 3) (.lst .nil),.for (.one 4) .seq #[!2] #[.iff (.cmp .eq (.call 6 #[!0,!1,.bin .add (!3) (.lst #[!4])]) (.bin .add (.blt .len #[!3]) (¬1))) #[.expr (.met .append (!3) #[!4])] .nil],.ret (!3)]
def eV:dg:=#[.ret (.blt .len #[!1])]
def eW:dg:=#[.asg (.one 2) .dct0,.for (.one 3) .seq #[!0] #[.cR (!2) (!3) (!3)],.for (.tup [4,5]) .seq #[!1] #[.asg (.one 6) (.blt .min #[.idx (!2) (!4),.idx (!2) (!5)]),.asg (.one 7) (.blt .max #[.idx (!2) (!4),.idx (!2) (!5)]),.for (.one 3) .seq #[!0] #[.iff (.cmp .eq (.idx (!2) (!3)) (!7)) #[.cR (!2) (!3) (!6)] .nil]],.ret (!2)]
def bU:dg:=#[.asg (.one 2) (.call 9 #[.fld 3 (!0) "places",.comp ["tie","self"] [none,some 0] (.one 0) .seq #[!1] .no (.idx (.fld 3 (!1) "ends") (!0))]),.ret (.blt .len #[.comp ["place","firsts"] [none,some 2] (.one 0) .seq #[.fld 3 (!0) "places"] (.cmp .ne (.idx (!1) (!0)) (!0)) (!0)])]
def cC:dg:=#[.ret (.mth (!0) "tree_rank" [(0,10),(1,10),(2,10)] #[!1])]
def fX:dg:=#[.ret (.comp ["tie"] [none] (.one 0) .seq #[.idx (!0) (¬1)] .no (.idx (!0) (¬0)))]
def eX:dg:=#[.ret (.bin .add (.lst #[.con "THOUGHT" (.int (-1))]) (.call 12 #[.fld 3 (!0) "net"]))]
def cN:dg:=#[.asg (.one 2) (.comp ["tie","row"] [none,some 1] (.one 0) .seq #[.mth (!0) "ties" [(0,13),(1,13),(2,13)] .nil] (.cmp .nin (!0) (!1)) (!0)),.ret (.bin .add (.bin .sub (.blt .len #[!1]) (.fld 3 (!0) "whole")) (.mth (!0) "tree_rank" [(0,10),(1,10),(2,10)] #[!2]))]
def eY:dg:=#[.ret (.cmp .eq (.mth (!0) "rank" [(0,8),(1,11),(2,14)] #[!1]) (.blt .len #[!1]))]
def fQ:dg:=#[.asg (.one 3) (.lst .nil),.for (.one 4) .seq #[!1] #[.iff (.mth (!0) "free" [(0,15),(1,15),(2,15)] #[.bin .add (.comp ["each","other"] [none,some 4] (.one 0) .seq #[!1] (.cmp .ne (!0) (!1)) (!0)) (.lst #[!2])]) #[.expr (.met .append (!3) #[!4])] .nil],.ret (!3)]
def fH:dg:=#[.asg (.one 3) .dct0,.for (.one 4) .seq #[!1] #[.iff (.and (.cmp .nin (!4) (.idx (!2) (¬0))) (.cmp .nin (!4) (.idx (!2) (¬1)))) #[.cR (!3) (!4) (.cst .non)] .nil],.asg (.one 5) (.lkeys (!3)),.whl 100000 (.cmp .gt (.blt .len #[!5]) (¬0)) #[.asg (.one 4) (.met .pop (!5) #[¬0]),.for (.one 6) .range #[¬2] #[.iff (.cmp .t8 (!4) (.idx (!2) (!6))) #[.cnt] .nil,.iff (.mth (!0) "free" [(0,15),(1,15),(2,15)] #[.bin .add (.idx (!2) (!6)) (.lst #[!4])]) #[.ret (.tup #[!3,!4,!6])] .nil,.for (.one 7) .seq #[.call 16 #[!0,.idx (!2) (!6),!4]] #[.iff (.cmp .nin (!7) (!3)) #[.cR (!3) (!7) (!4),.expr (.met .append (!5) #[!7])] .nil]]],.ret (.tup #[!3,.cst .non,.cst .non])]
def fJ:dg:=#[.for (.one 2) .range #[¬2] #[.iff (.cmp .t8 (!1) (.idx (!0) (!2))) #[.ret (!2)] .nil],.ret (.cst .non)]
def oE:dg:=#[.asg (.one 2) (.idx (!1) (¬0)),.asg (.one 3) (.idx (!1) (¬1)),.asg (.one 4) (.idx (!1) (¬2)),.whl 100000 (.cmp .ntn (!3) (.cst .non)) #[.asg (.one 5) (.call 18 #[!0,!3]),.iff (.cmp .ntn (!5) (.cst .non)) #[.expr (.met .remove (.idx (!0) (!5)) #[!3])] .nil,.expr (.met .append (.idx (!0) (!4)) #[!3]),.asg (.one 4) (!5),.asg (.one 3) (.idx (!2) (!3))]]
def oF:dg:=#[.asg (.one 2) (.blt .sorted #[!1]),.asg (.one 3) (.tup #[.lst .nil,.lst .nil]),.asg (.one 4) (.call 17 #[!0,!2,!3]),.whl 100000 (.cmp .ntn (.idx (!4) (¬1)) (.cst .non)) #[.expr (.call 19 #[!3,!4]),.asg (.one 4) (.call 17 #[!0,!2,!3])],.ret (.tup #[.blt .sorted #[.idx (!3) (¬0)],.blt .sorted #[.idx (!3) (¬1)],.skeys (.idx (!4) (¬0))])]
def cD:dg:=#[.asg (.one 2) (.lst .nil),.for (.tup [3,4,5]) .seq #[!1] #[.expr (.met .append (!2) #[.tup #[!3,.blt .min #[!4,!5],.blt .max #[!4,!5]]])],.ret (.tup #[.tup #[.blt .min #[.idx (!0) (¬0),.idx (!0) (¬1)],.blt .max #[.idx (!0) (¬0),.idx (!0) (¬1)]],.blt .sorted #[!2]])]
def gI:dg:=#[.ret (.call 21 #[.idx (!0) (¬0),.idx (!0) (¬1)])]
def eZ:dg:=#[.asg (.one 1) (.blt .list #[.idx (!0) (¬0)]),.for (.one 2) .seq #[.idx (!0) (¬1)] #[.expr (.met .extend (!1) #[.slc (!2) (¬1) .no])],.ret (.sset (!1))]
def vG:dg:=#[.setF 3 (!0) "net" (.call 22 #[!1]),.setF 3 (!0) "places" (.call 23 #[.fld 3 (!0) "net"]),.setF 3 (!0) "ends" (.dct1 (.con "THOUGHT" (.int (-1))) (.idx (.fld 3 (!0) "net") (¬0))),.for (.tup [2,3,4]) .seq #[.idx (.fld 3 (!0) "net") (¬1)] #[.cR (.fld 3 (!0) "ends") (!2) (.tup #[!3,!4])]]
def lR:dg:=#[.setF 3 (!0) "net" (.call 22 #[!1]),.setF 3 (!0) "places" (.call 23 #[.fld 3 (!0) "net"]),.setF 3 (!0) "ends" (.dct1 (.con "THOUGHT" (.int (-1))) (.idx (.fld 3 (!0) "net") (¬0))),.for (.tup [2,3,4]) .seq #[.idx (.fld 3 (!0) "net") (¬1)] #[.cR (.fld 3 (!0) "ends") (!2) (.tup #[!3,!4])]]
def fK:dg:=#[.setF 3 (!0) "net" (.call 22 #[!1]),.setF 3 (!0) "places" (.call 23 #[.fld 3 (!0) "net"]),.setF 3 (!0) "ends" (.dct1 (.con "THOUGHT" (.int (-1))) (.idx (.fld 3 (!0) "net") (¬0))),.for (.tup [2,3,4]) .seq #[.idx (.fld 3 (!0) "net") (¬1)] #[.cR (.fld 3 (!0) "ends") (!2) (.tup #[!3,!4])]]
def oG:dg:=#[.expr (.call 26 #[!0,!1]),.setF 3 (!0) "whole" (.mth (!0) "tree_rank" [(0,10),(1,10),(2,10)] #[.mth (!0) "ties" [(0,13),(1,13),(2,13)] .nil])]
def fL:dg:=#[.iff (.cmp .eq (!0) (¬1)) #[.ret (.call 25 #[!1])] .nil,.iff (.cmp .eq (!0) (¬2)) #[.ret (.call 27 #[!1])] .nil,.ret (.call 24 #[!1])]
def cZ:dg:=#[.iff (.or (.not (.blt (.isin "list") #[!0])) (.cmp .ne (!0) (.blt .sorted #[!0]))) #[.ret (.cst (.bl false))] .nil,.ret (.blt .all #[.comp ["_law_one"] [none] (.one 0) .seq #[!0] .no (.and (.blt (.isin "int") #[!0]) (.not (.blt (.isin "bool") #[!0])))])]
def rO:dg:=#[.asg (.one 1) (.bin .fdiv (.call 0 #[!0,¬2]) (¬56)),.asg (.one 2) (.call 2 #[!0,.slc (!0) (¬3) (.bin .add (¬3) (.bin .mod (!1) (¬15)))]),.asg (.one 3) (.call 3 #[!2]),.asg (.one 4) (.bin .mod (.bin .fdiv (!1) (¬15)) (¬3)),.asg (.one 5) (.call 4 #[.skeys (!3),.call 0 #[!0,¬17]]),.asg (.one 6) (.bin .mod (.call 0 #[!0,¬18]) (.bin .add (.blt .len #[!5]) (¬1))),.asg (.one 7) (.call 7 #[!4,!3,.bin .add (.slc (!5) (!6) .no) (.slc (!5) .no (!6))]),.asg (.one 8) (.blt .list #[!7]),.asg (.one 9) (.call 20 #[.call 28 #[!4,!2],!8]),.iff (.or (.cmp .ne (!8) (!7)) (.or (.not (.blt (.isin "tuple") #[!9])) (.cmp .ne (.blt .len #[!9]) (¬3)))) #[.ret (.cst (.bl false))] .nil,.iff (.not (.blt .all #[.comp ["_law_each"] [none] (.one 0) .seq #[!9] .no (.call 29 #[!0])])) #[.ret (.cst (.bl false))] .nil,.iff (.cmp .ne (.blt .sorted #[.bin .add (.idx (!9) (¬0)) (.idx (!9) (¬1))]) (.blt .sorted #[!7])) #[.ret (.cst (.bl false))] .nil,.for (.one 10) .seq #[.slc (!9) .no (¬2)] #[.iff (.cmp .ne (.call 6 #[!4,!3,!10]) (.blt .len #[!10])) #[.ret (.cst (.bl false))] .nil],.asg (.one 11) (.comp ["_law_name","_law_found"] [none,some 9] (.one 0) .seq #[!7] (.cmp .nin (!0) (.idx (!1) (¬2))) (!0)),.ret (.cmp .eq (.bin .add (.blt .len #[!11]) (.bin .mul (¬2) (.call 6 #[!4,!3,.idx (!9) (¬2)]))) (.blt .len #[!7]))]
def RW:List Row:=[]
def x9:List Val->M Val:=dX (look RW) 2 iV
def RX:List Row:=RW++[(("_law_cell":Str),2,x9)]
def rP:List Val->M Val:=dX (look RX) 5 fV
def RY:List Row:=RX++[(("_law_number":Str),3,rP)]
def Bm:List Val->M Val:=dX (look RY) 13 kj
def RZ:List Row:=RY++[(("_law_net":Str),2,Bm)]
def ya:List Val->M Val:=dX (look RZ) 5 iW
def R0:List Row:=RZ++[(("_law_ends":Str),1,ya)]
def Bo:List Val->M Val:=dX (look R0) 4 ko
def R3:List Row:=R0++[(("_law_row":Str),2,Bo)]
def rQ:List Val->M Val:=dX (look R3) 8 fW
def R4:List Row:=R3++[(("_law_joined":Str),2,rQ)]
def yb:List Val->M Val:=dX (look R4) 4 fG
def R5:List Row:=R4++[(("_law_rank":Str),3,yb)]
def ni:List Val->M Val:=dX (look R5) 5 cY
def R6:List Row:=R5++[(("_law_free_row":Str),3,ni)]
def o8:List Val->M Val:=dX (look R6) 2 eV
def R7:List Row:=R6++[(("Rule.rank":Str),1002,o8)]
def o9:List Val->M Val:=dX (look R7) 8 eW
def Fq:List Row:=R7++[(("firsts_by":Str),2,o9)]
def iX:List Val->M Val:=dX (look Fq) 3 bU
def Ft:List Row:=Fq++[(("Rule.tree_rank":Str),1002,iX)]
def kq:List Val->M Val:=dX (look Ft) 2 cC
def Fv:List Row:=Ft++[(("ByTrees.rank":Str),1002,kq)]
def rR:List Val->M Val:=dX (look Fv) 1 fX
def Fw:List Row:=Fv++[(("names_of":Str),1,rR)]
def pe:List Val->M Val:=dX (look Fw) 1 eX
def Fx:List Row:=Fw++[(("Rule.ties":Str),1001,pe)]
def lz:List Val->M Val:=dX (look Fx) 3 cN
def Fy:List Row:=Fx++[(("ByRest.rank":Str),1002,lz)]
def pq:List Val->M Val:=dX (look Fy) 2 eY
def Fz:List Row:=Fy++[(("Rule.free":Str),1002,pq)]
def nj:List Val->M Val:=dX (look Fz) 5 fQ
def FA:List Row:=Fz++[(("pushed_out":Str),3,nj)]
def yc:List Val->M Val:=dX (look FA) 8 fH
def FD:List Row:=FA++[(("way_in":Str),3,yc)]
def uB:List Val->M Val:=dX (look FD) 3 fJ
def Cv:List Row:=FD++[(("home_of":Str),2,uB)]
def yd:List Val->M Val:=dX (look Cv) 6 oE
def FE:List Row:=Cv++[(("put_in":Str),2,yd)]
def ye:List Val->M Val:=dX (look FE) 5 oF
def FF:List Row:=FE++[(("packed":Str),2,ye)]
def kr:List Val->M Val:=dX (look FF) 6 cD
def FG:List Row:=FF++[(("put_in_order":Str),2,kr)]
def uC:List Val->M Val:=dX (look FG) 1 gI
def FH:List Row:=FG++[(("own_net":Str),1,uC)]
def pB:List Val->M Val:=dX (look FH) 3 eZ
def FI:List Row:=FH++[(("places_of":Str),1,pB)]
def FJ:List Val->M Val:=CJ 0 (dX (look FI) 5 vG)
def FL:List Row:=FI++[(("Rule":Str),1,FJ)]
def uD:List Val->M Val:=CJ 1 (dX (look FL) 5 lR)
def FN:List Row:=FL++[(("ByTrees":Str),1,uD)]
def jG:List Val->M Val:=dX (look FN) 5 fK
def FO:List Row:=FN++[(("Rule.__init__":Str),1002,jG)]
def yf:List Val->M Val:=CJ 2 (dX (look FO) 2 oG)
def FP:List Row:=FO++[(("ByRest":Str),1,yf)]
def yg:List Val->M Val:=dX (look FP) 2 fL
def FQ:List Row:=FP++[(("_law_rule":Str),2,yg)]
def nk:List Val->M Val:=dX (look FQ) 1 cZ
def JM:List Row:=FQ++[(("_law_told_row":Str),1,nk)]
def FT:List Val->M Val:=dX (look JM) 12 rO
def UX:List aX:=[]
def cE:aX:=fc (aq UX) 2 iV
def UY:List aX:=UX++[cE]
def gJ:aX:=fc (aq UY) 5 fV
def R8:List aX:=UY++[gJ]
def nq:aX:=fc (aq R8) 13 kj
def UZ:List aX:=R8++[nq]
def ku:aX:=fc (aq UZ) 5 iW
def U0:List aX:=UZ++[ku]
def nu:aX:=fc (aq U0) 4 ko
def U1:List aX:=U0++[nu]
def fM:aX:=fc (aq U1) 8 fW
def SQ:List aX:=U1++[fM]
def fY:aX:=fc (aq SQ) 4 fG
def SS:List aX:=SQ++[fY]
def e9:aX:=fc (aq SS) 5 cY
def U3:List aX:=SS++[e9]
def fZ:aX:=fc (aq U3) 2 eV
def U4:List aX:=U3++[fZ]
def dP:aX:=fc (aq U4) 8 eW
def JN:List aX:=U4++[dP]
def aV:aX:=fc (aq JN) 3 bU
def JO:List aX:=JN++[aV]
def cO:aX:=fc (aq JO) 2 cC
def Oi:List aX:=JO++[cO]
def gK:aX:=fc (aq Oi) 1 fX
def JP:List aX:=Oi++[gK]
def cP:aX:=fc (aq JP) 1 eX
def FU:List aX:=JP++[cP]
def cG:aX:=fc (aq FU) 3 cN
def zN:List aX:=FU++[cG]
def f6:aX:=fc (aq zN) 2 eY
def Oj:List aX:=zN++[f6]
def nv:aX:=fc (aq Oj) 5 fQ
def lT:List aX:=Oj++[nv]
def nC:aX:=fc (aq lT) 8 fH
def JQ:List aX:=lT++[nC]
def oH:aX:=fc (aq JQ) 3 fJ
def R9:List aX:=JQ++[oH]
def yh:aX:=λ_=>.no
def JR:List aX:=R9++[yh]
def nD:aX:=E7 (aq JR) 17 18
def Ol:List aX:=JR++[nD]
def cQ:aX:=fc (aq Ol) 6 cD
def JS:List aX:=Ol++[cQ]
def cH:aX:=fc (aq JS) 1 gI
def Om:List aX:=JS++[cH]
def bV:aX:=fc (aq Om) 3 eZ
def FW:List aX:=Om++[bV]
def vH:aX:=kg (aq FW) 0 22 23
def FY:List aX:=FW++[vH]
def kM:aX:=kg (aq FY) 1 22 23
def FZ:List aX:=FY++[kM]
def jI:aX:=λ_=>.no
def Ga:List aX:=FZ++[jI]
def nE:aX:=ux (aq FZ) (aq Ga) 2 22 23 13 10
def Cw:List aX:=Ga++[nE]
def gM:aX:=fc (aq Cw) 2 fL
def Oo:List aX:=Cw++[gM]
def cU:aX:=fc (aq Oo) 1 cZ
def oJ:List aX:=Oo++[cU]
def KL:aX:=fc (aq oJ) 12 rO
theorem pL:aq R8 0=cE:=rfl
theorem ic:aq R8 1=gJ:=rfl
theorem gO:aq SQ 5=fM:=rfl
theorem gc:aq SS 6=fY:=rfl
theorem gu:aq JN 9=dP:=rfl
theorem fN:aq JO 10=aV:=rfl
theorem jO:aq JP 12=gK:=rfl
theorem gf:aq FU 10=aV:=rfl
theorem iB:aq FU 13=cP:=rfl
theorem jx:aq zN 8=fZ:=rfl
theorem gW:aq zN 11=cO:=rfl
theorem iC:aq zN 14=cG:=rfl
theorem kU:aq lT 15=f6:=rfl
theorem iY:aq JS 21=cQ:=rfl
theorem pM:aq FW 22=cH:=rfl
theorem nF:aq FW 23=bV:=rfl
theorem lU:aq FY 22=cH:=rfl
theorem kB:aq FY 23=bV:=rfl
theorem iD:aq FZ 22=cH:=rfl
theorem gP:aq FZ 23=bV:=rfl
theorem iE:aq Ga 10=aV:=rfl
theorem kW:aq Ga 13=cP:=rfl
theorem rT:aq Cw 24=vH:=rfl
theorem nG:aq Cw 25=kM:=rfl
theorem oK:aq Cw 27=nE:=rfl
theorem iF:aq oJ 0=cE:=rfl
theorem vI:aq oJ 2=nq:=rfl
theorem sW:aq oJ 3=ku:=rfl
theorem vJ:aq oJ 4=nu:=rfl
theorem iG:aq oJ 6=fY:=rfl
theorem nH:aq oJ 7=e9:=rfl
theorem sX:aq oJ 20=nD:=rfl
theorem sY:aq oJ 28=gM:=rfl
theorem nI:aq oJ 29=cU:=rfl
theorem i0:cL RW UX:=EJ
theorem Gb:Imp x9 cE:=bI (az i0) (by decide +kernel)
theorem i1:cL RX UY:=aA i0 Gb
theorem zO:Imp rP gJ:=bI (az i1) (by decide +kernel)
theorem i2:cL RY R8:=aA i1 zO
theorem JT:Imp Bm nq:=bI (az i2) (by decide +kernel)
theorem i3:cL RZ UZ:=aA i2 JT
theorem Gd:Imp ya ku:=bI (az i3) (by decide +kernel)
theorem i4:cL R0 U0:=aA i3 Gd
theorem JU:Imp Bo nu:=bI (az i4) (by decide +kernel)
theorem i5:cL R3 U1:=aA i4 JU
theorem zP:Imp rQ fM:=bI (az i5) (by decide +kernel)
theorem i6:cL R4 SQ:=aA i5 zP
theorem Ge:Imp yb fY:=bI (az i6) (by decide +kernel)
theorem i7:cL R5 SS:=aA i6 Ge
theorem vK:Imp ni e9:=bI (az i7) (by decide +kernel)
theorem i8:cL R6 U3:=aA i7 vK
theorem yi:Imp o8 fZ:=bI (az i8) (by decide +kernel)
theorem i9:cL R7 U4:=aA i8 yi
theorem yj:Imp o9 dP:=bI (az i9) (by decide +kernel)
theorem V5:cL Fq JN:=aA i9 yj
theorem oM:Imp iX aV:=bI (az V5) (by decide +kernel)
theorem V6:cL Ft JO:=aA V5 oM
theorem rV:Imp kq cO:=bI (az V6) (by decide +kernel)
theorem i12:cL Fv Oi:=aA V6 rV
theorem zQ:Imp rR gK:=bI (az i12) (by decide +kernel)
theorem V7:cL Fw JP:=aA i12 zQ
theorem yk:Imp pe cP:=bI (az V7) (by decide +kernel)
theorem V8:cL Fx FU:=aA V7 yk
theorem sZ:Imp lz cG:=bI (az V8) (by decide +kernel)
theorem V9:cL Fy zN:=aA V8 sZ
theorem yl:Imp pq f6:=bI (az V9) (by decide +kernel)
theorem Wa:cL Fz Oj:=aA V9 yl
theorem vL:Imp nj nv:=bI (az Wa) (by decide +kernel)
theorem Wb:cL FA lT:=aA Wa vL
theorem Gf:Imp yc nC:=bI (az Wb) (by decide +kernel)
theorem Wc:cL FD JQ:=aA Wb Gf
theorem uE:Imp uB oH:=bI (az Wc) (by decide +kernel)
theorem Yi:cL Cv R9:=aA Wc uE
theorem Gg:Imp yd yh:=xW
theorem Wd:cL FE JR:=aA Yi Gg
theorem Gh:Imp ye nD:=zM (jw:=17) (jp:=19) (jh:=18) (jH:=18) (Φ':=look Cv) (az Wd) rfl uE
theorem We:cL FF Ol:=aA Wd Gh
theorem rW:Imp kr cQ:=bI (az We) (by decide +kernel)
theorem Wf:cL FG JS:=aA We rW
theorem Cy:Imp uC cH:=bI (az Wf) (by decide +kernel)
theorem Wg:cL FH Om:=aA Wf Cy
theorem ym:Imp pB bV:=bI (az Wg) (by decide +kernel)
theorem Wh:cL FI FW:=aA Wg ym
theorem Oq:Imp FJ vH:=xV (n:=3) (by decide) (az Wh)
theorem Wi:cL FL FY:=aA Wh Oq
theorem Cz:Imp uD kM:=xV (n:=3) (by decide) (az Wi)
theorem Wj:cL FN FZ:=aA Wi Cz
theorem pN:Imp jG jI:=xW
theorem Wk:cL FO Ga:=aA Wj pN
theorem Gi:Imp yf nE:=EZ (n:=3) (ji:=26) (by decide) (az Wj) (az Wk) rfl rfl rfl
theorem Wl:cL FP Cw:=aA Wk Gi
theorem Gj:Imp yg gM:=bI (az Wl) (by decide +kernel)
theorem Wm:cL FQ Oo:=aA Wl Gj
theorem vM:Imp nk cU:=bI (az Wm) (by decide +kernel)
theorem Yj:cL JM oJ:=aA Wm vM
theorem JV{ns:List Int}{f:Bool}(e:KL [.rl (ns.map .int)]=.ok (f,.bl true)):∃h',FT [.rl (ns.map .int)] []=.ok (.bl true) h':=EK (bI (az Yj) (by decide +kernel)) e
theorem c0:aN E9 E9 (af (top 20))=true:=by decide +kernel
theorem d0:aU ⟨E9,af (top 20),RW.map (λr=>(r.1,r.2.1)),cons,tb⟩ iV (av (top 20))=true:=by decide +kernel
theorem c1:aN Oa ["_law_one","_law_two","_law_k"] (af (top 21))=true:=by decide +kernel
theorem d1:aU ⟨Oa,af (top 21),RX.map (λr=>(r.1,r.2.1)),cons,tb⟩ fV (av (top 21))=true:=by decide +kernel
theorem c2:aN Oc ["_law_script","_law_cells"] (af (top 22))=true:=by decide +kernel
theorem d2:aU ⟨Oc,af (top 22),RY.map (λr=>(r.1,r.2.1)),cons,tb⟩ kj (av (top 22))=true:=by decide +kernel
theorem c3:aN Od ["_law_net_here"] (af (top 23))=true:=by decide +kernel
theorem d3:aU ⟨Od,af (top 23),RZ.map (λr=>(r.1,r.2.1)),cons,tb⟩ iW (av (top 23))=true:=by decide +kernel
theorem c4:aN Oe ["_law_names","_law_cell_here"] (af (top 27))=true:=by decide +kernel
theorem d4:aU ⟨Oe,af (top 27),R0.map (λr=>(r.1,r.2.1)),cons,tb⟩ ko (av (top 27))=true:=by decide +kernel
theorem c5:aN Of ["_law_ends_here","_law_row_here"] (af (top 24))=true:=by decide +kernel
theorem d5:aU ⟨Of,af (top 24),R3.map (λr=>(r.1,r.2.1)),cons,tb⟩ fW (av (top 24))=true:=by decide +kernel
theorem c6:aN Og RT (af (top 25))=true:=by decide +kernel
theorem d6:aU ⟨Og,af (top 25),R4.map (λr=>(r.1,r.2.1)),cons,tb⟩ fG (av (top 25))=true:=by decide +kernel
theorem c7:aN Oh RU (af (top 29))=true:=by decide +kernel
theorem d7:aU ⟨Oh,af (top 29),R5.map (λr=>(r.1,r.2.1)),cons,tb⟩ cY (av (top 29))=true:=by decide +kernel
theorem c8:aN eO eO (af (bY 4))=true:=by decide +kernel
theorem d8:aU ⟨eO,af (bY 4),R6.map (λr=>(r.1,r.2.1)),cons,tb⟩ eV (av (bY 4))=true:=by decide +kernel
theorem c9:aN Fb ["places","pairs"] (af (top 13))=true:=by decide +kernel
theorem d9:aU ⟨Fb,af (top 13),R7.map (λr=>(r.1,r.2.1)),cons,tb⟩ eW (av (top 13))=true:=by decide +kernel
theorem Yk:aN Fc eO (af (bY 7))=true:=by decide +kernel
theorem OW:aU ⟨Fc,af (bY 7),Fq.map (λr=>(r.1,r.2.1)),cons,tb⟩ bU (av (bY 7))=true:=by decide +kernel
theorem Yl:aN eO eO (af (Bk 1))=true:=by decide +kernel
theorem Ym:aU ⟨eO,af (Bk 1),Ft.map (λr=>(r.1,r.2.1)),cons,tb⟩ cC (av (Bk 1))=true:=by decide +kernel
theorem c12:aN ["net"] ["net"] (af (top 11))=true:=by decide +kernel
theorem Yn:aU ⟨["net"],af (top 11),Fv.map (λr=>(r.1,r.2.1)),cons,tb⟩ fX (av (top 11))=true:=by decide +kernel
theorem Yo:aN ["self"] ["self"] (af (bY 3))=true:=by decide +kernel
theorem Yp:aU ⟨["self"],af (bY 3),Fw.map (λr=>(r.1,r.2.1)),cons,tb⟩ eX (av (bY 3))=true:=by decide +kernel
theorem Yq:aN Fd eO (af (o7 2))=true:=by decide +kernel
theorem Yr:aU ⟨Fd,af (o7 2),Fx.map (λr=>(r.1,r.2.1)),cons,tb⟩ cN (av (o7 2))=true:=by decide +kernel
theorem Ys:aN eO eO (af (bY 5))=true:=by decide +kernel
theorem Yt:aU ⟨eO,af (bY 5),Fy.map (λr=>(r.1,r.2.1)),cons,tb⟩ eY (av (bY 5))=true:=by decide +kernel
theorem Yu:aN Fe ["rule","row","name"] (af (top 4))=true:=by decide +kernel
theorem Yv:aU ⟨Fe,af (top 4),Fz.map (λr=>(r.1,r.2.1)),cons,tb⟩ fQ (av (top 4))=true:=by decide +kernel
theorem U5:aN Ff ["rule","names","rows"] (af (top 3))=true:=by decide +kernel
theorem Yw:aU ⟨Ff,af (top 3),FA.map (λr=>(r.1,r.2.1)),cons,tb⟩ fH (av (top 3))=true:=by decide +kernel
theorem U6:aN Fg ["rows","name"] (af (top 6))=true:=by decide +kernel
theorem Yx:aU ⟨Fg,af (top 6),FD.map (λr=>(r.1,r.2.1)),cons,tb⟩ fJ (av (top 6))=true:=by decide +kernel
theorem Yy:aN Fi ["rows","way"] (af (top 5))=true:=by decide +kernel
theorem Yz:aU ⟨Fi,af (top 5),Cv.map (λr=>(r.1,r.2.1)),cons,tb⟩ oE (av (top 5))=true:=by decide +kernel
theorem YA:aN Fj ["rule","row"] (af (top 2))=true:=by decide +kernel
theorem YB:aU ⟨Fj,af (top 2),FE.map (λr=>(r.1,r.2.1)),cons,tb⟩ oF (av (top 2))=true:=by decide +kernel
theorem YC:aN Fo ["poles","ties"] (af (top 8))=true:=by decide +kernel
theorem YD:aU ⟨Fo,af (top 8),FF.map (λr=>(r.1,r.2.1)),cons,tb⟩ cD (av (top 8))=true:=by decide +kernel
theorem YE:aN ["net"] ["net"] (af (top 9))=true:=by decide +kernel
theorem YF:aU ⟨["net"],af (top 9),FG.map (λr=>(r.1,r.2.1)),cons,tb⟩ gI (av (top 9))=true:=by decide +kernel
theorem YG:aN Fp ["net"] (af (top 10))=true:=by decide +kernel
theorem YH:aU ⟨Fp,af (top 10),FH.map (λr=>(r.1,r.2.1)),cons,tb⟩ eZ (av (top 10))=true:=by decide +kernel
theorem YI:aN nh ki (af (bY 0))=true:=by decide +kernel
theorem YJ:aU ⟨nh,af (bY 0),FI.map (λr=>(r.1,r.2.1)),cons,tb⟩ vG (av (bY 0))=true:=by decide +kernel
theorem YK:aN nh ki (af (bY 0))=true:=by decide +kernel
theorem YL:aU ⟨nh,af (bY 0),FL.map (λr=>(r.1,r.2.1)),cons,tb⟩ lR (av (bY 0))=true:=by decide +kernel
theorem YM:aN nh ki (af (bY 0))=true:=by decide +kernel
theorem YN:aU ⟨nh,af (bY 0),FN.map (λr=>(r.1,r.2.1)),cons,tb⟩ fK (av (bY 0))=true:=by decide +kernel
theorem YO:aN ki ki (af (o7 0))=true:=by decide +kernel
theorem YQ:aU ⟨ki,af (o7 0),FO.map (λr=>(r.1,r.2.1)),cons,tb⟩ oG (av (o7 0))=true:=by decide +kernel
theorem YR:aN x6 x6 (af (top 26))=true:=by decide +kernel
theorem YS:aU ⟨x6,af (top 26),FP.map (λr=>(r.1,r.2.1)),cons,tb⟩ fL (av (top 26))=true:=by decide +kernel
theorem YT:aN x8 x8 (af (top 28))=true:=by decide +kernel
theorem YU:aU ⟨x8,af (top 28),FQ.map (λr=>(r.1,r.2.1)),cons,tb⟩ cZ (av (top 28))=true:=by decide +kernel
theorem YV:aN KJ ["_law_script"] (af (top 30))=true:=by decide +kernel
theorem YW:aU ⟨KJ,af (top 30),JM.map (λr=>(r.1,r.2.1)),cons,tb⟩ rO (av (top 30))=true:=by decide +kernel
section
variable {P:Program} {w:World} {K:Frag} {mg:Str->Option Value} {base:Heap}
theorem all_mk{l:PySem.W.OpenLaw}{h:Heap}{fa:Addr}(X:K.In h)(G:h.Ns mainGlobals mg)(Qm:mg "law" = some (.ref fa))(hφ:∀ns:List Int,ns.length<=63->∃h',FT [.rl (ns.map .int)] []=.ok (.bl true) h'){D0:Addr}{D1:Addr}{D2:Addr}{E0:Addr}{a0:Addr}{a1:Addr}{a2:Addr}{a3:Addr}{a4:Addr}{a5:Addr}{a6:Addr}{a7:Addr}{a8:Addr}{a9:Addr}{OY:Addr}{SV:Addr}{Wn:Addr}{OZ:Addr}{SW:Addr}{O0:Addr}{Wo:Addr}{Wq:Addr}{Wr:Addr}{Ws:Addr}{Wt:Addr}{Wu:Addr}{Wv:Addr}{Ww:Addr}{SX:Addr}{SY:Addr}{S0:Addr}{S4:Addr}{Wx:Addr}{Wz:Addr}{WA:Addr}{tk0:Tok}
  (DA0:nsIn K mainGlobals "Rule" = some (some (.ref D0))) (DG0:plainGet K D0 Str.empty=true) (DH0:hasDictIn K D0=true) (DO0:plainOver K D0=true) (DS0:findIn K (.ref D0) "__setattr__" = some (some (.builtin "object.__setattr__"))) (DM0:makesIn K D0=true) (DK0:keepIn K (.ref D0)=true)
  (DN0_0:findIn K (.ref D0) "places" = some none)
  (DN0_1:findIn K (.ref D0) "ends" = some none)
  (DN0_2:findIn K (.ref D0) "net" = some none)
  (DN0_3:findIn K (.ref D0) "whole" = some none)
  (DA1:nsIn K mainGlobals "ByTrees" = some (some (.ref D1))) (DG1:plainGet K D1 Str.empty=true) (DH1:hasDictIn K D1=true) (DO1:plainOver K D1=true) (DS1:findIn K (.ref D1) "__setattr__" = some (some (.builtin "object.__setattr__"))) (DM1:makesIn K D1=true) (DK1:keepIn K (.ref D1)=true)
  (DN1_0:findIn K (.ref D1) "places" = some none)
  (DN1_1:findIn K (.ref D1) "ends" = some none)
  (DN1_2:findIn K (.ref D1) "net" = some none)
  (DN1_3:findIn K (.ref D1) "whole" = some none)
  (DA2:nsIn K mainGlobals "ByRest" = some (some (.ref D2))) (DG2:plainGet K D2 Str.empty=true) (DH2:hasDictIn K D2=true) (DO2:plainOver K D2=true) (DS2:findIn K (.ref D2) "__setattr__" = some (some (.builtin "object.__setattr__"))) (DM2:makesIn K D2=true) (DK2:keepIn K (.ref D2)=true)
  (DN2_0:findIn K (.ref D2) "places" = some none)
  (DN2_1:findIn K (.ref D2) "ends" = some none)
  (DN2_2:findIn K (.ref D2) "net" = some none)
  (DN2_3:findIn K (.ref D2) "whole" = some none)
  (EA0:nsIn K mainGlobals "Rule" = some (some (.ref E0)))
  (EG0:specialIn K (.ref E0) "__getattribute__" = some (some (.builtin "type.__getattribute__"))) (ER0:readsIn K E0 (.type "type")=true)
  (A0:nsIn K mainGlobals "_law_cell" = some (some (.ref a0)))
  (F0:jR K "_law_cell" "_law_cell" (top 20) a0)
  (A1:nsIn K mainGlobals "_law_number" = some (some (.ref a1)))
  (F1:jR K "_law_number" "_law_number" (top 21) a1)
  (A2:nsIn K mainGlobals "_law_net" = some (some (.ref a2)))
  (F2:jR K "_law_net" "_law_net" (top 22) a2)
  (A3:nsIn K mainGlobals "_law_ends" = some (some (.ref a3)))
  (F3:jR K "_law_ends" "_law_ends" (top 23) a3)
  (A4:nsIn K mainGlobals "_law_row" = some (some (.ref a4)))
  (F4:jR K "_law_row" "_law_row" (top 27) a4)
  (A5:nsIn K mainGlobals "_law_joined" = some (some (.ref a5)))
  (F5:jR K "_law_joined" "_law_joined" (top 24) a5)
  (A6:nsIn K mainGlobals "_law_rank" = some (some (.ref a6)))
  (F6:jR K "_law_rank" "_law_rank" (top 25) a6)
  (A7:nsIn K mainGlobals "_law_free_row" = some (some (.ref a7)))
  (F7:jR K "_law_free_row" "_law_free_row" (top 29) a7)
  (M0_8:findIn K (.ref D0) "rank" = some (some (.ref a8)))
  (I8:isFn K (.ref a8)=true)
  (F8:jR K "rank" "Rule.rank" (bY 4) a8)
  (A9:nsIn K mainGlobals "firsts_by" = some (some (.ref a9)))
  (F9:jR K "firsts_by" "firsts_by" (top 13) a9)
  (M0_10:findIn K (.ref D0) "tree_rank" = some (some (.ref OY)))
  (M1_10:findIn K (.ref D1) "tree_rank" = some (some (.ref OY)))
  (M2_10:findIn K (.ref D2) "tree_rank" = some (some (.ref OY)))
  (I10:isFn K (.ref OY)=true)
  (F10:jR K "tree_rank" "Rule.tree_rank" (bY 7) OY)
  (M1_11:findIn K (.ref D1) "rank" = some (some (.ref SV)))
  (I11:isFn K (.ref SV)=true)
  (F11:jR K "rank" "ByTrees.rank" (Bk 1) SV)
  (A12:nsIn K mainGlobals "names_of" = some (some (.ref Wn)))
  (F12:jR K "names_of" "names_of" (top 11) Wn)
  (M0_13:findIn K (.ref D0) "ties" = some (some (.ref OZ)))
  (M1_13:findIn K (.ref D1) "ties" = some (some (.ref OZ)))
  (M2_13:findIn K (.ref D2) "ties" = some (some (.ref OZ)))
  (I13:isFn K (.ref OZ)=true)
  (F13:jR K "ties" "Rule.ties" (bY 3) OZ)
  (M2_14:findIn K (.ref D2) "rank" = some (some (.ref SW)))
  (I14:isFn K (.ref SW)=true)
  (F14:jR K "rank" "ByRest.rank" (o7 2) SW)
  (M0_15:findIn K (.ref D0) "free" = some (some (.ref O0)))
  (M1_15:findIn K (.ref D1) "free" = some (some (.ref O0)))
  (M2_15:findIn K (.ref D2) "free" = some (some (.ref O0)))
  (I15:isFn K (.ref O0)=true)
  (F15:jR K "free" "Rule.free" (bY 5) O0)
  (A16:nsIn K mainGlobals "pushed_out" = some (some (.ref Wo)))
  (F16:jR K "pushed_out" "pushed_out" (top 4) Wo)
  (A17:nsIn K mainGlobals "way_in" = some (some (.ref Wq)))
  (F17:jR K "way_in" "way_in" (top 3) Wq)
  (A18:nsIn K mainGlobals "home_of" = some (some (.ref Wr)))
  (F18:jR K "home_of" "home_of" (top 6) Wr)
  (A19:nsIn K mainGlobals "put_in" = some (some (.ref Ws)))
  (F19:jR K "put_in" "put_in" (top 5) Ws)
  (A20:nsIn K mainGlobals "packed" = some (some (.ref Wt)))
  (F20:jR K "packed" "packed" (top 2) Wt)
  (A21:nsIn K mainGlobals "put_in_order" = some (some (.ref Wu)))
  (F21:jR K "put_in_order" "put_in_order" (top 8) Wu)
  (A22:nsIn K mainGlobals "own_net" = some (some (.ref Wv)))
  (F22:jR K "own_net" "own_net" (top 9) Wv)
  (A23:nsIn K mainGlobals "places_of" = some (some (.ref Ww)))
  (F23:jR K "places_of" "places_of" (top 10) Ww)
  (A24:findIn K (.ref D0) "__init__" = some (some (.ref SX))) (I24:isFn K (.ref SX)=true)
  (F24:jR K "__init__" "Rule.__init__" (bY 0) SX)
  (A25:findIn K (.ref D1) "__init__" = some (some (.ref SY))) (I25:isFn K (.ref SY)=true)
  (F25:jR K "__init__" "Rule.__init__" (bY 0) SY)
  (EF0_26:findCls K (.ref E0) (.type "type") "__init__" = some (.val (.ref S0)))
  (I26:isFn K (.ref S0)=true)
  (F26:jR K "__init__" "Rule.__init__" (bY 0) S0)
  (A27:findIn K (.ref D2) "__init__" = some (some (.ref S4))) (I27:isFn K (.ref S4)=true)
  (F27:jR K "__init__" "ByRest.__init__" (o7 0) S4)
  (A28:nsIn K mainGlobals "_law_rule" = some (some (.ref Wx)))
  (F28:jR K "_law_rule" "_law_rule" (top 26) Wx)
  (A29:nsIn K mainGlobals "_law_told_row" = some (some (.ref Wz)))
  (F29:jR K "_law_told_row" "_law_told_row" (top 28) Wz)
  (A30:nsIn K mainGlobals "law" = some (some (.ref WA)))
  (F30:jR K "law" "law" (top 30) WA)
  (Z:∀x∈bltNames,nsIn K mainGlobals x=some none)
  (V0:nsIn K mainGlobals "THOUGHT" = some (some (.int (-1) tk0))) :
  ∃fd:FuncData,(∀(s:Shared) (v:Value),BindsTo s fd ⟨[v],[]⟩ [("_law_script",v)])/\∀base:Heap,K.In base->base.Ns mainGlobals mg->fh l.prog w K mg base yy 62 fa fd ["_law_script"] (SM K):=by
 have e:=Qm.symm.trans (aav X G A30);cases e;obtain⟨cl,hcl⟩:∃cl:Nat->Addr,cl=λn=>if n=0 then D0 else if n=1 then D1 else if n=2 then D2 else if n=1008 then a8 else if n=1010 then OY else if n=1011 then SV else if n=1013 then OZ else if n=1014 then SW else if n=1015 then O0 else if n=1026 then S0 else 0:=⟨_,rfl⟩
 have T:Base K cl mg cons tb:=by
  subst hcl;refine⟨λx hx=>?_,λp hp=>?_,λc hc=>?_,λp hp=>?_,λp hp=>?_,λp hp=>?_⟩
  ·exact PySem.W.mg_none_of X G (Z x hx)
  ·simp only[cons,mem_cons,not_mem_nil,or_false]at hp
   rcases hp with rfl
   ·exact⟨.int (-1),_,aav X G V0,⟨_,rfl⟩,λ_ _ _=>VR.int⟩
  ·have hc:c<3:=hc
   match c,hc with
   |0,_=>
    refine⟨⟨DG0,DH0,DO0,DS0⟩,λx hx=>?_⟩;simp only[tb,mem_cons,not_mem_nil,or_false]at hx
    rcases hx with rfl|rfl|rfl|rfl
    ·exact DN0_0
    ·exact DN0_1
    ·exact DN0_2
    ·exact DN0_3
   |1,_=>
    refine⟨⟨DG1,DH1,DO1,DS1⟩,λx hx=>?_⟩;simp only[tb,mem_cons,not_mem_nil,or_false]at hx
    rcases hx with rfl|rfl|rfl|rfl
    ·exact DN1_0
    ·exact DN1_1
    ·exact DN1_2
    ·exact DN1_3
   |2,_=>
    refine⟨⟨DG2,DH2,DO2,DS2⟩,λx hx=>?_⟩;simp only[tb,mem_cons,not_mem_nil,or_false]at hx
    rcases hx with rfl|rfl|rfl|rfl
    ·exact DN2_0
    ·exact DN2_1
    ·exact DN2_2
    ·exact DN2_3
  ·simp only[tb,mem_cons,not_mem_nil,or_false]at hp
   rcases hp with rfl|rfl|rfl|rfl|rfl|rfl|rfl|rfl|rfl|rfl|rfl|rfl
   ·exact⟨M0_10,I10,F10.kp⟩
   ·exact⟨M1_10,I10,F10.kp⟩
   ·exact⟨M2_10,I10,F10.kp⟩
   ·exact⟨M0_13,I13,F13.kp⟩
   ·exact⟨M1_13,I13,F13.kp⟩
   ·exact⟨M2_13,I13,F13.kp⟩
   ·exact⟨M0_8,I8,F8.kp⟩
   ·exact⟨M1_11,I11,F11.kp⟩
   ·exact⟨M2_14,I14,F14.kp⟩
   ·exact⟨M0_15,I15,F15.kp⟩
   ·exact⟨M1_15,I15,F15.kp⟩
   ·exact⟨M2_15,I15,F15.kp⟩
  ·simp only[tb,mem_cons,not_mem_nil,or_false]at hp
   rcases hp with rfl
   ·exact⟨E0,aav X G EA0,⟨EG0,ER0,EF0_26,F26.kp⟩⟩
  ·simp[tb]at hp
 obtain⟨fd,F⟩:=F30;obtain⟨_,_,_,_,_,_,_,_,_,e,_⟩:=F.ex;refine⟨fd,λs v=>by rw[e];exact .of_eq rfl,λbase _ _=>?_⟩;have G0:bP l.prog w ⟨K,cl⟩ mg base 0 RW:=all_nil;have G1:bP l.prog w ⟨K,cl⟩ mg base 2 RX:=dM (x:="_law_cell") (N:=E9) (ps:=E9) (body:=iV) T G0 F0 (aav X G A0) c0 d0 (by decide) (by intro _ _ _ _ _ _ _ l;apply ln2 l;intros;rfl);have G2:bP l.prog w ⟨K,cl⟩ mg base 4 RY:=dM (x:="_law_number") (N:=Oa) (ps:=["_law_one","_law_two","_law_k"]) (body:=fV) T G1 F1 (aav X G A1) c1 d1 (by decide) (by intro _ _ _ _ _ _ _ l;apply QY l;intros;rfl);have G3:bP l.prog w ⟨K,cl⟩ mg base 6 RZ:=dM (x:="_law_net") (N:=Oc) (ps:=["_law_script","_law_cells"]) (body:=kj) T G2 F2 (aav X G A2) c2 d2 (by decide) (by intro _ _ _ _ _ _ _ l;apply ln2 l;intros;rfl);have G4:bP l.prog w ⟨K,cl⟩ mg base 8 R0:=dM (x:="_law_ends") (N:=Od) (ps:=["_law_net_here"]) (body:=iW) T G3 F3 (aav X G A3) c3 d3 (by decide) (by intro _ _ _ _ _ _ _ l;apply OU l;intros;rfl);have G5:bP l.prog w ⟨K,cl⟩ mg base 10 R3:=dM (x:="_law_row") (N:=Oe) (ps:=["_law_names","_law_cell_here"]) (body:=ko) T G4 F4 (aav X G A4) c4 d4 (by decide) (by intro _ _ _ _ _ _ _ l;apply ln2 l;intros;rfl);have G6:bP l.prog w ⟨K,cl⟩ mg base 12 R4:=dM (x:="_law_joined") (N:=Of) (ps:=["_law_ends_here","_law_row_here"]) (body:=fW) T G5 F5 (aav X G A5) c5 d5 (by decide) (by intro _ _ _ _ _ _ _ l;apply ln2 l;intros;rfl);have G7:bP l.prog w ⟨K,cl⟩ mg base 14 R5:=dM (x:="_law_rank") (N:=Og) (ps:=RT) (body:=fG) T G6 F6 (aav X G A6) c6 d6 (by decide) (by intro _ _ _ _ _ _ _ l;apply QY l;intros;rfl);have G8:bP l.prog w ⟨K,cl⟩ mg base 16 R6:=dM (x:="_law_free_row") (N:=Oh) (ps:=RU) (body:=cY) T G7 F7 (aav X G A7) c7 d7 (by decide) (by intro _ _ _ _ _ _ _ l;apply QY l;intros;rfl);have G9:bP l.prog w ⟨K,cl⟩ mg base 18 R7:=qV (y:="Rule.rank") (N:=eO) (ps:=eO) (body:=eV) T G8 F8 (by rw[hcl];rfl) c8 d8 (by intro _ _ _ _ _ _ _ l;apply ln2 l;intros;rfl);have YX:bP l.prog w ⟨K,cl⟩ mg base 20 Fq:=dM (x:="firsts_by") (N:=Fb) (ps:=["places","pairs"]) (body:=eW) T G9 F9 (aav X G A9) c9 d9 (by decide) (by intro _ _ _ _ _ _ _ l;apply ln2 l;intros;rfl);have YY:bP l.prog w ⟨K,cl⟩ mg base 22 Ft:=qV (y:="Rule.tree_rank") (N:=Fc) (ps:=eO) (body:=bU) T YX F10 (by rw[hcl];rfl) Yk OW (by intro _ _ _ _ _ _ _ l;apply ln2 l;intros;rfl);have YZ:bP l.prog w ⟨K,cl⟩ mg base 24 Fv:=qV (y:="ByTrees.rank") (N:=eO) (ps:=eO) (body:=cC) T YY F11 (by rw[hcl];rfl) Yl Ym (by intro _ _ _ _ _ _ _ l;apply ln2 l;intros;rfl);have Y0:bP l.prog w ⟨K,cl⟩ mg base 26 Fw:=dM (x:="names_of") (N:=["net"]) (ps:=["net"]) (body:=fX) T YZ F12 (aav X G A12) c12 Yn (by decide) (by intro _ _ _ _ _ _ _ l;apply OU l;intros;rfl);have Y3:bP l.prog w ⟨K,cl⟩ mg base 28 Fx:=qV (y:="Rule.ties") (N:=["self"]) (ps:=["self"]) (body:=eX) T Y0 F13 (by rw[hcl];rfl) Yo Yp (by intro _ _ _ _ _ _ _ l;apply OU l;intros;rfl);have Y4:bP l.prog w ⟨K,cl⟩ mg base 30 Fy:=qV (y:="ByRest.rank") (N:=Fd) (ps:=eO) (body:=cN) T Y3 F14 (by rw[hcl];rfl) Yq Yr (by intro _ _ _ _ _ _ _ l;apply ln2 l;intros;rfl);have Y5:bP l.prog w ⟨K,cl⟩ mg base 32 Fz:=qV (y:="Rule.free") (N:=eO) (ps:=eO) (body:=eY) T Y4 F15 (by rw[hcl];rfl) Ys Yt (by intro _ _ _ _ _ _ _ l;apply ln2 l;intros;rfl);have Y6:bP l.prog w ⟨K,cl⟩ mg base 34 FA:=dM (x:="pushed_out") (N:=Fe) (ps:=["rule","row","name"]) (body:=fQ) T Y5 F16 (aav X G A16) Yu Yv (by decide) (by intro _ _ _ _ _ _ _ l;apply QY l;intros;rfl);have Y7:bP l.prog w ⟨K,cl⟩ mg base 36 FD:=dM (x:="way_in") (N:=Ff) (ps:=["rule","names","rows"]) (body:=fH) T Y6 F17 (aav X G A17) U5 Yw (by decide) (by intro _ _ _ _ _ _ _ l;apply QY l;intros;rfl);have Y8:bP l.prog w ⟨K,cl⟩ mg base 38 Cv:=dM (x:="home_of") (N:=Fg) (ps:=["rows","name"]) (body:=fJ) T Y7 F18 (aav X G A18) U6 Yx (by decide) (by intro _ _ _ _ _ _ _ l;apply ln2 l;intros;rfl);have Y9:bP l.prog w ⟨K,cl⟩ mg base 40 FE:=dM (x:="put_in") (N:=Fi) (ps:=["rows","way"]) (body:=oE) T Y8 F19 (aav X G A19) Yy Yz (by decide) (by intro _ _ _ _ _ _ _ l;apply ln2 l;intros;rfl);have Za:bP l.prog w ⟨K,cl⟩ mg base 42 FF:=dM (x:="packed") (N:=Fj) (ps:=["rule","row"]) (body:=oF) T Y9 F20 (aav X G A20) YA YB (by decide) (by intro _ _ _ _ _ _ _ l;apply ln2 l;intros;rfl);have Zb:bP l.prog w ⟨K,cl⟩ mg base 44 FG:=dM (x:="put_in_order") (N:=Fo) (ps:=["poles","ties"]) (body:=cD) T Za F21 (aav X G A21) YC YD (by decide) (by intro _ _ _ _ _ _ _ l;apply ln2 l;intros;rfl);have Zc:bP l.prog w ⟨K,cl⟩ mg base 46 FH:=dM (x:="own_net") (N:=["net"]) (ps:=["net"]) (body:=gI) T Zb F22 (aav X G A22) YE YF (by decide) (by intro _ _ _ _ _ _ _ l;apply OU l;intros;rfl);have Zd:bP l.prog w ⟨K,cl⟩ mg base 48 FI:=dM (x:="places_of") (N:=Fp) (ps:=["net"]) (body:=eZ) T Zc F23 (aav X G A23) YG YH (by decide) (by intro _ _ _ _ _ _ _ l;apply OU l;intros;rfl);have Ze:bP l.prog w ⟨K,cl⟩ mg base 50 FL:=zB (x:="Rule") (N:=nh) (ps:=ki) (body:=vG) (n:=1) (f:=SX) (c:=0) T Zd F24 (by rw[hcl];exact aav X G DA0) (by rw[hcl];exact⟨DM0,A24,I24,DK0⟩) YI YJ rfl (by decide) (by intro _ _ _ _ _ _ _ l;apply ln2 l;intros;rfl);have Zf:bP l.prog w ⟨K,cl⟩ mg base 52 FN:=zB (x:="ByTrees") (N:=nh) (ps:=ki) (body:=lR) (n:=1) (f:=SY) (c:=1) T Ze F25 (by rw[hcl];exact aav X G DA1) (by rw[hcl];exact⟨DM1,A25,I25,DK1⟩) YK YL rfl (by decide) (by intro _ _ _ _ _ _ _ l;apply ln2 l;intros;rfl);have Zg:bP l.prog w ⟨K,cl⟩ mg base 54 FO:=qV (y:="Rule.__init__") (N:=nh) (ps:=ki) (body:=fK) T Zf F26 (by rw[hcl];rfl) YM YN (by intro _ _ _ _ _ _ _ l;apply ln2 l;intros;rfl);have Zh:bP l.prog w ⟨K,cl⟩ mg base 56 FP:=zB (x:="ByRest") (N:=ki) (ps:=ki) (body:=oG) (n:=1) (f:=S4) (c:=2) T Zg F27 (by rw[hcl];exact aav X G DA2) (by rw[hcl];exact⟨DM2,A27,I27,DK2⟩) YO YQ rfl (by decide) (by intro _ _ _ _ _ _ _ l;apply ln2 l;intros;rfl);have Zi:bP l.prog w ⟨K,cl⟩ mg base 58 FQ:=dM (x:="_law_rule") (N:=x6) (ps:=x6) (body:=fL) T Zh F28 (aav X G A28) YR YS (by decide) (by intro _ _ _ _ _ _ _ l;apply ln2 l;intros;rfl);have Zj:bP l.prog w ⟨K,cl⟩ mg base 60 JM:=dM (x:="_law_told_row") (N:=x8) (ps:=x8) (body:=cZ) T Zi F29 (aav X G A29) YT YU (by decide) (by intro _ _ _ _ _ _ _ l;apply OU l;intros;rfl);exact(AL T Zj F YV YW).imp (Ni hφ)
end
end K31
end
section
open PySem L2 Hv
set_option hygiene false
local macro_rules | `(tactic| simp only[EV,$ls,*] $[$l:location]?)=>`(tactic| simp only[fc,xF,isSome_some,Option.isSome_none,NY,NZ,N1,mW,Rq,Rt,Ru,Rv,Rw,vA,Rx,NU,NV,UI,Ry,Rz,bF,bu,Ku,bH,vj,gm,SN,Jk,Jj,jL,VM,Ky,bf,NS,b7,JC,NT,isVar,gU,List.getElem?_cons_zero,List.getElem?_cons_succ,set_cons_zero,set_cons_succ,map_cons,map_nil,length_cons,length_nil,List.cons_append,nil_append,List.replicate_succ,List.replicate_zero,Nat.reduceSub,Nat.reduceAdd,Nat.reduceLeDiff,RA,RB,UJ,UK,UL,UM,UN,UO,RC,RD,EM,RE,RG,RH,RI,RJ,RK,RL,NW,NX,RM,jb,bT,qW,UE,cX,jB,Hv.stored,List.contains_nil,List.contains_cons,List.elem_nil,List.elem_cons,Nat.reduceBEq,Nat.reduceEqDiff,BEq.rfl,all_cons,List.all_nil,beq_self_eq_true,uo,iN,qX,lu,mL,↓reduceIte,Bool.and_true,Bool.true_and,Bool.false_and,Bool.and_false,Bool.or_false,Bool.false_or,Bool.or_true,Bool.true_or,Bool.or_self,Nat.zero_le,Bool.not_true,Bool.not_false,false_eq_true,decide_eq_true_eq,not_eq_true',decide_eq_false_iff_not,List.append_nil,nil_append,reduceCtorEq,$ls,*] $[$l:location]?)
section
open PySem L2 Hv
namespace K31
def cellAt(ns:List Int)(k:Nat):Int:=ns.getD k 0
theorem kN(ns:List Int)(k:Nat):cE [.rl (ns.map .int),.int k]=.ok (true,.int (cellAt ns k)):=by
 unfold cE iV
 by_cases h:k<ns.length
 ·have e:jQ (List.map Val.int ns) (k:Int)=some (.int (ns[k])):=mj (by simp[h])
  have h':(k:Int)<ns.length:=by omega
  simp only[EV,rj e,length_map,h',cellAt,List.getD,List.getElem?_eq_getElem h,Option.getD_some]
 ·have h':¬ (k:Int)<ns.length:=by omega
  have e:ns[k]?=none:=by simp;omega
  simp only[EV,length_map,h',cellAt,List.getD,e,getD_none]
def gQ(one two k:Int):Int:=(if 0<one%3 then 1+one/3%10 ^ 56 else 1)*(((1+two%66)*k+one)%67)+(if 0<one%3 then two/66%10 ^ 58 else 0)
theorem CA(a b:Int)(h:0<=b/\b<67):jA a b=true:=by
 unfold jA;simp only[or_eq_true,and_eq_true,decide_eq_true_eq];right;omega
theorem zR(a b:Int)(h:0<=a/\a<67):jA a b=true:=by
 unfold jA;simp only[or_eq_true,and_eq_true,decide_eq_true_eq];left;omega
theorem Bp(one two k:Int):gJ [.int one,.int two,.int k]=.ok (true,.int (gQ one two k)):=by
 unfold gJ fV gQ;have m1:jA (1+two%66) k=true:=zR _ _ (by omega);have m2:∀x,jA x (((1+two%66)*k+one)%67)=true:=λx=>CA _ _ (by omega);simp only[EV,jE (show decide ((0:Int)<3)=true by decide),jE (show decide ((0:Int)<66)=true by decide),jE (show decide ((0:Int)<67)=true by decide),jq (show jf 3=true by decide),jq (show jf 66=true by decide),Kz (show decide ((0:Int)<=56/\(56:Int)<=1000000/\(10:Int).natAbs<2 ^ 64)=true by decide),Kz (show decide ((0:Int)<=58/\(58:Int)<=1000000/\(10:Int).natAbs<2 ^ 64)=true by decide),EL m1,EL (m2 _),jE (show decide ((0:Int)<10 ^ (56:Int).toNat)=true by decide),jE (show decide ((0:Int)<10 ^ (58:Int).toNat)=true by decide)]
 repeat' split
 all_goals first|rfl|contradiction
theorem JW(one two k:Int):0<=gQ one two k:=by
 unfold gQ;generalize ((1+two%66)*k+one)=z;have hs:∃st:Int,(if 0<one%3 then 1+one/3%10 ^ 56 else 1)=st/\1<=st:=by refine⟨_,rfl,?_⟩;split<;>omega
 have hf:∃sh:Int,(if 0<one%3 then two/66%10 ^ 58 else 0)=sh/\0<=sh:=by refine⟨_,rfl,?_⟩;split<;>omega
 obtain⟨st,e1,a1⟩:=hs;obtain⟨sh,e2,b1⟩:=hf;rw[e1,e2];have p1:0<=st*(z%67):=Int.mul_nonneg (by omega) (by omega);omega
theorem Gk(one two i j:Int)(hi:0<=i/\i<67)(hj:0<=j/\j<67)(e:gQ one two i=gQ one two j):i=j:=by
 unfold gQ at e;have hs:∃st:Int,(if 0<one%3 then 1+one/3%10 ^ 56 else 1)=st/\1<=st:=by refine⟨_,rfl,?_⟩;split<;>omega
 obtain⟨st,e1,a1⟩:=hs;rw[e1]at e;have e2:st*(((1+two%66)*i+one)%67)=st*(((1+two%66)*j+one)%67):=by omega
 have e3:=Int.eq_of_mul_eq_mul_left (by omega:st≠0) e2;exact JH (by omega) hi hj e3
theorem KN{n:Int}(h:inR n=true):jM .range [.int n]=some ((List.range n.toNat).map λ(i:Nat)=>Val.int (0+(i:Int))):=by
 show (if inR n=true then some (ck 0 n.toNat) else none)=_;rw[Z7 h];rfl
structure bA (p q:Int) (ts:List T3):Prop where
 ord:p<=q
 len:ts.length<=14
 up:GU ts
 ends:∀t∈ts,t.2.1<=t.2.2
 names:∀t∈ts,0<=t.1
theorem rX:∀(i:Nat) (ms:List Int) (pre post:List Val) (x:Val),cI i (ms.map .int)=pre++x::post->∃c:Int,x=.tup [.int ((i+pre.length:Nat):Int),.int c]
 |_,[],pre,post,x,h=>by simp[cI]at h
 | i,d::r,[],post,x,h=>by
  rw[aac,cI,nil_append]at h;injection h with h _
  exact⟨d,by rw[<-h];rfl⟩
 | i,d::r,y::pre,post,x,h=>by
  rw[aac,cI,acH]at h;injection h with _ h
  obtain⟨c,e⟩:=rX (i+1) r pre post x h;exact⟨c,by rw[e,aal];congr 4;omega⟩
structure zS (one two:Int) (ts:List T3):Prop where
 name:∀i (h:i<ts.length),(ts[i]).1=gQ one two i
 ends:∀t∈ts,t.2.1<=t.2.2
theorem zS.nodup{one two:Int}(h:zS one two ts)(hl:ts.length<=14):(ts.map (·.1)).Nodup:=by
 unfold List.Nodup;rw[abq];intro i j hi hj hij;rw[Z4]at hi hj;rw[abP,abP,h.name i hi,h.name j hj];intro e;have:=Gk one two i j (by omega) (by omega) e;omega
theorem Sa(a b:Int):∃x y,sortI [a,b]=[x,y]/\x<=y:=by
 have hl:(sortI [a,b]).length=2:=(aaI _).length_eq;have hs:=acp [a,b]
 match h:sortI [a,b],hl,hs with
 |[x,y],_,hs=>exact⟨x,y,rfl,by simpa using hs⟩
theorem yo(h:dD xs=some ys):gT .sorted [.rl xs]=.ok (true,.rl ys):=by
 show (pb (pl (dD xs)) (λys:List Val=>Pr.ok ((true,Val.rl ys):FV)):Pr FV)=_;rw[h];rfl
theorem Ot(ns ms:List Int)(hm:ms.length<=14):∃p q ts,nq [.rl (ns.map .int),.rl (ms.map .int)]=.ok (true,dW p q ts)/\bA p q ts/\ts.length=ms.length:=by
 have c0:cE [.rl (ns.map .int),.int 0]=.ok (true,.int (cellAt ns 0)):=kN ns 0;have c1:cE [.rl (ns.map .int),.int 1]=.ok (true,.int (cellAt ns 1)):=kN ns 1;have c2:cE [.rl (ns.map .int),.int 2]=.ok (true,.int (cellAt ns 2)):=kN ns 2;unfold nq kj;generalize cellAt ns 0=one at *;generalize cellAt ns 1=two at *;generalize cellAt ns 2=pick at *;have WB:2<=2+pick%7/\2+pick%7<=8:=by omega
 simp only[EV,pL,c0,c1,c2,jE (show decide ((0:Int)<7)=true by decide)];generalize WC:2+pick%7=many at *;have hR:inR many=true:=by unfold inR;simp only[and_eq_true,decide_eq_true_eq];omega
 have hc:many.toNat<=100000:=by omega
 simp only[EV,KN hR,iM,length_map,List.length_range,hc];rw[gH (λi:Nat=>Val.int (0+(i:Int))) (λi:Nat=>.int (gQ two one (0+(i:Int)))) (List.range many.toNat) (λi hi=>by
  simp only[EV,aW,ic,Bp])]
 have hpl:∀i:Int,0<=i->i<many->jQ ((List.range many.toNat).map λi:Nat=>Val.int (gQ two one (0+(i:Int)))) i=some (.int (gQ two one i)):=λi h0 h1=>by
  obtain⟨k,rfl⟩:=aa5 h0;refine mj ?_;rw[aas,List.getElem?_range (by omega)];simp
 generalize ZW:((List.range many.toNat).map λi:Nat=>Val.int (gQ two one (0+(i:Int))))=Pl at *;simp only[EV,RP]
 repeat rw[ly]
 have hx:cI 0 (ms.map Val.int)=(cI 0 (ms.map Val.int)).map id:=(map_id _).symm;rw[hx];have hmp:decide (0<many)=true:=by rw[abL];omega
 have Zk:jf many=true:=by unfold jf;rw[abL];omega
 have z3:3<=sizeLine:=by decide
 have z2:2<=sizeLine:=by decide
 refine bR id (λr:Pr FV=>∃p q ts,r=.ok (true,dW p q ts)/\bA p q ts/\ts.length=ms.length)
  (λdone env=>∃(ts:List T3) (m6:Mk) (a b c d:Option (Mk×Val)),env=[some (.sh,.rl (ns.map .int)),some (.sh,.rl (ms.map .int)),some (.sh,.int one),some (.sh,.int two),some (.sh,.int pick),some (.sh,.int many),some (m6,.rl Pl),some (.ow,.rl (ts.map eN)),a,b,c,d,none]/\oq m6=true/\ts.length=done.length/\zS one two ts)
  ⟨[],_,none,none,none,none,rfl,by first|rfl|exact mW,rfl,⟨λi h=>by simp at h,λ_ h=>by simp at h⟩⟩ ?_ ?_
 ·rintro pre x post env hx ⟨ts,m6,a,b,c,d,rfl,h6,hl,ok⟩
  have Zl:pre.length<14:=by have:=aaS length hx;rw[kL,Z4,aak,aal]at this;omega
  obtain⟨cell,rfl⟩:=rX _ _ _ _ _ hx;rw[Nat.zero_add];have i1:=hpl (cell%many) (Int.emod_nonneg _ (by omega)) (Int.emod_lt_of_pos _ (by omega));have i2:=hpl (cell/many%many) (Int.emod_nonneg _ (by omega)) (Int.emod_lt_of_pos _ (by omega));generalize gQ two one (cell%many)=n1 at *;generalize gQ two one (cell/many%many)=n2 at *;have e3:=Bp one two (pre.length:Int);have z:ts.length<sizeLine:=by rw[hl];unfold sizeLine;omega
  have tt:Val.tup [.int (gQ one two (pre.length:Int)),.int (if n2<n1 then n2 else n1),.int (if n2>n1 then n2 else n1)]=eN (turnT (gQ one two (pre.length:Int),n1,n2)):=rfl;refine⟨_,?_,ts++[turnT (gQ one two (pre.length:Int),n1,n2)],m6,some (.sh,.int pre.length),some (.sh,.int cell),some (.sh,.int n1),some (.sh,.int n2),rfl,h6,by simp[hl],⟨λi hi=>?_,λt ht=>?_⟩⟩
  ·simp only[EV,id,N2,h6,jE hmp,jq Zk,rj i1,rj i2,ic,e3,z3,tt,length_map,z,map_append]
  ·rw[List.getElem_append]
   split
   ·exact ok.name i (by assumption)
   ·simp only[List.length_append,length_cons,length_nil]at hi
    have:i=pre.length:=by omega
    subst this;simp[hl,turnT]
  ·rcases aaF.mp ht with ht|ht
   ·exact ok.ends t ht
   ·rw[aai]at ht;subst ht;unfold turnT;dsimp only;split<;>split<;>omega
 ·rintro env ⟨ts,m6,a,b,c,d,rfl,h6,hl,ok⟩
  have Sb:ts.length<=14:=by rw[hl,kL,Z4];exact hm
  have j0:=hpl 0 (by omega) (by omega);have j1:jQ Pl (1-(if pick/7%8=3 then 1 else 0))=some (.int (gQ two one (1-(if pick/7%8=3 then 1 else 0)))):=hpl _ (by split<;>omega) (by split<;>omega);obtain⟨x,y,es,hxy⟩:=Sa (gQ two one 0) (gQ two one (1-(if pick/7%8=3 then 1 else 0)));generalize gQ two one (1-(if pick/7%8=3 then 1 else 0))=n1 at *;have UU:gT .sorted [.rl [.int (gQ two one 0),.int n1]]=.ok (true,.rl [.int x,.int y]):=by refine yo ?_;show (if 2<64 then some ((sortI [gQ two one 0,n1]).map Val.int) else none)=_;rw[Z7 (by decide),es];rfl
  have eI:∀b:Bool,gT .int [.bl b]=.ok (true,.int (if b=true then 1 else 0)):=λ_=>rfl;have dI:(if decide (pick/7%8=3)=true then (1:Int) else 0)=if pick/7%8=3 then 1 else 0:=by
   by_cases c:pick/7%8=3<;>simp[c]
  refine⟨x,y,jF ts,?_,⟨hxy,?_,?_,?_,?_⟩,?_⟩
  ·simp only[EV,h6,rj j0,jq (show jf 7=true by decide),jE (show decide ((0:Int)<8)=true by decide),eI,dI,rj j1,z2,UU,rj pK,rj rm,xP (show ts.length<64 by omega)];rfl
  ·rw[(fE ts).length_eq];exact Sb
  ·exact xQ ts (ok.nodup Sb)
  ·exact λt ht=>ok.ends t ((fE ts).mem_iff.mp ht)
  ·intro t ht;obtain⟨i,hi,rfl⟩:=abS ((fE ts).mem_iff.mp ht);rw[ok.name i hi];exact JW _ _ _
  ·rw[(fE ts).length_eq,hl,kL,Z4]
end K31
end
section
open PySem L2 Hv
namespace K31
def jJ(p q:Int)(ts:List T3):List Int:=p::q::ts.flatMap λt=>[t.2.1,t.2.2]
def oN(p q:Int)(ts:List T3):List Int:=cR (jJ p q ts)
theorem oO(p q:Int)(ts:List T3):(jJ p q ts).length=2+2*ts.length:=by
 unfold jJ
 induction ts with
 |nil=>rfl
 |cons t r ih=>simp only[List.flatMap_cons,length_cons,List.length_append,length_nil] at *;omega
theorem yq:∀(ns ks:List Int),(dS ks ns).length<=ks.length+ns.length
 |[],ks=>aaa _
 | k::r,ks=>by
  rw[dS,aal];have:=yq r (eF ks k);have:=qA ks k;omega
theorem JX{p q:Int}(h:ts.length<=14):(oN p q ts).length<64:=by
 unfold oN cR;rw[(aaI _).length_eq];have:=yq (jJ p q ts) [];rw[oO]at this;simp only[length_nil]at this;omega
theorem pY{p q x:Int}:x∈oN p q ts↔x=p\/x=q\/∃t∈ts,x=t.2.1\/x=t.2.2:=by
 unfold oN;rw[ES];unfold jJ;simp only[mem_cons,List.mem_flatMap,not_mem_nil,or_false]
theorem places_eq{p q:Int}(h:ts.length<=14):bV [dW p q ts]=.ok (true,.rl ((oN p q ts).map .int)):=by
 unfold bV eZ dW;simp only[EV,cM pK,cM rm,fU];rw[ly];refine bR eN (λr:Pr FV=>r=.ok (true,.rl ((oN p q ts).map .int)))
  (λdone env=>∃a,env=[some (.sh,dW p q ts),some (.ow,.rl ((jJ p q done).map .int)),a])
  ⟨none,rfl⟩ ?_ ?_
 ·rintro pre t post env hx ⟨a,rfl⟩
  refine⟨[some (.sh,dW p q ts),some (.ow,.rl ((jJ p q (pre++[t])).map .int)),some (.sh,eN t)],?_,_,rfl⟩;have hpl:pre.length<14:=by have:=aaS length hx;rw[aak,aal]at this;omega
  have z:((jJ p q pre).map Val.int).length+2<=sizeLine:=by rw[Z4,oO];unfold sizeLine;omega
  have ea:(jJ p q (pre++[t])).map Val.int=(jJ p q pre).map Val.int++[.int t.2.1,.int t.2.2]:=by unfold jJ;simp
  simp only[EV,aW,N3,z,ea]
 ·rintro env ⟨a,rfl⟩
  have hl:(jJ p q ts).length<64:=by rw[oO];omega
  simp only[EV,ints_map,hl];rfl
end K31
end
section
open PySem L2 Hv
namespace K31
def nJ(e:Int×Int):Val:=.tup [.int e.1,.int e.2]
theorem JY{i j:Nat}:ff (.tup [i,j]) (nJ e) env=some ((env.set i (some (.sh,.int e.1))).set j (some (.sh,.int e.2))):=rfl
theorem CB(ps:List Int)(hn:ps.Nodup)(hl:ps.length<64)(es:List (Int×Int))(he:∀e∈es,e.1∈ps/\e.2∈ps):∃f φ,dP [.rl (ps.map .int),.rl (es.map nJ)]=.ok (f,kT ps λx=>.int (φ x))/\jS ps es φ:=by
 unfold dP eW;simp only[EV,fU];rw[ly];have hz:∀pre:List Int,pre.length<=ps.length->(pre.map (Sum.inl:Int->Key)).length<sizeLine:=λpre h=>by rw[Z4];unfold sizeLine;omega
 refine bR Val.int (λr:Pr FV=>∃f φ,r=.ok (f,kT ps λx=>.int (φ x))/\jS ps es φ)
  (λdone env=>∃a,env=[some (.sh,.rl (ps.map .int)),some (.sh,.rl (es.map nJ)),some (.ow,kT done λx=>.int x),a,none,none,none,none])
  ⟨none,rfl⟩ ?_ ?_
 ·rintro pre x post env hx ⟨a,rfl⟩
  have U7:x∉pre:=by rw[hx,aaA]at hn;exact λh=>hn.2.2 x h x (by simp) rfl
  refine⟨[some (.sh,.rl (ps.map .int)),some (.sh,.rl (es.map nJ)),some (.ow,kT (pre++[x]) λx=>.int x),some (.sh,.int x),none,none,none,none],?_,_,rfl⟩;simp only[EV,aW,o6,hz pre (by rw[hx];simp),pW U7];rw[cy (g':=λx=>Val.int x)];intro y _;unfold mX
  split
  ·rename_i e;rw[e]
  ·rfl
 ·rintro env ⟨a,rfl⟩
  simp only[EV,fU];rw[ly];refine bR nJ (λr:Pr FV=>∃f φ,r=.ok (f,kT ps λx=>.int (φ x))/\jS ps es φ)
   (λdone env=>∃(φ:Int->Int) (a b c d e:Option (Mk×Val)),env=[some (.sh,.rl (ps.map .int)),some (.sh,.rl (es.map nJ)),some (.ow,kT ps λx=>.int (φ x)),a,b,c,d,e]/\jS ps done φ)
   ⟨id,_,_,_,_,_,rfl,jS.start ps⟩ ?_ ?_
  ·rintro pre e post env hx ⟨φ,a,b,c,d,f,rfl,JJ⟩
   obtain⟨h1,h2⟩:=he e (by rw[hx];simp);simp only[EV,JY,lP h1,lP h2,fU];have hk:∃kept gone:Int,(if φ e.2 < φ e.1 then φ e.2 else φ e.1)=kept/\(if φ e.2 > φ e.1 then φ e.2 else φ e.1)=gone/\((kept = φ e.1/\gone = φ e.2)\/(kept = φ e.2/\gone = φ e.1)):=by
    refine⟨_,_,rfl,rfl,?_⟩
    split<;>split<;>omega
   obtain⟨kept,gone,ek,eg,hk⟩:=hk;rw[ek,eg];refine bR Val.int (λr:Pr Cp=>∃env',r=.ok (.nx env')/\∃(φ:Int->Int) (a b c d f:Option (Mk×Val)),env'=[some (.sh,.rl (ps.map .int)),some (.sh,.rl (es.map nJ)),some (.ow,kT ps λx=>.int (φ x)),a,b,c,d,f]/\jS ps (pre++[e]) φ)
    (λdone env=>∃a,env=[some (.sh,.rl (ps.map .int)),some (.sh,.rl (es.map nJ)),some (.ow,kT ps λx=>.int (if x∈done /\ φ x=gone then kept else φ x)),a,some (.sh,.int e.1),some (.sh,.int e.2),some (.sh,.int kept),some (.sh,.int gone)])
    ⟨a,by simp⟩ ?_ ?_
   ·rintro done x post env hy ⟨a,rfl⟩
    have U7:x∉done:=by rw[hy,aaA]at hn;exact λh=>hn.2.2 x h x (by simp) rfl
    have hxs:x∈ps:=by rw[hy];simp
    refine⟨_,?_,some (.sh,.int x),rfl⟩;simp only[EV,aW,lP hxs,o6,hz ps (Nat.le_refl _),vC hxs,U7,false_and,if_false]
    by_cases hg:φ x=gone
    ·simp only[hg,↓reduceIte]
     rw[cy];intro y _;unfold mX
     by_cases e:y=x
     ·subst e;simp[hg]
     ·simp[e]
    ·simp only[hg,↓reduceIte]
     rw[cy];intro y _
     by_cases e:y=x
     ·subst e;simp[hg]
     ·simp[e]
   ·rintro env ⟨a,rfl⟩;refine⟨_,rfl,(λx=>if φ x=gone then kept else φ x),a,some (.sh,.int e.1),some (.sh,.int e.2),some (.sh,.int kept),some (.sh,.int gone),?_,JJ.step h1 h2 kept gone hk⟩;rw[cy];intro y hy;simp[hy]
  ·rintro env ⟨φ,a,b,c,d,e,rfl,JJ⟩;simp only[EV,bf];exact⟨_,φ,rfl,JJ⟩
end K31
end
section
open PySem L2 Hv
namespace K31
theorem order_eq{p q:Int}{us:List T3}(hl:us.length<=16):cQ [.tup [.int p,.int q],.rl (us.map eN)]=.ok (true,dW (if q<p then q else p) (if q>p then q else p) (jF (us.map turnT))):=by
 unfold cQ cD;have z0:0<=sizeLine:=by decide
 have z2:2<=sizeLine:=by decide
 have z3:3<=sizeLine:=by decide
 simp only[EV,fU];rw[ly];refine bR eN (λr:Pr FV=>r=.ok (true,dW (if q<p then q else p) (if q>p then q else p) (jF (us.map turnT))))
  (λdone env=>∃a b c,env=[some (.sh,.tup [.int p,.int q]),some (.sh,.rl (us.map eN)),some (.ow,.rl ((done.map turnT).map eN)),a,b,c])
  ⟨none,none,none,rfl⟩ ?_ ?_
 ·rintro pre t post env hx ⟨a,b,c,rfl⟩
  have hpl:pre.length<16:=by have:=aaS length hx;rw[aak,aal]at this;omega
  have z:((pre.map turnT).map eN).length<sizeLine:=by rw[Z4,Z4];unfold sizeLine;omega
  refine⟨[some (.sh,.tup [.int p,.int q]),some (.sh,.rl (us.map eN)),some (.ow,.rl (((pre++[t]).map turnT).map eN)),some (.sh,.int t.1),some (.sh,.int t.2.1),some (.sh,.int t.2.2)],?_,_,_,_,rfl⟩;have ea:((pre++[t]).map turnT).map eN=(pre.map turnT).map eN++[eN (turnT t)]:=by simp
  simp only[EV,JF,z3,z,ea];rfl
 ·rintro env ⟨a,b,c,rfl⟩;simp only[EV,cM pK,cM rm,z2,xP (show (us.map turnT).length<64 by rw[length_map];omega)];rfl
theorem CC{p q:Int}(hl:us.length<=16):cH [dW p q us]=.ok (true,dW (if q<p then q else p) (if q>p then q else p) (jF (us.map turnT))):=by
 have e:=order_eq (p:=p) (q:=q) hl;unfold cH gI;unfold dW at e |-;simp only[EV,iY,cM pK,cM rm,e]
end K31
end
section
open PySem L2 Hv
namespace K31
def nameV(t:T3):Val:=.int t.1
theorem JZ(h:t.2.1<=t.2.2):turnT t=t:=by
 obtain⟨a,b,c⟩:=t;unfold turnT;dsimp only at h |-;rw[Prod.mk.injEq,Prod.mk.injEq];refine⟨rfl,?_,?_⟩<;>split<;>omega
theorem J0:∀{l:List T3},(∀y∈l,x.1<y.1)->rF x l=x::l
 |[],_=>rfl
 | y::r,h=>by
  rw[rF];have lx:HT.lexLt (l3 y) (l3 x)=decide (y.1<x.1):=by show HT.lexLt (y.1::_) (x.1::_)=_;have:=h y Z9;rw[HT.fj,Z8 (by omega)]
  have:=h y Z9;rw[lx,Z8 (by simp;omega)]
theorem yr:∀{l:List T3},GU l->jF l=l
 |[],_=>rfl
 | x::r,h=>by
  unfold GU at h;rw[aaN]at h;rw[jF,yr h.2,J0 h.1]
theorem Ou{p q:Int}(ok:bA p q ts):cH [dW p q ts]=.ok (true,dW p q ts):=by
 have e:=CC (p:=p) (q:=q) (us:=ts) (aay ok.len (by decide));have em:ts.map turnT=ts:=by rw[aba λt ht=>JZ (ok.ends t ht)];exact map_id _
 have ep:(if q<p then q else p)=p:=by have:=ok.ord;split<;>omega
 have eq:(if q>p then q else p)=q:=by have:=ok.ord;split<;>omega
 rw[em,yr ok.up,ep,eq]at e;exact e
theorem Gm:∀ts:List T3,cz GV (ts.map eN)=some ts
 |[]=>rfl
 |t::r=>by rw[aac,cz,show GV (eN t)=some t from rfl,aci,Gm r];rfl
def lA(c:Nat)(p q:Int)(ts:List T3):Val:=.ob c ["net","places","ends"] [dW p q ts,.rl ((oN p q ts).map .int),.dc ((bO p q ts).map (·.1)) ((bO p q ts).map (·.2))]
def iZ(c:Nat)(p q:Int)(ts:List T3)(w:Int):Val:=.ob c ["net","places","ends","whole"] [dW p q ts,.rl ((oN p q ts).map .int),.dc ((bO p q ts).map (·.1)) ((bO p q ts).map (·.2)),.int w]
theorem rY{c jo jp:Nat}{p q:Int}(h1:Ψ jo=cH)(h2:Ψ jp=bV)(ok:bA p q ts):kg Ψ c jo jp [dW p q ts]=.ok (true,lA c p q ts):=by
 have e1:=Ou ok;have e2:=places_eq (p:=p) (q:=q) ok.len;unfold kg;dsimp only;rw[h1,e1];unfold dW at e2 |-;dsimp only;rw[Gm,b7,bf,h2];unfold pg;rw[Z7 (decide_eq_true (by have:=ok.len;omega)),e2];rfl
def nms(ts:List T3):List Int:=-1::ts.map (·.1)
theorem oQ(h:a.length+b.length<=sizeLine):j5 .add (.rl a) (.rl b)=.ok (bT (a++b),.rl (a++b)):=by
 show pg _ _=_;unfold pg;rw[Z7 (decide_eq_true h)]
theorem Gn{c:Nat}{p q:Int}{ts:List T3}{m:Str}{js:List (Nat×Nat)}{j:Nat}(hj:js.lookup c=some j)(h:m ≠ "net" /\ m ≠ "places" /\ m ≠ "ends" /\ m ≠ "whole"):kP [] (lA c p q ts) m js=some j:=by
 unfold lA kP;dsimp only;have e:∀vs:List Val,vs.length=3->((["net","places","ends"]:List Str).zip vs).lookup m=none:=λvs hv=>by
  match vs,hv with
  |[a,b,c],_=>rw[aaW,aaB,abu h.1,aaW,aaB,abu h.2.1,aaW,aaB,abu h.2.2.1];rfl
 rw[e _ rfl];exact hj
theorem rZ{c:Nat}{p q w:Int}{ts:List T3}{m:Str}{js:List (Nat×Nat)}{j:Nat}(hj:js.lookup c=some j)(h:m ≠ "net" /\ m ≠ "places" /\ m ≠ "ends" /\ m ≠ "whole"):kP [] (iZ c p q ts w) m js=some j:=by
 unfold iZ kP;dsimp only;have e:∀vs:List Val,vs.length=4->((["net","places","ends","whole"]:List Str).zip vs).lookup m=none:=λvs hv=>by
  match vs,hv with
  |[a,b,c,d],_=>rw[aaW,aaB,abu h.1,aaW,aaB,abu h.2.1,aaW,aaB,abu h.2.2.1,aaW,aaB,abu h.2.2.2];rfl
 rw[e _ rfl];exact hj
theorem CD{c:Nat}(hc:c<3){p q w:Int}:iw 3 [] (iZ c p q ts w) "whole" = some (.int w):=by
 unfold iZ iw;dsimp only;rw[Z7 hc];rfl
theorem r6(l:List Int):bT (l.map Val.int)=true:=aS l
theorem Gp{p q:Int}(ok:bA p q ts):sortI (nms ts)=nms ts:=by
 refine(abn (abp _) ?_).symm;unfold nms;rw[aaN];refine⟨λx hx=>?_,?_⟩
 ·obtain⟨t,ht,rfl⟩:=aaK.mp hx;have:=ok.names t ht;omega
 ·rw[abx];have:=ok.up;unfold GU at this;exact this.imp λh=>by omega
theorem uF{p q:Int}(ok:bA p q ts):(nms ts).Nodup:=by
 unfold nms;rw[aaC];refine⟨λh=>?_,?_⟩
 ·obtain⟨t,ht,e⟩:=aaK.mp h;have:=ok.names t ht;omega
 ·have:=ok.up;unfold GU at this;rw[List.Nodup,abx];exact this.imp λh=>by omega
theorem Zm(t:Int):gT (.isin "int") [.int t]=.ok (true,.bl true):=oz (t:="int") rfl (by decide)
theorem U8(t:Int):gT (.isin "bool") [.int t]=.ok (true,.bl false):=zH (t:="int") rfl (by decide)
theorem vN(l:List Int):cop [] .ne (.rl (l.map .int)) (.rl (l.map .int))=some false:=by
 refine ne_self (EN Val.int PyData.int l λ_ _=>rfl) ?_;rw[PyData.canLay0];exact rA _ _ λt _=>by rw[PyData.canLay0]
def r8:List Int->Int->List Int
 |[],_=>[]
 |x::r,c=>if c%2=1 then x::r8 r (c/2) else r8 r (c/2)
theorem r9:∀(ns:List Int) (c:Int),(r8 ns c).Sublist ns
 |[],_=>.slnil
 | x::r,c=>by
  rw[r8]
  split
  ·exact(r9 r _).cons_cons x
  ·exact(r9 r _).cons x
theorem Ov(ns:List Int)(c:Int)(h:ns.length<64):nu [.rl (ns.map .int),.int c]=.ok (true,.rl ((r8 ns c).map .int)):=by
 unfold nu ko;simp only[EV,fU,show 0<=sizeLine by decide]
 repeat rw[ly]
 refine bR Val.int (λr:Pr FV=>r=.ok (true,.rl ((r8 ns c).map .int)))
  (λdone env=>∃(l:List Int) (c':Int) (a:Option (Mk×Val)),env=[some (.sh,.rl (ns.map .int)),some (.sh,.int c'),some (.ow,.rl (l.map .int)),a]/\r8 ns c=l++r8 (ns.drop done.length) c'/\l.length<=done.length)
  ⟨[],c,none,rfl,rfl,aaa _⟩ ?_ ?_
 ·rintro pre x post env hx ⟨l,c',a,rfl,hl,hle⟩
  have hd:ns.drop pre.length=x::post:=by rw[hx];simp
  have hd2:ns.drop (pre++[x]).length=post:=by rw[hx];simp
  have hpl:pre.length<64:=by have:=aaS length hx;rw[aak,aal]at this;omega
  have z:(l.map Val.int).length<sizeLine:=by rw[Z4];unfold sizeLine;omega
  rw[hd,r8]at hl;simp only[EV,aW,jE (show decide ((0:Int)<2)=true by decide),jq (show jf 2=true by decide)]
  by_cases e:c'%2=1
  ·rw[Z7 e]at hl;refine⟨_,?_,l++[x],c'/2,some (.sh,.int x),rfl,by rw[hd2,hl];simp,by simp;omega⟩;simp only[EV,e,decide_true,z,map_append,jq (show jf 2=true by decide)]
  ·rw[Z8 e]at hl;refine⟨_,?_,l,c'/2,some (.sh,.int x),rfl,by rw[hd2,hl],by simp;omega⟩;simp only[EV,e,decide_false,jq (show jf 2=true by decide)]
 ·rintro env ⟨l,c',a,rfl,hl,hle⟩;rw[List.drop_length,r8,aa2]at hl;simp only[EV,hl,r6]
def bE(p q:Int)(ts:List T3)(x:Int):Int×Int:=match ts.find? (λt=>decide (t.1=x)) with
 |some t=>(t.2.1,t.2.2)
 |none=>(p,q)
theorem Gq:∀{ts:List T3},(ts.map (·.1)).Nodup->t∈ts->ts.find? (λu=>decide (u.1=t.1))=some t
 | u::r,hn,ht=>by
  rw[aac,aaC]at hn;rw[abX]
  by_cases e:u.1=t.1
  ·rw[decide_eq_true e]
   rcases aao.mp ht with rfl|ht
   ·rfl
   ·exact absurd (e▸aaQ (f:=(·.1)) ht) hn.1
  ·rw[decide_eq_false e]
   rcases aao.mp ht with rfl|ht
   ·exact absurd rfl e
   ·exact Gq hn.2 ht
theorem sd{p q:Int}(ok:bA p q ts):(ts.map (·.1)).Nodup:=(aaC.mp (uF ok)).2
theorem zT{p q:Int}(ok:bA p q ts)(ht:t∈ts):bE p q ts t.1=(t.2.1,t.2.2):=by
 unfold bE;rw[Gq (sd ok) ht]
theorem zU{p q:Int}(ok:bA p q ts):bE p q ts (-1)=(p,q):=by
 unfold bE;rw[List.find?_eq_none.mpr λt ht=>by have:=ok.names t ht;simp;omega]
theorem pZ{p q:Int}(ok:bA p q ts){x:Int}(hx:x∈nms ts):(bE p q ts x).1∈oN p q ts/\(bE p q ts x).2∈oN p q ts:=by
 unfold nms at hx
 rcases aao.mp hx with rfl|hx
 ·rw[zU ok];exact⟨pY.mpr (.inl rfl),pY.mpr (.inr (.inl rfl))⟩
 ·obtain⟨t,ht,rfl⟩:=aaK.mp hx;rw[zT ok ht];exact⟨pY.mpr (.inr (.inr ⟨t,ht,.inl rfl⟩)),pY.mpr (.inr (.inr ⟨t,ht,.inr rfl⟩))⟩
theorem Bq(g:Int->Val):∀(us:List T3) (ks:List Int),(∀u∈us,u.1∉ks)->(us.map (·.1)).Nodup->(∀u∈us,g u.1=.tup [.int u.2.1,.int u.2.2]) ->
  us.foldl iT (ks.map λx=>((Sum.inl x:Key),g x))=(ks++us.map (·.1)).map λx=>((Sum.inl x:Key),g x)
 |[],ks,_,_,_=>by simp
 | u::r,ks,h1,h2,h3=>by
  rw[aac,aaC]at h2;have e:iT (ks.map λx=>((Sum.inl x:Key),g x)) u=(ks++[u.1]).map λx=>((Sum.inl x:Key),g x):=by unfold iT gR;rw[zL,Z8 (by simpa using h1 u Z9),aaY,aac,abh,h3 u Z9]
  rw[List.foldl_cons,e,Bq g r (ks++[u.1]) (λv hv z=>?_) h2.2 λv hv=>h3 v (aab _ hv)]
  ·simp
  ·rcases aaF.mp z with z|z
   ·exact h1 v (aab _ hv) z
   ·rw[aai]at z;exact h2.1 (z▸aaQ (f:=(·.1)) hv)
def jy(p q:Int)(ts:List T3)(x:Int):Val:=nJ (bE p q ts x)
def ja(p q:Int)(ts:List T3):Val:=kT (nms ts) (jy p q ts)
theorem Br{p q:Int}(ok:bA p q ts):Val.dc ((bO p q ts).map (·.1)) ((bO p q ts).map (·.2))=ja p q ts:=by
 have e:bO p q ts=(nms ts).map λx=>((Sum.inl x:Key),jy p q ts x):=by
  have h:=Bq (jy p q ts) ts [-1] (λu hu z=>by
   rw[aai]at z;have:=ok.names u hu;omega) (sd ok) λu hu=>by unfold jy;rw[zT ok hu];rfl
  unfold bO nms;rw[aac,abh]at h;have e1:jy p q ts (-1)=.tup [.int p,.int q]:=by unfold jy;rw[zU ok];rfl
  rw[e1]at h;exact h
 rw[e,aaE,aaE];rfl
structure Gs (o:Val) (p q:Int) (ts:List T3):Prop where
 net:iw 3 [] o "net" = some (dW p q ts)
 places:iw 3 [] o "places" = some (.rl ((oN p q ts).map .int))
 ends:iw 3 [] o "ends" = some (ja p q ts)
theorem vO{c:Nat}(hc:c<3){p q:Int}(ok:bA p q ts):Gs (lA c p q ts) p q ts:=by
 refine⟨?_,?_,?_⟩
 ·unfold lA iw;dsimp only;rw[Z7 hc];rfl
 ·unfold lA iw;dsimp only;rw[Z7 hc];rfl
 ·rw[<-Br ok];unfold lA iw;dsimp only;rw[Z7 hc];rfl
theorem vP{c:Nat}(hc:c<3){p q w:Int}(ok:bA p q ts):Gs (iZ c p q ts w) p q ts:=by
 refine⟨?_,?_,?_⟩
 ·unfold iZ iw;dsimp only;rw[Z7 hc];rfl
 ·unfold iZ iw;dsimp only;rw[Z7 hc];rfl
 ·rw[<-Br ok];unfold iZ iw;dsimp only;rw[Z7 hc];rfl
theorem Gu{p q:Int}(h:ts.length<=14):gK [dW p q ts]=.ok (true,.rl (ts.map nameV)):=by
 unfold gK fX dW;have hc:ts.length<=100000:=by omega
 simp only[EV,cM rm,fU,iM,length_map,hc];rw[gH eN nameV ts (λt ht=>by
  have i0:lK [] (eN t) (.int 0)=some (.int t.1):=rfl;simp only[EV,aW,i0,nameV])]
 simp only[EV,bf]
theorem Bs{p q:Int}(ro:Gs o p q ts)(h:ts.length<=14):cP [o]=.ok (true,.rl ((nms ts).map .int)):=by
 have e1:=Gu (p:=p) (q:=q) h;unfold cP eX;have z1:1<=sizeLine:=by decide
 have z:([.int (-1)]:List Val).length+(ts.map nameV).length<=sizeLine:=by rw[Z4];simp;unfold sizeLine;omega
 simp only[EV,ro.net,jO,e1,z1,oQ z];have em:[Val.int (-1)]++ts.map nameV=(nms ts).map .int:=by unfold nms;rw[aac,aaE];rfl
 have en:bT (ts.map nameV)=true:=by rw[show ts.map nameV=(ts.map (·.1)).map Val.int by rw[aaE];rfl];exact r6 _
 rw[show Val.int (-1)::ts.map nameV=(nms ts).map .int from em,en]
theorem se(p q:Int)(ts:List T3)(x:Int):jb (jy p q ts x)=true:=rfl
theorem Gv{p q:Int}{x:Int}:lK [] (jy p q ts x) (.int 0)=some (.int (bE p q ts x).1):=rfl
theorem Gx{p q:Int}{x:Int}:lK [] (jy p q ts x) (.int 1)=some (.int (bE p q ts x).2):=rfl
theorem vQ{p q:Int}{x:Int}(h:x∈nms ts):lK [] (ja p q ts) (.int x)=some (jy p q ts x):=lP h
theorem Gy(p q:Int)(ts:List T3):∀l:List Int,bT (l.map (jy p q ts))=true
 |[]=>rfl
 |x::r=>by rw[aac,bT,Gy p q ts r];rfl
theorem ie{p q:Int}(ok:bA p q ts):(nms ts).length<=15:=by
 have:=ok.len;unfold nms;simp;omega
def kO(p q:Int)(ts:List T3)(P:List Int):Nat:=tr (oN p q ts) (P.map (bE p q ts))
theorem Gz{p q:Int}(ok:bA p q ts){P:List Int}(hP:∀x∈P,x∈nms ts):OX (oN p q ts) (P.map (bE p q ts)):=λe he=>by
 obtain⟨x,hx,rfl⟩:=aaK.mp he;exact pZ ok (hP x hx)
theorem sf{p q:Int}(ok:bA p q ts)(ro:Gs o p q ts){P:List Int}(hP:∀x∈P,x∈nms ts)(hl:P.length<=15):aV [o,.rl (P.map .int)]=.ok (true,.int (kO p q ts P)):=by
 have hpl:=JX (p:=p) (q:=q) ok.len;have S5:(oN p q ts).Nodup:=fD _;obtain⟨f,φ,ef,JJ⟩:=CB (oN p q ts) S5 hpl (P.map (bE p q ts)) (λe he=>by
  obtain⟨x,hx,rfl⟩:=aaK.mp he;exact pZ ok (hP x hx))
 have et:kO p q ts P=rk φ (oN p q ts):=ng JJ S5;rw[et];rw[aaE]at ef;unfold aV bU;have hc:P.length<=100000:=by omega
 have hc2:(oN p q ts).length<=100000:=by omega
 simp only[EV,ro.places,ro.ends,fU,iM,length_map,hc];rw[gH Val.int (jy p q ts) P (λx hx=>by
  simp only[EV,aW,ro.ends,vQ (hP x hx),se])]
 have Zn:dP [.rl ((oN p q ts).map .int),.rl (P.map (jy p q ts))]=.ok (f,kT (oN p q ts) λx=>.int (φ x)):=ef;simp only[EV,gu,Zn,ro.places,fU,iM,length_map,hc2];rw[ju Val.int Val.int (λx=>!decide (φ x=x)) (oN p q ts) (λx hx=>by
  have hi:=lP (g:=λx=>Val.int (φ x)) hx;simp only[EV,aW,hi]
  by_cases c:φ x=x
  ·simp[c]
  ·simp[c])]
 simp only[EV,length_map];rfl
theorem GA{c jo jp jt jr:Nat}(hc:c<3){p q:Int}(h1:Ψ' jo=cH)(h2:Ψ' jp=bV)(h3:Ψ jt=cP)(h4:Ψ jr=aV)(ok:bA p q ts) :
  ux Ψ' Ψ c jo jp jt jr [dW p q ts]=.ok (true,iZ c p q ts (kO p q ts (nms ts))):=by
 have e3:=Bs (vO hc ok) ok.len;have e1:=sf ok (vO hc ok) (P:=nms ts) (λ_ h=>h) (ie ok);rw[<-h3]at e3;rw[<-h4]at e1;exact EY (rY h1 h2 ok) e3 e1
def others(ts:List T3)(P:List Int):List Int:=(nms ts).filter λx=>!decide (x∈P)
theorem lV{P:List Int}:∀x∈others ts P,x∈nms ts:=λx hx=>(aaX.mp hx).1
theorem Bt{p q:Int}(ok:bA p q ts){P:List Int}:(others ts P).length<=15:=aay (ab9 _ _) (ie ok)
theorem GB{c:Nat}(hc:c<3)(jt:([(0,13),(1,13),(2,13)]:List (Nat×Nat)).lookup c=some 13)(jr:([(0,10),(1,10),(2,10)]:List (Nat×Nat)).lookup c=some 10){p q w:Int}(ok:bA p q ts){P:List Int}:cG [iZ c p q ts w,.rl (P.map .int)]=.ok (true,.int ((P.length:Int)-w+kO p q ts (others ts P))):=by
 have e1:=sf ok (vP (w:=w) hc ok) (P:=others ts P) lV (Bt ok);have e3:=Bs (vP (w:=w) hc ok) ok.len;have hl:(nms ts).length<=100000:=by have:=ie ok;omega
 have m1:=rZ (p:=p) (q:=q) (w:=w) (ts:=ts) (m:="ties") jt (by decide);have m2:=rZ (p:=p) (q:=q) (w:=w) (ts:=ts) (m:="tree_rank") jr (by decide);unfold cG cN;simp only[EV,m1,iB,e3,fU,iM,length_map,hl];rw[ju Val.int Val.int (λx=>!decide (x∈P)) (nms ts) (λx hx=>by
  simp only[EV,aW,rD]
  by_cases c:x∈P
  ·simp[c]
  ·simp[c])]
 have Vp:aV [iZ c p q ts w,.rl (((nms ts).filter λx=>!decide (x∈P)).map .int)]=.ok (true,.int (kO p q ts (others ts P))):=e1;simp only[EV,m2,gf,Vp,CD hc,length_map]
theorem uG:∀ks:List Int,bX (ks.map Val.int)=some ks
 |[]=>rfl
 | k::r=>by
  have:=uG r;unfold bX at this |-;rw[aac,cz,this];rfl
theorem J1{ks ms:List Int}(h:ks.length<=100000):qF [] (ks.map Sum.inl) (.rl (ms.map .int))=some (ks.filter λx=>!decide (x∈ms)):=by
 unfold qF;rw[rK,aci,show aF [] (.rl (ms.map .int))=some (ms.map .int) from rfl,aci,uG,aci,Z7 h]
 congr 1
 refine List.filter_congr λx _=>?_
 congr 1
 rw[Bool.eq_iff_iff,List.any_eq_true,abL];constructor
 ·rintro⟨m,hm,e⟩;rw[<-eq_of_beq e];exact hm
 ·exact λhm=>⟨x,hm,abg _⟩
end K31
end
section
open PySem L2 Hv
namespace K31
theorem yt{p q:Int}(ok:bA p q ts):ku [dW p q ts]=.ok (true,ja p q ts):=by
 have hl:=ok.len;unfold ku iW dW;have em:jy p q ts (-1)=.tup [.int p,.int q]:=by unfold jy;rw[zU ok];rfl
 simp only[EV,cM pK,cM rm,o6,fU,show (-(1:Int)) = -1 from rfl]
 repeat rw[ly]
 refine bR eN (λr:Pr FV=>r=.ok (true,ja p q ts))
  (λdone env=>∃a b c,env=[some (.sh,.tup [.tup [.int p,.int q],.rl (ts.map eN)]),some (.ow,kT (nms done) (jy p q ts)),a,b,c])
  ⟨none,none,none,by unfold nms kT;rw[abh,aac,aac,em];rfl⟩ ?_ ?_
 ·rintro pre t post env hx ⟨a,b,c,rfl⟩
  have hp:pre.length<=14:=by have:=aaS length hx;rw[aak,aal]at this;omega
  have hnew:t.1∉nms pre:=λz=>by
   unfold nms at z;have hn:=sd ok;rw[hx,aaY,aac,aaA]at hn
   rcases aao.mp z with z|z
   ·have:=ok.names t (by rw[hx];simp);omega
   ·exact hn.2.2 t.1 z t.1 Z9 rfl
  have zz:((nms pre).map (Sum.inl:Int->Key)).length<sizeLine:=by rw[Z4];unfold nms;simp;unfold sizeLine;omega
  have z2:2<=sizeLine:=by decide
  have bt:∀env:bC,ff (.tup [2,3,4]) (eN t) env=some (((env.set 2 (some (.sh,.int t.1))).set 3 (some (.sh,.int t.2.1))).set 4 (some (.sh,.int t.2.2))):=λ_=>rfl;refine⟨_,?_,some (.sh,.int t.1),some (.sh,.int t.2.1),some (.sh,.int t.2.2),rfl⟩;simp only[EV,bt,o6,zz,z2,pW hnew];have eD:kT (nms pre++[t.1]) (mX (jy p q ts) t.1 (.tup [.int t.2.1,.int t.2.2]))=kT (nms (pre++[t])) (jy p q ts):=by
   rw[show nms (pre++[t])=nms pre++[t.1] by unfold nms;simp];refine cy λy hy=>?_;unfold mX
   split
   ·rename_i e;rw[e];unfold jy;rw[zT ok (by rw[hx];simp)];rfl
   ·rfl
  rw[eD]
 ·rintro env ⟨a,b,c,rfl⟩;simp only[EV,Gy];rfl
theorem CF{p q:Int}(ok:bA p q ts){P:List Int}(hP:∀x∈P,x∈nms ts)(hl:P.length<=15):∃(n:Nat) (ψ:Int->Int) (ks:List Int),fM [ja p q ts,.rl (P.map .int)]=.ok (true,.int n)/\Cu (oN p q ts) ks (P.map (bE p q ts)) ψ n:=by
 have S5:(oN p q ts).Nodup:=fD _;unfold fM fW;simp only[EV,fU]
 repeat rw[ly]
 refine bR Val.int (λr:Pr FV=>∃(n:Nat) (ψ:Int->Int) (ks:List Int),r=.ok (true,.int n)/\Cu (oN p q ts) ks (P.map (bE p q ts)) ψ n)
  (λdone env=>∃(n:Nat) (ψ:Int->Int) (ks:List Int) (a b c d:Option (Mk×Val)),env=[some (.sh,ja p q ts),some (.sh,.rl (P.map .int)),some (.ow,kT ks λx=>.int (ψ x)),some (.sh,.int n),a,b,c,d]/\Cu (oN p q ts) ks (done.map (bE p q ts)) ψ n)
  ⟨0,id,[],none,none,none,none,rfl,Cu.start S5⟩ ?_ ?_
 ·rintro pre x post env hx ⟨n,ψ,ks,a,b,c,d,rfl,m⟩
  have Zo:x∈P:=by rw[hx];simp
  have hxn:=hP x Zo;obtain⟨h1,h2⟩:=pZ ok hxn;have hpre:pre.length<=14:=by have:=aaS length hx;rw[aak,aal]at this;omega
  have hks:ks.length<=28:=by have:=m.len;rw[Z4]at this;omega
  have gd:∀y:Int,((if y∈ks then some (Val.int (ψ y)) else none).getD (.int y))=.int (ψ y):=λy=>by
   by_cases h:y∈ks
   ·rw[Z7 h];rfl
   ·rw[Z8 h,m.off y h];rfl
  have Zp:DO [] (kT ks λx=>Val.int (ψ x))=some ():=rfl;simp only[EV,aW,vQ hxn,Gv,Gx,se,Zp,o6,N7,gd];have Zq:(pre++[x]).map (bE p q ts)=pre.map (bE p q ts)++[((bE p q ts x).1,(bE p q ts x).2)]:=by rw[aaY];rfl
  rw[Zq]
  by_cases c:ψ (bE p q ts x).1 = ψ (bE p q ts x).2
  ·refine⟨[some (.sh,ja p q ts),some (.sh,.rl (P.map .int)),some (.ow,kT ks λx=>.int (ψ x)),some (.sh,.int n),some (.sh,.int x),some (.sh,.int (ψ (bE p q ts x).1)),some (.sh,.int (ψ (bE p q ts x).2)),d],?_,n,ψ,ks,_,_,_,_,rfl,m.stay h1 h2 c⟩;simp only[EV,c,not_true,decide_false]
  ·have m2:=m.join h1 h2 c
   generalize Sd:eF (eF ks (bE p q ts x).1) (bE p q ts x).2=ks' at m2;have zz:∀l:List Int,l.length<=40->(l.map (Sum.inl:Int->Key)).length<sizeLine:=λl h=>by rw[Z4];unfold sizeLine;omega
   have l1:(eF ks (bE p q ts x).1).length<=40:=by have:=kh ks (bE p q ts x).1;omega
   have l2:ks'.length<=40:=by have:=kh (eF ks (bE p q ts x).1) (bE p q ts x).2;rw[Sd]at this;have:=kh ks (bE p q ts x).1;omega
   have Zr:=Bf (ks:=ks) (ψ:=ψ) (a:=(bE p q ts x).1);have WD:=Bf (ks:=eF ks (bE p q ts x).1) (ψ:=ψ) (a:=(bE p q ts x).2);rw[Sd] at WD;have ky:lq [] (kT ks' λx=>Val.int (ψ x))=some (ks'.map Sum.inl):=rfl;have kv:(ks'.map (Sum.inl:Int->Key)).map zm=ks'.map Val.int:=by rw[aaE];rfl
   simp only[EV,c,not_false_iff,decide_true,vQ hxn,Gv,Gx,se,o6,zz ks (by omega),zz _ l1,Zr,WD,ky,kv,fU]
   repeat rw[ly]
   refine bR Val.int (λr:Pr Cp=>∃env',r=.ok (.nx env')/\∃(n:Nat) (ψ:Int->Int) (ks:List Int) (a b c d:Option (Mk×Val)),env'=[some (.sh,ja p q ts),some (.sh,.rl (P.map .int)),some (.ow,kT ks λx=>.int (ψ x)),some (.sh,.int n),a,b,c,d]/\Cu (oN p q ts) ks (pre.map (bE p q ts)++[((bE p q ts x).1,(bE p q ts x).2)]) ψ n)
    (λdone env=>∃a,env=[some (.sh,ja p q ts),some (.sh,.rl (P.map .int)),some (.ow,kT ks' λy=>.int (if y∈done /\ ψ y = ψ (bE p q ts x).2 then ψ (bE p q ts x).1 else ψ y)),some (.sh,.int ((n:Int)+1)),some (.sh,.int x),some (.sh,.int (ψ (bE p q ts x).1)),some (.sh,.int (ψ (bE p q ts x).2)),a])
    ?_ ?_ ?_
   ·exact⟨d,by simp⟩
   ·rintro done y post env hy ⟨a,rfl⟩
    have hn:=m2.nd;have hyp:y∉done:=by rw[hy,aaA]at hn;exact λh=>hn.2.2 y h y (by simp) rfl
    have hys:y∈ks':=by rw[hy];simp
    refine⟨_,?_,some (.sh,.int y),rfl⟩;simp only[EV,aW,lP hys,o6,zz ks' l2,vC hys,hyp,false_and,if_false]
    by_cases hg:ψ y = ψ (bE p q ts x).2
    ·simp only[hg,↓reduceIte]
     rw[cy];intro z _;unfold mX
     by_cases e:z=y
     ·subst e;simp[hg]
     ·simp[e]
    ·simp only[hg,↓reduceIte]
     rw[cy];intro z _
     by_cases e:z=y
     ·subst e;simp[hg]
     ·simp[e]
   ·rintro env ⟨a,rfl⟩
    refine⟨_,rfl,n+1,(λy=>if ψ y = ψ (bE p q ts x).2 then ψ (bE p q ts x).1 else ψ y),ks',some (.sh,.int x),some (.sh,.int (ψ (bE p q ts x).1)),some (.sh,.int (ψ (bE p q ts x).2)),a,?_,m2⟩;rw[cy (g':=λy=>.int (if ψ y = ψ (bE p q ts x).2 then ψ (bE p q ts x).1 else ψ y))]
    ·rfl
    ·intro z hz;simp[hz]
 ·rintro env ⟨n,ψ,ks,a,b,c,d,rfl,m⟩;simp only[EV,bf];exact⟨n,ψ,ks,rfl,m⟩
theorem sj{p q:Int}(ok:bA p q ts){P:List Int}(hP:∀x∈P,x∈nms ts)(hl:P.length<=15):fM [ja p q ts,.rl (P.map .int)]=.ok (true,.int (kO p q ts P)):=by
 obtain⟨n,ψ,ks,e,m⟩:=CF ok hP hl;rw[e,N9 m.JJ (fD _) m.num];rfl
end K31
end
section
open PySem L2 Hv
namespace K31
theorem GC{p q:Int}{P Q:List Int}{x:Int}(h:∀y,y∈Q↔y∈P\/y=x):∀e,e∈Q.map (bE p q ts)↔e∈P.map (bE p q ts)\/e=((bE p q ts x).1,(bE p q ts x).2):=λe=>by
 constructor
 ·intro he
  obtain⟨y,hy,rfl⟩:=aaK.mp he
  rcases(h y).mp hy with hy|rfl
  ·exact .inl (aaQ hy)
  ·exact .inr rfl
 ·rintro(he|rfl)
  ·obtain⟨y,hy,rfl⟩:=aaK.mp he;exact aaQ ((h y).mpr (.inl hy))
  ·exact aaQ (f:=bE p q ts) ((h x).mpr (.inr rfl))
section
variable {p q:Int} {ts:List T3}
def Wy(p q:Int)(ts:List T3)(P:List Int)(x:Int):Prop:=Way (P.map (bE p q ts)) (bE p q ts x).1 (bE p q ts x).2
theorem Wy.mono{P Q:List Int}(h:∀y∈P,y∈Q){x:Int}(w:Wy p q ts P x):Wy p q ts Q x:=by
 unfold Wy at w |-;refine Way.mono (λe he=>?_) w;obtain⟨y,hy,rfl⟩:=aaK.mp he;exact aaQ (h y hy)
open Classical in
theorem KO(ok:bA p q ts){P Q:List Int}{x:Int}(hP:∀y∈P,y∈nms ts)(hx:x∈nms ts)(h:∀y,y∈Q↔y∈P\/y=x):kO p q ts Q=kO p q ts P+if Wy p q ts P x then 0 else 1:=by
 obtain⟨h1,h2⟩:=pZ ok hx;exact JK (ps:=oN p q ts) (fD _) (Gz ok hP) h1 h2 (GC (p:=p) (q:=q) (ts:=ts) h)
theorem su(ok:bA p q ts){P Q:List Int}{x:Int}(hP:∀y∈P,y∈nms ts)(hx:x∈nms ts)(h:∀y,y∈Q↔y∈P\/y=x):kO p q ts P<=kO p q ts Q/\kO p q ts Q<=kO p q ts P+1:=by
 rw[KO ok hP hx h]
 split<;>omega
theorem Bu(ok:bA p q ts){P Q:List Int}{x:Int}(hP:∀y∈P,y∈nms ts)(hx:x∈nms ts)(h:∀y,y∈Q↔y∈P\/y=x):Wy p q ts P x↔kO p q ts Q=kO p q ts P:=by
 rw[KO ok hP hx h]
 split
 ·exact⟨λ_=>rfl,λ_=>‹_›⟩
 ·exact⟨λw=>absurd w ‹_›,λe=>by omega⟩
theorem yu(ok:bA p q ts){P Q:List Int}(hP:∀y∈P,y∈nms ts)(h:∀y,y∈P↔y∈Q):kO p q ts P=kO p q ts Q:=by
 refine xX (fD _) (Gz ok hP) λe=>⟨λhe=>?_,λhe=>?_⟩
 ·obtain⟨y,hy,rfl⟩:=aaK.mp he;exact aaQ ((h y).mp hy)
 ·obtain⟨y,hy,rfl⟩:=aaK.mp he;exact aaQ ((h y).mpr hy)
theorem kD{R:List Int}{x:Int}(y:Int):y∈R++[x]↔y∈R\/y=x:=by simp
theorem J2:kO p q ts []=0:=by
 unfold kO;rw[abh,ng (ps:=oN p q ts) (jS.start _) (fD _)];unfold rk;simp
theorem nK{P:List Int}{y:Int}:y∈others ts P↔y∈nms ts/\y∉P:=by
 unfold others;rw[aaX];simp
end
end K31
end
section
open PySem L2 Hv
namespace K31
structure zV (N:List Int) (r:List Int->Int):Prop where
 nil:r []=0
 same:∀P Q:List Int,P.Nodup->Q.Nodup->(∀y∈P,y∈N)->(∀y,y∈P↔y∈Q)->r P=r Q
 step:∀(P:List Int) (x:Int),P.Nodup->(∀y∈P,y∈N)->x∈N->x∉P->r (P++[x])=r P\/r (P++[x])=r P+1
 loc:∀(P Q:List Int) (x:Int),P.Nodup->Q.Nodup->(∀y∈Q,y∈N)->(∀y∈P,y∈Q)->x∈N->x∉Q->r (P++[x])=r P->r (Q++[x])=r Q
theorem Ac{P:List Int}{x:Int}(hn:P.Nodup)(hx:x∉P):(P++[x]).Nodup:=by
 rw[aaA];exact⟨hn,by simp,λa ha b hb e=>hx (by rw[aai]at hb;rw[<-hb,<-e];exact ha)⟩
theorem Ow{P D:List Int}{x:Int}(h:(P++x::D).Nodup):P.Nodup/\x∉P:=by
 rw[aaA]at h;exact⟨h.1,λhx=>h.2.2 x hx x Z9 rfl⟩
theorem GD(P D:List Int)(x:Int):P++x::D=(P++[x])++D:=by rw[acB];rfl
section
variable {N:List Int} {r:List Int->Int} (h:zV N r)
include h
theorem zV.app:∀(D P:List Int),(P++D).Nodup->(∀y∈P++D,y∈N)->r P<=r (P++D)/\r (P++D)<=r P+D.length
 |[],P,_,_=>by rw[aa2];exact⟨Int.le_refl _,by simp⟩
 | x::D,P,hn,hi=>by
  obtain⟨n1,n2⟩:=Ow hn;have s:=h.step P x n1 (λy hy=>hi y (aaL _ hy)) (hi x (aaz _ Z9)) n2;rw[GD]at hn hi |-;have ih:=zV.app D (P++[x]) hn hi;rw[aal];omega
theorem zV.bound{P:List Int}(hn:P.Nodup)(hP:∀y∈P,y∈N):0<=r P/\r P<=P.length:=by
 have:=h.app P [] hn hP;rw[h.nil,nil_append]at this;omega
theorem zV.mono{P Q:List Int}(hp:P.Nodup)(hq:Q.Nodup)(hQ:∀y∈Q,y∈N)(hs:∀y∈P,y∈Q):r P<=r Q:=by
 have nd:(P++Q.filter λy=>!decide (y∈P)).Nodup:=by rw[aaA];exact⟨hp,hq.sublist List.filter_sublist,λa ha b hb e=>by subst e;have:=(aaX.mp hb).2;simp[ha]at this⟩
 have mm:∀y,y∈(P++Q.filter λy=>!decide (y∈P))↔y∈Q:=λy=>by
  rw[aaF,aaX];constructor
  ·rintro(z|z)
   ·exact hs y z
   ·exact z.1
  ·intro z
   by_cases c:y∈P
   ·exact .inl c
   ·exact .inr ⟨z,by simpa using c⟩
 have:=(h.app _ P nd λy hy=>hQ y ((mm y).mp hy)).1;rwa [h.same _ Q nd hq (λy hy=>hQ y ((mm y).mp hy)) mm]at this
end
section
variable {p q:Int} {ts:List T3}
def yD(κ:Nat)(p q:Int)(ts:List T3)(P:List Int):Int:=if κ = 0 then (P.length:Int) else if κ = 1 then (kO p q ts P:Int) else (P.length:Int)-kO p q ts (nms ts)+kO p q ts (others ts P)
theorem sy{P Q:List Int}(hp:P.Nodup)(hq:Q.Nodup)(h:∀y,y∈P↔y∈Q):P.length=Q.length :=
 Nat.le_antisymm (cT hp λx hx=>(h x).mp hx) (cT hq λx hx=>(h x).mpr hx)
theorem nL{P:List Int}{x:Int}(hx:x∈nms ts)(hn:x∉P)(y:Int):y∈others ts P↔y∈others ts (P++[x])\/y=x:=by
 rw[nK,nK,kD];constructor
 ·rintro⟨h1,h2⟩
  by_cases c:y=x
  ·exact .inr c
  ·exact .inl ⟨h1,λz=>z.elim h2 c⟩
 ·rintro(⟨h1,h2⟩|rfl)
  ·exact⟨h1,λz=>h2 (.inl z)⟩
  ·exact⟨hx,hn⟩
theorem Bv(ok:bA p q ts){κ:Nat}(hk:κ < 3):zV (nms ts) (yD κ p q ts):=by
 match κ,hk with
 |0,_=>have e:∀P,yD 0 p q ts P=(P.length:Int):=λP=>Z7 rfl;refine⟨by rw[e];rfl,λP Q hp hq _ h=>by rw[e,e,sy hp hq h],λP x _ _ _ _=>.inr (by rw[e,e,aak];rfl),λP Q x _ _ _ _ _ _ z=>?_⟩;rw[e,e,aak]at z;simp at z;omega
 |1,_=>
  have e:∀P,yD 1 p q ts P=(kO p q ts P:Int):=λP=>by unfold yD;rw[Z8 (by decide),Z7 rfl]
  refine⟨by rw[e,J2];rfl,λP Q _ _ hP h=>by rw[e,e,yu ok hP h],λP x _ hP hx _=>?_,λP Q x _ _ hQ hs hx _ z=>?_⟩
  ·have:=su ok (Q:=P++[x]) hP hx kD;rw[e,e];omega
  ·rw[e,e]at z |-;have hP:∀y∈P,y∈nms ts:=λy hy=>hQ y (hs y hy);have w:=(Bu ok (Q:=P++[x]) hP hx kD).mpr (by omega);rw[(Bu ok (Q:=Q++[x]) hQ hx kD).mp (w.mono hs)]
 |2,_=>
  have e:∀P,yD 2 p q ts P=(P.length:Int)-kO p q ts (nms ts)+kO p q ts (others ts P):=λP=>by unfold yD;rw[Z8 (by decide),Z8 (by decide)]
  have l1:∀(P:List Int) (x:Int),((P++[x]).length:Int)=P.length+1:=λP x=>by simp
  refine⟨?_,λP Q hp hq hP h=>?_,λP x _ hP hx hn=>?_,λP Q x _ _ hQ hs hx hn z=>?_⟩
  ·have:others ts []=nms ts:=by unfold others;rw[acq];simp
   rw[e,this,length_nil];omega
  ·rw[e,e,sy hp hq h,yu ok lV (P:=others ts P) (Q:=others ts Q) λy=>by rw[nK,nK,h]]
  ·have:=su ok (P:=others ts (P++[x])) (Q:=others ts P) (x:=x) lV hx (nL hx hn);rw[e,e,l1];omega
  ·rw[e,e,l1]at z |-
   have Zs:x∉P:=λw=>hn (hs x w);have sQ:=su ok (P:=others ts (Q++[x])) (Q:=others ts Q) (x:=x) lV hx (nL hx hn);have y1:=Bu ok (P:=others ts (P++[x])) (Q:=others ts P) (x:=x) lV hx (nL hx Zs);have y2:=Bu ok (P:=others ts (Q++[x])) (Q:=others ts Q) (x:=x) lV hx (nL hx hn);have n1:¬ Wy p q ts (others ts (P++[x])) x:=λw=>by have:=y1.mp w;omega
   have n2:¬ kO p q ts (others ts Q)=kO p q ts (others ts (Q++[x])):=λw=>n1 ((y2.mpr w).mono λy hy=>by
    rw[nK]at hy |-;exact⟨hy.1,λk=>hy.2 (by rcases(kD y).mp k with k|k;exact aaL _ (hs y k);rw[k];simp)⟩)
   omega
end
end K31
end
section
open PySem L2 Hv
namespace K31
abbrev NF(m:Str):Prop:=m ≠ "net" /\ m ≠ "places" /\ m ≠ "ends" /\ m ≠ "whole"
def lW(κ:Nat)(p q:Int)(ts:List T3):Val:=if κ = 2 then iZ 2 p q ts (kO p q ts (nms ts)) else lA κ p q ts
theorem GF{κ:Nat}{p q:Int}{ts:List T3}{m:Str}{js:List (Nat×Nat)}{j:Nat}(hj:js.lookup κ = some j)(h:NF m):kP [] (lW κ p q ts) m js=some j:=by
 unfold lW
 split
 ·rename_i e;subst e;exact rZ hj h
 ·exact Gn hj h
theorem Ox{κ:Nat}(hk:κ < 3){p q:Int}(ok:bA p q ts):Gs (lW κ p q ts) p q ts:=by
 unfold lW
 split
 ·exact vP (by decide) ok
 ·exact vO hk ok
theorem sub_len{p q:Int}(ok:bA p q ts){P:List Int}(hn:P.Nodup)(hP:∀x∈P,x∈nms ts):P.length<=15:=aay (cT hn hP) (ie ok)
def WE(κ:Nat):Nat:=if κ = 0 then 8 else if κ = 1 then 11 else 14
theorem Oz{Ψ:Nat->List Val->Pr FV}(h0:Ψ 8=fZ)(h1:Ψ 11=cO)(h2:Ψ 14=cG){κ:Nat}(hk:κ < 3){p q:Int}{ts:List T3}(ok:bA p q ts){P:List Int}(hP:∀x∈P,x∈nms ts)(hl:P.length<=15):Ψ (WE κ) [lW κ p q ts,.rl (P.map .int)]=.ok (true,.int (yD κ p q ts P)):=by
 match κ,hk with
 |0,_=>show Ψ 8 _=_;rw[h0];unfold fZ eV;simp only[EV,length_map];rfl
 |1,_=>show Ψ 11 _=_;rw[h1];have e:=sf (o:=lW 1 p q ts) ok (Ox (by decide) ok) hP hl;have m:=GF (κ:=1) (p:=p) (q:=q) (ts:=ts) (m:="tree_rank") (js:=[(0,10),(1,10),(2,10)]) (j:=10) rfl (by decide);unfold cO cC;simp only[EV,m,fN,e];rfl
 |2,_=>show Ψ 14 _=_;rw[h2];exact GB (c:=2) (by decide) rfl rfl ok
theorem Zt{κ:Nat}(hk:κ < 3){p q:Int}{ts:List T3}:kP [] (lW κ p q ts) "rank" [(0,8),(1,11),(2,14)]=some (WE κ):=by
 refine GF ?_ (by decide)
 match κ,hk with
 |0,_=>rfl
 |1,_=>rfl
 |2,_=>rfl
theorem m3{κ:Nat}(hk:κ < 3){p q:Int}{ts:List T3}{m:Str}{j:Nat}(h:NF m):kP [] (lW κ p q ts) m [(0,j),(1,j),(2,j)]=some j:=by
 refine GF ?_ h
 match κ,hk with
 |0,_=>rfl
 |1,_=>rfl
 |2,_=>rfl
theorem free_eq{κ:Nat}(hk:κ < 3){p q:Int}(ok:bA p q ts){P:List Int}(hP:∀x∈P,x∈nms ts)(hl:P.length<=15):f6 [lW κ p q ts,.rl (P.map .int)]=.ok (true,.bl (decide (yD κ p q ts P=(P.length:Int)))):=by
 have e:=Oz (Ψ:=aq zN) jx gW iC hk ok hP hl;unfold f6 eY;simp only[EV,Zt hk,e,length_map]
theorem GG{κ:Nat}(hk:κ < 3){p q:Int}(ok:bA p q ts):gM [.int (κ:Int),dW p q ts]=.ok (true,lW κ p q ts):=by
 have r0:vH [dW p q ts]=.ok (true,lA 0 p q ts):=rY pM nF ok;have r1:kM [dW p q ts]=.ok (true,lA 1 p q ts):=rY lU kB ok;have r2:nE [dW p q ts]=.ok (true,iZ 2 p q ts (kO p q ts (nms ts))):=GA (by decide) iD gP kW iE ok
 match κ,hk with
 |0,_=>have d1:decide (((0:Nat):Int)=1)=false:=rfl;have d2:decide (((0:Nat):Int)=2)=false:=rfl;unfold gM fL;simp only[EV,d1,d2,rT,r0];rfl
 |1,_=>have d1:decide (((1:Nat):Int)=1)=true:=rfl;unfold gM fL;simp only[EV,d1,nG,r1];rfl
 |2,_=>have d1:decide (((2:Nat):Int)=1)=false:=rfl;have d2:decide (((2:Nat):Int)=2)=true:=rfl;unfold gM fL;simp only[EV,d1,d2,oK,r2];rfl
theorem sD{κ:Nat}(hk:κ < 3){p q:Int}(ok:bA p q ts){P:List Int}(hP:∀x∈P,x∈nms ts)(hl:P.length<=15):fY [.int (κ:Int),ja p q ts,.rl (P.map .int)]=.ok (true,.int (yD κ p q ts P)):=by
 match κ,hk with
 |0,_=>have d1:decide (((0:Nat):Int)=0)=true:=rfl;unfold fY fG;simp only[EV,d1,length_map];rfl
 |1,_=>have d1:decide (((1:Nat):Int)=0)=false:=rfl;have d2:decide (((1:Nat):Int)=1)=true:=rfl;have e:=sj ok hP hl;unfold fY fG;simp only[EV,d1,d2,gO,e];rfl
 |2,_=>
  have d1:decide (((2:Nat):Int)=0)=false:=rfl;have d2:decide (((2:Nat):Int)=1)=false:=rfl;have ew:=sj ok (P:=nms ts) (λ_ h=>h) (ie ok);have e2:=sj ok (P:=others ts P) lV (Bt ok);have ky:lq [] (ja p q ts)=some ((nms ts).map Sum.inl):=rfl;have kv:((nms ts).map (Sum.inl:Int->Key)).map zm=(nms ts).map Val.int:=by rw[aaE];rfl
  have df:qF [] ((nms ts).map Sum.inl) (.rl (P.map .int))=some (others ts P):=J1 (by have:=ie ok;omega);unfold fY fG;simp only[EV,d1,d2,ky,kv,df,gO,ew,e2,length_map];rfl
theorem Zu(l:List Val):gT (.isin "list") [.rl l]=.ok (true,.bl true):=oz (t:="list") rfl (by decide)
theorem sorted_ints{l:List Int}(h:l.length<64):gT .sorted [.rl (l.map .int)]=.ok (true,.rl ((sortI l).map .int)):=by
 refine yo ?_;unfold dD;rw[Z7 (by rw[Z4];exact h),ints_map]
theorem pC{l:List Int}(h:l.length<64)(hs:sortI l=l):cU [.rl (l.map .int)]=.ok (true,.bl true):=by
 unfold cU cZ;have hc:l.length<=100000:=by omega
 simp only[EV,Zu,sorted_ints h,hs,vN,fU,iM,length_map,hc];rw[gH Val.int (λ_=>.bl true) l (λt ht=>by
  simp only[EV,aW,Zm,U8])]
 simp only[EV,all_true]
end K31
end
section
open PySem L2 Hv
namespace K31
theorem sE{N:List Int}(o:zV N r){P Q:List Int}(hp:P.Nodup)(hP:∀y∈P,y∈N)(hq:Q.Nodup)(hs:∀y∈Q,y∈P)(f:r P=P.length):r Q=Q.length:=by
 have nd:(Q++P.filter λy=>!decide (y∈Q)).Nodup:=by rw[aaA];refine⟨hq,hp.sublist List.filter_sublist,λa ha b hb e=>?_⟩;have:=(aaX.mp hb).2;subst e;simp[ha]at this
 have mem:∀y,y∈P↔y∈Q++P.filter λy=>!decide (y∈Q):=λy=>by
  rw[aaF,aaX];constructor
  ·intro h
   by_cases c:y∈Q
   ·exact .inl c
   ·exact .inr ⟨h,by simp[c]⟩
  ·rintro(h|h)
   ·exact hs y h
   ·exact h.1
 have hl:=sy hp nd mem;have hN:∀y∈Q++P.filter λy=>!decide (y∈Q),y∈N:=λy hy=>hP y ((mem y).mpr hy);have h1:=(o.app (P.filter λy=>!decide (y∈Q)) Q nd hN).2;have h2:=o.mono hp nd hN λy hy=>(mem y).mp hy;have h3:=(o.bound hq λy hy=>hP y (hs y hy)).2;rw[aak]at hl;omega
theorem aT{m:List Nat}(h:bu Ψ m st env=.ok (.nx env')):bF Ψ m (.cons st r) env=bF Ψ m r env':=by
 rw[bF,h];rfl
theorem vR{m:List Nat}(h:bu Ψ m st env=.ok (.rt p)):bF Ψ m (.cons st r) env=.ok (.rt p):=by
 rw[bF,h];rfl
theorem KP{ms:List Nat}{i:Nat}{n:Nat}(h1:(uo (.one i) #[e] B&&(stored (.one i)).all λi=>!ms.contains i)=true)(h2:gm Ψ #[e] env=.ok [.int (n:Int)])(hn:n<=1000) :
  bu Ψ ms (.for (.one i) .range #[e] B) env=iO (λx env=>pb (pl (ff (.one i) x env)) λenv'=>bF Ψ ms B env') ((List.range n).map λi:Nat=>Val.int (0+(i:Int))) env:=by
 have hR:inR (n:Int)=true:=by unfold inR;simp only[and_eq_true,decide_eq_true_eq];omega
 rw[bu,h1,lO rfl,h2,bf,KN hR,b7,bf,Int.toNat_natCast]
theorem Se{ms:List Nat}{i:Nat}(h1:(uo (.one i) #[e] B&&(stored (.one i)).all λi=>!ms.contains i)=true)(h2:gm Ψ #[e] env=.ok [.rl vs]) :
  bu Ψ ms (.for (.one i) .seq #[e] B) env=iO (λx env=>pb (pl (ff (.one i) x env)) λenv'=>bF Ψ ms B env') vs env:=by
 rw[bu,h1,lO rfl,h2,bf,fU,b7,bf]
theorem jz{ms:List Nat}{f:Bool}(h:Ku Ψ c env=.ok (f,.bl false)):bu Ψ ms (.iff c a .nil) env=.ok (.nx env):=by
 rw[bu,h,bf];show pb (pl (cj [] (.bl false))) _=_;rw[EM,b7,bf,Z8 Z0,bF]
theorem Bw{ms:List Nat}{f:Bool}(h:Ku Ψ c env=.ok (f,.bl true)):bu Ψ ms (.iff c a b) env=bF Ψ ms a env:=by
 rw[bu,h,bf];show pb (pl (cj [] (.bl true))) _=_;rw[EM,b7,bf,Z7 rfl]
theorem Sf{α:Type}(x:Pr α):pb x (λf=>Pr.ok f)=x:=by cases x<;>rfl
theorem J3{n:Nat}(hc:c env=.ok true)(hb:body env=.ok (.rt p)):xE c body (n+1) env=.ok (.rt p):=by
 rw[xE,hc,bf,Z7 rfl,hb,bf]
def S6:dg:=#[.iff (.and (.cmp .nin (!4) (.idx (!2) (¬0))) (.cmp .nin (!4) (.idx (!2) (¬1)))) #[.cR (!3) (!4) (.cst .non)] .nil]
def WG:dg:=#[.iff (.cmp .t8 (!4) (.idx (!2) (!6))) #[.cnt] .nil,.iff (.mth (!0) "free" [(0,15),(1,15),(2,15)] #[.bin .add (.idx (!2) (!6)) (.lst #[!4])]) #[.ret (.tup #[!3,!4,!6])] .nil,.for (.one 7) .seq #[.call 16 #[!0,.idx (!2) (!6),!4]] #[.iff (.cmp .nin (!7) (!3)) #[.cR (!3) (!7) (!4),.expr (.met .append (!5) #[!7])] .nil]]
def wB:dg:=#[.asg (.one 4) (.met .pop (!5) #[¬0]),.for (.one 6) .range #[¬2] #[.iff (.cmp .t8 (!4) (.idx (!2) (!6))) #[.cnt] .nil,.iff (.mth (!0) "free" [(0,15),(1,15),(2,15)] #[.bin .add (.idx (!2) (!6)) (.lst #[!4])]) #[.ret (.tup #[!3,!4,!6])] .nil,.for (.one 7) .seq #[.call 16 #[!0,.idx (!2) (!6),!4]] #[.iff (.cmp .nin (!7) (!3)) #[.cR (!3) (!7) (!4),.expr (.met .append (!5) #[!7])] .nil]]]
def wC:IE:=(.cmp .gt (.blt .len #[!5]) (¬0))
theorem GH:fH=.cons (.asg (.one 3) .dct0) #[.for (.one 4) .seq #[!1] S6,.asg (.one 5) (.lkeys (!3)),.whl 100000 wC wB,.ret (.tup #[!3,.cst .non,.cst .non])]:=rfl
theorem Sg:wB=.cons (.asg (.one 4) (.met .pop (!5) #[¬0])) #[.for (.one 6) .range #[¬2] WG]:=rfl
theorem OA:WG=.cons (.iff (.cmp .t8 (!4) (.idx (!2) (!6))) #[.cnt] .nil) #[.iff (.mth (!0) "free" [(0,15),(1,15),(2,15)] #[.bin .add (.idx (!2) (!6)) (.lst #[!4])]) #[.ret (.tup #[!3,!4,!6])] .nil,.for (.one 7) .seq #[.call 16 #[!0,.idx (!2) (!6),!4]] #[.iff (.cmp .nin (!7) (!3)) #[.cR (!3) (!7) (!4),.expr (.met .append (!5) #[!7])] .nil]]:=rfl
abbrev MS:List Nat:=[3,5,3,5]
abbrev Sl:=Option (Mk×Val)
abbrev uH(l:List Int):Val:=kT l λ_=>Val.non
section
variable {κ:Nat} {p q:Int} {ts:List T3} {ss la:List Int}
theorem Bx(hn:ss.Nodup)(hl:ss.length<=15)(h:∀c4:Sl,bF (aq lT) MS T [some (.sh,O),some (.sh,.rl (ss.map .int)),some (.sh,.tup [.rl (la.map .int),.rl []]),some (.ow,uH (ss.filter λy=>!decide (y∈la))),c4,some (.ow,.rl ((ss.filter λy=>!decide (y∈la)).map .int)),none,none]=r) :
  bF (aq lT) MS (.cons (.asg (.one 3) .dct0) (.cons (.for (.one 4) .seq #[!1] S6) (.cons (.asg (.one 5) (.lkeys (!3))) T))) [some (.sh,O),some (.sh,.rl (ss.map .int)),some (.sh,.tup [.rl (la.map .int),.rl []]),none,none,none,none,none]=r:=by
 have q1:bu (aq lT) MS (.asg (.one 3) .dct0) [some (.sh,O),some (.sh,.rl (ss.map .int)),some (.sh,.tup [.rl (la.map .int),.rl []]),none,none,none,none,none]=.ok (.nx [some (.sh,O),some (.sh,.rl (ss.map .int)),some (.sh,.tup [.rl (la.map .int),.rl []]),some (.ow,uH []),none,none,none,none]):=by simp only[EV,bf];rfl
 rw[aT q1];have key:=bR (us:=ss) (k:=λf=>Pr.ok f) (body:=λx env=>pb (pl (ff (.one 4) x env)) λenv'=>bF (aq lT) MS S6 env') Val.int
  (λr:Pr Cp=>∃c4:Sl,r=.ok (.nx [some (.sh,O),some (.sh,.rl (ss.map .int)),some (.sh,.tup [.rl (la.map .int),.rl []]),some (.ow,uH (ss.filter λy=>!decide (y∈la))),c4,none,none,none]))
  (l0:=[some (.sh,O),some (.sh,.rl (ss.map .int)),some (.sh,.tup [.rl (la.map .int),.rl []]),some (.ow,uH []),none,none,none,none])
  (λdone env=>∃c4:Sl,env=[some (.sh,O),some (.sh,.rl (ss.map .int)),some (.sh,.tup [.rl (la.map .int),.rl []]),some (.ow,uH (done.filter λy=>!decide (y∈la))),c4,none,none,none])
  ⟨none,rfl⟩ (by
   rintro pre y post env hx ⟨c,rfl⟩;have hpl:(pre.filter λy=>!decide (y∈la)).length<=15:=by have:=ab9 (λy=>!decide (y∈la)) pre;have:=aaS length hx;rw[aak,aal]at this;omega
   have hnew:y∉pre.filter λy=>!decide (y∈la):=λz=>by
    rw[hx,aaA]at hn;exact hn.2.2 y (aaX.mp z).1 y (by simp) rfl
   have zz:((pre.filter λy=>!decide (y∈la)).map (Sum.inl:Int->Key)).length<sizeLine:=by rw[Z4];unfold sizeLine;omega
   have pn:putD ((pre.filter λy=>!decide (y∈la)).map Sum.inl) ((pre.filter λy=>!decide (y∈la)).map λ_=>Val.non) (.inl y) .non=uH ((pre.filter λy=>!decide (y∈la))++[y]):=by rw[pW hnew];exact cy λz _=>by unfold mX;split<;>rfl
   have n0:cop [] .nin (.int y) (.rl ([]:List Val))=some true:=rD (xs:=[]);rw[aW,b7,bf];simp only[set_cons_succ,set_cons_zero];unfold S6
   by_cases c:y∈la
   ·refine⟨_,?_,some (.sh,.int y),rfl⟩;rw[aT (jz (f:=true) (by simp only[EV,cM pK,cM rm,rD,c,decide_true,Bool.not_true])),bF,acu];simp[c]
   ·refine⟨_,?_,some (.sh,.int y),rfl⟩
    have e1:bu (aq lT) MS (.cR (!3) (!4) (.cst .non)) [some (.sh,O),some (.sh,.rl (ss.map .int)),some (.sh,.tup [.rl (la.map .int),.rl []]),some (.ow,uH (pre.filter λy=>!decide (y∈la))),some (.sh,.int y),none,none,none]=.ok (.nx [some (.sh,O),some (.sh,.rl (ss.map .int)),some (.sh,.tup [.rl (la.map .int),.rl []]),some (.ow,uH ((pre.filter λy=>!decide (y∈la))++[y])),some (.sh,.int y),none,none,none]):=by simp only[EV,o6,zz,pn]
    rw[aT ((Bw (f:=true) (by simp only[EV,cM pK,cM rm,rD,n0,c,decide_false,Bool.not_false])).trans ((aT e1).trans (by rw[bF]))),bF,acu];simp[c]) (λenv ⟨c,e⟩=>⟨c,by rw[e]⟩)
 obtain⟨c4,e⟩:=key;rw[Sf]at e;rw[aT ((Se rfl (by simp only[EV,bf])).trans e)];have ky:lq [] (uH (ss.filter λy=>!decide (y∈la)))=some ((ss.filter λy=>!decide (y∈la)).map Sum.inl):=rfl;have kv:((ss.filter λy=>!decide (y∈la)).map (Sum.inl:Int->Key)).map zm=(ss.filter λy=>!decide (y∈la)).map Val.int:=by rw[aaE];rfl
 have q3:bu (aq lT) MS (.asg (.one 5) (.lkeys (!3))) [some (.sh,O),some (.sh,.rl (ss.map .int)),some (.sh,.tup [.rl (la.map .int),.rl []]),some (.ow,uH (ss.filter λy=>!decide (y∈la))),c4,none,none,none]=.ok (.nx [some (.sh,O),some (.sh,.rl (ss.map .int)),some (.sh,.tup [.rl (la.map .int),.rl []]),some (.ow,uH (ss.filter λy=>!decide (y∈la))),c4,some (.ow,.rl ((ss.filter λy=>!decide (y∈la)).map .int)),none,none]):=by simp only[EV,ky,kv]
 rw[aT q3];exact h c4
theorem J4(hn:ss.Nodup):(ss.filter λy=>!decide (y∈ss))=[]:=by
 rw[ab6];intro y hy;simp[hy]
theorem GI(hn:ss.Nodup){k:Nat}(h:k<ss.length):(ss.filter λy=>!decide (y∈ss.take k))=ss[k]::ss.drop (k+1):=by
 rw[<-abR h];have e:=abJ k ss;have hn':=hn;rw[<-e,aaA]at hn'
 conv=>lhs;rw[<-e]
 rw[acu];have f1:((ss.take k).filter λy=>!decide (y∈ss.take k))=[]:=by rw[ab6];intro y hy;simp[hy]
 have f2:((ss.drop k).filter λy=>!decide (y∈ss.take k))=ss.drop k:=by rw[acq];intro y hy;have:y∉ss.take k:=λz=>hn'.2.2 y z y hy rfl;simp[this]
 rw[abJ,f1,f2,nil_append]
theorem yv(hn:ss.Nodup){k:Nat}(h:k<ss.length):ss[k]∉ss.take k:=λz=>by
 have e:=abJ k ss;rw[<-e,aaA]at hn;exact hn.2.2 _ z _ (by rw[abR h];exact Z9) rfl
theorem J5(hn:ss.Nodup)(hl:ss.length<=15):∃f,nC [O,.rl (ss.map .int),.tup [.rl (ss.map .int),.rl []]]=.ok (f,.tup [.dc [] [],.non,.non]):=by
 refine⟨false,?_⟩;show pb (bF (aq lT) MS fH [some (.sh,O),some (.sh,.rl (ss.map .int)),some (.sh,.tup [.rl (ss.map .int),.rl []]),none,none,none,none,none]) _=_;rw[GH,Bx (la:=ss) hn hl (r:=.ok (.rt (false,.tup [.dc [] [],.non,.non])))]
 ·rfl
 intro c4;rw[J4 hn];have hc:∀c4:Sl,(λenv=>pb (Ku (aq lT) wC env) λx=>pl (cj [] x.2)) [some (.sh,O),some (.sh,.rl (ss.map .int)),some (.sh,.tup [.rl (ss.map .int),.rl []]),some (.ow,uH []),c4,some (.ow,.rl (([]:List Int).map .int)),none,none]=.ok false:=λc4=>by
  unfold wC;simp only[EV,map_nil,length_nil];rfl
 rw[aT (env':=[some (.sh,O),some (.sh,.rl (ss.map .int)),some (.sh,.tup [.rl (ss.map .int),.rl []]),some (.ow,uH []),c4,some (.ow,.rl (([]:List Int).map .int)),none,none]) (by rw[bu];exact EO (n:=99999) (hc c4))];have z3:3<=sizeLine:=by decide
 simp only[EV,z3,map_nil];rfl
theorem OC(hk:κ < 3)(ok:bA p q ts)(hn:ss.Nodup)(hs:∀x∈ss,x∈nms ts)(hf:yD κ p q ts ss=ss.length){k:Nat}(h:k<ss.length):∃f,nC [lW κ p q ts,.rl (ss.map .int),.tup [.rl ((ss.take k).map .int),.rl []]]=.ok (f,.tup [uH (ss[k]::ss.drop (k+1)),.int ss[k],.int 0]):=by
 have hl:ss.length<=15:=sub_len ok hn hs;have et:ss.take k++[ss[k]]=ss.take (k+1):=(List.take_succ_eq_append_getElem h).symm;have hsub:(ss.take (k+1)).Sublist ss:=acy _ _;have fr:=sE (Bv ok hk) hn hs (hsub.nodup hn) (λy hy=>hsub.subset hy) hf;have ef:=free_eq hk ok (P:=ss.take (k+1)) (λy hy=>hs y (hsub.subset hy)) (by rw[abe];omega);rw[fr,decide_eq_true rfl]at ef;have m:=m3 hk (p:=p) (q:=q) (ts:=ts) (m:="free") (j:=15) (by decide);have nt:=yv hn h;refine⟨false,?_⟩;show pb (bF (aq lT) MS fH [some (.sh,lW κ p q ts),some (.sh,.rl (ss.map .int)),some (.sh,.tup [.rl ((ss.take k).map .int),.rl []]),none,none,none,none,none]) _=_;rw[GH,Bx (la:=ss.take k) hn hl (r:=.ok (.rt (false,.tup [uH (ss[k]::ss.drop (k+1)),.int ss[k],.int 0])))]
 ·rfl
 intro c4;rw[GI hn h];generalize lW κ p q ts=O at *;have hc:(λenv=>pb (Ku (aq lT) wC env) λx=>pl (cj [] x.2)) [some (.sh,O),some (.sh,.rl (ss.map .int)),some (.sh,.tup [.rl ((ss.take k).map .int),.rl []]),some (.ow,uH (ss[k]::ss.drop (k+1))),c4,some (.ow,.rl ((ss[k]::ss.drop (k+1)).map .int)),none,none]=.ok true:=by
  unfold wC;have:((((ss.drop (k+1)).length+1:Nat):Int)>0)=True:=by simp only[gt_iff_lt,eq_iff_iff,iff_true];omega
  simp only[EV,length_map,length_cons,this,decide_true]
 refine vR ?_;rw[bu];refine J3 (n:=99999) hc ?_;rw[Sg];have q1:bu (aq lT) MS (.asg (.one 4) (.met .pop (!5) #[¬0])) [some (.sh,O),some (.sh,.rl (ss.map .int)),some (.sh,.tup [.rl ((ss.take k).map .int),.rl []]),some (.ow,uH (ss[k]::ss.drop (k+1))),c4,some (.ow,.rl ((ss[k]::ss.drop (k+1)).map .int)),none,none]=.ok (.nx [some (.sh,O),some (.sh,.rl (ss.map .int)),some (.sh,.tup [.rl ((ss.take k).map .int),.rl []]),some (.ow,uH (ss[k]::ss.drop (k+1))),some (.sh,.int ss[k]),some (.ow,.rl ((ss.drop (k+1)).map .int)),none,none]):=by rw[bu];rfl
 rw[aT q1];refine vR ?_;rw[KP (n:=2) rfl (by simp only[EV,bf];rfl) (by decide)];show iO _ (Val.int (0+((0:Nat):Int))::_) _=_;rw[iO,aW,b7,bf];simp only[set_cons_succ,set_cons_zero];rw[show (0:Int)+((0:Nat):Int)=0 from rfl];have z1:1<=sizeLine:=by decide
 have z3:3<=sizeLine:=by decide
 have za:((ss.take k).map Val.int).length+([.int ss[k]]:List Val).length<=sizeLine:=by rw[Z4,abe];simp;unfold sizeLine;omega
 have ea:(ss.take k).map Val.int++[.int ss[k]]=(ss.take (k+1)).map .int:=by rw[<-et,aaY];rfl
 rw[OA];rw[aT (jz (f:=true) (by simp only[EV,cM pK,A8,nt,decide_false]))];rw[vR ((Bw (f:=true) (by simp only[EV,cM pK,z1,oQ za,ea,m,kU,ef])).trans (vR (p:=(false,.tup [uH (ss[k]::ss.drop (k+1)),.int ss[k],.int 0])) (by simp only[EV,z3])))];rfl
theorem J6{x:Int}(h:x∉la):∃f,oH [.tup [.rl (la.map .int),.rl []],.int x]=.ok (f,.non):=by
 refine⟨true,?_⟩;have n0:cop [] .t8 (.int x) (.rl ([]:List Val))=some false:=A8 (xs:=[]);show pb (bF (aq JQ) [] fJ [some (.sh,.tup [.rl (la.map .int),.rl []]),some (.sh,.int x),none]) _=_;unfold fJ;rw[aT (env':=[some (.sh,.tup [.rl (la.map .int),.rl []]),some (.sh,.int x),some (.sh,.int 1)])]
 ·simp only[EV,bf]
 rw[KP (n:=2) rfl (by simp only[EV,bf];rfl) (by decide)];show iO _ (Val.int (0+((0:Nat):Int))::Val.int (0+((1:Nat):Int))::[]) _=_;rw[iO,aW,b7,bf];simp only[set_cons_succ,set_cons_zero];rw[show (0:Int)+((0:Nat):Int)=0 from rfl,show (0:Int)+((1:Nat):Int)=1 from rfl];rw[aT (jz (f:=true) (by simp only[EV,cM pK,A8,h,decide_false])),bF,bf]
 try dsimp only
 rw[iO,aW,b7,bf];simp only[set_cons_succ,set_cons_zero];rw[aT (jz (f:=true) (by simp only[EV,cM rm,n0])),bF,bf];rfl
theorem CG(hk:κ < 3)(ok:bA p q ts){P:List Int}(hn:P.Nodup)(hs:∀x∈P,x∈nms ts)(hf:yD κ p q ts P=P.length):∃f,nD [lW κ p q ts,.rl (P.map .int)]=.ok (f,.tup [.rl ((sortI P).map .int),.rl [],.rl []]):=by
 have hl:P.length<=15:=sub_len ok hn hs;have pm:=aaI P;have hn2:(sortI P).Nodup:=pm.nodup_iff.mpr hn;have hs2:∀x∈sortI P,x∈nms ts:=λx hx=>hs x (pm.mem_iff.mp hx);have hf2:=sE (Bv ok hk) hn hs hn2 (λy hy=>pm.mem_iff.mp hy) hf;have hl2:(sortI P).length<=15:=by rw[pm.length_eq];exact hl
 have es:sortI (sortI P)=sortI P:=(abn (abp _) (acp P)).symm;have Zv:rN (aq JR) 17 18 (lW κ p q ts) (sortI P):=by
  refine⟨λk hk'=>?_,?_⟩
  ·obtain⟨f,e⟩:=OC hk ok hn2 hs2 hf2 hk'
   obtain⟨f',e'⟩:=J6 (yv hn2 hk');exact⟨f,_,_,f',e,by
    show lK [] (uH _) (.int _)=_;rw[lP Z9],e'⟩
  ·exact J5 hn2 hl2
 have s1:=sorted_ints (l:=sortI P) (by omega);have s2:=sorted_ints (l:=[]) (by decide);have k0:jX [] (.dc [] [])=some []:=rfl;have z3:3<=sizeLine:=by decide
 refine⟨true,?_⟩;show (match bX (P.map .int) with|some ns=>_|none=>Pr.no)=_;rw[ints_map]
 try dsimp only
 rw[Z7 ⟨Zv,by omega⟩];generalize sortI P=ss at *;unfold rM Bh;rw[es]at s1;rw[show sortI []=[] from rfl]at s2;rw[abh]at s2;simp only[EV,cM pK,cM rm,s1,s2,k0,z3,map_nil]
end
end K31
end
section
open PySem L2 Hv
namespace K31
section
variable {κ:Nat} {p q:Int} {ts:List T3}
theorem GJ(hk:κ < 3)(ok:bA p q ts):yD κ p q ts []=0:=by
 have:=(Bv ok hk).bound aa8 λy hy=>by simp at hy
 simp only[length_nil]at this;omega
theorem yw(hk:κ < 3)(ok:bA p q ts){xs:List Int}(hn:xs.Nodup)(hx:∀x∈xs,x∈nms ts):∃f,∃P:List Int,e9 [.int (κ:Int),ja p q ts,.rl (xs.map .int)]=.ok (f,.rl (P.map .int))/\P.Nodup/\(∀x∈P,x∈xs)/\yD κ p q ts P=P.length:=by
 have hl:=sub_len ok hn hx;have z0:0<=sizeLine:=by decide
 have z1:1<=sizeLine:=by decide
 unfold e9 cY;simp only[EV,fU,z0]
 repeat rw[ly]
 refine bR Val.int (λr:Pr FV=>∃f,∃P:List Int,r=.ok (f,.rl (P.map .int))/\P.Nodup/\(∀x∈P,x∈xs)/\yD κ p q ts P=P.length)
  (λdone env=>∃(P:List Int) (c:Sl),env=[some (.sh,.int (κ:Int)),some (.sh,ja p q ts),some (.sh,.rl (xs.map .int)),some (.ow,.rl (P.map .int)),c]/\P.Sublist done/\yD κ p q ts P=P.length)
  ⟨[],none,rfl,.slnil,by rw[GJ hk ok];rfl⟩ ?_ ?_
 ·rintro pre x post env he ⟨P,c,rfl,sb,fr⟩
  have hxx:x∈xs:=by rw[he];simp
  have hpre:pre.length<xs.length:=by have:=aaS length he;rw[aak,aal]at this;omega
  have WH:=sb.length_le;have hP:∀y∈P++[x],y∈nms ts:=λy hy=>by
   rcases aaF.mp hy with h|h
   ·exact hx y (by rw[he];exact aaL _ (sb.subset h))
   ·rw[aai.mp h];exact hx x hxx
  have er:=sD hk ok hP (by rw[aak,List.length_singleton];omega);have z:(P.map Val.int).length+([.int x]:List Val).length<=sizeLine:=by rw[Z4];simp;unfold sizeLine;omega
  have zz:P.length<sizeLine:=by unfold sizeLine;omega
  have em:P.map Val.int++[.int x]=(P++[x]).map .int:=by rw[aaY];rfl
  by_cases c1:yD κ p q ts (P++[x])=(P.length:Int)+1
  ·refine⟨_,?_,P++[x],some (.sh,.int x),rfl,sb.append (List.Sublist.refl _),by rw[c1,aak];rfl⟩;simp only[EV,aW,z1,oQ z,em,gc,er,length_map,c1,decide_true,zz]
  ·refine⟨_,?_,P,some (.sh,.int x),rfl,sb.trans (List.sublist_append_left _ _),fr⟩;simp only[EV,aW,z1,oQ z,em,gc,er,length_map,c1,decide_false]
 ·rintro env ⟨P,c,rfl,sb,fr⟩;exact⟨bT (P.map Val.int),P,by simp only[EV,bf],sb.nodup hn,λy hy=>sb.subset hy,fr⟩
end
theorem Sh{ms:List Nat}{i:Nat}(h1:(uo (.one i) #[e] B&&(stored (.one i)).all λi=>!ms.contains i)=true)(h2:gm Ψ #[e] env=.ok [.tup vs]) :
  bu Ψ ms (.for (.one i) .seq #[e] B) env=iO (λx env=>pb (pl (ff (.one i) x env)) λenv'=>bF Ψ ms B env') vs env:=by
 rw[bu,h1,lO rfl,h2,bf,KA,b7,bf]
theorem lC{i:Nat}{f:Bool}(hp:(xF e).isSome=false)(h:bH Ψ e env=.ok (f,v)):bu Ψ [] (.asg (.one i) e) env=.ok (.nx (env.set i (some (gS f v,v)))):=by
 rw[bu]
 try dsimp only
 rw[Z8 (by rw[hp];exact Z0),Z8 (by exact Z0),h];rfl
theorem OE{α:Type}(us:List α)(n:Int)(h:0<=n):cA us none (some n)++cA us (some n) none=us:=by
 obtain⟨k,rfl⟩:=aa5 h;unfold cA;rw[HT.v9,HT.v9,HT.z5,HT.z5];simp only[List.drop_zero,Nat.sub_zero];have e:(us.drop (min k us.length)).take (us.length-min k us.length)=us.drop (min k us.length):=List.take_of_length_le (by rw[acf];omega);rw[e,abJ]
theorem Zw(vs:List Val):gT (.isin "tuple") [.tup vs]=.ok (true,.bl true):=oz (t:="tuple") rfl (by decide)
def WI:IE:=(.bin .fdiv (.call 0 #[!0,¬2]) (¬56))
def Si:IE:=(.call 2 #[!0,.slc (!0) (¬3) (.bin .add (¬3) (.bin .mod (!1) (¬15)))])
def Sj:IE:=(.call 3 #[!2])
def Sk:IE:=(.bin .mod (.bin .fdiv (!1) (¬15)) (¬3))
def Sm:IE:=(.call 4 #[.skeys (!3),.call 0 #[!0,¬17]])
def Sn:IE:=(.bin .mod (.call 0 #[!0,¬18]) (.bin .add (.blt .len #[!5]) (¬1)))
def So:IE:=(.call 7 #[!4,!3,.bin .add (.slc (!5) (!6) .no) (.slc (!5) .no (!6))])
def Sq:IE:=(.blt .list #[!7])
def Ss:IE:=(.call 20 #[.call 28 #[!4,!2],!8])
def WJ:IE:=(.or (.cmp .ne (!8) (!7)) (.or (.not (.blt (.isin "tuple") #[!9])) (.cmp .ne (.blt .len #[!9]) (¬3))))
def WK:IE:=(.not (.blt .all #[.comp ["_law_each"] [none] (.one 0) .seq #[!9] .no (.call 29 #[!0])]))
def WL:IE:=(.cmp .ne (.blt .sorted #[.bin .add (.idx (!9) (¬0)) (.idx (!9) (¬1))]) (.blt .sorted #[!7]))
def lB:dg:=#[.iff (.cmp .ne (.call 6 #[!4,!3,!10]) (.blt .len #[!10])) #[.ret (.cst (.bl false))] .nil]
def Su:IE:=(.comp ["_law_name","_law_found"] [none,some 9] (.one 0) .seq #[!7] (.cmp .nin (!0) (.idx (!1) (¬2))) (!0))
def Sv:IE:=(.cmp .eq (.bin .add (.blt .len #[!11]) (.bin .mul (¬2) (.call 6 #[!4,!3,.idx (!9) (¬2)]))) (.blt .len #[!7]))
def fB:dg:=.cons (.ret (.cst (.bl false))) .nil
theorem OF:rO=.cons (.asg (.one 1) WI) #[.asg (.one 2) Si,.asg (.one 3) Sj,.asg (.one 4) Sk,.asg (.one 5) Sm,.asg (.one 6) Sn,.asg (.one 7) So,.asg (.one 8) Sq,.asg (.one 9) Ss,.iff WJ fB .nil,.iff WK fB .nil,.iff WL fB .nil,.for (.one 10) .seq #[.slc (!9) .no (¬2)] lB,.asg (.one 11) Su,.ret Sv]:=rfl
theorem OG(ns:List Int)(hn:ns.length<=63):∃f,KL [.rl (ns.map .int)]=.ok (f,.bl true):=by
 have c2:cE [.rl (ns.map .int),.int 2]=.ok (true,.int (cellAt ns 2)):=kN ns 2;have U5:cE [.rl (ns.map .int),.int 17]=.ok (true,.int (cellAt ns 17)):=kN ns 17;have U6:cE [.rl (ns.map .int),.int 18]=.ok (true,.int (cellAt ns 18)):=kN ns 18;generalize hsz:cellAt ns 2/56=sz at *;have hcl:(cA ns (some 3) (some (3+sz%15))).length<=14:=by obtain⟨k,hk⟩:=aa5 (show 0<=sz%15 by omega);have h:=Ct ns 3 k (by omega);rw[<-hk]at h;omega
 obtain⟨p,q,ts,en,ok,_⟩:=Ot ns (cA ns (some 3) (some (3+sz%15))) hcl;obtain⟨κ,hκ⟩:=aa5 (show 0<=sz/15%3 by omega);have hk:κ < 3:=by omega
 have er:=GG hk ok;have ee:=yt ok;have hN:(nms ts).length<64:=by have:=ie ok;omega
 have sk:jX [] (ja p q ts)=some (nms ts):=by unfold ja;rw[E2 hN,Gp ok]
 have WM:=Ov (nms ts) (cellAt ns 17) hN;have hsub:=r9 (nms ts) (cellAt ns 17);generalize r8 (nms ts) (cellAt ns 17)=l at WM hsub;have Zx:l.Nodup:=hsub.nodup (uF ok);have ZX:l.length<=15:=aay hsub.length_le (ie ok);have htp:decide (0<(l.length:Int)+1)=true:=by rw[abL];omega
 generalize ht:cellAt ns 18%((l.length:Int)+1)=t at *;have ht0:0<=t:=by rw[<-ht];exact Int.emod_nonneg _ (by omega)
 have cl:=OE l t ht0;have pm:(cA l (some t) none++cA l none (some t)).Perm l:=by refine List.perm_append_comm.trans ?_;rw[cl]
 have U9:j5 .add (.rl (cA (l.map Val.int) (some t) none)) (.rl (cA (l.map Val.int) none (some t)))=.ok (bT ((cA l (some t) none++cA l none (some t)).map Val.int),.rl ((cA l (some t) none++cA l none (some t)).map .int)):=by rw[rq,rq,oQ,aaY];have:=pm.length_eq;rw[aak]at this;rw[Z4,Z4,this];unfold sizeLine;omega
 obtain⟨f7,P,ep,S7,hPx,hPf⟩:=yw hk ok (xs:=cA l (some t) none++cA l none (some t)) (pm.nodup_iff.mpr Zx) λx hx=>hsub.subset (pm.mem_iff.mp hx);have hPs:∀x∈P,x∈nms ts:=λx hx=>hsub.subset (pm.mem_iff.mp (hPx x hx));generalize cA l (some t) none++cA l none (some t)=xs at *;have WH:P.length<=15:=sub_len ok S7 hPs;obtain⟨f9,Zy⟩:=CG hk ok S7 hPs hPf;have S8:=aaI P;have Zz:(sortI P).Nodup:=S8.nodup_iff.mpr S7;have ZA:∀x∈sortI P,x∈nms ts:=λx hx=>hPs x (S8.mem_iff.mp hx);have hSf:=sE (Bv ok hk) S7 hPs Zz (λy hy=>S8.mem_iff.mp hy) hPf;have ZC:(sortI P).length<=15:=by rw[S8.length_eq];exact WH
 have es:sortI (sortI P)=sortI P:=(abn (abp _) (acp P)).symm;have ZD:=sorted_ints (l:=P) (by omega);have rS:=sD hk ok ZA ZC;have r0:=sD hk ok (P:=[]) (λy hy=>by simp at hy) (by decide);rw[GJ hk ok]at r0;rw[hSf]at rS;have t1:=pC (l:=sortI P) (by omega) es;have t0:=pC (l:=[]) (by decide) rfl;have WN:=sorted_ints (l:=sortI P) (by omega);rw[es] at WN;generalize sortI P=ss at *;have ne1:=vN P;have ne2:=vN ss;have ZE:P.length<=100000:=by omega
 show ∃f,pb (bF (aq oJ) [] rO [some (.sh,.rl (ns.map .int)),none,none,none,none,none,none,none,none,none,none,none]) _=_;rw[OF];rw[aT (lC (f:=true) (v:=.int sz) rfl (by unfold WI;simp only[EV,iF,c2,jq (show jf 56=true by decide),hsz]))];simp only[set_cons_succ,set_cons_zero,vA];rw[aT (lC (f:=true) (v:=dW p q ts) rfl (by unfold Si;simp only[EV,jE (show decide ((0:Int)<15)=true by decide),KC,rq,vI,en]))];simp only[set_cons_succ,set_cons_zero];obtain⟨m2,hm2,k2⟩:∃m,gS true (dW p q ts)=m/\oq m=true:=⟨_,rfl,mW⟩;rw[hm2];rw[aT (lC (f:=true) (v:=ja p q ts) rfl (by unfold Sj;simp only[EV,k2,sW,ee]))];simp only[set_cons_succ,set_cons_zero];obtain⟨m3,ZF,k3⟩:∃m,gS true (ja p q ts)=m/\oq m=true:=⟨_,rfl,mW⟩;rw[ZF];rw[aT (lC (f:=true) (v:=.int (κ:Int)) rfl (by unfold Sk;simp only[EV,jq (show jf 15=true by decide),jE (show decide ((0:Int)<3)=true by decide),hκ]))];simp only[set_cons_succ,set_cons_zero,vA];rw[aT (lC (f:=true) (v:=.rl (l.map .int)) rfl (by unfold Sm;simp only[EV,k3,sk,iF,U5,vJ,WM]))];simp only[set_cons_succ,set_cons_zero];obtain⟨m5,ZG,k5⟩:∃m,gS true (.rl (l.map .int))=m/\oq m=true:=⟨_,rfl,mW⟩;rw[ZG];rw[aT (lC (f:=true) (v:=.int t) rfl (by unfold Sn;simp only[EV,k5,iF,U6,length_map,jE htp,ht]))];simp only[set_cons_succ,set_cons_zero,vA];rw[aT (lC (f:=f7) (v:=.rl (P.map .int)) rfl (by unfold So;simp only[EV,k3,k5,KC,U9,nH,ep]))];simp only[set_cons_succ,set_cons_zero];obtain⟨m7,ZH,k7⟩:∃m,gS f7 (.rl (P.map .int))=m/\oq m=true:=⟨_,rfl,mW⟩;rw[ZH];rw[aT (lC (f:=true) (v:=.rl (P.map .int)) rfl (by unfold Sq;simp only[EV,k7,r6]))];simp only[set_cons_succ,set_cons_zero];obtain⟨m8,ZI,k8⟩:∃m,gS true (.rl (P.map .int))=m/\oq m=true:=⟨_,rfl,mW⟩;rw[ZI];rw[aT (lC (f:=f9) (v:=.tup [.rl (ss.map .int),.rl [],.rl []]) rfl (by unfold Ss;simp only[EV,k2,k8,sY,er,sX,Zy]))];simp only[set_cons_succ,set_cons_zero];obtain⟨m9,ZJ,k9⟩:∃m,gS f9 (.tup [.rl (ss.map .int),.rl [],.rl []])=m/\oq m=true:=⟨_,rfl,mW⟩;rw[ZJ];generalize dW p q ts=N at *;generalize ja p q ts=D at *;rw[aT (jz (f:=true) (by unfold WJ;simp only[EV,k7,k8,k9,ne1,Zw];rfl))];have ZK:([.rl (ss.map .int),.rl [],.rl []]:List Val)=([ss,[],[]]:List (List Int)).map λl=>Val.rl (l.map .int):=rfl;rw[aT (jz (f:=true) (by
  unfold WK;have h3:([.rl (ss.map .int),.rl [],.rl []]:List Val).length<=100000:=by simp
  have al:gT .all [.rl [.bl Bool.true,.bl Bool.true,.bl Bool.true]]=.ok (Bool.true,.bl Bool.true):=rfl;simp only[EV,k9,KA,iM,h3];rw[ZK,gH (λl:List Int=>Val.rl (l.map .int)) (λ_=>Val.bl true) [ss,[],[]] (λl hl=>by
   have tl:cU [.rl (l.map .int)]=.ok (true,.bl true):=by
    rcases aao.mp hl with rfl|hl
    ·exact t1
    ·rcases aao.mp hl with rfl|hl
     ·exact t0
     ·rw[aai.mp hl];exact t0
   simp only[EV,aW,nI,tl])]
  simp only[EV,map_cons,map_nil,al]))]
 have za:(ss.map Val.int).length+([]:List Val).length<=sizeLine:=by rw[Z4];simp;unfold sizeLine;omega
 rw[aT (jz (f:=true) (by
  unfold WL;simp only[EV,k7,k9,cM pK,cM rm,oQ za,List.append_nil,ZD,WN,ne2]))]
 have hfr:bu (aq oJ) [] (.for (.one 10) .seq #[.slc (!9) .no (¬2)] lB) [some (.sh,.rl (ns.map .int)),some (.sh,.int sz),some (m2,N),some (m3,D),some (.sh,.int (κ:Int)),some (m5,.rl (l.map .int)),some (.sh,.int t),some (m7,.rl (P.map .int)),some (m8,.rl (P.map .int)),some (m9,.tup [.rl (ss.map .int),.rl [],.rl []]),none,none]=.ok (.nx [some (.sh,.rl (ns.map .int)),some (.sh,.int sz),some (m2,N),some (m3,D),some (.sh,.int (κ:Int)),some (m5,.rl (l.map .int)),some (.sh,.int t),some (m7,.rl (P.map .int)),some (m8,.rl (P.map .int)),some (m9,.tup [.rl (ss.map .int),.rl [],.rl []]),some (.sh,.rl []),none]):=by
  have sl:zC (.tup [.rl (ss.map .int),.rl [],.rl []]) none (some 2)=.ok (false,.tup [.rl (ss.map .int),.rl []]):=rfl;rw[Sh (vs:=[.rl (ss.map .int),.rl []]) rfl (by simp only[EV,k9,sl])];rw[iO,aW,b7,bf];simp only[set_cons_succ,set_cons_zero];unfold lB;rw[aT (jz (f:=true) (by simp only[EV,k3,iG,rS,length_map,not_true,decide_false];rfl)),bF,bf]
  try dsimp only
  rw[iO,aW,b7,bf];simp only[set_cons_succ,set_cons_zero];rw[abh]at r0;rw[aT (jz (f:=true) (by simp only[EV,k3,iG,r0,length_nil];rfl)),bF,bf];rfl
 rw[aT hfr];have n0:∀y:Int,cop [] .nin (.int y) (.rl ([]:List Val))=some true:=λy=>rD (xs:=[]);rw[aT (lC (f:=true) (v:=.rl (P.map .int)) rfl (by
  unfold Su;simp only[EV,k7,fU,iM,k9,length_map,ZE];rw[ju Val.int Val.int (λ_=>Bool.true) P (λy hy=>by
   simp only[EV,aW,cM RO,n0])]
  rw[show P.filter (λ_=>Bool.true)=P from acq.mpr λ_ _=>rfl];rfl))]
 simp only[set_cons_succ,set_cons_zero];obtain⟨ZY,Va,ZL⟩:∃m,gS true (.rl (P.map .int))=m/\oq m=true:=⟨_,rfl,mW⟩;rw[Va];refine⟨true,?_⟩;rw[abh]at r0;have mu:jA 2 0=true:=by decide
 unfold Sv;simp only[EV,ZL,k3,k7,k9,cM RO,iG,r0,EL mu,length_map,Int.mul_zero,Int.add_zero,decide_true]
theorem true(ns:List Int)(hn:ns.length<=63):∃h',FT [.rl (ns.map .int)] []=.ok (.bl true) h':=by
 obtain⟨f,e⟩:=OG ns hn;exact JV e
end K31
end
end
section
namespace PySem.W.Fast
theorem tw3745232497663523122:True:=trivial
theorem tw3665981040142678850:True:=trivial
theorem tw827525670131459556:True:=trivial
theorem tw5152606200684014454:True:=trivial
theorem tw14570713999151477837:True:=trivial
theorem tw5777527903562301040:True:=trivial
theorem tw2113613189293978204:True:=trivial
theorem tw9306101239509116401:True:=trivial
theorem tw11387688426816282280:True:=trivial
theorem tw21903443885563680:True:=trivial
theorem tw10612732944591006984:True:=trivial
theorem tw2498959669121511998:True:=trivial
theorem tw11608970794061724114:True:=trivial
theorem tw12225534577660223971:True:=trivial
theorem tw18236718544922677235:True:=trivial
theorem tw17229262682326109921:True:=trivial
theorem tw3438607546903375788:True:=trivial
theorem tw16762805418273489343:True:=trivial
theorem tw6697806743129852211:True:=trivial
theorem tw1715884810048811379:True:=trivial
theorem tw9737007852859049643:True:=trivial
theorem tw826388956892047285:True:=trivial
theorem tw11721710659532774932:True:=trivial
theorem tw9280206666757462954:True:=trivial
theorem tw16919560426918352742:True:=trivial
theorem tw16903350011284058179:True:=trivial
theorem tw1348430529464817782:True:=trivial
theorem tw17508948515392004544:True:=trivial
theorem tw4457549593793749149:True:=trivial
theorem tw3353323480027092669:True:=trivial
theorem tw3806124534686846268:True:=trivial
theorem tw14762567529766962502:True:=trivial
theorem tw17025991563615433740:True:=trivial
theorem tw3808853847238221910:True:=trivial
theorem tw18251401993926237748:True:=trivial
theorem tw3836719209203932983:True:=trivial
theorem tw17123548315636809113:True:=trivial
theorem tw6087934564097340175:True:=trivial
theorem tw2463176412913216605:True:=trivial
theorem tw14314064295439735722:True:=trivial
theorem tw17731275778024142824:True:=trivial
theorem tw1091075884025595682:True:=trivial
theorem tw6304393461349742333:True:=trivial
theorem tw1342304124637764929:True:=trivial
theorem tw12415803552698677611:True:=trivial
theorem tw5038724380487434258:True:=trivial
theorem tw15926508785988847681:True:=trivial
theorem tw18417513232982016108:True:=trivial
theorem tw16977109534303397122:True:=trivial
theorem tw14090262254066594373:True:=trivial
theorem tw9744345633955874162:True:=trivial
theorem tw11916403663527554415:True:=trivial
theorem tw16976148493274910056:True:=trivial
theorem tw6691407368165687710:True:=trivial
theorem tw315832450469412010:True:=trivial
theorem tw410400864557107003:True:=trivial
theorem tw7876669598931941885:True:=trivial
theorem tw8066945294066027569:True:=trivial
theorem tw3605582131710493231:True:=trivial
theorem tw10011958105984139377:True:=trivial
theorem tw17968728438166145922:True:=trivial
theorem tw2971400367311462781:True:=trivial
theorem tw2901365948997006124:True:=trivial
theorem tw726057150735987243:True:=trivial
theorem tw3149329516680061662:True:=trivial
theorem tw1262801648790552302:True:=trivial
theorem tw16868566524271348647:True:=trivial
theorem tw1975308685854484678:True:=trivial
theorem tw3035360888400409660:True:=trivial
theorem tw13200882417746154659:True:=trivial
theorem tw18311926302303909184:True:=trivial
theorem tw4434374756967536089:True:=trivial
theorem tw1541196539138161751:True:=trivial
theorem tw5591803926283069541:True:=trivial
theorem tw10921936657576685882:True:=trivial
theorem tw12163603960638683291:True:=trivial
theorem tw9613861677164154713:True:=trivial
theorem tw14445623183121082557:True:=trivial
theorem tw8514349410771260762:True:=trivial
theorem tw7174928580944467869:True:=trivial
theorem tw481683570661809649:True:=trivial
theorem tw8457794812871044239:True:=trivial
theorem tw10036373841720340136:True:=trivial
theorem tw4533651798643354260:True:=trivial
theorem tw5207464902399346404:True:=trivial
theorem tw9231053514690823173:True:=trivial
theorem tw3944387890145541434:True:=trivial
theorem tw2299254464014394193:True:=trivial
theorem tw10980722772199634865:True:=trivial
theorem tw11647051198479067008:True:=trivial
end PySem.W.Fast
open PySem PySem.W PyProof.Rows
set_option maxRecDepth 100000 in
set_option maxHeartbeats 0 in
theorem PySem.Challenge.cw_linkorcut_k31_free_rows_packed_whole_holds : PySem.Challenge.rw_linkorcut_k31_free_rows_packed_whole.Holds := by
 w_on;o_law;k_head;(case hw=>w_witness2)
 k_fill
 refine Hv.walk (l:=PySem.Challenge.rw_linkorcut_k31_free_rows_packed_whole) (k:=62) (x:="_law_script") rfl rfl ⟨rfl,by decide,by decide⟩ (λw h Y=>PySem.W.kIn_of Y) ?F
 case F=>
  intro w mg fa h KX G hmg;refine' K31.all_mk KX G hmg K31.true ?_ ?_ ?_ ?_ ?_ ?_ ?_ ?_ ?_ ?_ ?_ ?_ ?_ ?_ ?_ ?_ ?_ ?_ ?_ ?_ ?_ ?_ ?_ ?_ ?_ ?_ ?_ ?_ ?_ ?_ ?_ ?_ ?_ ?_ ?_ ?_ ?_ ?_ ?_ ?_ ?_ ?_ ?_ ?_ ?_ ?_ ?_ ?_ ?_ ?_ ?_ ?_ ?_ ?_ ?_ ?_ ?_ ?_ ?_ ?_ ?_ ?_ ?_ ?_ ?_ ?_ ?_ ?_ ?_ ?_ ?_ ?_ ?_ ?_ ?_ ?_ ?_ ?_ ?_ ?_ ?_ ?_ ?_ ?_ ?_ ?_ ?_ ?_ ?_ ?_ ?_ ?_ ?_ ?_ ?_ ?_ ?_ ?_ ?_ ?_ ?_ ?_ ?_ ?_ ?_ ?_ ?_ ?_ ?_ ?_ ?_ ?_ ?_ ?_ ?_ ?_
  all_goals try first|k_is|exact⟨_,L2.fun_mk (by k_is) (by k_is) (by k_is)⟩|(intro x hx;simp only[Hv.bltNames,List.mem_cons,List.not_mem_nil,or_false]at hx;rcases hx with rfl|rfl|rfl|rfl|rfl|rfl|rfl|rfl|rfl|rfl|rfl|rfl|rfl|rfl|rfl|rfl|rfl<;>k_is)
#print axioms PySem.Challenge.cw_linkorcut_k31_free_rows_packed_whole_holds
end
