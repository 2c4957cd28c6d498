import PyProof.Rows.All
import Wide.All
import OpenK.AllK
import Wide.FinOn
import Lean
import PyProof.EqAt
import PyProof.EqKinds
import PyProof.TupleCall
import KE.KDictList
import KE.KDictLaws
import KE.KDictSum
import KE.KRevSl
import PyProof.DictWalks
import PyProof.ExcInit
import PyProof.ExcClass2
import PyProof.StationsW
import PyProof.InstStore
import PyProof.InstStoreFacts
import PyProof.ExcBaseAll.ValueError
import PyProof.RulesAs
import PyProof.NsDelKeeps
import PyProof.ExcAttrAll.ValueError
import KE.KIsAll
import PySem.Challenge.RW_linkorcut_k02_nets_refused
set_option Elab.async false
set_option compiler.extract_closed false
set_option linter.all false
set_option maxRecDepth 100000
set_option maxHeartbeats 4000000
set_option genSizeOf false
set_option backward.eqns.nonrecursive false
set_option backward.eqns.deepRecursiveSplit false
set_option bootstrap.genMatcherCode false
set_option hygiene false
local macro_rules
|`(def $n:declId $s:optDeclSig $v:declVal)=>`(noncomputable def $n:declId $s:optDeclSig $v:declVal)
|`(abbrev $n:declId $s:optDeclSig $v:declVal)=>`(noncomputable abbrev $n:declId $s:optDeclSig $v:declVal)
local macro_rules
|`(#[$a])=>`(.cons $a .nil)
|`(#[$a,$as,*])=>`(.cons $a #[$as,*])
local macro_rules
|`(!$n:num)=>`(.var $n)
local macro_rules
|`(¬$n:num)=>`(.cst (.int $n))
set_option hygiene true
open Array(toList)
open Bool(and_eq_true false_eq_true not_eq_true' or_eq_true)
open List(all_eq_true any_map cons_append contains_cons find?_cons getElem?_cons_succ length length_append length_cons length_map length_nil lookup_cons map_cons map_id map_map map_nil mem_append mem_cons mem_range nil_append not_mem_nil of_mem_zip range' replicate size_toArray toArray)
open Nat(mod_lt reduceAdd)
open Option(bind_some getD_none isSome_some map_some)
open PySem.W(codeIn eq_sortI findIn findObj handedIn hasDictIn hideAll kat_lt keepIn kitAny kitOne kitx_list lookIn looks_clsIn looks_find looks_mroIn methodObj notCls osa_eq specialIn takesIn typeIn)
def Z2:=@PySem.wpAny_bind
def Z3:=@Bool.false_ne_true
def Z4:=@PySem.Heap.get?_push_of_some
def Z5:=@Option.bind_eq_some_iff
def Z6:=@List.mem_cons_of_mem
def Z7:=@PySem.wpAny_pure
def Z8:=@List.length_map
def Z9:=@List.getElem?_eq_some_iff
def aaa:=@List.getElem?_set_ne
def aab:=@PySem.W.mg_of
def aac:=@if_neg
def aad:=@List.mem_cons_self
def aae:=@if_pos
def aaf:=@PySem.Heap.lt_size
def aag:=@Nat.le_refl
def aah:=@List.size_toArray
def aai:=@Nat.lt_of_lt_of_le
def aaj:=@Nat.ne_of_lt
def aak:=@List.getElem?_set_self
def aal:=@List.mem_cons
def aam:=@PySem.Heap.get?_push_size
def aan:=@List.getElem?_append_left
def aao:=@List.length_append
def aap:=@List.map_cons
def aaq:=@Option.some.inj
def aar:=@List.prefix_refl
def aas:=@Classical.choose_spec
def aat:=@List.mem_of_getElem?
def aau:=@List.mem_singleton
def aav:=@of_decide_eq_true
def aaw:=@Option.map_eq_some_iff
def aax:=@List.getElem?_append_right
def aay:=@List.getElem?_map
def aaz:=@List.mem_append_right
def aaA:=@List.getElem?_eq_getElem
def aaB:=@PySem.wpAny_mono
def aaC:=@List.length_cons
def aaD:=@PySem.Heap.get?_update_self
def aaE:=@Array.length_toList
def aaF:=@PySem.wpAny_newObj_type
def aaG:=@Nat.le_trans
def aaH:=@Nat.lt_irrefl
def aaI:=@PySem.wpAny_Call_Name_kw
def aaJ:=@List.append_nil
def aaK:=@Array.getElem?_eq_getElem
def aaL:=@PySem.Obj.data_mapFields
def aaM:=@PySem.wpAny_holding
def aaN:=@PySem.wpAny_truthy_bool
def aaO:=@PySem.mem_of_lookup
def aaP:=@PySem.Heap.SameBut.update
def aaQ:=@Nat.le_succ
def aaR:=@PySem.Heap.size_push
def aaS:=@PySem.W.hideAll_none
def aaT:=@Nat.lt_succ_self
def aaU:=@PyProof.Rows.callWith_type1
def aaV:=@PySem.Heap.get?_update_other
def aaW:=@Array.getElem?_eq_some_iff
def aaX:=@beq_eq_false_iff_ne
def aaY:=@PySem.W.hideAll_get
def aaZ:=@PySem.sizeLine_eq
def aa0:=@List.nodup_cons
def aa1:=@PySem.W.kia_one
def aa2:=@List.prefix_append
def aa3:=@congrArg
def aa4:=@Nat.lt_succ_of_lt
def aa5:=@PySem.wpAny_setState_of
def aa6:=@PySem.wpAny_loadPart_at
def aa7:=@PyProof.Rows.KeyOrd.kle_refl
def aa8:=@List.filterMap_cons
def aa9:=@List.map_congr_left
def aba:=@PyProof.Rows.F.plain_set_update_loop
def abb:=@Nat.le_of_lt
def abc:=@PySem.wpAny_standAt
def abd:=@Nat.zero_le
def abe:=@Bool.and_eq_true
def abf:=@True.intro
def abg:=@PySem.Obj.isFreed_of_fields
def abh:=@List.getElem?_eq_none_iff
def abi:=@List.mem_append_left
def abj:=@PySem.Around.under_plainId
def abk:=@Bool.true_and
def abl:=@List.length_take
def abm:=@PySem.wpAny_call_entry
def abn:=@Int.eq_ofNat_of_zero_le
def abo:=@List.eq_nil_of_length_eq_zero
def abp:=@Nat.ne_of_gt
def abq:=@PySem.codeAny_mono
def abr:=@PySem.W.cellsFrom_some
def abt:=@List.map_nil
def abu:=@PySem.W.sortI_perm
def abv:=@List.map_map
def abw:=@PySem.W.mg_none_of
def abx:=@List.mem_append
def aby:=@PySem.codeAny_builtin
def abz:=@List.map_append
def abA:=@List.any_cons
def abB:=@PySem.wpAny_pyIter_list
def abC:=@List.nodup_append
def abD:=@decide_eq_true_eq
def abE:=@List.nodup_nil
def abF:=@PySem.wpAny_setField
def abG:=@PySem.W.looks_findIn
def abH:=@List.all_eq_true
def abI:=@List.getElem?_zip_eq_some
def abJ:=@List.pairwise_iff_getElem
def abK:=@PySem.Heap.get?_update_ne
def abL:=@PySem.wpAny_isSubtype_exc
def abM:=@PySem.wpAny_execs_nil
def abN:=@PySem.wpAny_passesOwn
def abO:=@Array.Perm.refl
def abP:=@PySem.W.KasT.kasWp_bind
def abQ:=@List.nil_append
def abR:=@PySem.W.of_hideAll
def abS:=@PySem.W.callWith_K
def abT:=@PySem.tupleKind_room_in1
def abU:=@List.pairwise_cons
def abV:=@PySem.wpAny_callSpecial?_slot
def abW:=@PySem.F.plainAttrs_list
def abX:=@Option.isSome_map
def abY:=@Nat.lt_trans
def abZ:=@PyProof.Rows.KeyOrd.kle_of_klt
def ab0:=@List.Perm.refl
def ab1:=@List.pairwise_map
def ab2:=@PySem.fits_of_scanBound
def ab3:=@List.mem_iff_getElem?
def ab4:=@PySem.wpAny_call
def ab5:=@List.length_drop
def ab6:=@PyProof.Rows.KeyOrd.kle_trans
def ab7:=@List.ext_getElem
def ab8:=@PySem.plainId_quiet
def ab9:=@PySem.Heap.get?_none_of_le
def acd:=@List.mem_iff_getElem
def ace:=@PySem.codeAny_call_builtin
def acf:=@List.length_set
def acg:=@PySem.W.callWith_K0
def ach:=@List.getElem_of_mem
def ack:=@Int.emod_lt_of_pos
def aco:=@List.Pairwise.nil
def acp:=@List.length_range
def acu:=@List.getElem_map
def acv:=@List.getElem_mem
def acw:=@PySem.W.any_some
def acy:=@List.mem_map
open PySem.W(Frag sortI nsIn fnOf isFn)
section
namespace L2
open PySem PySem.Spec PyProof.Rows
abbrev Key:=Sum Int Str
def rK:Key->Value->Bool
 |.inl k,v=>Value.isInt k v
 |.inr x,v=>Value.isStrOf x v
def SM(w:World):Key->Int
 |.inl k=>hashInt k
 |.inr x=>hashStr w x
theorem bQ:∀{k:Key} {v:Value},rK k v=true->(∃i t,k=Sum.inl i/\v=Value.int i t)\/(∃x t,k=Sum.inr x/\v=Value.str x t)
 | .inl i,v,h=>by
  obtain⟨t,e⟩:=Value.isInt_shape (k:=i) (v:=v) h;exact .inl ⟨i,t,rfl,e⟩
 | .inr x,v,h=>by
  obtain⟨t,e⟩:=Value.isStrOf_shape (x:=x) (v:=v) h;exact .inr ⟨x,t,rfl,e⟩
theorem Au(i:Int)(t:Tok):rK (.inl i) (.int i t)=true:=by simp[rK,Value.isInt]
theorem Av(x:Str)(t:Tok):rK (.inr x) (.str x t)=true:=by simp[rK,Value.isStrOf]
theorem JU(a b:Int):decide ((Sum.inl a:Key)=Sum.inl b)=(a==b):=by
 by_cases e:a=b
 ·subst e;simp
 ·have h:¬ (Sum.inl a:Key)=Sum.inl b:=λq=>e (Sum.inl.inj q);rw[decide_eq_false h];exact(aaX.mpr e).symm
theorem JV(a b:Str):decide ((Sum.inr a:Key)=Sum.inr b)=decide (a=b):=by
 by_cases e:a=b
 ·subst e;simp
 ·have h:¬ (Sum.inr a:Key)=Sum.inr b:=λq=>e (Sum.inr.inj q);rw[decide_eq_false h,decide_eq_false e]
theorem JW(a:Int)(b:Str):decide ((Sum.inl a:Key)=Sum.inr b)=false:=decide_eq_false (λq=>nomatch q)
theorem JX(a:Str)(b:Int):decide ((Sum.inr a:Key)=Sum.inl b)=false:=decide_eq_false (λq=>nomatch q)
def bZ(prog:Program)(w:World):PySem.KeyKind prog w Key where
 is:=rK
 hash:=SM w
 inj:=λv a b ha hb=>by
  rcases bQ ha with ⟨i,t,rfl,rfl⟩|⟨x,t,rfl,rfl⟩
  ·rcases bQ hb with ⟨j,u,rfl,e⟩|⟨y,u,rfl,e⟩
   ·injection e with e1 _;rw[e1]
   ·exact nomatch e
  ·rcases bQ hb with ⟨j,u,rfl,e⟩|⟨y,u,rfl,e⟩
   ·exact nomatch e
   ·injection e with e1 _;rw[e1]
 byValue:=λk v h=>by
  rcases bQ h with ⟨i,t,rfl,rfl⟩|⟨x,t,rfl,rfl⟩<;>rfl
 pyHash:=λhv h=>by
  rcases bQ hv with ⟨i,t,rfl,rfl⟩|⟨x,t,rfl,rfl⟩
  ·exact wpAny_pyHash_int h
  ·exact wpAny_pyHash_str h
 eqBool:=λhu hv h=>by
  rcases bQ hu with ⟨i,t,rfl,rfl⟩|⟨x,t,rfl,rfl⟩
  ·rcases bQ hv with ⟨j,u,rfl,rfl⟩|⟨y,u,rfl,rfl⟩
   ·rw[JU]at h;exact wpAny_eqBool_int h
   ·rw[JW]at h;exact SeqAt.EqAt.int_str i t y u _ _ _ _ h
  ·rcases bQ hv with ⟨j,u,rfl,rfl⟩|⟨y,u,rfl,rfl⟩
   ·rw[JX]at h;exact SeqAt.EqAt.str_int x t j u _ _ _ _ h
   ·rw[JV]at h;exact wpAny_eqBool_str h
 «strs»:=λk x t v h=>by
  rcases bQ h with ⟨i,u,rfl,e⟩|⟨y,u,rfl,e⟩
  ·exact nomatch e
  ·injection e with e1 _
   subst e1;cases v<;>rfl
theorem vg(prog:Program)(w:World)(i:Int)(t:Tok):(bZ prog w).is (.inl i) (.int i t)=true:=Au i t
theorem vh(prog:Program)(w:World)(x:Str)(t:Tok):(bZ prog w).is (.inr x) (.str x t)=true:=Av x t
inductive V where
 |non|bl (b:Bool)|int (i:Int)|str (x:Str)|byt (b:Array UInt8)|flt (b:UInt64)|ref (a:Addr)|ty (n:String)
 deriving DecidableEq
def RelV:V->Value->Prop
 |.non,u=>u=Value.none
 |.bl b,u=>u=Value.bool b
 |.int i,u=>∃t,u=Value.int i t
 |.str x,u=>∃t,u=Value.str x t
 |.byt b,u=>∃t,u=Value.bytes b t
 |.flt b,u=>∃t,u=Value.float b t
 |.ref a,u=>u=Value.ref a
 |.ty n,u=>u=Value.type n
abbrev Vals:List V->List Value->Prop:=Paired RelV
theorem Vals.length(r:Vals xs us):xs.length=us.length:=Paired.length r
theorem Vals.get:∀{xs:List V} {us:List Value} {i:Nat} {x:V},Vals xs us->xs[i]?=some x->∃u,us[i]?=some u/\RelV x u
 |_,_,_,_,.nil,e=>by simp at e
 |_,_,0,_,.cons r _,e=>by simp at e;subst e;exact⟨_,rfl,r⟩
 | _,_,i+1,x,.cons _ t,e=>by
  obtain⟨u,h1,h2⟩:=Vals.get (i:=i) (x:=x) t (by simpa using e);exact⟨u,by simpa using h1,h2⟩
theorem Vals.set(r:RelV x u):∀{xs:List V} {us:List Value} (i:Nat),Vals xs us->Vals (xs.set i x) (us.set i u)
 |_,_,_,.nil=>.nil
 |_,_,0,.cons _ t=>.cons r t
 |_,_,i+1,.cons q t=>.cons q (Vals.set r i t)
theorem Vals.append:∀{xs ys:List V} {us ws:List Value},Vals xs us->Vals ys ws->Vals (xs++ys) (us++ws)
 |_,_,_,_,.nil,s=>s
 |_,_,_,_,.cons r t,s=>.cons r (Vals.append t s)
theorem Vals.take:∀{xs:List V} {us:List Value} (n:Nat),Vals xs us->Vals (xs.take n) (us.take n)
 |_,_,0,_=>.nil
 |_,_,_+1,.nil=>.nil
 |_,_,n+1,.cons r t=>.cons r (Vals.take n t)
theorem Vals.drop:∀{xs:List V} {us:List Value} (n:Nat),Vals xs us->Vals (xs.drop n) (us.drop n)
 |_,_,0,r=>r
 |_,_,_+1,.nil=>.nil
 |_,_,n+1,.cons _ t=>Vals.drop n t
def ou:Option V->Option Value->Prop
 |some v,some u=>RelV v u
 |none,none=>True
 |_,_=>False
def KV{κ:Type}:List (κ × V)->List (κ × Value)->Prop:=Paired λ(p:κ × V) (q:κ × Value)=>p.1=q.1/\RelV p.2 q.2
def kV:Key->V
 |.inl i=>.int i
 |.inr x=>.str x
inductive HO where
  |lst (xs:List V)
  |tup (xs:List V)
  |dK (kvs:List (Key×V))|dT (kvs:List (List Key×V))
  |set (S:Int->Bool) (n:Nat)
  |ins (C dx:Addr) (fs:List (Str×V))
  |own (x:Addr)
  |xd (fs:List (Str×V))
  |met (f x:Addr)
  |rng (lo hi:Int)
  |rL (o:Obj) (u:HO)
  |tbl (ps:Array Value)
  |ext (φ:Heap->Prop)
abbrev Hp:=Addr->Option HO
def upd(H:Hp)(a:Addr)(o:HO):Hp:=λb=>if b=a then some o else H b
theorem au:upd H a o a=some o:=by unfold upd;rw[aae rfl]
theorem ao(h:b≠a):upd H a o b=H b:=by unfold upd;rw[aac h]
theorem N7{H:Hp}{a b:Addr}{o u:HO}(h:H a=some o)(h':H b=some u)(d:o≠u):a≠b:=by
 intro e;subst e;rw[h]at h';exact d (aaq h')
theorem aC{H:Hp}{a b:Addr}{o:HO}(h:H a=some o)(h':H b=none):a≠b:=by
 intro e;subst e;rw[h]at h';cases h'
section
variable (P:Program) (w:World)
def bF(H:Hp)(h:Heap)(a:Addr):HO->Prop
 |.lst xs=>xs.length<=sizeLine/\∃(its:List Value) (n:Nat),Vals xs its/\h.get? a=some { cls:=.type "list",data:=.seq its.toArray n }
 |.tup xs=>xs.length<=sizeLine/\∃its:List Value,Vals xs its/\IsTup h a its.toArray
 |.dK kvs=>kvs.length<=sizeLine/\(a==sysModules)=false/\∃vs,KV kvs vs/\h.DictOf (bZ P w) a vs
 | .dT kvs=>kvs.length<=sizeLine/\(a==sysModules)=false/\∃xs:List (List Key×Addr×Value),
   Paired (λ(p:List Key×V) (q:List Key×Addr×Value)=>p.1=q.1/\H q.2.1=some (.tup (p.1.map kV))/\RelV p.2 q.2.2) kvs xs /\
   ∃o es ep,h.get? a=some o/\o.ExactDict/\o.data=.dict es ep/\es.toList=xs.map (entryOfKey (tupleKind (bZ P w)))/\(xs.map (·.1)).Nodup
 |.set S n=>h.SetOf (intKind P w) a S n
 | .ins C dx fs=>H dx=some (.own a)/\fs.length<=1000/\dx≠a/\h.get? a=some (PySem.W.instObj C dx) /\
   ∃mA,h.Ns1 dx mA/\(∀f,ou (fs.lookup f) (mA f))/\PySem.Within mA (fs.map (·.1))
 |.own _=>∃o,h.get? a=some o
 |.xd fs=>∃mA,h.Ns1 a mA/\∀f,ou (fs.lookup f) (mA f)
 |.rng lo hi=>∃t u v,h.get? a=some { cls:=.type "range",data:=.fields [.int lo t,.int hi u,.int 1 v].toArray }
 |.rL o u=>h.get? a=some o/\bF H h a u
 |.tbl ps=>h.get? a=some { cls:=.none,data:=.fields ps }
 |.met f x=>h.get? a=some (methodObj (.ref f) (.ref x))
 |.ext φ=>φ h/\(∃o,h.get? a=some o)/\∀h1 h2:Heap,φ h1->(∀o,h1.get? a=some o->h2.get? a=some o) -> φ h2
def iL(H:Hp)(h:Heap):Prop:=∀a o,H a=some o->bF P w H h a o
end
section
variable {P:Program} {w:World} {H H':Hp} {h h':Heap} {a:Addr} {o:HO}
theorem bF.lt(x:bF P w H h a o):a<h.objs.size:=by
 cases o with
 |lst xs=>obtain⟨_,_,_,_,e⟩:=x;exact aaf e
 |tup xs=>obtain⟨_,_,_,p⟩:=x;exact p.lt
 |dK kvs=>obtain⟨_,_,_,_,o,_,_,e,_⟩:=x;exact aaf e
 |dT kvs=>obtain⟨_,_,_,_,o,_,_,e,_⟩:=x;exact aaf e
 |set S n=>obtain⟨o,_,_,_,e,_⟩:=x;exact aaf e
 |ins C dx fs=>obtain⟨_,_,_,e,_⟩:=x;exact aaf e
 |own y=>obtain⟨_,e⟩:=x;exact aaf e
 |xd fs=>obtain⟨_,⟨_,_,_,e,_⟩,_⟩:=x;exact aaf e
 |rng lo hi=>obtain⟨_,_,_,e⟩:=x;exact aaf e
 |rL ob u=>obtain⟨e,_⟩:=x;exact aaf e
 |tbl ps=>exact aaf (show h.get? a=some _ from x)
 |met f y=>exact aaf (show h.get? a=some _ from x)
 |ext φ=>obtain⟨_,⟨_,e⟩,_⟩:=x;exact aaf e
theorem Paired.JY{α β:Type}{F G:α -> β -> Prop}:∀{l₁:List α} {l₂:List β},Paired F l₁ l₂->(∀a b,F a b->G a b)->Paired G l₁ l₂
 |_,_,.nil,_=>.nil
 |_,_,.cons r t,f=>.cons (f _ _ r) (Paired.JY t f)
theorem bF.stay(x:bF P w H h a o)(k:∀b u,(b=a\/H b=some (.own a))->h.get? b=some u->h'.get? b=some u)
  (ho:∀b,H b=some (.own a)->H' b=some (.own a)) (ht:∀b xs,H b=some (.tup xs)->H' b=some (.tup xs)):bF P w H' h' a o:=by
 induction o with
 |lst xs=>obtain⟨z,its,n,r,e⟩:=x;exact⟨z,its,n,r,k _ _ (.inl rfl) e⟩
 |tup xs=>obtain⟨z,its,r,ob,e,c⟩:=x;exact⟨z,its,r,ob,k _ _ (.inl rfl) e,c⟩
 |dK kvs=>obtain⟨z,y,vs,r,ob,es,ep,e,c⟩:=x;exact⟨z,y,vs,r,ob,es,ep,k _ _ (.inl rfl) e,c⟩
 |dT kvs=>obtain⟨z,y,xs,r,ob,es,ep,e,c⟩:=x;exact⟨z,y,xs,Paired.JY r λp q z=>⟨z.1,ht _ _ z.2.1,z.2.2⟩,ob,es,ep,k _ _ (.inl rfl) e,c⟩
 |set S n=>obtain⟨ob,es,ep,t,e,c⟩:=x;exact⟨ob,es,ep,t,k _ _ (.inl rfl) e,c⟩
 |ins C dx fs=>obtain⟨d,z,ne,e,mA,⟨od,es,ep,e2,c⟩,r⟩:=x;exact⟨ho _ d,z,ne,k _ _ (.inl rfl) e,mA,⟨od,es,ep,k _ _ (.inr d) e2,c⟩,r⟩
 |own y=>obtain⟨ob,e⟩:=x;exact⟨ob,k _ _ (.inl rfl) e⟩
 |xd fs=>obtain⟨mA,⟨od,es,ep,e,c⟩,r⟩:=x;exact⟨mA,⟨od,es,ep,k _ _ (.inl rfl) e,c⟩,r⟩
 |rng lo hi=>obtain⟨t,u,v,e⟩:=x;exact⟨t,u,v,k _ _ (.inl rfl) e⟩
 |rL ob u ih=>obtain⟨e,q⟩:=x;exact⟨k _ _ (.inl rfl) e,ih q⟩
 |tbl ps=>have e:h.get? a=some { cls:=.none,data:=.fields ps }:=x;show h'.get? a=some { cls:=.none,data:=.fields ps };exact k a _ (.inl rfl) e
 |met f y=>have e:h.get? a=some (methodObj (.ref f) (.ref y)):=x;show h'.get? a=some (methodObj (.ref f) (.ref y));exact k a _ (.inl rfl) e
 |ext φ=>obtain⟨p,⟨o,e⟩,st⟩:=x;exact⟨st _ _ p λo q=>k _ _ (.inl rfl) q,⟨o,k _ _ (.inl rfl) e⟩,st⟩
theorem iL.lt(x:iL P w H h)(e:H a=some o):a<h.objs.size:=(x a o e).lt
theorem iL.fresh(x:iL P w H h)(e:h.objs.size<=a):H a=none:=by
 cases q:H a with
 |none=>rfl
 |some u=>exact absurd (aai (x.lt q) e) (aaH _)
theorem iL.kept(x:iL P w H h)(k:∀b u,h.get? b=some u->h'.get? b=some u):iL P w H h':=λa o e=>
 (x a o e).stay (λb u _ q=>k b u q) (λ_ q=>q) λ_ _ q=>q
theorem iL.laid(x:iL P w H h)(k:∀b u,h.get? b=some u->h'.get? b=some u)(hp:h.objs.size<=a)(new:bF P w (upd H a o) h' a o):iL P w (upd H a o) h':=λb u e=>by
 have hn:=x.fresh hp
 by_cases hb:b=a
 ·subst hb;rw[au]at e;cases e;exact new
 ·rw[ao hb]at e;exact(x b u e).stay (λc v _ q=>k c v q) (λc q=>by rw[ao (aC q hn)];exact q) λc xs q=>by rw[ao (aC q hn)];exact q
end
def Rd(H:Hp)(a:Addr)(u:HO):Prop:=H a=some u\/∃o,H a=some (.rL o u)
theorem Rd.ok(r:Rd H a u)(x:iL P w H h):bF P w H h a u:=by
 rcases r with r|⟨o,r⟩
 ·exact x a u r
 ·obtain⟨_,q⟩:=x a _ r;exact q
def N8:Option HO->Prop
 |some (.lst _)=>True
 |some (.dK _)=>True
 |some (.dT _)=>True
 |some (.set _ _)=>True
 |some (.ins _ _ _)=>True
 |some (.ext _)=>True
 |_=>False
section
variable {P:Program} {w:World} {H:Hp} {h h':Heap} {x e:Addr} {o':HO}
theorem iL.write(ok:iL P w H h)(mu:N8 (H x))(he:e=x\/H e=some (.own x))(k:∀b u,b≠e->h.get? b=some u->h'.get? b=some u)(NP:∃u,h'.get? e=some u)
  (new:bF P w (upd H x o') h' x o'):iL P w (upd H x o') h':=λb u q=>by
 have nown:∀c y,H c=some (.own y)->c≠x:=λc y r z=>by subst z;rw[r]at mu;exact mu
 have ntup:∀c xs,H c=some (.tup xs)->c≠x:=λc xs r z=>by subst z;rw[r]at mu;exact mu
 by_cases hb:b=x
 ·subst hb;rw[au]at q;cases q;exact new
 ·rw[ao hb]at q
  by_cases JZ:b=e
  ·have q':H b=some (.own x):=by
    rcases he with z|z
    ·exact absurd (JZ.trans z) hb
    ·rw[JZ];exact z
   rw[q]at q';cases q';obtain⟨v,hv⟩:=NP;exact⟨v,by rw[JZ];exact hv⟩
  ·refine(ok b u q).stay (λc v hc r=>k c v ?_ r) (λc r=>by rw[ao (nown c b r)];exact r) λc xs r=>by rw[ao (ntup c xs r)];exact r
   rcases hc with rfl|hc
   ·exact JZ
   ·rintro rfl
    rcases he with z|z
    ·exact nown c b hc z
    ·rw[hc]at z;cases z;exact hb rfl
end
structure Un (fs ex:List Addr) (H H':Hp) (h h':Heap):Prop where
 keep:∀b o,h.get? b=some o->H b=none->b∉fs->b∉ex->h'.get? b=some o
 slot:∀b o,h.get? b=some o->H b=none->b∈fs->b∉ex->∃sl,h'.get? b=some { o with slots:=sl }
 free:∀b o,h.get? b=some o->H b=none->b∉ex->H' b=none
 there:∀b o,h.get? b=some o->b∉ex->∃o',h'.get? b=some o'
 tups:∀b xs,H b=some (.tup xs)->H' b=some (.tup xs)
 frzs:∀b o u,H b=some (.rL o u)->H' b=some (.rL o u)
 kU:∀b ps,H b=some (.tbl ps)->∃more,H' b=some (.tbl (ps++more))
section
variable {fs fs' ex ex':List Addr} {H H1 H2:Hp} {h h1 h2 h':Heap} {a x e:Addr} {o:HO}
theorem Un.any(u:Un fs ex H H1 h h1)(q:h.get? b=some ob)(n:H b=none)(hx:b∉ex):∃sl,h1.get? b=some { ob with slots:=sl }:=by
 by_cases hb:b∈fs
 ·exact u.slot b ob q n hb hx
 ·exact⟨ob.slots,u.keep b ob q n hb hx⟩
theorem Un.kept(k:∀b u,h.get? b=some u->h'.get? b=some u):Un fs ex H H h h' :=
 ⟨λb ob q _ _ _=>k b ob q,λb ob q _ _ _=>⟨ob.slots,k b ob q⟩,λ_ _ _ n _=>n,λb ob q _=>⟨ob,k b ob q⟩,λ_ _ q=>q,λ_ _ _ q=>q,λ_ ps q=>⟨#[],by rw[q];simp⟩⟩
theorem Un.refl:Un fs ex H H h h:=Un.kept λ_ _ q=>q
theorem Un.laid(k:∀b u,h.get? b=some u->h'.get? b=some u)(hp:h.objs.size<=a)(hn:H a=none):Un fs ex H (upd H a o) h h' where
 keep:=λb u q _ _ _=>k b u q
 slot:=λb u q _ _ _=>⟨u.slots,k b u q⟩
 free:=λb u q n _=>by rw[ao (aaj (aai (aaf q) hp))];exact n
 there:=λb u q _=>⟨u,k b u q⟩
 tups:=λb xs q=>by rw[ao (aC q hn)];exact q
 frzs:=λb u xs q=>by rw[ao (aC q hn)];exact q
 kU:=λb ps q=>⟨#[],by rw[ao (aC q hn),q];simp⟩
theorem Un.write(mu:N8 (H x))(he:e=x\/H e=some (.own x))(k:∀b u,b≠e->h.get? b=some u->h'.get? b=some u)(NP:∃u,h'.get? e=some u):Un fs ex H (upd H x o) h h':=by
 have hx:∀b,H b=none->b≠x:=λb n z=>by subst z;rw[n]at mu;exact mu
 have hb:∀b,H b=none->b≠e:=λb n z=>by
  subst z
  rcases he with r|r
  ·exact hx b n r
  ·rw[n]at r;cases r
 have hm:∀b u,H b=some u->¬ N8 (some u)->b≠x:=λb u q nm z=>by subst z;rw[q]at mu;exact nm mu
 refine⟨λb u q n _ _=>k b u (hb b n) q,λb u q n _ _=>⟨u.slots,k b u (hb b n) q⟩,λb u q n _=>by rw[ao (hx b n)];exact n,λb u q _=>?_,
  λb xs q=>by rw[ao (hm b _ q λz=>z)];exact q,λb u xs q=>by rw[ao (hm b _ q λz=>z)];exact q,λb ps q=>⟨#[],by rw[ao (hm b _ q λz=>z),q];simp⟩⟩
 by_cases JZ:b=e
 ·subst JZ;exact NP
 ·exact⟨u,k b u JZ q⟩
end
def R4(h:Heap)(H:Hp):List Addr:=(List.range h.objs.size).filter λa=>(H a).isSome
def tW(h:Heap)(H:Hp):Heap:=hideAll h (R4 h H)
theorem Aw(h:Heap)(H:Hp):(tW h H).objs.size=h.objs.size:=PySem.W.hideAll_size _ _
theorem BZ(e:h.get? b=some o)(n:H b=none):(tW h H).get? b=some o :=
 aaY _ e λhm=>by
  have q:(H b).isSome=true:=(List.mem_filter.mp hm).2;rw[n]at q;simp at q
theorem Fp(e:(tW h H).get? b=some o):h.get? b=some o/\H b=none:=by
 have e':h.get? b=some o:=abR (R4 h H) e;refine⟨e',?_⟩;cases q:H b with
 |none=>rfl
 |some x=>have hm:b∈R4 h H:=List.mem_filter.mpr ⟨mem_range.mpr (aaf e'),by simp[q]⟩;have z:(tW h H).get? b=none:=aaS (R4 h H) hm;rw[z]at e;cases e
def Fq(g h:Heap)(L:Addr):List (Addr×Obj):=(List.range h.objs.size).filterMap λa=>if a=L\/(g.get? a).isSome=true then none else (h.get? a).map λo=>(a,o)
def rest(g h:Heap)(L d:Addr):List (Addr×Obj):=(Fq g h L).filter λp=>decide (p.1≠d)
structure Mod (K:Frag) (mg:Str->Option Value) (base:Heap):Prop where
 NQ:K.In base
 glob:base.Ns mainGlobals mg
 blt:∃mb,base.Ns builtinsNs mb/\∀x:Str,x ≠ "__name__" -> mb x=bootBuiltins x
 nolimit:base.NoLimit
structure Cx where
 prog:Program
 w:World
 K:Frag
 mg:Str->Option Value
 base:Heap
 A:Around
 N:List Str
 s₀:Shared
 H₀:Hp
 env:Env
 outer:List Env
 stack:List Env
 ex:List Addr
 fn:Str->Bool
 calm:Bool
 pn:List (Addr×Obj)
 xe:Value->Shared->Prop
def frs(l:List Env):List Addr:=l.filterMap (·.frame)
abbrev Cx.fs(X:Cx):List Addr:=frs X.outer
def N9(sc:Scope)(x:Str):Prop:=sc.names.lookup x=some .local\/sc.names.lookup x=some .cell\/sc.names.lookup x=some .free
def Loc(sc:Scope)(x:Str):Prop:=sc.names.lookup x=some .local\/sc.names.lookup x=some .cell
def Look(env:Env)(h:Heap)(m:Str->Option Value)(x:Str)(u:Value):Prop :=
 (env.kindOf x=some .local/\m x=some u)\/((env.kindOf x=some .cell\/env.kindOf x=some .free)/\∃c,env.cells.lookup x=some c/\h.IsCell c (some u))
structure Cx.Ok (X:Cx):Prop where
 mod:Mod X.K X.mg X.base
 kind:X.env.scope.kind=.function
 glob:X.env.globals=mainGlobals
 blt:X.env.builtins=builtinsNs
 above:X.s₀.heap.objs.size<=X.env.locals
 inj:∀x y c,X.env.cells.lookup x=some c->X.env.cells.lookup y=some c->x=y
 has:∀x,(X.env.kindOf x=some .cell\/X.env.kindOf x=some .free)->∃c,X.env.cells.lookup x=some c
 NR:∀x c,X.fn x=true->X.env.cells.lookup x=some c->X.s₀.heap.objs.size<=c
 hd:X.calm=true->X.A.handled=none
 frames:X.A.frames=some X.stack
 stk:X.stack=X.outer\/(X.stack=X.env::X.outer/\X.env.frame=some X.env.locals)
 R5:∀b∈X.ex,b≠X.env.locals/\∀x c,X.env.cells.lookup x=some c->c≠b
 bs:∀b o,X.base.get? b=some o->X.s₀.heap.get? b=some o/\X.H₀ b=none
 Ft:X.base.objs.size<=X.s₀.heap.objs.size
 Ax:∀b o,X.base.get? b=some o->b∉X.ex
 Ay:∀b∈X.ex,b∉X.fs
 mO:X.s₀.heap.FunFrames X.base X.outer
 Jc:∀b∈X.fs,X.H₀ b=none
structure Inv (X:Cx) (pins:List (Addr×Obj)) (σ:List (Option V)) (H:Hp) (s:Shared):Prop where
 ok:X.Ok
 os:s.os=X.s₀.os
 bare:AllBare s.gens
 base:Un X.fs X.ex X.H₀ H X.s₀.heap s.heap
 loc:∃m,s.heap.Ns X.env.locals m/\∀(i:Nat) (x:Str) (v:V),X.N[i]?=some x -> σ[i]?=some (some v)->N9 X.env.scope x->∃u,RelV v u/\Look X.env s.heap m x u
 cell:∀x c,X.env.cells.lookup x=some c->∃v,s.heap.IsCell c v
 free:H X.env.locals=none
 fQ:∀x c,X.env.cells.lookup x=some c->H c=none
 pin:∀p∈X.pn++pins,s.heap.get? p.1=some p.2/\H p.1=none/\p.1≠X.env.locals/\p.1∉X.fs/\∀v,p.2.data≠.cell v
 hok:iL X.prog X.w H s.heap
 len:σ.length=X.N.length
section
variable {X:Cx} {pins:List (Addr×Obj)} {σ:List (Option V)} {H H':Hp} {s:Shared} {h':Heap}
theorem Cx.Ok.SN(ok:X.Ok)(e:X.base.get? b=some o):b∉X.fs:=λhb=>by
 have:=(ok.mO.mem hb).1;rw[e]at this;cases this
theorem Inv.bs(I:Inv X pins σ H s):∀b o,X.base.get? b=some o->s.heap.get? b=some o/\H b=none:=λb o e=>
 ⟨I.base.keep b o (I.ok.bs b o e).1 (I.ok.bs b o e).2 (I.ok.SN e) (I.ok.Ax b o e),I.base.free b o (I.ok.bs b o e).1 (I.ok.bs b o e).2 (I.ok.Ax b o e)⟩
theorem Inv.bk(I:Inv X pins σ H s):∀b o,X.base.get? b=some o->s.heap.get? b=some o:=λb o e=>(I.bs b o e).1
theorem Inv.mod(I:Inv X pins σ H s):Mod X.K X.mg X.base:=I.ok.mod
theorem Inv.iM(I:Inv X pins σ H s):X.K.In s.heap:=I.ok.mod.NQ.keeps I.bk
theorem Inv.lt(I:Inv X pins σ H s):X.env.locals<s.heap.objs.size:=let ⟨_,hn,_⟩:=I.loc;hn.lt
theorem Inv.sz(I:Inv X pins σ H s):X.s₀.heap.objs.size<=s.heap.objs.size:=aaG I.ok.above (abb I.lt)
theorem Inv.SO(I:Inv X pins σ H s)(h:s.heap.objs.size<=a):a∉X.fs:=λhb=>by
 obtain⟨_,o,ho,_⟩:=I.ok.mO.mem hb;exact absurd (aai (aaf ho) (aaG I.sz h)) (aaH _)
theorem Inv.cne(I:Inv X pins σ H s):∀x c,X.env.cells.lookup x=some c->c≠X.env.locals:=λx c e z=>by
 obtain⟨v,o,ho,hd⟩:=I.cell x c e;obtain⟨m,⟨o',es,ep,ho',hd',_⟩,_⟩:=I.loc;rw[z,ho']at ho;cases ho;rw[hd']at hd;cases hd
theorem Inv.mO(I:Inv X pins σ H s):s.heap.FunFrames X.base X.outer:=by
 have all:∀(l:List Env),(∀b∈frs l,b∈X.fs)->X.s₀.heap.FunFrames X.base l->s.heap.FunFrames X.base l:=by
  intro l
  induction l with
  |nil=>intro _ _;trivial
  |cons env r ih=>intro hs hl;obtain⟨hk,⟨L,o,hf,hn,ho,hd⟩,hr⟩:=hl;have hL:L∈X.fs:=hs L (by unfold frs;rw[aa8,hf];exact aad);obtain⟨sl,e⟩:=I.base.slot L o ho (I.ok.Jc L hL) hL λz=>I.ok.Ay L z hL;exact⟨hk,⟨L,_,hf,hn,e,hd⟩,ih (λb hb=>hs b (by unfold frs;rw[aa8,hf];exact Z6 _ hb)) hr⟩
 exact all X.outer (λ_ hb=>hb) I.ok.mO
theorem Inv.stack(I:Inv X pins σ H s):s.heap.FunFrames X.base X.stack:=by
 rcases I.ok.stk with e|⟨e,hf⟩
 ·rw[e];exact I.mO
 ·rw[e];obtain⟨m,hn,_⟩:=I.loc;refine .cons (by rw[I.ok.kind];decide) hf hn ?_ I.mO;exact ab9 (aaG I.ok.Ft I.ok.above)
theorem Inv.xO(I:Inv X pins σ H s):∀b∈frs X.stack,b∈X.env.locals::X.fs:=λb hb=>by
 rcases I.ok.stk with e|⟨e,hf⟩
 ·rw[e]at hb;exact Z6 _ hb
 ·rw[e]at hb;unfold frs at hb;rw[aa8,hf]at hb;exact hb
theorem Inv.kW(I:Inv X pins σ H s):∀b∈frs X.stack,H b=none:=λb hb=>by
 rcases aal.mp (I.xO b hb) with e|hb
 ·rw[e];exact I.free
 ·obtain⟨_,o,ho,_⟩:=I.ok.mO.mem hb;exact I.base.free b o ho (I.ok.Jc b hb) λz=>I.ok.Ay b z hb
theorem Inv.step{g':Array GenState}{t':Nat}{d':Drawn}{ch:List Addr}(I:Inv X pins σ H s)
  (hch:∀b∈ch,(b∈X.ex\/X.s₀.heap.objs.size<=b)/\b≠X.env.locals/\(∀x c,X.env.cells.lookup x=some c->c≠b)/\∀p∈X.pn++pins,p.1≠b)
  (keep:∀b o,b≠X.env.locals->b∉X.fs->b∉ch->s.heap.get? b=some o->H b=none->h'.get? b=some o)
  (slot:∀b o,b≠X.env.locals->b∈X.fs->b∉ch->s.heap.get? b=some o->H b=none->∃sl,h'.get? b=some { o with slots:=sl }) (free:∀b o,b∉ch->s.heap.get? b=some o->H b=none->H' b=none)
  (there:∀b o,b∉ch->s.heap.get? b=some o->∃o',h'.get? b=some o')
  (tups:∀b xs,H b=some (.tup xs)->H' b=some (.tup xs)) (frzs:∀b o u,H b=some (.rL o u)->H' b=some (.rL o u)) (kU:∀b ps,H b=some (.tbl ps)->∃more,H' b=some (.tbl (ps++more)))
  (ns:∀m,s.heap.Ns X.env.locals m->h'.Ns X.env.locals m) (hok:iL X.prog X.w H' h') (hg:AllBare g') :
  Inv X pins σ H' { s with heap:=h',gens:=g',drawn:=d',toks:=t' }:=by
 have neL:∀b o,X.s₀.heap.get? b=some o->b≠X.env.locals:=λb o e=>aaj (aai (aaf e) I.ok.above);have neC:∀b o,X.s₀.heap.get? b=some o->b∉X.ex->b∉ch:=λb o e hx hb=>by
  rcases(hch b hb).1 with z|z
  ·exact hx z
  ·exact absurd (aai (aaf e) z) (aaH _)
 have cellK:∀x c,X.env.cells.lookup x=some c->∀v,s.heap.IsCell c v->h'.IsCell c v:=λx c e v ⟨o,ho,hd⟩=>by
  have Oa:c∉ch:=λz=>(hch c z).2.2.1 x c e rfl
  by_cases hc:c∈X.fs
  ·obtain⟨sl,q⟩:=slot c o (I.cne x c e) hc Oa ho (I.fQ x c e);exact⟨_,q,hd⟩
  ·exact⟨o,keep c o (I.cne x c e) hc Oa ho (I.fQ x c e),hd⟩
 refine⟨I.ok,I.os,hg,⟨λb o e n hb hx=>?_,λb o e n hb hx=>?_,λb o e n hx=>?_,λb o e hx=>?_,λb xs e=>tups b xs (I.base.tups b xs e),λb o xs e=>frzs b o xs (I.base.frzs b o xs e),λb ps e=>?_⟩,?_,λx c e=>?_,?_,λx c e=>?_,λp hp=>?_,hok,I.len⟩
 ·exact keep b o (neL b o e) hb (neC b o e hx) (I.base.keep b o e n hb hx) (I.base.free b o e n hx)
 ·obtain⟨sl,e1⟩:=I.base.slot b o e n hb hx;obtain⟨Oc,e2⟩:=slot b _ (neL b o e) hb (neC b o e hx) e1 (I.base.free b o e n hx);exact⟨Oc,e2⟩
 ·obtain⟨o',e1⟩:=I.base.there b o e hx;exact free b o' (neC b o e hx) e1 (I.base.free b o e n hx)
 ·obtain⟨o',e1⟩:=I.base.there b o e hx;exact there b o' (neC b o e hx) e1
 ·obtain⟨m1,e1⟩:=I.base.kU b ps e;obtain⟨m2,e2⟩:=kU b _ e1;exact⟨m1++m2,by rw[e2,Array.append_assoc]⟩
 ·obtain⟨m,hn,hl⟩:=I.loc
  refine⟨m,ns m hn,λi x v e1 e2 e3=>?_⟩;obtain⟨u,r,l⟩:=hl i x v e1 e2 e3;refine⟨u,r,?_⟩
  rcases l with l|⟨k,c,e,z⟩
  ·exact .inl l
  ·exact .inr ⟨k,c,e,cellK x c e _ z⟩
 ·obtain⟨v,z⟩:=I.cell x c e;exact⟨v,cellK x c e v z⟩
 ·obtain⟨m,⟨o,_,_,ho,_⟩,_⟩:=I.loc;exact free _ o (λz=>(hch _ z).2.1 rfl) ho I.free
 ·obtain⟨v,o,ho,hd⟩:=I.cell x c e;exact free c o (λz=>(hch c z).2.2.1 x c e rfl) ho (I.fQ x c e)
 ·obtain⟨e,n,ne,nf,d⟩:=I.pin p hp;have Oa:p.1∉ch:=λz=>(hch p.1 z).2.2.2 p hp rfl;exact⟨keep p.1 p.2 ne nf Oa e n,free p.1 p.2 Oa e n,ne,nf,d⟩
theorem Inv.un{t':Nat}(I:Inv X pins σ H s)(u:Un X.fs [] H H' s.heap h')(hok:iL X.prog X.w H' h'):Inv X pins σ H' { s with heap:=h',toks:=t' }:=by
 obtain⟨m,⟨o,es,ep,ho,r⟩,_⟩:=id I.loc;obtain⟨sl,hL⟩:=u.any ho I.free (by simp);exact I.step (g':=s.gens) (d':=s.drawn) (ch:=[]) (λ_ z=>nomatch z) (λb o _ hb _ e n=>u.keep b o e n hb (by simp)) (λb o _ hb _ e n=>u.slot b o e n hb (by simp)) (λb o _ e n=>u.free b o e n (by simp)) (λb o _ e=>u.there b o e (by simp)) u.tups u.frzs u.kU (λm' hm=>by
  obtain⟨o',es',SQ,ho',r'⟩:=hm;rw[ho]at ho';cases ho';exact⟨_,es',SQ,hL,r'⟩) hok I.bare
theorem Inv.call{t':Nat}(I:Inv X pins σ H s)(u:Un (frs X.stack) ch H H' s.heap h')(hok:iL X.prog X.w H' h')(hg:AllBare g')
  (hch:∀b∈ch,(b∈X.ex\/X.s₀.heap.objs.size<=b)/\b≠X.env.locals/\(∀x c,X.env.cells.lookup x=some c->c≠b)/\∀p∈X.pn++pins,p.1≠b) :
  Inv X pins σ H' { s with heap:=h',gens:=g',drawn:=d',toks:=t' }:=by
 obtain⟨m,⟨o,es,ep,ho,r⟩,_⟩:=id I.loc;obtain⟨sl,hL⟩:=u.any ho I.free λz=>(hch _ z).2.1 rfl;exact I.step (ch:=ch) hch (λb o hL hb hc e n=>u.keep b o e n (λz=>(aal.mp (I.xO b z)).elim hL hb) hc) (λb o _ _ hc e n=>u.any e n hc) (λb o hc e n=>u.free b o e n hc) (λb o hc e=>u.there b o e hc) u.tups u.frzs u.kU (λm' hm=>by
  obtain⟨o',es',SQ,ho',r'⟩:=hm;rw[ho]at ho';cases ho';exact⟨_,es',SQ,hL,r'⟩) hok hg
theorem Inv.turned{t':Nat}(I:Inv X pins σ H s)(k:∀b o,b≠it->s.heap.get? b=some o->h'.get? b=some o)(hn:H it=none)(hL:it≠X.env.locals)
  (h1:it∈X.ex\/X.s₀.heap.objs.size<=it) (h2:∀x c,X.env.cells.lookup x=some c->c≠it) (h3:∀p∈X.pn++pins,p.1≠it):Inv X pins σ H { s with heap:=h',toks:=t' }:=by
 have Od:∀b u,H b=some u->b≠it:=λb u e z=>by rw[z,hn]at e;cases e
 refine I.step (g':=s.gens) (d':=s.drawn) (ch:=[it]) (λb hb=>?_) (λb o _ _ hc e _=>k b o (λz=>hc (by simp[z])) e) (λb o _ _ hc e _=>⟨o.slots,k b o (λz=>hc (by simp[z])) e⟩) (λ_ _ _ _ n=>n)
  (λb o hc e=>⟨o,k b o (λz=>hc (by simp[z])) e⟩) (λ_ _ e=>e) (λ_ _ _ e=>e) (λb ps e=>⟨#[],by rw[e];simp⟩) (λm hm=>?_) (λb u e=>?_) I.bare
 ·have e:b=it:=by simpa using hb
  subst e;exact⟨h1,hL,h2,h3⟩
 ·obtain⟨o,es,ep,ho,r⟩:=hm;exact⟨o,es,ep,k _ o (Ne.symm hL) ho,r⟩
 ·refine(I.hok b u e).stay (λc v hc q=>k c v ?_ q) (λ_ q=>q) λ_ _ q=>q
  rcases hc with z|z
  ·rw[z];exact Od b u e
  ·exact Od c _ z
theorem Inv.tok(I:Inv X pins σ H s)(t:Nat):Inv X pins σ H { s with toks:=t }:=I.un (h':=s.heap) (t':=t) Un.refl I.hok
theorem Inv.kept{t':Nat}(I:Inv X pins σ H s)(k:∀b u,s.heap.get? b=some u->h'.get? b=some u):Inv X pins σ H { s with heap:=h',toks:=t' }:=I.un (Un.kept k) (I.hok.kept k)
theorem Inv.laid{t':Nat}(I:Inv X pins σ H s)(k:∀b u,s.heap.get? b=some u->h'.get? b=some u)(hp:s.heap.objs.size<=a)(new:bF X.prog X.w (upd H a o) h' a o) :
  Inv X pins σ (upd H a o) { s with heap:=h',toks:=t' }:=I.un (Un.laid k hp (I.hok.fresh hp)) (I.hok.laid k hp new)
theorem Inv.write{t':Nat}(I:Inv X pins σ H s)(mu:N8 (H x))(he:e=x\/H e=some (.own x))(k:∀b u,b≠e->s.heap.get? b=some u->h'.get? b=some u)(NP:∃u,h'.get? e=some u)
  (new:bF X.prog X.w (upd H x o) h' x o):Inv X pins σ (upd H x o) { s with heap:=h',toks:=t' }:=I.un (Un.write mu he k NP) (I.hok.write mu he k NP new)
theorem Inv.yX(I:Inv X pins σ H s)(h:∀p∈Oe,s.heap.get? p.1=some p.2/\H p.1=none/\p.1≠X.env.locals/\p.1∉X.fs/\∀v,p.2.data≠.cell v):Inv X Oe σ H s :=
 ⟨I.ok,I.os,I.bare,I.base,I.loc,I.cell,I.free,I.fQ,λp hp=>(abx.mp hp).elim (λz=>I.pin p (abi _ z)) (h p),I.hok,I.len⟩
theorem o8{N:List Str}(hN:N.Nodup){i j:Nat}{x:Str}(a:N[i]?=some x)(b:N[j]?=some x):i=j:=by
 obtain⟨h1,e1⟩:=Z9.mp a;obtain⟨h2,e2⟩:=Z9.mp b;exact(List.getElem_inj hN).mp (e1.trans e2.symm)
theorem rM{i:Nat}(I:Inv X pins σ H s)(hN:X.N.Nodup)(hi:X.N[i]?=some x)(hx:Loc X.env.scope x)(r:RelV v u)
  (h:∀s',Inv X pins (σ.set i (some v)) H s'->(∃a,Heap.SameBut a s.heap s'.heap/\(a=X.env.locals\/X.env.cells.lookup x=some a))->Q () s') (hf:X.fn x=true\/X.env.scope.names.lookup x=some .local):wpAny M A (storeName X.env x u) Q E s:=by
 obtain⟨m,hn,hl⟩:=id I.loc;have hcls:(X.env.scope.kind==.class||(X.env.scope.kind==.module&&X.env.locals != X.env.globals))=false:=by rw[I.ok.kind];rfl
 have R6:i < σ.length:=by rw[I.len];exact(Z9.mp hi).1
 have cne:=I.cne;have tracked:∀{a:Addr} {h':Heap},(∃o,s.heap.get? a=some o/\H a=none)->Heap.SameBut a s.heap h'->iL X.prog X.w H h':=λ{a h'} ha hs b ob e=>by
  obtain⟨_,_,hfree⟩:=ha;refine(I.hok b ob e).stay (λc w' hc q=>(hs.2 c ?_).trans q) (λ_ q=>q) λ_ _ q=>q;rintro rfl
  rcases hc with rfl|hc
  ·rw[hfree]at e;cases e
  ·rw[hfree]at hc;cases hc
 rcases hx with hk|hk
 ·refine wpAny_storeName_local hk hn (λh' hn' hs=>?_) hcls
  obtain⟨oL,_,_,VC,_⟩:=id hn;refine h _ ⟨I.ok,I.os,I.bare,⟨λb o e n hb hx=>?_,λb o e n hb hx=>?_,I.base.free,λb o e hx=>?_,I.base.tups,I.base.frzs,I.base.kU⟩,⟨_,hn',λj y v' e1 e2 e3=>?_⟩,λy c e=>?_,I.free,I.fQ,λp hp=>?_,tracked ⟨oL,VC,I.free⟩ hs,by simpa using I.len⟩ ⟨_,hs,.inl rfl⟩
  ·exact(hs.2 b (aaj (aai (aaf e) I.ok.above))).trans (I.base.keep b o e n hb hx)
  ·obtain⟨sl,e1⟩:=I.base.slot b o e n hb hx;exact⟨sl,(hs.2 b (aaj (aai (aaf e) I.ok.above))).trans e1⟩
  ·obtain⟨o',e1⟩:=I.base.there b o e hx;exact⟨o',(hs.2 b (aaj (aai (aaf e) I.ok.above))).trans e1⟩
  ·by_cases hj:j=i
   ·subst hj;rw[hi]at e1;cases e1;rw[aak R6]at e2;cases e2;exact⟨u,r,.inl ⟨hk,by simp⟩⟩
   ·rw[aaa (Ne.symm hj)]at e2
    obtain⟨u',r',q⟩:=hl j y v' e1 e2 e3;refine⟨u',r',?_⟩
    rcases q with ⟨k,e⟩|⟨k,c,e,z⟩
    ·refine .inl ⟨k,?_⟩;have:y≠x:=λe=>hj (o8 hN e1 (e▸hi));simp[this,e]
    ·exact .inr ⟨k,c,e,z.sameBut hs (cne y c e)⟩
  ·obtain⟨w',z⟩:=I.cell y c e;exact⟨w',z.sameBut hs (cne y c e)⟩
  ·obtain⟨e,n,ne,nf,d⟩:=I.pin p hp;exact⟨(hs.2 p.1 ne).trans e,n,ne,nf,d⟩
 ·have hfn:X.fn x=true:=by
   rcases hf with z|z
   ·exact z
   ·rw[z]at hk;cases hk
  obtain⟨c,hc⟩:=I.ok.has x (.inl hk);obtain⟨w',z⟩:=I.cell x c hc;refine wpAny_storeName_cell I.ok.kind hk hc z (λh' hc' hs=>?_);obtain⟨oc,hoc,B0⟩:=id z;refine h { s with heap:=h' } ⟨I.ok,I.os,I.bare,⟨λb o e n hb hx=>?_,λb o e n hb hx=>?_,I.base.free,λb o e hx=>?_,I.base.tups,I.base.frzs,I.base.kU⟩,⟨m,hn.sameBut hs (Ne.symm (cne x c hc)),λj y v' e1 e2 e3=>?_⟩,λy c' e=>?_,I.free,I.fQ,λp hp=>?_,tracked ⟨oc,hoc,I.fQ x c hc⟩ hs,by simpa using I.len⟩ ⟨c,hs,.inr hc⟩
  ·exact(hs.2 b (aaj (aai (aaf e) (I.ok.NR x c hfn hc)))).trans (I.base.keep b o e n hb hx)
  ·obtain⟨sl,e1⟩:=I.base.slot b o e n hb hx;exact⟨sl,(hs.2 b (aaj (aai (aaf e) (I.ok.NR x c hfn hc)))).trans e1⟩
  ·obtain⟨o',e1⟩:=I.base.there b o e hx;exact⟨o',(hs.2 b (aaj (aai (aaf e) (I.ok.NR x c hfn hc)))).trans e1⟩
  ·by_cases hj:j=i
   ·subst hj;rw[hi]at e1;cases e1;rw[aak R6]at e2;cases e2;exact⟨u,r,.inr ⟨.inl hk,c,hc,hc'⟩⟩
   ·rw[aaa (Ne.symm hj)]at e2
    obtain⟨u',r',q⟩:=hl j y v' e1 e2 e3;refine⟨u',r',?_⟩
    rcases q with q|⟨k,c',e,z'⟩
    ·exact .inl q
    ·refine .inr ⟨k,c',e,z'.sameBut hs ?_⟩;rintro rfl;exact hj (o8 hN e1 (I.ok.inj _ _ _ e hc▸hi))
  ·by_cases hcc:c'=c
   ·subst hcc;exact⟨_,hc'⟩
   ·obtain⟨w2,z2⟩:=I.cell y c' e;exact⟨w2,z2.sameBut hs hcc⟩
  ·obtain⟨e,n,ne,nf,d⟩:=I.pin p hp;refine⟨(hs.2 p.1 ?_).trans e,n,ne,nf,d⟩;intro q;rw[q,hoc]at e;have q':oc=p.2:=aaq e;exact d w' (by rw[<-q'];exact B0)
theorem o9{i:Nat}(I:Inv X pins σ H s)(hN:X.N.Nodup)(hi:X.N[i]?=some x)(hx:Loc X.env.scope x)(r:RelV v u)
  (h:∀s',Inv X pins (σ.set i (some v)) H s'->Q () s') (hf:X.fn x=true\/X.env.scope.names.lookup x=some .local):wpAny M A (storeName X.env x u) Q E s :=
 rM I hN hi hx r (λs' I' _=>h s' I') hf
theorem Inv.Jd(I:Inv X pins σ H s)(ho:s'.os=s.os)(u:Un (frs X.stack) ch H H' s.heap s'.heap)(hok:iL X.prog X.w H' s'.heap)(hg:AllBare s'.gens)
  (hch:∀b∈ch,(b∈X.ex\/X.s₀.heap.objs.size<=b)/\b≠X.env.locals/\(∀x c,X.env.cells.lookup x=some c->c≠b)/\∀p∈X.pn++pins,p.1≠b):Inv X pins σ H' s':=by
 obtain⟨h',g',d',t',o'⟩:=s';have e:o'=s.os:=ho;subst e;exact I.call (g':=g') (t':=t') (d':=d') u hok hg hch
end
abbrev XK:=Value->Option Addr->Hp->Prop
abbrev St:=List (Option V)
abbrev VK:=V->Hp->Prop
abbrev TE:=St->Hp->VK->Prop
abbrev TT:=St->Hp->(Bool->Hp->Prop)->Prop
abbrev TA:=St->Hp->(List V->Hp->Prop)->Prop
structure Ends where
 nx:St->Hp->Prop
 rt:VK
 bk:St->Hp->Prop:=λ_ _=>False
 ct:St->Hp->Prop:=λ_ _=>False
abbrev TS:=Ends->St->Hp->Prop
def EP(X:Cx)(pins:List (Addr×Obj))(σ:St)(Q:VK)(u:Value)(s':Shared):Prop:=∃v H',Inv X pins σ H' s'/\RelV v u/\Q v H'
def TP(X:Cx)(pins:List (Addr×Obj))(σ:St)(Q:Bool->Hp->Prop)(b:Bool)(s':Shared):Prop:=∃H',Inv X pins σ H' s'/\Q b H'
def AP(X:Cx)(pins:List (Addr×Obj))(σ:St)(Q:List V->Hp->Prop)(us:List Value)(s':Shared):Prop:=∃vs H',Inv X pins σ H' s'/\Vals vs us/\Q vs H'
def SP(X:Cx)(pins:List (Addr×Obj))(D:Ends)(f:Flow)(s':Shared):Prop :=
 match f with
 |.next=>∃σ' H',Inv X pins σ' H' s'/\D.nx σ' H'
 |.brk=>∃σ' H',Inv X pins σ' H' s'/\D.bk σ' H'
 |.cont=>∃σ' H',Inv X pins σ' H' s'/\D.ct σ' H'
 |.ret u=>∃v σ' H',Inv X pins σ' H' s'/\RelV v u/\D.rt v H'
def PE(X:Cx)(e:Expr)(t:TE):Prop :=
 ∀(pins:List (Addr×Obj)) (s:Shared) (σ:St) (H:Hp) (Q:VK),Inv X pins σ H s->t σ H Q->wpAny (model X.prog X.w) X.A (eval e X.env) (EP X pins σ Q) X.xe s
def PT(X:Cx)(e:Expr)(t:TT):Prop :=
 ∀(pins:List (Addr×Obj)) (s:Shared) (σ:St) (H:Hp) (Q:Bool->Hp->Prop),Inv X pins σ H s->t σ H Q->wpAny (model X.prog X.w) X.A (isTrue e X.env (eval e X.env)) (TP X pins σ Q) X.xe s
def PW(X:Cx)(e:Expr)(t:TT):Prop :=
 ∀(whole:Sem Value) (pins:List (Addr×Obj)) (s:Shared) (σ:St) (H:Hp) (Q:Bool->Hp->Prop),Inv X pins σ H s->t σ H Q->wpAny (model X.prog X.w) X.A (isTrue e X.env whole) (TP X pins σ Q) X.xe s
theorem PW.pt(h:PW X e t):PT X e t:=h _
def PA(X:Cx)(es:List Expr)(t:TA):Prop :=
 ∀(pos:Pos) (pins:List (Addr×Obj)) (s:Shared) (σ:St) (H:Hp) (Q:List V->Hp->Prop),Inv X pins σ H s->t σ H Q->wpAny (model X.prog X.w) X.A (spliced (backTo pos (starEach es X.env))) (AP X pins σ Q) X.xe s
def PS(X:Cx)(st:Stmt)(t:TS):Prop :=
 ∀(pins:List (Addr×Obj)) (s:Shared) (σ:St) (H:Hp) (D:Ends),Inv X pins σ H s->t D σ H->wpAny (model X.prog X.w) X.A (exec st X.env) (SP X pins D) X.xe s
def nM(X:Cx)(st:List Stmt)(t:TS):Prop :=
 ∀(pins:List (Addr×Obj)) (s:Shared) (σ:St) (H:Hp) (D:Ends),Inv X pins σ H s->t D σ H->wpAny (model X.prog X.w) X.A (execs st X.env) (SP X pins D) X.xe s
theorem cy{α:Type}{t:Sem α}{Q Q':α -> Shared->Prop}(h:wpAny M A t Q E s)(hQ:∀a s,Q a s->Q' a s):wpAny M A t Q' E s:=aaB h hQ λ_ _ x=>x
section
variable {X:Cx}
theorem bin{a b:Expr}{ta tb:TE}(ha:PE X a ta)(hb:PE X b tb){pins:List (Addr×Obj)}{s:Shared}{σ:St}{H:Hp}{R:V->V->Hp->Prop}(I:Inv X pins σ H s)(h:ta σ H λx H1=>tb σ H1 λy H2=>R x y H2)
  {α:Type} {Q:α -> Shared->Prop} {f:Value->Value->Sem α}
  (hf:∀v u s2 x y H2,Inv X pins σ H2 s2->RelV x v->RelV y u->R x y H2->wpAny (model X.prog X.w) X.A (f v u) Q X.xe s2) :
  wpAny (model X.prog X.w) X.A (eval a X.env) (λv s₁=>wpAny (model X.prog X.w) X.A (eval b X.env) (λu s₂=>wpAny (model X.prog X.w) X.A (f v u) Q X.xe s₂) X.xe s₁) X.xe s:=by
 refine cy (ha pins s σ H _ I h) λv s1 aN=>?_;obtain⟨x,H1,I1,r1,q1⟩:=aN;refine cy (hb pins s1 σ H1 _ I1 q1) λu s2 aN=>?_;obtain⟨y,H2,I2,r2,q2⟩:=aN;exact hf v u s2 x y H2 I2 r1 r2 q2
def B3(i:Nat):TE:=λσ H Q=>∃v,σ[i]?=some (some v)/\Q v H
def tC(v:V):TE:=λ_ H Q=>Q v H
theorem gx{i:Nat}(hN:X.N[i]?=some x)(hv:N9 X.env.scope x)(hd:(x==("__debug__":Str))=false)(hcd:(x==("__classdict__":Str))=false):PE X (.Name x pos) (B3 i):=by
 intro pins s σ H Q I h;obtain⟨v,e,h⟩:=h;obtain⟨m,hn,hl⟩:=I.loc;obtain⟨u,r,l⟩:=hl i x v hN e hv;have fin:EP X pins σ Q u s:=⟨v,H,I,r,h⟩
 rcases l with ⟨hk,hm⟩|⟨hk,c,hc,hcell⟩
 ·exact wpAny_Name (wpAny_loadName_local I.ok.kind hk hn hm fin) hd
 ·rcases hk with hk|hk
  ·exact wpAny_Name (wpAny_loadName_cell I.ok.kind hk hc hcell fin) hd
  ·exact wpAny_Name (wpAny_loadName_free I.ok.kind hk hc hcell fin hcd) hd
theorem B4{i j pos}:PE X (.Constant (.int i) j pos) (tC (.int i)):=λ_ _ _ H _ I h=>wpAny_Constant_int ⟨.int i,H,I.tok _,⟨_,rfl⟩,h⟩
theorem yY{b j pos}:PE X (.Constant (.bool b) j pos) (tC (.bl b)):=λ_ _ _ H _ I h=>Constant_bool ⟨.bl b,H,I,rfl,h⟩
theorem J0{j pos}:PE X (.Constant .none j pos) (tC .non):=λ_ _ _ H _ I h=>Constant_none ⟨.non,H,I,rfl,h⟩
theorem tX{x j pos}:PE X (.Constant (.str x) j pos) (tC (.str x)):=λ_ _ _ H _ I h=>Calls.Constant_str ⟨.str x,H,I.tok _,⟨_,rfl⟩,h⟩
def Gl(X:Cx)(x:Str):Prop:=X.env.kindOf x=some .globalImplicit
theorem eX(I:Inv X pins σ H s)(hg:Gl X x)(hm:X.mg x=some u)(h:Q u s)
  (hd:(x==("__debug__":Str))=false):wpAny (model X.prog X.w) X.A (eval (.Name x pos) X.env) Q E s :=
 Calls.Name_function_global I.ok.kind hg (Calls.loadGlobal_global (by rw[I.ok.glob];exact I.mod.glob.keeps I.bk) hm h) hd
theorem iR(I:Inv X pins σ H s)(hg:Gl X x)(hm:X.mg x=none)(hv:bootBuiltins x=some u)(h:Q u s)
  (hn:x ≠ "__name__":=by decide) (hd:(x==("__debug__":Str))=false:=by decide):wpAny (model X.prog X.w) X.A (eval (.Name x pos) X.env) Q E s:=by
 obtain⟨mb,h1,h2⟩:=I.mod.blt;exact Calls.Name_function_global I.ok.kind hg (Calls.loadGlobal_builtin (by rw[I.ok.glob];exact I.mod.glob.keeps I.bk) hm (by rw[I.ok.blt];exact h1.keeps I.bk) ((h2 x hn).trans hv) h) hd
theorem oV(hg:Gl X x)(hm:X.mg x=some u)(r:RelV v u)(hd:(x==("__debug__":Str))=false):PE X (.Name x pos) (tC v) :=
 λ_ _ _ H _ I h=>eX I hg hm ⟨v,H,I,r,h⟩ hd
theorem tY(hg:Gl X x)(hm:X.mg x=none)(hv:bootBuiltins x=some u)(r:RelV v u)(hn:x ≠ "__name__")(hd:(x==("__debug__":Str))=false):PE X (.Name x pos) (tC v) :=
 λ_ _ _ H _ I h=>iR I hg hm hv ⟨v,H,I,r,h⟩ hn hd
variable {a b:Expr} {ta tb:TE} {pos:Pos}
variable {tA R7:TT} {rest:List Expr}
def SS(t u:TT):TT:=λσ H Q=>t σ H λc H1=>if c=true then u σ H1 Q else Q false H1
def W5(t u:TT):TT:=λσ H Q=>t σ H λc H1=>if c=true then Q true H1 else u σ H1 Q
def SV(t:TT):TT:=λσ H Q=>t σ H λc H1=>Q (!c) H1
theorem Fv(ha:PT X a tA):PW X (.BoolOp .And [a] pos) tA:=by
 intro wh pins s σ H Q I h;refine isTrue_and (cy (ha pins s σ H Q I h) λc s1 e=>?_);cases c with
 |true=>exact isTrue_and_nil e
 |false=>exact e
theorem J1(ha:PT X a tA):PW X (.BoolOp .Or [a] pos) tA:=by
 intro wh pins s σ H Q I h;refine isTrue_or (cy (ha pins s σ H Q I h) λc s1 e=>?_);cases c with
 |false=>exact isTrue_or_nil e
 |true=>exact e
theorem J2(ha:PT X a tA)(hb:PW X (.BoolOp .And (b::rest) pos) R7):PW X (.BoolOp .And (a::b::rest) pos) (SS tA R7):=by
 intro wh pins s σ H Q I h;refine isTrue_and (cy (ha pins s σ H _ I h) λc s1 aN=>?_);obtain⟨H1,I1,q1⟩:=aN;cases c with
 |true=>exact hb wh pins s1 σ H1 Q I1 q1
 |false=>exact⟨H1,I1,q1⟩
theorem Of(ha:PT X a tA)(hb:PW X (.BoolOp .Or (b::rest) pos) R7):PW X (.BoolOp .Or (a::b::rest) pos) (W5 tA R7):=by
 intro wh pins s σ H Q I h;refine isTrue_or (cy (ha pins s σ H _ I h) λc s1 aN=>?_);obtain⟨H1,I1,q1⟩:=aN;cases c with
 |true=>exact⟨H1,I1,q1⟩
 |false=>exact hb wh pins s1 σ H1 Q I1 q1
theorem J6(ha:PT X a tA):PT X (.UnaryOp .Not a pos) (SV tA):=by
 intro pins s σ H Q I h;exact isTrue_not (ha pins s σ H (λc H1=>Q (!c) H1) I h)
def Og(ta tb:TE):TE:=λσ H Q=>ta σ H λx H1=>∃c,x=.bl c/\if c=true then tb σ H1 Q else Q (.bl false) H1
def SW(ta tb:TE):TE:=λσ H Q=>ta σ H λx H1=>∃c,x=.bl c/\if c=true then Q (.bl true) H1 else tb σ H1 Q
def Oh(ta:TE):TE:=λσ H Q=>ta σ H λx H1=>∃c,x=.bl c/\Q (.bl (!c)) H1
theorem pe{op}(h:PE X a t):PE X (.BoolOp op [a] pos) t:=λpins s σ H Q I hw=>BoolOp_one (h pins s σ H Q I hw)
theorem tZ(ha:PE X a ta)(hb:PE X (.BoolOp .And (b::rest) pos) tb):PE X (.BoolOp .And (a::b::rest) pos) (Og ta tb):=by
 intro pins s σ H Q I h;refine BoolOp_and (cy (ha pins s σ H _ I h) λv s1 aN=>?_);obtain⟨x,H1,I1,r1,q1⟩:=aN;obtain⟨c,rfl,q1⟩:=q1;cases r1;refine aaN ?_;cases c with
 |true=>exact hb pins s1 σ H1 Q I1 q1
 |false=>exact⟨.bl false,H1,I1,rfl,q1⟩
theorem Oi(ha:PE X a ta)(hb:PE X (.BoolOp .Or (b::rest) pos) tb):PE X (.BoolOp .Or (a::b::rest) pos) (SW ta tb):=by
 intro pins s σ H Q I h;refine BoolOp_or (cy (ha pins s σ H _ I h) λv s1 aN=>?_);obtain⟨x,H1,I1,r1,q1⟩:=aN;obtain⟨c,rfl,q1⟩:=q1;cases r1;refine aaN ?_;cases c with
 |false=>exact hb pins s1 σ H1 Q I1 q1
 |true=>exact⟨.bl true,H1,I1,rfl,q1⟩
theorem B5(ha:PE X a ta):PE X (.UnaryOp .Not a pos) (Oh ta):=by
 intro pins s σ H Q I h;refine UnaryOp_ (cy (ha pins s σ H _ I h) λv s1 aN=>?_);obtain⟨x,H1,I1,r1,q1⟩:=aN;obtain⟨c,rfl,q1⟩:=q1;cases r1;exact not_of (aaN ⟨.bl (!c),H1,I1,rfl,q1⟩)
end
def fR(K:Frag)(H:Hp)(a:Addr)(xs:List V):Prop :=
 Rd H a (.lst xs) \/
  ∃(o:Obj) (its:Array Value) (n:Nat),K.lookup a=some o/\o.cls=.type "list" /\ o.dict=none/\o.data=.seq its n/\its.size<=sizeLine/\Vals xs its.toList
def iy(K:Frag)(H:Hp)(a:Addr)(xs:List V):Prop :=
 Rd H a (.tup xs) \/
  ∃(o:Obj) (its:Array Value) (n:Nat),K.lookup a=some o/\o.cls=.type "tuple" /\ o.data=.seq its n/\its.size<=sizeLine/\Vals xs its.toList
def SX:Value->Option V
 |.none=>some .non
 |.bool b=>some (.bl b)
 |.int i _=>some (.int i)
 |.str x _=>some (.str x)
 |.bytes b _=>some (.byt b)
 |.float b _=>some (.flt b)
 |.ref a=>some (.ref a)
 |.type n=>some (.ty n)
 |_=>none
theorem RelV.abs(r:RelV x u):SX u=some x:=by
 cases x with
 |non=>cases r;rfl
 |bl _=>cases r;rfl
 |int _=>obtain⟨t,rfl⟩:=r;rfl
 |str _=>obtain⟨t,rfl⟩:=r;rfl
 |byt _=>obtain⟨t,rfl⟩:=r;rfl
 |flt _=>obtain⟨t,rfl⟩:=r;rfl
 |ref _=>cases r;rfl
 |ty _=>cases r;rfl
theorem RelV.inj(r:RelV x u)(q:RelV y u):x=y:=aaq (r.abs.symm.trans q.abs)
theorem Vals.inj:∀{xs ys:List V} {us:List Value},Vals xs us->Vals ys us->xs=ys
 |_,_,_,.nil,.nil=>rfl
 |_,_,_,.cons r t,.cons r' t'=>by rw[r.inj r',Vals.inj t t']
section
variable {X:Cx} {pins:List (Addr×Obj)} {σ:St} {H:Hp} {s:Shared} {a:Addr} {xs ys:List V}
theorem iy.of{K:Frag}(h:H a=some (.tup xs)):iy K H a xs:=.inl (.inl h)
theorem Inv.list(I:Inv X pins σ H s)(h:fR X.K H a xs):∃its:List Value,Vals xs its/\PlainL s.heap a its.toArray/\xs.length<=sizeLine:=by
 rcases h with h|⟨o,its,n,hk,hc,hd,hs,hz,r⟩
 ·obtain⟨z,its,n,r,e⟩:=h.ok I.hok;exact⟨its,r,⟨_,n,e,rfl,rfl,rfl⟩,z⟩
 ·refine⟨its.toList,r,⟨o,n,I.iM a o hk,hc,hd,by simpa using hs⟩,?_⟩;have e:=r.length;simp only[Array.length_toList]at e;omega
theorem Inv.tuple(I:Inv X pins σ H s)(h:iy X.K H a xs):∃its:List Value,Vals xs its/\IsTup s.heap a its.toArray/\xs.length<=sizeLine:=by
 rcases h with h|⟨o,its,n,hk,hc,hs,hz,r⟩
 ·obtain⟨z,its,r,p⟩:=h.ok I.hok;exact⟨its,r,p,z⟩
 ·refine⟨its.toList,r,⟨o,I.iM a o hk,hc,n,by simpa using hs⟩,?_⟩;have e:=r.length;simp only[Array.length_toList]at e;omega
theorem Inv.vj(I:Inv X pins σ H s)(h:fR X.K H a xs)(h':fR X.K H a ys):xs=ys:=by
 obtain⟨its,r,⟨o,n,e,_,_,d⟩,_⟩:=I.list h;obtain⟨its',r',⟨o',n',e',_,_,d'⟩,_⟩:=I.list h';rw[e]at e';cases e';rw[d]at d';injection d' with d1 _
 have:its=its':=by simpa using aa3 toList d1
 subst this;exact r.inj r'
theorem Inv.Az(I:Inv X pins σ H s)(h:iy X.K H a xs)(h':iy X.K H a ys):xs=ys:=by
 obtain⟨its,r,⟨o,e,_,n,d⟩,_⟩:=I.tuple h;obtain⟨its',r',⟨o',e',_,n',d'⟩,_⟩:=I.tuple h';rw[e]at e';cases e';rw[d]at d';injection d' with d1 _
 have:its=its':=by simpa using aa3 toList d1
 subst this;exact r.inj r'
end
abbrev Cx.oz(X:Cx)(E:Value->Shared->Prop):Cx:={ X with xe:=E }
abbrev Cx.Ff(X:Cx):Cx:=X.oz λ_ _=>False
theorem Cx.Ok.oz{X:Cx}(ok:X.Ok)(E:Value->Shared->Prop):(X.oz E).Ok :=
 ⟨ok.mod,ok.kind,ok.glob,ok.blt,ok.above,ok.inj,ok.has,ok.NR,ok.hd,ok.frames,ok.stk,ok.R5,ok.bs,ok.Ft,ok.Ax,ok.Ay,ok.mO,ok.Jc⟩
theorem Cx.Ok.gy{X:Cx}{E:Value->Shared->Prop}(ok:(X.oz E).Ok):X.Ok :=
 ⟨ok.mod,ok.kind,ok.glob,ok.blt,ok.above,ok.inj,ok.has,ok.NR,ok.hd,ok.frames,ok.stk,ok.R5,ok.bs,ok.Ft,ok.Ax,ok.Ay,ok.mO,ok.Jc⟩
section
variable {X:Cx} {pins:List (Addr×Obj)} {σ:St} {H:Hp} {s:Shared} {E:Value->Shared->Prop}
theorem Inv.oz(I:Inv X pins σ H s)(E:Value->Shared->Prop):Inv (X.oz E) pins σ H s:=⟨I.ok.oz E,I.os,I.bare,I.base,I.loc,I.cell,I.free,I.fQ,I.pin,I.hok,I.len⟩
theorem Inv.gy(I:Inv (X.oz E) pins σ H s):Inv X pins σ H s:=⟨I.ok.gy,I.os,I.bare,I.base,I.loc,I.cell,I.free,I.fQ,I.pin,I.hok,I.len⟩
theorem SP.gy(h:SP (X.oz E) pins D f s'):SP X pins D f s':=by
 cases f with
 |next=>obtain⟨σ',H',I,q⟩:=h;exact⟨σ',H',I.gy,q⟩
 |brk=>obtain⟨σ',H',I,q⟩:=h;exact⟨σ',H',I.gy,q⟩
 |cont=>obtain⟨σ',H',I,q⟩:=h;exact⟨σ',H',I.gy,q⟩
 |ret u=>obtain⟨v,σ',H',I,r,q⟩:=h;exact⟨v,σ',H',I.gy,r,q⟩
theorem nM.Ff{st:List Stmt}{t:TS}(h:nM X.Ff st t):nM X st t:=λpins s σ H D I hw=>
 aaB (h pins s σ H D (I.oz _) hw) (λ_ _ q=>q.gy) λ_ _ z=>False.elim z
end
section
variable {X:Cx} {st:Stmt} {rest:List Stmt} {t u:TS} {e:Expr} {te:TE} {pos:Pos}
def B6:TS:=λD σ H=>D.nx σ H
def SY(t u:TS):TS:=λD σ H=>t { D with nx:=u D } σ H
theorem Fw:nM X [] B6:=λ_ _ σ H _ I h=>abM ⟨σ,H,I,h⟩
theorem cz(h1:PS X st t)(h2:nM X rest u):nM X (st::rest) (SY t u):=by
 intro pins s σ H D I h;refine wpAny_execs_cons (cy (h1 pins s σ H { D with nx:=u D } I h) λf s1 q=>?_);cases f with
 |next=>obtain⟨σ',H',I',q⟩:=q;exact h2 pins s1 σ' H' D I' q
 |ret v=>exact q
 |brk=>exact q
 |cont=>exact q
theorem t6(h1:PS X st t):nM X [st] t:=by
 intro pins s σ H D I h;refine wpAny_execs_cons (cy (h1 pins s σ H D I h) λf s1 q=>?_);cases f with
 |next=>exact abM q
 |ret v=>exact q
 |brk=>exact q
 |cont=>exact q
def J7:TS:=λD σ H=>D.bk σ H
def Oj:TS:=λD σ H=>D.ct σ H
theorem Fx:PS X (.Pass pos) B6:=λ_ _ σ H _ I h=>wpAny_Pass ⟨σ,H,I,h⟩
theorem B7:PS X (.Break pos) J7:=λ_ _ σ H _ I h=>wpAny_Break ⟨σ,H,I,h⟩
theorem vm:PS X (.Continue pos) Oj:=λ_ _ σ H _ I h=>wpAny_Continue ⟨σ,H,I,h⟩
theorem Inv.quiet(I:Inv X pins σ H s):interactive X.env=false:=by simp[interactive,I.ok.kind]
theorem J8{x j pos pos'}:PS X (.Expr (.Constant (.str x) j pos) pos') B6:=λ_ s σ H _ I h=>wpAny_Expr (Calls.Constant_str (show SP X _ _ .next { s with toks:=s.toks+1 } from⟨σ,H,I.tok _,h⟩)) I.quiet
def Ol(te:TE):TS:=λD σ H=>te σ H λ_ H1=>D.nx σ H1
theorem Fy(he:PE X e te)(hs:swapsWith e none pos.line X.env=pure false):PS X (.Expr e pos) (Ol te):=by
 intro pins s σ H D I h;exact wpAny_Expr_any (cy (he pins s σ H _ I h) λv s1 ⟨x,H1,I1,r1,q1⟩=>⟨σ,H1,I1,q1⟩) I.quiet hs
def S0(te:TE):TS:=λD σ H=>te σ H D.rt
theorem B8(he:PE X e te):PS X (.Return (some e) pos) (S0 te):=by
 intro pins s σ H D I h;exact wpAny_Return_some (cy (he pins s σ H _ I h) λv s1 ⟨x,H1,I1,r1,q1⟩=>⟨x,σ,H1,I1,r1,q1⟩)
def Om:TS:=λD _ H=>D.rt .non H
theorem Fz:PS X (.Return none pos) Om:=λ_ _ σ H _ I h=>wpAny_Return_none ⟨.non,σ,H,I,rfl,h⟩
def S5(c:TT)(t u:TS):TS:=λD σ H=>c σ H λb H1=>if b=true then t D σ H1 else u D σ H1
theorem Oo(hc:PT X c tc)(ha:nM X a t)(hb:nM X b u):PS X (.If c a b pos) (S5 tc t u):=by
 intro pins s σ H D I h;refine wpAny_If (cy (hc pins s σ H _ I h) λd s1 aN=>?_);obtain⟨H1,I1,q1⟩:=aN;cases d with
 |true=>exact ha pins s1 σ H1 D I1 q1
 |false=>exact hb pins s1 σ H1 D I1 q1
def J9:TS:=λ_ _ _=>False
theorem pq:PS X st J9:=λ_ _ _ _ _ _ h=>h.elim
end
abbrev TG:=V->St->Hp->(St->Hp->Prop)->Prop
abbrev NS:=List V->St->Hp->(St->Hp->Prop)->Prop
def PG(X:Cx)(target:Expr)(t:TG):Prop :=
 ∀(pins:List (Addr×Obj)) (s:Shared) (σ:St) (H:Hp) (v:V) (u:Value) (Q:St->Hp->Prop),Inv X pins σ H s->RelV v u->t v σ H Q ->
  wpAny (model X.prog X.w) X.A (assign target X.env u) (λ_ s'=>∃σ' H',Inv X pins σ' H' s'/\Q σ' H') X.xe s
def NT(X:Cx)(ts:List Expr)(t:NS):Prop :=
 ∀(pins:List (Addr×Obj)) (s:Shared) (σ:St) (H:Hp) (vs:List V) (us:List Value) (Q:St->Hp->Prop),Inv X pins σ H s->Vals vs us->t vs σ H Q ->
  wpAny (model X.prog X.w) X.A (assignInOrder ((assignEach ts X.env).map (·.2)) us) (λ_ s'=>∃σ' H',Inv X pins σ' H' s'/\Q σ' H') X.xe s
abbrev Ka:=V->V->V->Hp->(Hp->Prop)->Prop
def Kc(X:Cx)(t:Ka):Prop :=
 ∀(pins:List (Addr×Obj)) (s:Shared) (σ:St) (H:Hp) (o i v:V) (ov iv u:Value) (Q:Hp->Prop),Inv X pins σ H s->RelV o ov->RelV i iv->RelV v u->t o i v H Q ->
  wpAny (model X.prog X.w) X.A (setItem ov iv u) (λ_ s'=>∃H',Inv X pins σ H' s'/\Q H') X.xe s
section
variable {X:Cx} {pos:Pos}
def nN(i:Nat):TG:=λv σ H Q=>Q (σ.set i (some v)) H
theorem gj{i:Nat}(hN:X.N.Nodup)(hi:X.N[i]?=some x)(hx:Loc X.env.scope x)(hf:X.fn x=true\/X.env.scope.names.lookup x=some .local):PG X (.Name x pos) (nN i):=by
 intro pins s σ H v u Q I r h;exact wpAny_assign_Name (o9 I hN hi hx r (λs' I'=>⟨_,H,I',h⟩) hf)
def Oq:NS:=λvs σ H Q=>vs=[]/\Q σ H
def Je(t:TG)(u:NS):NS:=λvs σ H Q=>∃v r,vs=v::r/\t v σ H λσ' H'=>u r σ' H' Q
theorem yZ:NT X [] Oq:=by
 intro pins s σ H vs us Q I r h;obtain⟨e,h⟩:=h;subst e;cases r;exact assignInOrder_nil ⟨σ,H,I,h⟩
theorem vn(h1:PG X e t)(h2:NT X es u)
  (hs:(assignEach (e::es) X.env).map (·.2)=assign e X.env::(assignEach es X.env).map (·.2):=by rfl):NT X (e::es) (Je t u):=by
 intro pins s σ H vs us Q I r h;obtain⟨v,vr,e1,h⟩:=h;subst e1;cases r with
 |cons r rr=>rw[hs];refine assignInOrder_cons (cy (h1 pins s σ H _ _ _ I r h) λ_ s1 aN=>?_);obtain⟨σ1,H1,I1,q1⟩:=aN;exact h2 pins s1 σ1 H1 _ _ Q I1 rr q1
def Ot(K:Frag)(n:Nat)(t:NS):TG:=λv σ H Q=>∃a xs,v=.ref a/\iy K H a xs/\xs.length=n/\t xs σ H Q
theorem B9{k:Nat}{n:Nat}(hc:X.calm=true)(h:NT X es t)
  (hn:(assignEach es X.env).length=n) (hst:(assignEach es X.env).findIdx? (·.1)=none):PG X (.Tuple es k pos) (Ot X.K n t):=by
 intro pins s σ H v u Q I r hw;obtain⟨a,xs,e1,hq,hl,hw⟩:=hw;subst e1;cases r;obtain⟨its,rv,ht,hz⟩:=I.tuple hq;refine assign_Tuple_tuple (I.ok.hd hc) ht (by simp[hn,<-hl,rv.length]) hst λh' hx=>?_;have I1:Inv X pins σ H { s with heap:=h' }:=I.kept (t':=s.toks) λb o e=>hx b o (aaj (aaf e)) e;exact h pins _ σ H xs _ Q I1 (by simpa using rv) hw
def Ou(to ti:TE)(t:Ka):TG:=λv σ H Q=>to σ H λo H1=>ti σ H1 λi H2=>t o i v H2 λH3=>Q σ H3
theorem Kd(ho:PE X o to)(hi:PE X i ti)(hs:Kc X t)
  (ha:∀v,assign (.Subscript o i pos) X.env v=(do
   let ov <-holding [v] (eval o X.env)
   let iv <-holding [v,ov] (eval i X.env)
   standAt pos
   holding [v,ov,iv] (setItem ov iv v)
   release [v,ov,iv] [])):PG X (.Subscript o i pos) (Ou to ti t):=by
 intro pins s σ H v u Q I r h;rw[ha];refine Z2 (aaM (cy (ho pins s σ H _ I h) λov s1 aN=>?_));obtain⟨x,H1,I1,r1,q1⟩:=aN;refine Z2 (aaM (cy (hi pins s1 σ H1 _ I1 q1) λiv s2 aN=>?_));obtain⟨y,H2,I2,r2,q2⟩:=aN;refine Z2 (abc (Z2 (aaM (cy (hs pins s2 σ H2 x y v ov iv u _ I2 r1 r2 r q2) λ_ s3 aN=>?_))));obtain⟨H3,I3,q3⟩:=aN;exact wpAny_release ⟨σ,H3,I3,q3⟩
def FA(te:TE)(g:TG):TS:=λD σ H=>te σ H λx H1=>g x σ H1 D.nx
theorem eB(he:PE X e te)(hg:PG X tg g)(hs:swapsWithSole [tg] e pos.line X.env=pure false)(hw:swappedStores [tg] e X.env=pure none)
  (h1:(assignEach [tg] X.env).map (·.2)=[assign tg X.env]):PS X (.Assign [tg] e pos) (FA te g):=by
 intro pins s σ H D I h;refine wpAny_Assign_stores (cy (he pins s σ H _ I h) λv s1 ⟨x,H1,I1,r1,q1⟩=>?_) hs hw;rw[h1];exact cy (hg pins s1 σ H1 x v _ I1 r1 q1) λ_ s2 q=>q
theorem Ca{i:Nat}(hN:X.N.Nodup)(hi:X.N[i]?=some x)(hx:Loc X.env.scope x)(he:PE X e te)(hs:swapsWith e (some (.Name x pos')) pos.line X.env=pure false)(hf:X.fn x=true\/X.env.scope.names.lookup x=some .local) :
  PS X (.Assign [.Name x pos'] e pos) (FA te (nN i)):=by
 intro pins s σ H D I h;refine wpAny_Assign_Name (cy (he pins s σ H _ I h) λv s1 ⟨y,H1,I1,r1,q1⟩=>?_) hs;exact o9 I1 hN hi hx r1 (λs2 I2=>⟨_,H1,I2,q1⟩) hf
end
structure It where
 go:Nat->Hp->Prop
 xP:Nat->Hp->V->Hp->Prop
 stop:Nat->Hp->Prop
def oA(X:Cx)(pins:List (Addr×Obj))(H:Hp)(b:Addr):Prop :=
 H b=none/\b≠X.env.locals/\b∉X.fs/\(b∈X.ex\/X.s₀.heap.objs.size<=b)/\(∀x c,X.env.cells.lookup x=some c->c≠b)/\∀p∈X.pn++pins,p.1≠b
theorem Inv.FD(I:Inv X pins σ H s)(hb:s.heap.objs.size<=b)(hn:H' b=none):oA X pins H' b:=by
 refine⟨hn,abp (aai I.lt hb),I.SO hb,.inr (aaG I.sz hb),λx c e z=>?_,λp hp z=>?_⟩
 ·obtain⟨v,q⟩:=I.cell x c e;exact absurd (aai q.lt (by rw[z];exact hb)) (aaH _)
 ·exact absurd (aai (aaf (I.pin p hp).1) (by rw[z];exact hb)) (aaH _)
structure Turn (P:Program) (w:World) (K:Frag) (tg:Expr) (J:It) (fp:List Addr) (it:Addr) (tn:Nat->Heap->Prop):Prop where
 mem:it∈fp
 obj:∀i h,tn i h->∀b∈fp,∃o,h.get? b=some o/\∀v,o.data≠.cell v
 keep:∀i h h',tn i h->(∀b∈fp,∀o,h.get? b=some o->h'.get? b=some o)->tn i h'
 item:∀(X:Cx),X.prog=P->X.w=w->X.K=K->X.calm=true->∀(i:Nat) (pins:List (Addr×Obj)) (s:Shared) (σ:St) (H:Hp) (E:Value->Shared->Prop),Inv X pins σ H s->(∀b∈fp,oA X pins H b)->tn i s.heap->J.go i H ->
  wpAny (model P w) X.A (pyNext (.ref it)) (λr s1=>∃u,r=some u /\
   wpAny (model P w) X.A (letOwnedTupleGo tg (.ref it) u) (λ_ s2=>∃x H',Inv X pins σ H' s2/\RelV x u/\J.xP i H x H'/\tn (i+1) s2.heap/\∀b∈fp,H' b=none) E s1) E s
 done:∀(X:Cx),X.prog=P->X.w=w->X.K=K->X.calm=true->∀(i:Nat) (pins:List (Addr×Obj)) (s:Shared) (σ:St) (H:Hp) (E:Value->Shared->Prop),Inv X pins σ H s->(∀b∈fp,oA X pins H b)->tn i s.heap->J.stop i H ->
  wpAny (model P w) X.A (pyNext (.ref it)) (λr s1=>r=none/\Inv X pins σ H s1) E s
 self:∀(A:Around) (i:Nat) (s:Shared) (Q:Value->Shared->Prop) (E:Value->Shared->Prop),tn i s.heap->Q (.ref it) s->wpAny (model P w) A (pyIter (.ref it)) Q E s
abbrev TI:=St->Hp->(It->Hp->Prop)->Prop
def VD(X:Cx)(pins:List (Addr×Obj))(σ:St)(tg:Expr)(R:It->Hp->Prop)(itv:Value)(s2:Shared):Prop :=
 ∃(it:Addr) (fp:List Addr) (tn:Nat->Heap->Prop) (J:It) (H':Hp),itv=.ref it/\Inv X pins σ H' s2/\Turn X.prog X.w X.K tg J fp it tn/\tn 0 s2.heap/\(∀b∈fp,oA X pins H' b)/\R J H'
def PI(X:Cx)(tg iter:Expr)(wi:TI):Prop :=
 ∀(pins:List (Addr×Obj)) (s:Shared) (σ:St) (H:Hp) (R:It->Hp->Prop),Inv X pins σ H s->wi σ H R ->
  wpAny (model X.prog X.w) X.A (eval iter X.env) (λv s1=>wpAny (model X.prog X.w) X.A (pyIter v) (VD X pins σ tg R) X.xe s1) X.xe s
theorem Cb{n:String}(ho:s.heap.get? it=some o)(hc:o.cls=.type n)(hd:o.data=.fields vs)
  (hn:["enumerate","zip","dict_itemiterator","dict_reverseitemiterator","odict_iterator","itertools.zip_longest","itertools.pairwise"].contains n=false) (hQ:Q () s):wpAny M A (letOwnedTupleGo tg (.ref it) u) Q E s:=by
 unfold letOwnedTupleGo;cases tg<;>first
  |exact Z7 hQ
  | (cases u<;>first
    |exact Z7 hQ
    | (refine Z2 (wpAny_load ho ?_)
       rw[hc,hd];show wpAny M A (if (["enumerate","zip","dict_itemiterator","dict_reverseitemiterator","odict_iterator","itertools.zip_longest","itertools.pairwise"].contains n&&vs[0]?==some (rawInt _))=true then _ else _) Q E s;rw[aac (by intro h;rw[hn,Bool.false_and]at h;cases h)];exact Z7 hQ))
def R8(K:Frag)(a:Addr):It :=
 ⟨λi H=>∃xs x,fR K H a xs/\xs[i]?=some x,λi H x H'=>H'=H/\∀xs,fR K H a xs->xs[i]?=some x,λi H=>∃xs,fR K H a xs/\xs.length<=i⟩
def S6(K:Frag)(a:Addr):It :=
 ⟨λi H=>∃xs x,iy K H a xs/\xs[i]?=some x,λi H x H'=>H'=H/\∀xs,iy K H a xs->xs[i]?=some x,λi H=>∃xs,iy K H a xs/\xs.length<=i⟩
def Ov(lo:Int)(n:Nat):It:=⟨λi _=>i<n,λi H x H'=>H'=H/\x=.int (lo+i),λi _=>n<=i⟩
theorem AA{P:Program}{w:World}{K:Frag}{tg:Expr}(a it:Addr):Turn P w K tg (R8 K a) [it] it (λi h=>h.IsListIter it a i) where
 mem:=by simp
 obj:=λi h st b hb=>by
  have e:b=it:=by simpa using hb
  subst e;obtain⟨o,e,c,d⟩:=st;exact⟨o,e,λv z=>by rw[d]at z;cases z⟩
 keep:=λi h h' st k=>st.at λo e=>k it (by simp) o e
 item:=by intro X hP hw hK hc i pins s σ H E I hf st hg;subst hP hw hK;obtain⟨xs,x,hq,hx⟩:=hg;obtain⟨its,rv,p,hz⟩:=I.list hq;obtain⟨u,hu,ru⟩:=rv.get hx;obtain⟨f0,f1,f2,f3,f4,f5⟩:=hf it (by simp);refine wpAny_pyNext_list_item st p.isList (x:=u) (by simpa using hu) λh' st' sb=>?_;have I1:Inv X pins σ H { s with heap:=h' }:=I.turned (t':=s.toks) (λb o hb e=>(sb.2 b hb).trans e) f0 f1 f3 f4 f5;obtain⟨o,e,c,d⟩:=id st';exact⟨u,rfl,Cb (s:={ s with heap:=h' }) e c d (by decide) ⟨x,H,I1,ru,⟨rfl,λys hy=>by rw[I.vj hy hq];exact hx⟩,st',λb hb=>(hf b hb).1⟩⟩
 done:=by intro X hP hw hK hc i pins s σ H E I hf st hg;subst hP hw hK;obtain⟨xs,hq,hx⟩:=hg;obtain⟨its,rv,p,hz⟩:=I.list hq;obtain⟨f0,f1,f2,f3,f4,f5⟩:=hf it (by simp);have hl:=rv.length;exact wpAny_pyNext_list_end (I.ok.hd hc) st p.isList (by simp;omega) λh' eb=>⟨rfl,I.turned (t':=s.toks) (λb o hb e=>eb b o hb e) f0 f1 f3 f4 f5⟩
 self:=λ_ _ _ _ _ st h=>wpAny_pyIter_listiter st h
theorem xQ{P:Program}{w:World}{K:Frag}{tg:Expr}(a it:Addr):Turn P w K tg (S6 K a) [it] it (λi h=>h.IsTupleIter it a i) where
 mem:=by simp
 obj:=λi h st b hb=>by
  have e:b=it:=by simpa using hb
  subst e;obtain⟨o,e,c,d⟩:=st;exact⟨o,e,λv z=>by rw[d]at z;cases z⟩
 keep:=λi h h' st k=>st.at λo e=>k it (by simp) o e
 item:=by intro X hP hw hK hc i pins s σ H E I hf st hg;subst hP hw hK;obtain⟨xs,x,hq,hx⟩:=hg;obtain⟨its,rv,p,hz⟩:=I.tuple hq;obtain⟨u,hu,ru⟩:=rv.get hx;obtain⟨f0,f1,f2,f3,f4,f5⟩:=hf it (by simp);refine wpAny_pyNext_tuple_item st (show s.heap.IsTuple a its.toArray from p) (x:=u) (by simpa using hu) λh' st' sb=>?_;have I1:Inv X pins σ H { s with heap:=h' }:=I.turned (t':=s.toks) (λb o hb e=>(sb.2 b hb).trans e) f0 f1 f3 f4 f5;obtain⟨o,e,c,d⟩:=id st';exact⟨u,rfl,Cb (s:={ s with heap:=h' }) e c d (by decide) ⟨x,H,I1,ru,⟨rfl,λys hy=>by rw[I.Az hy hq];exact hx⟩,st',λb hb=>(hf b hb).1⟩⟩
 done:=by intro X hP hw hK hc i pins s σ H E I hf st hg;subst hP hw hK;obtain⟨xs,hq,hx⟩:=hg;obtain⟨its,rv,p,hz⟩:=I.tuple hq;obtain⟨f0,f1,f2,f3,f4,f5⟩:=hf it (by simp);have hl:=rv.length;exact wpAny_pyNext_tuple_end (I.ok.hd hc) st (show s.heap.IsTuple a its.toArray from p) (by simp;omega) λh' eb=>⟨rfl,I.turned (t':=s.toks) (λb o hb e=>eb b o hb e) f0 f1 f3 f4 f5⟩
 self:=λ_ _ _ _ _ st h=>wpAny_pyIter_tupleiter st h
theorem xR{P:Program}{w:World}{K:Frag}{tg:Expr}(it:Addr)(lo:Int)(n:Nat):Turn P w K tg (Ov lo n) [it] it (λi h=>IsRangeIter h it (lo+(i:Nat)*1) ((n:Int)-(i:Nat)) 1) where
 mem:=by simp
 obj:=λi h st b hb=>by
  have e:b=it:=by simpa using hb
  subst e;exact⟨_,st,λv z=>by
   have z':Data.fields _=Data.cell v:=z;cases z'⟩
 keep:=λi h h' st k=>k it (by simp) _ st
 item:=by intro X hP hw hK hc i pins s σ H E I hf st hg;subst hP hw hK;obtain⟨f0,f1,f2,f3,f4,f5⟩:=hf it (by simp);have W:=Walks.range (prog:=X.prog) (w:=X.w) (I.ok.hd hc) it lo 1 n;refine W.item i s _ _ hg st λv h' tk hv st' kk=>?_;obtain⟨t,rfl⟩:=hv;have I1:Inv X pins σ H { s with heap:=h',toks:=tk }:=I.turned (λb o hb e=>kk b o (by simpa using hb) e) f0 f1 f3 f4 f5;refine⟨_,rfl,Cb (s:={ s with heap:=h',toks:=tk }) (n:="range_iterator") st' rfl rfl (by decide) ⟨.int (lo+i),H,I1,⟨t,?_⟩,⟨rfl,rfl⟩,st',λb hb=>(hf b hb).1⟩⟩;rw[Int.mul_one]
 done:=by intro X hP hw hK hc i pins s σ H E I hf st hg;subst hP hw hK;obtain⟨f0,f1,f2,f3,f4,f5⟩:=hf it (by simp);exact wpAny_pyNext_range_end (I.ok.hd hc) st (by have:n<=i:=hg;omega) λh' eb=>⟨rfl,I.turned (t':=s.toks) (λb o hb e=>eb b o hb e) f0 f1 f3 f4 f5⟩
 self:=λ_ _ _ _ _ st h=>wpAny_pyIter_rangeiter st h
section
variable {X:Cx} {tg:Expr}
def Ow(K:Frag)(tl:TE):TI:=λσ H R=>tl σ H λx H1=>∃a,x=.ref a/\(∃xs,fR K H1 a xs)/\R (R8 K a) H1
def S7(K:Frag)(tl:TE):TI:=λσ H R=>tl σ H λx H1=>∃a,x=.ref a/\(∃xs,iy K H1 a xs)/\R (S6 K a) H1
theorem FF(hl:PE X l tl):PI X tg l (Ow X.K tl):=by
 intro pins s σ H R I h;refine cy (hl pins s σ H _ I h) λv s1 aN=>?_;obtain⟨x,H1,I1,r1,q1⟩:=aN;obtain⟨a,e,⟨xs,hq⟩,q⟩:=q1;subst e;cases r1;obtain⟨its,rv,p,hz⟩:=I1.list hq;refine abB p.isList ?_;refine⟨s1.heap.objs.size,[s1.heap.objs.size],_,_,H1,rfl,I1.kept (t':=s1.toks) λb o e=>Z4 _ e,AA a _,⟨_,aam _ rfl,rfl,rfl⟩,λb hb=>?_,q⟩;have e:b=s1.heap.objs.size:=by simpa using hb
 subst e;exact I1.FD (aag _) (I1.hok.fresh (aag _))
theorem Ke(hl:PE X l tl):PI X tg l (S7 X.K tl):=by
 intro pins s σ H R I h;refine cy (hl pins s σ H _ I h) λv s1 aN=>?_;obtain⟨x,H1,I1,r1,q1⟩:=aN;obtain⟨a,e,⟨xs,hq⟩,q⟩:=q1;subst e;cases r1;obtain⟨its,rv,p,hz⟩:=I1.tuple hq;refine wpAny_pyIter_tuple (show s1.heap.IsTuple a its.toArray from p) ?_;refine⟨s1.heap.objs.size,[s1.heap.objs.size],_,_,H1,rfl,I1.kept (t':=s1.toks) λb o e=>Z4 _ e,xQ a _,⟨_,aam _ rfl,rfl,rfl⟩,λb hb=>?_,q⟩;have e:b=s1.heap.objs.size:=by simpa using hb
 subst e;exact I1.FD (aag _) (I1.hok.fresh (aag _))
theorem vo{lo hi:Int}{tk:Nat}(I:Inv X pins σ H s)(h1:-(2 ^ 62)<=lo)(h2:lo<2 ^ 62)(h3:-(2 ^ 62)<=hi)(h4:hi<2 ^ 62)
  (q:R (Ov lo (hi-lo).toNat) H):wpAny (model X.prog X.w) X.A (pyIter (.ref s.heap.objs.size)) (VD X pins σ tg R) E { s with heap:=s.heap.push { cls:=.type "range",data:=.fields [.int lo t,.int hi u,.int 1 v].toArray },toks:=tk }:=by
 refine wpAny_pyIter_range (IsRange.new ..) (small_one h1 h2 h3 h4) ?_;have I1:Inv X pins σ H { s with heap:=s.heap.push { cls:=.type "range",data:=.fields [.int lo t,.int hi u,.int 1 v].toArray },toks:=tk }:=I.kept λb o e=>Z4 _ e;refine⟨(s.heap.push { cls:=.type "range",data:=.fields [.int lo t,.int hi u,.int 1 v].toArray }).objs.size,[(s.heap.push { cls:=.type "range",data:=.fields [.int lo t,.int hi u,.int 1 v].toArray }).objs.size],_,_,H,rfl,
  I1.kept (t':=tk) λb o e=>Z4 _ e,xR _ lo (hi-lo).toNat,?_,λb hb=>?_,q⟩
 ·have e1:lo+((0:Nat):Int)*1=lo:=by simp
  have e2:(((hi-lo).toNat:Nat):Int)-((0:Nat):Int)=Builtin.Range.rangeSize lo hi 1:=by rw[rangeSize_one];split<;>omega
  show IsRangeIter _ _ (lo+((0:Nat):Int)*1) ((((hi-lo).toNat:Nat):Int)-((0:Nat):Int)) 1;rw[e1,e2];exact aam _ rfl
 ·have e:b=(s.heap.push { cls:=.type "range",data:=.fields [.int lo t,.int hi u,.int 1 v].toArray }).objs.size:=by simpa using hb
  subst e;exact I1.FD (aag _) (I1.hok.fresh (aag _))
def Ox(ta:TA):TI:=λσ H R=>ta σ H λvs H1=>∃j:Int,vs=[.int j] /\ -(2 ^ 62)<=j/\j<2 ^ 62/\R (Ov 0 j.toNat) H1
def Oz(ta:TA):TI:=λσ H R=>ta σ H λvs H1=>∃i j:Int,vs=[.int i,.int j]/\(-(2 ^ 62)<=i/\i<2 ^ 62 /\ -(2 ^ 62)<=j/\j<2 ^ 62)/\R (Ov i (j-i).toNat) H1
theorem AB(hg:Gl X "range")(hm:X.mg "range" = none)(ha:PA X [a] ta)(hs:starEach [a] X.env=[(false,eval a X.env)]):PI X tg (.Call (.Name "range" p) [a] [] pos) (Ox ta):=by
 intro pins s σ H R I h;refine Call_ (iR I hg hm boot_range (aaU (cy (ha pos pins s σ H _ I h) λus s1 aN=>?_) hs rfl));obtain⟨vs,H1,I1,r1,q1⟩:=aN;obtain⟨j,e,q1,q2,q⟩:=q1;subst e;cases r1 with
 |cons r rr=>cases rr;obtain⟨t,rfl⟩:=r;exact call_range_1 (vo I1 (by omega) (by omega) q1 q2 (by simpa using q))
theorem AD(hg:Gl X "range")(hm:X.mg "range" = none)(ha:PA X [a,b] ta)(hs:starEach [a,b] X.env=[(false,eval a X.env),(false,eval b X.env)])(hs2:starEach [b] X.env=[(false,eval b X.env)]) :
  PI X tg (.Call (.Name "range" p) [a,b] [] pos) (Oz ta):=by
 intro pins s σ H R I h;refine Call_ (iR I hg hm boot_range (aaU (cy (ha pos pins s σ H _ I h) λus s1 ⟨vs,H1,I1,r1,q1⟩=>?_) (by rw[hs,hs2]) (by rw[hs2];rfl)));obtain⟨i,j,e,⟨q1,q2,q3,q4⟩,q⟩:=q1;subst e;cases r1 with
 |cons r rr=>
  cases rr with
  |cons r' rr=>cases rr;obtain⟨t,rfl⟩:=r;obtain⟨t',rfl⟩:=r';exact call_range_2 (vo I1 q1 q2 q3 q4 q)
def S8(wi:TI)(g:TG)(tb:TS):TS:=λD σ H=>wi σ H λJ H1=>∃W:Nat->Nat->St->Hp->Prop,(∃m,W 0 m σ H1)/\∀i m σ H,W i m σ H ->
 (J.stop i H/\D.nx σ H)\/(J.go i H/\∃N:St->Hp->Prop,(∀σ' H',N σ' H'->∃m',m'<m/\W (i+1) m' σ' H')/\∀x H',J.xP i H x H'->g x σ H' λσ2 H2=>tb { D with nx:=N,ct:=N,bk:=D.nx } σ2 H2)
def pA(fp:List Addr)(h:Heap):List (Addr×Obj):=fp.filterMap λb=>(h.get? b).map λo=>(b,o)
theorem iz(hb:b∈fp)(e:h.get? b=some o):(b,o)∈pA fp h:=List.mem_filterMap.mpr ⟨b,hb,by rw[e];rfl⟩
theorem AE(hp:p∈pA fp h):p.1∈fp/\h.get? p.1=some p.2:=by
 obtain⟨b,hb,e⟩:=List.mem_filterMap.mp hp;cases q:h.get? b with
 |none=>rw[q]at e;cases e
 |some o=>rw[q]at e;have e':(b,o)=p:=aaq e;subst e';exact⟨hb,q⟩
theorem Inv.pinned(I:Inv X pins σ H s)(hf:∀b∈fp,oA X pins H b)(ho:∀b∈fp,∃o,s.heap.get? b=some o/\∀v,o.data≠.cell v):Inv X (pins++pA fp s.heap) σ H s :=
 I.yX λp hp=>(abx.mp hp).elim (λz=>I.pin p (aaz _ z)) λz=>by
  obtain⟨hb,e⟩:=AE z;obtain⟨f0,f1,f2,_⟩:=hf p.1 hb;obtain⟨o,e',d⟩:=ho p.1 hb;rw[e]at e';cases e';exact⟨e,f0,f1,f2,d⟩
theorem Inv.kX(I:Inv X (pins++pl) σ H s):Inv X pins σ H s:=I.yX λp hp=>I.pin p (aaz _ (abi _ hp))
theorem Kf(hp:PassesOwn (model X.prog X.w) X.A X.env X.xe)(hc:X.calm=true)(hi:PI X tg iter wi)(hg:PG X tg g)(hb:nM X body tb)
  (hs:∀x,foldedSetIterable iter X.env x=pure x):PS X (.For tg iter body [] pos) (S8 wi g tb):=by
 intro pins s σ H D I h;refine wpAny_For (cy (hi pins s σ H _ I h) λv s1 h1=>cy h1 λitv s2 h2=>?_) hs;obtain⟨it,fp,tn,J,H2,e,I2,T,st2,f2,W,⟨m0,w0⟩,turn⟩:=h2;subst e;have stat:∀{H':Hp},(∀b∈fp,H' b=none)->∀b∈fp,oA X pins H' b:=λhn b hb=>⟨hn b hb,(f2 b hb).2⟩;refine codeAny_forLoop_any (λn s'=>∃i σ' H',Inv X pins σ' H' s'/\tn i s'.heap/\(∀b∈fp,H' b=none)/\W i n σ' H') ?_ m0 ⟨0,σ,H2,I2,st2,λb hb=>(f2 b hb).1,w0⟩;rintro n s3 ⟨i,σ3,H3,I3,st3,VE,w3⟩
 rcases turn i n σ3 H3 w3 with ⟨stop,qn⟩|⟨go,N,hN,step⟩
 ·refine abN hp (cy (T.done X rfl rfl rfl hc i pins s3 σ3 H3 X.xe I3 (stat VE) st3 stop) λr s4 aN=>?_);obtain⟨hr,I4⟩:=aN;subst hr;exact abM ⟨σ3,H3,I4,qn⟩
 ·refine abN hp (cy (T.item X rfl rfl rfl hc i pins s3 σ3 H3 X.xe I3 (stat VE) st3 go) λr s4 aN=>?_)
  obtain⟨u,hr,h4⟩:=aN;subst hr;refine abN hp (cy h4 λ_ s5 aN=>?_);obtain⟨x,H5,I5,r5,y5,NU,R9⟩:=aN;have W6:=I5.pinned (stat R9) (T.obj _ _ NU);refine abN hp (cy (hg _ s5 σ3 H5 x u _ W6 r5 (step x H5 y5)) λ_ s6 aN=>?_);obtain⟨σ6,H6,I6,q6⟩:=aN;refine abN hp (cy (hb _ s6 σ6 H6 _ I6 q6) λf s7 q7=>?_);have again:∀{σ7:St} {H7:Hp},Inv X (pins++pA fp s5.heap) σ7 H7 s7->N σ7 H7->∃m,m<n/\∃i σ' H',Inv X pins σ' H' s7/\tn i s7.heap/\(∀b∈fp,H' b=none)/\W i m σ' H':=λ{σ7 H7} I7 n7=>by
   obtain⟨m',hm,w7⟩:=hN σ7 H7 n7;refine⟨m',hm,i+1,σ7,H7,I7.kX,T.keep _ _ _ NU λb hb o e=>(I7.pin (b,o) (aaz _ (aaz _ (iz hb e)))).1,λb hb=>?_,w7⟩;obtain⟨o,e,d⟩:=T.obj _ _ NU b hb;exact(I7.pin (b,o) (aaz _ (aaz _ (iz hb e)))).2.1
  cases f with
  |next=>obtain⟨σ7,H7,I7,n7⟩:=q7;exact again I7 n7
  |cont=>obtain⟨σ7,H7,I7,n7⟩:=q7;exact again I7 n7
  |brk=>obtain⟨σ7,H7,I7,q7⟩:=q7;exact⟨σ7,H7,I7.kX,q7⟩
  |ret v=>obtain⟨x7,σ7,H7,I7,r7,q7⟩:=q7;exact⟨x7,σ7,H7,I7.kX,r7,q7⟩
end
abbrev R2:=V->V->Hp->VK->Prop
def jz(X:Cx)(f:Value->Value->Sem Value)(r:R2):Prop :=
 ∀(pins:List (Addr×Obj)) (s:Shared) (σ:St) (H:Hp) (x y:V) (v u:Value) (Q:VK),Inv X pins σ H s->RelV x v->RelV y u->r x y H Q ->
  wpAny (model X.prog X.w) X.A (f v u) (EP X pins σ Q) X.xe s
def Sa(X:Cx)(f:Value->Sem Value)(r:V->Hp->VK->Prop):Prop :=
 ∀(pins:List (Addr×Obj)) (s:Shared) (σ:St) (H:Hp) (x:V) (v:Value) (Q:VK),Inv X pins σ H s->RelV x v->r x H Q ->
  wpAny (model X.prog X.w) X.A (f v) (EP X pins σ Q) X.xe s
def bR(X:Cx)(f:Value)(r:List V->Hp->VK->Prop):Prop :=
 ∀(pins:List (Addr×Obj)) (s:Shared) (σ:St) (H:Hp) (xs:List V) (us:List Value) (Q:VK),Inv X pins σ H s->Vals xs us->r xs H Q ->
  wpAny (model X.prog X.w) X.A (call f us) (EP X pins σ Q) X.xe s
def S9(X:Cx)(r:V->Hp->(Bool->Hp->Prop)->Prop):Prop :=
 ∀(pins:List (Addr×Obj)) (s:Shared) (σ:St) (H:Hp) (x:V) (v:Value) (Q:Bool->Hp->Prop),Inv X pins σ H s->RelV x v->r x H Q ->
  wpAny (model X.prog X.w) X.A (truthy v) (TP X pins σ Q) X.xe s
def Sb(r:R2)(ta tb:TE):TE:=λσ H Q=>ta σ H λx H1=>tb σ H1 λy H2=>r x y H2 Q
def W7(r:V->Hp->VK->Prop)(ta:TE):TE:=λσ H Q=>ta σ H λx H1=>r x H1 Q
def rI(C:Int->Int->Prop)(g:Int->Int->V):R2:=λx y H Q=>∃i j,x=.int i/\y=.int j/\C i j/\Q (g i j) H
def Jf(g:Int->Int->V):R2:=λx y H Q=>∃i j,x=.int i/\y=.int j/\Q (g i j) H
def rU(g:Int->V):V->Hp->VK->Prop:=λx H Q=>∃i,x=.int i/\Q (g i) H
section
variable {X:Cx} {a b c:Expr} {ta tb tc:TE} {pos:Pos}
theorem Kg(ha:PE X a ta)(hb:PE X b tb){pins:List (Addr×Obj)}{s:Shared}{σ:St}{H:Hp}{R:V->V->Hp->Prop}(I:Inv X pins σ H s)
  (h:ta σ H λx H1=>tb σ H1 λy H2=>R x y H2) {Q:Value->Shared->Prop} {f:Value->Value->Sem Value}
  (hf:∀v u s2 x y H2,Inv X pins σ H2 s2->RelV x v->RelV y u->R x y H2->wpAny (model X.prog X.w) X.A (f v u) Q X.xe s2) :
  wpAny (model X.prog X.w) X.A (eval a X.env) (λv s₁=>wpAny (model X.prog X.w) X.A (eval b X.env) (λu s₂=>wpAny (model X.prog X.w) X.A (f v u) Q X.xe s₂) X.xe s₁) X.xe s:=by
 refine cy (ha pins s σ H _ I h) λv s1 aN=>?_;obtain⟨x,H1,I1,r1,q1⟩:=aN;refine cy (hb pins s1 σ H1 _ I1 q1) λu s2 aN=>?_;obtain⟨y,H2,I2,r2,q2⟩:=aN;exact hf v u s2 x y H2 I2 r1 r2 q2
theorem y9(ho:jz X (binaryOp op) r)(ha:PE X a ta)(hb:PE X b tb):PE X (.BinOp a op b pos) (Sb r ta tb):=by
 intro pins s σ H Q I h;exact wpAny_BinOp (Kg ha hb I h λv u s2 x y H2 I2 rx ry q=>ho pins s2 σ H2 x y v u Q I2 rx ry q)
theorem OA(ho:Sa X (unaryOp op) r)(ha:PE X a ta):PE X (.UnaryOp op a pos) (W7 r ta):=by
 intro pins s σ H Q I h;exact UnaryOp_ (cy (ha pins s σ H _ I h) λv s1 ⟨x,H1,I1,r1,q1⟩=>ho pins s1 σ H1 x v Q I1 r1 q1)
theorem Sd{f:Value->Value->Sem Value}{C:Int->Int->Prop}{g:Int->Int->Int}
  (rule:∀(i j:Int) (t u:Tok) (s:Shared) (Q:Value->Shared->Prop) (E:Value->Shared->Prop),C i j->Q (.int (g i j) s.toks) { s with toks:=s.toks+1 }->wpAny (model X.prog X.w) X.A (f (.int i t) (.int j u)) Q E s) :
  jz X f (rI C λi j=>.int (g i j)):=by
 intro pins s σ H x y v u Q I rx ry h;obtain⟨i,j,rfl,rfl,hc,q⟩:=h;obtain⟨t,rfl⟩:=rx;obtain⟨t',rfl⟩:=ry;exact rule i j t t' s _ _ hc ⟨.int (g i j),H,I.tok _,⟨_,rfl⟩,q⟩
theorem OC{f:Value->Value->Sem Value}{g:Int->Int->Int}
  (rule:∀(i j:Int) (t u:Tok) (s:Shared) (Q:Value->Shared->Prop) (E:Value->Shared->Prop),Q (.int (g i j) s.toks) { s with toks:=s.toks+1 }->wpAny (model X.prog X.w) X.A (f (.int i t) (.int j u)) Q E s) :
  jz X f (Jf λi j=>.int (g i j)):=by
 intro pins s σ H x y v u Q I rx ry h;obtain⟨i,j,rfl,rfl,q⟩:=h;obtain⟨t,rfl⟩:=rx;obtain⟨t',rfl⟩:=ry;exact rule i j t t' s _ _ ⟨.int (g i j),H,I.tok _,⟨_,rfl⟩,q⟩
theorem FG{f:Value->Value->Sem Value}{g:Int->Int->Bool}
  (rule:∀(i j:Int) (t u:Tok) (s:Shared) (Q:Value->Shared->Prop) (E:Value->Shared->Prop),Q (.bool (g i j)) s->wpAny (model X.prog X.w) X.A (f (.int i t) (.int j u)) Q E s) :
  jz X f (Jf λi j=>.bl (g i j)):=by
 intro pins s σ H x y v u Q I rx ry h;obtain⟨i,j,rfl,rfl,q⟩:=h;obtain⟨t,rfl⟩:=rx;obtain⟨t',rfl⟩:=ry;exact rule i j t t' s _ _ ⟨.bl (g i j),H,I,rfl,q⟩
def Tc(i j:Int):Prop:=0<=j/\j<=1000000/\i.natAbs<2 ^ 64
def Kh(i j:Int):Prop:=(-(2 ^ 64)<i/\i<2 ^ 64)\/(-(2 ^ 64)<j/\j<2 ^ 64)
theorem Kh.ok{i j:Int}(h:Kh i j):IntMulOk i j:=by
 rcases h with ⟨h1,h2⟩|⟨h1,h2⟩
 ·exact .of_left (intBits_le_64 h1 h2)
 ·exact .of_right (intBits_le_64 h1 h2)
theorem Kl:jz X (binaryOp .Add) (Jf λi j=>.int (i+j)):=OC λ_ _ _ _ _ _ _ q=>add_int q
theorem Km:jz X (binaryOp .Sub) (Jf λi j=>.int (i-j)):=OC λ_ _ _ _ _ _ _ q=>sub_int q
theorem Kn:jz X (binaryOp .Mult) (rI Kh λi j=>.int (i*j)):=Sd λ_ _ _ _ _ _ _ hc q=>mul_int q hc.ok
theorem Ko:jz X (binaryOp .Mod) (rI (λ_ j=>0<j) λi j=>.int (i%j)):=Sd λi j _ _ _ _ _ hc q=>by
 have h1:(0:Int)<j:=hc;exact mod_int' (by omega) (by rw[Int.fmod_eq_emod_of_nonneg i (by omega)];exact q)
theorem Kp:jz X (binaryOp .Pow) (rI Tc λi j=>.int (i ^ j.toNat)):=Sd λ_ _ _ _ _ _ _ hc q=>pow_int_small hc.1 hc.2.1 hc.2.2 q
theorem W8{f:Value->Sem Value}{g:Int->Int}
  (rule:∀(i:Int) (t:Tok) (s:Shared) (Q:Value->Shared->Prop) (E:Value->Shared->Prop),Q (.int (g i) s.toks) { s with toks:=s.toks+1 }->wpAny (model X.prog X.w) X.A (f (.int i t)) Q E s) :
  Sa X f (rU λi=>.int (g i)):=by
 intro pins s σ H x v Q I rx h;obtain⟨i,rfl,q⟩:=h;obtain⟨t,rfl⟩:=rx;exact rule i t s _ _ ⟨.int (g i),H,I.tok _,⟨_,rfl⟩,q⟩
theorem Cc:Sa X (unaryOp .USub) (rU λi=>.int (-i)):=W8 λ_ _ _ _ _ q=>neg_int q
end
section
variable {X:Cx} {a b c:Expr} {ta tb tc:TE} {pos:Pos}
theorem mP{k k':Bool}(I:Inv X pins σ H s)(q:Q (.bl k) H)(e:k=k'):EP X pins σ Q (.bool k') s:=by
 subst e;exact⟨.bl k,H,I,rfl,q⟩
theorem OE:jz X (compareOp .Lt) (Jf λi j=>.bl (decide (i<j))):=FG λ_ _ _ _ _ _ _ q=>lt_int q
theorem OF:jz X (compareOp .LtE) (Jf λi j=>.bl (decide (i<=j))):=FG λ_ _ _ _ _ _ _ q=>le_int q
theorem OG:jz X (compareOp .Gt) (Jf λi j=>.bl (decide (j<i))):=FG λ_ _ _ _ _ _ _ q=>gt_int q
theorem OH:jz X (compareOp .GtE) (Jf λi j=>.bl (decide (j<=i))):=FG λ_ _ _ _ _ _ _ q=>ge_int q
theorem AF:jz X (compareOp .In) (λx y H Q=>∃i j,x=.str i/\y=.str j/\Q (.bl (!(Builtin.Str.occurrences j i 0 j.length 1).isEmpty)) H):=by
 intro pins s σ H x y v u Q I rx ry h;obtain⟨i,j,rfl,rfl,q⟩:=h;obtain⟨t,rfl⟩:=rx;obtain⟨t',rfl⟩:=ry;exact in_str (mP I q rfl)
theorem Kq:jz X (compareOp .Is) (λx y H Q=>y=.non/\Q (.bl (decide (x=.non))) H):=by
 intro pins s σ H x y v u Q I rx ry h;obtain⟨rfl,q⟩:=h;cases ry;refine is_none_gen (mP I q ?_);cases x<;>first
  |(cases rx;rfl)
  |(obtain⟨t,rfl⟩:=rx;rfl)
theorem FH:jz X (compareOp .IsNot) (λx y H Q=>y=.non/\Q (.bl (!decide (x=.non))) H):=by
 intro pins s σ H x y v u Q I rx ry h;obtain⟨rfl,q⟩:=h;cases ry;refine isnot_none_gen (mP I q ?_);cases x<;>first
  |(cases rx;rfl)
  |(obtain⟨t,rfl⟩:=rx;rfl)
theorem t7:jz X (compareOp .NotIn) (λx y H Q=>∃i j,x=.str i/\y=.str j/\Q (.bl (!(!(Builtin.Str.occurrences j i 0 j.length 1).isEmpty))) H):=by
 intro pins s σ H x y v u Q I rx ry h;obtain⟨i,j,rfl,rfl,q⟩:=h;obtain⟨t,rfl⟩:=rx;obtain⟨t',rfl⟩:=ry;exact notIn_str (mP I q rfl)
theorem FI(ho:jz X (compareOp op) r)(ha:PE X a ta)(hb:PE X b tb)(hm:behindInMarks op b=false):PE X (.Compare a [op] [b] pos) (Sb r ta tb):=by
 intro pins s σ H Q I h;exact wpAny_Compare1 (Kg ha hb I h λv u s2 x y H2 I2 rx ry q=>ho pins s2 σ H2 x y v u Q I2 rx ry q) hm
def Jg(t:TE):TT:=λσ H Q=>t σ H λx H'=>∃k,x=.bl k/\Q k H'
theorem FJ(ho:jz X (compareOp op) r)(ha:PE X a ta)(hb:PE X b tb)(hm:behindInMarks op b=false):PT X (.Compare a [op] [b] pos) (Jg (Sb r ta tb)):=by
 intro pins s σ H Q I h;refine wpAny_isTrue_Compare1 (cy (ha pins s σ H _ I h) λv s1 ⟨x,H1,I1,r1,q1⟩=>cy (hb pins s1 σ H1 _ I1 q1) λu s2 ⟨y,H2,I2,r2,q2⟩=>
  cy (ho pins s2 σ H2 x y v u _ I2 r1 r2 q2) λc s3 ⟨z,H3,I3,r3,k,e,q3⟩=>?_) hm
 subst e;cases r3;exact aaN ⟨H3,I3,q3⟩
def Cd(r r':R2)(ta tb tc:TE):TE:=λσ H Q=>ta σ H λx H1=>tb σ H1 λy H2=>r x y H2 λz H3=>∃k,z=.bl k /\
 (if k=true then tc σ H3 λw' H4=>r' y w' H4 Q else Q (.bl false) H3)
theorem Ce(ho:jz X (compareOp op) r)(ho':jz X (compareOp op') r')(ha:PE X a ta)(hb:PE X b tb)(hc:PE X c tc)
  (hm:lastMarks [op,op'] [b,c]=false):PE X (.Compare a [op,op'] [b,c] pos) (Cd r r' ta tb tc):=by
 intro pins s σ H Q I h;refine Compare_chain (cy (ha pins s σ H _ I h) λv s1 ⟨x,H1,I1,r1,q1⟩=>chain_link (cy (hb pins s1 σ H1 _ I1 q1) λu s2 ⟨y,H2,I2,r2,q2⟩=>
  cy (ho pins s2 σ H2 x y v u _ I2 r1 r2 q2) λd s3 ⟨z,H3,I3,r3,k,e,q3⟩=>?_)) hm
 subst e;cases r3;refine aaN ?_;cases k with
 |false=>exact ite_ff ⟨.bl false,H3,I3,rfl,q3⟩
 |true=>exact ite_tt (chain_last (cy (hc pins s3 σ H3 _ I3 q3) λw' s4 ⟨z',H4,I4,r4,q4⟩=>ho' pins s4 σ H4 y z' u w' Q I4 r2 r4 q4))
theorem Cf(ho:jz X (compareOp op) r)(ho':jz X (compareOp op') r')(ha:PE X a ta)(hb:PE X b tb)(hc:PE X c tc)
  (hm:lastMarks [op,op'] [b,c]=false):PT X (.Compare a [op,op'] [b,c] pos) (Jg (Cd r r' ta tb tc)):=by
 intro pins s σ H Q I h;refine isTrue_chain (cy (ha pins s σ H _ I h) λv s1 ⟨x,H1,I1,r1,q1⟩=>test_link (cy (hb pins s1 σ H1 _ I1 q1) λu s2 ⟨y,H2,I2,r2,q2⟩=>
  cy (ho pins s2 σ H2 x y v u _ I2 r1 r2 q2) λd s3 ⟨z,H3,I3,r3,k,e,q3⟩=>?_)) hm
 subst e;cases r3;refine aaN ?_;cases k with
 |false=>obtain⟨k',e',q'⟩:=q3;cases e';exact ite_ff ⟨H3,I3,q'⟩
 |true=>refine ite_tt (test_last (cy (hc pins s3 σ H3 _ I3 q3) λw' s4 ⟨z',H4,I4,r4,q4⟩=>cy (ho' pins s4 σ H4 y z' u w' _ I4 r2 r4 q4) λd' s5 aN=>?_));obtain⟨z2,H5,I5,r5,k2,e2,q5⟩:=aN;subst e2;cases r5;exact aaN ⟨H5,I5,q5⟩
def Kr(K:Frag)(x:V)(H:Hp)(k:Bool):Prop :=
 match x with
 |.non=>k=false
 |.bl b=>k=b
 |.int i=>k=(i != 0)
 |.str y=>y.length<=sizeLine/\k=((y.length:Int) != 0)
 |.byt y=>y.size<=sizeLine/\k=((y.size:Int) != 0)
 |.ref p=>(∃xs,fR K H p xs/\k = !xs.isEmpty)\/(∃xs,iy K H p xs/\k = !xs.isEmpty)\/∃kvs,H p=some (.dK kvs)/\k = !kvs.isEmpty
 |_=>False
theorem xS{κ:Type}{kvs:List (κ × V)}{vs:List (κ × Value)}(r:KV kvs vs):(!vs.isEmpty) = !kvs.isEmpty:=by
 cases r<;>rfl
theorem pB(r:Vals xs its):(!its.toArray.isEmpty) = !xs.isEmpty:=by
 cases r<;>simp
theorem mQ:(sizeLine:Nat)<2 ^ 63:=by rw[aaZ];decide
theorem Ks:S9 X (λx H Q=>∃k,Kr X.K x H k/\Q k H):=by
 intro pins s σ H x v Q I rx h;obtain⟨k,e,q⟩:=h;have hl:=mQ;have hs:sizeLine=16777216:=aaZ;cases x with
 |non=>cases rx;have e':k=false:=e;subst e';exact truthy_none ⟨H,I,q⟩
 |bl b=>cases rx;have e':k=b:=e;subst e';exact aaN ⟨H,I,q⟩
 |int i=>obtain⟨t,rfl⟩:=rx;have e':k=(i != 0):=e;subst e';exact PySem.P.truthy_int ⟨H,I,q⟩
 |str y=>obtain⟨t,rfl⟩:=rx;obtain⟨hy,e'⟩:y.length<=sizeLine/\k=((y.length:Int) != 0):=e;subst e';exact PySem.P.truthy_str (by omega) ⟨H,I.tok _,q⟩
 |byt y=>obtain⟨t,rfl⟩:=rx;obtain⟨hy,e'⟩:y.size<=sizeLine/\k=((y.size:Int) != 0):=e;subst e';exact PySem.W.truthy_bytes (by omega) ⟨H,I.tok _,q⟩
 |ref p=>
  cases rx;have e':(∃xs,fR X.K H p xs/\k = !xs.isEmpty)\/(∃xs,iy X.K H p xs/\k = !xs.isEmpty)\/∃kvs,H p=some (.dK kvs)/\k = !kvs.isEmpty:=e
  rcases e' with ⟨xs,hx,e'⟩|⟨xs,hx,e'⟩|⟨kvs,hx,e'⟩
  ·subst e';obtain⟨its,r,pl,hz⟩:=I.list hx;have hlen:=r.length;exact wpAny_truthy_list pl.isList (by simp only[size_toArray];omega) ⟨H,I.tok _,by rw[pB r];exact q⟩
  ·subst e';obtain⟨its,r,pl,hz⟩:=I.tuple hx;have hlen:=r.length;exact truthy_tuple pl (by simp only[size_toArray];omega) ⟨H,I.tok _,by rw[pB r];exact q⟩
  ·subst e';obtain⟨hz,hS,vs,r,m⟩:kvs.length<=sizeLine/\(p==sysModules)=false/\∃vs,KV kvs vs/\s.heap.DictOf (bZ X.prog X.w) p vs:=I.hok p _ hx;have hlen:kvs.length=vs.length:=Paired.length r;exact wpAny_truthy_dict hS m (by omega) ⟨H,I.tok _,by rw[xS r];exact q⟩
 |_=>exact(show False from e).elim
theorem Cg(ha:PE X a ta)(he:∀whole,isTrue a X.env whole=(do let v <-whole;standAt a.pos;holding [v] (truthy v))) :
  PT X a (λσ H Q=>ta σ H λx H'=>∃k,Kr X.K x H' k/\Q k H'):=by
 intro pins s σ H Q I h;exact isTrue_plain (cy (ha pins s σ H _ I h) λv s1 ⟨x,H1,I1,r1,q1⟩=>Ks pins s1 σ H1 x v Q I1 r1 q1) (he _)
theorem xT:jz X (binaryOp .Add) (λx y H Q=>∃i j,x=.str i/\y=.str j/\i.length+j.length<=sizeLine/\Q (.str (i++j)) H):=by
 intro pins s σ H x y v u Q I rx ry h;obtain⟨i,j,rfl,rfl,hz,q⟩:=h;obtain⟨t,rfl⟩:=rx;obtain⟨t',rfl⟩:=ry;exact add_str (λt' tk=>⟨.str (i++j),H,I.tok _,⟨_,rfl⟩,q⟩) hz
theorem vals1(r:Vals [x] us):∃u,us=[u]/\RelV x u:=by
 cases r with
 |cons r1 r2=>cases r2;exact⟨_,rfl,r1⟩
theorem vals2(r:Vals [x,y] us):∃u w',us=[u,w']/\RelV x u/\RelV y w':=by
 cases r with
 |cons r1 r2=>
  cases r2 with
  |cons r3 r4=>cases r4;exact⟨_,_,rfl,r1,r3⟩
theorem AG(hc:X.calm=true):bR X (.builtin "max") (λxs H Q=>∃i j,xs=[.int i,.int j]/\Q (.int (if j>i then j else i)) H):=by
 intro pins s σ H xs us Q I r h;obtain⟨i,j,rfl,q⟩:=h;obtain⟨u,w',rfl,⟨t,rfl⟩,⟨t',rfl⟩⟩:=vals2 r;refine max_two_ints (I.ok.hd hc) λh' tk k=>⟨_,H,I.kept k,?_,q⟩
 by_cases hj:j>i
 ·rw[aae hj,aae hj];exact⟨_,rfl⟩
 ·rw[aac hj,aac hj];exact⟨_,rfl⟩
theorem AH(hc:X.calm=true):bR X (.builtin "min") (λxs H Q=>∃i j,xs=[.int i,.int j]/\Q (.int (if j<i then j else i)) H):=by
 intro pins s σ H xs us Q I r h;obtain⟨i,j,rfl,q⟩:=h;obtain⟨u,w',rfl,⟨t,rfl⟩,⟨t',rfl⟩⟩:=vals2 r;refine min_two_ints (I.ok.hd hc) λh' tk k=>⟨_,H,I.kept k,?_,q⟩
 by_cases hj:j<i
 ·rw[aae hj,aae hj];exact⟨_,rfl⟩
 ·rw[aac hj,aac hj];exact⟨_,rfl⟩
theorem rN:bR X (.type "int") (λxs H Q=>(∃i,xs=[.int i]/\Q (.int i) H)\/∃k,xs=[.bl k]/\Q (.int (if k then 1 else 0)) H):=by
 intro pins s σ H xs us Q I r h
 rcases h with ⟨i,rfl,q⟩|⟨k,rfl,q⟩
 ·obtain⟨u,rfl,t,rfl⟩:=vals1 r;exact call_int_int ⟨.int i,H,I,⟨_,rfl⟩,q⟩
 ·obtain⟨u,rfl,r1⟩:=vals1 r;cases r1;exact call_int_bool ⟨.int (if k then 1 else 0),H,I.tok _,⟨_,rfl⟩,q⟩
theorem t8:bR X (.type "str") (λxs H Q=>∃i,xs=[.int i]/\i.natAbs.log2<1920/\Q (.str (toString i)) H):=by
 intro pins s σ H xs us Q I r h;obtain⟨i,rfl,hz,q⟩:=h;obtain⟨u,rfl,t,rfl⟩:=vals1 r;exact PySem.P.str_of_int hz ⟨.str _,H,I.tok _,⟨_,rfl⟩,q⟩
def Td(K:Frag)(x:V)(H:Hp)(n:Nat):Prop :=
 match x with
 |.str y=>y.length<=sizeLine/\n=y.length
 |.byt y=>y.size<=sizeLine/\n=y.size
 |.ref p=>(∃xs,fR K H p xs/\n=xs.length)\/∃xs,iy K H p xs/\n=xs.length
 |_=>False
theorem kY:bR X (.builtin "len") (λxs H Q=>∃x n,xs=[x]/\Td X.K x H n/\Q (.int n) H):=by
 intro pins s σ H xs us Q I r h;obtain⟨x,n,rfl,e,q⟩:=h;obtain⟨u,rfl,rx⟩:=vals1 r;have hl:=mQ;have hs:sizeLine=16777216:=aaZ;cases x with
 |str y=>obtain⟨t,rfl⟩:=rx;obtain⟨hy,e'⟩:y.length<=sizeLine/\n=y.length:=e;subst e';exact len_str (by omega) ⟨.int _,H,I.tok _,⟨_,rfl⟩,q⟩
 |byt y=>obtain⟨t,rfl⟩:=rx;obtain⟨hy,e'⟩:y.size<=sizeLine/\n=y.size:=e;subst e';exact PySem.W.len_bytes (by omega) ⟨.int _,H,I.tok _,⟨_,rfl⟩,q⟩
 |ref p=>
  cases rx;have e':(∃xs,fR X.K H p xs/\n=xs.length)\/∃xs,iy X.K H p xs/\n=xs.length:=e
  rcases e' with ⟨xs,hx,e'⟩|⟨xs,hx,e'⟩
  ·subst e';obtain⟨its,r',pl,hz⟩:=I.list hx;have hlen:=r'.length;exact Calls.call_len_list pl.isList (by simp only[size_toArray];omega) ⟨.int xs.length,H,I.tok _,⟨_,by simp only[size_toArray];rw[hlen]⟩,q⟩
  ·subst e';obtain⟨its,r',pl,hz⟩:=I.tuple hx;have hlen:=r'.length;exact len_tuple pl (by simp only[size_toArray];omega) ⟨.int xs.length,H,I.tok _,⟨_,by simp only[size_toArray];rw[hlen]⟩,q⟩
 |_=>exact(show False from e).elim
end
theorem AI{h:Heap}{dx:Addr}{mA:Str->Option Value}(n:h.Ns1 dx mA):∃od,h.get? dx=some od/\∀name,lookIn name od=some (mA name):=by
 obtain⟨o,es,ep,ho,hd,hk,_,hm⟩:=n;refine⟨o,ho,λname=>?_⟩;have e:=hm name;unfold nsFind findBy at e;rw[<-Array.find?_toList]at e;unfold lookIn;rw[hd];dsimp only
 split
 ·rename_i y q;rw[q]at e;exact aa3 some e
 ·rename_i q
  rw[q]at e;have a:es.toList.any (·.refKey)=false:=by rw[List.any_eq_false];intro y hy;obtain⟨z,t,hkey⟩:=hk y (Array.mem_toList_iff.mp hy);simp[DictEntry.refKey,hkey]
  have a':¬ es.toList.any (·.refKey)=true:=by rw[a];exact Z3
  rw[aac a'];exact aa3 some e
theorem ou.some_of(r:ou (some v) o):∃u,o=some u/\RelV v u:=by
 cases o with
 |none=>exact(show False from r).elim
 |some u=>exact⟨u,rfl,r⟩
theorem AJ(r:RelV v u):handedIn u=true:=by
 cases v with
 |non=>cases (show u=Value.none from r);rfl
 |bl b=>cases (show u=Value.bool b from r);rfl
 |int i=>obtain⟨t,e⟩:=(show ∃t,u=Value.int i t from r);cases e;rfl
 |str x=>obtain⟨t,e⟩:=(show ∃t,u=Value.str x t from r);cases e;rfl
 |byt b=>obtain⟨t,e⟩:=(show ∃t,u=Value.bytes b t from r);cases e;rfl
 |flt b=>obtain⟨t,e⟩:=(show ∃t,u=Value.float b t from r);cases e;rfl
 |ref a=>cases (show u=Value.ref a from r);rfl
 |ty n=>cases (show u=Value.type n from r);rfl
structure VF (K:Frag) (C:Addr):Prop where
 pg:PySem.W.plainGet K C Str.empty=true
 hd:hasDictIn K C=true
 po:PySem.W.plainOver K C=true
 sa:findIn K (.ref C) "__setattr__" = some (some (.builtin "object.__setattr__"))
def Ci(K:Frag)(C:Addr)(f:Str):Prop:=findIn K (.ref C) f=some none
structure Meth (K:Frag) (C:Addr) (m:Str) (f:Addr):Prop where
 at_:findIn K (.ref C) m=some (some (.ref f))
 fn:isFn K (.ref f)=true
 kp:keepIn K (.ref f)=true
section
variable {X:Cx} {pins:List (Addr×Obj)} {σ:St} {H:Hp} {s:Shared} {a C dx:Addr} {fs:List (Str×V)} {f:Str} {v:V} {A:Around} {E:Value->Shared->Prop}
theorem attr_of(hb:attributeBase e f env (eval e env)=eval e env)
  (h:wpAny (model prog w) A (eval e env) (λo s₁=>wpAny (model prog w) A (getAttr o f true) Q E s₁) E s):wpAny (model prog w) A (eval (.Attribute e f pos) env) Q E s :=
 Attribute_any_ h (by rw[arm_eval_Attribute,hb])
end
structure dj (k:Nat) (A:Around):Prop where
 hd:A.handled=none
 dp:A.depth+3*k+5<recursionLimit
 un:A.units+16*k+200<cLine
theorem dj.mono{j k:Nat}(r:dj k A)(h:j<=k):dj j A:=⟨r.hd,by have:=r.dp;omega,by have:=r.un;omega⟩
theorem dj.deeper{k:Nat}(r:dj (k+1) A)(env:Env):dj k (A.deeper env) :=
 ⟨r.hd,by have:=r.dp;show A.depth+1+3*k+5<_;omega,by have:=r.un;show A.units+3+16*k+200<_;omega⟩
theorem xU{A:Around}{C:Addr}{us:List Value}{kw:List (Str×Value)}:(A.under (.builtin "type.__call__" ⟨.ref C::us,kw⟩)).depth=A.depth+1:=by
 first|rfl|simp[Around.under,Code.weight,Code.isCreation,Code.isGuard,Code.isCaller,Code.frames,Code.isFrame,guardIds]
theorem xV{A:Around}{C:Addr}{us:List Value}{kw:List (Str×Value)}:(A.under (.builtin "type.__call__" ⟨.ref C::us,kw⟩)).units=A.units+1:=by
 first|rfl|simp[Around.under,Code.cUnits,Code.frames,Code.isFrame]
theorem dj.make{k:Nat}(r:dj (k+1) A)(C:Addr)(us:List Value)(kw:List (Str×Value)):dj k (A.under (.builtin "type.__call__" ⟨.ref C::us,kw⟩)) :=
 ⟨r.hd,by have:=r.dp;rw[xU];omega,by have:=r.un;rw[xV];omega⟩
theorem dj.depth{k:Nat}(r:dj k A):A.depth<recursionLimit:=by have:=r.dp;omega
theorem dj.units{k:Nat}(r:dj k A):A.units+64<cLine:=by have:=r.un;omega
def Ku:TA:=λ_ H Q=>Q [] H
def Jh(ta:TE)(tr:TA):TA:=λσ H Q=>ta σ H λx H1=>tr σ H1 λxs H2=>Q (x::xs) H2
section
variable {X:Cx} {e:Expr} {es:List Expr} {te:TE} {t:TA} {pos:Pos}
theorem dO:PA X [] Ku:=λ_ _ _ _ H Q I h=>Calls.spliced_nil ⟨[],H,I,.nil,h⟩
theorem bh(ha:PE X e te)(hr:PA X es t)(hs:starEach (e::es) X.env=(false,eval e X.env)::starEach es X.env:=by rfl):PA X (e::es) (Jh te t):=by
 intro pos pins s σ H Q I h;rw[hs];show wpAny _ _ (spliced ((false,eval e X.env)::backTo pos (starEach es X.env))) _ _ s;refine Calls.spliced_cons (cy (ha pins s σ H _ I h) λu s1 aN=>?_);obtain⟨x,H1,I1,r1,q1⟩:=aN;exact cy (hr pos pins s1 σ H1 _ I1 q1) λus s2 ⟨xs,H2,I2,r2,q2⟩=>⟨x::xs,H2,I2,.cons r1 r2,q2⟩
def Te(t:TA):TE:=λσ H Q=>t σ H λxs H1=>xs.length<=sizeLine/\∀p,H1 p=none->Q (.ref p) (upd H1 p (.tup xs))
def Tf(t:TA):TE:=λσ H Q=>t σ H λxs H1=>xs.length<=sizeLine/\∀p,H1 p=none->Q (.ref p) (upd H1 p (.lst xs))
theorem Cj{x1}(h:PA X es t):PE X (.Tuple es x1 pos) (Te t):=by
 intro pins s σ H Q I hq;refine wpAny_Tuple_spliced (cy (h pos pins s σ H _ I hq) λus s1 ⟨xs,H1,I1,r,z,q⟩=>⟨by rw[<-r.length];exact z,?_⟩);have hf:H1 s1.heap.objs.size=none:=I1.hok.fresh (aag _);refine⟨.ref s1.heap.objs.size,upd H1 s1.heap.objs.size (.tup xs),I1.laid (t':=s1.toks) (λb u e=>Z4 _ e) (aag _) ?_,rfl,q _ hf⟩;exact⟨z,us,r,⟨_,aam _ rfl,rfl,_,rfl⟩⟩
theorem pC(h:PA X es t):PE X (.List es pos) (Tf t):=by
 intro pins s σ H Q I hq;refine wpAny_List_spliced (cy (h pos pins s σ H _ I hq) λus s1 ⟨xs,H1,I1,r,z,q⟩=>⟨by rw[<-r.length];exact z,?_⟩);have hf:H1 s1.heap.objs.size=none:=I1.hok.fresh (aag _);refine⟨.ref s1.heap.objs.size,upd H1 s1.heap.objs.size (.lst xs),I1.laid (t':=s1.toks) (λb u e=>Z4 _ e) (aag _) ?_,rfl,q _ hf⟩;exact⟨z,us,0,r,aam _ rfl⟩
end
abbrev Sp:=List V->Hp->VK->XK->Prop
abbrev xW:=List Env->Hp->Shared->XK->Value->Shared->Prop
structure xX (P:Program) (w:World) (K:Frag) (mg:Str->Option Value) (base:Heap) (A:Around) (outer:List Env) (s:Shared) (H:Hp):Prop where
 frames:A.frames=some outer
 mod:Mod K mg base
 bs:∀b o,base.get? b=some o->s.heap.get? b=some o/\H b=none
 Ft:base.objs.size<=s.heap.objs.size
 mO:s.heap.FunFrames base outer
 Jc:∀b∈frs outer,H b=none
 hok:iL P w H s.heap
 bare:AllBare s.gens
def CE(outer:List Env)(P:Program)(w:World)(H:Hp)(s:Shared)(Q:VK)(u:Value)(s':Shared):Prop :=
 ∃v H',s'.os=s.os/\AllBare s'.gens/\Un (frs outer) [] H H' s.heap s'.heap/\iL P w H' s'.heap/\RelV v u/\Q v H'
def CR(CX:xW)(outer:List Env)(P:Program)(w:World)(H:Hp)(s:Shared)(Q:VK)(E:XK)(r:Result)(s':Shared):Prop :=
 match r with
 |.ok (.ret u)=>CE outer P w H s Q u s'
 |.ok _=>False
 |.error e=>CX outer H s E e s'
structure dH (P:Program) (w:World) (K:Frag) (mg:Str->Option Value) (base:Heap) (CX:xW) (k:Nat) (f:Addr) (fd:FuncData) (ps:List Str) (sp:Sp):Prop where
 len:∀vs H Q E,sp vs H Q E->vs.length=ps.length
 run:∀(A:Around) (outer:List Env) (s:Shared) (H:Hp) (args:Args) (us:List Value) (vs:List V) (Q:VK) (E:XK),dj k A->xX P w K mg base A outer s H->BindsTo s fd args (ps.zip us)->Vals vs us->sp vs H Q E ->
  codeAny (model P w) A (.call (.ref f) args) (CR CX outer P w H s Q E) s
theorem dH.mono{P:Program}{w:World}{K:Frag}{mg:Str->Option Value}{base:Heap}{CX:xW}{j k:Nat}{f:Addr}{fd:FuncData}{ps:List Str}{sp:Sp}(F:dH P w K mg base CX j f fd ps sp)(h:j<=k) :
  dH P w K mg base CX k f fd ps sp:=⟨F.len,λA outer s H args us vs Q E hr=>F.run A outer s H args us vs Q E (hr.mono h)⟩
theorem dH.imp{P:Program}{w:World}{K:Frag}{mg:Str->Option Value}{base:Heap}{CX:xW}{k:Nat}{f:Addr}{fd:FuncData}{ps:List Str}{sp VG:Sp}(F:dH P w K mg base CX k f fd ps sp)
  (h:∀vs H Q E,VG vs H Q E->sp vs H Q E):dH P w K mg base CX k f fd ps VG :=
 ⟨λvs H Q E q=>F.len vs H Q E (h _ _ _ _ q),λA outer s H args us vs Q E hr he hb hv hs=>F.run A outer s H args us vs Q E hr he hb hv (h _ _ _ _ hs)⟩
theorem xX.make{P:Program}{w:World}{K:Frag}{mg:Str->Option Value}{base:Heap}{A:Around}{outer:List Env}{s:Shared}{H:Hp}(e:xX P w K mg base A outer s H)(C:Addr)(us:List Value)(kw:List (Str×Value)) :
  xX P w K mg base (A.under (.builtin "type.__call__" ⟨.ref C::us,kw⟩)) outer s H:=⟨by first|exact e.frames|(simpa [Around.under,Code.envs,Code.isFrame,pushEnvs] using e.frames),e.mod,e.bs,e.Ft,e.mO,e.Jc,e.hok,e.bare⟩
section
variable {X:Cx} {pins:List (Addr×Obj)} {σ:St} {H:Hp} {s s':Shared}
theorem Inv.xY(I:Inv X pins σ H s):xX X.prog X.w X.K X.mg X.base X.A X.stack s H :=
 ⟨I.ok.frames,I.ok.mod,I.bs,aaG I.ok.Ft I.sz,I.stack,I.kW,I.hok,I.bare⟩
theorem Inv.after(I:Inv X pins σ H s)(h:CE X.stack X.prog X.w H s Q u s'):EP X pins σ Q u s':=by
 obtain⟨v,H',os,bare,un,hok,r,q⟩:=h;obtain⟨hh,g,d,t,os'⟩:=s';obtain rfl:os'=s.os:=os;exact⟨v,H',I.call (h':=hh) (g':=g) (d':=d) (t':=t) (ch:=[]) un hok bare (λb z=>absurd z (by simp)),r,q⟩
end
def Ji(sp:Sp)(Fg:List V)(E:XK)(t:TA):TE:=λσ H Q=>t σ H λvs H1=>sp (vs++Fg) H1 Q E
def Binds(K:Frag)(fd:FuncData)(ps:List Str)(ds:List Value):Prop :=
 ∀(s:Shared) (us:List Value),K.In s.heap->(us++ds).length=ps.length->BindsTo s fd ⟨us,[]⟩ (ps.zip (us++ds))
theorem Binds.all{K:Frag}{fd:FuncData}{ps:List Str}(h:∀us:List Value,us.length=ps.length->bindArgs fd ⟨us,[]⟩=pure (ps.zip us)):Binds K fd ps []:=λs us _ hl=>by
 rw[aaJ]at hl |-;exact .of_eq (h us hl)
def Passes(CX:xW)(X:Cx)(E:XK):Prop:=∀(pins:List (Addr×Obj)) (σ:St) (H:Hp) (s:Shared) (e:Value) (s':Shared),Inv X pins σ H s->CX X.stack H s E e s'->X.xe e s'
section
variable {X:Cx} {CX:xW} {k:Nat} {f C:Addr} {fd:FuncData} {ps:List Str} {sp:Sp} {Fg:List V} {ds:List Value} {E:XK} {x m:Str} {p pos apos:Pos} {e o:Expr} {es:List Expr} {ta:TE} {t:TA}
theorem Ck(F:dH X.prog X.w X.K X.mg X.base CX k f fd ps sp)(hr:dj k X.A)(hb:Binds X.K fd ps ds)(hd:Vals Fg ds)(hx:Passes CX X E)
  (I:Inv X pins σ H s) (r:Vals vs us) (h:sp (vs++Fg) H Q E):wpAny (model X.prog X.w) X.A (call (.ref f) us) (EP X pins σ Q) X.xe s:=by
 have r2:Vals (vs++Fg) (us++ds):=r.append hd;have hl:(us++ds).length=ps.length:=by rw[<-r2.length];exact F.len _ _ _ _ h
 refine ab4 (abq (F.run X.A X.stack s H ⟨us,[]⟩ (us++ds) (vs++Fg) Q E hr I.xY (hb s us I.iM hl) r2 h) λr s' hq=>?_);cases r with
 |error e=>exact hx pins σ H s e s' I hq
 |ok fl=>
  cases fl with
  |ret u=>exact I.after hq
  |next=>exact False.elim hq
  |brk=>exact False.elim hq
  |cont=>exact False.elim hq
theorem t9(F:dH X.prog X.w X.K X.mg X.base CX k f fd ps sp)(hr:dj k X.A)(hg:Gl X x)(hm:X.mg x=some (.ref f))(hk:keepIn X.K (.ref f)=true)(hb:Binds X.K fd ps ds)(hd:Vals Fg ds)(hx:Passes CX X E)
  (ha:PA X (e::es) t) (hdb:(x==("__debug__":Str))=false) (he:starEach (e::es) X.env=(false,eval e X.env)::starEach es X.env) (hpl:(backTo pos (starEach es X.env)).any (·.1)=false) :
  PE X (.Call (.Name x p) (e::es) [] pos) (Ji sp Fg E t):=by
 intro pins s σ H Q I h;refine aaI (eX I hg hm ?_ hdb);refine abS (h₀:=X.base) I.ok.mod.NQ hk (cy (ha pos pins s σ H _ I h) λus s1 ⟨vs,H1,I1,r,q⟩=>⟨I1.iM,?_⟩) he hpl;exact Ck F hr hb hd hx I1 r q
theorem Cm(F:dH X.prog X.w X.K X.mg X.base CX k f fd ps sp)(hr:dj k X.A)(hg:Gl X x)(hm:X.mg x=some (.ref f))(hk:keepIn X.K (.ref f)=true)(hb:Binds X.K fd ps ds)(hd:Vals Fg ds)(hx:Passes CX X E)
  (hdb:(x==("__debug__":Str))=false):PE X (.Call (.Name x p) [] [] pos) (Ji sp Fg E Ku):=by
 intro pins s σ H Q I h;refine aaI (eX I hg hm ?_ hdb);exact acg I.iM hk (Ck (us:=[]) F hr hb hd hx I .nil h)
structure Mk (K:Frag) (C f:Addr):Prop where
 makes:PySem.W.makesIn K C=true
 init:findIn K (.ref C) "__init__" = some (some (.ref f))
 fn:isFn K (.ref f)=true
 kp:keepIn K (.ref C)=true
end
structure kZ (N P:List Str) (sc:Scope):Prop where
 kind:sc.kind=.function
 co:sc.isCoroutine=false
 gen:sc.isGenerator=false
 nd:N.Nodup
 pre:N.take P.length=P
 par:∀x∈P,sc.names.lookup x=some .local\/sc.names.lookup x=some .cell
 Kv:∀y∈sc.names,y.2≠.free
theorem rO{kindOf:Str->Option NameKind}{x:Str}:∀{binds:List (Str×Value)} {m:Str->Option Value},(∀v,(x,v)∉binds)->bindL kindOf binds m x=m x
 |[],_,_=>rfl
 | (n,v)::r,m,h=>by
  unfold bindL;rw[rO λw hw=>h w (Z6 _ hw)]
  split
  ·have:x≠n:=by rintro rfl;exact h v aad
   simp[this]
  ·rfl
theorem rP{kindOf:Str->Option NameKind}{x:Str}:∀{binds:List (Str×Value)} {m:Str->Option Value},(∀v,(x,v)∉binds)->bindC kindOf binds m x=m x
 |[],_,_=>rfl
 | (n,v)::r,m,h=>by
  unfold bindC;rw[rP λw hw=>h w (Z6 _ hw)]
  split
  ·rfl
  ·have:x≠n:=by rintro rfl;exact h v aad
   simp[this]
theorem rQ{kindOf:Str->Option NameKind}{x:Str}{v:Value}:∀{P:List Str} {vs:List Value} {i:Nat} {m:Str->Option Value},P.Nodup->P[i]?=some x->vs[i]?=some v->kindOf x=some .local ->
  bindL kindOf (P.zip vs) m x=some v
 |[],_,_,_,_,h,_,_=>by simp at h
 |_::_,[],_,_,_,_,h,_=>by simp at h
 | p::P,w::vs,0,m,nd,h1,h2,hk=>by
  simp at h1 h2;subst h1;subst h2;show bindL kindOf ((p,w)::P.zip vs) m p=_;unfold bindL;rw[rO λv hv=>(aa0.mp nd).1 (of_mem_zip hv).1,aae hk];simp
 | p::P,w::vs,i+1,m,nd,h1,h2,hk=>by
  show bindL kindOf ((p,w)::P.zip vs) m x=_;unfold bindL;exact rQ (i:=i) (aa0.mp nd).2 (by simpa using h1) (by simpa using h2) hk
theorem rR{kindOf:Str->Option NameKind}{x:Str}{v:Value}:∀{P:List Str} {vs:List Value} {i:Nat} {m:Str->Option Value},P.Nodup->P[i]?=some x->vs[i]?=some v->kindOf x≠some .local ->
  bindC kindOf (P.zip vs) m x=some v
 |[],_,_,_,_,h,_,_=>by simp at h
 |_::_,[],_,_,_,_,h,_=>by simp at h
 | p::P,w::vs,0,m,nd,h1,h2,hk=>by
  simp at h1 h2;subst h1;subst h2;show bindC kindOf ((p,w)::P.zip vs) m p=_;unfold bindC;rw[rP λv hv=>(aa0.mp nd).1 (of_mem_zip hv).1,aac hk];simp
 | p::P,w::vs,i+1,m,nd,h1,h2,hk=>by
  show bindC kindOf ((p,w)::P.zip vs) m x=_;unfold bindC;exact rR (i:=i) (aa0.mp nd).2 (by simpa using h1) (by simpa using h2) hk
def start(N:List Str)(vs:List V):St:=vs.map some++replicate (N.length-vs.length) none
def fS(CX:xW)(P:Program)(w:World)(K:Frag)(mg:Str->Option Value)(base:Heap)(N:List Str)(qual:Str)(scope:Scope)(f:Addr)(cd:Value)(A:Around)(outer:List Env)(s:Shared)(H:Hp)(E:XK):Cx where
 prog:=P
 w:=w
 K:=K
 mg:=mg
 base:=base
 A:=A.deeper (envOfC qual scope s.heap.objs.size f cd)
 N:=N
 s₀:=s
 H₀:=H
 env:=envOfC qual scope s.heap.objs.size f cd
 outer:=outer
 stack:=envOfC qual scope s.heap.objs.size f cd::outer
 ex:=[]
 calm:=true
 fn:=λ_=>true
 pn:=[]
 xe:=λe s'=>wpAny (model P w) (A.deeper (envOfC qual scope s.heap.objs.size f cd)) (leaving (envOfC qual scope s.heap.objs.size f cd) e) (λ_ s''=>CX outer H s E e s'') (λe' s''=>CX outer H s E e' s'') s'
theorem vp{sc:Scope}{n:Nat}{x:Str}(h:sc.names.lookup x=some .cell):∃c,(cellsFrom n sc.names []).lookup x=some c:=by
 have q:=abr sc.names n [] (.inl h);exact Option.isSome_iff_exists.mp q
theorem AK{CX:xW}{P:Program}{w:World}{K:Frag}{mg:Str->Option Value}{base:Heap}{N ps:List Str}{qual:Str}{scope:Scope}{f:Addr}{cd:Value}{A:Around}{outer:List Env}{s s1:Shared}{H:Hp}{E:XK}{us:List Value}{vs:List V}
  (S:kZ N ps scope) (hd:A.handled=none) (e0:xX P w K mg base A outer s H) (hl:vs.length=ps.length) (r:Vals vs us)
  (x:InCallC s s.heap.objs.size (bindL (envOfC qual scope s.heap.objs.size f cd).kindOf (ps.zip us) λ_=>none) (cellsFrom (s.heap.objs.size+1) scope.names []) (bindC (envOfC qual scope s.heap.objs.size f cd).kindOf (ps.zip us) λ_=>none) s1) :
  Inv (fS CX P w K mg base N qual scope f cd A outer s H E) [] (start N vs) H s1:=by
 have hpl:ps.length<=N.length:=by have:=aa3 length S.pre;rw[abl]at this;omega
 obtain⟨h1,tk,rfl,hk⟩:=x.done;have noA:∀b:Addr,b∉(fS CX P w K mg base N qual scope f cd A outer s H E).ex:=λb z=>absurd (show b∈([]:List Addr) from z) (by simp);refine⟨⟨e0.mod,S.kind,rfl,rfl,aag _,λy z c h1 h2=>?_,λy hy=>?_,λy c _ h=>?_,λ_=>hd,Around.frames_deeper e0.frames,.inr ⟨rfl,rfl⟩,λb z=>absurd z (noA b),e0.bs,e0.Ft,λb _ _=>noA b,λb z=>absurd z (noA b),e0.mO,e0.Jc⟩,
  rfl,e0.bare,Un.kept hk,⟨_,x.toInCall.ns,λi y v h1 h2 h3=>?_⟩,λy c h=>⟨_,x.cell y c h⟩,e0.hok.fresh (aag _),λy c h=>?_,λp hp=>absurd (show p∈([]:List (Addr×Obj)) from hp) (by simp),e0.hok.kept hk,?_⟩
 ·exact name_of_addr x.apart (aaO h1) (aaO h2)
 ·have hy:scope.names.lookup y=some .cell\/scope.names.lookup y=some .free:=hy
  rcases hy with hy|hy
  ·exact vp hy
  ·exact absurd rfl (S.Kv _ (aaO hy))
 ·exact abb (x.above y c (aaO h))
 ·have hi:i<vs.length:=by
   unfold start at h2
   by_cases hi:i<vs.length
   ·exact hi
   ·rw[aax (by simpa using hi)]at h2;rw[List.getElem?_replicate]at h2;split at h2<;>cases h2
  have ha:vs[i]?=some v:=by
   unfold start at h2;rw[aan (by simpa using hi),aay]at h2;cases e:vs[i]? with
   |none=>rw[e]at h2;cases h2
   |some a=>rw[e]at h2;cases h2;rfl
  obtain⟨u,hu,rv⟩:=r.get ha;have hp:ps[i]?=some y:=by rw[<-S.pre,List.getElem?_take_of_lt (by omega)];exact h1
  have VH:ps.Nodup:=by rw[<-S.pre];exact S.nd.sublist (List.take_sublist _ _)
  refine⟨u,rv,?_⟩
  rcases S.par y (aat hp) with k|k
  ·exact .inl ⟨k,rQ VH hp hu k⟩
  ·obtain⟨c,e⟩:=vp (n:=s.heap.objs.size+1) k;refine .inr ⟨.inl k,c,e,?_⟩;have q:=x.cell y c e;rw[rR VH hp hu (by show scope.names.lookup y≠_;rw[k];decide)]at q;exact q
 ·exact e0.hok.fresh (abb (x.above y c (aaO h)))
 ·unfold start;show _=N.length;rw[aao,Z8,List.length_replicate];omega
theorem Cn{CX:xW}{P:Program}{w:World}{K:Frag}{mg:Str->Option Value}{base:Heap}{k:Nat}{f:Addr}{name qual:Str}{params:Arguments}{body:List Stmt}{scope:Scope}{dV kV doc pm cdv ct oc:Value}{an od:Option Addr}
  {osl:Array (Option Value)} {N ps:List Str} {sp:Sp} (lk:K.lookup f=some ⟨oc,od,.func (fnOf name qual params body scope dV kV doc pm an cdv ct),osl⟩) (hcd:codeIn K cdv qual=true) (S:kZ N ps scope)
  (len:∀vs H Q E,sp vs H Q E->vs.length=ps.length)
  (hbody:∀(A:Around) (outer:List Env) (s:Shared) (H:Hp) (vs:List V) (Q:VK) (E:XK),dj k (A.deeper (envOfC qual scope s.heap.objs.size f cdv))->sp vs H Q E ->
   ∃t,nM (fS CX P w K mg base N qual scope f cdv A outer s H E) body t/\t { nx:=λ_ H'=>Q .non H',rt:=Q } (start N vs) H) :
  dH P w K mg base CX (k+1) f (fnOf name qual params body scope dV kV doc pm an cdv ct) ps sp:=by
 refine⟨len,λA outer s H args us vs Q E hr e0 hb r hsp=>?_⟩;have hl:=len _ _ _ _ hsp;have KX:K.In s.heap:=e0.mod.NQ.keeps λb o e=>(e0.bs b o e).1;have lim:s.heap.NoLimit:=e0.mod.nolimit.keeps λb o e=>(e0.bs b o e).1;have hkind:∀y∈ps.zip us,scope.names.lookup y.1=some .local\/(scope.names.lookup y.1=some .cell/\((cellsFrom (s.heap.objs.size+1) scope.names []).lookup y.1).isSome=true):=λ⟨n,v⟩ hy=>by
  rcases S.par n (of_mem_zip hy).1 with q|q
  ·exact .inl q
  ·exact .inr ⟨q,abr _ _ _ (.inl q)⟩
 refine codeAny_call_function hr.depth (KX _ _ lk) rfl S.co S.gen rfl (PySem.W.codeRec_of KX hcd) (hb _ _ _ _ ?_);refine wpAny_newFunctionEnv_cells S.kind hkind λenv he s1 x=>?_;subst he;refine⟨lim.keeps x.toInCall.keep,codeAny_func ?_⟩;obtain⟨t,ht,hq⟩:=hbody A outer s H vs Q E (hr.deeper _) hsp;have I:Inv (fS CX P w K mg base N qual scope f cdv A outer s H E) [] (start N vs) H s1:=AK S hr.hd e0 hl r x;refine aaB (ht [] s1 (start N vs) H _ I hq) (λfl s' hs=>?_) λe s' hs=>hs;have fin:∀{σ':St} {H':Hp} {v:V} {u:Value},Inv (fS CX P w K mg base N qual scope f cdv A outer s H E) [] σ' H' s'->RelV v u->Q v H'->CE outer P w H s Q u s' :=
  λ{σ' H' v u} J rv q=>⟨v,H',J.os,J.bare,J.base,J.hok,rv,q⟩
 cases fl with
 |ret u=>obtain⟨v,σ',H',J,rv,q⟩:=hs;exact fin J rv q
 |next=>obtain⟨σ',H',J,q⟩:=hs;exact fin (v:=V.non) (u:=Value.none) J rfl q
 |brk=>obtain⟨_,_,_,q⟩:=hs;exact False.elim q
 |cont=>obtain⟨_,_,_,q⟩:=hs;exact False.elim q
section
variable {X:Cx} {x:Str} {p pos:Pos} {e:Expr} {es:List Expr} {t:TA} {id T:String} {r:List V->Hp->VK->Prop}
def VI(r:List V->Hp->VK->Prop)(t:TA):TE:=λσ H Q=>t σ H λvs H1=>r vs H1 Q
theorem cA(hc:bR X (.builtin id) r)(hg:Gl X x)(hm:X.mg x=none)(hv:bootBuiltins x=some (.builtin id))(ha:PA X (e::es) t)(hn:x ≠ "__name__":=by decide)(hdb:(x==("__debug__":Str))=false:=by decide)
  (he:starEach (e::es) X.env=(false,eval e X.env)::starEach es X.env:=by rfl) (hpl:(backTo pos (starEach es X.env)).any (·.1)=false:=by rfl):PE X (.Call (.Name x p) (e::es) [] pos) (VI r t):=by
 intro pins s σ H Q I h;refine aaI (iR I hg hm hv ?_ hn hdb);exact PyProof.Rows.callWith_builtin1 (cy (ha pos pins s σ H _ I h) λus s1 ⟨vs,H1,I1,r1,q1⟩=>hc pins s1 σ H1 vs us Q I1 r1 q1) he hpl
theorem jA(hc:bR X (.type T) r)(hg:Gl X x)(hm:X.mg x=none)(hv:bootBuiltins x=some (.type T))(ha:PA X (e::es) t)(hn:x ≠ "__name__")(hdb:(x==("__debug__":Str))=false)
  (he:starEach (e::es) X.env=(false,eval e X.env)::starEach es X.env) (hpl:(backTo pos (starEach es X.env)).any (·.1)=false):PE X (.Call (.Name x p) (e::es) [] pos) (VI r t):=by
 intro pins s σ H Q I h;refine aaI (iR I hg hm hv ?_ hn hdb);exact aaU (cy (ha pos pins s σ H _ I h) λus s1 ⟨vs,H1,I1,r1,q1⟩=>hc pins s1 σ H1 vs us Q I1 r1 q1) he hpl
end
end L2
namespace HT
open PySem PyProof.Rows
def lexLt:List Int->List Int->Bool
 |[],[]=>false
 |[],_::_=>true
 |_::_,[]=>false
 |x::xs,y::ys=>if x=y then lexLt xs ys else decide (x<y)
theorem iA(x y:Int)(xs ys:List Int):lexLt (x::xs) (y::ys)=if x=y then lexLt xs ys else decide (x<y):=rfl
theorem qU:lexLt [] []=false:=rfl
theorem fU(y:Int)(ys:List Int):lexLt [] (y::ys)=true:=rfl
theorem dP(x:Int)(xs:List Int):lexLt (x::xs) []=false:=rfl
section
variable {prog:Program} {w:World} {A:Around} {E:Value->Shared->Prop} {s:Shared}
theorem FL(ht:IsTup s.heap t vs.toArray)(hb:IsTup s.heap b ws.toArray)(hv:vs≠[])
  (h1:ws=[]->Q (.ref t) s) (h2:ws≠[]->Q (.ref s.heap.objs.size) { s with heap:=s.heap.push { cls:=.type "tuple",data:=.seq (vs++ws).toArray } })
  (hsz:vs.length+ws.length<=sizeLine):wpAny (model prog w) A (binaryOp .Add (.ref t) (.ref b)) Q E s:=by
 obtain⟨⟨cls,dd,data,sl⟩,ho,hc,n,hd⟩:=id ht;obtain⟨⟨W9,dd2,data2,sl2⟩,ho2,hc2,n2,hd2⟩:=id hb;simp only at hc hd hc2 hd2;subst hc hd hc2 hd2;have e:vs.toArray++ws.toArray=(vs++ws).toArray:=by simp
 by_cases hw:ws=[]
 ·exact concat_meets ⟨_,ho,rfl⟩ ⟨_,ho2,rfl⟩ noFill_tuple_add seq_tuple_add PySem.F.slot_tuple_add PySem.F.entry_tuple_add (PySem.F.args_tuple_add_2 _ _)
   (tuple_addW1 t b vs.toArray ws.toArray n n2 dd dd2 sl sl2 (by simpa using hv) (by simp[hw])) ⟨ho,ho2,h1 hw⟩
 ·refine concat_meets ⟨_,ho,rfl⟩ ⟨_,ho2,rfl⟩ noFill_tuple_add seq_tuple_add PySem.F.slot_tuple_add PySem.F.entry_tuple_add (PySem.F.args_tuple_add_2 _ _)
   (tuple_addW2 t b vs.toArray ws.toArray n n2 dd dd2 sl sl2 (by simpa using hv) (by simpa using hw) (by rw[aah,aah];exact hsz)) ⟨ho,ho2,?_⟩
  rw[e];exact h2 hw
def dI(n d:Nat):Option Int->Nat
 |none=>d
 |some v=>if v<0 then (v+(n:Int)).toNat else min v.toNat n
theorem pD(n d:Nat):dI n d none=d:=rfl
theorem ua(n d k:Nat):dI n d (some (k:Int))=min k n:=by
 show (if (k:Int)<0 then ((k:Int)+(n:Int)).toNat else min (k:Int).toNat n)=min k n;rw[aac (by omega),Int.toNat_natCast]
theorem Kw(n d:Nat)(hd:d<=n)(o:Option Int):dI n d o<=n:=by
 cases o with
 |none=>exact hd
 |some v=>
  show (if v<0 then (v+(n:Int)).toNat else min v.toNat n)<=n
  by_cases hv:v<0
  ·rw[aae hv];omega
  ·rw[aac hv];exact Nat.min_le_right _ _
theorem za(v:Int)(n d:Nat):(if v<0 then max (v+(n:Int)) 0 else min v (n:Int))=((dI n d (some v):Nat):Int):=by
 show (if v<0 then max (v+(n:Int)) 0 else min v (n:Int))=(((if v<0 then (v+(n:Int)).toNat else min v.toNat n):Nat):Int)
 by_cases hv:v<0
 ·simp only[if_pos hv];omega
 ·simp only[if_neg hv];omega
theorem xZ(lo hi:Option Int)(n:Nat):Builtin.Slice.sliceAdjust lo hi 1 (n:Int)=(((dI n 0 lo:Nat):Int),((dI n n hi:Nat):Int)):=by
 have h1:¬ ((1:Int)<0):=by omega
 unfold Builtin.Slice.sliceAdjust;simp only[h1,if_false];refine Prod.ext ?_ ?_
 ·cases lo with
  |none=>rfl
  |some v=>exact za v n 0
 ·cases hi with
  |none=>rfl
  |some v=>exact za v n n
theorem x6(i j:Nat):Builtin.Slice.slicePlaces (i:Int) (j:Int) 1=j-i:=by
 unfold Builtin.Slice.slicePlaces;have h1:(1:Int)>0:=by omega
 simp only[h1,if_true,Int.ediv_one]
 split<;>omega
theorem pF{o:Option Int}(p:IsPart v o)(h:Q o s):wpAny (model prog w) A (Builtin.Slice.slicePartIndex v) Q E s:=by
 cases p with
 |none=>exact slicePart_none h
 |int i t=>exact slicePart_int h
theorem mR{lo hi:Option Int}{n:Nat}(hs:s.heap.IsSliceOf sl vl vu .none)(pl:IsPart vl lo)(pu:IsPart vu hi)
  (h:Q (((dI n 0 lo:Nat):Int),1,dI n n hi-dI n 0 lo) s):wpAny (model prog w) A (Builtin.Slice.sliceApplied (.ref sl) (pure (n:Int))) Q E s:=by
 obtain⟨os,hos,hcs,hds⟩:=id hs;unfold Builtin.Slice.sliceApplied Builtin.Slice.sliceFields;refine Z2 (Z2 (wpAny_field hos hds (x:=vl) rfl (Z2 (wpAny_field hos hds (x:=vu) rfl (Z2 (wpAny_field hos hds (x:=.none) rfl (Z7 ?_)))))));refine Z2 (slicePart_none ?_);show wpAny _ _ (if ((1:Int)==0)=true then _ else _) _ _ s;rw[aac (by decide)];refine Z2 (pF pl (Z2 (pF pu (Z2 (Z7 ?_)))));show wpAny _ _ (match Builtin.Slice.sliceAdjust lo hi 1 (n:Int) with|(lo,hi)=>pure (lo,(1:Int),Builtin.Slice.slicePlaces lo hi 1)) _ _ s;rw[xZ lo hi n];show wpAny _ _ (pure (((dI n 0 lo:Nat):Int),(1:Int),Builtin.Slice.slicePlaces ((dI n 0 lo:Nat):Int) ((dI n n hi:Nat):Int) 1)) _ _ s;rw[x6];exact Z7 h
theorem Co(xs:Array Value)(i k:Nat):((List.range k).filterMap λ(m:Nat)=>xs[((i:Int)+(m:Int)*1).toNat]?).toArray=((xs.toList.drop i).take k).toArray:=by
 have e:(λ(m:Nat)=>xs[((i:Int)+(m:Int)*1).toNat]?)=λm=>xs[i+m]?:=by
  funext m;have:((i:Int)+(m:Int)*1).toNat=i+m:=by omega
  rw[this]
 rw[e];have:=pick_run xs i k;rw[List.filterMap_map]at this;have e2:((λx=>xs[x]?)∘λx=>i+x)=λm=>xs[i+m]?:=rfl;rw[e2]at this;rw[this]
theorem lg{lo hi:Option Int}(ht:IsTup s.heap t items)(hs:s.heap.IsSliceOf sl vl vu .none)(pl:IsPart vl lo)(pu:IsPart vu hi)
  (hw:¬ (dI items.size 0 lo=0/\dI items.size items.size hi=items.size))
  (h:Q (.ref s.heap.objs.size) { s with heap:=s.heap.push { cls:=.type "tuple",data:=.seq ((items.toList.drop (dI items.size 0 lo)).take (dI items.size items.size hi-dI items.size 0 lo)).toArray } })
  (hsz:items.size<=sizeLine):wpAny (model prog w) A (getItem (.ref t) (.ref sl)) Q E s:=by
 have zb:sizeOk (.seq ((items.toList.drop (dI items.size 0 lo)).take (dI items.size items.size hi-dI items.size 0 lo)).toArray):=by show ((items.toList.drop (dI items.size 0 lo)).take (dI items.size items.size hi-dI items.size 0 lo)).toArray.size<=sizeLine;rw[aah,abl,ab5,aaE];omega
 have hj:dI items.size items.size hi<=items.size:=Kw _ _ (aag _) hi;obtain⟨os,hos,hcs,hds⟩:=id hs;have Tg:s.TypeIs (.ref sl) "slice":=⟨os,hos,hcs⟩;unfold getItem
 try with_reducible refine aaM ?_
 first|refine Z2 (Z7 ?_)|skip
 refine Z2 (wpAny_sequenceKey ht.typeIs (by decide) ?_);refine Z2 (abV (name:=Str.ofString "__getitem__") ht.typeIs PyProof.Rows.slot_tuple_getitem
  (abm PyProof.Rows.slot_tuple_getitem ht.typeIs entry_tuple_getitem ?_ (args_tuple_getitem _ _)))
 show wpAny _ _ (Builtin.Tuple.tupleItemsOf (.ref t) >>= _) _ _ s;refine Z2 (tupleItemsOf_ ht ?_);refine Z2 (wpAny_typeOf Tg ?_);rw[aae (by decide)];refine Z2 (mR hs pl pu ?_);have hno:¬ ((((dI items.size 0 lo:Nat):Int)==0&&(1:Int)==1&&(dI items.size items.size hi-dI items.size 0 lo)==items.size)=true):=by intro q;rw[abe,abe]at q;have q1:((dI items.size 0 lo:Nat):Int)=0:=eq_of_beq q.1.1;have q2:dI items.size items.size hi-dI items.size 0 lo=items.size:=eq_of_beq q.2;exact hw ⟨by omega,by omega⟩
 show wpAny _ _ (if (((dI items.size 0 lo:Nat):Int)==0&&(1:Int)==1&&(dI items.size items.size hi-dI items.size 0 lo)==items.size)=true then _ else _) _ _ s;rw[aac hno,Co]
 first
  |exact Z2 (m:=Builtin.Tuple.tupleExact _) (aaF (Z7 ⟨_,rfl,Z7 h⟩) zb)
  |exact Z2 (m:=Builtin.Tuple.tupleExact _) (aaF (Z2 (Z7 (Z7 ⟨_,rfl,Z7 h⟩))) zb)
  |exact Z2 (Z2 (m:=Builtin.Tuple.tupleExact _) (aaF (Z7 (Z7 ⟨_,rfl,Z7 h⟩)) zb))
  |exact Z2 (Z2 (m:=Builtin.Tuple.tupleExact _) (aaF (Z7 ⟨_,rfl,Z7 h⟩) zb))
end
end HT
namespace L2
open PySem PySem.Spec PyProof.Rows
abbrev TO:=St->Hp->(Option Int->Hp->Prop)->Prop
def PO(X:Cx)(e:Option Expr)(t:TO):Prop :=
 ∀(pins:List (Addr×Obj)) (s:Shared) (σ:St) (H:Hp) (Q:Option Int->Hp->Prop),Inv X pins σ H s->t σ H Q ->
  wpAny (model X.prog X.w) X.A (evalPart e X.env) (λu s'=>∃o H',Inv X pins σ H' s'/\IsPart u o/\Q o H') X.xe s
def FN:TO:=λ_ H Q=>Q none H
def OI(t:TE):TO:=λσ H Q=>t σ H λx H1=>∃i,x=.int i/\Q (some i) H1
theorem intsAre_of{ns:List Int}:∀{us:List Value},Vals (ns.map V.int) us->IntsAre us ns:=by
 induction ns with
 |nil=>intro us r;rw[abt]at r;cases r;exact .nil
 |cons n ns ih=>
  intro us r;rw[aap]at r;cases r with
  |cons r1 r2=>obtain⟨t,e⟩:=r1;subst e;exact .cons n t (ih r2)
section
variable {X:Cx} {e:Expr} {te:TE} {lo hi:Option Expr} {tl th:TO} {pos p2:Pos}
theorem FO:PO X none FN:=by
 intro pins s σ H Q I h;rw[evalPart_none];exact Z7 ⟨none,H,I,.none,h⟩
theorem FP(h:PE X e te):PO X (some e) (OI te):=by
 intro pins s σ H Q I hw;rw[evalPart_some];refine cy (h pins s σ H _ I hw) λu s1 aN=>?_;obtain⟨x,H1,I1,r1,q1⟩:=aN;obtain⟨i,rfl,q⟩:=q1;obtain⟨t,rfl⟩:=r1;exact⟨some i,H1,I1,.int i t,q⟩
def Se(X:Cx)(r:V->Option Int->Option Int->Hp->VK->Prop):Prop :=
 ∀(pins:List (Addr×Obj)) (s:Shared) (σ:St) (H:Hp) (x:V) (v vl vu:Value) (lo hi:Option Int) (sl:Addr) (Q:VK),Inv X pins σ H s->RelV x v->s.heap.IsSliceOf sl vl vu .none->IsPart vl lo->IsPart vu hi->r x lo hi H Q ->
  ∃T id,typeLookup (.type T) "__getitem__" = pure (some (.builtin id))/\s.TypeIs v T/\wpAny (model X.prog X.w) X.A (getItem v (.ref sl)) (EP X pins σ Q) X.xe s
def Xa(r:V->Option Int->Option Int->Hp->VK->Prop)(te:TE)(tl th:TO):TE:=λσ H Q=>te σ H λx H1=>tl σ H1 λl H2=>th σ H2 λu H3=>r x l u H3 Q
theorem Cp(hr:Se X r)(he:PE X e te)(hl:PO X lo tl)(hu:PO X hi th):PE X (.Subscript e (.Slice lo hi none p2) pos) (Xa r te tl th):=by
 intro pins s σ H Q I h;refine Subscript_ (cy (he pins s σ H _ I h) λv s1 aN=>?_);obtain⟨x,H1,I1,r1,q1⟩:=aN;refine wpAny_Slice (cy (hl pins s1 σ H1 _ I1 q1) λvl s2 ⟨l,H2,I2,pl,q2⟩=>cy (hu pins s2 σ H2 _ I2 q2) λvu s3 aN=>?_);obtain⟨u,H3,I3,pu,q3⟩:=aN;rw[evalPart_none];refine Z7 ?_;have I4:Inv X pins σ H3 { s3 with heap:=s3.heap.push { cls:=.type "slice",data:=.fields [vl,vu,.none].toArray } }:=I3.kept (t':=s3.toks) λb ob q=>Z4 _ q;obtain⟨T,id,hT,ht,hg⟩:=hr pins { s3 with heap:=s3.heap.push { cls:=.type "slice",data:=.fields [vl,vu,.none].toArray } } σ H3 x v vl vu l u s3.heap.objs.size Q I4 r1 (Heap.IsSliceOf.new ..) pl pu q3;show wpAny (model X.prog X.w) X.A (subscriptTail e (.Slice lo hi none p2) v (.ref s3.heap.objs.size)) (EP X pins σ Q) X.xe { s3 with heap:=s3.heap.push { cls:=.type "slice",data:=.fields [vl,vu,.none].toArray } };exact tail_any (ops:=[.ref s3.heap.objs.size,v]) ht hT hg (by with_unfolding_all rfl)
def vq(xs:List V)(lo hi:Option Int):List V:=(xs.drop (HT.dI xs.length 0 lo)).take (HT.dI xs.length xs.length hi-HT.dI xs.length 0 lo)
theorem nO(xs:List V)(lo hi:Option Int):(vq xs lo hi).length<=xs.length:=by
 unfold vq;rw[abl,ab5];omega
def Th(K:Frag):V->Option Int->Option Int->Hp->VK->Prop:=λx lo hi H Q=>∃a xs,x=.ref a/\iy K H a xs /\
 ¬ (HT.dI xs.length 0 lo=0/\HT.dI xs.length xs.length hi=xs.length)/\∀p,H p=none->Q (.ref p) (upd H p (.tup (vq xs lo hi)))
theorem Ky:Se X (Th X.K):=by
 intro pins s σ H x v vl vu lo hi sl Q I rx hs pl pu h;obtain⟨a,xs,rfl,hx,hw,q⟩:=h;cases rx;obtain⟨its,r,ht,hz⟩:=I.tuple hx;have hlen:its.toArray.size=xs.length:=by rw[aah];exact r.length.symm
 refine⟨"tuple",_,PyProof.Rows.slot_tuple_getitem.lookup,ht.typeIs,?_⟩;refine HT.lg ht hs pl pu (by rw[hlen];exact hw) ?_ (by rw[hlen];exact hz);rw[hlen];refine⟨.ref s.heap.objs.size,_,I.laid (t':=s.toks) (o:=.tup (vq xs lo hi)) (λb ob q=>Z4 _ q) (aag _) ?_,rfl,q _ (I.hok.fresh (aag _))⟩;exact⟨aaG (nO xs lo hi) hz,_,(r.drop (HT.dI xs.length 0 lo)).take (HT.dI xs.length xs.length hi-HT.dI xs.length 0 lo),IsTup.new _ _⟩
def OJ(K:Frag):R2:=λx y H Q=>∃a b xs ys,x=.ref a/\y=.ref b/\iy K H a xs/\iy K H b ys/\xs≠[]/\xs.length+ys.length<=sizeLine /\
 (ys=[]->Q (.ref a) H)/\(ys≠[]->∀p,H p=none->Q (.ref p) (upd H p (.tup (xs++ys))))
theorem Vals.uc(r:Vals xs us):us=[]↔xs=[]:=by
 cases r with
 |nil=>simp
 |cons _ _=>simp
theorem FQ:jz X (binaryOp .Add) (OJ X.K):=by
 intro pins s σ H x y v u Q I rx ry h;obtain⟨a,b,xs,ys,rfl,rfl,ha,hb,hx,hz,q1,q2⟩:=h;cases rx;cases ry;obtain⟨its,r1,p1,_⟩:=I.tuple ha;obtain⟨its2,r2,p2,_⟩:=I.tuple hb;refine HT.FL p1 p2 (λz=>hx (r1.uc.mp z)) (λz=>⟨.ref a,H,I,rfl,q1 (r2.uc.mp z)⟩) (λz=>?_) (by rw[<-r1.length,<-r2.length];exact hz);refine⟨.ref s.heap.objs.size,_,I.laid (t':=s.toks) (o:=.tup (xs++ys)) (λb ob q=>Z4 _ q) (aag _) ?_,rfl,q2 (λw=>z (r2.uc.mpr w)) _ (I.hok.fresh (aag _))⟩;exact⟨by rw[aao];exact hz,_,r1.append r2,IsTup.new _ _⟩
end
def xJ(n:Nat)(i:Int):Option Nat:=if 0<=i then (if i<n then some i.toNat else none) else if -(n:Int)<=i then some (i+n).toNat else none
def jU{α:Type}(xs:List α)(i:Int):Option α:=(xJ xs.length i).bind λj=>xs[j]?
theorem zc{n:Nat}{i:Int}{j:Nat}(h:xJ n i=some j):seqIndex? i n=some j/\j<n /\ -(n:Int)<=i/\i<n:=by
 unfold xJ at h
 by_cases h0:0<=i
 ·rw[aae h0]at h
  by_cases h1:i<n
  ·rw[aae h1]at h;have e:i.toNat=j:=aaq h;exact⟨by rw[seqIndex_of h0 h1,e],by omega,by omega,h1⟩
  ·rw[aac h1]at h;cases h
 ·rw[aac h0]at h
  by_cases h1:-(n:Int)<=i
  ·rw[aae h1]at h;have e:(i+n).toNat=j:=aaq h;exact⟨by rw[seqIndex_neg (by omega) h1,e],by omega,h1,by omega⟩
  ·rw[aac h1]at h;cases h
theorem ud{α:Type}{xs:List α}{i:Int}{v:α}(h:jU xs i=some v):∃j,seqIndex? i xs.length=some j/\xs[j]?=some v/\j<xs.length /\ -(xs.length:Int)<=i/\i<xs.length:=by
 unfold jU at h;cases e:xJ xs.length i with
 |none=>rw[e]at h;cases h
 |some j=>rw[e]at h;obtain⟨h1,h2,h3,h4⟩:=zc e;exact⟨j,h1,h,h2,h3,h4⟩
theorem jB{α:Type}{xs:List α}{j:Nat}{v:α}(h:xs[j]?=some v):jU xs (j:Int)=some v:=by
 have hj:j<xs.length:=(Z9.mp h).1;have e:xJ xs.length (j:Int)=some j:=by unfold xJ;rw[aae (by omega),aae (by omega)];simp
 unfold jU;rw[e];exact h
def zd(b:Expr):Prop:=∀o i,subscripted b false o i=operate [o,i] (getItem o i)
def NV(X:Cx)(r:R2):Prop :=
 ∀(value slice:Expr) (pins:List (Addr×Obj)) (s:Shared) (σ:St) (H:Hp) (x y:V) (v u:Value) (Q:VK),Inv X pins σ H s->RelV x v->RelV y u->r x y H Q ->
  subscripted slice false v u=operate [v,u] (getItem v u)->wpAny (model X.prog X.w) X.A (subscriptTail value slice v u) (EP X pins σ Q) X.xe s
def NW(X:Cx)(id:String)(r:V->List V->Hp->VK->Prop):Prop :=
 ∀(pins:List (Addr×Obj)) (s:Shared) (σ:St) (H:Hp) (x:V) (xs:List V) (v:Value) (us:List Value) (Q:VK),Inv X pins σ H s->RelV x v->Vals xs us->r x xs H Q ->
  wpAny (model X.prog X.w) X.A (call (.builtin id) (v::us)) (EP X pins σ Q) X.xe s
section
variable {X:Cx} {a b:Expr} {ta tb:TE} {pos:Pos}
theorem OL(hr:NV X r)(ha:PE X a ta)(hb:PE X b tb)(hs:zd b):PE X (.Subscript a b pos) (Sb r ta tb):=by
 intro pins s σ H Q I h;exact Subscript_ (Kg ha hb I h λv u s2 x y H2 I2 rx ry q=>hr a b pins s2 σ H2 x y v u Q I2 rx ry q (hs _ _))
def Ti(K:Frag):R2:=λx y H Q=>∃p xs i v,x=.ref p/\y=.int i/\fR K H p xs/\jU xs i=some v/\Q v H
def Tj(K:Frag):R2:=λx y H Q=>∃p xs i v,x=.ref p/\y=.int i/\iy K H p xs/\jU xs i=some v/\Q v H
def Tn:R2:=λx y H Q=>∃z i c,x=.str z/\y=.int i/\z.length<=sizeLine/\jU z.cps.toList i=some c/\Q (.str ⟨[c].toArray⟩) H
theorem ze:NV X (Ti X.K):=by
 intro value slice pins s σ H x y v u Q I rx ry h hs;obtain⟨p,xs,i,z,rfl,rfl,hq,he,q⟩:=h;cases rx;obtain⟨t,rfl⟩:=ry;obtain⟨its,r,pl,hz⟩:=I.list hq;obtain⟨j,h1,h2,h3,h4,h5⟩:=ud he;obtain⟨w,ew,rw'⟩:=r.get h2;have hl:=r.length;have hn:=mQ;have fin:EP X pins σ Q w s:=⟨z,H,I,rw',q⟩
 by_cases h0:0<=i
 ·have hj:i.toNat=j:=by
   rw[seqIndex_of h0 h5]at h1;exact aaq h1
  exact item_listR pl.isList h0 (by omega) (by rw[hj];simpa using ew) fin hs
 ·have hj:(i+(its.toArray.size:Int)).toNat=j:=by
   rw[seqIndex_neg (by omega) h4]at h1;rw[aah,<-hl];exact aaq h1
  exact subscriptTail_builtinR (x:=w) pl.isList.typeIs slot_list_getitem.lookup
   (wpAny_getItem_list_neg (Q:=λr s'=>r=w/\EP X pins σ Q r s') pl.isList (by omega) (by rw[aah]<;>omega) (by omega) (by rw[hj];simpa using ew) ⟨rfl,fin⟩) hs
theorem Kz:NV X (Tj X.K):=by
 intro value slice pins s σ H x y v u Q I rx ry h hs;obtain⟨p,xs,i,z,rfl,rfl,hq,he,q⟩:=h;cases rx;obtain⟨t,rfl⟩:=ry;obtain⟨its,r,pl,hz⟩:=I.tuple hq;obtain⟨j,h1,h2,h3,h4,h5⟩:=ud he;obtain⟨w,ew,rw'⟩:=r.get h2;have hl:=r.length;have hn:=mQ;have fin:EP X pins σ Q w s:=⟨z,H,I,rw',q⟩;exact subscriptTail_builtinR (x:=w) pl.typeIs slot_tuple_getitem.lookup
  (getItem_tuple (j:=j) (Q:=λr s'=>r=w/\EP X pins σ Q r s') pl (by omega) (by omega) (by rw[aah,<-hl];exact h1) (by simpa using ew) ⟨rfl,fin⟩) hs
theorem KA:NV X Tn:=by
 intro value slice pins s σ H x y v u Q I rx ry h hs;obtain⟨z,i,c,rfl,rfl,hz,he,q⟩:=h;obtain⟨t,rfl⟩:=rx;obtain⟨t',rfl⟩:=ry;obtain⟨j,h1,h2,h3,h4,h5⟩:=ud he;have hl:z.cps.toList.length=z.length:=by simp[Str.length]
 rw[hl]at h1 h4 h5;have hn:=mQ;exact tail_any (typeIs_str s z t) slot_str_getitem.lookup (getItem_str (c:=c) (by
  have e1:decide (i < -(2 ^ 63:Int))=false:=decide_eq_false (by omega);have e2:decide (i≥2 ^ 63)=false:=decide_eq_false (by omega);rw[e1,e2,Bool.or_false]) (by rw[h1];simpa using h2) ⟨.str ⟨[c].toArray⟩,H,I.tok _,⟨_,rfl⟩,q⟩) hs
theorem x8(its:List Value)(n j:Nat)(u:Value):Obj.mapSeq (·.setIfInBounds j u) { cls:=.type "list",data:=.seq its.toArray n }={ cls:=.type "list",data:=.seq (its.set j u).toArray n }:=by
 simp[Obj.mapSeq]
theorem Inv.lst(I:Inv X pins σ H s)(h:H p=some (.lst xs)) :
  ∃(its:List Value) (n:Nat),Vals xs its/\s.heap.get? p=some { cls:=.type "list",data:=.seq its.toArray n }/\xs.length<=sizeLine:=by
 obtain⟨z,its,n,r,e⟩:=I.hok p _ h;exact⟨its,n,r,e,z⟩
theorem Inv.KC{pins:List (Addr×Obj)}{σ:St}{H:Hp}{s:Shared}{p:Addr}{xs ys:List V}{its its':List Value}{n n':Nat}{f:Obj->Obj}(I:Inv X pins σ H s)(h:H p=some (.lst xs))
  (ho:s.heap.get? p=some { cls:=.type "list",data:=.seq its.toArray n }) (hf:f { cls:=.type "list",data:=.seq its.toArray n }={ cls:=.type "list",data:=.seq its'.toArray n' }) (r:Vals ys its') (hz:ys.length<=sizeLine) (t:Nat) :
  Inv X pins σ (upd H p (.lst ys)) { s with heap:=s.heap.update p f,toks:=t }:=by
 have e:(s.heap.update p f).get? p=some { cls:=.type "list",data:=.seq its'.toArray n' }:=by rw[aaD f ho (by rw[hf]<;>rfl),hf]
 refine I.write (x:=p) (e:=p) (by rw[h];trivial) (.inl rfl) (λb u hb q=>(aaV _ _ (Ne.symm hb)).trans q) ⟨_,e⟩ ?_;exact⟨hz,its',n',r,e⟩
def OM:V->V->V->Hp->(Hp->Prop)->Prop:=λo i v H Q=>∃p xs k j,o=.ref p/\i=.int k/\H p=some (.lst xs)/\xJ xs.length k=some j/\Q (upd H p (.lst (xs.set j v)))
theorem set_list:Kc X OM:=by
 intro pins s σ H o i v ov iv u Q I ro ri rv h;obtain⟨p,xs,k,j,rfl,rfl,hp,hj,q⟩:=h;cases ro;obtain⟨t,rfl⟩:=ri;obtain⟨its,n,r,ho,hz⟩:=I.lst hp;obtain⟨h1,h2,h3,h4⟩:=zc hj;have hl:=r.length;have hn:=mQ;have I':Inv X pins σ (upd H p (.lst (xs.set j v))) { s with heap:=s.heap.update p (Obj.mapSeq (·.setIfInBounds j u)) } :=
  I.KC hp ho (x8 its n j u) (r.set rv j) (by rw[acf];exact hz) s.toks
 by_cases h0:0<=k
 ·have hk:k.toNat=j:=by
   rw[seqIndex_of h0 h4]at h1;exact aaq h1
  exact PySem.W.ki_setAt ho h0 (by omega) (by rw[aah,<-hl];exact h4) (by rw[hk];exact⟨_,I',q⟩)
 ·have hk:(k+(its.toArray.size:Int)).toNat=j:=by
   rw[seqIndex_neg (by omega) h3]at h1;rw[aah,<-hl];exact aaq h1
  exact PySem.W.ki_setBack ho (by omega) (by rw[aah,<-hl];exact h3) (by omega) (by rw[hk];exact⟨_,I',q⟩)
theorem ue(lo hi:Option Int)(n:Nat):(sliceBounds lo hi none n).1=((HT.dI n 0 lo:Nat):Int)/\(sliceBounds lo hi none n).2.1=((HT.dI n n hi:Nat):Int)/\(sliceBounds lo hi none n).2.2=1:=by
 refine⟨?_,?_,rfl⟩
 ·cases lo with
  |none=>simp[sliceBounds,HT.dI]
  |some i=>
   simp only[sliceBounds,HT.dI,getD_none,show (1:Int)>0 by decide,if_true]
   by_cases h:i<0
   ·simp only[h,if_true]<;>omega
   ·simp only[h,if_false]<;>omega
 ·cases hi with
  |none=>simp[sliceBounds,HT.dI]
  |some i=>
   simp only[sliceBounds,HT.dI,getD_none,show (1:Int)>0 by decide,if_true]
   by_cases h:i<0
   ·simp only[h,if_true]<;>omega
   ·simp only[h,if_false]<;>omega
theorem qV(its:List Value)(lo hi:Option Int):slicePick its.toArray lo hi none=((its.drop (HT.dI its.length 0 lo)).take (HT.dI its.length its.length hi-HT.dI its.length 0 lo)).toArray:=by
 obtain⟨h1,h2,h3⟩:=ue lo hi its.toArray.size;unfold slicePick;rw[h1,h2,h3];simp only[sliceRange_one,pick_run,size_toArray]<;>rfl
def To(K:Frag):V->Option Int->Option Int->Hp->VK->Prop:=λx lo hi H Q=>∃a xs,x=.ref a/\fR K H a xs/\∀p,H p=none->Q (.ref p) (upd H p (.lst (vq xs lo hi)))
theorem FT:Se X (To X.K):=by
 intro pins s σ H x v vl vu lo hi sl Q I rx hs pl pu h;obtain⟨a,xs,rfl,hx,q⟩:=h;cases rx;obtain⟨its,r,ht,hz⟩:=I.list hx;have hlen:=r.length;refine⟨"list",_,slot_list_getitem.lookup,ht.isList.typeIs,?_⟩;refine wpAny_getItem_list_slice ht.isList hs pl pu .none (by simp) ?_ (by rw[aah]<;>omega);rw[qV,<-hlen];refine⟨.ref s.heap.objs.size,_,I.laid (t':=s.toks) (o:=.lst (vq xs lo hi)) (λb ob q=>Z4 _ q) (aag _) ?_,rfl,q _ (I.hok.fresh (aag _))⟩;exact⟨aaG (nO xs lo hi) hz,_,0,(r.drop (HT.dI xs.length 0 lo)).take (HT.dI xs.length xs.length hi-HT.dI xs.length 0 lo),aam _ rfl⟩
theorem uf:bR X (.type "list") (λxs H Q=>∃p ys,xs=[.ref p]/\(fR X.K H p ys\/iy X.K H p ys)/\∀l,H l=none->Q (.ref l) (upd H l (.lst ys))):=by
 intro pins s σ H xs us Q I r h;obtain⟨p,ys,rfl,hq,q⟩:=h;obtain⟨u,rfl,rx⟩:=vals1 r;cases rx;have fin:∀(its:List Value),Vals ys its->ys.length<=sizeLine->∀(h':Heap) (c':Nat),(∀b o',s.heap.get? b=some o'->h'.get? b=some o') ->
   h'.get? s.heap.objs.size=some { cls:=.type "list",dict:=none,data:=.seq its.toArray c',slots:=#[] }->EP X pins σ Q (.ref s.heap.objs.size) { s with heap:=h' }:=λits r' hz h' c' kp e=>
  ⟨.ref s.heap.objs.size,_,I.laid (t':=s.toks) kp (aag _) (show bF X.prog X.w _ h' _ (.lst ys) from⟨hz,its,c',r',e⟩),rfl,q _ (I.hok.fresh (aag _))⟩
 rcases hq with hq|hq
 ·obtain⟨its,r',pl,hz⟩:=I.list hq;have hlen:=r'.length;obtain⟨o,ho,hc,n,hd⟩:=pl.isList;exact call_list_seq p (.inl rfl) ho hc hd (λh' c' kp e=>fin its r' hz h' c' kp e) (by simp only[size_toArray]<;>omega)
 ·obtain⟨its,r',pl,hz⟩:=I.tuple hq;have hlen:=r'.length;obtain⟨o,ho,hc,n,hd⟩:=pl;exact call_list_seq p (.inr rfl) ho hc hd (λh' c' kp e=>fin its r' hz h' c' kp e) (by simp only[size_toArray]<;>omega)
theorem j9:bR X (.type "tuple") (λxs H Q=>∃p ys,xs=[.ref p]/\((fR X.K H p ys/\∀l,H l=none->Q (.ref l) (upd H l (.tup ys)))\/(iy X.K H p ys/\Q (.ref p) H))):=by
 intro pins s σ H xs us Q I r h;obtain⟨p,ys,rfl,h⟩:=h;obtain⟨u,rfl,rx⟩:=vals1 r;cases rx
 rcases h with ⟨hq,q⟩|⟨hq,q⟩
 ·obtain⟨its,r',pl,hz⟩:=I.list hq
  have hlen:=r'.length;refine call_tuple_list pl.isList (λh' kp=>?_) (by simp only[size_toArray]<;>omega);have I1:Inv X pins σ H { s with heap:=h' }:=I.kept (t':=s.toks) kp;have I2:Inv X pins σ (upd H h'.objs.size (.tup ys)) { s with heap:=h'.push { cls:=.type "tuple",data:=.seq its.toArray } } :=
   I1.laid (t':=s.toks) (λb o e=>Z4 _ e) (aag _) (show bF X.prog X.w _ _ _ (.tup ys) from⟨hz,its,r',IsTup.new _ _⟩)
  exact⟨.ref h'.objs.size,_,I2,rfl,q _ (I1.hok.fresh (aag _))⟩
 ·obtain⟨its,r',pl,hz⟩:=I.tuple hq;exact call_tuple_same pl ⟨.ref p,H,I,rfl,q⟩
def Tp(K:Frag)(T:String)(x:V)(H:Hp):Prop:=match x with
 |.str _=>T = "str"
 |.int _=>T = "int"
 | .ref p=>(T = "list" /\ ∃xs,fR K H p xs)\/(T = "tuple" /\ ∃o,K.lookup p=some o/\o.cls=.type "tuple" /\ o.dict=none) \/
   (T = "dict" /\ ((∃kvs,H p=some (.dK kvs))\/∃kvs,H p=some (.dT kvs)))\/(T = "set" /\ ∃S n,H p=some (.set S n))
 |_=>False
theorem KG{T:String}(I:Inv X pins σ H s)(r:RelV x v)(ty:Tp X.K T x H) :
  s.TypeIs v T/\∀a,v=.ref a->∃ob,s.heap.get? a=some ob/\ob.dict=none:=by
 cases x with
 |str z=>obtain⟨t,rfl⟩:=r;cases (show T = "str" from ty);exact⟨typeIs_str s z t,λ_ e=>nomatch e⟩
 |int i=>obtain⟨t,rfl⟩:=r;cases (show T = "int" from ty);exact⟨typeIs_int s i t,λ_ e=>nomatch e⟩
 |ref p=>
  cases r
  rcases ty with ⟨rfl,xs,hq⟩|⟨rfl,o,hk,hc,hd⟩|⟨rfl,hk⟩|⟨rfl,S,n,hk⟩
  ·obtain⟨its,_,pl,_⟩:=I.list hq;refine⟨pl.isList.typeIs,λa e=>?_⟩;cases e;obtain⟨o,n,e,c,hd,_⟩:=pl;exact⟨o,e,hd⟩
  ·refine⟨⟨o,I.iM p o hk,hc⟩,λa e=>?_⟩;cases e;exact⟨o,I.iM _ o hk,hd⟩
  ·have z:∃o,s.heap.get? p=some o/\o.ExactDict:=by
    rcases hk with ⟨kvs,hk⟩|⟨kvs,hk⟩
    ·obtain⟨_,_,_,_,o,_,_,e,ex,_⟩:=I.hok p _ hk;exact⟨o,e,ex⟩
    ·obtain⟨_,_,_,_,o,_,_,e,ex,_⟩:=I.hok p _ hk;exact⟨o,e,ex⟩
   obtain⟨o,e,ex⟩:=z;refine⟨⟨o,e,ex.1⟩,λa e2=>?_⟩;cases e2;exact⟨o,e,ex.2.1⟩
  ·obtain⟨o,_,_,_,e,ex,_⟩:=I.hok p _ hk;refine⟨⟨o,e,ex.1⟩,λa e2=>?_⟩;cases e2;exact⟨o,e,ex.2.1⟩
 |_=>exact False.elim ty
def VJ(K:Frag)(T:String)(r:V->List V->Hp->VK->Prop)(to:TE)(t:TA):TE:=λσ H Q=>to σ H λx H1=>Tp K T x H1/\t σ H1 λxs H2=>r x xs H2 Q
variable {o e:Expr} {es:List Expr} {to:TE} {t:TA} {name:Str} {apos cpos:Pos} {T id:String} {r:V->List V->Hp->VK->Prop}
theorem zf(pa:PlainAttrs T)(slot:Slot T name id)(hty:typeOf (.builtin id)=pure (.type "method_descriptor"))(hm:NW X id r)(ho:PE X o to)(ha:PA X (e::es) t)
  (hbase:attributeBase o name X.env (eval o X.env)=eval o X.env)
  (hfew:((backTo cpos (starEach (e::es) X.env)).all (λx=>!x.1)&&(backToKw cpos (keywordEach [] X.env)).all (λx=>x.1.isSome)
   && decide ((e::es).length+([]:List Keyword).length+(if ([]:List Keyword).isEmpty then 0 else 1)<30))=true)
  (hline:(apos.endLine==cpos.line)=true) (hs:starEach (e::es) X.env=(false,eval e X.env)::starEach es X.env) (hplain:(backTo cpos (starEach es X.env)).any (·.1)=false) :
  PE X (.Call (.Attribute o name apos) (e::es) [] cpos) (VJ X.K T r to t):=by
 intro pins s σ H Q I h;refine wpAny_Call_method_late hbase hfew hline rfl (cy (ho pins s σ H _ I h) λv s1 aN=>?_);obtain⟨x,H1,I1,r1,ty,q1⟩:=aN;obtain⟨h1,h2⟩:=KG I1 r1 ty;refine⟨T,id,pa,slot,hty,h1,h2,?_⟩;have hA:=ha cpos pins s1 σ H1 _ I1 q1;rw[hs]at hA |-;refine Calls.callWith_builtin (by show (false||(backTo cpos (starEach es X.env)).any (·.1))=false;rw[hplain]<;>rfl) (Calls.evalArgs_plain ?_);exact cy hA λus s2 ⟨vs,H2,I2,r2,q2⟩=>hm pins s2 σ H2 x vs v us Q I2 r1 r2 q2
/- xs.append(e),list.index on a ON tuple .. are NW facts of 06m -/
end
def Sf(X:Cx)(id:String)(r:V->List V->Hp->VK->Prop):Prop :=
 ∀(pins:List (Addr×Obj)) (s:Shared) (σ:St) (H:Hp) (x:V) (xs:List V) (v:Value) (us:List Value) (Q:VK),Inv X pins σ H s->RelV x v->Vals xs us->r x xs H Q ->
  wpAny (model X.prog X.w) X.A (call (.builtin id) (v::us)) (EP X pins σ Q) X.xe s
theorem Vals.one:∀{x:V} {us:List Value},Vals [x] us->∃u,us=[u]/\RelV x u
 |_,_,.cons r .nil=>⟨_,rfl,r⟩
theorem Vals.eraseIdx:∀{xs:List V} {us:List Value} (i:Nat),Vals xs us->Vals (xs.eraseIdx i) (us.eraseIdx i)
 |_,_,_,.nil=>.nil
 |_,_,0,.cons _ t=>t
 |_,_,i+1,.cons r t=>.cons r (Vals.eraseIdx i t)
theorem rS{α:Type}:∀(l:List α) (i:Nat),(l.eraseIdx i).length<=l.length
 |[],_=>aag _
 |_::_,0=>aaQ _
 |_::r,i+1=>Nat.succ_le_succ (rS r i)
section
variable {X:Cx} {pins:List (Addr×Obj)} {σ:St} {H:Hp} {s:Shared} {l b:Addr} {xs ys zs:List V}
theorem Inv.FU{its its':List Value}{n:Nat}{f:Array Value->Array Value}{t':Nat}(I:Inv X pins σ H s)(hH:H l=some (.lst xs))
  (e:s.heap.get? l=some { cls:=.type "list",data:=.seq its.toArray n }) (hf:f its.toArray=its'.toArray) (hv:Vals ys its') (hz:ys.length<=sizeLine) :
  Inv X pins σ (upd H l (.lst ys)) { s with heap:=s.heap.update l (Obj.mapSeq f),toks:=t' }:=by
 have q:=PySem.IsL.update e f;rw[hf]at q;refine I.write (x:=l) (e:=l) (by rw[hH];exact trivial) (.inl rfl) (λb' u hb hu=>(aaV s.heap (Obj.mapSeq f) (Ne.symm hb)).trans hu) ⟨_,q⟩ ?_;exact⟨hz,its',_,hv,q⟩
theorem Inv.Tq{t':Nat}(I:Inv X pins σ H s)(hv:Vals ys its)(hz:ys.length<=sizeLine) :
  Inv X pins σ (upd H s.heap.objs.size (.lst ys)) { s with heap:=s.heap.push { cls:=.type "list",data:=.seq its.toArray },toks:=t' } :=
 I.laid (λ_ _ q=>Z4 _ q) (aag _) ⟨hz,its,0,hv,aam _ rfl⟩
theorem Inv.Cq(I:Inv X pins σ H s)(hH:H l=some (.lst xs)):xs.length<=sizeLine/\∃(its:List Value) (n:Nat),Vals xs its/\xs.length=its.length/\s.heap.get? l=some { cls:=.type "list",data:=.seq its.toArray n }:=by
 obtain⟨z,its,n,r,e⟩:=I.hok l _ hH;exact⟨z,its,n,r,r.length,e⟩
theorem vt{n:Nat}(h:n<=sizeLine):Builtin.List.listTooLong n=false:=by
 unfold Builtin.List.listTooLong;exact decide_eq_false (by omega)
end
section
variable {X:Cx}
def FW:V->List V->Hp->VK->Prop:=λx vs H Q=>∃l xs y,x=.ref l/\vs=[y]/\H l=some (.lst xs)/\xs.length<sizeLine/\Q .non (upd H l (.lst (xs++[y])))
theorem rT:Sf X "list.append" FW:=by
 intro pins s σ H x vs v us Q I rx rv h;obtain⟨l,xs,y,rfl,rfl,hH,hz,q⟩:=h;cases rx;obtain⟨u,rfl,ru⟩:=rv.one;obtain⟨z,its,n,r,hl,e⟩:=I.Cq hH;refine call_meets F.slot_list_append ⟨_,e,rfl⟩ F.entry_list_append (F.args_list_append_2 _ _) (PySem.list_append l its.toArray n u (by rw[aah];omega)) ⟨e,?_⟩;refine⟨.non,_,I.FU (its':=its++[u]) hH e (by simp) (r.append #[ru]) ?_,rfl,q⟩;rw[aao,List.length_singleton];omega
def FY:V->List V->Hp->VK->Prop:=λx vs H Q=>∃l b xs zs,x=.ref l/\vs=[.ref b]/\H l=some (.lst xs)/\H b=some (.lst zs)/\xs.length+zs.length<=sizeLine/\Q .non (upd H l (.lst (xs++zs)))
theorem AL:Sf X "list.extend" FY:=by
 intro pins s σ H x vs v us Q I rx rv h;obtain⟨l,b,xs,zs,rfl,rfl,hH,hB,hz,q⟩:=h;cases rx;obtain⟨u,rfl,ru⟩:=rv.one;cases ru;obtain⟨z,its,n,r,hl,e⟩:=I.Cq hH;obtain⟨z2,its2,n2,r2,hl2,e2⟩:=I.Cq hB;have hsz:its.toArray.size+its2.toArray.size<=sizeLine:=by rw[aah,aah];omega
 have Cr:¬ (!its.toArray.isEmpty&&Builtin.List.listTooLong (its.toArray.size+its2.toArray.size))=true:=by rw[vt hsz,Bool.and_false];exact Z3
 refine call_meets F.slot_list_extend ⟨_,e,rfl⟩ F.entry_list_extend (F.args_list_extend_2 _ _)
  (AutoSeq1.list_extend_list_list_0 l its.toArray n b its2.toArray n2 Cr (by rw[aah];omega) (by omega)) ⟨e,e2,?_⟩
 refine⟨.non,_,I.FU (its':=its++its2) hH e (by simp) (r.append r2) ?_,rfl,q⟩;rw[aao];omega
end
section
variable {κ:Type} [DecidableEq κ]
def gP(kvs:List (κ × V))(k:κ):Option V:=(kvs.find? λkv=>decide (kv.1=k)).map (·.2)
def putK(kvs:List (κ × V))(k:κ)(v:V):List (κ × V) :=
 if (kvs.any λkv=>decide (kv.1=k))=true then kvs.map (λkv=>if kv.1=k then (kv.1,v) else kv) else kvs++[(k,v)]
theorem pG{p:κ × V}{r:List (κ × V)}{k:κ}(e:p.1=k):gP (p::r) k=some p.2:=by simp[gP,find?_cons,e]
theorem pH{p:κ × V}{r:List (κ × V)}{k:κ}(e:¬ p.1=k):gP (p::r) k=gP r k:=by simp[gP,find?_cons,e]
theorem vv(k:κ):∀kvs:List (κ × V),(kvs.any λkv=>decide (kv.1=k))=(gP kvs k).isSome
 |[]=>rfl
 | p::r=>by
  rw[abA]
  by_cases e:p.1=k
  ·simp only[pG e,decide_eq_true e,Bool.true_or,isSome_some]
  ·rw[pH e,decide_eq_false e,Bool.false_or];exact vv k r
theorem iS(kvs:List (κ × V))(k:κ)(v:V):(putK kvs k v).length<=kvs.length+1:=by
 unfold putK
 split
 ·rw[Z8];omega
 ·rw[aao,aaC,length_nil];omega
theorem ou.gQ(r:ou o u):o.isSome=u.isSome:=by
 cases o with
 | none=>cases u with
  |none=>rfl
  |some _=>exact(show False from r).elim
 | some _=>cases u with
  |none=>exact(show False from r).elim
  |some _=>rfl
theorem KV.val(r:KV kvs vs)(k:κ):ou (gP kvs k) (valueAt vs k):=by
 unfold KV at r
 induction r with
 |nil=>exact abf
 |@cons p q ps qs h t ih=>
  obtain⟨h1,h2⟩:=h
  by_cases e:p.1=k
  ·have e':q.1=k:=h1.symm.trans e
   have b:valueAt (q::qs) k=some q.2:=by simp[valueAt,find?_cons,e']
   rw[pG e,b];exact h2
  ·have e':¬ q.1=k:=λz=>e (h1.trans z)
   have b:valueAt (q::qs) k=valueAt qs k:=by simp[valueAt,find?_cons,e']
   rw[pH e,b];exact ih
theorem KV.any(r:KV kvs vs)(k:κ):(kvs.any λkv=>decide (kv.1=k))=vs.any λkv=>decide (kv.1=k):=by
 unfold KV at r
 induction r with
 |nil=>rfl
 |cons h t ih=>rw[abA,abA,ih,h.1]
theorem KV.repl(r:KV kvs vs)(k:κ)(ry:RelV y u) :
  KV (kvs.map λkv=>if kv.1=k then (kv.1,y) else kv) (vs.map λkv=>if kv.1=k then (kv.1,u) else kv):=by
 unfold KV at r |-
 induction r with
 |nil=>exact .nil
 |@cons p q ps qs h t ih=>
  rw[aap,aap];refine .cons ?_ ih;obtain⟨h1,h2⟩:=h
  by_cases e:p.1=k
  ·rw[aae e,aae (h1.symm.trans e)];exact⟨h1,ry⟩
  ·rw[aac e,aac (λz=>e (h1.trans z))];exact⟨h1,h2⟩
theorem KV.put(r:KV kvs vs)(k:κ)(ry:RelV y u):KV (putK kvs k y) (stored vs k u):=by
 unfold putK stored;rw[r.any k]
 by_cases e:(vs.any λkv=>decide (kv.1=k))=true
 ·rw[aae e,aae e];exact r.repl k ry
 ·rw[aac e,aac e];exact Paired.snoc r ⟨rfl,ry⟩
theorem KV.length(r:KV kvs vs):kvs.length=vs.length:=Paired.length r
end
theorem rV(r:RelV (kV k) u):(bZ P w).is k u=true:=by
 cases k with
 |inl i=>obtain⟨t,e⟩:=(show ∃t,u=Value.int i t from r);subst e;exact vg P w i t
 |inr x=>obtain⟨t,e⟩:=(show ∃t,u=Value.str x t from r);subst e;exact vh P w x t
theorem rW:∀{ks:List Key} {us:List Value},Vals (ks.map kV) us->ItemsAre (bZ P w) ks us
 |[],_,r=>by rw[abt]at r;cases r;exact .nil
 | k::ks,_,r=>by
  rw[aap]at r;cases r with
  |cons h t=>exact .cons (rV h) (rW t)
abbrev KT(H:Hp):List (List Key×V)->List (List Key×Addr×Value)->Prop:=Paired λp q=>p.1=q.1/\H q.2.1=some (.tup (p.1.map kV))/\RelV p.2 q.2.2
theorem KT.val(r:KT H kvs xs)(k:List Key):ou (gP kvs k) ((atKey xs k).map (·.2)):=by
 induction r with
 |nil=>exact abf
 |@cons p q ps qs h t ih=>
  obtain⟨h1,_,h2⟩:=h
  by_cases e:p.1=k
  ·have e':q.1=k:=h1.symm.trans e
   have b:atKey (q::qs) k=some q.2:=by simp[atKey,find?_cons,e']
   rw[pG e,b];exact h2
  ·have e':¬ q.1=k:=λz=>e (h1.trans z)
   have b:atKey (q::qs) k=atKey qs k:=by simp[atKey,find?_cons,e']
   rw[pH e,b];exact ih
theorem KT.repl(r:KT H kvs xs)(k:List Key)(ry:RelV y u) :
  KT H (kvs.map λkv=>if kv.1=k then (kv.1,y) else kv) (xs.map (putAt k u)):=by
 induction r with
 |nil=>exact .nil
 |@cons p q ps qs h t ih=>
  rw[aap,aap];refine .cons ?_ ih;obtain⟨h1,h2,h3⟩:=h;unfold putAt
  by_cases e:p.1=k
  ·rw[aae e,aae (h1.symm.trans e)];exact⟨h1,h2,ry⟩
  ·rw[aac e,aac (λz=>e (h1.trans z))];exact⟨h1,h2,h3⟩
theorem KT.put(r:KT H kvs xs)(k:List Key)(hb:H b=some (.tup (k.map kV)))(ry:RelV y u) :
  KT H (putK kvs k y) (storedH xs k b u):=by
 have e:(kvs.any λkv=>decide (kv.1=k))=(atKey xs k).isSome:=by rw[vv,(r.val k).gQ,abX]
 unfold putK storedH;rw[e]
 by_cases q:(atKey xs k).isSome=true
 ·rw[aae q,aae q];exact r.repl k ry
 ·rw[aac q,aac q];exact Paired.snoc r ⟨rfl,hb,ry⟩
theorem KT.keeps(r:KT H kvs xs)(ht:∀b ys,H b=some (.tup ys)->H' b=some (.tup ys)):KT H' kvs xs :=
 Paired.JY r λ_ _ z=>⟨z.1,ht _ _ z.2.1,z.2.2⟩
section
variable {P:Program} {w:World} {H:Hp} {h:Heap} {a:Addr}
theorem Jj(ok:iL P w H h)(e:Rd H a u):bF P w H h a u:=e.ok ok
theorem rX(ok:iL P w H h)(e:Rd H a (.dK kvs)):kvs.length<=sizeLine/\(a==sysModules)=false/\∃vs,KV kvs vs/\h.DictOf (bZ P w) a vs :=
 show bF P w H h a (.dK kvs) from Jj ok e
theorem Jk(ok:iL P w H h)(e:H a=some (.dK kvs)):kvs.length<=sizeLine/\(a==sysModules)=false/\∃vs,KV kvs vs/\h.DictOf (bZ P w) a vs:=rX ok (.inl e)
theorem pI(ok:iL P w H h)(e:H a=some (.tup (ks.map kV))):(tupleKind (bZ P w)).is h ks a:=by
 obtain⟨_,its,r,o,h1,h2,n,h3⟩:=(show bF P w H h a (.tup (ks.map kV)) from ok a _ e);exact⟨o,its.toArray,n,h1,h2,h3,by simpa using rW r⟩
theorem vz(ok:iL P w H h)(e:Rd H a (.dT kvs)):kvs.length<=sizeLine/\(a==sysModules)=false /\
  ∃xs,KT H kvs xs/\h.DictOfH (tupleKind (bZ P w)) a xs:=by
 obtain⟨z,y,xs,r,o,es,ep,h1,h2,h3,h4,h5⟩:=(show bF P w H h a (.dT kvs) from Jj ok e);refine⟨z,y,xs,r,o,es,ep,h1,h2,h3,h4,λx hx=>?_,h5⟩;have all:∀{l:List (List Key×V)} {m:List (List Key×Addr×Value)},KT H l m->∀x∈m,(tupleKind (bZ P w)).is h x.1 x.2.1:=by
  intro l m q
  induction q with
  |nil=>intro x hx;exact nomatch hx
  |@cons p q ps qs hq t ih=>
   intro x hx
   rcases aal.mp hx with e|hx
   ·subst e;exact pI ok (by rw[<-hq.1];exact hq.2.1)
   ·exact ih x hx
 exact all r x hx
theorem OO(ok:iL P w H h)(e:H a=some (.dT kvs)):kvs.length<=sizeLine/\(a==sysModules)=false /\
  ∃xs,KT H kvs xs/\h.DictOfH (tupleKind (bZ P w)) a xs:=vz ok (.inl e)
end
def mU(H:Hp)(a:Addr)(y:V)(r:Option V):Prop :=
 (∃kvs k,Rd H a (.dK kvs)/\y=kV k/\r=gP kvs k)\/∃kvs k b,Rd H a (.dT kvs)/\y=.ref b/\H b=some (.tup (k.map kV))/\r=gP kvs k
def FZ(H:Hp)(a:Addr)(y v:V)(H':Hp):Prop :=
 (∃kvs k,H a=some (.dK kvs)/\y=kV k/\kvs.length<sizeLine/\H'=upd H a (.dK (putK kvs k v))) \/
 ∃kvs k b,H a=some (.dT kvs)/\y=.ref b/\H b=some (.tup (k.map kV))/\kvs.length<sizeLine/\H'=upd H a (.dT (putK kvs k v))
theorem mU.k{H:Hp}{a:Addr}{kvs:List (Key×V)}{k:Key}(e:H a=some (.dK kvs)):mU H a (kV k) (gP kvs k):=.inl ⟨kvs,k,.inl e,rfl,rfl⟩
theorem FZ.k{H:Hp}{a:Addr}{kvs:List (Key×V)}{k:Key}{v:V}(e:H a=some (.dK kvs))(hl:kvs.length<sizeLine):FZ H a (kV k) v (upd H a (.dK (putK kvs k v))):=.inl ⟨kvs,k,e,rfl,hl,rfl⟩
section
variable {X:Cx} {pins:List (Addr×Obj)} {σ:St} {H:Hp} {s:Shared} {a:Addr} {y v:V} {u r:Value} {o:Option V} {A:Around} {E:Value->Shared->Prop}
theorem Inv.big(I:Inv X pins σ H s):sysModules<s.heap.objs.size:=by
 have h:mainGlobals<s.heap.objs.size:=(I.mod.glob.keeps I.bk).lt;exact abY (by decide) h
theorem AM(hu:A.units+1<cLine)(I:Inv X pins σ H s)(g:mU H a y (some v))(ry:RelV y u)(h:∀w' s',Inv X pins σ H s'->RelV v w'->Q w' s') :
  wpAny (model X.prog X.w) A (getItem (.ref a) u) Q E s:=by
 rcases g with ⟨kvs,k,e,ey,l⟩|⟨kvs,k,b,e,ey,eb,l⟩
 ·subst ey;obtain⟨z,hd,vs,rel,dd⟩:=rX I.hok e;obtain⟨w',hw,rw'⟩:=ou.some_of (v:=v) (o:=valueAt vs k) (by rw[l];exact rel.val k);exact wpAny_getItem_of (rV ry) dd.mapOf hw (h w' _ (I.tok _) rw')
 ·subst ey;cases (show u=Value.ref b from ry);obtain⟨z,hd,xs,rel,dd⟩:=vz I.hok e;obtain⟨w',hw,rw'⟩:=ou.some_of (v:=v) (o:=(atKey xs k).map (·.2)) (by rw[l];exact rel.val k);obtain⟨p,hp,hp2⟩:=aaw.mp hw;refine wpAny_getItem_heap (abT hu) (pI I.hok eb) dd hp ?_;rw[hp2];exact h w' _ (I.tok _) rw'
theorem Tr(hu:A.units+1<cLine)(I:Inv X pins σ H s)(g:mU H a y o)(ry:RelV y u)(h:∀s',Inv X pins σ H s'->Q (.bool o.isSome) s') :
  wpAny (model X.prog X.w) A (compareOp .In u (.ref a)) Q E s:=by
 rcases g with ⟨kvs,k,e,ey,l⟩|⟨kvs,k,b,e,ey,eb,l⟩
 ·subst ey;obtain⟨z,hd,vs,rel,dd⟩:=rX I.hok e;refine wpAny_in_of (rV ry) hd dd.mapOf ?_;rw[<-(rel.val k).gQ,<-l];exact h _ (I.tok _)
 ·subst ey;cases (show u=Value.ref b from ry);obtain⟨z,hd,xs,rel,dd⟩:=vz I.hok e;refine wpAny_in_heap (abT hu) (pI I.hok eb) hd dd ?_;have q:=(rel.val k).gQ;rw[abX]at q;rw[<-q,<-l];exact h _ (I.tok _)
theorem F6(hu:A.units+1<cLine)(I:Inv X pins σ H s)(g:mU H a y o)(ry:RelV y u)(h:∀s',Inv X pins σ H s'->Q (.bool (!o.isSome)) s') :
  wpAny (model X.prog X.w) A (compareOp .NotIn u (.ref a)) Q E s:=by
 rcases g with ⟨kvs,k,e,ey,l⟩|⟨kvs,k,b,e,ey,eb,l⟩
 ·subst ey;obtain⟨z,hd,vs,rel,dd⟩:=rX I.hok e;refine wpAny_notIn_of (rV ry) hd dd.mapOf ?_;rw[<-(rel.val k).gQ,<-l];exact h _ (I.tok _)
 ·subst ey;cases (show u=Value.ref b from ry);obtain⟨z,hd,xs,rel,dd⟩:=vz I.hok e;refine wpAny_notIn_heap (abT hu) (pI I.hok eb) hd dd ?_;have q:=(rel.val k).gQ;rw[abX]at q;rw[<-q,<-l];exact h _ (I.tok _)
theorem ug{t':Nat}(I:Inv X pins σ H s)(mu:N8 (H a))(hs:Heap.SameBut a s.heap h')(he:∃q,h'.get? a=some q)(new:bF X.prog X.w (upd H a ob) h' a ob) :
  Inv X pins σ (upd H a ob) { s with heap:=h',toks:=t' } :=
 I.write (x:=a) (e:=a) mu (.inl rfl) (λb q hb z=>(hs.2 b hb).trans z) he new
theorem Cs(z:kvs.length<=sizeLine)(hd:(a==sysModules)=false)(rel:KV kvs vs)(dd:h'.DictOf (bZ P w) a vs) :
  bF P w H' h' a (.dK kvs):=⟨z,hd,vs,rel,dd⟩
theorem AN(hu:A.units+1<cLine)(I:Inv X pins σ H s)(g:FZ H a y v H')(ry:RelV y u)(rv:RelV v r)(h:∀s',Inv X pins σ H' s'->Q () s') :
  wpAny (model X.prog X.w) A (setItem (.ref a) u r) Q E s:=by
 rcases g with ⟨kvs,k,e,ey,l,eH⟩|⟨kvs,k,b,e,ey,eb,l,eH⟩
 ·subst ey eH
  obtain⟨z,hd,vs,rel,dd⟩:=Jk I.hok e;have hz:vs.length<=sizeLine:=by rw[<-rel.length];exact z
  have hl:(putK kvs k v).length<=sizeLine:=by have:=iS kvs k v;omega
  refine wpAny_setItem_pairs (hsz:=hz) (rV ry) dd λh' AO hs=>h _ ?_;have he:∃q,h'.get? a=some q:=let ⟨q,_,_,hq,_⟩:=AO;⟨q,hq⟩
  exact ug I (by rw[e];exact abf) hs he (Cs hl hd (rel.put k rv) AO)
 ·subst ey eH
  cases (show u=Value.ref b from ry);obtain⟨z,hd,xs,rel,dd⟩:=OO I.hok e;have hz:xs.length<=sizeLine:=by rw[<-Paired.length rel];exact z
  have hl:(putK kvs k v).length<=sizeLine:=by have:=iS kvs k v;omega
  refine wpAny_setItem_heap (hsz:=hz) (abT hu) (pI I.hok eb) dd λh' AO hs=>h _ ?_;obtain⟨q,es,ep,hq,h2,h3,h4,_,h5⟩:=AO;refine ug I (by rw[e];exact abf) hs ⟨q,hq⟩ ⟨hl,hd,_,(rel.put k eb rv).keeps λc ys ec=>?_,q,es,ep,hq,h2,h3,h4,h5⟩;rw[ao (N7 ec e (λz=>nomatch z))];exact ec
end
section
variable {X:Cx} {pins:List (Addr×Obj)} {σ:St} {H:Hp} {s:Shared} {a:Addr} {kvs:List (Key×V)} {k:Key} {u:Value} {A:Around} {E:Value->Shared->Prop}
theorem OP(I:Inv X pins σ H s)(e:Rd H a (.dK kvs))(h:∀t s',Inv X pins σ H s'->Q (.int kvs.length t) s'):wpAny (model X.prog X.w) A (call (.builtin "len") [.ref a]) Q E s:=by
 obtain⟨z,hd,vs,rel,dd⟩:=rX I.hok e;refine call_len_dict hd dd (by rw[<-rel.length];rw[aaZ]at z;omega) ?_;rw[<-rel.length];exact h _ _ (I.tok _)
end
theorem vA(I:Inv X pins σ H s)(g:mU H a y o):s.TypeIs (.ref a) "dict":=by
 rcases g with ⟨kvs,k,e,_,_⟩|⟨kvs,k,b,e,_,_,_⟩
 ·obtain⟨_,_,vs,_,dd⟩:=rX I.hok e;exact dd.typeIs
 ·obtain⟨_,_,xs,_,dd⟩:=vz I.hok e;exact dd.typeIs
theorem vB(h:Heap)(hb:sysModules<h.objs.size):bF P w H (h.push { cls:=.type "dict",data:=.dict #[] }) h.objs.size (.dK []) :=
 ⟨abd _,aaX.mpr (Ne.symm (aaj hb)),[],.nil,Heap.DictOf.new h⟩
def KI:TE:=λ_ H Q=>∀p,H p=none->Q (.ref p) (upd H p (.dK []))
section
variable {X:Cx} {pos:Pos}
theorem Ct:PE X (.Dict [] [] pos) KI:=λpins s σ H Q I h=>
 wpAny_Dict_empty ⟨.ref s.heap.objs.size,_,I.laid (a:=s.heap.objs.size) (o:=.dK []) (t':=s.toks) (λ_ _ q=>Z4 _ q) (aag _) (vB s.heap I.big),rfl,h _ (I.hok.fresh (aag _))⟩
end
def x9:List (TE×TE)->St->Hp->(List (V×V)->Hp->Prop)->Prop
 |[],_,H,Q=>Q [] H
 |(tk,tv)::r,σ,H,Q=>tk σ H λx H1=>tv σ H1 λy H2=>x9 r σ H2 λps H3=>Q ((x,y)::ps) H3
abbrev VV:List (V×V)->List (Value×Value)->Prop:=Paired λp q=>RelV p.1 q.1/\RelV p.2 q.2
def Sg(X:Cx)(pos:Pos)(keys:List (Option Expr))(values:List Expr)(KJ:List (TE×TE)):Prop :=
 ∀(pins:List (Addr×Obj)) (s:Shared) (σ:St) (H:Hp) (Q:List (V×V)->Hp->Prop),Inv X pins σ H s->x9 KJ σ H Q ->
  wpAny (model X.prog X.w) X.A (evalPairs (pairTrees keys values X.env pos)) (λvs s'=>∃ps H',Inv X pins σ H' s'/\VV ps vs/\Q ps H') X.xe s
theorem F7:Sg X pos [] [] []:=λpins s σ H Q I h=>pairTrees_nil_walk ⟨[],H,I,.nil,h⟩
theorem vC(hk:PE X k tk)(hv:PE X v tv)(hr:Sg X pos ks vs KJ) :
  Sg X pos (some k::ks) (v::vs) ((tk,tv)::KJ):=λpins s σ H Q I h=>
 pairTrees_cons_walk (cy (hk pins s σ H _ I h) λu s1 ⟨x,H1,I1,rx,q1⟩=>cy (hv pins s1 σ H1 _ I1 q1) λw2 s2 ⟨y,H2,I2,ry,q2⟩=>
  cy (hr pins s2 σ H2 _ I2 q2) λws s3 ⟨ps,H3,I3,rel,q3⟩=>⟨(x,y)::ps,H3,I3,.cons ⟨rx,ry⟩ rel,q3⟩)
def iB(kvs more:List (Key×V)):List (Key×V):=more.foldl (λacc kv=>putK acc kv.1 kv.2) kvs
theorem KV.merge:∀{more:List (Key×V)} {rs:List (Key×Value)} {kvs:List (Key×V)} {vs:List (Key×Value)},KV more rs->KV kvs vs->KV (iB kvs more) (merged vs rs):=by
 intro more rs kvs vs r;unfold KV at r
 induction r generalizing kvs vs with
 |nil=>intro q;exact q
 |@cons p q ps qs h t ih=>
  intro r0;have e:KV (putK kvs p.1 p.2) (stored vs q.1 q.2):=by have:=r0.put p.1 h.2;rw[<-h.1];exact this
  exact ih e
theorem kc:∀(more kvs:List (Key×V)),(iB kvs more).length<=kvs.length+more.length
 |[],kvs=>by show kvs.length<=kvs.length+0;omega
 | p::r,kvs=>by
  have h1:=kc r (putK kvs p.1 p.2);have h2:=iS kvs p.1 p.2;show (iB (putK kvs p.1 p.2) r).length<=_;rw[aaC];omega
theorem pJ:∀{kvs:List (Key×V)} {ws:List (Value×Value)},VV (kvs.map λkv=>(kV kv.1,kv.2)) ws->∃rs,Carries (bZ P w) ws rs/\KV kvs rs
 |[],_,r=>by rw[abt]at r;cases r;exact⟨[],abf,.nil⟩
 | p::kvs,_,r=>by
  rw[aap]at r;cases r with
  |@cons a b as bs h t=>obtain⟨rs,c,q⟩:=pJ (P:=P) (w:=w) t;obtain⟨b1,b2⟩:=b;exact⟨(p.1,b2)::rs,⟨rV h.1,rfl,c⟩,.cons ⟨rfl,h.2⟩ q⟩
def OQ(KJ:List (TE×TE)):TE:=λσ H Q=>∀p,H p=none->x9 KJ σ (upd H p (.dK [])) λps H2=>H2 p=some (.dK [])/\∃kvs:List (Key×V),ps=kvs.map (λkv=>(kV kv.1,kv.2))/\kvs.length<=15/\Q (.ref p) (upd H2 p (.dK (iB [] kvs)))
theorem F8(h:Sg X pos keys values KJ)(hall:keys.all (·.isSome)=true)(hl:keys.length=values.length)(h0:keys≠[])
  (Xb:keys.length<=15):PE X (.Dict keys values pos) (OQ KJ):=by
 intro pins s σ H Q I q;have hn:=I.hok.fresh (aag s.heap.objs.size);have I1:=I.laid (a:=s.heap.objs.size) (o:=.dK []) (h':=s.heap.push { cls:=.type "dict",data:=.dict #[] }) (t':=s.toks) (λ_ _ q=>Z4 _ q) (aag _) (vB s.heap I.big);refine wpAny_Dict_walk (knd:=bZ X.prog X.w) hall hl h0 Xb (cy (h pins _ σ _ _ I1 (q _ hn)) λws s2 aN=>?_);obtain⟨ps,H2,I2,rel,e,kvs,ep,lk,q2⟩:=aN;subst ep;obtain⟨rs,c,rk⟩:=pJ (P:=X.prog) (w:=X.w) rel;obtain⟨z,hd,ZM,r0,dd⟩:=Jk I2.hok e;cases r0;refine⟨rs,c,dd,λh' AO hs=>⟨.ref s.heap.objs.size,_,?_,rfl,q2⟩⟩;have hz:(iB [] kvs).length<=sizeLine:=by have h1:=kc kvs [];rw[length_nil]at h1;rw[aaZ];omega
 have he:∃q,h'.get? s.heap.objs.size=some q:=let ⟨q,_,_,hq,_⟩:=AO;⟨q,hq⟩
 exact ug I2 (by rw[e];exact abf) hs he (Cs hz hd (rk.merge .nil) AO)
end L2
namespace VL
open PySem PySem.W PySem.Calls PyProof.Rows
theorem oB:∀(ns:List Int) (vs:List Value),WellAll P h vs (ns.map WData.int)->IntsAre vs ns:=by
 intro ns
 induction ns with
 |nil=>intro vs w;rw[abt]at w;cases w;exact .nil
 |cons n ns ih=>
  intro vs w;rw[aap]at w;cases w with
  |cons a b=>cases a;exact .cons _ _ (ih _ b)
theorem AQ{l:OpenLaw}{n:Nat}(hn:l.most=some n){P:Params}{h:Heap}{args:List WData}{vals:List Value}
  (hpre:l.row.toRowW.claim.pre args=true) (hwl:WellAll P h vals args) :
  ∃a vs ns,vals=[Value.ref a]/\args=[WData.list (ns.map WData.int)]/\h.get? a=some { cls:=.type "list",data:=.seq vs.toArray }/\IntsAre vs ns/\ns.length<=n:=by
 have hsh:WShape.hasAll [] args [.list .int]=true:=(pre_splitW hpre).1;have hc:l.pre.holds [] { args:=args }=true:=(pre_splitW hpre).2;obtain⟨d,r,rfl,h1,h2⟩:=hasAllW_cons hsh;obtain rfl:=hasAllW_nil h2;obtain⟨xs,rfl,h3⟩:=hasW_list h1;obtain⟨ns,rfl⟩:=items_int h3;have hlen:ns.length<=n:=by
  unfold OpenLaw.pre at hc;have h4:(WTm.not (.lt (.lit (.int (n:Int))) (.len (.arg 0)))).holds [] { args:=[.list (ns.map .int)] }=true:=by have h4:=(holds_andW hc).1;rw[hn]at h4;exact h4
  have h5:=condW_of h4 (w_not (w_lt w_lit (w_len_list (w_arg rfl))));rw[Z8]at h5;refine Nat.le_of_not_lt λq=>?_;have q':(n:Int)<((ns.length:Nat):Int):=by omega
  first
   |(rw[decide_eq_true q']at h5;exact absurd h5 (by decide))
   |(simp at h5;omega)
 cases hwl with
 |cons w1 w2=>
  cases w2;cases w1 with
  |list ho hall=>exact⟨_,_,ns,rfl,rfl,ho,oB ns _ hall,hlen⟩
theorem AR(l:OpenLaw)(args:List WData):l.row.toRowW.claim.post args (.bool true) args=true :=
 postW_of (r:=l.row.toRowW) (X:=(true==true))
  (show WShape.has [] (.bool true) .bool=true by first|rfl|decide|simp[WShape.has,WShape.arms,WShape.armsAll])
  (show (WTm.eq .res (.lit (.bool true))).value [] { args:=args,res:=some (.bool true),after:=args }=some (.bool (true==true)) from w_eq_bool (w_res rfl) w_lit) rfl
theorem vD{l:OpenLaw}{n:Nat}{q:Program}{loose:List Str}{XP:(Str->Option Value)->Heap->Prop}{YP:World->Heap->Prop}{d:DefRec}
  (hn:l.most=some n) (hdf:d.params.defaults=[])
  (call:∀(w:World) (s₀ s₁:Shared) (mg mb:Str->Option Value) (fa:Addr) (o:Obj) (pm cd doc:Value) (a:Addr) (vs:List Value) (ns:List Int),
   Ground q loose [] XP w s₀ mg mb s₁.heap->YP w s₁.heap ->
   s₁.heap.get? fa=some o->o.data=.func (docDef d.name d.params d.body d.scope pm cd doc)->s₁.heap.CodeRec cd d.name->mg d.name=some (.ref fa) ->
   s₁.heap.get? a=some { cls:=.type "list",data:=.seq vs.toArray }->IntsAre vs ns->ns.length<=n->s₁.gens = #[] ->
   codeAny (model l.prog w) callerA (.call (.ref fa) ⟨[.ref a],[]⟩) (λr s'=>r=.ok (.ret (.bool true))/\OldK s₁.heap s'.heap/\s'.os=s₁.os/\AllBare s'.gens) s₁) :
  WalkO q loose XP YP l.row.toRowW d [] (λf vs=>PySem.call f vs):=by
 intro w s₀ s₁ mg mb G Y fa o pm cd doc dV kV ho hd hcd hD hmg hg args vals as hpre hlay hrd hwl hlo;obtain rfl:dV=.none:=Dflts.none hD hdf;obtain rfl:kV=.none:=Dflts.noKw hD;obtain⟨a,vs,ns,rfl,rfl,hobj,hints,hlen⟩:=AQ hn hpre hwl;refine enter_call (abq (call w s₀ s₁ mg mb fa o pm cd doc a vs ns G Y ho (fd_plain hd) hcd hmg hobj hints hlen hg) λr s' hq=>?_);obtain⟨rfl,h2,h3,h4⟩:=hq;exact⟨.inl ⟨.bool true,.bool true,[],rfl,λ_=>rfl,.bool true,AR l _,λ_=>⟨aco,λ_ hm=>(nomatch hm)⟩⟩,h2,h3,h4⟩
end VL
namespace L2
open PySem PySem.Spec PyProof.Rows
theorem jC:∀{vs:List Value} {ns:List Int},IntsAre vs ns->Vals (ns.map V.int) vs
 |_,_,.nil=>.nil
 |_,_,.cons n t h=>.cons ⟨t,rfl⟩ (jC h)
def Cu(H:Hp):Prop:=∀b,H b=none\/∃o xs,H b=some (.rL o (.lst xs))
theorem Cv{P:Program}{w:World}{K:Frag}{mg mb:Str->Option Value}{CX:xW}{k:Nat}{fa a:Addr}{fd:FuncData}{x:Str}{sp:Sp}{s₁:Shared}{vs:List Value}{ns:List Int}
  (KX:K.In s₁.heap) (hns:s₁.heap.Ns mainGlobals mg) (hb:s₁.heap.Ns builtinsNs mb) (Sh:∀x:Str,x ≠ "__name__" -> mb x=bootBuiltins x) (hlim:s₁.heap.NoLimit) (hg:s₁.gens = #[])
  (ha:s₁.heap.get? a=some { cls:=.type "list",data:=.seq vs.toArray }) (hi:IntsAre vs ns) (hl:ns.length<=sizeLine) (hr:dj k callerA)
  (F:∀base:Heap,K.In base->base.Ns mainGlobals mg->dH P w K mg base CX k fa fd [x] sp) (hbind:∀(s:Shared) (u:Value),BindsTo s fd ⟨[u],[]⟩ [(x,u)])
  (hsp:∀H:Hp,Cu H->fR K H a (ns.map V.int)->sp [.ref a] H (λv _=>v=.bl true) λ_ _ _=>False)
  (hCX:∀H e s',CX [] H s₁ (λ_ _ _=>False) e s'->False) :
  codeAny (model P w) callerA (.call (.ref fa) ⟨[.ref a],[]⟩) (λr s'=>r=.ok (.ret (.bool true))/\OldK s₁.heap s'.heap/\s'.os=s₁.os/\AllBare s'.gens) s₁:=by
 have rv:=jC hi;have Tt:=hi.length;have core:∀H:Hp,Cu H->fR K H a (ns.map V.int)->iL P w H s₁.heap->(∀b,H b≠none->b=a)->(H a≠none->K.lookup a=none) ->
   codeAny (model P w) callerA (.call (.ref fa) ⟨[.ref a],[]⟩) (λr s'=>r=.ok (.ret (.bool true))/\OldK s₁.heap s'.heap/\s'.os=s₁.os/\AllBare s'.gens) s₁:=by
  intro H hO hS hok hA hK;have base_of:∀{b:Addr} {o:Obj},s₁.heap.get? b=some o->H b=none->(tW s₁.heap H).get? b=some o:=λe n=>BZ e n;have noA:∀{b:Addr} {o:Obj} {es:Array DictEntry} {ep:Nat},s₁.heap.get? b=some o->o.data=.dict es ep->H b=none:=λ{b o es ep} e d=>by
   cases q:H b with
   |none=>rfl
   |some u=>have e':b=a:=hA b (by rw[q];simp);subst e';rw[ha]at e;cases e;have d':Data.seq vs.toArray _=Data.dict es ep:=d;cases d'
  have nsK:∀{b:Addr} {m:Str->Option Value},s₁.heap.Ns b m->(tW s₁.heap H).Ns b m:=λ{b m} ⟨o,es,ep,e,d,r⟩=>⟨o,es,ep,base_of e (noA e d),d,r⟩;have VM:K.In (tW s₁.heap H):=λb o e=>base_of (KX b o e) (by
   cases q:H b with
   |none=>rfl
   |some u=>have e':b=a:=hA b (by rw[q];simp);subst e';rw[hK (by rw[q];simp)]at e;cases e)
  have hM:Mod K mg (tW s₁.heap H):=⟨VM,nsK hns,⟨mb,nsK hb,Sh⟩,let ⟨mc,h1,h2⟩:=hlim;⟨mc,nsK h1,h2⟩⟩;have e0:xX P w K mg (tW s₁.heap H) callerA [] s₁ H:=⟨rfl,hM,λb o e=>Fp e,Nat.le_of_eq (Aw _ _),trivial,λb hb=>absurd (show b∈([]:List Addr) from hb) (by simp),hok,.of_eq hg⟩;refine abq ((F _ VM (nsK hns)).run callerA [] s₁ H ⟨[.ref a],[]⟩ [.ref a] [.ref a] _ _ hr e0 (hbind s₁ (.ref a)) #[rfl] (hsp H hO hS)) λr s' h=>?_;cases r with
  |error e=>exact(hCX H e s' h).elim
  |ok fl=>
   cases fl with
   |next=>exact False.elim h
   |brk=>exact False.elim h
   |cont=>exact False.elim h
   |ret u=>
    obtain⟨v,H',os,bare,un,Tu,r',q⟩:=h;have q':v=.bl true:=q;subst q';obtain rfl:u=Value.bool true:=r';refine⟨rfl,OldK.of_keep λb o e=>?_,os,bare⟩;cases q:H b with
    |none=>exact un.keep b o e q (by intro z;exact absurd (show b∈([]:List Addr) from z) (by simp)) (by simp)
    |some u=>
     rcases hO b with z|⟨ob,xs,z⟩
     ·rw[q]at z;cases z
     ·have z2:=un.frzs b ob _ z;obtain⟨e1,_⟩:=hok b _ z;obtain⟨e2,_⟩:=Tu b _ z2;rw[e]at e1;cases e1;exact e2
 cases hk:K.lookup a with
 |some o=>have e:=KX a o hk;rw[ha]at e;cases e;refine core (λ_=>none) (λ_=>.inl rfl) (.inr ⟨_,vs.toArray,_,hk,rfl,rfl,rfl,by rw[aah,Tt];exact hl,by simpa using rv⟩) (λb u z=>by have z':(none:Option HO)=some u:=z;cases z') (λb z=>absurd rfl z) λz=>absurd rfl z
 |none=>
  refine core (λb=>if b=a then some (.rL { cls:=.type "list",data:=.seq vs.toArray } (.lst (ns.map V.int))) else none) (λb=>?_) (.inl (.inr ⟨{ cls:=.type "list",data:=.seq vs.toArray },aae rfl⟩)) (λb u z=>?_) (λb z=>?_) λ_=>hk
  ·by_cases hb:b=a
   ·exact .inr ⟨_,_,aae hb⟩
   ·exact .inl (aac hb)
  ·by_cases hb:b=a
   ·have z':=(aae hb).symm.trans z;cases z';subst hb;exact⟨ha,by rw[Z8];exact hl,vs,_,rv,ha⟩
   ·have z':=(aac hb).symm.trans z;cases z'
  ·by_cases hb:b=a
   ·exact hb
   ·exact absurd (aac hb) z
theorem F9{l:PySem.W.OpenLaw}{n k:Nat}{q:Program}{loose:List Str}{XP:(Str->Option Value)->Heap->Prop}{YP:World->Heap->Prop}{d:DefRec}{K:Params->Frag}{CX:World->xW}{sp:World->Sp}{x:Str}
  (hn:l.most=some n) (hn2:n<=sizeLine) (hdf:d.params.defaults=[]) (hr:dj k callerA)
  (hY:∀(w:World) (h:Heap),YP w h->(K w.params).In h)
  (F:∀(w:World) (mg:Str->Option Value) (fa:Addr) (h:Heap),(K w.params).In h->h.Ns mainGlobals mg->mg d.name=some (.ref fa) ->
   ∃fd:FuncData,(∀(s:Shared) (u:Value),BindsTo s fd ⟨[u],[]⟩ [(x,u)]) /\
    ∀base:Heap,(K w.params).In base->base.Ns mainGlobals mg->dH l.prog w (K w.params) mg base (CX w) k fa fd [x] (sp w))
  (hsp:∀(w:World) (H:Hp) (a:Addr) (ns:List Int),ns.length<=n->Cu H->fR (K w.params) H a (ns.map V.int)->sp w [.ref a] H (λv _=>v=.bl true) λ_ _ _=>False)
  (hCX:∀(w:World) (H:Hp) (s:Shared) (e:Value) (s':Shared),CX w [] H s (λ_ _ _=>False) e s'->False) :
  PySem.W.WalkO q loose XP YP l.row.toRowW d [] (λf vs=>PySem.call f vs):=by
 refine VL.vD hn hdf λw s₀ s₁ mg mb fa o pm cd doc a vs ns G Y ho hd hcd hmg hobj hints hlen hg=>?_;have KX:=hY w _ Y;obtain⟨fd,hb,hF⟩:=F w mg fa _ KX G.T.g hmg;exact Cv KX G.T.g G.T.b G.T.builtins G.T.nolimit hg hobj hints (aaG hlen hn2) hr hF hb (λH hO hS=>hsp w H a ns hlen hO hS) λH e s'=>hCX w H s₁ e s'
def lq(s:Stmt):Arguments:=match s with
 |.FunctionDef _ a _ _ _ _ _ _ _ _=>a
 |_=>{ posonlyargs:=[],args:=[],vararg:=none,kwonlyargs:=[],kw_defaults:=[],kwarg:=none,defaults:=[] }
def aD(s:Stmt):List Stmt:=match s with
 |.FunctionDef _ _ b _ _ _ _ _ _ _=>b
 |_=>[]
def af(s:Stmt):Scope:=match s with
 |.FunctionDef _ _ _ _ _ _ sc _ _ _=>sc
 |_=>{ kind:=.function,names:=[],isGenerator:=false,isCoroutine:=false }
abbrev zg:xW:=λ_ _ _ _ _ _=>False
abbrev E0:XK:=λ_ _ _=>False
theorem zh:Passes zg X E0:=λ_ _ _ _ _ _ _ h=>h.elim
structure Cw (K:Frag) (x qual:Str) (st:Stmt) (f:Addr) (fd:FuncData):Prop where
 ex:∃(oc:Value) (od:Option Addr) (kV doc pm:Value) (an:Option Addr) (cdv ct:Value) (osl:Array (Option Value)),
  fd=fnOf x qual (lq st) (aD st) (af st) .none kV doc pm an cdv ct/\K.lookup f=some ⟨oc,od,.func fd,osl⟩/\codeIn K cdv qual=true
 kp:keepIn K (.ref f)=true
section
variable {P:Program} {w:World} {K:Frag} {mg:Str->Option Value} {base:Heap}
theorem Cw.ok{x qual:Str}{st:Stmt}{f:Addr}{fd:FuncData}{N ps:List Str}{k:Nat}{sp:Sp}(F:Cw K x qual st f fd)(S:kZ N ps (af st))(len:∀vs H Q E,sp vs H Q E->vs.length=ps.length)
  (hbody:∀(cdv:Value) (A:Around) (outer:List Env) (s:Shared) (H:Hp) (vs:List V) (Q:VK) (E:XK),dj k (A.deeper (envOfC qual (af st) s.heap.objs.size f cdv))->sp vs H Q E ->
   ∃t,nM (fS zg P w K mg base N qual (af st) f cdv A outer s H E).Ff (aD st) t/\t { nx:=λ_ H'=>Q .non H',rt:=Q } (start N vs) H):dH P w K mg base zg (k+1) f fd ps sp:=by
 obtain⟨oc,od,kV,doc,pm,an,cdv,ct,osl,rfl,lk,hcd⟩:=F.ex;refine Cn lk hcd S len λA outer s H vs Q E hr hsp=>?_;obtain⟨t,h,q⟩:=hbody cdv A outer s H vs Q E hr hsp;exact⟨t,h.Ff,q⟩
theorem Cw.binds{x qual:Str}{st:Stmt}{f:Addr}{fd:FuncData}{ps:List Str}(F:Cw K x qual st f fd)
  (h:∀(kV doc pm:Value) (an:Option Addr) (cdv ct:Value) (us:List Value),us.length=ps.length->bindArgs (fnOf x qual (lq st) (aD st) (af st) .none kV doc pm an cdv ct) ⟨us,[]⟩=pure (ps.zip us)):Binds K fd ps []:=by
 obtain⟨oc,od,kV,doc,pm,an,cdv,ct,osl,rfl,lk,hcd⟩:=F.ex;exact .all (h kV doc pm an cdv ct)
theorem fun_mk{x qual:Str}{st:Stmt}{f:Addr}{oc:Value}{od an:Option Addr}{osl:Array (Option Value)}{kV doc pm cdv ct:Value}(l:K.lookup f=some ⟨oc,od,.func (fnOf x qual (lq st) (aD st) (af st) .none kV doc pm an cdv ct),osl⟩)
  (c:codeIn K cdv qual=true) (k:keepIn K (.ref f)=true):Cw K x qual st f (fnOf x qual (lq st) (aD st) (af st) .none kV doc pm an cdv ct):=⟨⟨oc,od,kV,doc,pm,an,cdv,ct,osl,rfl,l,c⟩,k⟩
end
section
variable {X:Cx}
theorem pv(i:Nat)(hN:X.N[i]?=some x)(hv:N9 X.env.scope x)(hd:(x==("__debug__":Str))=false)
  (hcd:(x==("__classdict__":Str))=false):PE X (.Name x pos) (B3 i):=gx hN hv hd hcd
theorem AS:bR X (.builtin "len") (λxs H Q=>∃a kvs,xs=[V.ref a]/\H a=some (.dK kvs)/\Q (.int kvs.length) H):=by
 intro pins s σ H xs us Q I r h;obtain⟨a,kvs,rfl,ha,q⟩:=h;obtain⟨u,rfl,ru⟩:=vals1 r;cases ru;exact OP I (.inl ha) λt s' I'=>⟨.int kvs.length,H,I',⟨t,rfl⟩,q⟩
end
def ya(H H':Hp):Prop:=∀b o,H b=some o->H' b=some o
theorem ya.seq{K:Frag}{H H':Hp}{a:Addr}{xs:List V}(e:ya H H')(h:fR K H a xs):fR K H' a xs:=by
 rcases h with (h|⟨o,h⟩)|h
 ·exact .inl (.inl (e _ _ h))
 ·exact .inl (.inr ⟨o,e _ _ h⟩)
 ·exact .inr h
theorem ku(env:Env):∀(names:List (Str×NameKind)) (acc:List (Str×Addr)),(∀y∈names,y.2=.free->∃c,env.cells.lookup y.1=some c) ->
  (∀x c,acc.lookup x=some c->env.cells.lookup x=some c) ->
  ∃cl,(forIn names acc λx r=>if (x.snd==NameKind.free)=true then do let c <-cellOf env x.fst;pure (ForInStep.yield ((x.fst,c)::r)) else pure (ForInStep.yield r))=(pure cl:Sem (List (Str×Addr))) /\
   (∀x c,cl.lookup x=some c->env.cells.lookup x=some c)/\∀x,((x,NameKind.free)∈names\/∃c,acc.lookup x=some c)->∃c,cl.lookup x=some c
 |[],acc,_,ha=>⟨acc,rfl,ha,λx h=>h.elim (λz=>nomatch z) λz=>z⟩
 | (n,k)::r,acc,hn,ha=>by
  have hr:∀y∈r,y.2=NameKind.free->∃c,env.cells.lookup y.1=some c:=λy hy=>hn y (Z6 _ hy)
  by_cases hk:k=.free
  ·subst hk
   obtain⟨c,hc⟩:=hn (n,.free) aad rfl;have ha':∀x d,((n,c)::acc).lookup x=some d->env.cells.lookup x=some d:=λx d h=>by
    rw[lookup_cons]at h;cases e:x==n with
    |true=>rw[e]at h;have e':x=n:=eq_of_beq e;cases h;rw[e'];exact hc
    |false=>rw[e]at h;exact ha x d h
   obtain⟨cl,e1,e2,e3⟩:=ku env r ((n,c)::acc) hr ha';refine⟨cl,?_,e2,λx h=>?_⟩
   ·rw[List.forIn_cons]
    have hco:cellOf env n=pure c:=by unfold cellOf;rw[hc]
    simp only[beq_self_eq_true,if_true,hco];exact e1
   ·by_cases hx:x=n
    ·subst hx;exact e3 x (.inr ⟨c,by simp[lookup_cons]⟩)
    ·rcases h with h|⟨d,h⟩
     ·rcases aal.mp h with z|z
      ·exact absurd (aa3 Prod.fst z) hx
      ·exact e3 x (.inl z)
     ·refine e3 x (.inr ⟨d,?_⟩);rw[lookup_cons];have:(x==n)=false:=aaX.mpr hx;rw[this];exact h
  ·have hb:(k==NameKind.free)=false:=aaX.mpr hk
   obtain⟨cl,e1,e2,e3⟩:=ku env r acc hr ha;refine⟨cl,?_,e2,λx h=>e3 x ?_⟩
   ·rw[List.forIn_cons];simp only[hb,false_eq_true,if_false];exact e1
   ·rcases h with h|h
    ·rcases aal.mp h with z|z
     ·cases z;exact absurd rfl hk
     ·exact .inl z
    ·exact .inr h
theorem pK(h:∀y∈scope.names,y.2=.free->∃c,env.cells.lookup y.1=some c) :
  ∃cl,closureFor scope env=pure cl/\(∀x c,cl.lookup x=some c->env.cells.lookup x=some c)/\∀x,(x,NameKind.free)∈scope.names->∃c,cl.lookup x=some c:=by
 obtain⟨cl,e1,e2,e3⟩:=ku env scope.names [] h (λx c z=>by simp at z);refine⟨cl,?_,e2,λx hx=>e3 x (.inl hx)⟩;unfold closureFor;simp only[bind_pure];exact e1
def bD(X:Cx)(scope:Scope)(N':List Str)(cl:List (Str×Addr))(C:Addr)(s:Shared)(H:Hp)(fp:List Addr):Cx :=
 { prog:=X.prog,w:=X.w,K:=X.K,mg:=X.mg,base:=X.base,A:=X.A,N:=N',s₀:=s,H₀:=H,env:=compEnvC scope cl C X.env,outer:=X.stack,stack:=X.stack,ex:=fp,fn:=λx=>scope.names.lookup x==some .cell,calm:=X.calm,pn:=[],xe:=λ_ _=>False }
def iC(js:List (Option Nat))(σ:St):St:=js.map λo=>match o with
 |none=>none
 | some j=>match σ[j]? with
  |some (some v)=>some v
  |_=>none
def uh(sc:Scope)(x:Str):Bool:=sc.names.lookup x==some .cell||sc.names.lookup x==some .free
def jD(XN:List Str)(xsc scope:Scope)(N':List Str)(js:List (Option Nat)):Bool :=
 scope.kind==.function&&(scope.names.all λy=>y.2 != .local||scope.names.lookup y.1==some .local)&&(scope.names.all λy=>y.2 != .cell||scope.names.lookup y.1==some .cell) &&
 (scope.names.all λy=>y.2 != .free||(uh xsc y.1&&scope.names.lookup y.1==some .free))&&js.length==N'.length &&
 ((N'.zip js).all λp=>match p.2 with|none=>true|some j=>XN[j]?==some p.1&&scope.names.lookup p.1==some .free)
structure um (X:Cx) (scope:Scope) (N':List Str) (js:List (Option Nat)):Prop where
 kind:scope.kind=.function
 names:∀y∈scope.names,y.2=.local->scope.names.lookup y.1=some .local
 cells:∀y∈scope.names,y.2=.cell->scope.names.lookup y.1=some .cell
 free:∀y∈scope.names,y.2=.free->uh X.env.scope y.1=true/\scope.names.lookup y.1=some .free
 len:js.length=N'.length
 src:∀(i:Nat) (x:Str) (j:Nat),N'[i]?=some x->js[i]?=some (some j)->X.N[j]?=some x/\scope.names.lookup x=some .free
theorem rY(h:jD X.N X.env.scope scope N' js=true):um X scope N' js:=by
 unfold jD at h;simp only[and_eq_true,all_eq_true]at h;obtain⟨⟨⟨⟨⟨h1,h2⟩,h3⟩,h4⟩,h5⟩,h6⟩:=h;refine⟨eq_of_beq h1,λy hy e=>?_,λy hy e=>?_,λy hy e=>?_,eq_of_beq h5,λi x j e1 e2=>?_⟩
 ·have:=h2 y hy;rw[e]at this;simpa using this
 ·have:=h3 y hy;rw[e]at this;simpa using this
 ·have:=h4 y hy;rw[e]at this;simpa using this
 ·have hm:(x,some j)∈N'.zip js:=by
   refine ab3.mpr ⟨i,?_⟩;rw[abI];exact⟨e1,e2⟩
  have:=h6 _ hm;simpa using this
theorem kg(js:List (Option Nat))(σ:St):(iC js σ).length=js.length:=by unfold iC;rw[Z8]
def Ga(X:Cx)(ifs:List Expr)(t:TT):Prop :=
 ∀(pins:List (Addr×Obj)) (s:Shared) (σ:St) (H:Hp) (Q:Bool->Hp->Prop),Inv X pins σ H s->t σ H Q ->
  wpAny (model X.prog X.w) X.A (forIn ifs true λc r=>if r=true then do let ok <-isTrue c X.env (eval c X.env);pure (ForInStep.yield ok) else pure (ForInStep.yield r)) (TP X pins σ Q) X.xe s
def vE:TT:=λ_ H Q=>Q true H
theorem Gb:Ga X [] vE:=λ_ _ _ H _ I h=>wpAny_tests_nil ⟨H,I,h⟩
theorem Gd(h:PT X c t):Ga X [c] t:=λpins s σ H Q I hw=>wpAny_tests_one (h pins s σ H Q I hw)
def Cy(wi:TI)(js:List (Option Nat))(g:TG)(tt:TT)(te:TE):TE:=λσ H Q=>wi σ H λJ H1=>∀D,H1 D=none->∃W:Nat->Nat->St->Hp->Prop,(∃m,W 0 m (iC js σ) (upd H1 D (.lst []))) /\
 ∀i m σ' H,W i m σ' H->(J.stop i H/\Q (.ref D) H)\/(J.go i H/\∃N:St->Hp->Prop,(∀BX H',N BX H'->∃m',m'<m/\W (i+1) m' BX H') /\
  ∀x H',J.xP i H x H'->g x σ' H' λσ2 H2=>tt σ2 H2 λb H3=>if b=true then te σ2 H3 λy H4=>∃ys,H4 D=some (.lst ys)/\ys.length<sizeLine/\N σ2 (upd H4 D (.lst (ys++[y]))) else N σ2 H3)
theorem qW
  (h:(relabel scope env).names.lookup x=some .cell\/(relabel scope env).names.lookup x=some .free):(x,NameKind.free)∈scope.names\/(x,NameKind.cell)∈scope.names:=by
 unfold relabel at h;simp only at h;generalize scope.names=ns at h
 induction ns with
 |nil=>simp at h
 |cons p r ih=>
  obtain⟨n,k⟩:=p;simp only[map_cons]at h;cases hx:x==n with
  |true=>
   have e':x=n:=eq_of_beq hx;subst e'
   by_cases hk:k=.free
   ·subst hk;exact .inl aad
   ·have hb:(k==NameKind.free)=false:=aaX.mpr hk
    rw[hb]at h;simp only[Bool.false_and,false_eq_true,if_false,lookup_cons,beq_self_eq_true]at h
    rcases h with h|h
    ·have:=aaq h;subst this;exact .inr aad
    ·exact absurd (aaq h) hk
  |false=>
   refine(ih ?_).imp (Z6 _) (Z6 _)
   by_cases hk:(k==NameKind.free&&env.scope.kind==.function&&env.kindOf n==some .cell)=true
   ·rw[aae hk]at h;simp only[lookup_cons,hx]at h;exact h
   ·rw[aac hk]at h;simp only[lookup_cons,hx]at h;exact h
theorem eY:∀(names:List (Str×NameKind)) (n:Nat) (acc:List (Str×Addr)),cellsFrom n names acc=cellsFrom n names []++acc
 |[],n,acc=>rfl
 | (name,kind)::r,n,acc=>by
  unfold cellsFrom
  split
  ·rw[eY r (n+1) ((name,n)::acc),eY r (n+1) [(name,n)],List.append_assoc];rfl
  ·exact eY r n acc
theorem fW:∀(names:List (Str×NameKind)) (n:Nat) (acc:List (Str×Addr)) (x:Str) (c:Addr),(x,c)∈cellsFrom n names acc->(x,c)∈acc\/(x,NameKind.cell)∈names
 |[],n,acc,x,c,h=>.inl h
 | (name,kind)::r,n,acc,x,c,h=>by
  unfold cellsFrom at h;split at h
  ·rename_i hk
   have hk:kind=.cell:=eq_of_beq hk
   rcases fW r (n+1) _ x c h with z|z
   ·rcases aal.mp z with z|z
    ·cases z;subst hk;exact .inr aad
    ·exact .inl z
   ·exact .inr (Z6 _ z)
  ·exact(fW r n acc x c h).imp id (Z6 _)
theorem vF
  (hq:∀h',h'.Ns s.heap.objs.size (λ_=>none)->(∀b o,s.heap.get? b=some o->h'.get? b=some o)->CellsOk h' (s.heap.objs.size+1) (cellsFrom (s.heap.objs.size+1) scope.names []) ->
   Q (newEnv scope s.heap.objs.size globals (cellsFrom (s.heap.objs.size+1) scope.names []++cl) qual none Value.none (some env) builtinsNs) { s with heap:=h' }) :
  wpAny M A (newFunctionEnv scope globals cl [] qual none .none (some env)) Q E s:=by
 simp only[newFunctionEnv,isSome_some,if_true];refine Z2 (wpAny_alloc ?_);refine Z2 (wpAny_layCells _ (λname kind cells=>by cases hkc:kind==NameKind.cell<;>simp[hkc]) _ _ _ _ ?_);have ok:=cellsFrom_ok scope.names (s.heap.push { cls:=.type "dict",data:=.dict #[] }) (s.heap.objs.size+1) [] ⟨λ_ _ hm=>(nomatch hm),aco⟩ (by rw[aaR];exact aag _);rw[aaR]at ok;rw[show ({ s with heap:=s.heap.push { cls:=.type "dict",data:=.dict #[] } }:Shared).heap.objs.size=s.heap.objs.size+1 from aaR ..,eY];have:=hq _ ((Heap.Ns.new s.heap (.type "dict")).keeps (pushCells_keeps scope.names _)) (λb o e=>pushCells_keeps _ _ b o (Z4 _ e)) ok;simp only[List.forIn_nil];exact Z2 (Z7 (Z7 this))
theorem uo(h:scope.names.lookup x=some .free) :
  (relabel scope env).names.lookup x=some .cell\/(relabel scope env).names.lookup x=some .free:=by
 unfold relabel;simp only;generalize scope.names=ns at h
 induction ns with
 |nil=>simp at h
 |cons p r ih=>
  obtain⟨n,k⟩:=p;simp only[map_cons];cases hx:x==n with
  |true=>
   simp only[lookup_cons,hx]at h;have hk:=aaq h;subst hk
   by_cases hk:(NameKind.free==NameKind.free&&env.scope.kind==.function&&env.kindOf n==some .cell)=true
   ·rw[aae hk];simp[lookup_cons,hx]
   ·rw[aac hk];simp[lookup_cons,hx]
  |false=>
   simp only[lookup_cons,hx]at h
   by_cases hk:(k==NameKind.free&&env.scope.kind==.function&&env.kindOf n==some .cell)=true
   ·rw[aae hk];simp only[lookup_cons,hx];exact ih h
   ·rw[aac hk];simp only[lookup_cons,hx];exact ih h
section
variable {X:Cx} {pins:List (Addr×Obj)} {σ:St} {scope:Scope} {N':List Str} {js:List (Option Nat)}
theorem pL(ok:um X scope N' js)(xo:X.Ok):∀y∈scope.names,y.2=.free->∃c,X.env.cells.lookup y.1=some c:=λy hy e=>by
 have:=(ok.free y hy e).1;unfold uh at this;rw[or_eq_true]at this;refine xo.has y.1 ?_
 rcases this with z|z
 ·exact .inl (eq_of_beq z)
 ·exact .inr (eq_of_beq z)
theorem yb{tk:Nat}(ok:um X scope N' js)(I:Inv X pins σ H s)
  (mV:∀x c,cl.lookup x=some c->(X.env.cells.lookup x=some c/\scope.names.lookup x≠some .cell)\/(s.heap.objs.size<c/\h'.IsCell c none/\scope.names.lookup x=some .cell)) (hap:∀x y c,cl.lookup x=some c->cl.lookup y=some c->s.heap.objs.size<c->x=y) (hcl2:∀x,(x,NameKind.free)∈scope.names\/(x,NameKind.cell)∈scope.names->∃c,cl.lookup x=some c)
  (hfp:∀b∈fp,oA X pins H b) (hlt:∀b∈fp,b<s.heap.objs.size)
  (hns:h'.Ns s.heap.objs.size (λ_=>none)) (hk:∀b o,s.heap.get? b=some o->h'.get? b=some o) :
  Inv (bD X scope N' cl s.heap.objs.size s H fp) [] (iC js σ) H { s with heap:=h',toks:=tk }:=by
 have hCf:H s.heap.objs.size=none:=I.hok.fresh (aag _);refine⟨⟨I.ok.mod,ok.kind,I.ok.glob,I.ok.blt,aag _,λx y c e1 e2=>?_,λx hx=>hcl2 x (qW hx),λx c hf e=>?_,I.ok.hd,I.ok.frames,.inl rfl,
   λb hb=>⟨aaj (hlt b hb),λx c e z=>?_⟩,I.bs,aaG I.ok.Ft I.sz,λb o e hb=>?_,λb hb hs=>?_,I.stack,I.kW⟩,rfl,I.bare,Un.kept hk,⟨_,hns,λi x v e1 e2 e3=>?_⟩,λx c e=>?_,hCf,λx c e=>?_,
   λp hp=>absurd (show p∈([]:List (Addr×Obj)) from hp) (by simp),I.hok.kept hk,?_⟩
 ·rcases mV x c e1 with z|z
  ·rcases mV y c e2 with w|w
   ·exact I.ok.inj x y c z.1 w.1
   ·obtain⟨v,q⟩:=I.cell x c z.1;exact absurd (abY q.lt w.1) (aaH _)
  ·exact hap x y c e1 e2 z.1
 ·rcases mV x c e with z|z
  ·exact absurd (eq_of_beq hf) z.2
  ·exact abb z.1
 ·rcases mV x c e with w|w
  ·exact(hfp b hb).2.2.2.2.1 x c w.1 z
  ·have:=hlt b hb;rw[<-z]at this;exact absurd (abY this w.1) (aaH _)
 ·rcases(hfp b hb).2.2.2.1 with z|z
  ·exact I.ok.Ax b o e z
  ·exact absurd (aai (aaf (I.ok.bs b o e).1) z) (aaH _)
 ·rcases aal.mp (I.xO b hs) with z|z
  ·exact(hfp b hb).2.1 z
  ·exact(hfp b hb).2.2.1 z
 ·-- a name Xc has a value: one of the def around
  have Fi:(iC js σ)[i]?=some (some v):=e2;unfold iC at Fi;rw[aay] at Fi;cases hj:js[i]? with
  |none=>rw[hj] at Fi;cases Fi
  |some o=>
   rw[hj] at Fi;cases o with
   |none=>simp at Fi
   |some j=>
    obtain⟨hN,hf⟩:=ok.src i x j e1 hj;cases hs:σ[j]? with
    |none=>simp[hs] at Fi
    |some ov=>
     cases ov with
     |none=>simp[hs] at Fi
     |some v'=>
      simp[hs] at Fi;subst Fi;have hfr:=(ok.free (x,.free) (aaO hf) rfl).1;unfold uh at hfr;rw[or_eq_true]at hfr;have OS:X.env.scope.names.lookup x=some .cell\/X.env.scope.names.lookup x=some .free:=hfr.imp eq_of_beq eq_of_beq;obtain⟨m,_,hl⟩:=I.loc;obtain⟨u,r,l⟩:=hl j x v' hN hs (.inr OS);refine⟨u,r,.inr ⟨uo hf,?_⟩⟩
      rcases l with ⟨k,_⟩|⟨_,c,e,z⟩
      ·have k':X.env.scope.names.lookup x=some .local:=k
       rcases OS with q|q<;>(rw[q]at k';cases k')
      ·obtain⟨d,hd⟩:=hcl2 x (.inl (aaO hf))
       rcases mV x d hd with e'|e'
       ·have e':=e'.1;rw[e]at e';cases e';obtain⟨oc,hoc,B0⟩:=z;exact⟨c,hd,oc,hk _ _ hoc,B0⟩
       ·rw[hf]at e';cases e'.2.2
 ·rcases mV x c e with z|z
  ·obtain⟨v,oc,hoc,B0⟩:=I.cell x c z.1;exact⟨v,oc,hk _ _ hoc,B0⟩
  ·exact⟨_,z.2.1⟩
 ·rcases mV x c e with z|z
  ·exact I.fQ x c z.1
  ·exact I.hok.fresh (abb z.1)
 ·rw[kg];exact ok.len
theorem AU(I:Inv X pins σ H s)(hfp:∀b∈fp,oA X pins H b)
  (J:Inv (bD X scope N' cl C s H fp) [] σ' H' s'):Inv X pins σ H' s' :=
 I.Jd (ch:=fp) J.os J.base J.hok J.bare λb hb=>⟨(hfp b hb).2.2.2.1,(hfp b hb).2.1,(hfp b hb).2.2.2.2.1,(hfp b hb).2.2.2.2.2⟩
end
section
variable {X:Cx} {scope:Scope} {N':List Str} {js:List (Option Nat)} {tg elt iter:Expr} {ifs:List Expr} {pos:Pos} {wi:TI} {g:TG} {tt:TT} {te:TE}
theorem vG{pins:List (Addr×Obj)}{σ:St}{H2:Hp}{s2:Shared}{it:Addr}{fp:List Addr}{tn:Nat->Heap->Prop}{J:It}{cl:List (Str×Addr)}{E:Value->Shared->Prop}{RR:Value->Addr->Result->Shared->Prop}{Q:VK}
  (ok:um X scope N' js) (hc:X.calm=true) (I2:Inv X pins σ H2 s2) (T:Turn X.prog X.w X.K tg J fp it tn) (st2:tn 0 s2.heap) (f2:∀b∈fp,oA X pins H2 b)
  (mV:∀x c,cl.lookup x=some c->X.env.cells.lookup x=some c) (hcl2:∀x,(x,NameKind.free)∈scope.names->∃c,cl.lookup x=some c)
  (hg:∀cl C s H fp,PG (bD X scope N' cl C s H fp) tg g) (ht:∀cl C s H fp,Ga (bD X scope N' cl C s H fp) ifs tt) (he:∀cl C s H fp,PE (bD X scope N' cl C s H fp) elt te)
  (rd:∀D,H2 D=none->∃W:Nat->Nat->St->Hp->Prop,(∃m,W 0 m (iC js σ) (upd H2 D (.lst []))) /\
   ∀i m σ' H,W i m σ' H->(J.stop i H/\Q (.ref D) H)\/(J.go i H/\∃N:St->Hp->Prop,(∀BX H',N BX H'->∃m',m'<m/\W (i+1) m' BX H') /\
    ∀x H',J.xP i H x H'->g x σ' H' λσ2 H2=>tt σ2 H2 λb H3=>if b=true then te σ2 H3 λy H4=>∃ys,H4 D=some (.lst ys)/\ys.length<sizeLine/\N σ2 (upd H4 D (.lst (ys++[y]))) else N σ2 H3))
  (hRR:∀(D C:Addr) (s':Shared) (H':Hp) (m:Str->Option Value),s2.heap.objs.size<=C->Inv X pins σ H' s'->H' C=none->s'.heap.Ns C m->Q (.ref D) H'->RR (.ref D) C (.ok .next) s') :
  wpAny (model X.prog X.w) X.A (newList []) (λacc s₃=>wpAny (model X.prog X.w) X.A (newFunctionEnv scope X.env.globals cl [] X.env.qual none .none (some X.env)) (λcenv s₄=>
   codeAny (model X.prog X.w) X.A (.compStart (.ListComp elt [⟨tg,iter,ifs,0⟩] scope pos) 0 (.ref it) acc { cenv with scope:=relabel scope X.env }) (RR acc cenv.locals) s₄) E s₃) E s2:=by
 have hD:H2 s2.heap.objs.size=none:=I2.hok.fresh (aag _);refine aaF (vF λh₁ OT VN Ge=>?_);dsimp only at OT VN Ge |-;have I3:Inv X pins σ (upd H2 s2.heap.objs.size (.lst [])) { s2 with heap:=s2.heap.push { cls:=.type "list",dict:=none,data:=.seq ([]:List Value).toArray },toks:=s2.toks } :=
  I2.laid (t':=s2.toks) (λb u e=>Z4 _ e) (aag _) ⟨by simp,[],0,.nil,aam _ rfl⟩
 generalize OU:({ s2 with heap:=s2.heap.push { cls:=.type "list",dict:=none,data:=.seq ([]:List Value).toArray },toks:=s2.toks }:Shared)=s3 at I3;have hsz:s3.heap.objs.size=s2.heap.objs.size+1:=by rw[<-OU];exact aaR ..
 have eC:(s2.heap.push { cls:=.type "list",dict:=none,data:=.seq ([]:List Value).toArray }).objs.size=s3.heap.objs.size:=by rw[<-OU]
 have f3:∀b∈fp,oA X pins (upd H2 s2.heap.objs.size (.lst [])) b:=λb hb=>by
  obtain⟨o,e,_⟩:=T.obj _ _ st2 b hb;refine⟨?_,(f2 b hb).2⟩;rw[ao (aaj (aaf e))];exact(f2 b hb).1
 have hlt:∀b∈fp,b<s3.heap.objs.size:=λb hb=>by
  obtain⟨o,e,_⟩:=T.obj _ _ st2 b hb;have hb2:b<s2.heap.objs.size:=aaf e;rw[hsz];exact aa4 hb2
 have keep:∀b o,s3.heap.get? b=some o->h₁.get? b=some o:=λb o e=>by
  have e':(s2.heap.push { cls:=.type "list",dict:=none,data:=.seq ([]:List Value).toArray }).get? b=some o:=by rw[<-OU]at e;exact e
  exact VN b o e'
 rw[eC] at Ge |-;obtain⟨cc,hcc⟩:∃cc,cc=cellsFrom (s3.heap.objs.size+1) scope.names []++cl:=⟨_,rfl⟩;rw[<-hcc];have lk:∀x c,cc.lookup x=some c->(X.env.cells.lookup x=some c/\scope.names.lookup x≠some .cell)\/(s3.heap.objs.size<c/\h₁.IsCell c none/\scope.names.lookup x=some .cell/\(x,c)∈cellsFrom (s3.heap.objs.size+1) scope.names []):=λx c e=>by
  rw[hcc,List.lookup_append]at e;cases ho:(cellsFrom (s3.heap.objs.size+1) scope.names []).lookup x with
  |some c'=>
   rw[ho]at e;have e:c'=c:=aaq e;subst e;have hm:=aaO ho;obtain⟨z1,z2⟩:=Ge.empty x c' hm;refine .inr ⟨z2,z1,?_,hm⟩
   rcases fW _ _ _ x c' hm with z|z
   ·cases z
   ·exact ok.cells _ z rfl
  |none=>rw[ho]at e;refine .inl ⟨mV x c e,λz=>?_⟩;have:=abr scope.names (s3.heap.objs.size+1) [] (.inl z);rw[ho]at this;cases this
 have I4:=yb (tk:=s2.toks) ok I3 (λx c e=>(lk x c e).imp id λz=>⟨z.1,z.2.1,z.2.2.1⟩) (λx y c e1 e2 hlt'=>by
  have own:∀x,cc.lookup x=some c->(x,c)∈cellsFrom (s3.heap.objs.size+1) scope.names []:=λx e=>by
   rcases lk x c e with z|z
   ·obtain⟨v,q⟩:=I3.cell x c z.1;exact absurd (abY q.lt hlt') (aaH _)
   ·exact z.2.2.2
  exact PySem.name_of_addr Ge.apart (own x e1) (own y e2)) (λx hx=>by
  rw[hcc,List.lookup_append];cases ho:(cellsFrom (s3.heap.objs.size+1) scope.names []).lookup x with
  |some c'=>exact⟨c',rfl⟩
  |none=>
   rcases hx with hx|hx
   ·exact hcl2 x hx
   ·have:=abr scope.names (s3.heap.objs.size+1) [] (.inl (ok.cells _ hx rfl));rw[ho]at this;cases this) f3 hlt (h':=h₁) (by rw[<-eC];exact OT) keep
 have VO:tn 0 h₁:=T.keep _ _ _ st2 λb hb o e=>keep b o (by rw[<-OU];exact Z4 _ e);obtain⟨W,⟨m0,w0⟩,turn⟩:=rd _ hD;have stat:∀{H':Hp},(∀b∈fp,H' b=none)->∀b∈fp,oA (bD X scope N' cc s3.heap.objs.size s3 (upd H2 s2.heap.objs.size (.lst [])) fp) [] H' b:=λ{H'} hn b hb=>
  ⟨hn b hb,aaj (hlt b hb),I4.ok.Ay b hb,.inl hb,(I4.ok.R5 b hb).2,λp hp=>absurd (show p∈([]:List (Addr×Obj)) from hp) (by simp)⟩
 have Xd:∀tk,({ s2 with heap:=h₁,toks:=tk }:Shared)={ s3 with heap:=h₁,toks:=tk }:=λtk=>by rw[<-OU]
 have loop:codeAny (model X.prog X.w) X.A (.compLoop (.ListComp elt [⟨tg,iter,ifs,0⟩] scope pos) 0 (.ref it) (.ref s2.heap.objs.size) (compEnvC scope cc s3.heap.objs.size X.env)) (RR (.ref s2.heap.objs.size) s3.heap.objs.size)
   { s3 with heap:=h₁,toks:=s2.toks }:=by
  refine codeAny_loop rfl (λn s'=>∃i σ' H',Inv (bD X scope N' cc s3.heap.objs.size s3 (upd H2 s2.heap.objs.size (.lst [])) fp) [] σ' H' s'/\tn i s'.heap/\(∀b∈fp,H' b=none)/\W i n σ' H') ?_ m0 ⟨0,_,_,I4,VO,λb hb=>(f3 b hb).1,w0⟩;rintro n s5 ⟨i,σ5,H5,I5,NU,R9,w5⟩;show wpAny _ X.A ((compTurn (.ListComp elt [⟨tg,iter,ifs,0⟩] scope pos) 0 (.ref it) (.ref s2.heap.objs.size) (compEnvC scope cc s3.heap.objs.size X.env)).onRaise (λx=>do noteFrame x (compEnvC scope cc s3.heap.objs.size X.env);theTreesLotGoes x)) _ _ s5;refine wpAny_noted ?_;rw[compTurn_list];refine Z2 (abc (Z2 ?_))
  rcases turn i n σ5 H5 w5 with ⟨stop,qn⟩|⟨go,N,hN,step⟩
  ·refine aaB (T.done (bD X scope N' cc s3.heap.objs.size s3 (upd H2 s2.heap.objs.size (.lst [])) fp) rfl rfl rfl hc i [] s5 σ5 H5 (λ_ _=>False) I5 (stat R9) NU stop) (λr s6 ⟨hr,I6⟩=>?_) λ_ _ z=>z.elim;subst hr;refine Z7 ?_;obtain⟨m,hm,_⟩:=id I6.loc;exact hRR _ _ s6 H5 m (by rw[hsz];exact aaQ _) (AU I3 f3 I6) I6.free hm qn
  ·refine aaB (T.item (bD X scope N' cc s3.heap.objs.size s3 (upd H2 s2.heap.objs.size (.lst [])) fp) rfl rfl rfl hc i [] s5 σ5 H5 (λ_ _=>False) I5 (stat R9) NU go) (λr s6 ⟨u,hr,h6⟩=>?_) λ_ _ z=>z.elim
   subst hr;refine Z2 (aaB h6 (λ_ s7 ⟨x,H7,I7,r7,y7,Tv,Xe⟩=>?_) λ_ _ z=>z.elim);have Xf:=I7.pinned (stat Xe) (T.obj _ _ Tv);refine Z2 (aaB (hg _ _ _ _ _ _ s7 σ5 H7 x u _ Xf r7 (step x H7 y7)) (λ_ s8 ⟨σ8,H8,I8,q8⟩=>?_) λ_ _ z=>z.elim);refine Z2 (aaB (ht _ _ _ _ _ _ s8 σ8 H8 _ I8 q8) (λb s9 ⟨H9,I9,q9⟩=>?_) λ_ _ z=>z.elim);have Cz:∀{sA:Shared} {σA:St} {HA:Hp},Inv (bD X scope N' cc s3.heap.objs.size s3 (upd H2 s2.heap.objs.size (.lst [])) fp) ([]++pA fp s7.heap) σA HA sA->N σA HA ->
     ∃m,m<n/\∃i σ' H',Inv (bD X scope N' cc s3.heap.objs.size s3 (upd H2 s2.heap.objs.size (.lst [])) fp) [] σ' H' sA/\tn i sA.heap/\(∀b∈fp,H' b=none)/\W i m σ' H':=λ{sA σA HA} IA nA=>by
    obtain⟨m',hm,wA⟩:=hN σA HA nA;refine⟨m',hm,i+1,σA,HA,IA.kX,T.keep _ _ _ Tv λb hb o e=>(IA.pin (b,o) (aaz _ (aaz _ (iz hb e)))).1,λb hb=>?_,wA⟩;obtain⟨o,e,d⟩:=T.obj _ _ Tv b hb;exact(IA.pin (b,o) (aaz _ (aaz _ (iz hb e)))).2.1
   cases b with
   |false=>exact Z7 ⟨rfl,Cz I9 (by simpa using q9)⟩
   |true=>rw[aae rfl]at q9;refine Z2 (Z2 (aaB (he _ _ _ _ _ _ s9 σ8 H9 _ I9 q9) (λv sB ⟨y,HB,IB,rB,ys,hys,hlen,nB⟩=>?_) λ_ _ z=>z.elim));refine Z2 (aaB (rT (X:=bD X scope N' cc s3.heap.objs.size s3 (upd H2 s2.heap.objs.size (.lst [])) fp) _ sB σ8 HB (.ref s2.heap.objs.size) [y] _ [v] (λ_ HC=>HC=upd HB s2.heap.objs.size (.lst (ys++[y]))) IB rfl #[rB] ⟨_,ys,y,rfl,rfl,hys,hlen,rfl⟩) (λv' sC ⟨_,HC,IC,_,Xg⟩=>?_) λ_ _ z=>z.elim);subst Xg;exact Z7 (Z7 ⟨rfl,Cz IC nB⟩)
 rw[Xd];have Tw:({ newEnv scope s3.heap.objs.size X.env.globals cc X.env.qual none Value.none (some X.env) builtinsNs with scope:=relabel scope X.env }:Env)=compEnvC scope cc s3.heap.objs.size X.env:=by rfl
 have Tz:(newEnv scope s3.heap.objs.size X.env.globals cc X.env.qual none Value.none (some X.env) builtinsNs).locals=s3.heap.objs.size:=by rfl
 rw[Tw,Tz];exact codeAny_compStart_list loop (T.self _ _ _ _ _ VO loop)
theorem Gf(hok:jD X.N X.env.scope scope N' js=true)(hc:X.calm=true)(hi:PI X tg iter wi)(hg:∀cl C s H fp,PG (bD X scope N' cl C s H fp) tg g)
  (ht:∀cl C s H fp,Ga (bD X scope N' cl C s H fp) ifs tt) (he:∀cl C s H fp,PE (bD X scope N' cl C s H fp) elt te)
  (hs:∀x,foldedSetIterable iter X.env x=pure x):PE X (.ListComp elt [⟨tg,iter,ifs,0⟩] scope pos) (Cy wi js g tt te):=by
 intro pins s σ H Q I h;have ok:=rY hok;obtain⟨cl,TF,mV,hcl2⟩:=pK (pL ok I.ok);rw[eval_ListComp];refine wpAny_comprehension_free (use:=none) rfl hs TF ok.kind ok.names (cy (hi pins s σ H _ I h) λxv s1 h1=>cy h1 λitv s2 h2=>?_);obtain⟨it,fp,tn,J,H2,rfl,I2,T,st2,f2,rd⟩:=h2;refine vG (RR:=λacc C=>compPost (model X.prog X.w) X.A X.xe none (EP X pins σ Q) acc C) ok hc I2 T st2 f2 mV hcl2 hg ht he rd ?_;intro D C s' H' m hC J' fC hm q;refine⟨m,hm,λh' hs'=>⟨.ref D,H',?_,rfl,q⟩⟩;refine J'.turned (t':=s'.toks) (λb o hb e=>hs'.extBut b o hb e) fC (abp (aai I2.lt hC)) (.inr (aaG I2.sz hC)) (λx c e z=>?_) λp hp z=>?_
 ·obtain⟨v,q'⟩:=I2.cell x c e;exact absurd (aai q'.lt (by rw[z];exact hC)) (aaH _)
 ·exact absurd (aai (aaf (I2.pin p hp).1) (by rw[z];exact hC)) (aaH _)
theorem Gg{i:Nat}(hN:X.N.Nodup)(hx:X.N[i]?=some x)(hl:Loc X.env.scope x)(hok:jD X.N X.env.scope scope N' js=true)(hc:X.calm=true)(hi:PI X tg iter wi)(hg:∀cl C s H fp,PG (bD X scope N' cl C s H fp) tg g)
  (ht:∀cl C s H fp,Ga (bD X scope N' cl C s H fp) ifs tt) (he:∀cl C s H fp,PE (bD X scope N' cl C s H fp) elt te)
  (hsw:swapsWith (.ListComp elt [⟨tg,iter,ifs,0⟩] scope pos) (some (.Name x pos')) spos.line X.env=pure true)
  (hf:X.fn x=true\/X.env.scope.names.lookup x=some .local)
  (hs:∀x,foldedSetIterable iter X.env x=pure x):PS X (.Assign [.Name x pos'] (.ListComp elt [⟨tg,iter,ifs,0⟩] scope pos) spos) (FA (Cy wi js g tt te) (nN i)):=by
 intro pins s σ H D I h;have ok:=rY hok;obtain⟨cl,TF,mV,hcl2⟩:=pK (pL ok I.ok);rw[exec_Assign_Name_used _ _ _ _ hsw];refine Z2 (abc (Z2 ?_));show wpAny _ X.A (do let _ <-comprehension (.ListComp elt [⟨tg,iter,ifs,0⟩] scope pos) scope X.env _ (newList []) false (eval iter X.env) (some (assign (.Name x pos') X.env))) _ _ s;refine Z2 (aaB (wpAny_comprehension_free (use:=some (assign (.Name x pos') X.env)) (Q:=λ_ s'=>SP X pins D .next s') rfl hs TF ok.kind ok.names
  (cy (hi pins s σ H _ I h) λxv s1 h1=>cy h1 λitv s2 h2=>?_)) (λ_ s' hq=>Z7 (Z7 hq)) λ_ _ e=>e)
 obtain⟨it,fp,tn,J,H2,rfl,I2,T,st2,f2,rd⟩:=h2;refine vG (RR:=λacc C=>compPost (model X.prog X.w) X.A X.xe (some (assign (.Name x pos') X.env)) (λ_ s'=>SP X pins D .next s') acc C) (Q:=λx H1=>nN i x σ H1 D.nx) ok hc I2 T st2 f2 mV hcl2 hg ht he rd ?_;intro E C s' H' m hC J' fC hm q;have VP:C≠X.env.locals:=abp (aai I2.lt hC);have hCc:∀x c,X.env.cells.lookup x=some c->c≠C:=λx c e z=>by
  obtain⟨v,q'⟩:=I2.cell x c e;exact absurd (aai q'.lt (by rw[z];exact hC)) (aaH _)
 refine cy (show wpAny _ X.A (assign (.Name x pos') X.env (.ref E)) (λ_ s''=>(∃BX KL,Inv X pins BX KL s''/\D.nx BX KL/\KL C=none)/\∃m,s''.heap.Ns C m) X.xe s' from ?_) λ_ s'' ⟨⟨BX,KL,TH,Xh,TJ⟩,Xi,KN⟩=>?_
 ·refine wpAny_assign_Name (rM J' hN hx hl (show RelV (.ref E) (.ref E) from rfl) (λs'' TH ⟨a,Xj,ha⟩=>⟨⟨_,H',TH,q,fC⟩,m,?_⟩) hf)
  refine hm.sameBut Xj ?_
  rcases ha with z|z
  ·rw[z];exact VP
  ·exact λw=>hCc _ _ z w.symm
 ·refine⟨Xi,KN,λh' hs'=>⟨BX,KL,?_,Xh⟩⟩;refine TH.turned (t':=s''.toks) (λb o hb e=>hs'.extBut b o hb e) TJ VP (.inr (aaG I2.sz hC)) hCc λp hp z=>?_;exact absurd (aai (aaf (I2.pin p hp).1) (by rw[z];exact hC)) (aaH _)
end
theorem Inv.zj{X:Cx}{pins:List (Addr×Obj)}{σ:St}{H:Hp}{s:Shared}{h':Heap}{t':Nat}{ch:List Addr}(I:Inv X pins σ H s)(hf:∀b∈ch,oA X pins H b)
  (k:∀b o,b∉ch->s.heap.get? b=some o->h'.get? b=some o):Inv X pins σ H { s with heap:=h',toks:=t' }:=by
 have Od:∀b u,H b=some u->b∉ch:=λb u e z=>by rw[(hf b z).1]at e;cases e
 refine I.step (g':=s.gens) (d':=s.drawn) (ch:=ch) (λb hb=>?_) (λb o _ _ hc e _=>k b o hc e) (λb o _ _ hc e _=>⟨o.slots,k b o hc e⟩) (λ_ _ _ _ n=>n)
  (λb o hc e=>⟨o,k b o hc e⟩) (λ_ _ e=>e) (λ_ _ _ e=>e) (λb ps e=>⟨#[],by rw[e];simp⟩) (λm hm=>?_) (λb u e=>?_) I.bare
 ·exact⟨(hf b hb).2.2.2.1,(hf b hb).2.1,(hf b hb).2.2.2.2.1,(hf b hb).2.2.2.2.2⟩
 ·obtain⟨o,es,ep,ho,r⟩:=hm;exact⟨o,es,ep,k _ o (λz=>(hf _ z).2.1 rfl) ho,r⟩
 ·refine(I.hok b u e).stay (λc v hc q=>k c v ?_ q) (λ_ q=>q) λ_ _ q=>q
  rcases hc with z|z
  ·rw[z];exact Od b u e
  ·exact Od c _ z
def OV(K:Frag)(a:Addr):It :=
 ⟨λi H=>∃xs x,fR K H a xs/\xs[i]?=some x,λi H x H'=>∃p v,H p=none/\x=.ref p/\H'=upd H p (.tup [.int i,v])/\∀xs,fR K H a xs->xs[i]?=some v,λi H=>∃xs,fR K H a xs/\xs.length<=i⟩
theorem AV{P:Program}{w:World}{K:Frag}{es:List Expr}{k:Nat}{pos:Pos}(a e it:Addr)(hne:e≠it) :
  Turn P w K (.Tuple es k pos) (OV K a) [e,it] e (λi h=>(∃old,IsEnum h e it i old)/\h.IsListIter it a i) where
 mem:=by simp
 obj:=λi h st b hb=>by
  obtain⟨⟨old,he⟩,⟨o,e2,c,d⟩⟩:=st
  rcases aal.mp hb with z|z
  ·subst z;exact⟨_,he,λv z=>nomatch z⟩
  ·rw[aau.mp z];exact⟨o,e2,λv z=>by rw[d]at z;cases z⟩
 keep:=λi h h' st k=>⟨let ⟨old,he⟩:=st.1;⟨old,k e (by simp) _ he⟩,st.2.at λo e=>k it (by simp) o e⟩
 item:=by
  intro X hP hw hK hc i pins s σ H E I hf st hg;subst hP hw hK;obtain⟨xs,x,hq,hx⟩:=hg;obtain⟨its,rv,p,hz⟩:=I.list hq;obtain⟨u,hu,ru⟩:=rv.get hx;obtain⟨⟨old,he⟩,hit⟩:=st;have hei:e<s.heap.objs.size:=aaf he;have Xk:it<s.heap.objs.size:=by obtain⟨_,y,_⟩:=hit;exact aaf y
  refine wpAny_pyNext_enum_item he hit p.isList (x:=u) (by simpa using hu) hne λh' ho TL hT hsz hk=>?_;refine⟨_,rfl,?_⟩;refine wpAny_letOwnedTupleGo_enum ho λh2 Xl hs2=>?_;have hT2:h2.get? s.heap.objs.size=some { cls:=.type "tuple",data:=.seq [.int i s.toks,u].toArray }:=hs2.extBut _ _ (abp hei) hT;have I1:Inv X pins σ H { s with heap:=h2,toks:=s.toks+1 }:=I.zj (ch:=[e,it]) hf λb o hb q=>by
   have h1:b≠e:=λz=>hb (by simp[z]);have h2:b≠it:=λz=>hb (by simp[z]);exact hs2.extBut b o h1 (hk b o h1 h2 q)
  have hn:H s.heap.objs.size=none:=I.hok.fresh (aag _);have I2:Inv X pins σ (upd H s.heap.objs.size (.tup [.int i,x])) { s with heap:=h2,toks:=s.toks+1 }:=by
   have un:Un X.fs [] H (upd H s.heap.objs.size (.tup [.int i,x])) s.heap s.heap:=Un.laid (λb u q=>q) (aag _) hn;refine⟨I1.ok,I1.os,I1.bare,?_,I1.loc,I1.cell,?_,λy c q=>?_,λp hp=>?_,λb o q=>?_,I1.len⟩
   ·refine⟨I1.base.keep,I1.base.slot,λb o q n hx=>?_,I1.base.there,λb ys q=>?_,λb o ys q=>?_,λb ps q=>?_⟩
    ·have hlt:b<s.heap.objs.size:=aai (aaf q) I.sz;rw[ao (aaj hlt)];exact I1.base.free b o q n hx
    ·rw[ao (aC (I1.base.tups b ys q) hn)];exact I1.base.tups b ys q
    ·rw[ao (aC (I1.base.frzs b o ys q) hn)];exact I1.base.frzs b o ys q
    ·obtain⟨more,z⟩:=I1.base.kU b ps q;exact⟨more,by rw[ao (aC z hn)];exact z⟩
   ·rw[ao (aaj I.lt)];exact I1.free
   ·obtain⟨v,z⟩:=I.cell y c q;rw[ao (aaj z.lt)];exact I1.fQ y c q
   ·obtain⟨q1,q2,q3⟩:=I1.pin p hp;refine⟨q1,?_,q3⟩;rw[ao (aaj (aaf (I.pin p hp).1))];exact q2
   ·by_cases hb:b=s.heap.objs.size
    ·subst hb;rw[au]at q;cases q;exact⟨by show 2<=sizeLine;decide,[.int i s.toks,u],.cons ⟨_,rfl⟩ #[ru],_,hT2,rfl,_,rfl⟩
    ·rw[ao hb]at q;exact(I1.hok b o q).stay (λc v _ z=>z) (λc z=>by rw[ao (aC z hn)];exact z) λc ys z=>by rw[ao (aC z hn)];exact z
  refine⟨.ref s.heap.objs.size,_,I2,rfl,⟨s.heap.objs.size,x,hn,rfl,rfl,λys hy=>by rw[I.vj hy hq];exact hx⟩,⟨⟨_,by simpa using Xl⟩,?_⟩,λb hb=>?_⟩
  ·exact TL.at λo y=>(hs2.2 it hne.symm).trans y
  ·have hlt:b<s.heap.objs.size:=by
    rcases aal.mp hb with z|z
    ·rw[z];exact hei
    ·rw[aau.mp z];exact Xk
   rw[ao (aaj hlt)];exact(hf b hb).1
 done:=by intro X hP hw hK hc i pins s σ H E I hf st hg;subst hP hw hK;obtain⟨xs,hq,hx⟩:=hg;obtain⟨its,rv,p,hz⟩:=I.list hq;obtain⟨⟨old,he⟩,hit⟩:=st;have hl:=rv.length;exact wpAny_pyNext_enum_end (I.ok.hd hc) he hit p.isList (by simp;omega) λh' eb=>⟨rfl,I.zj (t':=s.toks) (ch:=[e,it]) hf λb o hb q=>eb b o (λz=>hb (by simp[z])) q⟩
 self:=λ_ _ _ _ _ st h=>let ⟨_,he⟩:=st.1;wpAny_pyIter_enum he h
def OW(K:Frag)(ta:TA):TI:=λσ H R=>ta σ H λvs H1=>∃a,vs=[.ref a]/\(∃xs,fR K H1 a xs)/\R (OV K a) H1
theorem Gh{k:Nat}(hg:Gl X "enumerate")(hm:X.mg "enumerate" = none)(ha:PA X [a] ta)(hs:starEach [a] X.env=[(false,eval a X.env)]) :
  PI X (.Tuple es k tpos) (.Call (.Name "enumerate" p) [a] [] pos) (OW X.K ta):=by
 intro pins s σ H R I h;refine Call_ (iR I hg hm boot_enumerate (aaU (cy (ha pos pins s σ H _ I h) λus s1 aN=>?_) hs rfl));obtain⟨vs,H1,I1,r1,q1⟩:=aN;obtain⟨l,e,⟨xs,hq⟩,q⟩:=q1;subst e;cases r1 with
 |cons r rr=>
  cases rr;cases r;obtain⟨its,rv,pl,hz⟩:=I1.list hq;refine call_enumerate_list pl.isList λh' he hit hsz hk=>?_;have I2:Inv X pins σ H1 { s1 with heap:=h' }:=I1.kept (t':=s1.toks) hk;refine wpAny_pyIter_enum (s:={ s1 with heap:=h' }) he ?_;refine⟨_,[s1.heap.objs.size+1,s1.heap.objs.size],_,_,H1,rfl,I2,AV l _ _ (abp (aaT _)),⟨⟨_,by simpa using he⟩,hit⟩,λb hb=>?_,q⟩;have hb':s1.heap.objs.size<=b:=by
   rcases aal.mp hb with z|z
   ·rw[z];exact aaQ _
   ·rw[aau.mp z];exact aag _
  exact I1.FD hb' (I1.hok.fresh hb')
end L2
end
section
namespace L2
open PySem PySem.W PyProof.Rows
namespace qX
section
variable {O:KeyOrd} {key:Nat->O.α} {N:Nat} {cmp:Nat->Nat->(Bool->Shared->Prop)->Shared->Prop} {s:Shared}
def K(O:KeyOrd)(key:Nat->O.α)(p:Array Nat)(i:Nat):O.α:=key (p.getD i 0)
def Up(O:KeyOrd)(key:Nat->O.α)(p:Array Nat)(k:Nat):Prop:=∀i j,i<=j->j<k->O.kle (K O key p i) (K O key p j)
def Down(O:KeyOrd)(key:Nat->O.α)(p:Array Nat)(k:Nat):Prop:=∀i j,i<=j->j<k->O.kle (K O key p j) (K O key p i)
def Gi(O:KeyOrd)(key:Nat->O.α)(N:Nat)(cmp:Nat->Nat->(Bool->Shared->Prop)->Shared->Prop)(s:Shared):Prop :=
 ∀i j (C:Bool->Shared->Prop),i<N->j<N->C (O.blt (key i) (key j)) s->cmp i j C s
def Ent(N:Nat)(p:Array Nat):Prop:=p.size=N/\0<N/\∀x∈p.toList,x<N
theorem Ent.at{p:Array Nat}(h:Ent N p)(i:Nat):p.getD i 0<N:=by
 by_cases hi:i<p.size
 ·have e:p.getD i 0=p[i]:=by simp[Array.getD,hi]
  rw[e];exact h.2.2 _ (by simp)
 ·have e:p.getD i 0=0:=by simp[Array.getD,hi]
  rw[e];exact h.2.1
theorem Ent.perm{p q:Array Nat}(h:Ent N p)(e:q.Perm p):Ent N q :=
 ⟨e.size_eq.trans h.1,h.2.1,λx hx=>h.2.2 x ((Array.perm_iff_toList_perm.mp e).mem_iff.mp hx)⟩
theorem K_congr{p q:Array Nat}{i j:Nat}(h:p[i]?=q[j]?):K O key p i=K O key q j:=by
 unfold K;rw[Array.getD_eq_getD_getElem?,Array.getD_eq_getD_getElem?,h]
theorem K_bubble{p:Array Nat}{src d:Nat}(hs:src<p.size)(hd:d<=src)(k:Nat) :
  K O key (bubble p src d) k=if k=src-d then K O key p src else if src-d<k/\k<=src then K O key p (k-1) else K O key p k:=by
 have e:=getElem?_bubble hs d hd k
 by_cases h1:k=src-d
 ·rw[aae h1]at e |-;exact K_congr e
 ·rw[aac h1]at e |-
  by_cases h2:src-d<k/\k<=src
  ·rw[aae h2]at e |-;exact K_congr e
  ·rw[aac h2]at e |-;exact K_congr e
theorem CA{p:Array Nat}{i j:Nat}(hj:j<=p.size)(k:Nat):K O key (kas_rev p i j) k=if i<=k/\k<j then K O key p (i+j-1-k) else K O key p k:=by
 have e:=getElem?_mirror_all (i:=i) hj k
 by_cases h1:i<=k/\k<j
 ·rw[aae h1]at e |-;exact K_congr e
 ·rw[aac h1]at e |-;exact K_congr e
theorem pM{p:Array Nat}{i j:Nat}(hj:j<=p.size)(h:∀k,i<=k->k<j->K O key p k=K O key p (j-1))(k:Nat):K O key (kas_rev p i j) k=K O key p k:=by
 rw[CA hj]
 split
 ·rw[h _ (by omega) (by omega),h k (by omega) (by omega)]
 ·rfl
theorem vH{p:Array Nat}{m:Nat}(h:∀t,1<=t->t<m->O.kle (K O key p (t-1)) (K O key p t)):Up O key p m:=by
 intro i j hij hj
 induction j with
 |zero=>
  have:i=0:=by omega
  subst this;exact aa7 _
 |succ j ih=>
  by_cases e:i=j+1
  ·subst e;exact aa7 _
  ·exact ab6 (ih (by omega) (by omega)) (h (j+1) (by omega) hj)
theorem KO(hA:Gi O key N cmp s){p:Array Nat}(he:Ent N p):∀(f n:Nat) {Q:Nat->Shared->Prop},1<=n ->
  (∀m,n<=m->m<=n+f->(∀t,n<=t->t<m->O.kle (K O key p (t-1)) (K O key p t))->(m<n+f->O.klt (K O key p m) (K O key p (m-1)))->Q m s)->(kas_asc p f n).kasWp cmp Q s
 |0,n,Q,hn,h=>h n (aag _) (aag _) (λt h1 h2=>by omega) λq=>by omega
 | f+1,n,Q,hn,h=>by
  show cmp _ _ _ s;refine hA _ _ _ (he.at _) (he.at _) ?_;cases hb:O.blt (key (p.getD n 0)) (key (p.getD (n-1) 0)) with
  |true=>exact h n (aag _) (by omega) (λt h1 h2=>by omega) λ_=>hb
  |false=>
   show (kas_asc p f (n+1)).kasWp cmp Q s;refine KO hA he f (n+1) (by omega) λm h1 h2 h3 h4=>h m (by omega) (by omega) (λt t1 t2=>?_) λq=>h4 (by omega)
   by_cases e:t=n
   ·subst e;exact hb
   ·exact h3 t (by omega) t2
theorem zk(hA:Gi O key N cmp s):∀(f:Nat) (p:Array Nat) (n q:Nat) {Q:Array Nat×Nat×Nat->Shared->Prop},Ent N p->1<=n->n+f<=N->q+1<=n->Down O key p n->(∀i,n-(q+1)<=i->i<n->K O key p i=K O key p (n-1)) ->
  (∀p' n' q',p'.Perm p->Ent N p'->1<=n'->n<=n'->n'<=n+f->q'+1<=n'->Down O key p' n'->(∀i,n'-(q'+1)<=i->i<n'->K O key p' i=K O key p' (n'-1))->Q (p',n',q') s)->(kas_desc f p n q).kasWp cmp Q s
 |0,p,n,q,Q,he,hn,hN,hq,hd,hl,h=>h p n q (abO _) he hn (aag _) (aag _) hq hd hl
 | f+1,p,n,q,Q,he,hn,hN,hq,hd,hl,h=>by
  show cmp _ _ _ s;refine hA _ _ _ (he.at _) (he.at _) ?_;cases hb:O.blt (key (p.getD n 0)) (key (p.getD (n-1) 0)) with
  |true=>
   have hlt:O.klt (K O key p n) (K O key p (n-1)):=hb;have hd1:Down O key p (n+1):=λi j hij hj=>by
    by_cases e:j=n
    ·subst e
     by_cases e2:i=j
     ·subst e2;exact aa7 _
     ·exact ab6 (abZ hlt) (hd i (j-1) (by omega) (by omega))
    ·exact hd i j hij (by omega)
   show (if q>0 then kas_desc f (kas_rev p (n-(q+1)) n) (n+1) 0 else kas_desc f p (n+1) 0).kasWp cmp Q s
   by_cases VQ:q>0
   ·rw[aae VQ]
    have ep:(kas_rev p (n-(q+1)) n).Perm p:=mirror_perm _ _ _ _;have eK:∀k,K O key (kas_rev p (n-(q+1)) n) k=K O key p k:=λk=>pM (by rw[he.1];omega) hl k;refine zk hA f _ (n+1) 0 (he.perm ep) (by omega) (by omega) (by omega) (λi j hij hj=>by rw[eK,eK];exact hd1 i j hij hj) (λi h1 h2=>?_) λp' n' q' g1 g2 g3 g4 g5 g6 g7 g8=>h p' n' q' (g1.trans ep) g2 g3 (by omega) (by omega) g6 g7 g8;have:i=n:=by omega
    subst this;rfl
   ·rw[aac VQ]
    refine zk hA f p (n+1) 0 he (by omega) (by omega) (by omega) hd1 (λi h1 h2=>?_) λp' n' q' g1 g2 g3 g4 g5 g6 g7 g8=>h p' n' q' g1 g2 g3 (by omega) (by omega) g6 g7 g8;have:i=n:=by omega
    subst this;rfl
  |false=>
   show cmp _ _ _ s;refine hA _ _ _ (he.at _) (he.at _) ?_;cases hc:O.blt (key (p.getD (n-1) 0)) (key (p.getD n 0)) with
   |true=>exact h p n q (abO _) he hn (aag _) (by omega) hq hd hl
   |false=>
    have heq:K O key p n=K O key p (n-1):=O.total _ _ hb hc;show (kas_desc f p (n+1) (q+1)).kasWp cmp Q s;refine zk hA f p (n+1) (q+1) he (by omega) (by omega) (by omega) (λi j hij hj=>?_) (λi h1 h2=>?_) λp' n' q' g1 g2 g3 g4 g5 g6 g7 g8=>h p' n' q' g1 g2 g3 (by omega) (by omega) g6 g7 g8
    ·by_cases e:j=n
     ·subst e
      by_cases e2:i=j
      ·subst e2;exact aa7 _
      ·rw[heq];exact hd i (j-1) (by omega) (by omega)
     ·exact hd i j hij (by omega)
    ·show K O key p i=K O key p (n+1-1)
     rw[Nat.add_sub_cancel]
     by_cases e:i=n
     ·subst e;rfl
     ·rw[heq];exact hl i (by omega) (by omega)
theorem CB(hA:Gi O key N cmp s){p:Array Nat}{n nrem:Nat}(he:Ent N p)(h1:1<=n)(hn:n<=nrem)(hr:nrem<=N)(hd:Down O key p n)
  (h:∀m p',p'.Perm p->Ent N p'->1<=m->m<=nrem->Up O key p' m->Q (m,p') s):(kas_tail3 n nrem p).kasWp cmp Q s:=by
 unfold kas_tail3;rw[abP];have ep:(kas_rev p 0 n).Perm p:=mirror_perm _ _ _ _;have hz:n<=p.size:=by rw[he.1];omega
 refine KO hA (he.perm ep) _ _ h1 λm a1 a2 a3 _=>h m _ ep (he.perm ep) (by omega) (by omega) (vH λt t1 t2=>?_)
 by_cases e:t<n
 ·rw[CA hz,CA hz,aae (by omega),aae (by omega)];exact hd _ _ (by omega) (by omega)
 ·exact a3 t (by omega) t2
theorem rZ(hA:Gi O key N cmp s){p:Array Nat}{n nrem:Nat}(he:Ent N p)(hn:n+1<=nrem)(hr:nrem<=N)(hd:Down O key p (n+1))
  (h:∀m p',p'.Perm p->Ent N p'->1<=m->m<=nrem->Up O key p' m->Q (m,p') s):(kas_descPart n nrem p).kasWp cmp Q s:=by
 unfold kas_descPart;rw[abP];have OX:∀i,n+1-(0+1)<=i->i<n+1->K O key p i=K O key p (n+1-1):=λi h1 h2=>by
  have e:i=n:=by omega
  subst e;rfl
 refine zk hA (nrem-(n+1)) p (n+1) 0 he (by omega) (by omega) (by omega) hd OX λp' n' q' g1 g2 g3 g4 g5 g6 g7 g8=>?_;show (if q'>0 then kas_tail3 n' nrem (kas_rev p' (n'-(q'+1)) n') else kas_tail3 n' nrem p').kasWp cmp Q s
 by_cases hq:q'>0
 ·rw[aae hq];have ep:(kas_rev p' (n'-(q'+1)) n').Perm p':=mirror_perm _ _ _ _;have eK:∀k,K O key (kas_rev p' (n'-(q'+1)) n') k=K O key p' k:=λk=>pM (by rw[g2.1];omega) g8 k;exact CB hA (g2.perm ep) g3 (by omega) hr (λi j hij hj=>by rw[eK,eK];exact g7 i j hij hj) λm p'' a1 a2 a3 a4 a5=>h m p'' ((a1.trans ep).trans g1) a2 a3 a4 a5
 ·rw[aac hq];exact CB hA g2 g3 (by omega) hr g7 λm p'' a1 a2 a3 a4 a5=>h m p'' (a1.trans g1) a2 a3 a4 a5
theorem KP(hA:Gi O key N cmp s){p:Array Nat}{nrem:Nat}(he:Ent N p)(h1:1<=nrem)(hr:nrem<=N)
  (h:∀m p',p'.Perm p->Ent N p'->1<=m->m<=nrem->Up O key p' m->Q (m,p') s):(kas_count nrem p).kasWp cmp Q s:=by
 unfold kas_count;rw[abP];refine KO hA he _ _ (aag _) λn a1 a2 a3 a4=>?_;have hup:Up O key p n:=vH λt t1 t2=>a3 t t1 t2
 by_cases e1:(n==nrem)=true
 ·rw[aae e1];exact h n p (abO _) he a1 (by omega) hup
 ·rw[aac e1]
  have ZN:n≠nrem:=λz=>e1 (by simp[z]);have hlt:O.klt (K O key p n) (K O key p (n-1)):=a4 (by omega)
  by_cases e2:n>1
  ·rw[aae e2]
   show cmp _ _ _ s;refine hA _ _ _ (he.at _) (he.at _) ?_;cases hc:O.blt (key (p.getD 0 0)) (key (p.getD (n-1) 0)) with
   |true=>exact h n p (abO _) he a1 (by omega) hup
   |false=>
    have hle:O.kle (K O key p (n-1)) (K O key p 0):=hc;have ep:(kas_rev p 0 n).Perm p:=mirror_perm _ _ _ _;have hall:∀k,0<=k->k<n->K O key p k=K O key p (n-1):=λk _ hk=>
     KeyOrd.kle_antisymm (hup k (n-1) (by omega) (by omega)) (ab6 hle (hup 0 k (by omega) hk))
    have eK:∀k,K O key (kas_rev p 0 n) k=K O key p k:=λk=>pM (by rw[he.1];omega) hall k;show (kas_descPart n nrem (kas_rev p 0 n)).kasWp cmp Q s;refine rZ hA (he.perm ep) (by omega) hr (λi j hij hj=>?_) λm p' b1 b2 b3 b4 b5=>h m p' (b1.trans ep) b2 b3 b4 b5;rw[eK,eK]
    by_cases ej:j=n
    ·subst ej
     by_cases ei:i=j
     ·subst ei;exact aa7 _
     ·rw[hall i (by omega) (by omega)];exact abZ hlt
    ·rw[hall i (by omega) (by omega),hall j (by omega) (by omega)];exact aa7 _
  ·rw[aac e2]
   have en:n=1:=by omega
   subst en;refine rZ hA he (by omega) hr (λi j hij hj=>?_) λm p' b1 b2 b3 b4 b5=>h m p' b1 b2 b3 b4 b5
   by_cases ei:i=j
   ·subst ei;exact aa7 _
   ·have:i=0/\j=1:=by omega
    obtain⟨rfl,rfl⟩:=this;exact abZ hlt
theorem yc(hA:Gi O key N cmp s){p:Array Nat}{k:Nat}(he:Ent N p)(hs:Up O key p k):∀(f l r:Nat) {Q:Nat->Shared->Prop},l<=r->r<=k->r-l<=f ->
  (∀i,i<l->O.kle (K O key p i) (K O key p k))->(∀i,r<=i->i<k->O.klt (K O key p k) (K O key p i)) ->
  (∀l',l'<=k->(∀i,i<l'->O.kle (K O key p i) (K O key p k))->(∀i,l'<=i->i<k->O.klt (K O key p k) (K O key p i))->Q l' s)->(kas_place p k f l r).kasWp cmp Q s
 | 0,l,r,Q,hlr,hrk,hf,hlo,hhi,h=>by
  have:l=r:=by omega
  subst this;exact h l hrk hlo hhi
 | f+1,l,r,Q,hlr,hrk,hf,hlo,hhi,h=>by
  show (if l≥r then KasT.ret l else _).kasWp cmp Q s
  by_cases hge:l≥r
  ·rw[aae hge]
   have:l=r:=by omega
   subst this;exact h l hrk hlo hhi
  ·rw[aac hge]
   show cmp _ _ _ s;refine hA _ _ _ (he.at _) (he.at _) ?_;cases hb:O.blt (key (p.getD k 0)) (key (p.getD ((l+r)/2) 0)) with
   |true=>show (kas_place p k f l ((l+r)/2)).kasWp cmp Q s;exact yc hA he hs f l ((l+r)/2) (by omega) (by omega) (by omega) hlo (λi h1 h2=>KeyOrd.klt_of_klt_of_kle hb (hs _ _ h1 h2)) h
   |false=>show (kas_place p k f ((l+r)/2+1) r).kasWp cmp Q s;exact yc hA he hs f ((l+r)/2+1) r (by omega) (by omega) (by omega) (λi h1=>ab6 (hs i ((l+r)/2) (by omega) (by omega)) hb) hhi h
theorem OY(hA:Gi O key N cmp s):∀(f:Nat) (p:Array Nat) (k:Nat) {Q:Array Nat->Shared->Prop},Ent N p->k+f<=N->Up O key p k->(∀p',p'.Perm p->Up O key p' (k+f)->Q p' s)->(kas_bin f p k).kasWp cmp Q s
 |0,p,k,Q,he,hk,hs,h=>h p (abO _) hs
 | f+1,p,k,Q,he,hk,hs,h=>by
  show ((kas_place p k k 0 k).bind λl=>kas_bin f (bubble p k (k-l)) (k+1)).kasWp cmp Q s;rw[abP];refine yc hA he hs k 0 k (by omega) (by omega) (by omega) (λi hi=>by omega) (λi h1 h2=>by omega) λl hl hlo hhi=>?_;have ep:(bubble p k (k-l)).Perm p:=bubble_perm _ _ _;have hks:k<p.size:=by rw[he.1];omega
  refine OY hA f _ (k+1) (he.perm ep) (by omega) (λi j hij hj=>?_) λp' a1 a2=>h p' (a1.trans ep) (by rwa [show k+(f+1)=k+1+f by omega]);rw[K_bubble hks (by omega),K_bubble hks (by omega),show k-(k-l)=l by omega]
  repeat' split
  all_goals first
   |(exfalso;omega)
   |exact aa7 _
   |exact hlo _ (by omega)
   |exact abZ (hhi _ (by omega) (by omega))
   |exact hs _ _ (by omega) (by omega)
theorem OZ(hA:Gi O key N cmp s)(h1:1<=N)(h:∀p,p.Perm (toArray (List.range N))->Up O key p N->Q p s):(kas_sort N).kasWp cmp Q s:=by
 unfold kas_sort;rw[abP];have he:Ent N (toArray (List.range N)):=⟨by simp,h1,λx hx=>by simpa using hx⟩;refine KP hA he h1 (aag _) λm p a1 a2 a3 a4 a5=>?_;show (if m<N then kas_bin (N-max m 1) p (max m 1) else KasT.ret p).kasWp cmp Q s;have em:max m 1=m:=by omega
 by_cases hlt:m<N
 ·rw[aae hlt,em];exact OY hA _ p m a2 (by omega) a5 λp' b1 b2=>h p' (b1.trans a1) (by rwa [show m+(N-m)=N by omega]at b2)
 ·rw[aac hlt]
  have:m=N:=by omega
  subst this;exact h p a1 a5
end
end qX
namespace qX
theorem cK{α:Type}(l:List α)(d:α):(List.range l.length).map (λi=>l.getD i d)=l:=by
 refine ab7 (by simp) λi h1 h2=>?_;simp[h2]
section
variable {prog:Program} {w:World} {A:Around} {E:Value->Shared->Prop} {s:Shared}
def r6(prog:Program)(w:World)(A:Around)(O:KeyOrd)(key:Nat->O.α)(vs:List Value)(s6:Shared):Prop :=
 wpAny (model prog w) A (keyKind' vs.toArray) (λκ s'=>s'=s6/\Gi O key vs.length (kas_ask prog w A κ vs) s6) (λ_ _=>False) s6
structure CC (O:KeyOrd) (key:Nat->O.α) (n:Nat) (p:List Nat):Prop where
 perm:p.Perm (List.range n)
 up:(p.map key).Pairwise O.kle
theorem Gj{n:Nat}{p:Array Nat}(h1:p.Perm (toArray (List.range n)))(h2:Up O key p n):CC O key n p.toList:=by
 have hp:p.toList.Perm (List.range n):=by simpa using Array.perm_iff_toList_perm.mp h1
 refine⟨hp,abJ.mpr λi j hi hj hij=>?_⟩;have hz:p.toList.length=n:=by rw[hp.length_eq,acp]
 rw[Z8]at hi hj;have q:=h2 i j (abb hij) (by omega);have ei:p.getD i 0=p.toList[i]:=by simp at hi;simp[Array.getD,hi]
 have ej:p.getD j 0=p.toList[j]:=by simp at hj;simp[Array.getD,hj]
 unfold K at q;rw[ei,ej]at q;rw[acu,acu];exact q
theorem CD{n:Nat}(ho:s.heap.get? a=some (seqObj "list" vs.toArray n))(h64:vs.length<64)
  (hk:2<=vs.length->∀h6:Heap,(∀b o,b≠a->s.heap.get? b=some o->h6.get? b=some o)->r6 prog w A O key vs { s with heap:=h6 })
  (h:∀p,CC O key vs.length p->P (.done (.ret .none)) { s with heap:=sortedHeap s.heap a vs (p.map λi=>vs.getD i Value.none).toArray }) :
  wpAny (model prog w) A (Builtin.«list.sort» ⟨[.ref a],[]⟩) P E s:=by
 have alt:a<s.heap.objs.size:=aaf ho;have big:vs.length<=sizeLine:=by rw[aaZ];omega
 rw[list_sort_plain];apply Z2;apply listItems_at ho rfl;apply Z2;refine listUpdate_at ho rfl ?_ (by rw[aah];exact big) (abd _);have q1:=get?_update_seq ho (λ_=>(#[]:Array Value));apply Z2;apply seqEpoch_at q1 rfl;apply Z2;refine wpAny_newTuple ?_ (by show vs.length<=sizeLine;exact big);apply Z2;refine wpAny_newList ?_ (abd _);apply aaM;generalize hN:((s.heap.update a (Obj.mapSeq λ_=>(#[]:Array Value))).push (seqObj "tuple" vs.toArray 0)).push (seqObj "list" #[] 0)=h6;have O0:∀b o,b≠a->s.heap.get? b=some o->h6.get? b=some o:=λb o hb e=>by
  rw[<-hN];refine Z4 _ (Z4 _ ?_);rw[abK _ _ _ _ hb];exact e
 have q6:h6.get? a=some (seqObj "list" #[] (if (#[]:Array Value).size==vs.toArray.size then n else n+1)):=by rw[<-hN];exact Z4 _ (Z4 _ q1)
 have eS:∀out,h6.update a (Obj.mapSeq λ_=>out)=sortedHeap s.heap a vs out:=λout=>by rw[<-hN];rfl
 show wpAny (model prog w) A _ P E { s with heap:=h6 };dsimp only
 by_cases h2:vs.toArray.size<2
 ·rw[aae h2,aae h2]
  apply Z2;apply Z7;rw[StateT.run_pure];apply Z2;apply Z7;dsimp only;have eo:(arrOf (SortSt.mk' general' (vs.toArray.zip vs.toArray) #[] 7 none)).map (·.2)=vs.toArray:=by show (vs.toArray.zip vs.toArray).map (·.2)=vs.toArray;apply Array.toList_inj.mp;simp[List.map_snd_zip]
  rw[eo];apply Z2;apply seqEpoch_at q6 rfl;apply Z2;refine listUpdate_at q6 rfl ?_ (abd _) (by show vs.toArray.size<=_;rw[aah];omega);have hb:((if (#[]:Array Value).size==vs.toArray.size then n else n+1) != (if (#[]:Array Value).size==vs.toArray.size then n else n+1))=false:=by simp
  rw[eS];simp only[hb,false_eq_true,if_false];apply Z7;have g:=h (List.range vs.length) ⟨ab0 _,?_⟩
  ·rw[cK]at g;exact g
  ·rw[aah]at h2;refine abJ.mpr λi j hi hj hij=>?_;simp at hi hj;omega
 ·rw[aac h2,aac h2]
  rw[aah]at h2;have ask:=hk (by omega) h6 O0;apply Z2;refine aaB ask (λκ s0 hκ=>?_) λ_ _ x=>x.elim;obtain⟨rfl,Xm⟩:=hκ;apply Z2;refine aaB (kat_run (Q:=λst' s'=>s'={ s with heap:=h6 }/\∃p:Array Nat,CC O key vs.length p.toList/\p.size=vs.length/\(arrOf st').map (·.2)=(p.toList.map λi=>vs.getD i Value.none).toArray/\failedOf st'=none)
   (G:=λp s'=>s'={ s with heap:=h6 }/\CC O key vs.length p.toList) rfl (by omega) h64 (λp st' s' a1 a2 a3 a4=>⟨a4.1,p,a4.2,a1,kat_snds rfl a2,a3⟩)
   (OZ Xm (by omega) λp b1 b2=>⟨rfl,Gj b1 b2⟩)) ?_ λ_ _ x=>x
  rintro⟨⟨⟩,st'⟩ s' ⟨rfl,p,op,pz,er,ef⟩;dsimp only;rw[er];apply Z2;apply seqEpoch_at q6 rfl;apply Z2;refine listUpdate_at q6 rfl ?_ (abd _) (by show (toArray _).size<=_;rw[aah,Z8,aaE,pz];omega);have hb:((if (#[]:Array Value).size==vs.toArray.size then n else n+1) != (if (#[]:Array Value).size==vs.toArray.size then n else n+1))=false:=by simp
  rw[eS,ef];simp only[hb,false_eq_true,if_false];exact Z7 (h p.toList op)
theorem iT
  (h:wpAny (model prog w) A.in1 (collect x) (λvs s1=>vs.length<64/\∃key:Nat->O.α,(2<=vs.length->∀h6:Heap,(∀b o,s1.heap.get? b=some o->h6.get? b=some o)->r6 prog w A.in1.in1 O key vs { s1 with heap:=h6 }) /\
   ∀p h',CC O key vs.length p->(∀b o,s1.heap.get? b=some o->h'.get? b=some o)->(∃e,h'.get? s1.heap.objs.size=some (seqObj "list" (p.map λi=>vs.getD i Value.none).toArray e))->Q (.ref s1.heap.objs.size) { s1 with heap:=h' }) E s) :
  wpAny (model prog w) A (call (.builtin "sorted") [x]) Q E s:=by
 refine Calls.call_function_entry kind_sorted plain_sorted entry_sorted (args_sorted1 _) ?_;unfold Builtin.«sorted»;refine Z2 (m:=checkCount "sorted" 1 1 _) (Z7 ?_);apply Z2;refine aaB h (λvs s1 ⟨h64,key,hk,hq⟩=>?_) λ_ _ z=>z;have big:vs.length<=sizeLine:=by rw[aaZ];omega
 apply Z2;refine wpAny_newList ?_ big;have q:(s1.heap.push (seqObj "list" vs.toArray 0)).get? s1.heap.objs.size=some (seqObj "list" vs.toArray 0):=aam _ rfl;apply Z2;apply aaM;refine abm (s:={ s1 with heap:=s1.heap.push (seqObj "list" vs.toArray 0) }) slot_list_sort ⟨_,q,rfl⟩ entry_list_sort ?_ (args_list_sort _);refine CD (key:=key) (s:={ s1 with heap:=s1.heap.push (seqObj "list" vs.toArray 0) }) q h64 (λh2 h6 k6=>?_) λp op=>⟨_,rfl,Z7 ⟨_,rfl,?_⟩⟩
 ·exact hk h2 h6 λb o e=>k6 b o (aaj (aaf e)) (Z4 _ e)
 ·refine hq p _ op (λb o e=>?_) (sortedHeap_at q);rw[sortedHeap_old (aaj (aaf e)) (by rw[size_push'];exact aa4 (aaf e))];exact Z4 _ e
end
def yd:KeyOrd where
 α:=Int
 blt:=λa b=>decide (a<b)
 irrefl:=λa=>by simp
 trans:=λa b c h1 h2=>by simp at *;omega
 negTrans:=λa b c h=>by simp at *;omega
 total:=λa b h1 h2=>by simp at *;omega
theorem ye{s6:Shared}{ns:List Int}(hI:IntsAre vs ns)(h2:2<=vs.length):r6 prog w A yd (λi=>ns.getD i 0) vs s6:=by
 have at_:∀i,i<vs.length->∃t,vs.getD i Value.none=.int (ns.getD i 0) t:=by
  intro i hi
  induction hI generalizing i with
  |nil=>simp at hi
  |cons z t r ih=>
   cases i with
   |zero=>exact⟨t,by simp⟩
   |succ i=>
    by_cases hr:2<=1
    ·omega
    ·simp only[length_cons]at hi
     have aux:∀{vs:List Value} {ns:List Int},IntsAre vs ns->∀i,i<vs.length->∃t,vs.getD i Value.none=.int (ns.getD i 0) t:=by
      intro vs ns q
      induction q with
      |nil=>intro i hi;simp at hi
      |cons z t r ih=>
       intro i hi;cases i with
       |zero=>exact⟨t,by simp⟩
       |succ i=>simp only[length_cons]at hi;obtain⟨u,e⟩:=ih i (by omega);exact⟨u,by simpa using e⟩
     obtain⟨u,e⟩:=aux r i (by omega);exact⟨u,by simpa using e⟩
 obtain⟨v₁,v₂,rest,rfl⟩:∃v₁ v₂ rest,vs=v₁::v₂::rest:=by
  match vs,h2 with
  |v₁::v₂::rest,_=>exact⟨v₁,v₂,rest,rfl⟩
 unfold r6;rw[keyKind_ints hI];refine Z7 ⟨rfl,λi j C hi hj hc=>?_⟩;obtain⟨t,e1⟩:=at_ i hi;obtain⟨u,e2⟩:=at_ j hj;unfold kas_ask;rw[e1,e2,keyLt'_oneType];exact oneLt_int hc
theorem iD:∀a,HT.lexLt a a=false
 |[]=>rfl
 |x::xs=>by rw[HT.iA,aae rfl];exact iD xs
theorem gk:∀a b,HT.lexLt a b=false->HT.lexLt b a=false->a=b
 |[],[],_,_=>rfl
 |[],_::_,h,_=>by rw[HT.fU]at h;cases h
 |_::_,[],_,h=>by rw[HT.fU]at h;cases h
 | x::xs,y::ys,h1,h2=>by
  rw[HT.iA]at h1 h2
  by_cases e:x=y
  ·subst e;rw[aae rfl]at h1 h2;rw[gk xs ys h1 h2]
  ·rw[aac e]at h1;rw[aac (λz=>e z.symm)]at h2;simp at h1 h2;omega
theorem gm:∀a b c,HT.lexLt a b=true->HT.lexLt b c=true->HT.lexLt a c=true
 |[],[],c,h,_=>by rw[HT.qU]at h;cases h
 |[],_::_,[],_,h=>by rw[HT.dP]at h;cases h
 |[],_::_,_::_,_,_=>rfl
 |_::_,[],_,h,_=>by rw[HT.dP]at h;cases h
 |_::_,_::_,[],_,h=>by rw[HT.dP]at h;cases h
 | x::xs,y::ys,z::zs,h1,h2=>by
  rw[HT.iA]at h1 h2 |-
  by_cases e1:x=y
  ·subst e1
   rw[aae rfl]at h1
   by_cases e2:x=z
   ·subst e2;rw[aae rfl]at h2 |-;exact gm xs ys zs h1 h2
   ·rw[aac e2]at h2 |-;exact h2
  ·rw[aac e1]at h1
   by_cases e2:y=z
   ·subst e2;rw[aac e1];exact h1
   ·rw[aac e2]at h2;simp at h1 h2;rw[aac (by omega)];simp;omega
theorem r8(a b c:List Int)(h:HT.lexLt a c=true):HT.lexLt a b=true\/HT.lexLt b c=true:=by
 cases h1:HT.lexLt a b with
 |true=>exact .inl rfl
 |false=>
  cases h2:HT.lexLt b c with
  |true=>exact .inr rfl
  |false=>
   cases h3:HT.lexLt b a with
   |true=>have:=gm _ _ _ h3 h;rw[h2]at this;cases this
   |false=>rw[gk _ _ h1 h3]at h;rw[h2]at h;cases h
def lexOrd:KeyOrd where
 α:=List Int
 blt:=HT.lexLt
 irrefl:=iD
 trans:=gm
 negTrans:=r8
 total:=gk
section
variable {prog:Program} {w:World} {A:Around} {s:Shared}
theorem nP{b fin:Bool}:∀{us vs:List Value} {ns ms:List Int} (i:Nat),IntsAre us ns->IntsAre vs ms->(ns.length<ms.length↔fin=true)->us.length=ns.length ->
  Q (HT.lexLt ns ms) s->(ns.length=ms.length\/i=i)->(∀k,k<ns.length->k<ms.length->True)->(ns.length≠ms.length->True)->(fin=decide (ns.length<ms.length))->KatLex prog w A b fin Q (us.zip vs) i s
 | _,_,_,_,i,.nil,.nil,_,_,hq,_,_,_,hf=>by
  refine kat_nil ?_;rw[hf];exact hq
 | _,_,_,_,i,.nil,.cons _ _ _,_,_,hq,_,_,_,hf=>by
  refine kat_nil ?_;rw[hf];simpa [HT.fU] using hq
 | _,_,_,_,i,.cons _ _ _,.nil,_,_,hq,_,_,_,hf=>by
  refine kat_nil ?_;rw[hf];simpa [HT.dP] using hq
 | _,_,_,_,i,.cons x t r,.cons y u r',h1,h2,hq,_,_,_,hf=>by
  refine kat_cons (wpAny_eqBool_int ?_);rw[HT.iA]at hq
  by_cases e:x=y
  ·subst e
   rw[aae rfl]at hq;rw[beq_self_eq_true];refine kat_yes (nP (i+1) r r' ?_ ?_ hq (.inr rfl) (λ_ _ _=>trivial) (λ_=>trivial) ?_)
   ·simpa using h1
   ·simpa using h2
   ·rw[hf];simp
  ·rw[aac e]at hq
   rw[show (x==y)=false from aaX.mpr e];refine kat_no ?_;cases hb:(b&&i==0) with
   |true=>exact oneLt_int hq
   |false=>exact kat_one _ _ (PyProof.Rows.lt_int hq)
end
end qX
end L2
end
section
namespace L2
open PySem PySem.Spec PyProof.Rows
def TM:Key->PyData
 |.inl i=>.int i
 |.inr x=>.str x
mutual
noncomputable def Den(K:Frag)(H:Hp):PyData->V->Prop
 |.none,v=>v=.non
 |.bool b,v=>v=.bl b
 |.int i,v=>v=.int i
 |.str x,v=>v=.str x
 |.list ds,v=>∃a xs,v=.ref a/\fR K H a xs/\dJ K H ds xs
 |.tuple ds,v=>∃a xs,v=.ref a/\iy K H a xs/\dJ K H ds xs
 |.dict kvs,v=>∃a ks,v=.ref a/\H a=some (.dK ks)/\lu K H kvs ks
noncomputable def dJ(K:Frag)(H:Hp):List PyData->List V->Prop
 |[],xs=>xs=[]
 |d::ds,xs=>∃x r,xs=x::r/\Den K H d x/\dJ K H ds r
noncomputable def lu(K:Frag)(H:Hp):List (PyData×PyData)->List (Key×V)->Prop
 |[],ks=>ks=[]
 |(k,d)::r,ks=>∃key x rest,ks=(key,x)::rest/\k=TM key/\Den K H d x/\lu K H r rest
end
theorem ya.tup{K:Frag}{H H':Hp}{a:Addr}{xs:List V}(e:ya H H')(h:iy K H a xs):iy K H' a xs:=by
 rcases h with (h|⟨o,h⟩)|h
 ·exact .inl (.inl (e _ _ h))
 ·exact .inl (.inr ⟨o,e _ _ h⟩)
 ·exact .inr h
section
variable {K:Frag} {H H':Hp}
mutual
theorem Den.same(e:ya H H'):∀(d:PyData) (v:V),Den K H d v->Den K H' d v
 |.none,_,h=>by rw[Den]at h |-;exact h
 |.bool _,_,h=>by rw[Den]at h |-;exact h
 |.int _,_,h=>by rw[Den]at h |-;exact h
 |.str _,_,h=>by rw[Den]at h |-;exact h
 | .list ds,v,h=>by
  rw[Den]at h |-;obtain⟨a,xs,q1,q2,q3⟩:=h;exact⟨a,xs,q1,e.seq q2,dJ.same e ds xs q3⟩
 | .tuple ds,v,h=>by
  rw[Den]at h |-;obtain⟨a,xs,q1,q2,q3⟩:=h;exact⟨a,xs,q1,e.tup q2,dJ.same e ds xs q3⟩
 | .dict kvs,v,h=>by
  rw[Den]at h |-;obtain⟨a,ks,q1,q2,q3⟩:=h;exact⟨a,ks,q1,e _ _ q2,lu.same e kvs ks q3⟩
theorem dJ.same(e:ya H H'):∀(ds:List PyData) (xs:List V),dJ K H ds xs->dJ K H' ds xs
 |[],_,h=>by rw[dJ]at h |-;exact h
 | d::ds,xs,h=>by
  rw[dJ]at h |-;obtain⟨x,r,q1,q2,q3⟩:=h;exact⟨x,r,q1,Den.same e d x q2,dJ.same e ds r q3⟩
theorem lu.same(e:ya H H'):∀(kvs:List (PyData×PyData)) (ks:List (Key×V)),lu K H kvs ks->lu K H' kvs ks
 |[],_,h=>by rw[lu]at h |-;exact h
 | (k,d)::r,ks,h=>by
  rw[lu]at h |-;obtain⟨key,x,rest,q1,q2,q3,q4⟩:=h;exact⟨key,x,rest,q1,q2,Den.same e d x q3,lu.same e r rest q4⟩
end
theorem dJ.nil:dJ K H [] []:=by rw[dJ]
theorem dJ.cons{d:PyData}{ds:List PyData}{x:V}{r:List V}(h1:Den K H d x)(h2:dJ K H ds r):dJ K H (d::ds) (x::r):=by rw[dJ];exact⟨x,r,rfl,h1,h2⟩
theorem Den.int{i:Int}:Den K H (.int i) (.int i):=by rw[Den]
theorem Den.str:Den K H (.str x) (.str x):=by rw[Den]
theorem Den.bool{b:Bool}:Den K H (.bool b) (.bl b):=by rw[Den]
theorem Den.none:Den K H .none .non:=by rw[Den]
theorem Den.list(h:fR K H a xs)(q:dJ K H ds xs):Den K H (.list ds) (.ref a):=by rw[Den];exact⟨a,xs,rfl,h,q⟩
theorem Den.tuple(h:iy K H a xs)(q:dJ K H ds xs):Den K H (.tuple ds) (.ref a):=by rw[Den];exact⟨a,xs,rfl,h,q⟩
end
section
variable {X:Cx} {pins:List (Addr×Obj)} {σ:St} {H:Hp} {s:Shared}
mutual
theorem Den.reads(I:Inv X pins σ H s):∀(d:PyData) (v:V) (u:Value),d.canLay0=true->Den X.K H d v->RelV v u->∃as,Reads s.heap u d as
 |.none,v,u,_,h,r=>by rw[Den]at h;subst h;cases r;exact⟨_,.none⟩
 |.bool b,v,u,_,h,r=>by rw[Den]at h;subst h;cases r;exact⟨_,.bool b⟩
 |.int i,v,u,_,h,r=>by rw[Den]at h;subst h;obtain⟨t,rfl⟩:=r;exact⟨_,.int i t⟩
 |.str x,v,u,_,h,r=>by rw[Den]at h;subst h;obtain⟨t,rfl⟩:=r;exact⟨_,.str x t⟩
 | .list ds,v,u,c,h,r=>by
  rw[Den]at h;obtain⟨a,xs,rfl,q1,q2⟩:=h;cases r;obtain⟨its,rv,⟨o,n,e1,e2,_,e3⟩,_⟩:=I.list q1;obtain⟨as,ra⟩:=dJ.reads I ds xs its (by simpa [PyData.canLay0] using c) q2 rv;exact⟨_,.list e1 e2 e3 (by simpa using ra)⟩
 | .tuple ds,v,u,c,h,r=>by
  rw[Den]at h;obtain⟨a,xs,rfl,q1,q2⟩:=h;cases r;obtain⟨its,rv,⟨o,e1,e2,n,e3⟩,_⟩:=I.tuple q1;obtain⟨as,ra⟩:=dJ.reads I ds xs its (by simpa [PyData.canLay0] using c) q2 rv;exact⟨_,.tuple e1 e2 e3 (by simpa using ra)⟩
 |.dict _,_,_,c,_,_=>by simp[PyData.canLay0]at c
theorem dJ.reads(I:Inv X pins σ H s):∀(ds:List PyData) (xs:List V) (us:List Value),PyData.canLayAll0 ds=true->dJ X.K H ds xs->Vals xs us->∃as,ReadsAll s.heap us ds as
 |[],xs,us,_,h,r=>by rw[dJ]at h;subst h;cases r;exact⟨_,.nil⟩
 | d::ds,xs,us,c,h,r=>by
  have c':d.canLay0=true/\PyData.canLayAll0 ds=true:=by simpa [PyData.canLayAll0] using c
  rw[dJ]at h;obtain⟨x,rest,rfl,q1,q2⟩:=h;cases r with
  |cons r1 r2=>obtain⟨as,ra⟩:=Den.reads I d x _ c'.1 q1 r1;obtain⟨bs,rb⟩:=dJ.reads I ds rest _ c'.2 q2 r2;exact⟨_,.cons ra rb⟩
end
end
section
variable {X:Cx}
def TN(K:Frag):R2:=λx y H Q=>∃d e,Den K H d x/\Den K H e y/\d.canLay0=true/\e.canLay0=true/\d.depth<=60/\Q (.bl (PyData.eqv d e)) H
def TQ(K:Frag):R2:=λx y H Q=>∃d e,Den K H d x/\Den K H e y/\d.canLay0=true/\e.canLay0=true/\d.depth<=60/\Q (.bl (!PyData.eqv d e)) H
theorem KQ(hu:X.A.units+64<cLine):jz X (compareOp .Eq) (TN X.K):=by
 intro pins s σ H x y v u Q I rx ry h;obtain⟨d,e,hd,he,c1,c2,hz,q⟩:=h;obtain⟨as,ra⟩:=Den.reads I d x v c1 hd rx;obtain⟨bs,rb⟩:=Den.reads I e y u c2 he ry;exact SeqAt.compareEq_reads ra rb c1 c2 (by have:=Nat.min_le_left d.depth e.depth;omega) ⟨.bl _,H,I,rfl,q⟩
theorem KR(hu:X.A.units+64<cLine):jz X (compareOp .NotEq) (TQ X.K):=by
 intro pins s σ H x y v u Q I rx ry h;obtain⟨d,e,hd,he,c1,c2,hz,q⟩:=h;obtain⟨as,ra⟩:=Den.reads I d x v c1 hd rx;obtain⟨bs,rb⟩:=Den.reads I e y u c2 he ry;exact SeqAt.compareNe_reads ra rb c1 c2 (by have:=Nat.min_le_left d.depth e.depth;omega) ⟨.bl _,H,I,rfl,q⟩
theorem pN{ns:List Int}(I:Inv X pins σ H s)(hq:fR X.K H p (ns.map V.int))(h64:ns.length<64)
  (q:∀l,H l=none->Q (.ref l) (upd H l (.lst ((sortI ns).map V.int)))):wpAny (model X.prog X.w) X.A (call (.builtin "sorted") [.ref p]) (EP X pins σ Q) X.xe s:=by
 obtain⟨its,rv,pl,hz⟩:=I.list hq;have hi:=intsAre_of rv;have hl:=hi.length;refine sorted_ints pl.isList hi (by omega) λout ns' a1 a2 a3=>?_;obtain⟨e,he⟩:=sortedAll_at s.heap its out;have es:ns'=sortI ns:=eq_sortI a2 a3;subst es;have hn:H (s.heap.objs.size+1)=none:=I.hok.fresh (aaQ _);refine⟨.ref (s.heap.objs.size+1),_,I.laid (t':=s.toks) (λb o z=>sortedAll_old z) (aaQ _) (show bF X.prog X.w _ _ _ (.lst ((sortI ns).map V.int)) from⟨?_,out.toList,e,jC a1,by simpa using he⟩),rfl,q _ hn⟩;rw[Z8,(abu ns).length_eq,aaZ];omega
theorem mW:bR X (.builtin "sorted") (λxs H Q=>∃p ns,xs=[.ref p]/\fR X.K H p (ns.map V.int)/\ns.length<64/\∀l,H l=none->Q (.ref l) (upd H l (.lst ((sortI ns).map V.int)))):=by
 intro pins s σ H xs us Q I r h;obtain⟨p,ns,rfl,hq,h64,q⟩:=h;obtain⟨u,rfl,ru⟩:=vals1 r;cases ru;exact pN I hq h64 q
def O3(K:Frag)(H:Hp)(r:Addr×List Int):Prop:=iy K H r.1 (r.2.map V.int)/\r.2≠[]
theorem yf{pins:List (Addr×Obj)}{σ:St}{H:Hp}{s:Shared}{A:Around}{rs:List (Addr×List Int)}{h6:Heap}{s6:Shared}(I:Inv X pins σ H s)(ht:∀r∈rs,O3 X.K H r)(h2:2<=rs.length)(k:∀b o,s.heap.get? b=some o->s6.heap.get? b=some o) :
  qX.r6 X.prog X.w A qX.lexOrd (λi=>(rs.getD i (0,[])).2) (rs.map λr=>Value.ref r.1) s6:=by
 have tup:∀r∈rs,∃its o n,s6.heap.get? r.1=some o/\o.cls=.type "tuple" /\ o.data=.seq (toArray its) n/\IntsAre its r.2:=λr hr=>by
  obtain⟨its,rv,⟨o,e1,e2,n,e3⟩,_⟩:=I.tuple (ht r hr).1;exact⟨its,o,n,k _ _ e1,e2,e3,intsAre_of rv⟩
 have kt:∀rs:List (Addr×List Int),(∀r∈rs,∃its o n,s6.heap.get? r.1=some o/\o.cls=.type "tuple" /\ o.data=.seq (toArray its) n/\IntsAre its r.2)->(∀r∈rs,r.2≠[]) ->
   ∃fs,PySem.W.KatTups s6.heap (rs.map λr=>Value.ref r.1) fs/\fs.length=rs.length/\∀v∈fs,∃i t,v=Value.int i t:=by
  intro rs
  induction rs with
  |nil=>intro _ _;exact⟨[],PySem.W.KatTups.nil,rfl,λv hv=>nomatch hv⟩
  |cons r rs ih=>
   intro g1 g2;obtain⟨fs,q1,q2,q3⟩:=ih (λr' hr'=>g1 r' (Z6 _ hr')) λr' hr'=>g2 r' (Z6 _ hr');obtain⟨its,o,n,e1,e2,e3,hi⟩:=g1 r aad;have hne:=g2 r aad;cases hr:r.2 with
   |nil=>exact absurd hr hne
   |cons i is=>
    rw[hr]at hi;cases hi with
    |cons _ t hi'=>
     refine⟨.int i t::fs,PySem.W.KatTups.cons e1 e2 e3 (by simp) q1,by simp[q2],λv hv=>?_⟩
     rcases aal.mp hv with z|z
     ·exact⟨i,t,z⟩
     ·exact q3 v z
 obtain⟨fs,q1,q2,q3⟩:=kt rs tup λr hr=>(ht r hr).2;unfold qX.r6;refine PySem.W.kat_kind q1 (by omega) (T:=Value.type "int") (λv hv=>?_) rfl ⟨rfl,λi j C hi hj hc=>?_⟩
 ·obtain⟨i,t,rfl⟩:=q3 v hv;exact PySem.W.Looks.of_pure rfl
 ·rw[Z8]at hi hj
  unfold PySem.W.kas_ask;have e1:(rs.map λr=>Value.ref r.1).getD i Value.none=Value.ref rs[i].1:=by simp[hi]
  have e2:(rs.map λr=>Value.ref r.1).getD j Value.none=Value.ref rs[j].1:=by simp[hj]
  have e3:rs.getD i (0,[])=rs[i]:=by simp[hi]
  have e4:rs.getD j (0,[])=rs[j]:=by simp[hj]
  rw[e1,e2];simp only[e3,e4]at hc;obtain⟨its,o,n,a1,a2,a3,a4⟩:=tup rs[i] (acv hi);obtain⟨its',o',n',b1,b2,b3,b4⟩:=tup rs[j] (acv hj);have l1:=a4.length;have l2:=b4.length;refine kat_lt a1 a3 b1 b3 (qX.nP 0 a4 b4 ?_ l1 hc (.inr rfl) (λ_ _ _=>trivial) (λ_=>trivial) ?_)
  ·rw[aah,aah,l1,l2];simp
  ·rw[aah,aah,l1,l2]
theorem AW{rs:List (Addr×List Int)}:∀{us:List Value},Vals (rs.map λr=>V.ref r.1) us->us=rs.map λr=>Value.ref r.1:=by
 induction rs with
 |nil=>intro us r;cases r;rfl
 |cons a rs ih=>
  intro us r;cases r with
  |cons r1 r2=>cases r1;rw[ih r2];rfl
theorem mX:bR X (.builtin "sorted") (λxs H Q=>∃(p:Addr) (rs:List (Addr×List Int)),xs=[.ref p]/\fR X.K H p (rs.map λr=>V.ref r.1)/\rs.length<64/\(∀r∈rs,O3 X.K H r) /\
  ∀(l:Addr) (qs:List (Addr×List Int)),H l=none->qs.Perm rs->qs.Pairwise (λa b=>HT.lexLt b.2 a.2=false)->Q (.ref l) (upd H l (.lst (qs.map λr=>V.ref r.1)))):=by
 intro pins s σ H xs us Q I r h;obtain⟨p,rs,rfl,hq,h64,ht,q⟩:=h;obtain⟨u,rfl,ru⟩:=vals1 r;cases ru;obtain⟨its,rv,pl,hz⟩:=I.list hq;have ev:=AW rv;subst ev;refine qX.iT (O:=qX.lexOrd) (collect_list pl.isList ?_ (by rw[Z8,aaZ];omega));have k1:∀b o,s.heap.get? b=some o->((s.heap.push (seqObj "list" #[] 0)).update s.heap.objs.size (Obj.mapSeq (· ++ (rs.map λr=>Value.ref r.1).toArray))).get? b=some o:=λb o e=>by
  rw[abK _ _ _ _ (aaj (aaf e))];exact Z4 _ e
 have Xn:((s.heap.push (seqObj "list" #[] 0)).update s.heap.objs.size (Obj.mapSeq (· ++ (rs.map λr=>Value.ref r.1).toArray))).objs.size=s.heap.objs.size+1:=by rw[Heap.size_update,size_push']
 refine⟨by rw[Z8];exact h64,λi=>(rs.getD i (0,[])).2,λh2 h6 k6=>?_,λpp h' op k' he=>?_⟩
 ·rw[Z8]at h2;exact yf (h6:=h6) I ht h2 λb o e=>k6 b o (k1 b o e)
 ·rw[Z8]at op
  dsimp only at k' he |-;rw[Xn]at he |-;obtain⟨e,he⟩:=he;have hn:H (s.heap.objs.size+1)=none:=I.hok.fresh (aaQ _);have lp:pp.length=rs.length:=by rw[op.perm.length_eq,acp]
  have mem:∀i∈pp,i<rs.length:=λi hi=>by simpa using op.perm.mem_iff.mp hi
  have TR:(pp.map λi=>(rs.map λr=>Value.ref r.1).getD i Value.none)=(pp.map λi=>rs.getD i (0,[])).map λr=>Value.ref r.1:=by rw[abv];refine aa9 λi hi=>?_;simp[mem i hi]
  have qp:(pp.map λi=>rs.getD i (0,[])).Perm rs:=by have:=op.perm.map λi=>rs.getD i (0,[]);rwa [qX.cK]at this
  have qs:(pp.map λi=>rs.getD i (0,[])).Pairwise (λa b=>HT.lexLt b.2 a.2=false):=by have up1:=ab1.mp op.up;exact ab1.mpr up1
  refine⟨.ref (s.heap.objs.size+1),_,I.laid (t':=s.toks) (λb o z=>k' b o (k1 b o z)) (aaQ _) (show bF X.prog X.w _ _ _ (.lst ((pp.map λi=>rs.getD i (0,[])).map λr=>V.ref r.1)) from⟨?_,_,e,?_,he⟩),rfl,q _ _ hn qp qs⟩
  ·rw[Z8,Z8,lp,aaZ];omega
  ·rw[TR]
   generalize (pp.map λi=>rs.getD i (0,[]))=zs
   induction zs with
   |nil=>exact .nil
   |cons z zs ih=>exact .cons rfl ih
theorem zl{ns:List Int}(h:IntsAre us ns):∀(i:Nat) (v:Value),us[i]?=some v->∃t,v=.int (ns.getD i 0) t:=by
 induction h with
 |nil=>intro i v e;simp at e
 |cons z t r ih=>
  intro i v e;cases i with
  |zero=>simp at e;exact⟨t,by simp[<-e]⟩
  |succ i=>obtain⟨u,q⟩:=ih i v (by simpa using e);exact⟨u,by simpa using q⟩
theorem r9{pins:List (Addr×Obj)}{σ:St}{H:Hp}{s:Shared}{p:Addr}{ns:List Int}(I:Inv X pins σ H s)(hc:X.calm=true)(hq:fR X.K H p (ns.map V.int)\/iy X.K H p (ns.map V.int))(hne:0<ns.length){Q:Value->Shared->Prop}{f:String}{bt:Int->Int->Bool}{op:CmpOp}
  (hf:∀{Q:Value->Shared->Prop},wpAny (model X.prog X.w) X.A.in1 (pyIter (.ref p)) (λit s₂=>∃I fp wr n P St bt,it=.ref I/\Walks X.prog X.w X.A.in1 I fp wr n P St/\St 0 s₂.heap/\(∀b∈fp,b<s₂.heap.objs.size)/\0<n/\CmpOf X.prog X.w X.A.in1 op P bt /\
   ∀v h' tk,P (argBest bt (n-1)) v->(∀b o,b∉wr->s₂.heap.get? b=some o->h'.get? b=some o)->Q v { s₂ with heap:=h',toks:=tk }) X.xe s->wpAny (model X.prog X.w) X.A (call (.builtin f) [.ref p]) Q X.xe s)
  (hcmp:∀(P:Nat->Value->Prop),(∀i v,P i v->∃t,v=.int (ns.getD i 0) t)->CmpOf X.prog X.w X.A.in1 op P λi j=>bt (ns.getD i 0) (ns.getD j 0))
  (h:∀t h' tk,(∀b o,s.heap.get? b=some o->h'.get? b=some o)->argBest (λi j=>bt (ns.getD i 0) (ns.getD j 0)) (ns.length-1)<ns.length->Q (.int (ns.getD (argBest (λi j=>bt (ns.getD i 0) (ns.getD j 0)) (ns.length-1)) 0) t) { s with heap:=h',toks:=tk }) :
  wpAny (model X.prog X.w) X.A (call (.builtin f) [.ref p]) Q X.xe s:=by
 have hh:X.A.in1.handled=none:=I.ok.hd hc;have up:∀{us:List Value} (P:Nat->Value->Prop) (hi:IntsAre us ns),(∀i v,P i v->us.toArray[i]?=some v)->∀i v,P i v->∃t,v=.int (ns.getD i 0) t:=λP hi hP i v q=>zl hi i v (by simpa using hP i v q);have best:∀{us:List Value} (hi:IntsAre us ns) (v:Value) (h':Heap) (tk:Nat),us.toArray[argBest (λi j=>bt (ns.getD i 0) (ns.getD j 0)) (us.toArray.size-1)]?=some v->(∀b o,s.heap.get? b=some o->h'.get? b=some o)->Q v { s with heap:=h',toks:=tk }:=λ{us} hi v h' tk e k=>by
  have hl:=hi.length;rw[aah,hl]at e;have e':us[argBest (λi j=>bt (ns.getD i 0) (ns.getD j 0)) (ns.length-1)]?=some v:=by simpa using e
  obtain⟨t,rfl⟩:=zl hi _ v e';exact h t h' tk k (by have:=(Z9.mp e').1;omega)
 rcases hq with hq|hq
 ·obtain⟨its,rv,pl,hz⟩:=I.list hq
  have hi:=intsAre_of rv;have hl:=hi.length;have hpl:=pl.isList;have hlt:p<s.heap.objs.size:=by obtain⟨_,e,_⟩:=hpl;exact aaf e
  refine hf (abB hpl ⟨s.heap.objs.size,[s.heap.objs.size,p],[s.heap.objs.size],its.toArray.size,_,_,λi j=>bt (ns.getD i 0) (ns.getD j 0),rfl,Walks.list hh _ p (aaj hlt) its.toArray,⟨⟨_,aam _ rfl,rfl,rfl⟩,hpl.push _⟩,λb hb=>?_,by rw[aah];omega,
   hcmp _ (up _ hi λi v q=>q),λv h' tk e k=>?_⟩)
  ·simp only[size_push']
   rcases aal.mp hb with z|z
   ·rw[z];exact aaT _
   ·rw[aau.mp z];exact aa4 hlt
  ·exact best hi v h' tk e λb o z=>k b o (by simp;exact aaj (aaf z)) (Z4 _ z)
 ·obtain⟨its,rv,pl,hz⟩:=I.tuple hq
  have hi:=intsAre_of rv;have hl:=hi.length;have hpl:s.heap.IsTuple p its.toArray:=pl;have hlt:p<s.heap.objs.size:=by obtain⟨_,e,_⟩:=hpl;exact aaf e
  refine hf (wpAny_pyIter_tuple hpl ⟨s.heap.objs.size,[s.heap.objs.size,p],[s.heap.objs.size],its.toArray.size,_,_,λi j=>bt (ns.getD i 0) (ns.getD j 0),rfl,Walks.tuple hh _ p (aaj hlt) its.toArray,⟨⟨_,aam _ rfl,rfl,rfl⟩,?_⟩,λb hb=>?_,by rw[aah];omega,
   hcmp _ (up _ hi λi v q=>q),λv h' tk e k=>?_⟩)
  ·obtain⟨o,e,c⟩:=hpl;exact⟨o,Z4 _ e,c⟩
  ·simp only[size_push']
   rcases aal.mp hb with z|z
   ·rw[z];exact aaT _
   ·rw[aau.mp z];exact aa4 hlt
  ·exact best hi v h' tk e λb o z=>k b o (by simp;exact aaj (aaf z)) (Z4 _ z)
theorem uq(hc:X.calm=true):bR X (.builtin "min") (λxs H Q=>∃(p:Addr) (ns:List Int),xs=[.ref p]/\(fR X.K H p (ns.map V.int)\/iy X.K H p (ns.map V.int))/\0<ns.length/\∀m,m∈ns->(∀a∈ns,m<=a)->Q (.int m) H):=by
 intro pins s σ H xs us Q I r h;obtain⟨p,ns,rfl,hq,hne,q⟩:=h;obtain⟨u,rfl,ru⟩:=vals1 r;cases ru;refine r9 (bt:=λa b=>decide (a<b)) (op:=.Lt) I hc hq hne (λ{Q} h=>call_min_walk h) (λP hP=>?_) λt h' tk k hb=>⟨.int _,H,I.kept k,⟨t,rfl⟩,q _ ?_ λa ha=>?_⟩
 ·intro i j x y s' Q' E' hx hy hQ;obtain⟨t,rfl⟩:=hP i x hx;obtain⟨t',rfl⟩:=hP j y hy;exact lt_int (by simpa using hQ)
 ·exact getD_mem hb
 ·obtain⟨j,hj,rfl⟩:=mem_getD ha;exact(argBest_lt (λi=>ns.getD i 0) (ns.length-1)).2 j (by omega)
theorem ur(hc:X.calm=true):bR X (.builtin "max") (λxs H Q=>∃(p:Addr) (ns:List Int),xs=[.ref p]/\(fR X.K H p (ns.map V.int)\/iy X.K H p (ns.map V.int))/\0<ns.length/\∀m,m∈ns->(∀a∈ns,a<=m)->Q (.int m) H):=by
 intro pins s σ H xs us Q I r h;obtain⟨p,ns,rfl,hq,hne,q⟩:=h;obtain⟨u,rfl,ru⟩:=vals1 r;cases ru;refine r9 (bt:=λa b=>decide (a>b)) (op:=.Gt) I hc hq hne (λ{Q} h=>call_max_walk h) (λP hP=>?_) λt h' tk k hb=>⟨.int _,H,I.kept k,⟨t,rfl⟩,q _ ?_ λa ha=>?_⟩
 ·intro i j x y s' Q' E' hx hy hQ;obtain⟨t,rfl⟩:=hP i x hx;obtain⟨t',rfl⟩:=hP j y hy;exact gt_int (by simpa using hQ)
 ·exact getD_mem hb
 ·obtain⟨j,hj,rfl⟩:=mem_getD ha;exact(argBest_gt (λi=>ns.getD i 0) (ns.length-1)).2 j (by omega)
end
section
variable {X:Cx}
theorem pO{bs:List Bool}:∀{us:List Value},Vals (bs.map V.bl) us->us=bs.map Value.bool:=by
 induction bs with
 |nil=>intro us r;cases r;rfl
 |cons a bs ih=>
  intro us r;cases r with
  |cons r1 r2=>cases r1;rw[ih r2];rfl
theorem pP(bs:List Bool):((List.range bs.length).all λi=>bs.getD i true)=bs.all id:=by
 conv=>rhs;rw[<-qX.cK bs true]
 rw[List.all_map];rfl
theorem pQ(bs:List Bool):((List.range bs.length).any λi=>bs.getD i false)=bs.any id:=by
 conv=>rhs;rw[<-qX.cK bs false]
 rw[any_map];rfl
theorem qY(hc:X.calm=true):bR X (.builtin "all") (λxs H Q=>∃(p:Addr) (bs:List Bool),xs=[.ref p]/\fR X.K H p (bs.map V.bl)/\Q (.bl (bs.all id)) H):=by
 intro pins s σ H xs us Q I r h;obtain⟨p,bs,rfl,hq,q⟩:=h;obtain⟨u,rfl,ru⟩:=vals1 r;cases ru;obtain⟨its,rv,pl,hz⟩:=I.list hq;have ev:=pO rv;subst ev;have hpl:=pl.isList;have hlt:p<s.heap.objs.size:=by obtain⟨_,e,_⟩:=hpl;exact aaf e
 refine call_all_walk (abB hpl ⟨s.heap.objs.size,[s.heap.objs.size,p],[s.heap.objs.size],_,_,_,λi=>bs.getD i true,rfl,Walks.list (A:=X.A.in1) (I.ok.hd hc) _ p (aaj hlt) (bs.map Value.bool).toArray,
  ⟨⟨_,aam _ rfl,rfl,rfl⟩,hpl.push _⟩,λi v s' Q' E' hP hQ=>?_,λh' tk hk=>?_⟩)
 ·have hi:i<bs.length:=by simpa using (aaW.mp hP).1
  have e:v=Value.bool (bs.getD i true):=by
   have:(bs.map Value.bool)[i]?=some v:=by simpa using hP
   simp[hi]at this;simp[hi,this]
  subst e;exact aaN hQ
 ·have e:((List.range (bs.map Value.bool).toArray.size).all λi=>bs.getD i true)=bs.all id:=by rw[aah,Z8];exact pP bs
  rw[e];exact⟨.bl _,H,I.kept λb o z=>hk b o (by simp;exact aaj (aaf z)) (Z4 _ z),rfl,q⟩
theorem qZ(hc:X.calm=true):bR X (.builtin "any") (λxs H Q=>∃(p:Addr) (bs:List Bool),xs=[.ref p]/\fR X.K H p (bs.map V.bl)/\Q (.bl (bs.any id)) H):=by
 intro pins s σ H xs us Q I r h;obtain⟨p,bs,rfl,hq,q⟩:=h;obtain⟨u,rfl,ru⟩:=vals1 r;cases ru;obtain⟨its,rv,pl,hz⟩:=I.list hq;have ev:=pO rv;subst ev;have hpl:=pl.isList;have hlt:p<s.heap.objs.size:=by obtain⟨_,e,_⟩:=hpl;exact aaf e
 refine call_any_walk (abB hpl ⟨s.heap.objs.size,[s.heap.objs.size,p],[s.heap.objs.size],_,_,_,λi=>bs.getD i false,rfl,Walks.list (A:=X.A.in1) (I.ok.hd hc) _ p (aaj hlt) (bs.map Value.bool).toArray,
  ⟨⟨_,aam _ rfl,rfl,rfl⟩,hpl.push _⟩,λi v s' Q' E' hP hQ=>?_,λh' tk hk=>?_⟩)
 ·have hi:i<bs.length:=by simpa using (aaW.mp hP).1
  have e:v=Value.bool (bs.getD i false):=by
   have:(bs.map Value.bool)[i]?=some v:=by simpa using hP
   simp[hi]at this;simp[hi,this]
  subst e;exact aaN hQ
 ·have e:((List.range (bs.map Value.bool).toArray.size).any λi=>bs.getD i false)=bs.any id:=by rw[aah,Z8];exact pQ bs
  rw[e];exact⟨.bl _,H,I.kept λb o z=>hk b o (by simp;exact aaj (aaf z)) (Z4 _ z),rfl,q⟩
section
open PySem.AutoSeq1 (wpAny_loadPart')
theorem uu(l b:Addr)(items items2:Array Value)(n n2:Nat)(dd2:Option Addr)(sl2:Array (Option Value))(hs0:¬(!items.isEmpty&&Builtin.List.listTooLong (items.size+items2.size))=true)(hs1:items.size<=sizeLine)(hs2:items.size+items2.size<=sizeLine+1) :
  Meets (Builtin.«list.extend» ⟨[.ref l,.ref b],[]⟩) (λ_ R s=>s.heap.get? l=some { cls:=.type "list",data:=.seq items n }/\s.heap.get? b=some { cls:=.type "tuple",dict:=dd2,data:=.seq items2 n2,slots:=sl2 } /\
   R (.ok (.ret Value.none)) { s with heap:=s.heap.update l (Obj.mapSeq λx=>x++items2) }) :=
 .of_wp λprog w A R s h=>by
  obtain⟨hp,g,d,tk,os⟩:=s;obtain⟨hl,hb,h⟩:=h;have f2:=AutoSeq1.sub_tuple_tuple;have f3:=AutoSeq1.sub_list_list;have f4:=AutoSeq1.sub_tuple_list;have f5:=AutoSeq1.sub_list_tuple;have hz':(items++items2).size<=sizeLine+1:=by rw[Array.size_append];exact hs2
  wp_walk using (wpAny_updateSeq hl rfl (hz:=hs1) (_hz':=hz')),wpAny_loadPart' hl,wpAny_loadPart' hb
  exact⟨_,rfl,h⟩
end
def CF(K:Frag):V->List V->Hp->VK->Prop:=λx vs H Q=>∃l b xs zs,x=.ref l/\vs=[.ref b]/\H l=some (.lst xs)/\iy K H b zs/\xs.length+zs.length<=sizeLine/\Q .non (upd H l (.lst (xs++zs)))
theorem yg:Sf X "list.extend" (CF X.K):=by
 intro pins s σ H x vs v us Q I rx rv h;obtain⟨l,b,xs,zs,rfl,rfl,hH,hB,hz,q⟩:=h;cases rx;obtain⟨u,rfl,ru⟩:=rv.one;cases ru;obtain⟨z,its,n,r,hl,e⟩:=I.Cq hH;obtain⟨its2,r2,⟨⟨oc,od,Si,osl⟩,e2,ec,n2,ed⟩,z2⟩:=I.tuple hB;cases ec;cases ed;have l2:=r2.length;have hsz:its.toArray.size+its2.toArray.size<=sizeLine:=by rw[aah,aah];omega
 have Cr:¬ (!its.toArray.isEmpty&&Builtin.List.listTooLong (its.toArray.size+its2.toArray.size))=true:=by rw[vt hsz,Bool.and_false];exact Z3
 refine call_meets F.slot_list_extend ⟨_,e,rfl⟩ F.entry_list_extend (F.args_list_extend_2 _ _)
  (uu l b its.toArray its2.toArray n n2 od osl Cr (by rw[aah];omega) (by omega)) ⟨e,e2,?_⟩
 refine⟨.non,_,I.FU (its':=its++its2) hH e (by simp) (r.append r2) ?_,rfl,q⟩;rw[aao];omega
end
end L2
end
section
namespace L2
open PySem
def sd(xs:Array Nat):Prop:=xs.toList.Pairwise (· < ·)
structure Cut (xs:Array Nat) (j p:Nat):Prop where
 le:p<=xs.size
 lo:∀(i:Nat) (hi:i<xs.size),i<p->xs[i]<j
 hi:∀(i:Nat) (hi:i<xs.size),p<=i->j<=xs[i]
theorem Cut.one{xs:Array Nat}{j p q:Nat}(a:Cut xs j p)(b:Cut xs j q):p=q:=by
 rcases Nat.lt_trichotomy p q with h|h|h
 ·have hp:p<xs.size:=aai h b.le;have:=a.hi p hp (aag _);have:=b.lo p hp h;omega
 ·exact h
 ·have hq:q<xs.size:=aai h a.le;have:=b.hi q hq (aag _);have:=a.lo q hq h;omega
theorem sd.get{xs:Array Nat}(r:sd xs){a b:Nat}(ha:a<xs.size)(hb:b<xs.size)(h:a<b):xs[a]<xs[b]:=by
 have:=abJ.mp r a b (by simpa using ha) (by simpa using hb) h;simpa using this
theorem yh{xs:Array Nat}(r:sd xs)(j:Nat):∀(fuel lo hi:Nat),lo<=hi->hi<=xs.size->hi-lo<=fuel->(∀(i:Nat) (hi:i<xs.size),i<lo->xs[i]<j)->(∀(i:Nat) (h:i<xs.size),hi<=i->j<=xs[i])->Cut xs j (SetTable.below.go xs j fuel lo hi)
 | 0,lo,hi,h1,h2,h3,a,b=>by
  have:lo=hi:=by omega
  subst this;exact⟨h2,a,b⟩
 | fuel+1,lo,hi,h1,h2,h3,a,b=>by
  unfold SetTable.below.go
  by_cases hlt:lo<hi
  ·rw[aae hlt]
   dsimp only;have hm:(lo+hi)/2<xs.size:=by omega
   have eg:xs.getD ((lo+hi)/2) j=xs[(lo+hi)/2]:=by simp[Array.getD,hm]
   rw[eg]
   by_cases hc:xs[(lo+hi)/2]<j
   ·rw[aae hc]
    refine yh r j fuel _ hi (by omega) h2 (by omega) (λi hi' hl=>?_) b
    by_cases e:i=(lo+hi)/2
    ·subst e;exact hc
    ·exact abY (r.get hi' hm (by omega)) hc
   ·rw[aac hc]
    refine yh r j fuel lo _ (by omega) (by omega) (by omega) a (λi hi' hl=>?_)
    by_cases e:i=(lo+hi)/2
    ·subst e;omega
    ·have:=r.get hm hi' (by omega);omega
  ·rw[aac hlt]
   have:lo=hi:=by omega
   subst this;exact⟨h2,a,b⟩
theorem jE{xs:Array Nat}(r:sd xs)(j:Nat):Cut xs j (SetTable.below xs j) :=
 yh r j xs.size 0 xs.size (abd _) (aag _) (by omega) (λi _ h=>by omega) (λi h hl=>by omega)
theorem yi{xs:Array Nat}(r:sd xs):SetTable.below xs 0=0:=(jE r 0).one ⟨abd _,λi _ h=>by omega,λi _ _=>abd _⟩
theorem yj{xs:Array Nat}(r:sd xs){i:Nat}(hi:i<xs.size):SetTable.below xs (xs[i]+1)=i+1:=by
 refine(jE r _).one ⟨hi,λk hk h=>?_,λk hk h=>?_⟩
 ·by_cases e:k=i
  ·subst e;omega
  ·have:=r.get hk hi (by omega);omega
 ·have:=r.get hi hk (by omega);omega
theorem AX{xs:Array Nat}(r:sd xs){j:Nat}(h:j∈xs):xs[SetTable.below xs j]?=some j:=by
 obtain⟨k,hk,e⟩:=Array.mem_iff_getElem.mp h;have:SetTable.below xs j=k:=by
  refine(jE r j).one ⟨abb hk,λi hi h=>?_,λi hi h=>?_⟩
  ·have:=r.get hi hk h;omega
  ·by_cases e':i=k
   ·subst e';omega
   ·have:=r.get hk hi (by omega);omega
 rw[this,aaK hk,e]
theorem AY{xs:Array Nat}(r:sd xs){j:Nat}(h:j∉xs):sd (SetTable.insertAt xs (SetTable.below xs j) j):=by
 have c:=jE r j;unfold sd;rw[SetTable.toList_insertAt];have rl:xs.toList.Pairwise (· < ·):=r;have lo:∀a∈xs.toList.take (SetTable.below xs j),a<j:=λa ha=>by
  obtain⟨i,hi,e⟩:=acd.mp ha;rw[abl,aaE]at hi;rw[List.getElem_take]at e;have:=c.lo i (by omega) (by omega);rw[<-e];simpa using this
 have up:∀a∈xs.toList.drop (SetTable.below xs j),j<a:=λa ha=>by
  obtain⟨i,hi,e⟩:=acd.mp ha;rw[ab5,aaE]at hi;rw[List.getElem_drop]at e;have h1:=c.hi (SetTable.below xs j+i) (by omega) (by omega);have e':xs[SetTable.below xs j+i]'(by omega)=a:=by rw[<-e];simp
  rw[e']at h1;have:a≠j:=λz=>h (by rw[<-z,<-e'];exact Array.getElem_mem _);omega
 rw[List.pairwise_append];refine⟨rl.sublist (List.take_sublist _ _),abU.mpr ⟨up,rl.sublist (List.drop_sublist _ _)⟩,λa ha b hb=>?_⟩
 rcases aal.mp hb with e|hb
 ·rw[e];exact lo a ha
 ·exact abY (lo a ha) (up b hb)
theorem ly(n:Nat):sd (Array.range n):=by
 unfold sd;rw[Array.toList_range];exact List.pairwise_lt_range
theorem se{t:SetTable}(r:sd t.place){j:Nat}(h:t.slot j=.empty\/t.slot j=.dummy):j∉t.place:=λhm=>by
 have e:=AX r hm;unfold SetTable.slot at h;dsimp only at h;rw[e]at h;simp at h
theorem kB{h:Int}:∀(fuel:Nat) (p:SetTable.Probe) (j:Nat) (d:Option Nat),(∀k,p.dummy=some k->t.slot k=.dummy)->SetTable.probe.go t f h fuel p=some (.empty j d)->t.slot j=.empty/\∀k,d=some k->t.slot k=.dummy
 |0,p,j,d,hd,e=>by simp[SetTable.probe.go]at e
 | fuel+1,p,j,d,hd,e=>by
  have ad:∀q:SetTable.Probe,(t.advance q).dummy=q.dummy:=λq=>by unfold SetTable.advance;split<;>rfl
  unfold SetTable.probe.go at e;split at e
  ·rename_i hs;cases e;exact⟨hs,hd⟩
  ·rename_i hs;refine kB fuel _ j d (λk hk=>?_) e;rw[ad]at hk;cases hk;exact hs
  ·split at e
   ·cases e
   ·exact kB fuel _ j d (λk hk=>hd k (by rw[<-ad];exact hk)) e
theorem CG{t:SetTable}(r:sd t.place){h:Int}{s:Nat}{b:Bool}(e:t.freeSlot h=some (s,b)):s∉t.place:=by
 unfold SetTable.freeSlot at e;split at e
 ·rename_i j d hp
  cases e;obtain⟨h1,h2⟩:=kB _ _ _ _ (λk hk=>by simp[SetTable.probeStart]at hk) hp;cases d with
  |none=>exact se r (.inl h1)
  |some k=>exact se r (.inr (h2 k rfl))
 ·cases e
theorem AZ(r:sd t.place)(es:Array (Int×Value))(h:Int)(x:Value):sd (layNew t es h x).2.1.place/\(layNew t es h x).2.1.led=t.led:=by
 unfold layNew
 split
 ·rename_i s b e
  have fr:=CG r e;dsimp only;unfold SetTable.orStandIn
  split
  ·exact⟨AY r fr,rfl⟩
  ·exact⟨ly _,rfl⟩
 ·exact⟨ly _,rfl⟩
theorem CH(r:sd t.place)(es:Array (Int×Value))(n:Nat):sd (relayAll t es n).2.1.place/\(relayAll t es n).2.1.led=t.led:=by
 unfold relayAll
 split
 ·rename_i t' order e
  dsimp only
  split
  ·unfold SetTable.relaid SetTable.laid at e;obtain⟨ow,e1,e⟩:=Z5.mp e;cases e;refine⟨?_,rfl⟩;show List.Pairwise _ (List.map _ _).toArray.toList;rw[List.toList_toArray,ab1];refine List.Pairwise.filterMap _ (R:=(· < ·)) (λa a' hl b hb b' hb'=>?_) List.pairwise_lt_range;obtain⟨x,_,rfl⟩:=aaw.mp hb;obtain⟨y,_,rfl⟩:=aaw.mp hb';exact hl
  ·exact⟨ly _,rfl⟩
 ·exact⟨ly _,rfl⟩
end L2
end
section
namespace L2
open PySem PyProof.Rows
def rj(w:World):Bool:=w.params.followText "set-order"
structure Jl (w:World) (es:Array (Int×Value)) (t:SetTable):Prop where
 few:es.size<scanBound
 fit:t.fits es.size=true
 rs:sd t.place
 led:t.led = !rj w
structure dQ (prog:Program) (w:World) (h:Heap) (a:Addr) (o:Obj) (es:Array (Int×Value)) (ep:Nat) (t:SetTable) (ks:List Int):Prop where
 at_:h.get? a=some o
 ex:o.ExactSet
 dat:o.data=.set es ep t
 el:ElemsOf (intKind prog w) es.toList
 tab:Jl w es t
 VS:ks.Nodup
 mem:∀k,k∈ks↔∃e∈es.toList,(intKind prog w).is k e.2=true
 num:es.size=ks.length
def oE(prog:Program)(w:World)(h:Heap)(a:Addr)(ks:List Int):Prop:=∃o es ep t,dQ prog w h a o es ep t ks
def iU(ks:List Int)(k:Int):List Int:=if k∈ks then ks else ks++[k]
section
variable {prog:Program} {w:World} {A:Around} {E:Value->Shared->Prop} {s:Shared}
theorem CI{h:Heap}{a:Addr}{o:Obj}{es es':Array (Int×Value)}{ep:Nat}{t t':SetTable}(ho:h.get? a=some o)(hd:o.data=.set es ep t):(h.update a (Obj.putSet es' t')).get? a=some { o with data:=.set es' (ep+1) t' }:=by
 have q:=aaD (Obj.putSet es' t') ho (by rw[putSet_of es' t' hd];rfl);rw[putSet_of es' t' hd]at q;exact q
theorem oE.frame{ks:List Int}(S:oE prog w h a ks)(k:∀o,h.get? a=some o->h'.get? a=some o):oE prog w h' a ks:=by
 obtain⟨o,es,ep,t,i⟩:=S;exact⟨o,es,ep,t,{ i with at_:=k o i.at_ }⟩
theorem mem_push{es es1:List (Int×Value)}{ks:List Int}{k:Int}(hx:(intKind prog w).is k x=true)(hm:∀j,j∈ks↔∃e∈es,(intKind prog w).is j e.2=true)(p:es1.Perm (es++[((intKind prog w).hash k,x)]))(j:Int) :
  j∈ks++[k]↔∃e∈es1,(intKind prog w).is j e.2=true:=by
 rw[abx,aau,hm];constructor
 ·rintro(⟨e,he,q⟩|rfl)
  ·exact⟨e,p.mem_iff.mpr (abi _ he),q⟩
  ·exact⟨_,p.mem_iff.mpr (aaz _ aad),hx⟩
 ·rintro⟨e,he,q⟩
  rcases abx.mp (p.mem_iff.mp he) with z|z
  ·exact .inl ⟨e,z,q⟩
  ·rw[aau]at z;subst z;exact .inr ((intKind prog w).inj x j k q hx)
theorem vI{g:Bool->Sem Unit}(hg:∀(b:Bool) (s₁:Shared) (Q':Unit->Shared->Prop),Q' () s₁->wpAny (model prog w) A (g b) Q' E s₁)
  {a:Addr} {o:Obj} {es es1:Array (Int×Value)} {ep:Nat} {t t2:SetTable} {ks:List Int} (ho:s.heap.get? a=some o) (hex:o.ExactSet) (hd:o.data=.set es ep t)
  (hel:ElemsOf (intKind prog w) es1.toList) (hm:∀k,k∈ks↔∃e∈es1.toList,(intKind prog w).is k e.2=true) (hnd:ks.Nodup) (hn:es1.size=ks.length) (ht:Jl w es1 t2) {b:Bool} {R:Option Bool->Shared->Prop}
  (h:∀h',Heap.SameBut a s.heap h'->oE prog w h' a ks->R (some true) { s with heap:=h' }) :
  wpAny (model prog w) A (do
    storeSet a es1 t2
    if (!b&&t2.tooFull)=true then do
      g (relayAll t2 es1 (SetTable.grown es1.size)).2.2
      storeSet a (relayAll t2 es1 (SetTable.grown es1.size)).1 (relayAll t2 es1 (SetTable.grown es1.size)).2.1
      pure (some true)
     else pure (some true)) R E s:=by
 refine Z2 (wpAny_storeSet_of ho hd ?_ (ab2 ht.few));have h1:=CI (es':=es1) (t':=t2) ho hd;have b1:=aaP s.heap a (Obj.putSet es1 t2)
 split
 ·have p:=relayAll_perm t2 es1 (SetTable.grown es1.size)
  have f:=relayAll_fits t2 es1 (SetTable.grown es1.size);have rr:=CH ht.rs es1 (SetTable.grown es1.size);generalize relayAll t2 es1 (SetTable.grown es1.size)=Rl at p f rr |-;obtain⟨TU,t3,gv⟩:=Rl;dsimp only at p f rr |-;have z:TU.size=es1.size:=by rw[<-aaE,p.length_eq,aaE]
  have few:TU.size<scanBound:=by rw[z];exact ht.few
  refine Z2 (hg _ _ _ ?_);refine Z2 (wpAny_storeSet_of h1 rfl ?_ (ab2 few));refine Z7 (h _ (b1.trans (aaP _ a _)) ⟨_,TU,_,t3,CI h1 rfl,hex,rfl,hel.perm p,⟨few,f,rr.1,rr.2.trans ht.led⟩,hnd,λk=>(hm k).trans ⟨λ⟨e,he,q⟩=>⟨e,p.mem_iff.mpr he,q⟩,λ⟨e,he,q⟩=>⟨e,p.mem_iff.mp he,q⟩⟩,z.trans hn⟩)
 ·exact Z7 (h _ b1 ⟨_,es1,_,t2,h1,hex,rfl,hel,ht,hnd,hm,hn⟩)
theorem add_int{ks:List Int}{k:Int}(S:oE prog w s.heap a ks)(room:ks.length+1<scanBound)
  (h:∀h' b,Heap.SameBut a s.heap h'->oE prog w h' a (iU ks k)->Q b { s with heap:=h' }) :
  wpAny (model prog w) A (setAddHashed a (.int k tk) ((intKind prog w).hash k)) Q E s:=by
 obtain⟨o,es,ep,t,I⟩:=S;have hx:(intKind prog w).is k (.int k tk)=true:=intKind_is _ _ _ _;have sc:(Value.int k tk).scannable=true:=rfl;unfold setAddHashed setAddHashedIn;refine aaM (Z2 (aa5 I.at_ I.dat I.tab.fit ?_));dsimp only;rw[byScan_of sc I.tab.few I.el];simp only[↓reduceIte];unfold setAddByScan;refine Z2 (Z2 (wpAny_rule (Z2 (wpAny_setScan_of hx I.at_ I.dat I.tab.fit I.el ?_))));cases hr:List.findIdx? (λe=>(intKind prog w).is k e.2) es.toList with
 |some j=>
  dsimp only;obtain⟨hj,pj,_⟩:=List.findIdx?_eq_some_iff_getElem.mp hr;have hk:k∈ks:=(I.mem k).mpr ⟨es.toList[j],acv hj,pj⟩;refine Z7 (Z7 ?_);have e:s={ s with heap:=s.heap }:=by cases s;rfl
  rw[e];exact h s.heap _ (Heap.SameBut.refl a s.heap) (by unfold iU;rw[aae hk];exact⟨o,es,ep,t,I⟩)
 |none=>
  dsimp only;have hk:k∉ks:=λz=>by
   obtain⟨e,he,p⟩:=(I.mem k).mp z;have:=List.findIdx?_eq_none_iff.mp hr e he;rw[p]at this;cases this
  have gw:∀(b:Bool) (s₁:Shared) (Q':Unit->Shared->Prop),Q' () s₁->wpAny (model prog w) A (match b with|true=>rule "set.scan.the-table-gave-way" | false=>pure ()) Q' E s₁:=λb s₁ Q' q=>by
   cases b
   ·exact Z7 q
   ·exact wpAny_rule q
  have p:=layNew_perm t es ((intKind prog w).hash k) (.int k tk);have f:=layNew_fits t es ((intKind prog w).hash k) (.int k tk);have rr:=AZ I.tab.rs es ((intKind prog w).hash k) (.int k tk);generalize layNew t es ((intKind prog w).hash k) (.int k tk)=Ln at p f rr |-;obtain⟨es1,t1,wd,gv⟩:=Ln;dsimp only at p f rr |-;rw[Array.toList_push]at p;have z:es1.size=(ks++[k]).length:=by rw[<-aaE,p.length_eq,aao,aao,aaE,I.num];rfl
  have few:es1.size<scanBound:=by rw[z,aao];simpa using room
  have nd:(ks++[k]).Nodup:=by rw[abC];exact⟨I.VS,by simp,λx hx' y hy e=>hk (by rw[aau]at hy;rw[<-hy,<-e];exact hx')⟩
  have VT:ElemsOf (intKind prog w) es1.toList:=(I.el.push hx sc).perm p;have m1:=mem_push hx I.mem p;have fin:∀h',Heap.SameBut a s.heap h'->oE prog w h' a (ks++[k])->Q true { s with heap:=h' }:=λh' sb S'=>h h' true sb (by unfold iU;rw[aac hk];exact S');refine Z2 (gw _ _ _ ?_)
  split
  ·refine Z2 ?_
   rw[hashByValue_scannable 8 sc];refine Z7 ?_;refine vI gw I.at_ I.ex I.dat VT m1 nd z ⟨few,?_,?_,?_⟩ λh' sb S'=>Z7 (fin h' sb S')
   ·split
    ·exact f
    ·exact SetTable.fits_plain_off f
   ·split
    ·exact rr.1
    ·exact rr.1
   ·split
    ·exact rr.2.trans I.tab.led
    ·exact rr.2.trans I.tab.led
  ·refine Z2 (Z7 ?_);simp only[↓reduceIte];exact vI gw I.at_ I.ex I.dat VT m1 nd z ⟨few,f,rr.1,rr.2.trans I.tab.led⟩ λh' sb S'=>Z7 (fin h' sb S')
end
def aV:List Int->List Int->List Int
 |ks,[]=>ks
 |ks,k::r=>aV (iU ks k) r
theorem lz(ks:List Int)(k:Int):(iU ks k).length<=ks.length+1:=by unfold iU;split<;>simp
section
variable {prog:Program} {w:World} {A:Around} {E:Value->Shared->Prop} {s:Shared}
theorem CJ{R:Result->Shared->Prop}{I:Addr}{fp wr:List Addr}{G:Array GenState->Array GenState->Prop}{n:Nat}{P:Nat->Value->Prop}{St:Nat->Shared->Prop}(W:WalksS prog w A.in1 I fp wr G n P St)(S:Addr)(hSf:S∉fp)(val:Nat->Int)(hval:∀i v,P i v->∃t,v=.int (val i) t) :
  ∀(k i:Nat) (s:Shared) (ks:List Int),n-i=k->i<=n->ks.length+k+1<scanBound->St i s->oE prog w s.heap S ks ->
   (∀s',Moved (S::wr) G s s'->oE prog w s'.heap S (aV ks ((range' i k).map val))->R (.ok (.ret .none)) s') ->
   codeAny (model prog w) A (.builtin "set.update.loop" ⟨[.ref S,.ref I],[]⟩) R s:=by
 have VU:S∉wr:=λh=>hSf (W.sub _ h);have sub:∀b∈wr,b∈S::wr:=λb hb=>Z6 _ hb;intro k
 induction k with
 |zero=>
  intro i s ks hk hi _ hst hS hR;have:i=n:=by omega
  subst this;refine aby PyProof.Rows.F.entry_set_update_loop ?_;rw[abj aba _];show wpAny _ A.in1 (pyNext (.ref I) >>= _) _ _ s;refine Z2 (W.done s _ _ hst λs' hm=>?_);show wpAny _ A.in1 (ret Value.none) _ _ s';exact Z7 (hR s' (hm.mono sub) (hS.frame λo e=>hm.heap S _ VU e))
 |succ k ih=>
  intro i s ks hk hi hl hst hS hR;have hlt:i<n:=by omega
  refine aby PyProof.Rows.F.entry_set_update_loop ?_;rw[abj aba _];show wpAny _ A.in1 (pyNext (.ref I) >>= _) _ _ s;refine Z2 (W.item i s _ _ hlt hst λv s' hP TV hm=>?_);obtain⟨t,rfl⟩:=hval i v hP;have hS':=hS.frame (h':=s'.heap) λo e=>hm.heap S _ VU e;show wpAny _ A.in1 (holding [Value.int (val i) t] (setAdd S (.int (val i) t)) >>= _) _ _ s';refine Z2 (aaM ?_);unfold setAdd;refine aaM (Z2 ((intKind prog w).pyHash (k:=val i) (intKind_is _ _ _ _) ?_));refine add_int (s:={ s' with toks:=s'.toks+1 }) hS' (by omega) λh' b sb S2=>?_;have hl2:=lz ks (val i);refine Z7 ⟨ab8 aba _,ih (i+1) _ (iU ks (val i)) (by omega) hlt (by omega) (W.frame _ s' _ _ TV (aaQ _) λb hb o e=>?_) S2 λs'' KN S3=>?_⟩
  ·rw[sb.2 b λz=>hSf (by rw[<-z];exact hb)];exact e
  ·refine hR s'' (Moved.trans W.gtrans ((hm.mono sub).then_heap (aaQ _) λb o hb e=>?_) KN) ?_
   ·rw[sb.2 b λz=>hb (by rw[z];exact aad)];exact e
   ·rw[List.range'_succ,aap,aV];exact S3
abbrev pR(w:World):Obj:={ cls:=.type "set",dict:=none,data:=.set #[] 0 (.fresh 0 0 (!rj w)) }
theorem Gk(e:h.get? a=some (pR w)):oE prog w h a [] :=
 ⟨_,#[],0,_,e,⟨rfl,rfl,rfl⟩,rfl,λx hx=>by simp at hx,⟨by show 0<4096;decide,rfl,aco,rfl⟩,abE,λk=>by simp,rfl⟩
theorem CK(a:Value)(h:Q₁ (.ref s.heap.objs.size) { s with heap:=s.heap.push (pR w) }) :
  codeAny (model prog w) A (.call (.builtin "set.__new__") ⟨[.type "set",a],[]⟩) (wants Q₁ E) s:=by
 refine codeAny_of_tree ?_;show wpAny _ A.in1 (do checkBuiltinCall "set.__new__" ⟨[.type "set",a],[]⟩;again (.builtin "set.__new__" ⟨[.type "set",a],[]⟩)) _ _ s;refine Z2 (wpAny_of_eq (PySem.F.newCall_set_1 a) (Z7 ⟨ab8 PySem.F.plain_set_new _,aby PySem.F.entry_set_new ?_⟩));rw[abj PySem.F.plain_set_new _];unfold Builtin.«set.__new__» Builtin.Frozenset.newClass;have hsub:=sub_set_self;obtain⟨hp,g,d,tk,os⟩:=s;dsimp only
 wp_walk
 refine wpAny_askSetting (Z7 ?_);dsimp only;simp only[newObj];refine Z2 (wpAny_alloc (Z7 ?_));exact Z7 h
end
section
variable {prog:Program} {w:World} {A:Around} {E:Value->Shared->Prop} {s:Shared}
theorem yk{ns:List Int}(hi:IntsAre vs ns):(range' 0 vs.length).map (λi=>ns.getD i 0)=ns:=by
 have hl:=IntsAre.length hi;apply ab7
 ·rw[Z8,List.length_range',hl]
 ·intro i h1 h2;simp[List.getD,h2]
theorem vJ{ns:List Int}(hh:A.handled=none)(hl:s.heap.IsList l items)(hi:IntsAre items.toList ns)(hb:items.size+1<scanBound)
  (h:∀(h':Heap) (tk:Nat),oE prog w h' s.heap.objs.size (aV [] ns)->(∀b o,b<s.heap.objs.size->s.heap.get? b=some o->h'.get? b=some o)->Q (.ref s.heap.objs.size) { s with heap:=h',toks:=tk }) :
  wpAny (model prog w) A (call (.type "set") [.ref l]) Q E s:=by
 obtain⟨c,tl,mro⟩:=PySem.F.called_set.mro;have made:=PySem.F.called_set.made;have sub:=PySem.F.called_set.sub;refine ab4 (codeAny_of_tree ?_);show wpAny _ _ (callAny (.type "set") _) _ _ _;refine Z7 ⟨Code.quiet_builtin _ (by decide +kernel),aby PySem.F.entry_type_call ?_⟩;rw[Around.under_plain (weight_type_call_type "set" [.ref l] []) rfl];have n1:=PySem.F.called_set.notType;have n2:=PySem.F.called_set.canCreate;have n3:=PySem.F.typeCall_set_1 (.ref l)
 repeat (any_goals (first|assumption|wp_step))
 refine abq (CK (.ref l) (E:=E) (Q₁:=λobj s₁=>obj=.ref s.heap.objs.size/\s₁={ s with heap:=s.heap.push (pR w) }) ⟨rfl,rfl⟩) λr s₁ hr=>?_;cases r with
 |error e=>exact hr
 |ok fl=>
  cases fl with
  |ret obj=>
   obtain⟨rfl,rfl⟩:=hr;have VW:(s.heap.push (pR w)).get? s.heap.objs.size=some (pR w):=aam _ rfl;have hT:Shared.TypeIs { s with heap:=s.heap.push (pR w) } (.ref s.heap.objs.size) "set":=⟨_,VW,rfl⟩;have look:=PySem.F.called_set.init.lookup;have bind:=PySem.F.called_set.init.bind (.ref s.heap.objs.size)
   repeat (any_goals (first|assumption|wp_step))
   refine abq (ace (R:=wants (λr s₂=>r=.none/\∃h' tk,s₂={ s with heap:=h',toks:=tk }/\oE prog w h' s.heap.objs.size (aV [] ns) /\
     (∀b o,b<s.heap.objs.size->s.heap.get? b=some o->h'.get? b=some o)) E) PySem.F.called_set.init.plain PySem.F.entry_set_init (check_set_init_1 hT ?_)) λr₂ s₂ TX=>?_
   ·obtain⟨ol,VX,cl,nl,dl⟩:=hl
    obtain⟨oc,od,ZO,os⟩:=ol;simp only at cl dl;subst cl;subst dl;have TY:(s.heap.push (pR w)).get? l=some { cls:=.type "list",dict:=od,data:=.seq items nl,slots:=os }:=Z4 _ VX;have q1:=PySem.F.sub_list_set;have q2:=PySem.F.sub_list_frozenset;have q3:(Value.type "list" == Value.type "dict")=false:=by decide
    have hl1:(s.heap.push (pR w)).IsList l items:=⟨_,TY,rfl,nl,rfl⟩;unfold Builtin.«set.__init__» noKeywords Builtin.Frozenset.updateFrom;generalize Xo:pyIter=PI
    wp_walk
    subst Xo;refine abB hl1 (Z2 (wpAny_runValue ?_));have lS:l<s.heap.objs.size:=aaf VX;have h3:A.in1.in1.in1.handled=none:=by simp[hh]
    have Xp:l≠(s.heap.push (pR w)).objs.size:=by rw[aaR];exact aaj (aa4 lS)
    have sF:s.heap.objs.size∉[(s.heap.push (pR w)).objs.size,l]:=by rw[aaR];simp only[mem_cons,not_mem_nil,or_false,not_or];exact⟨aaj (aaT _),abp lS⟩
    have val:∀(i:Nat) (v:Value),items[i]?=some v->∃t,v=.int ((λi=>ns.getD i 0) i) t:=λi v hv=>IntsAre.int_at hi i v (by rw[Array.getElem?_toList];exact hv);refine CJ ((Walks.list h3 _ l Xp items).toS) s.heap.objs.size sF (λi=>ns.getD i 0) val (items.size-0) 0 _ [] (by omega) (abd _) (by simpa using hb) ⟨⟨_,aam _ rfl,rfl,rfl⟩,hl1.push _⟩ ?s0 ?sR
    case s0=>exact Gk (Z4 _ VW)
    case sR=>
     intro s' hm S';obtain⟨h',g',d',tk',os'⟩:=s';have eg:g'=s.gens:=hm.gens;have ed:d'=s.drawn:=hm.drawn;have eo:os'=s.os:=hm.os;subst eg;subst ed;subst eo;refine Z7 ?_;show wpAny _ _ (ret Value.none) _ _ _;have e0:(range' 0 (items.size-0)).map (λi=>ns.getD i 0)=ns:=by have:=yk hi;rw[aaE]at this;exact this
     rw[e0] at S';refine Z7 ⟨rfl,h',tk',rfl,S',λb o hb e=>?_⟩;have b1:b≠s.heap.objs.size:=aaj hb;have b2:b≠(s.heap.push (pR w)).objs.size:=by rw[aaR];exact aaj (aa4 hb)
     exact hm.heap b o (by simp only[mem_cons,not_mem_nil,or_false,not_or];exact⟨b1,b2⟩) (Z4 _ (Z4 _ e))
   ·cases r₂ with
    |error e=>exact TX
    |ok Xq=>
     cases Xq with
     |ret r=>
      obtain⟨rfl,h',tk,rfl,S',hk⟩:=TX
      repeat (any_goals (first|assumption|wp_step))
      exact h _ _ S' hk
     |_=>exact TX.elim
  |_=>exact hr.elim
end
namespace SI
theorem yl:entryFor table "set.__iter__" = some Builtin.«frozenset.__iter__» :=
 entryFor_alias (id':="frozenset.__iter__") (by kernel_rfl) rfl (by decide +kernel) (by kernel_rfl)
theorem owner:Manifest.owners.lookup (String.ofList ['r','o','t','a','r','e','t','i','_','t','e','s'].reverse)=some Manifest.sig_set_iterator:=by kernel_rfl
theorem slot_next:Slot "set_iterator" "__next__" "set_iterator.__next__" :=
 .of (owner:="set_iterator") (n:="__next__") (by rw[typeLookup_type,builtinLookup_eq_fast];kernel_rfl) (by decide +kernel) (by decide +kernel) (by decide +kernel) (by first|exact .inl (by decide +kernel)|exact .inr (by decide +kernel)) (by rw[isSubtype_type];kernel_rfl)
theorem entry_next:entryFor table "set_iterator.__next__" = some Builtin.«set_iterator.__next__»:=entryFor_of_tree (by kernel_rfl)
theorem args_next(a:Value):argsOk "set_iterator.__next__" ⟨[a],[]⟩:=by
 unfold argsOk;rw[signature?_of (id:="set_iterator.__next__") (n:=['_','_','t','x','e','n','_','_']) (o:=['r','o','t','a','r','e','t','i','_','t','e','s']) (by kernel_rfl) owner];kernel_rfl
theorem sf:Slot "set_iterator" "__iter__" "set_iterator.__iter__" :=
 .of (owner:="set_iterator") (n:="__iter__") (by rw[typeLookup_type,builtinLookup_eq_fast];kernel_rfl) (by decide +kernel) (by decide +kernel) (by decide +kernel) (by first|exact .inl (by decide +kernel)|exact .inr (by decide +kernel)) (by rw[isSubtype_type];kernel_rfl)
theorem entry_self:entryFor table "set_iterator.__iter__" = some Builtin.«dict_keyiterator.__iter__» :=
 entryFor_alias (id':="dict_keyiterator.__iter__") (by kernel_rfl) rfl (by decide +kernel) (by kernel_rfl)
theorem Ba(a:Value):argsOk "set_iterator.__iter__" ⟨[a],[]⟩:=by
 unfold argsOk;rw[signature?_of (id:="set_iterator.__iter__") (n:=['_','_','r','e','t','i','_','_']) (o:=['r','o','t','a','r','e','t','i','_','t','e','s']) (by kernel_rfl) owner];kernel_rfl
end SI
section
variable {prog:Program} {w:World} {A:Around} {E:Value->Shared->Prop} {s:Shared}
def eE(h:Heap)(it:Addr)(f:Value)(i:Nat)(a:Addr)(n ep:Nat):Prop:=∃o,h.get? it=some o/\o.cls=.type "set_iterator" /\ o.data=.fields [f,.int i 0,.ref a,.int n 0,.int ep 0].toArray
theorem eE.typeIs{i:Nat}{n ep:Nat}(x:eE s.heap it f i a n ep):s.TypeIs (.ref it) "set_iterator":=let ⟨o,ho,hc,_⟩:=x;⟨o,ho,hc⟩
theorem mY{i:Nat}{n ep:Nat}(x:eE s.heap it f i a n ep)(h:Q (.ref it) s):wpAny (model prog w) A (pyIter (.ref it)) Q E s:=by
 refine wpAny_pyIter_slot x.typeIs SI.sf (abm SI.sf x.typeIs SI.entry_self ?_ (SI.Ba _));exact Z7 ⟨_,rfl,"set_iterator",_,x.typeIs,SI.slot_next.lookup,h⟩
end
section
variable {prog:Program} {w:World} {A:Around} {E:Value->Shared->Prop} {s:Shared}
theorem gz{ep:Nat}(ho:s.heap.get? a=some o)(hd:o.data=.set es ep t)(hf:t.fits es.size=true)(h:Q es s):wpAny (model prog w) A (setEntries a) Q E s:=by
 unfold setEntries;exact Z2 (aa5 ho hd hf (Z7 h))
theorem jF(h:Q (rj w) s):wpAny (model prog w) A setsByText Q E s:=by
 unfold setsByText;exact Z2 (wpAny_askSetting (Z7 h))
theorem sj{ep sl g:Nat}{ks:List Int}(S:dQ prog w s.heap a o es ep t ks)(hb:rj w=false)(hp:(!t.plain&&decide (es.size>1))=false)
  (hQ:Q (match es[SetTable.below t.place sl]?,t.place[SetTable.below t.place sl]? with|some (_,x),some j=>some (x,j+1)|_,_=>none) s):wpAny (model prog w) A (setNext a sl g ep) Q E s:=by
 have led:t.led=true:=by rw[S.tab.led,hb];rfl
 unfold setNext;refine Z2 (aa5 S.at_ S.dat S.tab.fit ?_);dsimp only;refine Z2 (jF ?_);rw[hb];simp only[false_eq_true,↓reduceIte];rw[aac (λz=>by
  have z':(!t.plain&&decide (es.size>1))=true:=z;rw[hp]at z';cases z')]
 refine Z2 ?_;show wpAny _ _ (if (!t.led && !es.isEmpty)=true then Sem.unsupported "set:maker-not-led" else pure ()) _ _ _;rw[aac (by rw[led];simp)];exact Z7 (Z7 hQ)
theorem su{ep sl g:Nat}{ks:List Int}(S:dQ prog w s.heap a o es ep t ks)(hb:rj w=true)
  (hQ:Q (((pickOrder (w.params.setOrder a ep) es)[g]?).map λe=>(e.2,sl)) s):wpAny (model prog w) A (setNext a sl g ep) Q E s:=by
 unfold setNext;refine Z2 (aa5 S.at_ S.dat S.tab.fit ?_);dsimp only;refine Z2 (jF ?_);rw[hb];simp only[bne_self_eq_false,false_eq_true,↓reduceIte];unfold setWalk;refine Z2 (Z2 (aa5 S.at_ S.dat S.tab.fit ?_));dsimp only;refine Z2 (jF ?_);rw[hb];simp only[↓reduceIte];exact Z2 (wpAny_askSetting (Z7 (Z7 hQ)))
theorem lA{ep:Nat}{ks:List Int}{i sl:Nat}(hh:A.handled=none)(x:eE s.heap it (.int sl 0) i a es.size ep)(S:dQ prog w s.heap a o es ep t ks)
  (hn:∀(A:Around) (E:Value->Shared->Prop) (Q:Option (Value×Nat)->Shared->Prop),Q r s->wpAny (model prog w) A (setNext a sl i ep) Q E s)
  (hQ:∀v nx,r=some (v,nx)->∀h',eE h' it (.int (nx:Nat) 0) (i+1) a es.size ep->Heap.SameBut it s.heap h'->Q (some v) { s with heap:=h' })
  (hE:r=none->∀h',Heap.ExtBut it s.heap h'->Q none { s with heap:=h' }):wpAny (model prog w) A (pyNext (.ref it)) Q E s:=by
 obtain⟨oi,Fj,TZ,hdi⟩:=id x;unfold pyNext;refine Z2 (wpAny_attempt (abV (name:=Str.ofString "__next__") x.typeIs SI.slot_next (abm SI.slot_next x.typeIs SI.entry_next ?_ (SI.args_next _))));unfold Builtin.«set_iterator.__next__»;refine Z2 (Z7 ?_);refine Z2 (wpAny_fieldsOf Fj hdi ?_);dsimp only;refine Z2 (gz S.at_ S.dat S.tab.fit ?_);rw[aac (by simp)];refine Z2 (hn _ _ _ ?_);cases r with
 |some p=>
  obtain⟨v,nx⟩:=p;dsimp only;refine Z2 (abF Fj hdi (by simp) ?_);have h1:=aaD (Obj.mapFields (·.setIfInBounds 0 (rawInt nx))) Fj (abg (aaL hdi _));have d1:=aaL hdi (·.setIfInBounds 0 (rawInt nx));refine Z2 (abF h1 d1 (by simp) ?_);have h2:=aaD (Obj.mapFields (·.setIfInBounds 1 (rawInt ((i:Int)+1)))) h1 (abg (aaL d1 _));refine Z7 ⟨_,rfl,Z7 (hQ v nx rfl _ ⟨_,h2,?_,?_⟩ ((aaP ..).trans (aaP ..)))⟩
  ·rw[Obj.cls_mapFields,Obj.cls_mapFields];exact TZ
  ·rw[aaL d1];simp[rawInt]
 |none=>dsimp only;refine Z2 (abF Fj hdi (by simp) ?_);refine Z2 ?_;simp only[newExc,newTuple];refine Z2 (aaF ?_ (by size_fits));refine Z2 (m:=firstArgMember _ _) (wpAny_of_eq (a:=Value.none) (by first|rfl|(simp only[firstArgMember];rfl)) ?_);refine aaF ?_ (by size_fits);simp only[raiseNew];refine Z2 (wpAny_handled ?_);rw[show A.in1.handled=none from hh];refine Z2 (Z7 (wpAny_throw ?_));refine Z2 (wpAny_isInstance (T:="StopIteration") (b:=true) ⟨_,aam _ rfl,rfl⟩ isSubtype_stop ?_);exact Z7 (hE rfl _ (((aaP ..).extBut.push _).push _))
end
theorem kD{α:Type}:∀(l:List α) (i:Nat) (h:i<l.length),(l[i]::l.eraseIdx i).Perm l
 |x::l,0,_=>ab0 _
 | x::l,i+1,h=>by
  simp only[List.getElem_cons_succ,List.eraseIdx_cons_succ];exact(List.Perm.swap _ _ _).trans (List.Perm.cons x (kD l i (by simpa using h)))
section
variable {prog:Program} {w:World} {A:Around} {E:Value->Shared->Prop} {s:Shared}
theorem Bb{n:Nat}(hn:n≠0)(h:∀i d,i<n->Q i { s with drawn:=d }):wpAny (model prog w) A (choose src n) Q E s:=fun Γ p hΓ=>by
 show Sem.wp _ _ (Sem.choose src n Sem.pure) _ _ _ _;rw[Sem.wp];exact⟨hn,h _ _ (mod_lt _ (Nat.pos_of_ne_zero hn))⟩
theorem zm{α:Type}:∀(n:Nat) (xs:List α) (s:Shared) (Q:List α -> Shared->Prop),xs.length=n->(∀ys d,ys.Perm xs->Q ys { s with drawn:=d })->wpAny (model prog w) A (drawOrder n xs) Q E s
 | 0,xs,s,Q,hl,h=>by
  have:xs=[]:=abo hl;subst this;unfold drawOrder;exact Z7 (h [] s.drawn (ab0 _))
 |n+1,[],s,Q,hl,h=>by simp at hl
 | n+1,x::xs,s,Q,hl,h=>by
  unfold drawOrder;refine Z2 (Bb (by simp) λi d hi=>?_);have hx:(x::xs)[i]?=some ((x::xs)[i]):=aaA hi;rw[hx];dsimp only;refine Z2 (zm n ((x::xs).eraseIdx i) _ _ (by rw[List.length_eraseIdx,aae hi];simp at hl |-;omega) λys d' p=>Z7 ?_);exact h _ d' (((List.Perm.cons _ p).trans (kD _ i hi)))
theorem pS{ep c:Nat}{ks:List Int}{i:Nat}{ps:List Nat}(hh:A.handled=none)(x:eE s.heap it (.ref td) i a es.size ep)(S:dQ prog w s.heap a o es ep t ks)
  (hT:s.heap.get? td=some oT) (Sj:oT.data=.seq (ps.map λ(j:Nat)=>rawInt j).toArray c) (hlt:∀j∈ps,j<es.size)
  (hQ:∀j e,ps[i]?=some j->es[j]?=some e->∀h',eE h' it (.ref td) (i+1) a es.size ep->Heap.SameBut it s.heap h'->Q (some e.2) { s with heap:=h' })
  (hE:ps[i]?=none->∀h',Heap.ExtBut it s.heap h'->Q none { s with heap:=h' }):wpAny (model prog w) A (pyNext (.ref it)) Q E s:=by
 obtain⟨oi,Fj,TZ,hdi⟩:=id x;unfold pyNext;refine Z2 (wpAny_attempt (abV (name:=Str.ofString "__next__") x.typeIs SI.slot_next (abm SI.slot_next x.typeIs SI.entry_next ?_ (SI.args_next _))));unfold Builtin.«set_iterator.__next__»;refine Z2 (Z7 ?_);refine Z2 (wpAny_fieldsOf Fj hdi ?_);dsimp only;refine Z2 (gz S.at_ S.dat S.tab.fit ?_);rw[aac (by simp)];refine Z2 (wpAny_seqItems hT Sj ?_);dsimp only;have hg:((ps.map λ(j:Nat)=>rawInt j).toArray)[((i:Nat):Int).toNat]?=(ps[i]?).map λ(j:Nat)=>rawInt j:=by simp
 rw[hg];cases hp:ps[i]? with
 |some j=>
  have hj:j<es.size:=hlt j (aat hp);simp only[map_some,rawInt];refine Z2 ?_;unfold setNextDrawn;refine Z2 (aa5 S.at_ S.dat S.tab.fit ?_);dsimp only;rw[aac (by simp)];have Xr:es[((j:Nat):Int).toNat]?=some es[j]:=by simp[hj]
  rw[Xr];refine Z7 ?_;refine Z2 (abF Fj hdi (by simp) ?_);have h2:=aaD (Obj.mapFields (·.setIfInBounds 1 (.int ((i:Int)+1) 0))) Fj (abg (aaL hdi _));refine Z7 ⟨_,rfl,Z7 (hQ j _ hp (aaK hj) _ ⟨_,h2,?_,?_⟩ (aaP ..))⟩
  ·rw[Obj.cls_mapFields];exact TZ
  ·rw[aaL hdi];simp
 |none=>simp only[Option.map_none];refine Z2 (abF Fj hdi (by simp) ?_);have h1:=aaD (Obj.mapFields (·.setIfInBounds 0 (rawInt 0))) Fj (abg (aaL hdi _));have d1:=aaL hdi (·.setIfInBounds 0 (rawInt 0));refine Z2 (abF h1 d1 (by simp) ?_);refine Z2 ?_;simp only[newExc,newTuple];refine Z2 (aaF ?_ (by size_fits));refine Z2 (m:=firstArgMember _ _) (wpAny_of_eq (a:=Value.none) (by first|rfl|(simp only[firstArgMember];rfl)) ?_);refine aaF ?_ (by size_fits);simp only[raiseNew];refine Z2 (wpAny_handled ?_);rw[show A.in1.handled=none from hh];refine Z2 (Z7 (wpAny_throw ?_));refine Z2 (wpAny_isInstance (T:="StopIteration") (b:=true) ⟨_,aam _ rfl,rfl⟩ isSubtype_stop ?_);exact Z7 (hE hp _ ((((aaP ..).trans (aaP ..)).extBut.push _).push _))
end
theorem sy{α:Type}(f:Nat->Nat):∀(n k:Nat) (l:List α) (out:Array α),l.length=n->(pickOrder.go f n k l out).toList.Perm (out.toList++l)
 | 0,k,l,out,h=>by
  have:l=[]:=abo h;subst this;unfold pickOrder.go;simp
 | n+1,k,l,out,h=>by
  unfold pickOrder.go;have hl:0<l.length:=by omega
  have hi:f k%l.length<l.length:=mod_lt _ hl;rw[aaA hi];dsimp only;refine(sy f n (k+1) _ _ (by rw[List.length_eraseIdx,aae hi];omega)).trans ?_;rw[Array.toList_push,List.append_assoc];exact List.Perm.append_left _ (kD l _ hi)
theorem sD{t:SetTable}{n:Nat}(h:t.fits n=true):t.place.size=n:=by
 simp only[SetTable.fits,and_eq_true,beq_iff_eq]at h;exact h.1
def Sk(t:SetTable):Nat->Nat
 |0=>0
 |i+1=>t.place.getD i 0+1
theorem sG(r:sd t.place):∀i,i<=t.place.size->SetTable.below t.place (Sk t i)=i
 |0,_=>yi r
 | i+1,h=>by
  have hi:i<t.place.size:=h;have e:Sk t (i+1)=t.place[i]+1:=by simp[Sk,Array.getD,hi]
  rw[e];exact yj r hi
section
variable {prog:Program} {w:World} {A:Around} {E:Value->Shared->Prop} {s:Shared}
theorem dQ.keep{ep:Nat}{ks:List Int}(S:dQ prog w h a o es ep t ks)(k:∀o,h.get? a=some o->h'.get? a=some o):dQ prog w h' a o es ep t ks:={ S with at_:=k o S.at_ }
theorem eE.keep{i:Nat}{n ep:Nat}(x:eE h it f i a n ep)(k:∀o,h.get? it=some o->h'.get? it=some o):eE h' it f i a n ep:=by
 obtain⟨o,ho,r⟩:=x;exact⟨o,k o ho,r⟩
def PL(L:List (Int×Value))(i:Nat)(v:Value):Prop:=∃e,L[i]?=some e/\v=e.2
theorem Bc(hh:A.handled=none){ep:Nat}{ks:List Int}(hne:a≠I)(hb:rj w=false)(hp:(!t.plain&&decide (es.size>1))=false) :
  Walks prog w A I [I,a] [I] es.toList.length (PL es.toList) (λi h=>dQ prog w h a o es ep t ks/\eE h I (.int (Sk t i) 0) i a es.size ep) where
 sub:=λb hb=>by simp at hb;simp[hb]
 frame:=λ_ _ _ st hk=>⟨st.1.keep λo e=>hk a (by simp) o e,st.2.keep λo e=>hk I (by simp) o e⟩
 item:=λi s Q E hi st hQ=>by
  have hi:i<es.size:=by simpa using hi
  have hz:=sD st.1.tab.fit;have hb':=sG st.1.tab.rs i (by rw[hz];exact abb hi);refine lA (r:=some (es[i].2,t.place.getD i 0+1)) hh st.2 st.1 (λA E Q q=>sj st.1 hb hp ?_) (λv nx e h' x' sb=>?_) (λe=>nomatch e)
  ·rw[hb',aaK hi,aaK (by rw[hz];exact hi)]
   have e1:t.place[i]'(by rw[hz];exact hi)=t.place.getD i 0:=by simp[Array.getD,hz,hi]
   dsimp only;rw[e1];exact q
  ·cases e;exact hQ _ h' s.toks ⟨es[i],by simp[hi],rfl⟩ ⟨st.1.keep λo e=>sb.extBut a o hne e,x'⟩ λb o hb e=>sb.extBut b o (λz=>hb (by simp[z])) e
 done:=λs Q E st hQ=>by
  have hz:=sD st.1.tab.fit;have hb':=sG st.1.tab.rs es.toList.length (by rw[hz];simp);refine lA (r:=none) hh st.2 st.1 (λA E Q q=>sj st.1 hb hp ?_) (λv nx e=>nomatch e) (λ_ h' sb=>hQ h' s.toks λb o hb e=>sb b o (λz=>hb (by simp[z])) e);rw[hb',Array.getElem?_eq_none (by simp)];exact q
 self:=λ_ _ _ _ st hQ=>mY st.2 hQ
theorem Be(hh:A.handled=none){ep:Nat}{ks:List Int}(hne:a≠I)(hb:rj w=true) :
  Walks prog w A I [I,a] [I] (pickOrder (w.params.setOrder a ep) es).toList.length (PL (pickOrder (w.params.setOrder a ep) es).toList) (λi h=>dQ prog w h a o es ep t ks/\eE h I (.int (0:Nat) 0) i a es.size ep) where
 sub:=λb hb=>by simp at hb;simp[hb]
 frame:=λ_ _ _ st hk=>⟨st.1.keep λo e=>hk a (by simp) o e,st.2.keep λo e=>hk I (by simp) o e⟩
 item:=λi s Q E hi st hQ=>by
  have hi:i<(pickOrder (w.params.setOrder a ep) es).size:=by simpa using hi
  refine lA (r:=some ((pickOrder (w.params.setOrder a ep) es)[i].2,0)) hh st.2 st.1 (λA E Q q=>su st.1 hb ?_) (λv nx e h' x' sb=>?_) (λe=>nomatch e)
  ·rw[aaK hi];exact q
  ·cases e;exact hQ _ h' s.toks ⟨(pickOrder (w.params.setOrder a ep) es)[i],by simp[hi],rfl⟩ ⟨st.1.keep λo e=>sb.extBut a o hne e,x'⟩ λb o hb e=>sb.extBut b o (λz=>hb (by simp[z])) e
 done:=λs Q E st hQ=>by
  refine lA (r:=none) hh st.2 st.1 (λA E Q q=>su st.1 hb ?_) (λv nx e=>nomatch e) (λ_ h' sb=>hQ h' s.toks λb o hb e=>sb b o (λz=>hb (by simp[z])) e);rw[Array.getElem?_eq_none (by simp)];exact q
 self:=λ_ _ _ _ st hQ=>mY st.2 hQ
theorem ym(hh:A.handled=none){ep c:Nat}{ks:List Int}{ps:List Nat}(hne:a≠I)(hnt:td≠I)(hlt:∀j∈ps,j<es.size)(Sj:oT.data=.seq (ps.map λ(j:Nat)=>rawInt j).toArray c) :
  Walks prog w A I [I,a,td] [I] ps.length (PL (ps.map λj=>es.getD j (0,.none))) (λi h=>dQ prog w h a o es ep t ks/\eE h I (.ref td) i a es.size ep/\h.get? td=some oT) where
 sub:=λb hb=>by simp at hb;simp[hb]
 frame:=λ_ _ _ st hk=>⟨st.1.keep λo e=>hk a (by simp) o e,st.2.1.keep λo e=>hk I (by simp) o e,hk td (by simp) _ st.2.2⟩
 item:=λi s Q E hi st hQ=>by
  refine pS hh st.2.1 st.1 st.2.2 Sj hlt (λj e hj he h' x' sb=>?_) (λhn=>absurd hn (by rw[aaA hi];simp));refine hQ _ h' s.toks ⟨e,?_,rfl⟩ ⟨st.1.keep λo e=>sb.extBut a o hne e,x',sb.extBut td _ hnt st.2.2⟩ λb o hb e=>sb.extBut b o (λz=>hb (by simp[z])) e;rw[aay,hj];have hjl:j<es.size:=(aaW.mp he).1;have:=(aaW.mp he).2;simp[Array.getD,hjl,this]
 done:=λs Q E st hQ=>pS hh st.2.1 st.1 st.2.2 Sj hlt (λj e hj=>absurd hj (by simp)) (λ_ h' sb=>hQ h' s.toks λb o hb e=>sb b o (λz=>hb (by simp[z])) e)
 self:=λ_ _ _ _ st hQ=>mY st.2.1 hQ
end
section
variable {prog:Program} {w:World} {A:Around} {E:Value->Shared->Prop} {s:Shared}
theorem CL{ep:Nat}{ks:List Int}(S:dQ prog w s.heap a o es ep t ks)(h:Q (!rj w&&(!t.plain&&decide (es.size>1))) s):wpAny (model prog w) A (setDrawn a) Q E s:=by
 unfold setDrawn;refine Z2 (aa5 S.at_ S.dat S.tab.fit ?_);dsimp only;exact Z2 (jF (Z7 h))
theorem vK{ep:Nat}{ks:List Int}(S:dQ prog w s.heap a o es ep t ks)(h:Q ep s):wpAny (model prog w) A (setEpoch a) Q E s:=wpAny_setEpoch_of S.at_ S.dat S.tab.fit h
theorem CO(hh:A.handled=none){ep:Nat}{ks:List Int}(S:dQ prog w s.heap a o es ep t ks)
  (hQ:∀(h':Heap) d (I:Addr) (fp:List Addr) (L:List (Int×Value)) (St:Nat->Heap->Prop),L.Perm es.toList->Walks prog w A I fp [I] L.length (PL L) St->St 0 h'->s.heap.objs.size<=I->I<h'.objs.size->(∀b∈fp,b=a\/s.heap.objs.size<=b)->(∀b o,s.heap.get? b=some o->h'.get? b=some o)->Q (.ref I) { s with heap:=h',drawn:=d }) :
  wpAny (model prog w) A (pyIter (.ref a)) Q E s:=by
 have hT:s.TypeIs (.ref a) "set":=⟨o,S.at_,S.ex.1⟩;have hlt:a<s.heap.objs.size:=aaf S.at_;refine wpAny_pyIter_slot hT PySem.F.slot_set_iter (abm PySem.F.slot_set_iter hT SI.yl ?_ (PySem.F.args_set_iter_1 _));unfold Builtin.«frozenset.__iter__» Builtin.Frozenset.slot0 Builtin.Frozenset.sizeOf;refine Z2 (Z2 (Z7 (Z7 ?_)));refine Z2 (Z2 (gz S.at_ S.dat S.tab.fit (Z7 ?_)));refine Z2 (CL S ?_);cases hd:(!rj w&&(!t.plain&&decide (es.size>1))) with
 |false=>
  simp only[false_eq_true,↓reduceIte];refine Z2 (Z7 ?_);refine Z2 (vK S ?_);refine Z2 (aaF (Z7 ⟨_,rfl,"set_iterator",_,⟨_,aam _ rfl,rfl⟩,SI.slot_next.lookup,?_⟩));have e:s={ s with drawn:=s.drawn }:=by cases s;rfl
  have VY:∀b∈[s.heap.objs.size,a],b=a\/s.heap.objs.size<=b:=λb hb=>by
   simp only[mem_cons,not_mem_nil,or_false]at hb
   rcases hb with rfl|rfl
   ·exact .inr (aag _)
   ·exact .inl rfl
  have sz:s.heap.objs.size<(s.heap.push { cls:=.type "set_iterator",data:=.fields ([rawInt 0,rawInt 0,.ref a,rawInt es.size,rawInt ep]:List Value).toArray }).objs.size:=by rw[aaR];exact aaT _
  cases hb:rj w with
  |true=>exact hQ _ s.drawn _ _ _ _ (sy _ _ 0 es.toList #[] (by simp)) (Be hh (aaj hlt) hb) ⟨S.keep λo e=>Z4 _ e,⟨_,aam _ rfl,rfl,rfl⟩⟩ (aag _) sz VY λb o e=>Z4 _ e
  |false=>rw[hb]at hd;exact hQ _ s.drawn _ _ _ _ (ab0 _) (Bc hh (aaj hlt) hb (by simpa using hd)) ⟨S.keep λo e=>Z4 _ e,⟨_,aam _ rfl,rfl,rfl⟩⟩ (aag _) sz VY λb o e=>Z4 _ e
 |true=>
  simp only[↓reduceIte];refine Z2 (zm es.size (List.range es.size) s _ (by simp) λps d pp=>?_);refine Z2 ?_;simp only[newTuple];refine aaF ?_ (by show (toArray _).size<=sizeLine;rw[aah,Z8,pp.length_eq,acp];exact ab2 S.tab.few);have S1:dQ prog w (s.heap.push { cls:=.type "tuple",data:=.seq (ps.map λ(i:Nat)=>rawInt i).toArray }) a o es ep t ks:=S.keep λo e=>Z4 _ e;refine Z2 (vK S1 ?_);refine Z2 (aaF (Z7 ⟨_,rfl,"set_iterator",_,⟨_,aam _ rfl,rfl⟩,SI.slot_next.lookup,?_⟩));have hpl:∀j∈ps,j<es.size:=λj hj=>by simpa using pp.mem_iff.mp hj
  have perm:(ps.map λj=>es.getD j (0,Value.none)).Perm es.toList:=by
   have e2:(List.range es.size).map (λj=>es.getD j (0,Value.none))=es.toList:=by
    apply ab7
    ·simp
    ·intro i h1 h2
     have hi:i<es.size:=by simpa using h2
     simp[Array.getD,hi]
   rw[<-e2];exact pp.map _
  have z1:(s.heap.push { cls:=.type "tuple",data:=.seq (ps.map λ(i:Nat)=>rawInt i).toArray }).objs.size=s.heap.objs.size+1:=aaR _ _;have W:=ym (prog:=prog) (w:=w) (A:=A) (o:=o) (ep:=ep) (t:=t) (ks:=ks) hh (I:=s.heap.objs.size+1) (a:=a) (td:=s.heap.objs.size) (oT:={ cls:=.type "tuple",data:=.seq (ps.map λ(i:Nat)=>rawInt i).toArray }) (es:=es) (c:=0) (ps:=ps) (aaj (aa4 hlt)) (aaj (aaT _)) hpl rfl;rw[show ps.length=(ps.map λj=>es.getD j (0,Value.none)).length by simp] at W;rw[z1];refine hQ _ d _ _ _ _ perm W ⟨S1.keep λo e=>Z4 _ e,⟨{ cls:=.type "set_iterator",data:=.fields ([.ref s.heap.objs.size,rawInt 0,.ref a,rawInt es.size,rawInt ep]:List Value).toArray },?_,rfl,rfl⟩,Z4 _ (aam _ rfl)⟩ (aaQ _) ?_ ?_ λb o e=>Z4 _ (Z4 _ e)
  ·rw[<-z1];exact aam _ rfl
  ·rw[aaR,z1];exact aaT _
  ·intro b hb
   simp only[mem_cons,not_mem_nil,or_false]at hb
   rcases hb with rfl|rfl|rfl
   ·exact .inr (aaQ _)
   ·exact .inl rfl
   ·exact .inr (aag _)
end
section
variable {prog:Program} {w:World} {A:Around} {E:Value->Shared->Prop} {s:Shared}
theorem CP(hT:s.TypeIs (.ref r) "set")(h:Q false s):wpAny (model prog w) A (Builtin.List.listLengthHint (.ref r)) Q E s:=by
 unfold Builtin.List.listLengthHint;refine Z2 (wpAny_specialOf hT PySem.F.slot_set_len.lookup ?_);generalize hid:("set.__len__":String)=Xs
 wp_delta
 rw[show splitId Xs=some ("set","__len__") from by subst hid;decide +kernel];subst hid;refine Z2 (wpAny_isInstance (T:="set") (b:=true) hT sub_set_self ?_);refine wpAny_ite_split (λz=>absurd z (by decide)) (λ_=>?_);refine wpAny_ite_split (λ_=>?_) (λz=>absurd (by decide +kernel) z);exact Z2 (wpAny_typeOf hT (Z7 h))
theorem vL(hh:A.handled=none){ep:Nat}{ks:List Int}(S:dQ prog w s.heap a o es ep t ks)
  (h:∀(h':Heap) (tk:Nat) d (L:List (Int×Value)),(∀b o,s.heap.get? b=some o->h'.get? b=some o)->s.heap.objs.size<h'.objs.size->L.Perm es.toList->R (L.map (·.2)) { s with heap:=h',toks:=tk,drawn:=d }) :
  wpAny (model prog w) A (collect (.ref a)) R E s:=by
 have hlt:a<s.heap.objs.size:=aaf S.at_;unfold collect;refine Z2 (wpAny_runValue (aby entry_proto_collect' ?_));rw[abj PySem.F.plain_proto_collect _];show wpAny _ A.in1 (newList [] >>= λl=>again (.builtin "list.__iadd__" ⟨[l,.ref a],[]⟩)) _ _ s;refine Z2 (aaF ?_);refine Z7 ⟨ab8 PySem.F.plain_list_iadd _,aby entry_list_iadd' ?_⟩;rw[abj PySem.F.plain_list_iadd _]
 let s1:Shared:={ s with heap:=s.heap.push { cls:=.type "list",data:=.seq ([]:List Value).toArray } }
 have l1:s1.heap.get? s.heap.objs.size=some { cls:=.type "list",data:=.seq #[] }:=aam _ rfl;have S1:dQ prog w s1.heap a o es ep t ks:=S.keep λo e=>Z4 _ e;have z1:s1.heap.objs.size=s.heap.objs.size+1:=aaR _ _;have hT:s1.TypeIs (.ref a) "set":=⟨o,S1.at_,S1.ex.1⟩;show wpAny _ A.in1 (Builtin.List.listExtendWith (.ref s.heap.objs.size) (.ref a) (.ref s.heap.objs.size)) _ _ s1;unfold Builtin.List.listExtendWith;refine Z2 (wpAny_typeOf hT ?_);have n1:Builtin.List.listSameRef (.ref s.heap.objs.size) (.ref a)=false:=by simp[Builtin.List.listSameRef,Nat.ne_of_gt hlt]
 simp only[n1,show (Value.type "set" == Value.type "list")=false by decide,show (Value.type "set" == Value.type "tuple")=false by decide,Bool.or_false,false_eq_true,if_false];refine Z2 (CO (A:=A.in1) (by simp[hh]) S1 λh2 d I fp L St perm W st zI ZP hfp k2=>?_);have l2:h2.get? s.heap.objs.size=some { cls:=.type "list",data:=.seq #[] }:=k2 _ _ l1;have nfp:s.heap.objs.size∉fp:=λz=>by
  rcases hfp _ z with e|e
  ·exact absurd e (abp hlt)
  ·rw[z1]at e;exact absurd e (Nat.not_succ_le_self _)
 have hl:L.length<=sizeLine:=by rw[perm.length_eq,aaE];exact ab2 S.tab.few
 have key:∀(hp:Heap) (c₁:Nat) (Rr:Result->Shared->Prop),St 0 hp->(∀b o,b≠s.heap.objs.size->h2.get? b=some o->hp.get? b=some o)->hp.get? s.heap.objs.size=some { cls:=.type "list",data:=.seq #[] c₁ } ->
   (∀(s':Shared) (acc:Array Value) (c:Nat),s'.heap.get? s.heap.objs.size=some { cls:=.type "list",dict:=none,data:=.seq acc c,slots:=#[] }->R acc.toList s'->Rr (.ok (.ret (.ref s.heap.objs.size))) s') ->
   codeAny (model prog w) A (.builtin "list.extend.loop" ⟨[.ref s.heap.objs.size,.ref I,.ref s.heap.objs.size],[]⟩) Rr { s1 with heap:=hp,drawn:=d }:=by
  intro hp c₁ Rr hst hk hS hR;refine codeAny_extend_loopS W.toS hl s.heap.objs.size nfp (.ref s.heap.objs.size) L.length 0 _ #[] c₁ rfl (abd _) hst hS (ItemsOf.nil _) λs' acc c hm hS' hacc=>?_;refine hR s' acc c hS' ?_;have ea:acc.toList=L.map (·.2):=by
   apply ab7
   ·rw[aaE,hacc.1,Z8]
   ·intro j h1 h2
    have hj:j<acc.size:=by simpa using h1
    obtain⟨e,he,hv⟩:=hacc.2 j acc[j] (aaK hj);rw[Array.getElem_toList,hv,acu];obtain⟨hj2,e2⟩:=Z9.mp he;rw[e2]
  rw[ea,Moved.eq_with hm];refine h s'.heap s'.toks d L (λb o e=>?_) (aaf hS') perm;have hb:b<s.heap.objs.size:=aaf e;refine hm.heap b o (λz=>?_) (hk b o (aaj hb) (k2 b o (Z4 _ e)))
  rcases aal.mp z with z|z
  ·exact absurd z (aaj hb)
  ·rw[aau]at z;rw[z]at hb;rw[z1]at zI;exact absurd (aai hb (Nat.le_of_succ_le zI)) (aaH _)
 have fin:∀(s':Shared) (acc:Array Value) (c:Nat),s'.heap.get? s.heap.objs.size=some { cls:=.type "list",dict:=none,data:=.seq acc c,slots:=#[] }->R acc.toList s'->wpAny (model prog w) A (load s.heap.objs.size >>= λob=>(match ob.data with|.seq xs _=>pure xs.toList|_=>unsupported "internal:collect")) R E s':=λs' acc c e q=>Z2 (wpAny_load e (Z7 q));refine Z2 (aaM (CP ⟨o,k2 _ _ S1.at_,S1.ex.1⟩ ?_));refine wpAny_ite_split (λ_=>?_) (λ_=>Z7 ⟨ab8 PySem.F.plain_extend_loop _,key _ 0 _ st (λb o _ e=>e) l2 fin⟩);refine Z2 (wpAny_rule ?_);refine Z2 ?_;show wpAny _ _ (updateSeq s.heap.objs.size (·.push .none) >>= λ_=>updateSeq s.heap.objs.size (·.pop)) _ _ _;refine Z2 (wpAny_updateSeq l2 rfl ?_);have l3:=aaD (Obj.mapSeq (·.push Value.none)) l2 rfl;refine wpAny_updateSeq (hz:=by seq_fits) l3 rfl ?_;have l4:=aaD (Obj.mapSeq (·.pop)) l3 rfl;have oth:∀b o,b≠s.heap.objs.size->h2.get? b=some o->((h2.update s.heap.objs.size (Obj.mapSeq (·.push Value.none))).update s.heap.objs.size (Obj.mapSeq (·.pop))).get? b=some o:=λb o hb e=>(aaV _ _ (Ne.symm hb)).trans ((aaV _ _ (Ne.symm hb)).trans e);exact Z7 ⟨ab8 PySem.F.plain_extend_loop _,key _ _ _ (W.frame 0 _ _ st λb hb o e=>oth b o (λz=>nfp (z▸hb)) e) oth l4 fin⟩
end
theorem vM:∀(ks ns:List Int),ks.Nodup->(∀k∈ks,k∈ns)->ks.length=ns.length->ks.Perm ns
 | [],ns,_,_,h=>by
  have:ns=[]:=abo h.symm;subst this;exact ab0 _
 | k::ks,ns,nd,hs,hl=>by
  have hk:=hs k aad;have VZ:=aa0.mp nd;have p:=List.perm_cons_erase hk;refine(List.Perm.cons k (vM ks (ns.erase k) VZ.2 (λx hx=>?_) ?_)).trans p.symm
  ·exact(List.mem_erase_of_ne λz=>VZ.1 (by rw[<-z];exact hx)).mpr (hs x (Z6 _ hx))
  ·rw[List.length_erase_of_mem hk];simp only[length_cons]at hl;omega
def vN:Value->Int
 |.int i _=>i
 |_=>0
section
variable {prog:Program} {w:World} {A:Around} {E:Value->Shared->Prop} {s:Shared}
theorem pT:∀{L:List (Int×Value)},ElemsOf (intKind prog w) L->IntsAre (L.map (·.2)) (L.map λe=>vN e.2)
 |[],_=>.nil
 | (h,v)::L,el=>by
  obtain⟨⟨k,hk,_⟩,_⟩:=el _ aad;obtain⟨t,e⟩:=Value.isInt_shape (k:=k) (v:=v) hk;subst e;exact .cons k t (pT λx hx=>el x (Z6 _ hx))
theorem CQ{h:Heap}{a:Addr}{o:Obj}{es:Array (Int×Value)}{ep:Nat}{t:SetTable}{ks:List Int}(S:dQ prog w h a o es ep t ks){L:List (Int×Value)}(p:L.Perm es.toList):(L.map λe=>vN e.2).Perm ks:=by
 refine(vM ks _ S.VS (λk hk=>?_) ?_).symm
 ·obtain⟨e,he,q⟩:=(S.mem k).mp hk;obtain⟨t',ev⟩:=Value.isInt_shape (k:=k) (v:=e.2) q;exact acy.mpr ⟨e,p.mem_iff.mpr he,by rw[ev];rfl⟩
 ·have:=S.num;rw[Z8,p.length_eq,aaE];exact this.symm
theorem yo(hh:A.handled=none){ep:Nat}{ks:List Int}(S:dQ prog w s.heap a o es ep t ks)(h64:ks.length<64)
  (hQ:∀(h':Heap) (tk:Nat) d (D:Addr) (out:List Value) (e:Nat),(∀b o,s.heap.get? b=some o->h'.get? b=some o)->s.heap.objs.size<=D->h'.get? D=some (seqObj "list" out.toArray e)->IntsAre out (sortI ks)->Q (.ref D) { s with heap:=h',toks:=tk,drawn:=d }) :
  wpAny (model prog w) A (call (.builtin "sorted") [.ref a]) Q E s:=by
 refine qX.iT (O:=qX.yd) (vL (A:=A.in1) (by simp[hh]) S λh' tk d L hk hz perm=>?_);have el:ElemsOf (intKind prog w) L:=S.el.perm perm;have hI:=pT el;have pk:=CQ S perm;have hl:(L.map (·.2)).length<64:=by rw[Z8];have:=pk.length_eq;rw[Z8]at this;omega
 refine⟨hl,λi=>(L.map λe=>vN e.2).getD i 0,λh2 h6 _=>qX.ye hI h2,λp h'' outs k2 he=>?_⟩;obtain⟨e,he⟩:=he;have lv:(L.map (·.2)).length=(L.map λe=>vN e.2).length:=by rw[Z8,Z8]
 have mem:∀i∈p,i<L.length:=λi hi=>by have:=outs.perm.mem_iff.mp hi;simpa using this
 have pn:(p.map λi=>(L.map λe=>vN e.2).getD i 0).Perm ks:=by have:=outs.perm.map λi=>(L.map λe=>vN e.2).getD i 0;rw[lv,qX.cK]at this;exact this.trans pk
 have up:(p.map λi=>(L.map λe=>vN e.2).getD i 0).Pairwise (· <= ·):=by refine List.Pairwise.imp (R:=qX.yd.kle) (λ{x y:Int} hxy=>?_) outs.up;have hxy:(decide (y<x):Bool)=false:=hxy;exact Int.not_lt.mp (of_decide_eq_false hxy)
 have es:=eq_sortI pn up;refine hQ h'' tk d h'.objs.size _ e (λb o z=>k2 b o (hk b o z)) (abb hz) he ?_;rw[<-es];clear he es up pn outs
 induction p with
 |nil=>exact .nil
 |cons i r ih=>
  have hi:=mem i aad;have hi2:i<(L.map (·.2)).length:=by simpa using hi
  obtain⟨t',ev⟩:=IntsAre.int_at hI i _ (aaA hi2);rw[aap,aap];have e1:(L.map (·.2)).getD i Value.none=.int ((L.map λe=>vN e.2).getD i 0) t':=by rw[<-ev];simp[List.getD,List.getElem?_eq_getElem hi]
  rw[e1];exact .cons _ t' (ih λj hj=>mem j (Z6 _ hj))
end
end L2
end
section
namespace L2
open PySem PySem.Spec PyProof.Rows
section
variable {X:Cx}
theorem Inv.draws(I:Inv X pins σ H s)(d:Drawn):Inv X pins σ H { s with drawn:=d }:=⟨I.ok,I.os,I.bare,I.base,I.loc,I.cell,I.free,I.fQ,I.pin,I.hok,I.len⟩
def Xu(K:Frag)(te:TE):TE:=λσ H Q=>te σ H λx H1=>∃p ns,x=.ref p/\fR K H1 p (ns.map V.int)/\ns.length<64/\∀l,H1 l=none->Q (.ref l) (upd H1 l (.lst ((sortI (aV [] ns)).map V.int)))
theorem vO:∀(ns ks:List Int),(aV ks ns).length<=ks.length+ns.length
 |[],ks=>by simp[aV]
 | n::ns,ks=>by
  rw[aV,aaC];have:=vO ns (iU ks n);have:=lz ks n;omega
theorem Gm{p1 p2 pos1 pos2:Pos}(hh:X.A.handled=none)(hg:Gl X "sorted")(hm:X.mg "sorted" = none)(Xv:Gl X "set")(hm2:X.mg "set" = none)(hv:bootBuiltins "sorted" = some (.builtin "sorted"))(hv2:bootBuiltins "set" = some (.type "set"))(he:PE X e te)
  (hs:starEach [e] X.env=[(false,eval e X.env)]):PE X (.Call (.Name "sorted" p1) [.Call (.Name "set" p2) [e] [] pos2] [] pos1) (Xu X.K te):=by
 intro pins s σ H Q I h;refine aaI (iR I hg hm hv ?_ (by decide) (by decide));refine PyProof.Rows.callWith_builtin1 ?_ rfl rfl;show wpAny _ _ (spliced [(false,eval (.Call (.Name "set" p2) [e] [] pos2) X.env)]) _ _ s;refine Calls.spliced_cons ?_;refine aaI (iR I Xv hm2 hv2 ?_ (by decide) (by decide));refine aaU ?_ hs rfl;show wpAny _ _ (spliced (backTo pos2 (starEach [e] X.env))) _ _ s;rw[hs];show wpAny _ _ (spliced [(false,eval e X.env)]) _ _ s;refine Calls.spliced_cons (cy (he pins s σ H _ I h) λu s1 ⟨x,H1,I1,r1,p,ns,ex,hq,h64,q⟩=>Calls.spliced_nil ?_);subst ex;cases r1;obtain⟨its,rv,pl,hz⟩:=I1.list hq;have hi:=intsAre_of rv;have hl:=hi.length;refine vJ hh pl.isList (by simpa using hi) (by show its.toArray.size+1<4096;rw[aah,hl];omega) λh2 tk S k2=>?_;obtain⟨o,es,ep,t,S⟩:=S;refine Calls.spliced_nil ?_;have hk:=vO ns [];have T4:(aV [] ns).length<64:=by simp at hk;omega
 refine yo (s:={ s1 with heap:=h2,toks:=tk }) hh S T4 λh3 Xw d D out e k3 zD eD hout=>?_;have hD:s1.heap.objs.size<=D:=aaG (abb (aaf S.at_)) zD;have hn:H1 D=none:=I1.hok.fresh hD;refine⟨.ref D,_,(I1.draws d).laid (t':=Xw) (λb o z=>k3 b o (k2 b o (aaf z) z)) hD (show bF X.prog X.w _ _ _ (.lst ((sortI (aV [] ns)).map V.int)) from⟨?_,out,e,jC hout,eD⟩),rfl,q _ hn⟩;rw[Z8,(abu _).length_eq,aaZ];omega
end
end L2
end
section
namespace L2
open PySem PySem.Spec PyProof.Rows PySem.W
end L2
end
section
namespace L2
open PySem PySem.Spec PyProof.Rows
end L2
end
section
namespace L2
open PySem PySem.Spec PyProof.Rows PySem.W
end L2
end
section
namespace L2
open PySem PySem.Spec PyProof.Rows
section
variable {X:Cx}
theorem KS:jz X (compareOp .Is) (λx y H Q=>∃b c,x=.bl b/\y=.bl c/\Q (.bl (b==c)) H):=by
 intro pins s σ H x y v u Q I rx ry h;obtain⟨b,c,rfl,rfl,q⟩:=h;cases rx;cases ry;refine wpAny_is_plain rfl (mP I q ?_);cases b<;>cases c<;>rfl
theorem Gn:jz X (compareOp .IsNot) (λx y H Q=>∃b c,x=.bl b/\y=.bl c/\Q (.bl (!(b==c))) H):=by
 intro pins s σ H x y v u Q I rx ry h;obtain⟨b,c,rfl,rfl,q⟩:=h;cases rx;cases ry;refine wpAny_isNot_plain rfl (mP I q ?_);cases b<;>cases c<;>rfl
end
end L2
end
section
namespace L2
open PySem PySem.Spec PyProof.Rows PySem.W
section
variable {X:Cx}
structure O4 (K:Frag) (C:Addr) (m:Str) (f:Addr):Prop where
 ga:specialIn K (.ref C) "__getattribute__" = some (some (.builtin "type.__getattribute__"))
 rd:PySem.W.readsIn K C (.type "type")=true
 at_:PySem.W.findCls K (.ref C) (.type "type") m=some (.val (.ref f))
 kp:keepIn K (.ref f)=true
structure V3 (K:Frag) (C:Addr):Prop where
 ha:findIn K (.ref C) "__class__" = some (some (.builtin "object.__class__"))
 hn:specialIn K (.builtin "object.__class__") "__get__" = some (some (.builtin "getset_descriptor.__get__"))
 htk:takesIn K (.builtin "object.__class__")=some true
 hm:PySem.W.mroIn K C (.type "object")=some true
end
end L2
end
section
namespace L2
open PySem PySem.Spec PyProof.Rows
section
variable {X:Cx}
def V4(k:Int):Value->Bool
 |.int a _=>a==k
 |_=>false
def Gp:V->List V->Hp->VK->Prop:=λx vs H Q=>∃(l:Addr) (ks:List Int) (i:Int),x=.ref l/\vs=[.int i]/\H l=some (.lst (ks.map V.int))/\i∈ks/\Q .non (upd H l (.lst ((ks.map V.int).eraseIdx (ks.idxOf i))))
theorem Bf:Sf X "list.remove" Gp:=by
 intro pins s σ H x vs v us Q I rx rv h;obtain⟨l,ks,i,rfl,rfl,hH,hi,q⟩:=h;cases rx;obtain⟨u,rfl,ru⟩:=rv.one;obtain⟨t,rfl⟩:=ru;obtain⟨z,its,n,r,hl,e⟩:=I.Cq hH;have hk:ks.length=its.length:=by rw[<-hl,Z8]
 have at':∀m (hm:m<ks.length),∃t,its[m]?=some (.int ks[m] t):=λm hm=>by
  obtain⟨w,hw,t,rfl⟩:=r.get (i:=m) (x:=V.int ks[m]) (by rw[aay,aaA hm];rfl);exact⟨t,hw⟩
 have hj:ks.idxOf i<ks.length:=List.idxOf_lt_length_of_mem hi;have sz:its.toArray.size=ks.length:=by rw[aah,hk]
 have val:∀m (hm:m<its.toArray.size),V4 i its.toArray[m]=(ks[m]'(sz▸hm)==i):=λm hm=>by
  obtain⟨t,q⟩:=at' m (sz▸hm);have q2:its.toArray[m]=.int (ks[m]'(sz▸hm)) t:=by have:=aaK hm;rw[List.getElem?_toArray,q]at this;exact(aaq this).symm
  rw[q2];rfl
 refine call_meets F.slot_list_remove ⟨_,e,rfl⟩ F.entry_list_remove (F.args_list_remove_2 _ _)
  (MeetsSeq.list_remove l its.toArray n (.int i t) (V4 i) (λy hy=>?_) (ks.idxOf i) (by rw[sz];exact hj) ?_ ?_ (by rw[aah];omega)) ⟨e,?_⟩
 ·obtain⟨m,hm,rfl⟩:=acd.mp (List.mem_toArray.mp hy);obtain⟨t',q⟩:=at' m (by omega);rw[aaA hm]at q;rw[aaq q];exact MeetsSeq.EqGives.int _ _ _ _
 ·rw[val];exact beq_iff_eq.mpr (List.getElem_idxOf hj)
 ·intro m hm h2
  rw[val];exact aaX.mpr λe=>by
   have:=List.not_of_lt_findIdx (p:=(· == i)) (xs:=ks) (i:=m) h2;exact nomatch this.symm.trans (beq_iff_eq.mpr e)
 refine⟨.non,_,I.FU (its':=its.eraseIdx (ks.idxOf i)) hH e ?_ (r.eraseIdx _) ?_,rfl,q⟩
 ·show its.toArray.eraseIdxIfInBounds _=(its.eraseIdx _).toArray;rw[List.eraseIdxIfInBounds_toArray]
 ·have:=rS (ks.map V.int) (ks.idxOf i);omega
end
def KD(h h':Heap):Prop:=∀b o,h.get? b=some o->∃o',h'.get? b=some o'/\o'.dict=o.dict
theorem KD.refl:KD h h:=λ_ o e=>⟨o,e,rfl⟩
theorem KD.trans{h h1 h2:Heap}(a:KD h h1)(b:KD h1 h2):KD h h2:=λx o e=>by
 obtain⟨o1,e1,d1⟩:=a x o e;obtain⟨o2,e2,d2⟩:=b x o1 e1;exact⟨o2,e2,d2.trans d1⟩
theorem KD.push(o:Obj):KD h (h.push o):=λb ob e=>⟨ob,Z4 _ e,rfl⟩
def KF(f:Obj->Obj):Prop:=∀o,o.isFreed=false->(f o).dict=o.dict/\(f o).isFreed=false
theorem KD.update(hf:KF f):KD h (h.update a f):=λb o e=>by
 by_cases c:a=b
 ·subst c;have fr:=(Heap.get?_some_iff.mp e).2;exact⟨f o,aaD f e (hf o fr).2,(hf o fr).1⟩
 ·exact⟨o,(aaV _ _ c).trans e,rfl⟩
def Tame{α:Type}:Sem α -> Prop
 |.pure _=>True
 |.raise _=>True
 |.unsupported _=>True
 |.finish _=>True
 |.rule _ k=>Tame (k ())
 |.at _ k=>Tame (k ())
 |.load _ _ k=>∀o,Tame (k o)
 |.update _ _ f k=>KF f/\Tame (k ())
 |.loadIfAlive _ k=>∀o,Tame (k o)
 |.point _ k=>Tame (k ())
 |.register _ k=>Tame (k ())
 |.alloc _ k=>∀a,Tame (k a)
 |.fresh k=>∀a,Tame (k a)
 |.ask k=>∀a,Tame (k a)
 |.stack k=>∀a,Tame (k a)
 |.handled _ k=>∀a,Tame (k a)
 |_=>False
theorem Gq{α:Type}{Q:α -> Pos->Shared->Prop}(h0:Heap):∀(t:Sem α) (p:Pos) (s:Shared),Tame t->KD h0 s.heap->Sem.wp M Γ t Q E p s->Sem.wp M Γ t (λa p' s'=>Q a p' s'/\KD h0 s'.heap) (λe p' s'=>E e p' s'/\KD h0 s'.heap) p s:=by
 intro t
 induction t with
 |pure a=>intro p s _ k h;rw[Sem.wp]at h |-;exact⟨h,k⟩
 |raise e=>intro p s _ k h;rw[Sem.wp]at h |-;exact⟨h,k⟩
 |unsupported w=>intro p s _ k h;rw[Sem.wp]at h;exact h.elim
 |finish w=>intro p s _ k h;rw[Sem.wp]at h;exact h.elim
 |rule _ k ih=>intro p s t kd h;rw[Sem.wp]at h |-;exact ih () p s t kd h
 |«at» _ k ih=>intro p s t kd h;rw[Sem.wp]at h |-;exact ih () _ s t kd h
 |load a _ k ih=>intro p s t kd h;rw[Sem.wp]at h |-;obtain⟨o,e,h⟩:=h;exact⟨o,e,ih o p s (t o) kd h⟩
 |update a _ f k ih=>intro p s t kd h;rw[Sem.wp]at h |-;exact⟨h.1,ih () p _ t.2 (kd.trans (KD.update t.1)) h.2⟩
 |loadIfAlive a k ih=>intro p s t kd h;rw[Sem.wp]at h |-;exact ih _ p s (t _) kd h
 |point _ k ih=>intro p s t kd h;rw[Sem.wp]at h |-;exact ih () p s t kd h
 |register _ k ih=>intro p s t kd h;rw[Sem.wp]at h;exact h.elim
 |alloc o k ih=>intro p s t kd h;rw[Sem.wp]at h |-;exact ih _ p _ (t _) (kd.trans (KD.push o)) h
 |fresh k ih=>intro p s t kd h;rw[Sem.wp]at h |-;exact ih _ p _ (t _) kd h
 |ask k ih=>intro p s t kd h;rw[Sem.wp]at h |-;exact ih _ p s (t _) kd h
 |stack k ih=>intro p s t kd h;rw[Sem.wp]at h |-;exact ih _ p s (t _) kd h
 |handled _ k ih=>intro p s t kd h;rw[Sem.wp]at h |-;exact ih _ p s (t _) kd h
 |choose|os|call|genState|newGen|resume|yield|fork|thread|await=>intro p s t;exact t.elim
theorem Tame.bind{α β:Type}{m:Sem α}{f:α -> Sem β}(hm:Tame m)(hf:∀a,Tame (f a)):Tame (m.bind f):=by
 induction m with
 |pure a=>exact hf a
 |raise e=>trivial
 |unsupported w=>trivial
 |finish w=>trivial
 |rule _ k ih=>exact ih () hm
 |«at» _ k ih=>exact ih () hm
 |load a _ k ih=>exact λo=>ih o (hm o)
 |update a _ f k ih=>exact⟨hm.1,ih () hm.2⟩
 |loadIfAlive a k ih=>exact λo=>ih o (hm o)
 |point _ k ih=>exact ih () hm
 |register _ k ih=>exact ih () hm
 |alloc o k ih=>exact λa=>ih a (hm a)
 |fresh k ih=>exact λa=>ih a (hm a)
 |ask k ih=>exact λa=>ih a (hm a)
 |stack k ih=>exact λa=>ih a (hm a)
 |handled _ k ih=>exact λa=>ih a (hm a)
 |choose|os|call|genState|newGen|resume|yield|fork|thread|await=>exact hm.elim
theorem oW{α:Type}{t:Sem α}{Q:α -> Shared->Prop}(ht:Tame t)(h:wpAny M A t Q E s):wpAny M A t (λa s'=>Q a s'/\KD s.heap s'.heap) (λe s'=>E e s'/\KD s.heap s'.heap) s :=
 fun Γ p hΓ=>Gq s.heap t p s ht KD.refl (h Γ p hΓ)
theorem Tame.bind'{α β:Type}{m:Sem α}{f:α -> Sem β}(hm:Tame m)(hf:∀a,Tame (f a)):Tame (m >>= f):=Tame.bind hm hf
theorem mZ(a:Addr):Tame (load a):=by
 unfold load
 first|exact λo=>trivial|trivial
theorem rm(v:Value):Tame (fieldsOf v):=by
 unfold fieldsOf
 split
 ·refine Tame.bind' (mZ _) λo=>?_
  split<;>trivial
 ·trivial
theorem iE(v:Value)(i:Nat):Tame (field v i):=by
 unfold field;refine Tame.bind' (rm v) λvs=>?_
 split<;>trivial
theorem nQ(hf:KF f):Tame (update a f):=⟨hf,trivial⟩
theorem KU(g:Array Value->Array Value):KF (Obj.mapFields g):=λo ho=>by
 obtain⟨c,d,dt,sl⟩:=o;cases dt<;>first|exact⟨rfl,rfl⟩|exact⟨rfl,ho⟩
theorem gA(v:Value)(i:Nat)(x:Value):Tame (setField v i x):=by
 unfold setField
 split
 ·unfold updateField
  refine Tame.bind' (mZ _) λo=>?_
  split
  ·split
   ·exact nQ (KU _)
   ·trivial
  ·trivial
 ·trivial
theorem iV(e:Value)(f:Option Addr):Tame (setFlight e f):=by
 unfold setFlight;refine Tame.bind' (iE _ _) λtb=>?_
 split
 ·exact gA _ _ _
 ·trivial
theorem oF(f:Addr)(b:Bool):Tame (entryPlaceOf f b):=by
 unfold entryPlaceOf;refine Tame.bind' (by unfold stack;exact λ_=>trivial) λacts=>?_
 split<;>trivial
theorem vP(n:String)(d:Data)(x:Option Addr):Tame (newObj (.type n) d x):=by
 have as:Tame (newObjAsIs (.type n) d x):=by unfold newObjAsIs;exact Tame.bind' (by unfold alloc;exact λ_=>trivial) λ_=>trivial
 unfold newObj;dsimp only
 split<;>first
  |exact as
  |(split<;>first|exact as|trivial)
theorem rq(a b c d e:Value)(pl:List Value):Tame (EntryCells.newEntry a b c d e pl):=by
 unfold EntryCells.newEntry newFields;exact vP _ _ _
theorem pU:∀l:List Env,Tame (readyFrames l)
 |[]=>trivial
 | env::outer=>by
  unfold readyFrames
  split
  ·refine Tame.bind' (mZ _) λo=>?_
   split
   ·trivial
   ·refine Tame.bind' ?_ λim=>Tame.bind' ?_ λback=>Tame.bind' (nQ λo ho=>?_) λ_=>pU outer
    ·unfold behindIsImport
     split
     ·trivial
     ·split
      ·trivial
      ·exact Tame.bind' (iE _ _) λ_=>trivial
    ·unfold keptBack
     split
     ·split
      ·trivial
      ·refine Tame.bind' ?_ λ_=>trivial;unfold underTheClaimsCaller;exact Tame.bind' (by unfold stack;exact λ_=>trivial) λ_=>trivial
     ·trivial
    ·obtain⟨c,d,dt,sl⟩:=o;cases dt<;>exact⟨rfl,ho⟩
  ·trivial
theorem uv(env:Env):Tame (PySem.frameOf env):=by
 unfold PySem.frameOf;refine Tame.bind' ?_ λenvs=>Tame.bind' ?_ λf=>?_
 ·unfold frameEnvs;exact Tame.bind' (by unfold stack;exact λ_=>trivial) λ_=>trivial
 ·unfold frameObject
  split
  ·trivial
  ·exact Tame.bind' (pU _) λ_=>trivial
 ·split<;>trivial
theorem sH(e:Value)(env:Env):Tame (noteFrame e env):=by
 unfold noteFrame
 split
 ·refine Tame.bind' (iE _ _) λhead=>?_
  have jp:∀f:Addr,Tame (do
    let a <-PySem.frameOf env
    let pl <-entryPlaceOf f (head != Value.none)
    let b <-EntryCells.newEntry head a Value.none (rawInt f) Value.none pl
    setField e 1 b):=λf=>Tame.bind' (uv env) λ_=>Tame.bind' (oF _ _) λ_=>Tame.bind' (rq _ _ _ _ _ _) λ_=>gA _ _ _
  dsimp only
  split
  ·refine Tame.bind' (iE _ _) λx=>?_
   split
   ·trivial
   ·exact Tame.bind' (gA _ _ _) λ_=>jp _
  ·exact jp _
 ·trivial
theorem lE(env:Env)(e:Value):Tame (leaving env e):=by
 unfold leaving;exact Tame.bind' (sH _ _) λ_=>iV _ _
section
variable {K:Frag} {prog:Program} {w:World} {A:Around} {E:Value->Shared->Prop} {h:Heap} {g:Array GenState} {d:Drawn} {t:Nat} {os:OsState}
variable {nm q:Str} {C N:Addr} {bs bm bmB:List Value} {hdct:Bool} {sn:List Str} {sub:List Value} {ab:Bool} {col:Option Bool} {dd:Option Addr} {k0 k1 k2 k3 k5:Option Value} {B newId initId:String}
theorem pW(F:ExcBaseFacts B newId initId bmB)(T:OwnTail h bmB bm){rest:List Value}{fI:Addr}{Q:Fin->Shared->Prop}
  (hC:h.get? C=some (excClassObj nm q C N bs bm hdct sn sub ab col dd k0 k1 k2 k3 k5 newId)) (X:K.In h) (hi:findIn K (.ref C) "__init__" = some (some (.ref fI))) (hf:typeIn K (.ref fI)=some (.type "function"))
  (hq:∀h' e,Heap.MadeExcOf h h' e (.ref C) rest->h.objs.size<=e->wpAny (model prog w) A (call (.ref fI) (.ref e::rest)) (λr s'=>r=.none/\Q (.done (.ret (.ref e))) s') E ⟨h',g,d,t,os⟩) (hrest:rest.length<=sizeLine) :
  wpAny (model prog w) A (Builtin.«type.__call__» ⟨.ref C::rest,[]⟩) Q E ⟨h,g,d,t,os⟩:=by
 repeat (first|with_reducible refine aa6 hC ?_|with_reducible refine wpAny_madeBy_exc hC ?_|wp_step)
 refine codeAny_call_builtin_code (Code.quiet_builtin _ F.quiet) (wpAny_check_new_subT F T hC ?_);refine codeAny_exc_new_subT F T hC ?_ hrest;show wpAny _ _ _ _ _ _;have kp:∀b o,h.get? b=some o->((h.push { cls:=.type "tuple",data:=.seq rest.toArray }).push { cls:=.ref C,data:=.fields [.ref h.objs.size,.none,.none,.none,.bool false,.none].toArray }).get? b=some o:=λb o e=>Z4 _ (Z4 _ e);have hget:((h.push { cls:=.type "tuple",data:=.seq rest.toArray }).push { cls:=.ref C,data:=.fields [.ref h.objs.size,.none,.none,.none,.bool false,.none].toArray }).get? (h.objs.size+1)=some { cls:=.ref C,data:=.fields [.ref h.objs.size,.none,.none,.none,.bool false,.none].toArray }:=by heap_get
 have hcC:(Value.ref C::bm).contains (.ref C)=true:=by simp
 have Xx:=kp _ _ hC;unfold isInstance
 repeat (first|with_reducible refine aa6 hget ?_|(with_reducible refine abL Xx ?_;rw[hcC])|wp_step)
 show wpAny _ _ (typeLookup (.ref C) _) _ _ _;refine abG (X.keeps kp) hi _ _ _ _ (λ_ _ e=>e) ?_;refine aaM (Z2 ?_);refine PySem.W.bind_fn (X.keeps kp) (.ref (h.objs.size+1)) hf _ _ _ _ (λ_ _ e=>e) ?_;refine Z2 (aaB (hq _ (h.objs.size+1) ⟨kp,ab9 (aaQ _),h.objs.size,hget,ab9 (aag _),?_⟩ (aaQ _)) (λr s' hr=>?_) λ_ _ x=>x)
 ·exact Z4 _ (Heap.get?_push_at rfl rfl)
 ·obtain⟨rfl,hQ⟩:=hr
  wp_walk
  exact hQ
theorem Bg(F:ExcBaseFacts B newId initId bmB)(T:OwnTail h bmB bm){rest:List Value}{fI:Addr}{Q:Value->Shared->Prop}
  (hC:h.get? C=some (excClassObj nm q C N bs bm hdct sn sub ab col dd k0 k1 k2 k3 k5 newId)) (X:K.In h) (hi:findIn K (.ref C) "__init__" = some (some (.ref fI))) (hf:typeIn K (.ref fI)=some (.type "function"))
  (hq:∀h' e,Heap.MadeExcOf h h' e (.ref C) rest->h.objs.size<=e->wpAny (model prog w) (A.under (.builtin "type.__call__" ⟨.ref C::rest,[]⟩)) (call (.ref fI) (.ref e::rest)) (λr s'=>r=.none/\Q (.ref e) s') E ⟨h',g,d,t,os⟩) (hrest:rest.length<=sizeLine) :
  wpAny (model prog w) A (call (.ref C) rest) Q E ⟨h,g,d,t,os⟩:=by
 have f1:=tc_lookup;have f2:=tc_bind (.ref C);have hT:(⟨h,g,d,t,os⟩:Shared).TypeIs (.ref C) "type":=⟨_,hC,rfl⟩;refine ab4 (codeAny_of_tree ?_);show wpAny _ _ (callAny (.ref C) _) _ _ _
 repeat (any_goals (first|assumption|with_reducible refine aa6 hC ?_|wp_step))
 refine⟨rfl,?_⟩;exact codeAny_call_builtin_at (Code.quiet_builtin _ (by decide +kernel)) entry_typeCall (wpAny_check_type_call_sub hC (pW F T hC X hi hf hq hrest))
end
structure CS (K:Frag) (C D:Addr) (cd:ClassData):Prop where
 cls:PySem.W.clsIn K C=some cd
 mro:cd.mro=[.ref C,.ref D,.type "ValueError",.type "Exception",.type "BaseException",.type "object"]
 hd:cd.hasDict=true
 sa:findIn K (.ref C) "__setattr__" = some (some (.builtin "object.__setattr__"))
 ob:PySem.W.mroIn K C (.type "object")=some true
section
variable {prog:Program} {w:World} {A:Around} {E:Value->Shared->Prop} {s:Shared} {K:Frag} {C D x:Addr} {cd:ClassData} {ox:Obj} {name:Str} {v:Value}
theorem Gs(X:K.In s.heap)(c:CS K C D cd)(hn:findIn K (.ref C) name=some none)(hx:s.heap.get? x=some ox)(hcl:ox.cls=.ref C)(hdn:ox.dict=none)(hdat:∃vs,ox.data=.fields vs)
  (h:∀h' tk,h'.get? x=some { ox with dict:=some s.heap.objs.size }->h'.Ns1 s.heap.objs.size (λy=>if y=name then some v else none)->(∀b o,b≠x->s.heap.get? b=some o->h'.get? b=some o)->Q () { s with heap:=h',toks:=tk }) :
  wpAny (model prog w) A (setAttr (.ref x) name v) Q E s:=by
 obtain⟨vs,hdat⟩:=hdat
 have I:PySem.W.InstAt s.heap x ox C none:=⟨hx,hcl,by unfold notCls;rw[hdat],by rw[hdn];trivial⟩;have SF:=PySem.F.store_ValueError;have sub:PySem.W.Looks (model prog w) s.heap (isInstance (.ref x) (.type "object")) true:=I.type.andThen (looks_mroIn X c.ob);have hmL:PySem.W.Looks (model prog w) s.heap (mroOf (.ref C)) cd.mro:=(looks_clsIn X c.cls).andThen .now;refine PySem.W.set_plain X I c.sa ?_;refine ace SF.slot.plain SF.entry (@PySem.W.check_slot (model prog w) _ _ _ "object.__setattr__" "object" "__setattr__" (.ref x) [.str name s.toks,v] [] _ SF.kind SF.split sub (SF.args (.ref x) (.str name s.toks) v) ?_);rw[osa_eq,refuse_eq];refine Z2 (Z2 (I.type _ _ _ _ (λ_ _ e=>e) (Z2 (hmL _ _ _ _ (λ_ _ e=>e) ?_))));rw[c.mro,refuseLoop_ref,refuseLoop_ref,SF.passes];refine Z7 (Z2 (I.type _ _ _ _ (λ_ _ e=>e) (Z2 (abG X hn _ _ _ _ (λ_ _ e=>e) (Z2 ?_)))));refine Z7 ?_;dsimp only;have hxs:x≠s.heap.objs.size:=aaj (aaf hx);have hx1:(s.heap.push { cls:=.type "dict",data:=.dict #[] }).get? x=some ox:=Z4 _ hx;refine Z2 (Z7 (Z2 (Z2 (wpAny_loadPart hx ?_))));rw[hcl];refine Z2 (looks_clsIn X c.cls _ _ _ _ (λ_ _ e=>e) ?_);rw[c.hd,hdn,hdat];refine Z2 (wpAny_alloc' ?_);refine Z2 (wpAny_update' hx1 ?_);refine Z7 ?_;have hgd:((s.heap.push { cls:=.type "dict",data:=.dict #[] }).update x λo=>{ o with dict:=some s.heap.objs.size }).get? s.heap.objs.size=some { cls:=.type "dict",data:=.dict #[] } :=
  (abK _ _ _ _ hxs.symm).trans (Heap.get?_push_at rfl rfl)
 have hnd:((s.heap.push { cls:=.type "dict",data:=.dict #[] }).update x λo=>{ o with dict:=some s.heap.objs.size }).Ns s.heap.objs.size (λ_=>none) :=
  ⟨_,#[],_,hgd,rfl,λe he=>absurd he (by simp),λ_=>rfl⟩
 show wpAny _ _ (Builtin.ObjectAttr.storeInDict s.heap.objs.size (.str name _) name v) _ _ _;refine Z2 (Z7 (Z2 (wpAny_nsSet1 (Heap.Ns1.of_empty hnd) λh' hn' hs=>?_)));obtain⟨oD,esD,ZQ,Xy,Xz,Gu⟩:=hn'.count (Within.cons name v Within.nil);refine Z2 (wpAny_lookBehind Xy (by rw[Xz];exact pastItsLine_dict (aaG Gu (by rw[aaC,length_nil,aaZ];omega))) ?_);refine Z7 ?_;have hx':h'.get? x=some { ox with dict:=some s.heap.objs.size }:=by refine(hs.2 x hxs).trans (aaD _ hx1 ?_);obtain⟨oc,od,Si,osl⟩:=ox;cases hdat;rfl
 refine h h' _ hx' hn' λb o hb e=>?_;exact(hs.2 b (aaj (aaf e))).trans ((abK _ _ _ _ hb).trans (Z4 _ e))
end
abbrev CU(C t:Addr)(d:Option Addr):Obj:={ cls:=.ref C,dict:=d,data:=.fields [.ref t,.none,.none,.none,.bool false,.none].toArray }
def ExcAt(e C t:Addr)(d:Option Addr):Heap->Prop:=λh=>h.get? e=some (CU C t d)
theorem yq(q:ExcAt e C t d h):bF P w H h e (.ext (ExcAt e C t d)) :=
 ⟨q,⟨_,q⟩,λh1 h2 a k=>k _ a⟩
section
variable {X:Cx} {o value:Expr} {f:Str} {pos pos':Pos} {ta tv:TE} {pins:List (Addr×Obj)} {σ:St} {H:Hp} {s:Shared} {e C D t dx:Addr} {cd:ClassData} {y:V} {u:Value}
def T5(K:Frag)(ta tv:TE)(f:Str):TS:=λEn σ H=>tv σ H λy H1=>ta σ H1 λx H2=>∃e C D t cd,x=.ref e/\H2 e=some (.ext (ExcAt e C t none))/\CS K C D cd/\findIn K (.ref C) f=some none /\
 ∀dx,H2 dx=none->dx≠e->En.nx σ (upd (upd H2 dx (.xd [(f,y)])) e (.ext (ExcAt e C t (some dx))))
theorem Gv(I:Inv X pins σ H s)(he:H e=some (.ext (ExcAt e C t none)))(c:CS X.K C D cd)(hn:findIn X.K (.ref C) f=some none)(ry:RelV y u)
  (h:∀dx s',H dx=none->dx≠e->Inv X pins σ (upd (upd H dx (.xd [(f,y)])) e (.ext (ExcAt e C t (some dx)))) s'->Q () s'):wpAny (model X.prog X.w) A (setAttr (.ref e) f u) Q E s:=by
 have q:s.heap.get? e=some (CU C t none):=(I.hok e _ he).1;refine Gs I.iM c hn q rfl rfl ⟨_,rfl⟩ λh' tk hx hns hk=>?_;have nd:H s.heap.objs.size=none:=I.hok.fresh (aag _);have ne:s.heap.objs.size≠e:=abp (aaf q);obtain⟨od,es,ep,hod,r⟩:=id hns;have fr:od.isFreed=false:=(Heap.get?_some_iff.mp hod).2;have p1:(s.heap.push od).get? s.heap.objs.size=some od:=aam s.heap fr;have I1:=I.laid (a:=s.heap.objs.size) (o:=.xd [(f,y)]) (h':=s.heap.push od) (t':=s.toks) (λb ob z=>Z4 _ z) (aag _) (by
  refine⟨_,hns.at λo z=>?_,λg=>?_⟩
  ·rw[hod]at z;cases z;exact p1
  ·show ou (List.lookup g [(f,y)]) (if g=f then some u else none)
   by_cases c:g=f
   ·subst c;rw[aae rfl];simp only[List.lookup,beq_self_eq_true];exact ry
   ·rw[aac c]
    have:(g==f)=false:=by simpa using c
    simp only[List.lookup,this];trivial)
 have I2:=I1.write (x:=e) (e:=e) (o:=.ext (ExcAt e C t (some s.heap.objs.size))) (h':=h') (t':=tk) (by rw[ao (Ne.symm ne),he];exact abf) (.inl rfl) (λb ob hb z=>by
  by_cases cb:b=s.heap.objs.size
  ·subst cb;have z:(s.heap.push od).get? s.heap.objs.size=some ob:=z;rw[p1]at z;cases z;exact hod
  ·exact hk b ob hb (by
    have z:(s.heap.push od).get? b=some ob:=z;exact(Heap.get?_push_cases z).resolve_left λw=>cb w.1)) ⟨_,hx⟩ (yq hx)
 exact h _ _ nd ne I2
theorem KW(ha:PE X o ta)(hv:PE X value tv)(hs:swapsWith value (some (.Attribute o f pos')) pos.line X.env=pure false):PS X (.Assign [.Attribute o f pos'] value pos) (T5 X.K ta tv f):=by
 intro pins s σ H D I h;refine plainObj_wpAny_Assign_Attribute (cy (hv pins s σ H _ I h) λu s1 ⟨y,H1,I1,ry,q⟩=>cy (ha pins s1 σ H1 _ I1 q) λov s2 ⟨x,H2,I2,rx,e,C,D',t,cd,ex,ee,c,n,q2⟩=>?_) hs;subst ex;obtain rfl:ov=Value.ref e:=rx;exact Gv I2 ee c n ry λdx s3 nd ne I3=>⟨σ,_,I3,q2 dx nd ne⟩
end
theorem bF.there(x:bF P w H h a o):∃ob,h.get? a=some ob:=by
 cases o with
 |lst xs=>obtain⟨_,_,_,_,e⟩:=x;exact⟨_,e⟩
 |tup xs=>obtain⟨_,_,_,_,e,_⟩:=x;exact⟨_,e⟩
 |dK kvs=>obtain⟨_,_,_,_,o,_,_,e,_⟩:=x;exact⟨_,e⟩
 |dT kvs=>obtain⟨_,_,_,_,o,_,_,e,_⟩:=x;exact⟨_,e⟩
 |set S n=>obtain⟨o,_,_,_,e,_⟩:=x;exact⟨_,e⟩
 |ins C dx fs=>obtain⟨_,_,_,e,_⟩:=x;exact⟨_,e⟩
 |own y=>obtain⟨_,e⟩:=x;exact⟨_,e⟩
 |xd fs=>obtain⟨_,⟨_,_,_,e,_⟩,_⟩:=x;exact⟨_,e⟩
 |rng lo hi=>obtain⟨_,_,_,e⟩:=x;exact⟨_,e⟩
 |rL ob u=>obtain⟨e,_⟩:=x;exact⟨_,e⟩
 |tbl ps=>exact⟨_,(show h.get? a=some _ from x)⟩
 |met f y=>exact⟨_,(show h.get? a=some _ from x)⟩
 |ext φ=>obtain⟨_,⟨_,e⟩,_⟩:=x;exact⟨_,e⟩
theorem pX(x:iL P w H h)(e:h.get? a=none):H a=none:=by
 cases q:H a with
 |none=>rfl
 |some u=>obtain⟨o,z⟩:=bF.there (x a u q);rw[e]at z;cases z
structure NY (H:Hp) (h:Heap) (a:Addr) (dx:Option Addr) (C T:Addr):Prop where
 ob:∃oe vs a0,h.get? a=some oe/\oe.cls=.ref C/\oe.dict=dx/\oe.data=.fields vs/\vs[0]?=some a0/\vs[1]?=some (.ref T)
 tb:∃oT ts,h.get? T=some oT/\oT.data=.fields ts/\ts[3]?=some .none
 ne:T≠a
 fa:H a=none
 fT:H T=none
structure Lv (fs:List Addr) (a:Addr) (h h':Heap):Prop where
 keep:∀b o,b≠a->b∉fs->h.get? b=some o->h'.get? b=some o
 slot:∀b o,b∈fs->h.get? b=some o->∃sl,h'.get? b=some { o with slots:=sl }
 there:∀b o,h.get? b=some o->∃o',h'.get? b=some o'
section
variable {P:Program} {w:World} {M:Model} {A:Around} {E:Value->Shared->Prop} {s:Shared} {H:Hp} {base:Heap} {env:Env} {outer:List Env} {L a C T:Addr} {dx:Option Addr}
theorem cj{h:Heap}:∀{l:List Env},h.FunFrames base l->∀b∈frs l,∃o,h.get? b=some o/\∀vs,o.data≠.fields vs
 |[],_,b,hb=>by simp[frs]at hb
 | env::r,⟨_,⟨L,o,hf,_,ho,hd⟩,hr⟩,b,hb=>by
  unfold frs at hb;rw[aa8,hf]at hb
  rcases aal.mp hb with rfl|hb
  ·exact⟨o,ho,hd⟩
  ·exact cj hr b hb
theorem gp{h:Heap}{as:List Addr}:∀{l:List Env},h.FunFrames base l->(∀b∈frs l,b∈as)->h.FunFrames (hideAll h as) l
 |[],_,_=>trivial
 | env::r,⟨hk,⟨L,o,hf,_,ho,hd⟩,hr⟩,hin=>by
  have e:frs (env::r)=L::frs r:=by unfold frs;rw[aa8,hf]
  exact⟨hk,⟨L,o,hf,aaS _ (hin L (by rw[e];exact aad)),ho,hd⟩,gp hr λb hb=>hin b (by rw[e];exact Z6 _ hb)⟩
theorem Bh(hok:iL P w H s.heap)(hfr:A.frames=some (env::outer))(hl:s.heap.FunFrames base (env::outer))(hf:env.frame=some L){a0:Value}(he:s.heap.get? a=some oe)(hc:oe.cls=.ref C)(hdx:oe.dict=dx)(hd:oe.data=.fields vs)(h0:vs[0]?=some a0)(h1:vs[1]?=some .none)(ha:H a=none)
  (h:∀h' T,NY H h' a dx C T->s.heap.get? T=none->Lv (frs (env::outer)) a s.heap h'->Q () { s with heap:=h' }):wpAny M A (leaving env (.ref a)) Q E s:=by
 have hin:∀b∈frs (env::outer),b∈a::frs (env::outer):=λb hb=>Z6 _ hb;have key:=wpAny_leaving_firstW (M:=M) (A:=A) (E:=E) (base:=hideAll s.heap (a::frs (env::outer))) (Q:=λ_ s'=>∃h',s'={ s with heap:=h' }/\Heap.LeftW (hideAll s.heap (a::frs (env::outer))) (env::outer) a oe.cls a0 s.heap h') hfr (gp hl hin) hf he (λb o e=>abR _ e) (aaS _ aad) hd h1 h0 λh' z=>⟨h',rfl,z⟩;refine aaB (oW (lE env (.ref a)) key) (λ_ s' zz=>?_) λ_ _ zz=>zz.1;obtain⟨⟨h',rfl,st,ff,⟨O5,vs',T,oT,ts,e1,⟨e2,e3⟩,e4,e5,e6,e7,e8,e9,Gx⟩,up⟩,kd⟩:=zz;have Jm:s.heap.get? T=none:=by
  cases q:s.heap.get? T with
  |none=>rfl
  |some o=>
   by_cases c:T∈a::frs (env::outer)
   ·rcases aal.mp c with c|c
    ·exact absurd c e7
    ·obtain⟨o',rz,h2'⟩:=cj hl T c;rw[q]at rz;cases rz;obtain⟨sl,hs⟩:=up T o q h2';rw[e8]at hs;cases hs;exact absurd e9 (h2' ts)
   ·have:=aaY _ q c;rw[e6]at this;cases this
 have hT:H T=none:=pX hok Jm;refine h h' T ⟨⟨O5,vs',a0,e1,e2.trans hc,?_,e4,e3,e5⟩,⟨oT,ts,e8,e9,Gx⟩,e7,ha,hT⟩ Jm ⟨λb o hb hn e=>?_,λb o hb e=>?_,λb o e=>?_⟩
 ·obtain⟨o',z1,z2⟩:=kd a oe he;have z1:h'.get? a=some o':=z1;rw[e1]at z1;cases z1;rw[z2,hdx]
 ·exact st b o (aaY _ e λz=>(aal.mp z).elim hb hn)
 ·obtain⟨o',rz,h2'⟩:=cj hl b hb;rw[e]at rz;cases rz;exact up b o e h2'
 ·obtain⟨o',z,_⟩:=kd b o e;exact⟨o',z⟩
theorem CV(hok:iL P w H s.heap)(hfr:A.frames=some (env::outer))(hl:s.heap.FunFrames base (env::outer))(hf:env.frame=some L)(F:NY H s.heap a dx C T)
  (h:∀h' T',NY H h' a dx C T'->(T'=T\/s.heap.get? T'=none)->(∀b o,b≠T->b≠a->b∉frs (env::outer)->s.heap.get? b=some o->h'.get? b=some o)->(∀b o,b∈frs (env::outer)->s.heap.get? b=some o->∃sl,h'.get? b=some { o with slots:=sl })->(∀b o,s.heap.get? b=some o->∃o',h'.get? b=some o')->Q () { s with heap:=h' }):wpAny M A (leaving env (.ref a)) Q E s:=by
 obtain⟨⟨oe,vs,a0,he,hc,hdx,hd,h0,h1⟩,⟨oT,ts,g1,g2,g3⟩,ne,fa,fT⟩:=F;have hin:∀b∈frs (env::outer),b∈T::a::frs (env::outer):=λb hb=>Z6 _ (Z6 _ hb);have key:=wpAny_leaving_nextW (M:=M) (A:=A) (E:=E) (base:=hideAll s.heap (T::a::frs (env::outer))) (cls:=.ref C) (a0:=a0) (Q:=λ_ s'=>∃h',s'={ s with heap:=h' }/\Heap.LeftW (hideAll s.heap (T::a::frs (env::outer))) (env::outer) a (.ref C) a0 s.heap h') hfr (gp hl hin) hf
  ⟨oe,vs,T,oT,ts,he,⟨hc,h0⟩,hd,h1,aaS _ aad,ne,g1,g2,g3⟩ (λb o e=>abR _ e) (aaS _ (Z6 _ aad)) λh' z=>⟨h',rfl,z⟩
 refine aaB (oW (lE env (.ref a)) key) (λ_ s' zz=>?_) λ_ _ zz=>zz.1;obtain⟨⟨h',rfl,st,ff,⟨O5,vs',T',T6,ts',e1,⟨e2,e3⟩,e4,e5,e6,e7,e8,e9,Gx⟩,up⟩,kd⟩:=zz;have Jm:T'=T\/s.heap.get? T'=none:=by
  cases q:s.heap.get? T' with
  |none=>exact .inr rfl
  |some o=>
   by_cases c:T'∈T::a::frs (env::outer)
   ·rcases aal.mp c with c|c
    ·exact .inl c
    rcases aal.mp c with c|c
    ·exact absurd c e7
    ·obtain⟨o',rz,h2'⟩:=cj hl T' c;rw[q]at rz;cases rz;obtain⟨sl,hs⟩:=up T' o q h2';rw[e8]at hs;cases hs;exact absurd e9 (h2' ts')
   ·have:=aaY _ q c;rw[e6]at this;cases this
 have hT:H T'=none:=by
  rcases Jm with z|z
  ·rw[z];exact fT
  ·exact pX hok z
 refine h h' T' ⟨⟨O5,vs',a0,e1,e2,?_,e4,e3,e5⟩,⟨T6,ts',e8,e9,Gx⟩,e7,fa,hT⟩ Jm (λb o T7 hb hn e=>?_) (λb o hb e=>?_) λb o e=>?_
 ·obtain⟨o',z1,z2⟩:=kd a oe he;have z1:h'.get? a=some o':=z1;rw[e1]at z1;cases z1;rw[z2,hdx]
 ·exact st b o (aaY _ e λz=>(aal.mp z).elim T7 λz=>(aal.mp z).elim hb hn)
 ·obtain⟨o',rz,h2'⟩:=cj hl b hb;rw[e]at rz;cases rz;exact up b o e h2'
 ·obtain⟨o',z,_⟩:=kd b o e;exact⟨o',z⟩
end
abbrev VB:List Value:=[.type "ValueError",.type "Exception",.type "BaseException",.type "object"]
structure oG (K:Frag) (C D f:Addr) (cd:ClassData):Prop where
 c:CS K C D cd
 ob:∃nm q N bs hdct sn sub ab col dd k0 k1 k2 k3 k5,K.lookup C=some (excClassObj nm q C N bs (.ref D::VB) hdct sn sub ab col dd k0 k1 k2 k3 k5 "ValueError.__new__")
 up:∃c0 dd cdD sl c1 d1 es ep rA,K.lookup D=some ⟨c0,dd,.cls cdD,sl⟩/\K.lookup cdD.ns=some ⟨c1,d1,.dict es ep,rA⟩/\StrKeys es/\nsFind es "__init__" = none
 init:findIn K (.ref C) "__init__" = some (some (.ref f))
 fn:typeIn K (.ref f)=some (.type "function")
 kp:keepIn K (.ref C)=true
theorem oG.tail{K:Frag}{C D f:Addr}{cd:ClassData}{h:Heap}(M:oG K C D f cd)(X:K.In h):OwnTail h VB (.ref D::VB):=by
 obtain⟨c0,dd,cdD,sl,c1,d1,es,ep,rA,l1,l2,sk,ni⟩:=M.up;exact .own (X _ _ l1) ⟨_,es,ep,X _ _ l2,rfl,sk,λ_=>rfl⟩ ni .base
def vQ(K:Frag)(f:Str):Sp:=λvs H Q _=>∃e y C D t cd,vs=[.ref e,y]/\H e=some (.ext (ExcAt e C t none))/\CS K C D cd/\findIn K (.ref C) f=some none /\
 ∀dx,H dx=none->dx≠e->Q .non (upd (upd H dx (.xd [(f,y)])) e (.ext (ExcAt e C t (some dx))))
section
variable {X:Cx} {CX:xW} {k:Nat} {f C D:Addr} {fd:FuncData} {ps:List Str} {cd:ClassData} {E:XK} {x g:Str} {pins:List (Addr×Obj)} {σ:St} {H:Hp} {s:Shared}
theorem zo(M:oG X.K C D f cd)(F:dH X.prog X.w X.K X.mg X.base CX k f fd ps (vQ X.K g))(hr:dj (k+1) X.A)(hb:Binds X.K fd ps [])(hl:ps.length=2)(hx:Passes CX X E)(hn:findIn X.K (.ref C) g=some none)
  (I:Inv X pins σ H s) (ry:RelV y u)
  (h:∀e t dx s',H e=none->H dx=none->dx≠e->s.heap.get? e=none->Inv X pins σ (upd (upd (upd H e (.ext (ExcAt e C t none))) dx (.xd [(g,y)])) e (.ext (ExcAt e C t (some dx)))) s'->Q (.ref e) s') :
  wpAny (model X.prog X.w) X.A (call (.ref C) [u]) Q X.xe s:=by
 obtain⟨nm,q,N,bs,hdct,sn,sub,ab,col,dd,k0,k1,k2,k3,k5,lc⟩:=M.ob;obtain⟨hh,gn,dr,tk,os⟩:=s;refine Bg (K:=X.K) PySem.F.excBase_ValueError (M.tail I.iM) (I.iM _ _ lc) I.iM M.init M.fn (λh' e me le=>?_) (by show 1<=sizeLine;decide);obtain⟨t,ht,_,_⟩:=me.there;have I2:Inv X pins σ (upd H e (.ext (ExcAt e C t none))) ⟨h',gn,dr,tk,os⟩:=I.laid (a:=e) (o:=.ext (ExcAt e C t none)) (h':=h') (t':=tk) me.keeps le (yq ht);have ne:H e=none:=I.hok.fresh le;refine ab4 (abq (F.run _ X.stack _ _ ⟨[.ref e,u],[]⟩ [.ref e,u] [.ref e,y] (λv H2=>v=.non/\∃dx,H dx=none/\dx≠e/\H2=upd (upd (upd H e (.ext (ExcAt e C t none))) dx (.xd [(g,y)])) e (.ext (ExcAt e C t (some dx)))) E (hr.make C [u] []) (I2.xY.make C [u] []) ?_ #[rfl,ry] ?_) λr s' hq=>?_)
 ·have:=hb _ [.ref e,u] I2.iM (by rw[hl];rfl);rw[aaJ]at this;exact this
 ·refine⟨e,y,C,D,t,cd,rfl,au,M.c,hn,λdx nd nx=>⟨rfl,dx,?_,nx,rfl⟩⟩;rw[ao nx]at nd;exact nd
 ·cases r with
  |error e'=>exact hx pins σ _ _ e' s' I2 hq
  |ok fl=>
   cases fl with
   |ret u'=>obtain⟨v,H',I3,rv,ev,dx,nd,nx,eH⟩:=I2.after hq;subst ev;subst eH;exact⟨rv,h e t dx s' ne nd nx me.new I3⟩
   |next=>exact False.elim hq
   |brk=>exact False.elim hq
   |cont=>exact False.elim hq
end
section
variable {M:Model} {A:Around} {E:Value->Shared->Prop} {env:Env} {nm q:Str} {C N:Addr} {bs bm:List Value} {hdct:Bool} {sn:List Str} {sub:List Value} {ab:Bool} {col:Option Bool} {dd:Option Addr} {k0 k1 k2 k3 k5:Option Value} {newId:String}
theorem yr(hbase:bm.contains (.type "BaseException")=true)(hh:A.handled=none)
  (h:wpAny M A x (λv s₁=>∃e t d,v=.ref e/\s₁.heap.get? C=some (excClassObj nm q C N bs bm hdct sn sub ab col dd k0 k1 k2 k3 k5 newId)/\s₁.heap.get? e=some (CU C t d)/\E (.ref e) s₁) E s) :
  wpAny M A (raiseStmt env (some x) none) Q E s:=by
 have T8:(Value.ref C::bm).contains (.type "BaseException")=true:=by rw[contains_cons,hbase,Bool.or_true]
 unfold raiseStmt;refine Z2 (aaB h (λv s₁ h₁=>?_) λ_ _ x=>x);obtain⟨e,t,d,rfl,hC,he,hE⟩:=h₁;obtain⟨hp,g,dr,tk,os⟩:=s₁
 repeat (first|with_reducible refine aa6 he ?_|with_reducible refine aa6 hC ?_|(with_reducible refine abL hC ?_;rw[T8])|wp_step)
 exact wpAny_raiseNew_none hh hE
theorem CW(hbase:bm.contains (.type "BaseException")=true)(hh:A.handled=none)
  (h:wpAny M A (eval x env) (λv s₁=>∃e t d,v=.ref e/\s₁.heap.get? C=some (excClassObj nm q C N bs bm hdct sn sub ab col dd k0 k1 k2 k3 k5 newId)/\s₁.heap.get? e=some (CU C t d)/\E (.ref e) s₁) E s) :
  wpAny M A (exec (.Raise (some x) none pos) env) Q E s:=by
 rw[arm_exec_Raise]
 first
  |exact Z2 (abc (yr hbase hh (Z2 (aaB h (λv s₁ h₁=>Z2 (abc (Z7 h₁))) λ_ _ x=>x))))
  |(simp only[evalOpt,Option.map];exact Z2 (abc (yr hbase hh (Z2 (aaB h (λv s₁ h₁=>Z2 (abc (Z7 h₁))) λ_ _ x=>x)))))
  |(show wpAny M A (do standAt pos;raiseStmt env (some (do let v <-eval x env;standAt pos;pure v)) none) Q E s;exact Z2 (abc (yr hbase hh (Z2 (aaB h (λv s₁ h₁=>Z2 (abc (Z7 h₁))) λ_ _ x=>x)))))
end
def CY(H:Hp)(a:Addr):Hp:=λb=>if b=a then none else H b
theorem gB(h:b≠a):CY H a b=H b:=by unfold CY;rw[aac h]
theorem iW:CY H a a=none:=by unfold CY;rw[aae rfl]
theorem zp(x:iL P w H h)(e:H a=some (.ext φ)):iL P w (CY H a) h:=λb o q=>by
 have nb:b≠a:=λz=>by rw[z,iW]at q;cases q
 rw[gB nb]at q;refine(x b o q).stay (λ_ _ _ z=>z) (λc z=>?_) λc xs z=>?_
 ·rw[gB λy=>by rw[y,e]at z;cases z];exact z
 ·rw[gB λy=>by rw[y,e]at z;cases z];exact z
def m5(P:Program)(w:World):xW:=λouter H s E e s'=>∃a dx C T H',e=.ref a/\s'.os=s.os/\AllBare s'.gens/\Un (frs outer) [] H H' s.heap s'.heap/\iL P w H' s'.heap/\NY H' s'.heap a dx C T/\s.heap.get? a=none/\s.heap.get? T=none/\E (.ref C) dx H'
section
variable {P:Program} {w:World} {K:Frag} {mg:Str->Option Value} {base:Heap} {N:List Str} {qual:Str} {scope:Scope} {f:Addr} {cd:Value} {A:Around} {outer:List Env} {s:Shared} {H:Hp} {E:XK} {pins:List (Addr×Obj)} {σ:St} {H3:Hp} {s3:Shared} {e C t:Addr} {dx:Option Addr}
theorem zq(I:Inv (fS (m5 P w) P w K mg base N qual scope f cd A outer s H E) pins σ H3 s3)(he:H3 e=some (.ext (ExcAt e C t dx)))(hn:s.heap.get? e=none)(q:E (.ref C) dx (CY H3 e)) :
  (fS (m5 P w) P w K mg base N qual scope f cd A outer s H E).xe (.ref e) s3:=by
 have ho:s3.heap.get? e=some (CU C t dx):=(I.hok e _ he).1;have st:s3.heap.FunFrames base (envOfC qual scope s.heap.objs.size f cd::outer):=I.stack;refine Bh (P:=P) (w:=w) (H:=CY H3 e) (a0:=.ref t) (zp I.hok he) I.ok.frames st rfl ho rfl rfl rfl rfl rfl iW λh' T F nT L=>?_;have un:Un (frs outer) [] H H3 s.heap s3.heap:=I.base;have ne:∀b o,s.heap.get? b=some o->b≠e:=λb o z y=>by rw[y,hn]at z;cases z
 have nl:∀b o,s.heap.get? b=some o->b∉frs outer->b∉frs (envOfC qual scope s.heap.objs.size f cd::outer):=λb o z nb y=>by
  have y:b∈s.heap.objs.size::frs outer:=y
  rcases aal.mp y with y|y
  ·have:=aaf z;rw[y]at this;exact absurd this (aaH _)
  ·exact nb y
 have sT:s.heap.get? T=none:=by
  cases q:s.heap.get? T with
  |none=>rfl
  |some o=>obtain⟨o',z⟩:=un.there T o q (by simp);rw[nT]at z;cases z
 refine⟨e,dx,C,T,CY H3 e,rfl,I.os,I.bare,⟨λb o z nb nf _=>?_,λb o z nb nf _=>?_,λb o z nb _=>?_,λb o z _=>?_,λb xs z=>?_,λb o u z=>?_,λb ps z=>?_⟩,?_,F,hn,sT,q⟩
 ·exact L.keep b o (ne b o z) (nl b o z nf) (un.keep b o z nb nf (by simp))
 ·obtain⟨sl,z2⟩:=un.slot b o z nb nf (by simp);obtain⟨Oc,z3⟩:=L.slot b _ (Z6 _ nf) z2;exact⟨Oc,z3⟩
 ·rw[gB (ne b o z)];exact un.free b o z nb (by simp)
 ·obtain⟨o',z2⟩:=un.there b o z (by simp);exact L.there b o' z2
 ·have:=un.tups b xs z;rw[gB λy=>by rw[y,he]at this;cases this];exact this
 ·have:=un.frzs b o u z;rw[gB λy=>by rw[y,he]at this;cases this];exact this
 ·obtain⟨more,this⟩:=un.kU b ps z;exact⟨more,by rw[gB λy=>by rw[y,he]at this;cases this];exact this⟩
 ·have kp:∀c u ob,CY H3 e c=some u->s3.heap.get? c=some ob->h'.get? c=some ob:=λc u ob z z2=>by
   have nc:c≠e:=λy=>by rw[y,iW]at z;cases z
   rw[gB nc]at z;refine L.keep c ob nc (λy=>?_) z2;have:=I.kW c y;rw[this]at z;cases z
  exact λb o z=>(zp I.hok he b o z).stay (λc u y z2=>by
   rcases y with rfl|y
   ·exact kp _ _ _ z z2
   ·exact kp _ _ _ y z2) (λ_ y=>y) λ_ _ y=>y
theorem iX(un:Un fs [] H H' h h'):∀{l:List Env},(∀b∈frs l,H b=none)->h.FunFrames base l->h'.FunFrames base l
 |[],_,_=>trivial
 | env::r,hf,⟨hk,⟨L,o,e1,e2,e3,e4⟩,hr⟩=>by
  have e:frs (env::r)=L::frs r:=by unfold frs;rw[aa8,e1]
  obtain⟨sl,z⟩:=un.any e3 (hf L (by rw[e];exact aad)) (by simp);exact⟨hk,⟨L,_,e1,e2,z,e4⟩,iX un (λb hb=>hf b (by rw[e];exact Z6 _ hb)) hr⟩
theorem Gy:Passes (m5 P w) (fS (m5 P w) P w K mg base N qual scope f cd A outer s H E) E:=by
 rintro pins σ H1 s1 e' s' I ⟨a,dx,C,T,H',rfl,hos,hbare,un,hok,F,na,nT,q⟩;have st:s1.heap.FunFrames base (envOfC qual scope s.heap.objs.size f cd::outer):=I.stack;have un:Un (frs (envOfC qual scope s.heap.objs.size f cd::outer)) [] H1 H' s1.heap s'.heap:=un;have fre:∀b∈frs (envOfC qual scope s.heap.objs.size f cd::outer),H1 b=none:=I.kW;have u0:Un (frs outer) [] H H1 s.heap s1.heap:=I.base;have ne:∀b o,s1.heap.get? b=some o->b≠a/\b≠T:=λb o z=>⟨(λy=>by rw[y,na]at z;cases z),(λy=>by rw[y,nT]at z;cases z)⟩;have nl:∀b o,s.heap.get? b=some o->b∉frs outer->b∉frs (envOfC qual scope s.heap.objs.size f cd::outer):=λb o z nb y=>by
  have y:b∈s.heap.objs.size::frs outer:=y
  rcases aal.mp y with y|y
  ·have:=aaf z;rw[y]at this;exact absurd this (aaH _)
  ·exact nb y
 refine CV (P:=P) (w:=w) (H:=H') hok I.ok.frames (iX un fre st) rfl F λh' T' F' T9 kp sl th=>?_;have sn:∀b,s1.heap.get? b=none->s.heap.get? b=none:=λb z=>by
  cases q:s.heap.get? b with
  |none=>rfl
  |some o=>obtain⟨o',y⟩:=u0.there b o q (by simp);rw[z]at y;cases y
 have sT:s.heap.get? T'=none:=by
  rcases T9 with y|y
  ·rw[y];exact sn T nT
  ·refine sn T' ?_
   cases q:s1.heap.get? T' with
   |none=>rfl
   |some o=>obtain⟨o',z⟩:=un.there T' o q (by simp);rw[y]at z;cases z
 refine⟨a,dx,C,T',H',rfl,hos.trans I.os,hbare,⟨λb o z nb nf _=>?_,λb o z nb nf _=>?_,λb o z nb _=>?_,λb o z _=>?_,λb xs z=>un.tups b xs (u0.tups b xs z),λb o u z=>un.frzs b o u (u0.frzs b o u z),λb ps z=>?_⟩,?_,F',sn a na,sT,q⟩
 ·have z1:=u0.keep b o z nb nf (by simp);have z2:=un.keep b o z1 (u0.free b o z nb (by simp)) (nl b o z nf) (by simp);exact kp b o (ne b o z1).2 (ne b o z1).1 (nl b o z nf) z2
 ·obtain⟨rA,z1⟩:=u0.slot b o z nb nf (by simp);obtain⟨sl2,z2⟩:=un.slot b _ z1 (u0.free b o z nb (by simp)) (Z6 _ nf) (by simp);obtain⟨XA,z3⟩:=sl b _ (Z6 _ nf) z2;exact⟨XA,z3⟩
 ·obtain⟨o1,z1⟩:=u0.there b o z (by simp);exact un.free b o1 z1 (u0.free b o z nb (by simp)) (by simp)
 ·obtain⟨o1,z1⟩:=u0.there b o z (by simp);obtain⟨o2,z2⟩:=un.there b o1 z1 (by simp);exact th b o2 z2
 ·obtain⟨m1,z1⟩:=u0.kU b ps z;obtain⟨m2,z2⟩:=un.kU b _ z1;exact⟨m1++m2,by rw[z2,Array.append_assoc]⟩
 ·have nf:∀b u,H' b=some u->b∉frs (envOfC qual scope s.heap.objs.size f cd::outer):=λb u z y=>by
   obtain⟨o,z1,_⟩:=cj st b y;have:=un.free b o z1 (fre b y) (by simp);rw[this]at z;cases z
  have kk:∀c u ob,H' c=some u->s'.heap.get? c=some ob->h'.get? c=some ob:=λc u ob z z2=>
   kp c ob (λy=>by rw[y,F.fT]at z;cases z) (λy=>by rw[y,F.fa]at z;cases z) (nf c u z) z2
  exact λb o z=>(hok b o z).stay (λc u y z2=>by
   rcases y with rfl|y
   ·exact kk _ _ _ z z2
   ·exact kk _ _ _ y z2) (λ_ y=>y) λ_ _ y=>y
end
def KY(E:XK)(C:Addr)(g:Str)(t:TA):TS:=λ_ σ H=>t σ H λvs H1=>∃y,vs=[y]/\∀dx,H1 dx=none->E (.ref C) (some dx) (upd H1 dx (.xd [(g,y)]))
section
variable {P:Program} {w:World} {K:Frag} {mg:Str->Option Value} {base:Heap} {N:List Str} {qual:Str} {scope:Scope} {f:Addr} {cdv:Value} {A:Around} {outer:List Env} {s:Shared} {H:Hp} {E:XK} {k:Nat} {fI C D:Addr} {fd:FuncData} {ps:List Str} {cd:ClassData} {x g:Str} {arg:Expr} {p cpos pos:Pos} {t:TA}
theorem CZ(M:oG K C D fI cd)(F:dH P w K mg base zg k fI fd ps (vQ K g))(hr:dj (k+1) (A.deeper (envOfC qual scope s.heap.objs.size f cdv)))(hb:Binds K fd ps [])(hl:ps.length=2)(hn:findIn K (.ref C) g=some none)
  (hg:Gl (fS (m5 P w) P w K mg base N qual scope f cdv A outer s H E) x) (hm:mg x=some (.ref C)) (ha:PA (fS (m5 P w) P w K mg base N qual scope f cdv A outer s H E) [arg] t) (hdb:(x==("__debug__":Str))=false)
  (he:starEach [arg] (fS (m5 P w) P w K mg base N qual scope f cdv A outer s H E).env=(false,eval arg (fS (m5 P w) P w K mg base N qual scope f cdv A outer s H E).env)::starEach [] (fS (m5 P w) P w K mg base N qual scope f cdv A outer s H E).env) :
  PS (fS (m5 P w) P w K mg base N qual scope f cdv A outer s H E) (.Raise (some (.Call (.Name x p) [arg] [] cpos)) none pos) (KY E C g t):=by
 intro pins s1 σ H1 En I h;obtain⟨nm,q,N',bs,hdct,sn,sub,ab,col,dd,k0,k1,k2,k3,k5,lc⟩:=M.ob;refine CW (C:=C) (nm:=nm) (q:=q) (N:=N') (bs:=bs) (bm:=.ref D::VB) (hdct:=hdct) (sn:=sn) (sub:=sub) (ab:=ab) (col:=col) (dd:=dd) (k0:=k0) (k1:=k1) (k2:=k2) (k3:=k3) (k5:=k5) (newId:="ValueError.__new__") rfl (I.ok.hd rfl) ?_;refine aaI (eX I hg hm ?_ hdb);refine abS (h₀:=base) I.ok.mod.NQ M.kp (cy (ha cpos pins s1 σ H1 _ I h) λus s2 ⟨vs,H2,I2,r,y,ev,qq⟩=>⟨I2.iM,?_⟩) he rfl;subst ev;obtain⟨u,rfl,ru⟩:=vals1 r;refine zo (X:=fS (m5 P w) P w K mg base N qual scope f cdv A outer s H E) M F hr hb hl zh hn I2 ru λe t dx s3 ne nd nx O6 I3=>?_;have eH:CY (upd (upd (upd H2 e (.ext (ExcAt e C t none))) dx (.xd [(g,y)])) e (.ext (ExcAt e C t (some dx)))) e=upd H2 dx (.xd [(g,y)]):=by
  funext b
  by_cases c:b=e
  ·subst c;rw[iW,ao (Ne.symm nx),ne]
  ·rw[gB c,ao c]
   by_cases c2:b=dx
   ·subst c2;rw[au,au]
   ·rw[ao c2,ao c2,ao c]
 have sn:s.heap.get? e=none:=by
  cases z:s.heap.get? e with
  |none=>rfl
  |some o=>have un:Un (frs outer) [] H H2 s.heap s2.heap:=I2.base;obtain⟨o',z2⟩:=un.there e o z (by simp);rw[O6]at z2;cases z2
 exact⟨e,t,some dx,rfl,I3.iM _ _ lc,(I3.hok e _ au).1,zq I3 au sn (by rw[eH];exact qq dx nd)⟩
end
structure iY (K:Frag) (C D:Addr):Prop where
 ob:∃nm q N bs hdct sn sub ab col dd k0 k1 k2 k3 k5 c1 d1 es ep rA,K.lookup C=some (excClassObj nm q C N bs (.ref D::VB) hdct sn sub ab col dd k0 k1 k2 k3 k5 "ValueError.__new__")/\K.lookup N=some ⟨c1,d1,.dict es ep,rA⟩/\StrKeys es/\nsFind es "__init__" = none
 up:∃c0 dd cdD sl c1 d1 es ep rA,K.lookup D=some ⟨c0,dd,.cls cdD,sl⟩/\K.lookup cdD.ns=some ⟨c1,d1,.dict es ep,rA⟩/\StrKeys es/\nsFind es "__init__" = none
 kp:keepIn K (.ref C)=true
theorem iY.tail{K:Frag}{C D:Addr}{h:Heap}(M:iY K C D)(X:K.In h):OwnTail h VB (.ref D::VB):=by
 obtain⟨c0,dd,cdD,sl,c1,d1,es,ep,rA,l1,l2,sk,ni⟩:=M.up;exact .own (X _ _ l1) ⟨_,es,ep,X _ _ l2,rfl,sk,λ_=>rfl⟩ ni .base
theorem Inv.O7{t':Nat}(I:Inv X pins σ H s)(k:∀b u,s.heap.get? b=some u->h'.get? b=some u)(na:s.heap.get? a=none)(new:bF X.prog X.w (upd H a o) h' a o) :
  Inv X pins σ (upd H a o) { s with heap:=h',toks:=t' }:=by
 have hn:H a=none:=pX I.hok na;have ne:∀b u,s.heap.get? b=some u->b≠a:=λb u q z=>by rw[z,na]at q;cases q
 refine I.un ⟨λb u q _ _ _=>k b u q,λb u q _ _ _=>⟨u.slots,k b u q⟩,λb u q n _=>by rw[ao (ne b u q)];exact n,λb u q _=>⟨u,k b u q⟩,λb xs q=>by rw[ao (aC q hn)];exact q,λb u xs q=>by rw[ao (aC q hn)];exact q,λb ps q=>⟨#[],by rw[ao (aC q hn),q];simp⟩⟩ λb u e=>?_
 by_cases hb:b=a
 ·subst hb;rw[au]at e;cases e;exact new
 ·rw[ao hb]at e;exact(I.hok b u e).stay (λc v _ q=>k c v q) (λc q=>by rw[ao (aC q hn)];exact q) λc xs q=>by rw[ao (aC q hn)];exact q
theorem vR(M:iY X.K C D)(I:Inv X pins σ H s)
  (h:∀e t s',H e=none->s.heap.get? e=none->Inv X pins σ (upd H e (.ext (ExcAt e C t none))) s'->Q (.ref e) s'):wpAny (model X.prog X.w) X.A (call (.ref C) []) Q X.xe s:=by
 obtain⟨nm,q,N,bs,hdct,sn,sub,ab,col,dd,k0,k1,k2,k3,k5,c1,d1,es,ep,rA,lc,ln,sk,ni⟩:=M.ob;obtain⟨hh,gn,dr,tk,os⟩:=s;refine wpAny_call_exc_subT (mN:=λx=>nsFind es x) PySem.F.excBase_ValueError (M.tail I.iM) (I.iM _ _ lc) ⟨_,es,ep,I.iM _ _ ln,rfl,sk,λ_=>rfl⟩ ni (λh' e me=>?_) (by show 0<=sizeLine;exact abd _);obtain⟨t,ht,_,_⟩:=me.there;exact h e t _ (pX I.hok me.new) me.new (I.O7 (a:=e) (o:=.ext (ExcAt e C t none)) (h':=h') (t':=tk) me.keeps me.new (yq ht))
def Gz(E:XK)(C:Addr):TS:=λ_ _ H=>E (.ref C) none H
section
variable {P:Program} {w:World} {K:Frag} {mg:Str->Option Value} {base:Heap} {N:List Str} {qual:Str} {scope:Scope} {f:Addr} {cdv:Value} {A:Around} {outer:List Env} {s:Shared} {H:Hp} {E:XK} {C D:Addr} {x:Str} {p cpos pos:Pos}
theorem Bj(M:iY K C D)(hg:Gl (fS (m5 P w) P w K mg base N qual scope f cdv A outer s H E) x)(hm:mg x=some (.ref C))(hdb:(x==("__debug__":Str))=false) :
  PS (fS (m5 P w) P w K mg base N qual scope f cdv A outer s H E) (.Raise (some (.Call (.Name x p) [] [] cpos)) none pos) (Gz E C):=by
 intro pins s1 σ H1 En I h;obtain⟨nm,q,N',bs,hdct,sn,sub,ab,col,dd,k0,k1,k2,k3,k5,c1,d1,es,ep,rA,lc,ln,sk,ni⟩:=M.ob;refine CW (C:=C) (nm:=nm) (q:=q) (N:=N') (bs:=bs) (bm:=.ref D::VB) (hdct:=hdct) (sn:=sn) (sub:=sub) (ab:=ab) (col:=col) (dd:=dd) (k0:=k0) (k1:=k1) (k2:=k2) (k3:=k3) (k5:=k5) (newId:="ValueError.__new__") rfl (I.ok.hd rfl) ?_;refine aaI (eX I hg hm ?_ hdb);refine acg I.iM M.kp ?_;refine vR (X:=fS (m5 P w) P w K mg base N qual scope f cdv A outer s H E) M I λe t s3 ne O6 I3=>?_;have eH:CY (upd H1 e (.ext (ExcAt e C t none))) e=H1:=by
  funext b
  by_cases c:b=e
  ·subst c;rw[iW,ne]
  ·rw[gB c,ao c]
 have sn:s.heap.get? e=none:=by
  cases z:s.heap.get? e with
  |none=>rfl
  |some o=>have un:Un (frs outer) [] H H1 s.heap s1.heap:=I.base;obtain⟨o',z2⟩:=un.there e o z (by simp);rw[O6]at z2;cases z2
 exact⟨e,t,none,rfl,I3.iM _ _ lc,(I3.hok e _ au).1,zq I3 au sn (by rw[eH];exact h)⟩
end
section
variable {P:Program} {w:World} {M:Model} {A:Around} {E:Value->Shared->Prop} {s:Shared} {H:Hp} {base:Heap} {env:Env} {outer:List Env} {L a C T:Addr} {dx:Option Addr}
theorem C0(hok:iL P w H s.heap)(hfr:A.frames=some (env::outer))(hl:s.heap.FunFrames base (env::outer))(hf:env.frame=some L)(F:NY H s.heap a dx C T)
  (h:∀h' T',NY H h' a dx C T'->(T'=T\/s.heap.get? T'=none)->(∀b o,b≠T->b≠a->b∉frs (env::outer)->s.heap.get? b=some o->h'.get? b=some o)->(∀b o,b∈frs (env::outer)->s.heap.get? b=some o->∃sl,h'.get? b=some { o with slots:=sl })->(∀b o,s.heap.get? b=some o->∃o',h'.get? b=some o')->Q () { s with heap:=h' }) :
  wpAny M A (noteFrame (.ref a) env) (λ_ s2=>wpAny M A (setFlight (.ref a) none) Q E s2) E s:=by
 obtain⟨⟨oe,vs,a0,he,hc,hdx,hd,h0,h1⟩,⟨oT,ts,g1,g2,g3⟩,ne,fa,fT⟩:=F;have hin:∀b∈frs (env::outer),b∈T::a::frs (env::outer):=λb hb=>Z6 _ (Z6 _ hb);have hB:hideAll s.heap (T::a::frs (env::outer)) |>.StaysIn s.heap:=λb o e=>abR _ e;have key:=wpAny_noteFrame_onW (M:=M) (A:=A) (E:=E) (base:=hideAll s.heap (T::a::frs (env::outer))) (cls:=.ref C) (a0:=a0) (Q:=λ_ s'=>∃h',s'={ s with heap:=h' }/\Heap.NotedW (hideAll s.heap (T::a::frs (env::outer))) (env::outer) a (.ref C) a0 (rawInt L) s.heap h') hfr (gp hl hin) hf
  ⟨oe,vs,T,oT,ts,he,⟨hc,h0⟩,hd,h1,aaS _ aad,ne,g1,g2,g3⟩ hB (aaS _ (Z6 _ aad)) λh' z=>⟨h',rfl,z⟩
 refine aaB (oW (sH (.ref a) env) key) (λ_ s' zz=>?_) λ_ _ zz=>zz.1;obtain⟨⟨rz,rfl,st,ff,tr,up⟩,kd⟩:=zz;have Ua:=wpAny_setFlight_noneW (M:=M) (A:=A) (E:=E) (s:={ s with heap:=rz }) (base:=hideAll s.heap (T::a::frs (env::outer))) (cls:=.ref C) (a0:=a0) (Q:=λ_ s'=>∃h',s'={ s with heap:=h' }/\Heap.LeftW (hideAll s.heap (T::a::frs (env::outer))) (env::outer) a (.ref C) a0 s.heap h') st ff tr λh' z1 z2 z3 z4=>⟨h',rfl,z1,z2,z3,λb o e hn=>by
  obtain⟨sl,e1⟩:=up b o e hn;exact⟨sl,z4 b _ e1 hn⟩⟩
 refine aaB (oW (iV (.ref a) none) Ua) (λ_ s' zz=>?_) λ_ _ zz=>zz.1;obtain⟨⟨h',rfl,st,ff,⟨O5,vs',T',T6,ts',e1,⟨e2,e3⟩,e4,e5,e6,e7,e8,e9,Gx⟩,up⟩,XC⟩:=zz;have kd:KD s.heap h':=KD.trans kd XC;have Jm:T'=T\/s.heap.get? T'=none:=by
  cases q:s.heap.get? T' with
  |none=>exact .inr rfl
  |some o=>
   by_cases c:T'∈T::a::frs (env::outer)
   ·rcases aal.mp c with c|c
    ·exact .inl c
    rcases aal.mp c with c|c
    ·exact absurd c e7
    ·obtain⟨o',rz,h2'⟩:=cj hl T' c;rw[q]at rz;cases rz;obtain⟨sl,hs⟩:=up T' o q h2';rw[e8]at hs;cases hs;exact absurd e9 (h2' ts')
   ·have:=aaY _ q c;rw[e6]at this;cases this
 have hT:H T'=none:=by
  rcases Jm with z|z
  ·rw[z];exact fT
  ·exact pX hok z
 refine h h' T' ⟨⟨O5,vs',a0,e1,e2,?_,e4,e3,e5⟩,⟨T6,ts',e8,e9,Gx⟩,e7,fa,hT⟩ Jm (λb o T7 hb hn e=>?_) (λb o hb e=>?_) λb o e=>?_
 ·obtain⟨o',z1,z2⟩:=kd a oe he;rw[e1]at z1;cases z1;rw[z2,hdx]
 ·exact st b o (aaY _ e λz=>(aal.mp z).elim T7 λz=>(aal.mp z).elim hb hn)
 ·obtain⟨o',rz,h2'⟩:=cj hl b hb;rw[e]at rz;cases rz;exact up b o e h2'
 ·obtain⟨o',z,_⟩:=kd b o e;exact⟨o',z⟩
end
def C1(a C T:Addr)(dx:Option Addr):Heap->Prop:=λh=>∃oe vs,h.get? a=some oe/\oe.cls=.ref C/\oe.dict=dx/\oe.data=.fields vs/\vs[1]?=some (.ref T)
def Bk(T:Addr):Heap->Prop:=λh=>∃oT ts,h.get? T=some oT/\oT.data=.fields ts/\3<ts.size
theorem O8(q:C1 a C T dx h):bF P w H h a (.ext (C1 a C T dx)) :=
 ⟨q,(let ⟨oe,_,e,_⟩:=q;⟨oe,e⟩),λh1 h2 ⟨oe,vs,e,r⟩ k=>⟨oe,vs,k _ e,r⟩⟩
theorem Jo(q:Bk T h):bF P w H h T (.ext (Bk T)) :=
 ⟨q,(let ⟨oe,_,e,_⟩:=q;⟨oe,e⟩),λh1 h2 ⟨oe,vs,e,r⟩ k=>⟨oe,vs,k _ e,r⟩⟩
def nR(H:Hp)(a C T:Addr)(dx:Option Addr):Hp:=upd (upd H a (.ext (C1 a C T dx))) T (.ext (Bk T))
abbrev Cx.held(X:Cx)(v:Value):Cx:={ X with A:=X.A.mark (some v),calm:=false }
theorem Cx.Ok.held{X:Cx}(ok:X.Ok)(v:Value):(X.held v).Ok :=
 ⟨ok.mod,ok.kind,ok.glob,ok.blt,ok.above,ok.inj,ok.has,ok.NR,(λz=>by cases z),ok.frames,ok.stk,ok.R5,ok.bs,ok.Ft,ok.Ax,ok.Ay,ok.mO,ok.Jc⟩
section
variable {X:Cx} {pins:List (Addr×Obj)} {σ:St} {H:Hp} {s:Shared} {v:Value}
theorem Inv.held(I:Inv X pins σ H s)(v:Value):Inv (X.held v) pins σ H s:=⟨I.ok.held v,I.os,I.bare,I.base,I.loc,I.cell,I.free,I.fQ,I.pin,I.hok,I.len⟩
theorem Inv.KZ(ok:X.Ok)(I:Inv (X.held v) pins σ H s):Inv X pins σ H s:=⟨ok,I.os,I.bare,I.base,I.loc,I.cell,I.free,I.fQ,I.pin,I.hok,I.len⟩
end
theorem oX(h1:b≠a)(h2:b≠T):nR H a C T dx b=H b:=by unfold nR;rw[ao h2,ao h1]
theorem zu:nR H a C T dx T=some (.ext (Bk T)):=by unfold nR;exact au
theorem sI(h:T≠a):nR H a C T dx a=some (.ext (C1 a C T dx)):=by unfold nR;rw[ao (Ne.symm h),au]
section
variable {X:Cx} {pins:List (Addr×Obj)} {σ:St} {H:Hp} {s s':Shared} {E:XK} {M:Model} {Ex:Value->Shared->Prop}
theorem uw{e:Value}{Q:Value->Shared->Prop}(hst:X.stack=X.env::X.outer)(hfm:X.env.frame=some X.env.locals)(I:Inv X pins σ H s)(c:m5 X.prog X.w X.stack H s E e s')
  (h:∀a C T dx H' s3,E (.ref C) dx H'->H' a=none->H' T=none->T≠a->Inv X pins σ (nR H' a C T dx) s3->Q (.ref a) s3) :
  wpAny M X.A (noteFrame e X.env) (λ_ s2=>wpAny M X.A (setFlight e none) (λ_ s3=>Q e s3) Ex s2) Ex s':=by
 obtain⟨a,dx,C,T,H',rfl,hos,hbare,un,hok,F,na,nT,q⟩:=c;have st:s.heap.FunFrames X.base (X.env::X.outer):=by rw[<-hst];exact I.stack
 have un':Un (frs (X.env::X.outer)) [] H H' s.heap s'.heap:=by rw[<-hst];exact un
 have fre:∀b∈frs (X.env::X.outer),H b=none:=by rw[<-hst];exact I.kW
 have ne:∀b o,s.heap.get? b=some o->b≠a/\b≠T:=λb o z=>⟨(λy=>by rw[y,na]at z;cases z),(λy=>by rw[y,nT]at z;cases z)⟩;refine C0 (P:=X.prog) (w:=X.w) (H:=H') hok (by rw[I.ok.frames,hst]) (iX un' fre st) hfm F λh' T' F' T9 kp sl th=>?_;have neT:∀b o,s.heap.get? b=some o->b≠T':=λb o z y=>by
  rcases T9 with w|w
  ·exact(ne b o z).2 (y.trans w)
  ·obtain⟨o',z2⟩:=un'.there b o z (by simp);rw[y,w]at z2;cases z2
 have out:∀b u,H' b=some u->nR H' a C T' dx b=some u:=λb u z=>by
  rw[oX (λy=>by rw[y,F'.fa]at z;cases z) λy=>by rw[y,F'.fT]at z;cases z];exact z
 have nf:∀b u,H' b=some u->b∉frs (X.env::X.outer):=λb u z y=>by
  obtain⟨o,z1,_⟩:=cj st b y;have:=un'.free b o z1 (fre b y) (by simp);rw[this]at z;cases z
 have kk:∀c u ob,H' c=some u->s'.heap.get? c=some ob->h'.get? c=some ob:=λc u ob z z2=>
  kp c ob (λy=>by rw[y,F.fT]at z;cases z) (λy=>by rw[y,F.fa]at z;cases z) (nf c u z) z2
 have Ub:iL X.prog X.w (nR H' a C T' dx) h':=λb o z=>by
  by_cases cT:b=T'
  ·subst cT;rw[zu]at z;cases z;obtain⟨oT,ts,g1,g2,g3⟩:=F'.tb;exact Jo ⟨oT,ts,g1,g2,(aaW.mp g3).1⟩
  by_cases ca:b=a
  ·subst ca;rw[sI F'.ne]at z;cases z;obtain⟨oe,vs,a0,e1,e2,e3,e4,e5,e6⟩:=F'.ob;exact O8 ⟨oe,vs,e1,e2,e3,e4,e6⟩
  rw[oX ca cT]at z;exact(hok b o z).stay (λc u y z2=>by
   rcases y with rfl|y
   ·exact kk _ _ _ z z2
   ·exact kk _ _ _ y z2) (λ_ y=>out _ _ y) λ_ _ y=>out _ _ y
 refine h a C T' dx H' _ q F'.fa F'.fT F'.ne (I.Jd (ch:=[]) (s':={ s' with heap:=h' }) hos ?_ Ub hbare λb z=>absurd z (by simp));rw[hst];refine⟨λb o z nb nf _=>?_,λb o z nb nf _=>?_,λb o z nb _=>?_,λb o z _=>?_,λb xs z=>out _ _ (un'.tups b xs z),λb o u z=>out _ _ (un'.frzs b o u z),λb ps z=>?_⟩
 ·exact kp b o (ne b o z).2 (ne b o z).1 nf (un'.keep b o z nb nf (by simp))
 ·obtain⟨rA,z1⟩:=un'.slot b o z nb nf (by simp);obtain⟨sl2,z2⟩:=sl b _ nf z1;exact⟨sl2,z2⟩
 ·rw[oX (ne b o z).1 (neT b o z)];exact un'.free b o z nb (by simp)
 ·obtain⟨o1,z1⟩:=un'.there b o z (by simp);exact th b o1 z1
 ·obtain⟨m1,z1⟩:=un'.kU b ps z;exact⟨m1,out _ _ z1⟩
theorem again(ne:T≠a)(I:Inv X pins σ (nR H a C T dx) s)(h:∀s',Inv X pins σ (nR H a C T dx) s'->Q () s'):wpAny M A (setFlight (.ref a) none) Q Ex s:=by
 obtain⟨⟨oe,vs,e1,e2,e3,e4,e5⟩,_⟩:=I.hok a _ (sI ne);obtain⟨⟨oT,ts,g1,g2,g3⟩,_⟩:=I.hok T _ zu;refine wpAny_setFlight_none e1 e4 e5 g1 g2 g3 (h _ ?_);have gT:=aaD (Obj.mapFields (·.setIfInBounds 3 Value.none)) g1 (abg (aaL g2 (·.setIfInBounds 3 Value.none)));have same:upd (nR H a C T dx) T (.ext (Bk T))=nR H a C T dx:=by
  funext b
  by_cases c:b=T
  ·subst c;rw[au,zu]
  ·rw[ao c]
 have:=I.write (x:=T) (e:=T) (o:=.ext (Bk T)) (h':=s.heap.update T (Obj.mapFields (·.setIfInBounds 3 Value.none))) (t':=s.toks) (by rw[zu];exact abf) (.inl rfl) (λb u hb z=>(aaV _ _ (Ne.symm hb)).trans z) ⟨_,gT⟩
  (Jo ⟨_,_,gT,aaL g2 _,by rw[Array.size_setIfInBounds];exact g3⟩)
 rw[same]at this;exact this
theorem goes{i:Nat}(hN:X.N.Nodup)(hi:X.N[i]?=some n)(hk:X.env.scope.names.lookup n=some .local)(I:Inv X pins σ H s)(h:∀s',Inv X pins (σ.set i none) H s'->Q () s') :
  wpAny M A (do bindName X.env n .none;unbindBehindTheSuite X.env n pos) Q Ex s:=by
 obtain⟨m,hn,hl⟩:=id I.loc;have hcls:(X.env.scope.kind==.class||(X.env.scope.kind==.module&&X.env.locals != X.env.globals))=false:=by rw[I.ok.kind];rfl
 have R6:i < σ.length:=by rw[I.len];exact(Z9.mp hi).1
 have cne:=I.cne;refine wpAny_nameGoes_keeps hk hn hcls λh' v hn' hs=>?_;obtain⟨oL,_,_,VC,_⟩:=id hn;have tracked:iL X.prog X.w H h':=λb ob e=>by
  refine(I.hok b ob e).stay (λc w' hc q=>(hs.2 c ?_).trans q) (λ_ q=>q) λ_ _ q=>q;rintro rfl
  rcases hc with hc|hc
  ·rw[<-hc,I.free]at e;cases e
  ·rw[I.free]at hc;cases hc
 refine h _ ⟨I.ok,I.os,I.bare,⟨λb o e n hb hx=>?_,λb o e n hb hx=>?_,I.base.free,λb o e hx=>?_,I.base.tups,I.base.frzs,I.base.kU⟩,⟨_,hn',λj y v' e1 e2 e3=>?_⟩,λy c e=>?_,I.free,I.fQ,λp hp=>?_,tracked,by simpa using I.len⟩
 ·exact(hs.2 b (aaj (aai (aaf e) I.ok.above))).trans (I.base.keep b o e n hb hx)
 ·obtain⟨sl,e1⟩:=I.base.slot b o e n hb hx;exact⟨sl,(hs.2 b (aaj (aai (aaf e) I.ok.above))).trans e1⟩
 ·obtain⟨o',e1⟩:=I.base.there b o e hx;exact⟨o',(hs.2 b (aaj (aai (aaf e) I.ok.above))).trans e1⟩
 ·by_cases hj:j=i
  ·subst hj;rw[aak R6]at e2;cases e2
  ·rw[aaa (Ne.symm hj)]at e2
   obtain⟨u',r',q⟩:=hl j y v' e1 e2 e3;refine⟨u',r',?_⟩
   rcases q with ⟨k,e⟩|⟨k,c,e,z⟩
   ·refine .inl ⟨k,?_⟩;have:y≠n:=λe=>hj (o8 hN e1 (e▸hi));simp[this,e]
   ·exact .inr ⟨k,c,e,z.sameBut hs (cne y c e)⟩
 ·obtain⟨w',z⟩:=I.cell y c e;exact⟨w',z.sameBut hs (cne y c e)⟩
 ·obtain⟨e,n,ne,nf,d⟩:=I.pin p hp;exact⟨(hs.2 p.1 ne).trans e,n,ne,nf,d⟩
end
section
variable {M:Model} {A:Around} {E:Value->Shared->Prop}
variable {nm q:Str} {C N:Addr} {bs bm:List Value} {hdct:Bool} {sn:List Str} {sub:List Value} {ab:Bool} {col:Option Bool} {dd:Option Addr} {k0 k1 k2 k3 k5:Option Value} {newId:String}
variable {O9 q':Str} {C' N':Addr} {bs' bm':List Value} {sJ:Bool} {sn':List Str} {sub':List Value} {NZ:Bool} {col':Option Bool} {AO:Option Addr} {j0 j1 j2 j3 j5:Option Value} {newId':String}
theorem nS{h:Heap}{g:Array GenState}{d:Drawn}{t:Nat}{os:OsState}{e:Addr}{oe:Obj}{b:Bool}{Q:Bool->Shared->Prop}
  (hC:h.get? C=some (excClassObj nm q C N bs bm hdct sn sub ab col dd k0 k1 k2 k3 k5 newId)) (V5:h.get? C'=some (excClassObj O9 q' C' N' bs' bm' sJ sn' sub' NZ col' AO j0 j1 j2 j3 j5 newId')) (he:h.get? e=some oe) (hcls:oe.cls=.ref C)
  (hbase:bm'.contains (.type "BaseException")=true) (hb:(Value.ref C::bm).contains (.ref C')=b)
  (hq:Q b ⟨h,g,d,t,os⟩):wpAny M A (excMatches (.ref e) (.ref C')) Q E ⟨h,g,d,t,os⟩:=by
 have T8:(Value.ref C'::bm').contains (.type "BaseException")=true:=by rw[contains_cons,hbase,Bool.or_true]
 have f:=tc_notTuple;unfold excMatches
 repeat (first|(with_reducible refine aa6 he ?_;rw[hcls])|with_reducible refine aa6 V5 ?_|(with_reducible refine abL V5 ?_;rw[T8])|(with_reducible refine abL hC ?_;rw[hb])|wp_step)
 cases b<;>(wp_walk;exact hq)
end
def kE(K:Frag)(C C':Addr)(b:Bool):Prop:=(∃nm q N bs bm hdct sn sub ab col dd k0 k1 k2 k3 k5 newId,K.lookup C=some (excClassObj nm q C N bs bm hdct sn sub ab col dd k0 k1 k2 k3 k5 newId)/\(Value.ref C::bm).contains (.ref C')=b) /\
 ∃nm q N bs bm hdct sn sub ab col dd k0 k1 k2 k3 k5 newId,K.lookup C'=some (excClassObj nm q C' N bs bm hdct sn sub ab col dd k0 k1 k2 k3 k5 newId)/\bm.contains (.type "BaseException")=true
def Pa(X:Cx)(C:Addr)(hs:List ExceptHandler)(u:Ends->St->Addr->Hp->Prop):Prop:=∀pins s σ H a T dx D,Inv X pins σ (nR H a C T dx) s->T≠a->u D σ a (nR H a C T dx)->wpAny (model X.prog X.w) X.A (handleBy (.ref a) X.env hs) (SP X pins D) X.xe s
def Bm(i:Nat)(u:TS):Ends->St->Addr->Hp->Prop:=λD σ a H=>u { nx:=λσ' H2=>D.nx (σ'.set i none) H2,rt:=λ_ _=>False } (σ.set i (some (.ref a))) H
section
variable {X:Cx} {C C':Addr} {cx n:Str} {cp hp:Pos} {u:TS} {i:Nat} {b0:Stmt} {suite:List Stmt} {rest:List ExceptHandler}
theorem yt(Uc:Gl X cx)(Ud:X.mg cx=some (.ref C'))(hdc:(cx==("__debug__":Str))=false)(hC:kE X.K C C' true)(hN:X.N.Nodup)(hi:X.N[i]?=some n)(hn:X.env.scope.names.lookup n=some .local)
  (hu:∀a,nM (X.held (.ref a)).Ff (b0::suite) u):Pa X C (.ExceptHandler (some (.Name cx cp)) (some n) (b0::suite) hp::rest) (Bm i u):=by
 intro pins s3 σ H a T dx D I3 ne q3;obtain⟨⟨nm,q,N,bs,bm,hdct,sn,sub,ab,col,dd,k0,k1,k2,k3,k5,newId,lc,hsub⟩,O9,q',N',bs',bm',sJ,sn',sub',NZ,col',AO,j0,j1,j2,j3,j5,newId',Ue,hbase⟩:=hC;have J3:=I3.held (.ref a);refine wpAny_handleBy_cons (codeAny_handlers_test (eX J3 Uc Ud ?_ hdc)) (by intro q;cases q);obtain⟨⟨oe,vs',e1,e2,e3,e4,e5⟩,_⟩:=I3.hok a _ (sI ne);obtain⟨hh,g,d,tk,os⟩:=s3;refine nS (I3.iM _ _ lc) (I3.iM _ _ Ue) e1 e2 hbase hsub (codeAny_handlers_suite_as ?_);refine again ne J3 λs4 J4=>?_;refine o9 (X:=X.held (.ref a)) J4 hN hi (.inl hn) (show RelV (.ref a) (.ref a) from rfl) (λs5 J5=>?_) (.inr hn);refine aaB (hu a pins s5 _ _ _ (J5.oz _) q3) (λfl s6 z=>?_) λ_ _ z=>False.elim z;cases fl with
 |next=>obtain⟨σ',H2,I6,q6⟩:=z;have I6:Inv X pins σ' H2 s6:=Inv.KZ I3.ok I6.gy;exact goes hN hi hn I6 λs7 I7=>⟨_,H2,I7,q6⟩
 |ret v=>obtain⟨_,_,_,_,_,z⟩:=z;exact False.elim z
 |brk=>obtain⟨_,_,_,z⟩:=z;exact False.elim z
 |cont=>obtain⟨_,_,_,z⟩:=z;exact False.elim z
theorem ux(Uc:Gl X cx)(Ud:X.mg cx=some (.ref C'))(hdc:(cx==("__debug__":Str))=false)(hC:kE X.K C C' false)(hr:Pa X C rest w):Pa X C (.ExceptHandler (some (.Name cx cp)) nn body hp::rest) w:=by
 intro pins s3 σ H a T dx D I3 ne q3;obtain⟨⟨nm,q,N,bs,bm,hdct,sn,sub,ab,col,dd,k0,k1,k2,k3,k5,newId,lc,hsub⟩,O9,q',N',bs',bm',sJ,sn',sub',NZ,col',AO,j0,j1,j2,j3,j5,newId',Ue,hbase⟩:=hC;have J3:=I3.held (.ref a);refine wpAny_handleBy_cons (codeAny_handlers_test (eX J3 Uc Ud ?_ hdc)) (by intro q;cases q);obtain⟨⟨oe,vs',e1,e2,e3,e4,e5⟩,_⟩:=I3.hok a _ (sI ne);obtain⟨hh,g,d,tk,os⟩:=s3;refine nS (I3.iM _ _ lc) (I3.iM _ _ Ue) e1 e2 hbase hsub ?_;exact hr pins _ σ H a T dx D (I3.tok _) ne q3
end
def Ug(sp:Sp)(t:TA)(w:Addr->Ends->St->Addr->Hp->Prop):TS:=λD σ H=>t σ H λvs H1=>sp vs H1 (λ_ H2=>D.nx σ H2) λc d H'=>∃C,c=.ref C/\∀a T,H' a=none->H' T=none->T≠a->w C D σ a (nR H' a C T d)
section
variable {X:Cx} {k:Nat} {f:Addr} {fd:FuncData} {ps:List Str} {sp:Sp} {x:Str} {p cpos epos pos:Pos} {e0:Expr} {es:List Expr} {t:TA} {h0:ExceptHandler} {hs:List ExceptHandler} {w:Addr->Ends->St->Addr->Hp->Prop}
theorem K0(hst:X.stack=X.env::X.outer)(hfm:X.env.frame=some X.env.locals)(F:dH X.prog X.w X.K X.mg X.base (m5 X.prog X.w) k f fd ps sp)(hr:dj k X.A)(hg:Gl X x)(hm:X.mg x=some (.ref f))(hk:keepIn X.K (.ref f)=true)(hb:Binds X.K fd ps [])
  (ha:PA X.Ff (e0::es) t) (hdb:(x==("__debug__":Str))=false) (he:starEach (e0::es) X.env=(false,eval e0 X.env)::starEach es X.env) (hpl:(backTo cpos (starEach es X.env)).any (·.1)=false)
  (hsw:swapsWith (.Call (.Name x p) (e0::es) [] cpos) none epos.line X.env=pure false) (hh:∀C,Pa X C (h0::hs) (w C)) :
  PS X (.Try [.Expr (.Call (.Name x p) (e0::es) [] cpos) epos] (h0::hs) [] [] pos) (Ug sp t w):=by
 intro pins s σ H D I h;refine wpAny_Try_except (wpAny_execs_cons (wpAny_Expr_any ?_ I.quiet hsw));refine aaI (eX I hg hm ?_ hdb);refine abS (h₀:=X.base) I.ok.mod.NQ hk (aaB (ha cpos pins s σ H _ (I.oz _) h) (λus s1 ⟨vs,H1,I1,r,q⟩=>⟨I1.iM,?_⟩) λ_ _ z=>False.elim z) he hpl;have I1:=I1.gy;have hl:us.length=ps.length:=by rw[<-r.length];exact F.len _ _ _ _ q
 have Sh:=hb s1 us I1.iM (by rw[aaJ];exact hl);rw[aaJ] at Sh;refine ab4 (abq (F.run X.A X.stack s1 H1 ⟨us,[]⟩ us vs _ _ hr I1.xY Sh r q) λrr s' hq=>?_);cases rr with
 |ok fl=>
  cases fl with
  |ret v=>obtain⟨y,H2,I2,_,q2⟩:=I1.after hq;exact abM (abM ⟨σ,H2,I2,q2⟩)
  |next=>exact False.elim hq
  |brk=>exact False.elim hq
  |cont=>exact False.elim hq
 |error ev=>unfold CR at hq;dsimp only at hq;refine uw (Q:=λev s3=>wpAny (model X.prog X.w) X.A (handleBy ev X.env (h0::hs)) (SP X pins D) X.xe s3) hst hfm I1 hq ?_;rintro a C' T dx H' s3 ⟨C,ec,q3⟩ fa fT ne I3;cases ec;exact hh C' pins s3 σ H' a T dx D I3 ne (q3 a T fa fT ne)
end
def gaOf(x:Addr)(name:Str)(tk:Tok):Sem Fin:=PySem.Builtin.«object.__getattribute__» (Args.mk [.ref x,.str name tk] [])
def zv(P:Value->Shared->Prop)(fin:Fin)(s:Shared):Prop:=match fin with|.done (.ret v)=>P v s|_=>False
section
variable {prog:Program} {w:World} {A:Around} {E:Value->Shared->Prop} {s:Shared} {K:Frag} {x C:Addr} {ox:Obj} {od:Option Obj} {name:Str}
theorem getx_by{fill expr:Bool}(X:K.In s.heap)(I:PySem.W.InstAt s.heap x ox C od)(hga:findIn K (.ref C) "__getattribute__" = some (some (.builtin "BaseException.__getattribute__")))
  (XD:findIn K (.ref C) "__getattr__" = some none) (hm:PySem.W.mroIn K C (.type "BaseException")=some true)
  (h:∀A',wpAny (model prog w) A' (gaOf x name tk) (zv λv s'=>wpAny (model prog w) A (handedOut v) Q E s') (λ_ _=>False) s) :
  wpAny (model prog w) A (getAttrBy (.ref x) (.str name tk) fill expr) Q E s:=by
 obtain⟨hh,g,d,t,os⟩:=s;have L0:=I.type (M:=model prog w);have L1:=abG (M:=model prog w) X hga;have L2:=abG (M:=model prog w) X XD;have sub:PySem.W.Looks (model prog w) hh (isInstance (.ref x) (.type "BaseException")) true:=I.type.andThen (looks_mroIn X hm);have hx2:(Value.builtin "BaseException.__getattribute__" == Value.builtin "object.__getattribute__")=false:=by decide +kernel
 have hx1:¬ ((onTheHeap (Value.ref C)&&Value.builtin "BaseException.__getattribute__" == Value.builtin "object.__getattribute__")=true):=by rw[hx2];simp
 have hx0:¬ ((expr&&onTheHeap (Value.builtin "BaseException.__getattribute__"))=true):=by cases expr<;>simp[onTheHeap]
 have f3:=(PySem.F.attr_ValueError).ga.bind (.ref x);unfold getAttrBy;refine aaM (Z2 (L0.at (Z2 (L1.at ?_))));dsimp only;rw[aac hx1];unfold getAttrByItsOwn hookBefore;refine Z2 ?_;show wpAny _ _ (typeLookup (.ref C) "__getattr__") _ _ _;refine L2.at (Z2 (wpAny_attempt (aaM ?_)));unfold callGetattribute;rw[aac hx0];unfold boundAndCalled;rw[f3];refine Z2 (Z7 (ab4 ?_));have hk:builtinKind "BaseException.__getattribute__" = some .slot:=by decide +kernel
 have hsp:splitId "BaseException.__getattribute__" = some ("BaseException","__getattribute__"):=by decide +kernel
 refine ace (PySem.F.attr_ValueError).ga.plain F.entry_bexc_ga (@PySem.W.check_slot (model prog w) _ _ _ "BaseException.__getattribute__" "BaseException" "__getattribute__" (.ref x) [.str name tk] [] _ hk hsp sub (F.args_bexc_ga _ _) ?_);refine aaB (show wpAny _ _ (PySem.Builtin.«object.__getattribute__» (Args.mk [.ref x,.str name tk] [])) _ _ _ from h _) (λfin s' z=>?_) λ_ _ z=>z.elim;unfold zv at z
 rcases fin with (_|_|_|_)|_<;>first|exact z|exact z.elim
theorem C2(X:K.In s.heap)(I:PySem.W.InstAt s.heap x ox C od)(hf:findObj K C od name=some (.value v))(h:P v s):wpAny (model prog w) A' (gaOf x name tk) (zv P) E s:=by
 obtain⟨hh,g,d,t,os⟩:=s;have L0:=I.type (M:=model prog w);have L1:=looks_find (M:=model prog w) X I hf;unfold gaOf Builtin.«object.__getattribute__»;refine Z2 (Z7 ?_);refine Z2 (Z7 ?_);refine Z2 (L0.at (Z2 (L1.at ?_)));exact Z7 h
theorem GA{g0 a0:Value}(X:K.In s.heap)(I:PySem.W.InstAt s.heap x ox C od)(hf:findObj K C od name=some (.bind g0 a0))(h:wpAny (model prog w) A' (call g0 [a0,.ref x,.ref C]) P E s):wpAny (model prog w) A' (gaOf x name tk) (zv P) E s:=by
 obtain⟨hh,g,d,t,os⟩:=s;have L0:=I.type (M:=model prog w);have L1:=looks_find (M:=model prog w) X I hf;unfold gaOf Builtin.«object.__getattribute__»;refine Z2 (Z7 ?_);refine Z2 (Z7 ?_);refine Z2 (L0.at (Z2 (L1.at ?_)));show wpAny _ _ (holding [a0] (call g0 [a0,.ref x,.ref C]) >>= ret) _ _ _;exact Z2 (aaM (aaB h (λv s' z=>Z7 z) λ_ _ z=>z))
end
structure fc (K:Frag) (C:Addr):Prop where
 ga:findIn K (.ref C) "__getattribute__" = some (some (.builtin "BaseException.__getattribute__"))
 gn:findIn K (.ref C) "__getattr__" = some none
 mb:PySem.W.mroIn K C (.type "BaseException")=some true
 hd:hasDictIn K C=true
 ha:findIn K (.ref C) "__class__" = some (some (.builtin "object.__class__"))
 hn:specialIn K (.builtin "object.__class__") "__get__" = some (some (.builtin "getset_descriptor.__get__"))
 htk:takesIn K (.builtin "object.__class__")=some true
 hm:PySem.W.mroIn K C (.type "object")=some true
section
variable {prog:Program} {w:World} {A:Around} {E:Value->Shared->Prop} {s:Shared} {K:Frag} {x C:Addr} {ox od:Obj} {name:Str}
theorem Uh{expr:Bool}(X:K.In s.heap)(I:PySem.W.InstAt s.heap x ox C (some od))(G:fc K C)(hn:findIn K (.ref C) name=some none)(hl:lookIn name od=some (some v))(hv:handedIn v=true)(h:Q v { s with toks:=s.toks+1 }) :
  wpAny (model prog w) A (getAttr (.ref x) name expr) Q E s:=by
 obtain⟨hh,g,d,t,os⟩:=s;unfold getAttr;refine Z2 (wpAny_mkText (getx_by (K:=K) X I G.ga G.gn G.mb λA'=>C2 X I (PySem.W.findObj_own G.hd hn rfl hl) ?_));rw[PySem.W.handedOut_of hv];exact Z7 h
theorem Bo{od:Option Obj}{a g:Value}(hc:(PySem.W.clsIn K C).isSome=true)(ha:findIn K (.ref C) name=some (some a))(hg:specialIn K a "__get__" = some (some g))(ht:takesIn K a=some true):findObj K C od name=some (.bind g a):=by
 obtain⟨cd,hc⟩:=Option.isSome_iff_exists.mp hc;unfold findObj;rw[hc,bind_some,ha,bind_some];simp[hg,ht]
theorem C3{od:Option Obj}{Q:Option Value->Shared->Prop}(X:K.In s.heap)(I:PySem.W.InstAt s.heap x ox C od)(G:fc K C)(h:Q (some (.ref C)) { s with toks:=s.toks+1 }) :
  wpAny (model prog w) A (getAttr? (.ref x) "__class__") Q E s:=by
 have hf:findObj K C od "__class__" = some (.bind (.builtin "getset_descriptor.__get__") (.builtin "object.__class__")):=Bo (by obtain⟨cd,hc,_⟩:=acw G.hd;rw[hc];rfl) G.ha G.hn G.htk;obtain⟨hh,g,d,t,os⟩:=s;unfold getAttr? getAttrBy?;refine Z2 (wpAny_mkText (Z2 (wpAny_attempt (getx_by (K:=K) X I G.ga G.gn G.mb λA'=>GA X I hf ?_))));refine ab4 (PySem.W.class_get (ox:=ox) (od:=od) X I G.hm ?_);refine Z7 ?_;exact Z7 h
theorem vS(G:fc K C):PySem.W.KitX K (.ref x) (.ref C) (λh=>∃ox od,PySem.W.InstAt h x ox C od) where
 ty:=λ_ _ _ ⟨_,_,I⟩=>I.type
 it:=λ_ _ X _=>by
  obtain⟨cdD,Gu,_⟩:=acw G.hd;unfold PySem.W.clsIn at Gu;split at Gu
  ·rename_i c' d' XE Oc ho;intro A' Q' E' s' k q;unfold isType loadHead;exact Z2 (wpAny_loadPart (k _ _ (X _ _ ho)) (Z7 q))
  ·cases Gu
 ne:=λh tp dd its n sl X htp=>by
  obtain⟨cdD,Gu,_⟩:=acw G.hd;refine Bool.eq_false_iff.mpr λq=>?_;have e:C=tp:=Value.ref.inj (beq_iff_eq.mp q);subst e;unfold PySem.W.clsIn at Gu;split at Gu
  ·rename_i c' d' XE Oc ho;have z:=(X _ _ ho).symm.trans htp;cases z
  ·cases Gu
 ca:=λX ⟨_,_,I⟩ k=>C3 X I G k
end
section
variable {X:Cx} {pins:List (Addr×Obj)} {σ:St} {H:Hp} {s:Shared} {A:Around} {E:Value->Shared->Prop} {e:Expr} {f:Str} {pos:Pos} {ta:TE}
def XF(a C:Addr)(dx:Option Addr)(h:Heap):Prop:=∃oe vs,h.get? a=some oe/\oe.cls=.ref C/\oe.dict=dx/\oe.data=.fields vs
def C4(H:Hp)(a C:Addr)(dx:Option Addr):Prop:=∃φ,H a=some (.ext φ)/\∀h,φ h->XF a C dx h
theorem C4.uw(e:H a=some (.ext (C1 a C T dx))):C4 H a C dx:=⟨_,e,λh ⟨oe,vs,e1,e2,e3,e4,_⟩=>⟨oe,vs,e1,e2,e3,e4⟩⟩
theorem C4.made(e:H a=some (.ext (ExcAt a C t dx))):C4 H a C dx:=⟨_,e,λh q=>⟨_,_,q,rfl,rfl,rfl⟩⟩
theorem zw(I:Inv X pins σ H s)(ha:C4 H a C (some dx))(hd:H dx=some (.xd fs)) :
  ∃ox od,PySem.W.InstAt s.heap a ox C (some od)/\∀f v,fs.lookup f=some v->∃u,RelV v u/\lookIn f od=some (some u):=by
 obtain⟨φ,ha,hx⟩:=ha;obtain⟨oe,vs,e1,e2,e3,e4⟩:=hx _ (I.hok a _ ha).1;obtain⟨mA,n,r⟩:=I.hok dx _ hd;obtain⟨od,ho,hl⟩:=AI n;refine⟨oe,od,⟨e1,e2,by unfold notCls;rw[e4],by rw[e3];exact ho⟩,λf v z=>?_⟩;obtain⟨u,hu,ru⟩:=ou.some_of (v:=v) (o:=mA f) (by rw[<-z];exact r f);exact⟨u,ru,by rw[hl,hu]⟩
def tXf(K:Frag)(ta:TE)(f:Str):TE:=λσ H Q=>ta σ H λx H1=>∃a C dx fs v,x=.ref a/\C4 H1 a C (some dx)/\H1 dx=some (.xd fs)/\fc K C/\findIn K (.ref C) f=some none/\fs.lookup f=some v/\Q v H1
theorem pe_xf(he:PE X e ta)(hb:attributeBase e f X.env (eval e X.env)=eval e X.env):PE X (.Attribute e f pos) (tXf X.K ta f):=by
 intro pins s σ H Q I h;refine attr_of hb (cy (he pins s σ H _ I h) λu s1 aN=>?_);obtain⟨x,H1,I1,rx,a,C,dx,fs,v,ex,ea,ed,G,n,l,q⟩:=aN;subst ex;obtain rfl:u=Value.ref a:=rx;obtain⟨ox,od,J,hv⟩:=zw I1 ea ed;obtain⟨u',ru,hl⟩:=hv f v l;exact Uh I1.iM J G n hl (AJ ru) ⟨v,H1,I1.tok _,ru,q⟩
theorem vU:∀{cs:List Addr} {its:List Value},Vals (cs.map V.ref) its->its=cs.map Value.ref
 |[],_,.nil=>rfl
 |_::_,_,.cons a b=>by rw[vU b];cases (show _=Value.ref _ from a);rfl
def Sl(H:Hp):Option Addr->Prop
 |none=>True
 |some d=>∃fs,H d=some (.xd fs)
theorem zx(I:Inv X pins σ H s)(ha:C4 H a C dx)(hd:Sl H dx):∃ox od,PySem.W.InstAt s.heap a ox C od:=by
 cases dx with
 |some d=>obtain⟨fs,hd⟩:=hd;obtain⟨ox,od,J,_⟩:=zw I ha hd;exact⟨ox,_,J⟩
 |none=>obtain⟨φ,ha,hx⟩:=ha;obtain⟨oe,vs,e1,e2,e3,e4⟩:=hx _ (I.hok a _ ha).1;exact⟨oe,none,⟨e1,e2,by unfold notCls;rw[e4],by rw[e3];trivial⟩⟩
def GB(K:Frag)(H:Hp)(x:V)(C:Addr):Prop:=∃a dx,x=.ref a/\C4 H a C dx/\Sl H dx/\fc K C
theorem lG:bR X (.builtin "isinstance") (λxs H Q=>∃(x c:V) (cv:Value) (C:Addr) (b:Bool),xs=[x,c]/\(∀u,RelV c u->u=cv)/\GB X.K H x C/\kitOne X.K (.ref C) cv=some b/\Q (.bl b) H):=by
 intro pins s σ H xs us Q I r h;obtain⟨x,c,cv,C,b,rfl,hc,⟨a,dx,rfl,ea,ed,G⟩,e,q⟩:=h;obtain⟨u,w',rfl,r1,r2⟩:=vals2 r;obtain rfl:u=Value.ref a:=r1;obtain rfl:=hc _ r2;obtain⟨ox,od,J⟩:=zx I ea ed;exact aa1 (vS G) I.iM ⟨ox,od,J⟩ e (λz=>nomatch z) λtk=>⟨.bl b,H,I.tok _,rfl,q⟩
theorem C5:bR X (.builtin "isinstance") (λxs H Q=>∃(x:V) (tp:Addr) (cs:List Addr) (C:Addr) (b:Bool),xs=[x,.ref tp]/\H tp=some (.tup (cs.map V.ref))/\GB X.K H x C/\kitAny X.K (.ref C) (cs.map Value.ref)=some b/\Q (.bl b) H):=by
 intro pins s σ H xs us Q I r h;obtain⟨x,tp,cs,C,b,rfl,et,⟨a,dx,rfl,ea,ed,G⟩,e,q⟩:=h;obtain⟨u,w',rfl,r1,r2⟩:=vals2 r;obtain rfl:u=Value.ref a:=r1;obtain rfl:w'=Value.ref tp:=r2;obtain⟨ox,od,J⟩:=zx I ea ed;obtain⟨_,its,hi,o,h1,h2,n,h3⟩:=(show bF X.prog X.w H s.heap tp (.tup (cs.map V.ref)) from I.hok tp _ et);have ei:=vU hi;subst ei;obtain⟨oc,odd,Si,osl⟩:=o;obtain rfl:oc=_:=h2;obtain rfl:Si=_:=h3;exact PySem.W.kia_tup (vS G) I.iM ⟨ox,od,J⟩ h1 e (λz=>nomatch z) λtk=>⟨.bl b,H,I.tok _,rfl,q⟩
end
section
variable {K:Frag} {C D:Addr} {o:Obj} {nm q:Str} {N:Addr} {bs bm:List Value} {hdct:Bool} {sn:List Str} {sub:List Value} {ab:Bool} {col:Option Bool} {dd:Option Addr} {k0 k1 k2 k3 k5:Option Value} {newId:String}
theorem excOb(h:K.lookup C=some o)(e:o=excClassObj nm q C N bs (.ref D::VB) hdct sn sub ab col dd k0 k1 k2 k3 k5 "ValueError.__new__"):∃nm q N bs hdct sn sub ab col dd k0 k1 k2 k3 k5,K.lookup C=some (excClassObj nm q C N bs (.ref D::VB) hdct sn sub ab col dd k0 k1 k2 k3 k5 "ValueError.__new__") :=
 ⟨nm,q,N,bs,hdct,sn,sub,ab,col,dd,k0,k1,k2,k3,k5,by rw[h,e]⟩
def C6(es:Array DictEntry):Bool:=es.toList.all λe=>match e.key with|.str _ _=>true|_=>false
theorem excUp{c0 c1:Value}{d0 d1:Option Addr}{sl rA:Array (Option Value)}{ep:Nat}{o1 o2:Obj}(h1:K.lookup D=some o1)(e1:o1=⟨c0,d0,.cls cdD,sl⟩)(h2:K.lookup cdD.ns=some o2)(e2:o2=⟨c1,d1,.dict es ep,rA⟩)(h3:C6 es=true)(h4:nsFind es "__init__" = none) :
  ∃c0 dd cdD sl c1 d1 es ep rA,K.lookup D=some ⟨c0,dd,.cls cdD,sl⟩/\K.lookup cdD.ns=some ⟨c1,d1,.dict es ep,rA⟩/\StrKeys es/\nsFind es "__init__" = none:=by
 refine⟨c0,d0,cdD,sl,c1,d1,es,ep,rA,by rw[h1,e1],by rw[h2,e2],λe he=>?_,h4⟩;unfold C6 at h3;rw[abH]at h3;have:=h3 e (by simpa using he);split at this
 ·rename_i x t hk;first|exact⟨x,t,hk⟩|exact⟨x,hk⟩|(rw[hk];rfl)|simp[hk]
 ·cases this
theorem excS{sJ:Bool}{NZ:Bool}{j0 j1 j2 j3 j5:Option Value}{newId':String}{b:Bool}(h:K.lookup C=some o)(e:o=excClassObj nm q C N bs bm hdct sn sub ab col dd k0 k1 k2 k3 k5 newId)(hb:(Value.ref C::bm).contains (.ref C')=b)
  (h':K.lookup C'=some o') (e':o'=excClassObj O9 q' C' N' bs' bm' sJ sn' sub' NZ col' AO j0 j1 j2 j3 j5 newId') (b':bm'.contains (.type "BaseException")=true):kE K C C' b :=
 ⟨⟨nm,q,N,bs,bm,hdct,sn,sub,ab,col,dd,k0,k1,k2,k3,k5,newId,by rw[h,e],hb⟩,O9,q',N',bs',bm',sJ,sn',sub',NZ,col',AO,j0,j1,j2,j3,j5,newId',by rw[h',e'],b'⟩
theorem Bp(h3:C6 es=true):StrKeys es:=λe he=>by
 unfold C6 at h3;rw[abH]at h3;have:=h3 e (by simpa using he);split at this
 ·rename_i x t hk;first|exact⟨x,t,hk⟩|exact⟨x,hk⟩|(rw[hk];rfl)|simp[hk]
 ·cases this
theorem excOb0{c1:Value}{d1:Option Addr}{ep:Nat}{rA:Array (Option Value)}{o2:Obj}(h:K.lookup C=some o)(e:o=excClassObj nm q C N bs (.ref D::VB) hdct sn sub ab col dd k0 k1 k2 k3 k5 "ValueError.__new__")(h2:K.lookup N=some o2)(e2:o2=⟨c1,d1,.dict es ep,rA⟩)(h3:C6 es=true)(h4:nsFind es "__init__" = none) :
  ∃nm q N bs hdct sn sub ab col dd k0 k1 k2 k3 k5 c1 d1 es ep rA,K.lookup C=some (excClassObj nm q C N bs (.ref D::VB) hdct sn sub ab col dd k0 k1 k2 k3 k5 "ValueError.__new__")/\K.lookup N=some ⟨c1,d1,.dict es ep,rA⟩/\StrKeys es/\nsFind es "__init__" = none :=
 ⟨nm,q,N,bs,hdct,sn,sub,ab,col,dd,k0,k1,k2,k3,k5,c1,d1,es,ep,rA,by rw[h,e],by rw[h2,e2],Bp h3,h4⟩
end
def Jp(H:Hp)(C:Addr)(g:Str)(y:V)(e t dx:Addr):Hp:=upd (upd H dx (.xd [(g,y)])) e (.ext (ExcAt e C t (some dx)))
def K1(C:Addr)(g:Str)(t:TA):TE:=λσ H Q=>t σ H λvs H1=>∃y,vs=[y]/\∀e t dx,H1 e=none->H1 dx=none->dx≠e->Q (.ref e) (Jp H1 C g y e t dx)
def Jq(C:Addr):TE:=λ_ H Q=>∀e t,H e=none->Q (.ref e) (upd H e (.ext (ExcAt e C t none)))
section
variable {X:Cx} {k:Nat} {fI C D:Addr} {fd:FuncData} {ps:List Str} {cd:ClassData} {x g:Str} {arg:Expr} {p pos:Pos} {t:TA}
theorem C7(M:oG X.K C D fI cd)(F:dH X.prog X.w X.K X.mg X.base zg k fI fd ps (vQ X.K g))(hr:dj (k+1) X.A)(hb:Binds X.K fd ps [])(hl:ps.length=2)(hn:findIn X.K (.ref C) g=some none)(hg:Gl X x)(hm:X.mg x=some (.ref C))(ha:PA X [arg] t)(hdb:(x==("__debug__":Str))=false)
  (he:starEach [arg] X.env=(false,eval arg X.env)::starEach [] X.env):PE X (.Call (.Name x p) [arg] [] pos) (K1 C g t):=by
 intro pins s σ H Q I h;refine aaI (eX I hg hm ?_ hdb);refine abS (h₀:=X.base) I.ok.mod.NQ M.kp (cy (ha pos pins s σ H _ I h) λus s2 ⟨vs,H2,I2,r,y,ev,qq⟩=>⟨I2.iM,?_⟩) he rfl;subst ev;obtain⟨u,rfl,ru⟩:=vals1 r;refine zo M F hr hb hl zh hn I2 ru λe t dx s3 ne nd nx O6 I3=>?_;have eH:upd (upd (upd H2 e (.ext (ExcAt e C t none))) dx (.xd [(g,y)])) e (.ext (ExcAt e C t (some dx)))=Jp H2 C g y e t dx:=by
  unfold Jp;funext b
  by_cases c:b=e
  ·subst c;rw[au,au]
  ·rw[ao c,ao c]
   by_cases c2:b=dx
   ·subst c2;rw[au,au]
   ·rw[ao c2,ao c,ao c2]
 rw[eH] at I3;exact⟨.ref e,_,I3,rfl,qq e t dx ne nd nx⟩
theorem GC(M:iY X.K C D)(hg:Gl X x)(hm:X.mg x=some (.ref C))(hdb:(x==("__debug__":Str))=false):PE X (.Call (.Name x p) [] [] pos) (Jq C):=by
 intro pins s σ H Q I h;refine aaI (eX I hg hm ?_ hdb);refine acg I.iM M.kp ?_;exact vR M I λe t s3 ne O6 I3=>⟨.ref e,_,I3,rfl,h e t ne⟩
end
end L2
end
section
namespace Hv
open PySem L2 PyProof.Rows
inductive Val
 |non|bl (b:Bool)|int (i:Int)|str (x:Str)|tup (vs:List Val)|rl (vs:List Val)|dc (ks:List Key) (vs:List Val)|ob (c:Nat) (xs:List Str) (vs:List Val)|ref (i:Nat)
inductive Ob
 |lst (xs:List Val)|dct (kvs:List (Key×Val))|ins (c:Nat) (fs:List (Str×Val))
abbrev Hs:=List Ob
inductive Out (α:Type)
 |ok (a:α) (h:Hs)|exc (c:Nat) (vs:List Val) (h:Hs)|no
abbrev M(α:Type):=Hs->Out α
def ret{α:Type}(a:α):M α:=λh=>.ok a h
def bnd{α β:Type}(m:M α)(f:α -> M β):M β:=λh=>match m h with
 |.ok a h'=>f a h'
 |.exc c vs h'=>.exc c vs h'
 |.no=>.no
def aZ{α:Type}(o:Option α):M α:=λh=>match o with
 |some a=>.ok a h
 |none=>.no
def ask{α:Type}(f:Hs->Option α):M α:=λh=>aZ (f h) h
def new(o:Ob):M Val:=λh=>.ok (.ref h.length) (h++[o])
def put(i:Nat)(o:Ob):M Unit:=λh=>.ok () (h.set i o)
def cG{α β:Type}(f:α -> Option β):List α -> Option (List β)
 |[]=>some []
 |a::r=>(f a).bind λb=>(cG f r).bind λbs=>some (b::bs)
inductive Jr|add|sub|mul|fdiv|mod|pow
 deriving DecidableEq
inductive K7|eq|ne|lt|le|gt|ge|isn|ntn|xK|nin
 deriving DecidableEq
inductive Bl|len|min|max|sorted|list|tuple|str|int|all|any|isin (T:String)
 deriving DecidableEq
inductive Me|join|append|extend|remove
 deriving DecidableEq
inductive yu|one (i:Nat)|tup (is:List Nat)
 deriving DecidableEq
inductive Ik|seq|range|enum|zip
 deriving DecidableEq
mutual
inductive IE
 |var (i:Nat)|cst (d:Val)|con (x:Str) (d:Val)|no
 |bin (o:Jr) (a b:IE)|neg (a:IE)|cmp (o:K7) (a b:IE)|chn (o p:K7) (a b c:IE)
 |and (a b:IE)|or (a b:IE)|not (a:IE)|ite (c a b:IE)
 |tup (es:kQ)|lst (es:kQ)|idx (a b:IE)|slc (a lo hi:IE)
 |call (j:Nat) (es:kQ)|blt (b:Bl) (es:kQ)|met (m:Me) (a:IE) (es:kQ)
 |comp (N:List Str) (js:List (Option Nat)) (pat:yu) (k:Ik) (it:kQ) (c elt:IE)
 |dct0
 |sset (a:IE)
 |dget (d k x:IE)
 |dct1 (k v:IE)
 |lkeys (d:IE)
 |sdef (d k x:IE)
 |svals (d:IE)
 |skeys (d:IE)
 |fld (n:Nat) (a:IE) (x:Str)
 |mth (a:IE) (m:Str) (js:List (Nat×Nat)) (es:kQ)
 |rev (a s:IE)
 |dflt (N:List Str) (js:List (Option Nat)) (p q:Nat) (d w:IE)
 |isc (a:IE) (x:Str) (bs:List Bool)
inductive kQ|nil|cons (e:IE) (es:kQ)
end
abbrev Env:=List (Option Val)
mutual
inductive IS
 |expr (e:IE)|asg (p:yu) (e:IE)|aug (i:Nat) (o:Jr) (e:IE)|fX (o i v:IE)
 |iff (c:IE) (a b:eZ)|for (p:yu) (k:Ik) (it:kQ) (body:eZ)|whl (n:Nat) (c:IE) (body:eZ)
 |ret (e:IE)|GD|brk|cnt|pass|never|setF (n:Nat) (a:IE) (x:Str) (v:IE)
inductive eZ|nil|cons (s:IS) (r:eZ)
end
def aF(h:Hs):Val->Option (List Val)
 |.rl vs=>some vs
 | .ref i=>match h[i]? with
  |some (.lst xs)=>some xs
  |_=>none
 |_=>none
def cI(h:Hs):Val->Option (List Val)
 |.tup vs=>some vs
 |v=>aF h v
def vV(h:Hs):Val->Option (List Val)
 |.tup vs=>some vs
 |.ref i=>aF h (.ref i)
 |_=>none
def aW:List Val->Option (List Int):=cG λv=>match v with
 |.int i=>some i
 |_=>none
def cH:List Val->Option (List Bool):=cG λv=>match v with
 |.bl i=>some i
 |_=>none
def ki:List Val->Option (List (List Int)):=cG λv=>match v with
 |.tup vs=>if vs.isEmpty then none else aW vs
 |_=>none
def toD:Nat->Hs->Val->Option PyData
 |0,_,_=>none
 |_+1,_,.non=>some .none
 |_+1,_,.bl b=>some (.bool b)
 |_+1,_,.int i=>some (.int i)
 |_+1,_,.str x=>if PyData.strOk x=true then some (.str x) else none
 |n+1,h,.tup vs=>(cG (toD n h) vs).bind λds=>some (.tuple ds)
 |n+1,h,.rl vs=>(cG (toD n h) vs).bind λds=>some (.list ds)
 |_+1,_,.dc _ _=>none
 |_+1,_,.ob _ _ _=>none
 |n+1,h,.ref i=>(aF h (.ref i)).bind λxs=>(cG (toD n h) xs).bind λds=>some (.list ds)
def zy(h:Hs)(v w:Val):Option Bool:=(toD 16 h v).bind λd=>(toD 16 h w).bind λe=>some (PyData.eqv d e)
def uy(x:List Int):List (List Int)->List (List Int)
 |[]=>[x]
 |y::r=>if HT.lexLt y x=true then y::uy x r else x::y::r
def lI:List (List Int)->List (List Int)
 |[]=>[]
 |x::r=>uy x (lI r)
def kF(ks:List Int):Val:=.tup (ks.map .int)
def fY(xs:List Val):Option (List Val) :=
 if xs.length<64 then
  match aW xs with
  |some ns=>some ((sortI ns).map .int)
  |none=>(ki xs).bind λoY=>some ((lI oY).map kF)
 else none
def uz:List Int->Option Val
 |[]=>none
 |a::r=>some (.int (r.foldl min a))
def uC:List Int->Option Val
 |[]=>none
 |a::r=>some (.int (r.foldl max a))
def dD(i j:Int):Bool:=(decide (-(2 ^ 64)<i)&&decide (i<2 ^ 64))||(decide (-(2 ^ 64)<j)&&decide (j<2 ^ 64))
def aI{α:Type}(c:Bool)(m:M α):M α:=λh=>if c=true then m h else .no
def iZ(b:Int):Bool:=decide (0<b/\b<1606938044258990275541962092341162602522202993782792835301376)
def N1:Jr->Val->Val->M Val
 |.add,.int a,.int b=>ret (.int (a+b))
 |.add,.str a,.str b=>aI (decide (a.length+b.length<=sizeLine)) (ret (.str (a++b)))
 |.add,.tup a,.tup b=>aI (!a.isEmpty&&decide (a.length+b.length<=sizeLine)) (ret (.tup (a++b)))
 |.add,v,w=>bnd (ask λh=>aF h v) λa=>bnd (ask λh=>aF h w) λb=>aI (decide (a.length+b.length<=sizeLine)) (new (.lst (a++b)))
 |.sub,.int a,.int b=>ret (.int (a-b))
 |.mul,.int a,.int b=>aI (dD a b) (ret (.int (a*b)))
 |.fdiv,.int a,.int b=>aI (iZ b) (ret (.int (a/b)))
 |.mod,.int a,.int b=>aI (decide (0<b)) (ret (.int (a%b)))
 |.pow,.int a,.int b=>aI (decide (0<=b/\b<=1000000/\a.natAbs<2 ^ 64)) (ret (.int (a ^ b.toNat)))
 |_,_,_=>aZ none
def pY:Val->Bool
 |.non=>true
 |_=>false
def dR(kvs:List (Key×Val))(k:Key):Option Val:=(kvs.find? λkv=>decide (kv.1=k)).map (·.2)
def eF(kvs:List (Key×Val))(k:Key)(v:Val):List (Key×Val) :=
 if (kvs.any λkv=>decide (kv.1=k))=true then kvs.map (λkv=>if kv.1=k then (kv.1,v) else kv) else kvs++[(k,v)]
def keyOf:Val->Option Key
 |.int i=>some (.inl i)
 |.str x=>some (.inr x)
 |_=>none
def K8(f d:PyData):Option Bool:=match f with
 |.list ds=>some (ds.any λy=>PyData.eqv y d)
 |.tuple ds=>some (ds.any λy=>PyData.eqv y d)
 |_=>none
def memD(h:Hs)(v w:Val):Option Bool:=(toD 16 h w).bind λf=>(toD 16 h v).bind λd=>K8 f d
def GF(h:Hs)(v:Val)(i:Nat):Ob->Option Bool
 |.dct kvs=>(keyOf v).bind λk=>some (dR kvs k).isSome
 |_=>memD h v (.ref i)
def uD(h:Hs):Val->Val->Option Bool
 |.str a,.str b=>some (!(Builtin.Str.occurrences b a 0 b.length 1).isEmpty)
 |v,.ref i=>(h[i]?).bind (GF h v i)
 |v,.dc ks _=>(keyOf v).bind λk=>some (ks.any λj=>decide (j=k))
 |v,w=>memD h v w
def Js(v w:Val):Option Bool:=match w with
 |.non=>some (pY v)
 | .bl b=>(match v with
  |.bl a=>some (a==b)
  |_=>none)
 |_=>none
def cop(h:Hs):K7->Val->Val->Option Bool
 |.eq,v,w=>zy h v w
 |.ne,v,w=>(zy h v w).map (!·)
 |.lt,.int a,.int b=>some (decide (a<b))
 |.le,.int a,.int b=>some (decide (a<=b))
 |.gt,.int a,.int b=>some (decide (b<a))
 |.ge,.int a,.int b=>some (decide (b<=a))
 |.isn,v,w=>Js v w
 |.ntn,v,w=>(Js v w).map (!·)
 |.xK,v,w=>uD h v w
 |.nin,v,w=>(uD h v w).map (!·)
 |_,_,_=>none
def c8(h:Hs):Val->Option Bool
 |.non=>some false
 |.bl b=>some b
 |.int i=>some (i != 0)
 |.str x=>if x.length<=sizeLine then some ((x.length:Int) != 0) else none
 |.tup vs=>some (!vs.isEmpty)
 |.rl vs=>some (!vs.isEmpty)
 |.dc ks _=>some (!ks.isEmpty)
 |.ob _ _ _=>none
 | .ref i=>match h[i]? with
  |some (.lst xs)=>some (!xs.isEmpty)
  |some (.dct xs)=>some (!xs.isEmpty)
  |_=>none
def gC(h:Hs):Val->Val->Option Val
 |.str x,.int i=>if x.length<=sizeLine then (jU x.cps.toList i).map λc=>.str ⟨[c].toArray⟩ else none
 |.tup vs,.int i=>jU vs i
 |.rl vs,.int i=>jU vs i
 | .ref j,.int i=>match h[j]? with
  |some (.dct kvs)=>dR kvs (.inl i)
  |_=>(aF h (.ref j)).bind λxs=>jU xs i
 | .ref j,.str x=>match h[j]? with
  |some (.dct kvs)=>dR kvs (.inr x)
  |_=>none
 |.dc ks vs,.int i=>dR (ks.zip vs) (.inl i)
 |.dc ks vs,.str x=>dR (ks.zip vs) (.inr x)
 |_,_=>none
def dM{α:Type}(ds:List α)(lo hi:Option Int):List α:=(ds.drop (HT.dI ds.length 0 lo)).take (HT.dI ds.length ds.length hi-HT.dI ds.length 0 lo)
def rD(v:Val)(lo hi:Option Int):M Val:=match v with
 |.tup vs=>aI (!(decide (HT.dI vs.length 0 lo=0)&&decide (HT.dI vs.length vs.length hi=vs.length))) (ret (.tup (dM vs lo hi)))
 |v=>bnd (ask λh=>aF h v) λxs=>new (.lst (dM xs lo hi))
def vW(h:Hs):Val->Option String
 |.non=>some "NoneType" | .bl _=>some "bool" | .int _=>some "int" | .str _=>some "str" | .tup _=>some "tuple" | .rl _=>some "list" | .dc _ _=>some "dict" | .ob _ _ _=>none
 | .ref i=>match h[i]? with
  |some (.lst _)=>some "list"
  |some (.dct _)=>some "dict"
  |_=>none
def vX(T:String)(t:String):Option Bool :=
 if ["list","tuple","str","bool","int","dict"].contains T=true then some (decide (T=t\/(T = "int" /\ t = "bool"))) else none
def lJ(h:Hs):Val->Option Nat
 |.str x=>if x.length<=sizeLine then some x.length else none
 |.tup vs=>some vs.length
 |.rl vs=>some vs.length
 |.dc ks _=>some ks.length
 | .ref i=>match h[i]? with
  |some (.lst xs)=>some xs.length
  |some (.dct xs)=>some xs.length
  |_=>none
 |_=>none
def blt:Bl->List Val->M Val
 |.len,[v]=>bnd (ask λh=>lJ h v) λn=>ret (.int n)
 |.min,[.int a,.int b]=>ret (.int (if b<a then b else a))
 |.max,[.int a,.int b]=>ret (.int (if b>a then b else a))
 |.min,[v]=>bnd (ask λh=>cI h v) λxs=>aZ ((aW xs).bind uz)
 |.max,[v]=>bnd (ask λh=>cI h v) λxs=>aZ ((aW xs).bind uC)
 |.sorted,[v]=>bnd (ask λh=>aF h v) λxs=>bnd (aZ (fY xs)) λys=>new (.lst ys)
 |.list,[v]=>bnd (ask λh=>cI h v) λxs=>new (.lst xs)
 |.tuple,[v]=>bnd (ask λh=>cI h v) λxs=>ret (.tup xs)
 |.str,[.int i]=>aI (decide (i.natAbs.log2<1920)) (ret (.str (toString i)))
 |.int,[.bl b]=>ret (.int (if b=true then 1 else 0))
 |.int,[.int i]=>ret (.int i)
 |.all,[v]=>bnd (ask λh=>aF h v) λxs=>bnd (aZ (cH xs)) λbs=>ret (.bl (bs.all id))
 |.any,[v]=>bnd (ask λh=>aF h v) λxs=>bnd (aZ (cH xs)) λbs=>ret (.bl (bs.any id))
 |.isin T,[v]=>bnd (ask λh=>vW h v) λt=>bnd (aZ (vX T t)) λb=>ret (.bl b)
 |_,_=>aZ none
def met:Me->Val->List Val->M Val
 |.append,.ref i,[v]=>bnd (ask λh=>match h[i]? with|some (.lst xs)=>some xs|_=>none) λxs=>aI (decide (xs.length<sizeLine)) (bnd (put i (.lst (xs++[v]))) λ_=>ret .non)
 |.extend,.ref i,[v]=>bnd (ask λh=>match h[i]? with|some (.lst xs)=>some xs|_=>none) λxs=>bnd (ask λh=>vV h v) λys=>aI (decide (xs.length+ys.length<=sizeLine)) (bnd (put i (.lst (xs++ys))) λ_=>ret .non)
 |.remove,.ref i,[.int k]=>bnd (ask λh=>match h[i]? with|some (.lst xs)=>some xs|_=>none) λxs=>bnd (aZ (aW xs)) λks=>aI (decide (k∈ks)) (bnd (put i (.lst (xs.eraseIdx (ks.idxOf k)))) λ_=>ret .non)
 |_,_,_=>aZ none
def recv(h:Hs):Me->Val->Option Unit
 |.join,.str _=>some ()
 |.append,.ref i=>match h[i]? with|some (.lst _)=>some ()|_=>none
 |.extend,.ref i=>match h[i]? with|some (.lst _)=>some ()|_=>none
 |.remove,.ref i=>match h[i]? with|some (.lst _)=>some ()|_=>none
 |_,_=>none
inductive Src
 |fix (xs:List Val)|live (i:Nat)|enum (i:Nat)|zip (v w:Val)
def bW:Nat->List Val->List Val
 |_,[]=>[]
 |i,d::r=>.tup [.int i,d]::bW (i+1) r
def Pb:List Val->List Val->List Val
 |a::r,b::t=>.tup [a,b]::Pb r t
 |_,_=>[]
def ck(lo:Int)(n:Nat):List Val:=(List.range n).map λ(i:Nat)=>Val.int (lo+(i:Int))
def inR(i:Int):Bool:=decide (-(2 ^ 62)<=i)&&decide (i<2 ^ 62)
def srcOf:Ik->List Val->Option Src
 |.seq,[.tup vs]=>some (.fix vs)
 |.seq,[.rl vs]=>some (.fix vs)
 |.seq,[.ref i]=>some (.live i)
 |.range,[.int n]=>if inR n then some (.fix (ck 0 n.toNat)) else none
 |.range,[.int a,.int b]=>if inR a&&inR b then some (.fix (ck a (b-a).toNat)) else none
 |.enum,[.rl vs]=>some (.fix (bW 0 vs))
 |.enum,[.ref i]=>some (.enum i)
 |.zip,[v,w]=>some (.zip v w)
 |_,_=>none
def Src.items(h:Hs):Src->Option (List Val)
 |.fix xs=>some xs
 |.live i=>aF h (.ref i)
 |.enum i=>(aF h (.ref i)).map (bW 0)
 |.zip v w=>(aF h v).bind λxs=>(aF h w).map λys=>Pb xs ys
def bindAll:List Nat->List Val->Env->Option Env
 |[],[],env=>some env
 |i::is,d::ds,env=>bindAll is ds (env.set i (some d))
 |_,_,_=>none
def gq:yu->Val->Env->Option Env
 |.one i,d,env=>some (env.set i (some d))
 |.tup is,.tup ds,env=>bindAll is ds env
 |_,_,_=>none
def ja(js:List (Option Nat))(env:Env):Env:=js.map λo=>match o with
 |none=>none
 | some j=>match env[j]? with
  |some (some d)=>some d
  |_=>none
def fj(src:Src)(f:Val->M (Option Val)):Nat->Nat->List Val->M (List Val)
 |0,i,acc=>bnd (ask λh=>src.items h) λxs=>aI (decide (xs.length<=i)) (ret acc)
 | n+1,i,acc=>bnd (ask λh=>src.items h) λxs=>match xs[i]? with
  |none=>ret acc
  |some x=>bnd (f x) λo=>fj src f n (i+1) (match o with|some e=>acc++[e]|none=>acc)
def c9:IE->Bool
 |.no=>true
 |_=>false
def kj:Val->Option Int
 |.int i=>some i
 |_=>none
def nU:Val->M Bool
 |.bl b=>ret b
 |_=>aZ none
def calm{α:Type}(m:M α):M α:=λh=>match m h with
 |.ok a h'=>.ok a h'
 |.exc _ _ _=>.no
 |.no=>.no
def jb(c:Nat)(g:Str)(vs:List Val):M Val:=λh=>match vs with
 |[.int i]=>.exc c [.str g,.int i] h
 |[.str s]=>.exc c [.str g,.str s] h
 |_=>.no
def K9(x:Str)(m:M Val):M Val:=λh=>match m h with
 |.exc _ [.str g,w] h'=>if g=x then .ok w h' else .no
 |_=>.no
def La(φ:List Val->M Val)(m:M Val):M Val:=λh=>match m h with
 |.exc c _ h'=>calm (φ [.int (c:Int)]) h'
 |_=>.no
def lK(c:Nat)(vs:List Val):M Val:=λh=>match vs with
 |[]=>.exc c [] h
 |_=>.no
mutual
noncomputable def aK(Φ:Nat->List Val->M Val):IE->Env->M Val
 | .var i,env=>aZ (match env[i]? with
  |some (some d)=>some d
  |_=>none)
 |.cst d,_=>ret d
 |.con _ d,_=>ret d
 |.no,_=>aZ none
 |.bin o a b,env=>bnd (aK Φ a env) λx=>bnd (aK Φ b env) λy=>N1 o x y
 | .neg a,env=>bnd (aK Φ a env) λx=>match x with
  |.int i=>ret (.int (-i))
  |_=>aZ none
 |.cmp o a b,env=>bnd (aK Φ a env) λx=>bnd (aK Φ b env) λy=>bnd (ask λh=>cop h o x y) λt=>ret (.bl t)
 |.chn o p a b c,env=>bnd (aK Φ a env) λx=>bnd (aK Φ b env) λy=>bnd (ask λh=>cop h o x y) λt=>
  if t=true then bnd (aK Φ c env) λz=>bnd (ask λh=>cop h p y z) λt=>ret (.bl t) else ret (.bl false)
 |.and a b,env=>bnd (aK Φ a env) λx=>bnd (nU x) λt=>if t=true then bnd (aK Φ b env) λy=>bnd (nU y) λu=>ret (.bl u) else ret (.bl false)
 |.or a b,env=>bnd (aK Φ a env) λx=>bnd (nU x) λt=>if t=true then ret (.bl true) else bnd (aK Φ b env) λy=>bnd (nU y) λu=>ret (.bl u)
 |.not a,env=>bnd (aK Φ a env) λx=>bnd (nU x) λt=>ret (.bl (!t))
 |.ite _ _ _,_=>aZ none
 |.tup es,env=>bnd (bB Φ es env) λds=>aI (decide (ds.length<=sizeLine)) (ret (.tup ds))
 |.lst es,env=>bnd (bB Φ es env) λds=>aI (decide (ds.length<=sizeLine)) (new (.lst ds))
 |.idx a b,env=>bnd (aK Φ a env) λx=>bnd (aK Φ b env) λy=>ask λh=>gC h x y
 |.slc a lo hi,env=>bnd (aK Φ a env) λx=>bnd (if c9 lo=true then ret none else bnd (aK Φ lo env) λv=>bnd (aZ (kj v)) λi=>ret (some i)) λl=>
   bnd (if c9 hi=true then ret none else bnd (aK Φ hi env) λv=>bnd (aZ (kj v)) λi=>ret (some i)) λu=>rD x l u
 |.call j es,env=>bnd (bB Φ es env) λds=>Φ j ds
 |.blt b es,env=>bnd (bB Φ es env) λds=>blt b ds
 |.met m a es,env=>bnd (aK Φ a env) λx=>bnd (ask λh=>recv h m x) λ_=>bnd (bB Φ es env) λds=>met m x ds
 | .comp _ js pat k it c elt,env=>calm (bnd (bB Φ it env) λits=>bnd (aZ (srcOf k its)) λsrc=>bnd (ask λh=>src.items h) λxs=>aI (decide (xs.length<=100000))
   (bnd (fj src (λd=>bnd (aZ (gq pat d (ja js env))) λenv'=>bnd (if c9 c=true then ret true else bnd (aK Φ c env') λv=>ask λh=>c8 h v) λt=>
    if t=true then bnd (aK Φ elt env') λe=>ret (some e) else ret none) xs.length 0 []) λys=>new (.lst ys)))
 |.dct0,_=>new (.dct [])
 |.sset a,env=>bnd (aK Φ a env) λv=>bnd (ask λh=>aF h v) λxs=>bnd (aZ (aW xs)) λns=>aI (decide (ns.length<64)) (new (.lst ((sortI (L2.aV [] ns)).map .int)))
 |.dget _ _ _,_=>aZ none
 |.dct1 k v,env=>bnd (aK Φ k env) λx=>bnd (aZ (keyOf x)) λkk=>bnd (aK Φ v env) λy=>bnd (aZ (keyOf y)) λk2=>new (.dct (eF [(kk,.bl true)] k2 (.bl true)))
 |.lkeys _,_=>aZ none
 |.sdef _ _ _,_=>aZ none
 |.svals _,_=>aZ none
 |.skeys _,_=>aZ none
 |.fld n a x,env=>bnd (aK Φ a env) λv=>K9 x (Φ n [v])
 |.mth _ _ js es,env=>bnd (bB Φ es env) λvs=>(match js with|[]=>aZ none|p::_=>La (Φ p.1) (Φ p.2 vs))
 |.rev _ _,_=>aZ none
 |.dflt _ _ _ _ _ _,_=>aZ none
 |.isc _ _ _,_=>aZ none
noncomputable def bB(Φ:Nat->List Val->M Val):kQ->Env->M (List Val)
 |.nil,_=>ret []
 |.cons e es,env=>bnd (aK Φ e env) λd=>bnd (bB Φ es env) λds=>ret (d::ds)
end
inductive Fl
 |nx (env:Env)|rt (v:Val)|bk (env:Env)|ct (env:Env)
def forM(src:Src)(body:Val->Env->M Fl):Nat->Nat->Env->M Fl
 |0,i,env=>bnd (ask λh=>src.items h) λxs=>aI (decide (xs.length<=i)) (ret (.nx env))
 | n+1,i,env=>bnd (ask λh=>src.items h) λxs=>match xs[i]? with
  |none=>ret (.nx env)
  | some x=>bnd (body x env) λf=>match f with
   |.nx env'=>forM src body n (i+1) env'
   |.ct env'=>forM src body n (i+1) env'
   |.bk env'=>ret (.nx env')
   |.rt v=>ret (.rt v)
def vY(o i v:Val):M Unit:=match o with
 | .ref j=>bnd (ask λh=>h[j]?) λob=>match ob,i with
  |.lst xs,.int k=>bnd (aZ (xJ xs.length k)) λn=>put j (.lst (xs.set n v))
  |.dct kvs,i=>bnd (aZ (keyOf i)) λk=>aI (decide (kvs.length<sizeLine)) (put j (.dct (eF kvs k v)))
  |_,_=>aZ none
 |_=>aZ none
mutual
noncomputable def gO(Φ:Nat->List Val->M Val):IS->Env->M Fl
 |.expr e,env=>bnd (aK Φ e env) λ_=>ret (.nx env)
 |.asg p e,env=>bnd (aK Φ e env) λv=>bnd (aZ (gq p v env)) λenv'=>ret (.nx env')
 |.aug _ _ _,_=>aZ none
 |.fX o i v,env=>bnd (aK Φ v env) λx=>bnd (aK Φ o env) λy=>bnd (aK Φ i env) λz=>bnd (vY y z x) λ_=>ret (.nx env)
 |.iff c a b,env=>bnd (aK Φ c env) λx=>bnd (ask λh=>c8 h x) λt=>if t=true then gh Φ a env else gh Φ b env
 |.for p k it body,env=>bnd (bB Φ it env) λits=>bnd (aZ (srcOf k its)) λsrc=>bnd (ask λh=>src.items h) λxs=>
   forM src (λx env=>bnd (aZ (gq p x env)) λenv'=>gh Φ body env') xs.length 0 env
 |.whl _ _ _,_=>aZ none
 |.ret e,env=>bnd (aK Φ e env) λv=>ret (.rt v)
 |.GD,_=>ret (.rt .non)
 |.brk,env=>ret (.bk env)
 |.cnt,env=>ret (.ct env)
 |.pass,env=>ret (.nx env)
 |.never,_=>aZ none
 |.setF _ a _ _,env=>bnd (aK Φ a env) λ_=>aZ none
noncomputable def gh(Φ:Nat->List Val->M Val):eZ->Env->M Fl
 |.nil,env=>ret (.nx env)
 | .cons s r,env=>bnd (gO Φ s env) λf=>match f with
  |.nx env'=>gh Φ r env'
  |f=>ret f
end
def pZ(Φ:Nat->List Val->M Val)(n:Nat)(body:eZ)(vs:List Val):M Val :=
 bnd (gh Φ body (vs.map some++replicate (n-vs.length) none)) λf=>match f with
  |.nx _=>ret .non
  |.rt v=>ret v
  |_=>aZ none
theorem jc{b:Bool}(ho:o=.lt\/o=.le\/o=.gt\/o=.ge)(e:cop h o v w=some b):∃i j,v=.int i/\w=.int j:=by
 cases v with
 |int i=>
  cases w with
  |int j=>exact⟨i,j,rfl,rfl⟩
  |_=>rcases ho with rfl|rfl|rfl|rfl<;>cases e
 |_=>rcases ho with rfl|rfl|rfl|rfl<;>cases e
structure Bd where
 K:Frag
 cl:Nat->Addr
def Jt(K:Frag)(H:Hp)(a:Addr)(xs:List V):Prop :=
 (∃o,H a=some (.rL o (.lst xs)))\/fR K (λ_=>none) a xs
theorem Jt.sq{K:Frag}{H:Hp}{a:Addr}{xs:List V}(h:Jt K H a xs):fR K H a xs:=by
 rcases h with ⟨o,h⟩|(h|⟨o,h⟩)|h
 ·exact .inl (.inr ⟨o,h⟩)
 ·cases h
 ·cases h
 ·exact .inr h
mutual
noncomputable def VR(K:Frag)(ρ:List Addr)(H:Hp):Val->V->Prop
 |.non,x=>x=.non
 |.bl b,x=>x=.bl b
 |.int i,x=>x=.int i
 |.str s,x=>x=.str s
 |.tup vs,x=>∃a xs,x=.ref a/\iy K H a xs/\av K ρ H vs xs
 |.rl vs,x=>∃a xs,x=.ref a/\Jt K H a xs/\av K ρ H vs xs
 |.dc _ _,_=>False
 |.ob _ _ _,_=>False
 |.ref i,x=>∃a,x=.ref a /\ ρ[i]?=some a
noncomputable def av(K:Frag)(ρ:List Addr)(H:Hp):List Val->List V->Prop
 |[],xs=>xs=[]
 |v::vs,xs=>∃x r,xs=x::r/\VR K ρ H v x/\av K ρ H vs r
end
def gR(K:Frag)(ρ:List Addr)(H:Hp):List (Key×Val)->List (Key×V)->Prop
 |[],xs=>xs=[]
 |(k,v)::vs,xs=>∃x r,xs=(k,x)::r/\VR K ρ H v x/\gR K ρ H vs r
def Lb(K:Frag)(ρ:List Addr)(H:Hp):List (Str×Val)->List (Str×V)->Prop
 |[],xs=>xs=[]
 |(k,v)::vs,xs=>∃x r,xs=(k,x)::r/\VR K ρ H v x/\Lb K ρ H vs r
def OR(B:Bd)(ρ:List Addr)(H:Hp)(a:Addr):Ob->Prop
 |.lst xs=>∃ys,H a=some (.lst ys)/\av B.K ρ H xs ys
 |.dct kvs=>∃ks,H a=some (.dK ks)/\gR B.K ρ H kvs ks
 |.ins c fs=>∃dx gs,H a=some (.ins (B.cl c) dx gs)/\Lb B.K ρ H fs gs
structure HR (B:Bd) (ρ:List Addr) (h:Hs) (H:Hp):Prop where
 len:ρ.length=h.length
 nd:ρ.Nodup
 ob:∀(i:Nat) (o:Ob) (a:Addr),h[i]?=some o -> ρ[i]?=some a->OR B ρ H a o
def Mu:HO->Bool
 |.lst _=>true|.dK _=>true|.ins ..=>true
 |_=>false
structure Gw (ρ:List Addr) (H:Hp) (ρ':List Addr) (H':Hp):Prop where
 pre:ρ <+: ρ'
 firm:∀a o,H a=some o->Mu o=false->H' a=some o
structure Gr (ρ:List Addr) (H:Hp) (ρ':List Addr) (H':Hp):Prop where
 pre:ρ <+: ρ'
 keep:∀a o,H a=some o->a ∉ ρ -> H' a=some o
 firm:∀a o,H a=some o->Mu o=false->H' a=some o
 fresh:∀a,a ∈ ρ'->a ∉ ρ -> H a=none
section
variable {K:Frag} {B:Bd} {ρ ρ' ρ1 ρ2:List Addr} {H H' H1 H2:Hp} {h h':Hs}
theorem Gr.w(g:Gr ρ H ρ' H'):Gw ρ H ρ' H':=⟨g.pre,g.firm⟩
theorem Gr.refl:Gr ρ H ρ H:=⟨aar _,λ_ _ e _=>e,λ_ _ e _=>e,λ_ e n=>absurd e n⟩
theorem Gr.trans(g:Gr ρ H ρ1 H1)(k:Gr ρ1 H1 ρ2 H2):Gr ρ H ρ2 H2 where
 pre:=g.pre.trans k.pre
 keep a o e n:=k.keep a o (g.keep a o e n) λz=>by rw[g.fresh a z n]at e;cases e
 firm a o e n:=k.firm a o (g.firm a o e n) n
 fresh a z n:=by
  by_cases hb:a ∈ ρ1
  ·exact g.fresh a hb n
  ·cases e:H a with
   |none=>rfl
   |some o=>have e1:=g.keep a o e n;rw[k.fresh a z hb]at e1;cases e1
theorem zA{i:Nat}(p:ρ <+: ρ')(e:ρ[i]?=some a):ρ'[i]?=some a:=by
 obtain⟨t,rfl⟩:=p;have hi:i < ρ.length:=(Z9.mp e).1;rw[aan hi];exact e
theorem Gw.Sm(g:Gw ρ H ρ' H')(e:iy K H a xs):iy K H' a xs:=by
 rcases e with (e|⟨o,e⟩)|e
 ·exact .inl (.inl (g.firm _ _ e rfl))
 ·exact .inl (.inr ⟨o,g.firm _ _ e rfl⟩)
 ·exact .inr e
theorem Gw.Lc(g:Gw ρ H ρ' H')(e:Jt K H a xs):Jt K H' a xs:=by
 rcases e with ⟨o,e⟩|e
 ·exact .inl ⟨o,g.firm _ _ e rfl⟩
 ·exact .inr e
mutual
theorem VR.jV(g:Gw ρ H ρ' H'):∀(v:Val) (x:V),VR K ρ H v x->VR K ρ' H' v x
 |.non,x,e=>by rw[VR]at e |-;exact e
 |.bl b,x,e=>by rw[VR]at e |-;exact e
 |.int b,x,e=>by rw[VR]at e |-;exact e
 |.str b,x,e=>by rw[VR]at e |-;exact e
 | .tup vs,x,e=>by
  rw[VR]at e |-;obtain⟨a,xs,rfl,q1,q2⟩:=e;exact⟨a,xs,rfl,g.Sm q1,av.jV g vs xs q2⟩
 | .rl vs,x,e=>by
  rw[VR]at e |-;obtain⟨a,xs,rfl,q1,q2⟩:=e;exact⟨a,xs,rfl,g.Lc q1,av.jV g vs xs q2⟩
 |.dc _ _,x,e=>by rw[VR]at e;exact e.elim
 |.ob _ _ _,x,e=>by rw[VR]at e;exact e.elim
 | .ref i,x,e=>by
  rw[VR]at e |-;obtain⟨a,rfl,q⟩:=e;exact⟨a,rfl,zA g.pre q⟩
theorem av.jV(g:Gw ρ H ρ' H'):∀(vs:List Val) (xs:List V),av K ρ H vs xs->av K ρ' H' vs xs
 |[],xs,e=>by rw[av]at e |-;exact e
 | v::vs,xs,e=>by
  rw[av]at e |-;obtain⟨x,r,rfl,q1,q2⟩:=e;exact⟨x,r,rfl,VR.jV g v x q1,av.jV g vs r q2⟩
end
theorem gR.jV(g:Gw ρ H ρ' H'):∀(vs:List (Key×Val)) (xs:List (Key×V)),gR K ρ H vs xs->gR K ρ' H' vs xs
 |[],xs,e=>e
 |(k,v)::vs,xs,⟨x,r,e,q1,q2⟩=>⟨x,r,e,VR.jV g v x q1,gR.jV g vs r q2⟩
theorem Lb.jV(g:Gw ρ H ρ' H'):∀(vs:List (Str×Val)) (xs:List (Str×V)),Lb K ρ H vs xs->Lb K ρ' H' vs xs
 |[],xs,e=>e
 |(k,v)::vs,xs,⟨x,r,e,q1,q2⟩=>⟨x,r,e,VR.jV g v x q1,Lb.jV g vs r q2⟩
theorem VR.up(g:Gr ρ H ρ' H')(v:Val)(x:V)(e:VR K ρ H v x):VR K ρ' H' v x:=VR.jV g.w v x e
theorem av.up(g:Gr ρ H ρ' H')(v:List Val)(x:List V)(e:av K ρ H v x):av K ρ' H' v x:=av.jV g.w v x e
theorem gR.up(g:Gr ρ H ρ' H')(v:List (Key×Val))(x:List (Key×V))(e:gR K ρ H v x):gR K ρ' H' v x:=gR.jV g.w v x e
theorem av.nil:av K ρ H [] []:=by rw[av]
theorem av.cons{v:Val}{vs:List Val}{x:V}{xs:List V}(a:VR K ρ H v x)(b:av K ρ H vs xs):av K ρ H (v::vs) (x::xs):=by rw[av];exact⟨x,xs,rfl,a,b⟩
theorem av.length:∀{vs:List Val} {xs:List V},av K ρ H vs xs->vs.length=xs.length
 |[],xs,e=>by rw[av]at e;subst e;rfl
 |v::vs,xs,e=>by rw[av]at e;obtain⟨x,r,rfl,_,q⟩:=e;simp[av.length q]
theorem av.get:∀{vs:List Val} {xs:List V} {i:Nat} {v:Val},av K ρ H vs xs->vs[i]?=some v->∃x,xs[i]?=some x/\VR K ρ H v x
 |[],xs,i,v,e,q=>by simp at q
 | w::vs,xs,0,v,e,q=>by
  rw[av]at e;obtain⟨x,r,rfl,a,_⟩:=e;simp at q;subst q;exact⟨x,rfl,a⟩
 | w::vs,xs,i+1,v,e,q=>by
  rw[av]at e;obtain⟨x,r,rfl,_,b⟩:=e;simp at q;obtain⟨y,q1,q2⟩:=av.get b q;exact⟨y,by simpa using q1,q2⟩
theorem av.append:∀{vs ws:List Val} {xs ys:List V},av K ρ H vs xs->av K ρ H ws ys->av K ρ H (vs++ws) (xs++ys)
 |[],ws,xs,ys,e,q=>by rw[av]at e;subst e;exact q
 | w::vs,ws,xs,ys,e,q=>by
  rw[av]at e;obtain⟨x,r,rfl,a,b⟩:=e;exact av.cons a (av.append b q)
theorem av.take:∀{vs:List Val} {xs:List V} (n:Nat),av K ρ H vs xs->av K ρ H (vs.take n) (xs.take n)
 |_,_,0,_=>by simp;exact av.nil
 |[],xs,n+1,e=>by rw[av]at e;subst e;simp;exact av.nil
 | w::vs,xs,n+1,e=>by
  rw[av]at e;obtain⟨x,r,rfl,a,b⟩:=e;exact av.cons a (av.take n b)
theorem av.drop:∀{vs:List Val} {xs:List V} (n:Nat),av K ρ H vs xs->av K ρ H (vs.drop n) (xs.drop n)
 |_,_,0,e=>by simpa using e
 |[],xs,n+1,e=>by rw[av]at e;subst e;simp;exact av.nil
 | w::vs,xs,n+1,e=>by
  rw[av]at e;obtain⟨x,r,rfl,a,b⟩:=e;exact av.drop n b
theorem av.cut(lo hi:Option Int)(e:av K ρ H vs xs):av K ρ H (dM vs lo hi) (vq xs lo hi):=by
 unfold dM vq;rw[e.length];exact av.take _ (av.drop _ e)
theorem av.jU{i:Int}(e:av K ρ H vs xs)(q:L2.jU vs i=some v):∃x,L2.jU xs i=some x/\VR K ρ H v x:=by
 unfold L2.jU at q |-;rw[e.length]at q;cases hi:L2.xJ xs.length i with
 |none=>rw[hi]at q;cases q
 |some n=>rw[hi]at q;exact av.get e q
theorem av.set:∀{vs:List Val} {xs:List V} (n:Nat) {v:Val} {x:V},av K ρ H vs xs->VR K ρ H v x->av K ρ H (vs.set n v) (xs.set n x)
 |[],xs,n,v,x,e,q=>by rw[av]at e;subst e;simp;exact av.nil
 | w::vs,xs,0,v,x,e,q=>by
  rw[av]at e;obtain⟨y,r,rfl,a,b⟩:=e;exact av.cons q b
 | w::vs,xs,n+1,v,x,e,q=>by
  rw[av]at e;obtain⟨y,r,rfl,a,b⟩:=e;exact av.cons a (av.set n b q)
theorem av.one(e:av K ρ H [v] xs):∃x,xs=[x]/\VR K ρ H v x:=by
 rw[av]at e;obtain⟨x,r,rfl,a,b⟩:=e;rw[av]at b;subst b;exact⟨x,rfl,a⟩
theorem av.two(e:av K ρ H [v,w] xs):∃x y,xs=[x,y]/\VR K ρ H v x/\VR K ρ H w y:=by
 rw[av]at e;obtain⟨x,r,rfl,a,b⟩:=e;obtain⟨y,rfl,c⟩:=av.one b;exact⟨x,y,rfl,a,c⟩
theorem VR.int{i:Int}:VR K ρ H (.int i) (.int i):=by rw[VR]
theorem VR.str:VR K ρ H (.str i) (.str i):=by rw[VR]
theorem VR.bl{i:Bool}:VR K ρ H (.bl i) (.bl i):=by rw[VR]
theorem VR.non:VR K ρ H .non .non:=by rw[VR]
theorem VR.tup(q:iy K H a xs)(e:av K ρ H vs xs):VR K ρ H (.tup vs) (.ref a):=by rw[VR];exact⟨a,xs,rfl,q,e⟩
theorem VR.ref{i:Nat}(q:ρ[i]?=some a):VR K ρ H (.ref i) (.ref a):=by rw[VR];exact⟨a,rfl,q⟩
theorem av.ints:∀{ns:List Int} {xs:List V},av K ρ H (ns.map Val.int) xs↔xs=ns.map V.int
 |[],xs=>by simp[av]
 | n::ns,xs=>by
  simp only[map_cons];rw[av];constructor
  ·rintro⟨x,r,rfl,a,b⟩;rw[VR]at a;subst a;rw[(av.ints (ns:=ns)).mp b]
  ·rintro rfl;exact⟨_,_,rfl,VR.int,(av.ints (ns:=ns)).mpr rfl⟩
theorem av.strs:∀{ns:List Str} {xs:List V},av K ρ H (ns.map Val.str) xs↔xs=ns.map V.str
 |[],xs=>by simp[av]
 | n::ns,xs=>by
  simp only[map_cons];rw[av];constructor
  ·rintro⟨x,r,rfl,a,b⟩;rw[VR]at a;subst a;rw[(av.strs (ns:=ns)).mp b]
  ·rintro rfl;exact⟨_,_,rfl,VR.str,(av.strs (ns:=ns)).mpr rfl⟩
theorem av.bools:∀{ns:List Bool} {xs:List V},av K ρ H (ns.map Val.bl) xs↔xs=ns.map V.bl
 |[],xs=>by simp[av]
 | n::ns,xs=>by
  simp only[map_cons];rw[av];constructor
  ·rintro⟨x,r,rfl,a,b⟩;rw[VR]at a;subst a;rw[(av.bools (ns:=ns)).mp b]
  ·rintro rfl;exact⟨_,_,rfl,VR.bl,(av.bools (ns:=ns)).mpr rfl⟩
theorem av.tups:∀{oY:List (List Int)} {xs:List V},av K ρ H (oY.map kF) xs->∃rs:List (Addr×List Int),xs=rs.map (λr=>V.ref r.1)/\oY=rs.map (·.2)/\∀r∈rs,iy K H r.1 (r.2.map V.int)
 |[],xs,e=>by simp only[map_nil]at e;rw[av]at e;exact⟨[],e,rfl,λ_ z=>nomatch z⟩
 | ks::oY,xs,e=>by
  simp only[map_cons]at e;rw[av]at e;obtain⟨x,r,rfl,a,b⟩:=e;obtain⟨rs,e1,e2,e3⟩:=av.tups b;unfold kF at a;rw[VR]at a;obtain⟨p,ys,rfl,g1,g2⟩:=a;rw[av.ints.mp g2]at g1;refine⟨(p,ks)::rs,by rw[e1];rfl,by rw[e2];rfl,λr hr=>?_⟩
  rcases aal.mp hr with z|z
  ·rw[z];exact g1
  ·exact e3 r z
theorem av.zB:∀{rs:List (Addr×List Int)},(∀r∈rs,iy K H r.1 (r.2.map V.int))->av K ρ H ((rs.map (·.2)).map kF) (rs.map λr=>V.ref r.1)
 |[],_=>av.nil
 |r::rs,e=>av.cons (VR.tup (e r aad) (av.ints.mpr rfl)) (av.zB λq hq=>e q (Z6 _ hq))
theorem OR.mu(q:OR B ρ H a o):∃u,H a=some u/\Mu u=true:=by
 cases o with
 |lst xs=>obtain⟨ys,e,_⟩:=q;exact⟨_,e,rfl⟩
 |dct xs=>obtain⟨ys,e,_⟩:=q;exact⟨_,e,rfl⟩
 |ins c fs=>obtain⟨dx,ys,e,_⟩:=q;exact⟨_,e,rfl⟩
theorem HR.mu(r:HR B ρ h H)(e:a ∈ ρ):∃u,H a=some u/\Mu u=true:=by
 obtain⟨i,hi,rfl⟩:=ach e;have hi':i<h.length:=by rw[<-r.len];exact hi
 exact(r.ob i _ _ (aaA hi') (aaA hi)).mu
theorem HR.out(r:HR B ρ h H)(e:H p=none):p ∉ ρ:=λz=>by
 obtain⟨u,q,_⟩:=r.mu z;rw[e]at q;cases q
theorem OR.jV(g:Gw ρ H ρ' H')(e:H' a=H a)(q:OR B ρ H a o):OR B ρ' H' a o:=by
 cases o with
 |lst xs=>obtain⟨ys,e1,e2⟩:=q;exact⟨ys,e.trans e1,av.jV g _ _ e2⟩
 |dct xs=>obtain⟨ys,e1,e2⟩:=q;exact⟨ys,e.trans e1,gR.jV g _ _ e2⟩
 |ins c fs=>obtain⟨dx,ys,e1,e2⟩:=q;exact⟨dx,ys,e.trans e1,Lb.jV g _ _ e2⟩
theorem OR.up(g:Gr ρ H ρ' H')(e:H' a=H a)(q:OR B ρ H a o):OR B ρ' H' a o:=OR.jV g.w e q
theorem Gr.side(e:H p=none):Gr ρ H ρ (upd H p o) where
 pre:=aar _
 keep a u q _:=by rw[ao (aC q e)];exact q
 firm a u q _:=by rw[ao (aC q e)];exact q
 fresh a z n:=absurd z n
theorem HR.side(r:HR B ρ h H)(e:H p=none):HR B ρ h (upd H p o) where
 len:=r.len
 nd:=r.nd
 ob i u a q1 q2:=by refine OR.up (Gr.side e) ?_ (r.ob i u a q1 q2);refine ao λz=>?_;subst z;exact r.out e (aat q2)
theorem Gw.other(e:H p=some u)(hm:Mu u=true):Gw ρ H ρ (upd H p o) where
 pre:=aar _
 firm a w q n:=by
  have:a≠p:=λz=>by subst z;rw[e]at q;cases q;rw[hm]at n;cases n
  rw[ao this];exact q
theorem HR.other(r:HR B ρ h H)(hp:p ∉ ρ)(e:H p=some u)(hm:Mu u=true):HR B ρ h (upd H p o) where
 len:=r.len
 nd:=r.nd
 ob i w a q1 q2:=OR.jV (Gw.other e hm) (ao λz=>by subst z;exact hp (aat q2)) (r.ob i w a q1 q2)
theorem Gr.new(e:H p=none):Gr ρ H (ρ ++ [p]) (upd H p o) where
 pre:=aa2 _ _
 keep a u q _:=by rw[ao (aC q e)];exact q
 firm a u q _:=by rw[ao (aC q e)];exact q
 fresh a z n:=by
  rcases abx.mp z with z|z
  ·exact absurd z n
  ·rw[aau.mp z];exact e
theorem HR.new(r:HR B ρ h H)(e:H p=none)(q:OR B (ρ ++ [p]) (upd H p o) p u):HR B (ρ ++ [p]) (h++[u]) (upd H p o) where
 len:=by simp[r.len]
 nd:=by rw[abC];refine⟨r.nd,by simp,λa ha b hb=>?_⟩;rw[aau.mp hb];rintro rfl;exact r.out e ha
 ob i v a q1 q2:=by
  by_cases hi:i<h.length
  ·rw[aan hi]at q1;rw[aan (by rw[r.len];exact hi)]at q2;refine OR.up (Gr.new e) (ao λz=>?_) (r.ob i v a q1 q2);subst z;exact r.out e (aat q2)
  ·rw[aax (by omega)]at q1
   rw[aax (by rw[r.len];omega)]at q2;have hi0:i-h.length=0:=by have:=(Z9.mp q1).1;simp at this;omega
   rw[hi0]at q1;rw[r.len,hi0]at q2;simp at q1 q2;subst q1;subst q2;exact q
theorem zC(r:HR B ρ h H):VR K (ρ ++ [p]) H' (.ref h.length) (.ref p):=VR.ref (by rw[<-r.len];simp)
theorem Ju{α:Type}:∀{l:List α} {i j:Nat} {a:α},l.Nodup->l[i]?=some a->l[j]?=some a->i=j
 |[],i,j,a,_,e,_=>by simp at e
 |b::l,0,0,a,_,_,_=>rfl
 | b::l,0,j+1,a,n,e,f=>by
  simp at e f;subst e;exact absurd (aat f) (aa0.mp n).1
 | b::l,i+1,0,a,n,e,f=>by
  simp at e f;subst f;exact absurd (aat e) (aa0.mp n).1
 | b::l,i+1,j+1,a,n,e,f=>by
  simp at e f;rw[Ju (aa0.mp n).2 e f]
theorem Gr.put(hp:p ∈ ρ)(e:H p=some u)(hm:Mu u=true):Gr ρ H ρ (upd H p o) where
 pre:=aar _
 keep a w q n:=by rw[ao λz=>n (by rw[z];exact hp)];exact q
 firm a w q n:=by
  have:a≠p:=λz=>by subst z;rw[e]at q;cases q;rw[hm]at n;cases n
  rw[ao this];exact q
 fresh a z n:=absurd z n
theorem HR.put{i:Nat}(r:HR B ρ h H)(hi:ρ[i]?=some p)(e:h[i]?=some w)(q:OR B ρ (upd H p o) p u):HR B ρ (h.set i u) (upd H p o) where
 len:=by simp[r.len]
 nd:=r.nd
 ob j v a q1 q2:=by
  obtain⟨z,k1,k2⟩:=(r.ob i w p e hi).mu
  by_cases hj:j=i
  ·subst hj;rw[hi]at q2;cases q2;have hlt:j<h.length:=(Z9.mp e).1;rw[aak hlt]at q1;cases q1;exact q
  ·rw[aaa (λz=>hj z.symm)]at q1;refine OR.up (Gr.put (aat hi) k1 k2) (ao λz=>?_) (r.ob j v a q1 q2);subst z;exact hj (Ju r.nd q2 hi)
theorem dS(r:HR B ρ h H)(q:VR B.K ρ H v x)(e:aF h v=some xs):∃a ys,x=.ref a/\fR B.K H a ys/\av B.K ρ H xs ys:=by
 cases v with
 |rl vs=>simp only[aF]at e;cases e;rw[VR]at q;obtain⟨a,ys,rfl,k1,k2⟩:=q;exact⟨a,ys,rfl,k1.sq,k2⟩
 |ref i=>
  simp only[aF]at e;split at e
  ·rename_i zs e1;cases e;rw[VR]at q;obtain⟨a,rfl,k1⟩:=q;obtain⟨ys,k2,k3⟩:=r.ob i _ a e1 k1;exact⟨a,ys,rfl,.inl (.inl k2),k3⟩
  ·cases e
 |_=>cases e
theorem jG{i:Nat}(r:HR B ρ h H)(q:VR B.K ρ H (.ref i) x)(e:h[i]?=some (.lst xs)):∃a ys,x=.ref a /\ ρ[i]?=some a/\H a=some (.lst ys)/\av B.K ρ H xs ys:=by
 rw[VR]at q;obtain⟨a,rfl,k1⟩:=q;obtain⟨ys,k2,k3⟩:=r.ob i _ a e k1;exact⟨a,ys,rfl,k1,k2,k3⟩
theorem uE(r:HR B ρ h H)(q:VR B.K ρ H v x)(e:cI h v=some xs):∃a ys,x=.ref a/\(fR B.K H a ys\/iy B.K H a ys)/\av B.K ρ H xs ys:=by
 cases v with
 |tup vs=>simp only[cI]at e;cases e;rw[VR]at q;obtain⟨a,ys,rfl,k1,k2⟩:=q;exact⟨a,ys,rfl,.inr k1,k2⟩
 |rl vs=>obtain⟨a,ys,e1,k1,k2⟩:=dS r q (show aF h (.rl vs)=some xs from e);exact⟨a,ys,e1,.inl k1,k2⟩
 |ref vs=>obtain⟨a,ys,e1,k1,k2⟩:=dS r q (show aF h (.ref vs)=some xs from e);exact⟨a,ys,e1,.inl k1,k2⟩
 |_=>cases e
theorem m6(r:HR B ρ h H):∀(n:Nat) (v:Val) (x:V) (d:PyData),VR B.K ρ H v x->toD n h v=some d->Den B.K H d x/\d.canLay0=true/\d.depth<=n:=by
 intro n
 induction n with
 |zero=>intro v x d _ e;simp only[toD]at e;cases e
 |succ n ih=>
  have all:∀(vs:List Val) (xs:List V) (ds:List PyData),av B.K ρ H vs xs->cG (toD n h) vs=some ds->dJ B.K H ds xs/\PyData.canLayAll0 ds=true/\PyData.depthAll ds<=n:=by
   intro vs
   induction vs with
   |nil=>intro xs ds q e;simp only[cG]at e;cases e;rw[av]at q;subst q;exact⟨dJ.nil,rfl,by simp[PyData.depthAll]⟩
   |cons v vs XG=>intro xs ds q e;simp only[cG]at e;obtain⟨d,e1,e⟩:=Z5.mp e;obtain⟨ds',e2,e⟩:=Z5.mp e;cases e;rw[av]at q;obtain⟨x,r,rfl,q1,q2⟩:=q;obtain⟨a1,a2,a3⟩:=ih v x d q1 e1;obtain⟨b1,b2,b3⟩:=XG r ds' q2 e2;refine⟨dJ.cons a1 b1,by simp[PyData.canLayAll0,a2,b2],?_⟩;simp only[PyData.depthAll];omega
  intro v x d q e;cases v with
  |non=>simp only[toD]at e;cases e;rw[VR]at q;subst q;exact⟨Den.none,rfl,by simp[PyData.depth]⟩
  |bl b=>simp only[toD]at e;cases e;rw[VR]at q;subst q;exact⟨Den.bool,rfl,by simp[PyData.depth]⟩
  |int b=>simp only[toD]at e;cases e;rw[VR]at q;subst q;exact⟨Den.int,rfl,by simp[PyData.depth]⟩
  |str b=>
   simp only[toD]at e;split at e
   ·rename_i hs;cases e;rw[VR]at q;subst q;exact⟨Den.str,by simp[PyData.canLay0,hs],by simp[PyData.depth]⟩
   ·cases e
  |tup vs=>simp only[toD]at e;obtain⟨ds,e1,e⟩:=Z5.mp e;cases e;rw[VR]at q;obtain⟨a,xs,rfl,q1,q2⟩:=q;obtain⟨b1,b2,b3⟩:=all vs xs ds q2 e1;exact⟨Den.tuple q1 b1,by simp[PyData.canLay0,b2],by simp only[PyData.depth];omega⟩
  |rl vs=>simp only[toD]at e;obtain⟨ds,e1,e⟩:=Z5.mp e;cases e;rw[VR]at q;obtain⟨a,xs,rfl,q1,q2⟩:=q;obtain⟨b1,b2,b3⟩:=all vs xs ds q2 e1;exact⟨Den.list q1.sq b1,by simp[PyData.canLay0,b2],by simp only[PyData.depth];omega⟩
  |dc _ _=>rw[VR]at q;exact q.elim
  |ob _ _ _=>rw[VR]at q;exact q.elim
  |ref i=>simp only[toD]at e;obtain⟨vs,e0,e⟩:=Z5.mp e;obtain⟨ds,e1,e⟩:=Z5.mp e;cases e;obtain⟨a,xs,rfl,q1,q2⟩:=dS r q e0;obtain⟨b1,b2,b3⟩:=all vs xs ds q2 e1;exact⟨Den.list q1 b1,by simp[PyData.canLay0,b2],by simp only[PyData.depth];omega⟩
end
theorem m7(x:List Int):∀l,(uy x l).Perm (x::l)
 |[]=>.refl _
 | y::r=>by
  unfold uy;split
  ·exact((m7 x r).cons y).trans (.swap _ _ _)
  ·exact .refl _
theorem p9:∀l,(lI l).Perm l
 |[]=>.refl _
 |x::r=>(m7 x _).trans ((p9 r).cons x)
theorem vZ{a b c:List Int}(h1:HT.lexLt b a=false)(h2:HT.lexLt c b=false):HT.lexLt c a=false:=by
 cases e:HT.lexLt c a with
 |false=>rfl
 |true=>
  rcases qX.r8 c b a e with z|z
  ·rw[h2]at z;cases z
  ·rw[h1]at z;cases z
theorem v5{a b:List Int}(h:HT.lexLt a b=true):HT.lexLt b a=false:=by
 cases e:HT.lexLt b a with
 |false=>rfl
 |true=>have:=qX.gm _ _ _ h e;rw[qX.iD]at this;cases this
theorem zE(x:List Int):∀l:List (List Int),l.Pairwise (λa b=>HT.lexLt b a=false)->(uy x l).Pairwise (λa b=>HT.lexLt b a=false)
 |[],_=>by simp[uy]
 | y::r,h=>by
  obtain⟨h1,h2⟩:=abU.mp h;unfold uy
  split
  ·rename_i hlt
   refine abU.mpr ⟨λz hz=>?_,zE x r h2⟩
   rcases aal.mp ((m7 x r).mem_iff.mp hz) with rfl|hz
   ·exact v5 hlt
   ·exact h1 z hz
  ·rename_i hlt
   refine abU.mpr ⟨λz hz=>?_,h⟩;have hxy:HT.lexLt y x=false:=by simpa using hlt
   rcases aal.mp hz with rfl|hz
   ·exact hxy
   ·exact vZ hxy (h1 z hz)
theorem v7:∀l,(lI l).Pairwise (λa b=>HT.lexLt b a=false)
 |[]=>.nil
 |x::r=>zE x _ (v7 r)
theorem C8(hp:l.Perm oY)(hs:l.Pairwise (λa b=>HT.lexLt b a=false)):l=lI oY :=
 List.Perm.eq_of_pairwise (λa b _ _ h1 h2=>qX.gk a b h2 h1) hs (v7 oY) (hp.trans (p9 oY).symm)
theorem Bq{ns:List Int}{m:Int}(h:m∈ns)(h2:∀a∈ns,m<=a):uz ns=some (.int m):=by
 cases ns with
 |nil=>cases h
 |cons a r=>
  have key:∀(r:List Int) (a:Int),(r.foldl min a)∈a::r/\∀b∈a::r,r.foldl min a<=b:=by
   intro r
   induction r with
   |nil=>intro a;simp
   |cons c r ih=>
    intro a;obtain⟨q1,q2⟩:=ih (min a c);refine⟨?_,λb hb=>?_⟩
    ·show List.foldl min (min a c) r∈_
     rcases aal.mp q1 with z|z
     ·rw[z]
      rcases Int.le_total a c with hc|hc
      ·rw[Int.min_eq_left hc];exact aad
      ·rw[Int.min_eq_right hc];exact Z6 _ aad
     ·exact Z6 _ (Z6 _ z)
    ·show List.foldl min (min a c) r<=b
     have q3:=q2 (min a c) aad
     rcases aal.mp hb with z|z
     ·subst z;omega
     ·rcases aal.mp z with z|z
      ·subst z;omega
      ·exact q2 b (Z6 _ z)
  obtain⟨q1,q2⟩:=key r a;show some (Val.int (r.foldl min a))=_;rw[Int.le_antisymm (q2 m h) (h2 _ q1)]
theorem Br{ns:List Int}{m:Int}(h:m∈ns)(h2:∀a∈ns,a<=m):uC ns=some (.int m):=by
 cases ns with
 |nil=>cases h
 |cons a r=>
  have key:∀(r:List Int) (a:Int),(r.foldl max a)∈a::r/\∀b∈a::r,b<=r.foldl max a:=by
   intro r
   induction r with
   |nil=>intro a;simp
   |cons c r ih=>
    intro a;obtain⟨q1,q2⟩:=ih (max a c);refine⟨?_,λb hb=>?_⟩
    ·show List.foldl max (max a c) r∈_
     rcases aal.mp q1 with z|z
     ·rw[z]
      rcases Int.le_total a c with hc|hc
      ·rw[Int.max_eq_right hc];exact Z6 _ aad
      ·rw[Int.max_eq_left hc];exact aad
     ·exact Z6 _ (Z6 _ z)
    ·show b<=List.foldl max (max a c) r
     have q3:=q2 (max a c) aad
     rcases aal.mp hb with z|z
     ·subst z;omega
     ·rcases aal.mp z with z|z
      ·subst z;omega
      ·exact q2 b (Z6 _ z)
  obtain⟨q1,q2⟩:=key r a;show some (Val.int (r.foldl max a))=_;rw[Int.le_antisymm (h2 _ q1) (q2 m h)]
def Post(B:Bd)(EX:Nat->List V->Hp->Prop)(ρ:List Addr)(H:Hp){α:Type}(W:α -> Hs->List Addr->Hp->Prop):Out α -> Prop
 |.ok a h'=>∀ρ' H',Gr ρ H ρ' H'->HR B ρ' h' H'->W a h' ρ' H'
 |.exc c vs h'=>∀ρ' H' xs,Gr ρ H ρ' H'->HR B ρ' h' H'->av B.K ρ' H' vs xs->EX c xs H'
 |.no=>False
def WV(K:Frag)(Q:VK):Val->Hs->List Addr->Hp->Prop:=λv _ ρ' H'=>∀x,VR K ρ' H' v x->Q x H'
section
variable {B:Bd} {EX:Nat->List V->Hp->Prop} {ρ ρ':List Addr} {H H':Hp} {α β:Type} {W:β -> Hs->List Addr->Hp->Prop} {h h':Hs} {Q:VK}
theorem Post.up(g:Gr ρ H ρ' H')(p:Post B EX ρ H W o):Post B EX ρ' H' W o:=by
 cases o with
 |ok a h'=>exact λρ2 H2 g2 r=>p ρ2 H2 (g.trans g2) r
 |exc c vs h'=>exact λρ2 H2 xs g2 r=>p ρ2 H2 xs (g.trans g2) r
 |no=>exact p
theorem aJ{c:Bool}(p:Post B EX ρ H W (aI c m h)):c=true/\Post B EX ρ H W (m h):=by
 unfold aI at p;split at p
 ·rename_i e;exact⟨e,p⟩
 ·exact p.elim
theorem aE(p:Post B EX ρ H W (bnd (ask f) g h)):∃a,f h=some a/\Post B EX ρ H W (g a h):=by
 unfold bnd ask aZ at p;cases e:f h with
 |none=>rw[e]at p;exact p.elim
 |some a=>rw[e]at p;exact⟨a,rfl,p⟩
theorem cD(r:HR B ρ h H)(p:Post B EX ρ H W (ask f h)):∃a,f h=some a/\W a h ρ H:=by
 unfold ask aZ at p;cases e:f h with
 |none=>rw[e]at p;exact p.elim
 |some a=>rw[e]at p;exact⟨a,rfl,p ρ H Gr.refl r⟩
theorem bS(p:Post B EX ρ H W (bnd (aZ o) g h)):∃a,o=some a/\Post B EX ρ H W (g a h):=by
 unfold bnd aZ at p;cases e:o with
 |none=>rw[e]at p;exact p.elim
 |some a=>rw[e]at p;exact⟨a,rfl,p⟩
theorem cF(r:HR B ρ h H)(p:Post B EX ρ H W (aZ o h)):∃a,o=some a/\W a h ρ H:=by
 unfold aZ at p;cases e:o with
 |none=>rw[e]at p;exact p.elim
 |some a=>rw[e]at p;exact⟨a,rfl,p ρ H Gr.refl r⟩
theorem aj(r:HR B ρ h H)(p:Post B EX ρ H W (ret a h)):W a h ρ H:=p ρ H Gr.refl r
theorem v8(r:HR B ρ h H)(hp:H p=none)(q:OR B (ρ ++ [p]) (upd H p O) p o)(w:Post B EX ρ H (WV B.K Q) (new o h)):Q (.ref p) (upd H p O) :=
 w (ρ ++ [p]) (upd H p O) (Gr.new hp) (r.new hp q) _ (zC r)
theorem dF(r:HR B ρ h H)(hp:H p=none)(q:av B.K ρ H xs ys)(w:Post B EX ρ H (WV B.K Q) (new (.lst xs) h)):Q (.ref p) (upd H p (.lst ys)) :=
 v8 (o:=.lst xs) (O:=.lst ys) r hp ⟨ys,au,av.up (Gr.new hp) _ _ q⟩ w
theorem lO(r:HR B ρ h H)(hp:H p=none)(q:av B.K ρ H xs ys)(w:Post B EX ρ H (WV B.K Q) (ret (Val.tup xs) h)):Q (.ref p) (upd H p (.tup ys)) :=
 w ρ (upd H p (.tup ys)) (Gr.side hp) (r.side hp) _ (VR.tup (iy.of au) (av.up (Gr.side hp) _ _ q))
theorem aA(p:Post B EX ρ H W (bnd m f h))(k:∀v h1 ρ1 x H1,Gr ρ H ρ1 H1->HR B ρ1 h1 H1->VR B.K ρ1 H1 v x->Post B EX ρ1 H1 W (f v h1)->Q x H1):Post B EX ρ H (WV B.K Q) (m h):=by
 unfold bnd at p;cases e:m h with
 |ok v h1=>rw[e]at p;exact λρ1 H1 g r x q=>k v h1 ρ1 x H1 g r q (Post.up g p)
 |exc c vs h1=>rw[e]at p;exact p
 |no=>rw[e]at p;exact p
theorem bK(p:Post B EX ρ H W (bnd m f h))(k:∀v h1 ρ1 H1,Gr ρ H ρ1 H1->HR B ρ1 h1 H1->Post B EX ρ1 H1 W (f v h1)->W' v h1 ρ1 H1):Post B EX ρ H W' (m h):=by
 unfold bnd at p;cases e:m h with
 |ok v h1=>rw[e]at p;exact λρ1 H1 g r=>k v h1 ρ1 H1 g r (Post.up g p)
 |exc c vs h1=>rw[e]at p;exact p
 |no=>rw[e]at p;exact p
end
theorem eG:∀{ds:List Val} {ns:List Int},aW ds=some ns->ds=ns.map .int
 |[],ns,e=>by simp only[aW,cG]at e;cases e;rfl
 | v::r,ns,e=>by
  simp only[aW,cG]at e;obtain⟨i,e1,e⟩:=Z5.mp e;obtain⟨is,e2,e⟩:=Z5.mp e;cases e;cases v<;>first|cases e1|skip
  rw[eG (show aW r=some is from e2)];rfl
theorem kG:∀{ds:List Val} {ns:List Bool},cH ds=some ns->ds=ns.map .bl
 |[],ns,e=>by simp only[cH,cG]at e;cases e;rfl
 | v::r,ns,e=>by
  simp only[cH,cG]at e;obtain⟨i,e1,e⟩:=Z5.mp e;obtain⟨is,e2,e⟩:=Z5.mp e;cases e;cases v<;>first|cases e1|skip
  rw[kG (show cH r=some is from e2)];rfl
theorem sL:∀{ds:List Val} {oY:List (List Int)},ki ds=some oY->ds=oY.map kF/\∀ks∈oY,ks≠[]
 |[],ns,e=>by simp only[ki,cG]at e;cases e;exact⟨rfl,λ_ z=>nomatch z⟩
 | v::r,ns,e=>by
  simp only[ki,cG]at e;obtain⟨i,e1,e⟩:=Z5.mp e;obtain⟨is,e2,e⟩:=Z5.mp e;cases e;cases v<;>first|cases e1|skip
  rename_i vs;dsimp only at e1;split at e1
  ·cases e1
  ·rename_i hne
   obtain⟨q1,q2⟩:=sL (show ki r=some is from e2);have e3:=eG e1;subst e3;refine⟨by rw[q1];rfl,λks hk=>?_⟩
   rcases aal.mp hk with z|z
   ·subst z;intro z;subst z;exact hne rfl
   ·exact q2 ks z
section
variable {X:Cx} {cl:Nat->Addr} {EX:Nat->List V->Hp->Prop}
abbrev bd(X:Cx)(cl:Nat->Addr):Bd:=⟨X.K,cl⟩
theorem oZ:jz X (binaryOp .Add) (λx y H Q=>∃a b xs ys,x=.ref a/\y=.ref b/\fR X.K H a xs/\fR X.K H b ys/\xs.length+ys.length<=sizeLine/\∀p,H p=none->Q (.ref p) (upd H p (.lst (xs++ys)))):=by
 intro pins s σ H x y v u Q I rx ry h;obtain⟨l,l',xs,ys,rfl,rfl,q1,q3,hl,q⟩:=h;cases rx;cases ry;obtain⟨its,r1,XH,z1⟩:=I.list q1;obtain⟨its',r2,XI,z2⟩:=I.list q3;have l1:=r1.length;have l2:=r2.length;obtain⟨⟨oc,od,Si,osl⟩,n1,e1,e2,_,e4⟩:=XH;obtain⟨⟨ZR,od',XJ,Ui⟩,n2,f1,f2,_,f4⟩:=XI;cases e2;cases e4;cases f2;cases f4;refine concat_meets ⟨_,e1,rfl⟩ ⟨_,f1,rfl⟩ noFill_list_add seq_list_add PySem.F.slot_list_add PySem.F.entry_list_add (PySem.F.args_list_add_2 _ _) (list_addW l l' its.toArray its'.toArray n1 n2 od od' osl Ui (by simp only[size_toArray];omega)) ⟨e1,f1,?_⟩;have ea:its.toArray++its'.toArray=(its++its').toArray:=by simp
 rw[ea];have hn:H s.heap.objs.size=none:=I.hok.fresh (aag _);exact⟨.ref s.heap.objs.size,_,I.Tq (t':=s.toks) (its:=its++its') (r1.append r2) (by rw[aao];omega),rfl,q _ hn⟩
def C9:Jr->Operator
 |.add=>.Add|.sub=>.Sub|.mul=>.Mult|.fdiv=>.FloorDiv|.mod=>.Mod|.pow=>.Pow
def nV:K7->CmpOp
 |.eq=>.Eq|.ne=>.NotEq|.lt=>.Lt|.le=>.LtE|.gt=>.Gt|.ge=>.GtE|.isn=>.Is|.ntn=>.IsNot|.xK=>.In|.nin=>.NotIn
def rB(B:Bd)(EX:Nat->List V->Hp->Prop)(o:Jr):R2:=λx y H Q=>∃ρ h v w,HR B ρ h H/\VR B.K ρ H v x/\VR B.K ρ H w y/\Post B EX ρ H (WV B.K Q) (N1 o v w h)
theorem iZ.log{j:Int}(h:iZ j=true):0<j/\j.natAbs.log2<9000:=by
 have h:=aav h;refine⟨h.1,(Nat.log2_lt (by omega)).mpr ?_⟩;have e:j.natAbs<2 ^ 200:=by
  have:(2:Nat) ^ 200=1606938044258990275541962092341162602522202993782792835301376:=by decide
  omega
 exact aai e (Nat.pow_le_pow_right (by decide) (by decide))
theorem Dc:jz X (binaryOp .FloorDiv) (rI (λ_ j=>iZ j=true) λi j=>.int (i/j)):=Sd λi j _ _ _ _ _ hc q=>by
 obtain⟨h1,h2⟩:=iZ.log hc;exact PyProof.Rows.floordiv_int (by omega) (by rw[Int.fdiv_eq_ediv_of_nonneg i (by omega)];exact q) (.inl (PyProof.noPylong_of_log2 h2))
theorem qa(ho:o≠.add)(v w:Val)(h:Hs):(∃i j,v=.int i/\w=.int j)\/N1 o v w h=.no:=by
 cases v with
 |int i=>
  cases w with
  |int j=>exact .inl ⟨i,j,rfl,rfl⟩
  |_=>right;cases o<;>first|rfl|exact absurd rfl ho
 |_=>right;cases o<;>first|rfl|exact absurd rfl ho
theorem Ld(o:Jr):jz X (binaryOp (C9 o)) (rB (bd X cl) EX o):=by
 intro pins s σ H x y v' u' Q I rx ry hh;obtain⟨ρ,h,v,w,r,hv,hw,p⟩:=hh;have lists:Post (bd X cl) EX ρ H (WV X.K Q) (bnd (ask λh=>aF h v) (λa=>bnd (ask λh=>aF h w) λb=>aI (decide (a.length+b.length<=sizeLine)) (new (.lst (a++b)))) h)->wpAny (model X.prog X.w) X.A (binaryOp .Add v' u') (EP X pins σ Q) X.xe s:=by intro p;obtain⟨a,e1,p⟩:=aE p;obtain⟨b,e2,p⟩:=aE p;obtain⟨e3,p⟩:=aJ p;have e3:=aav e3;obtain⟨a1,Pc,rfl,k1,k2⟩:=dS r hv e1;obtain⟨a2,Uj,rfl,k3,k4⟩:=dS r hw e2;exact oZ pins s σ H _ _ v' u' Q I rx ry ⟨a1,a2,Pc,Uj,rfl,rfl,k1,k3,by rw[<-k2.length,<-k4.length];exact e3,λq hq=>dF r hq (av.append k2 k4) p⟩
 cases o with
 |add=>
  cases v<;>cases w<;>first
   |exact lists p
   |skip
  ·rename_i a b;rw[VR]at hv hw;subst hv;subst hw;exact Kl pins s σ H _ _ _ _ Q I rx ry ⟨a,b,rfl,rfl,aj r p _ VR.int⟩
  ·rename_i a b;rw[VR]at hv hw;subst hv;subst hw;obtain⟨e,p⟩:=aJ p;exact xT pins s σ H _ _ _ _ Q I rx ry ⟨a,b,rfl,rfl,aav e,aj r p _ VR.str⟩
  ·rename_i a b
   rw[VR]at hv hw;obtain⟨a1,Pc,rfl,k1,k2⟩:=hv;obtain⟨a2,Uj,rfl,k3,k4⟩:=hw;obtain⟨e,p⟩:=aJ p;simp only[and_eq_true,not_eq_true',decide_eq_true_eq]at e;refine FQ pins s σ H _ _ _ _ Q I rx ry ⟨a1,a2,Pc,Uj,rfl,rfl,k1,k3,?_,by rw[<-k2.length,<-k4.length];exact e.2,λz=>?_,λ_ q hq=>lO r hq (av.append k2 k4) p⟩
   ·intro z;subst z
    have:=k2.length;cases a with
    |nil=>simp at e
    |cons _ _=>simp at this
   ·subst z
    have hb:b=[]:=by cases b with|nil=>rfl|cons _ _=>have:=k4.length;simp at this
    subst hb;rw[aaJ]at p;exact aj r p _ (VR.tup k1 k2)
 |sub=>
  rcases qa (o:=.sub) (by intro z;cases z) v w h with ⟨i,j,rfl,rfl⟩|z
  case inr=>rw[z]at p;exact p.elim
  rw[VR]at hv hw;subst hv;subst hw;exact Km pins s σ H _ _ _ _ Q I rx ry ⟨_,_,rfl,rfl,aj r p _ VR.int⟩
 |mul=>
  rcases qa (o:=.mul) (by intro z;cases z) v w h with ⟨i,j,rfl,rfl⟩|z
  case inr=>rw[z]at p;exact p.elim
  rw[VR]at hv hw;subst hv;subst hw;obtain⟨hm,p⟩:=aJ p;refine Kn pins s σ H _ _ _ _ Q I rx ry ⟨_,_,rfl,rfl,?_,aj r p _ VR.int⟩;unfold dD at hm;simp only[or_eq_true,and_eq_true,decide_eq_true_eq]at hm;exact hm
 |fdiv=>
  rcases qa (o:=.fdiv) (by intro z;cases z) v w h with ⟨i,j,rfl,rfl⟩|z
  case inr=>rw[z]at p;exact p.elim
  rw[VR]at hv hw;subst hv;subst hw;obtain⟨hm,p⟩:=aJ p;exact Dc pins s σ H _ _ _ _ Q I rx ry ⟨_,_,rfl,rfl,hm,aj r p _ VR.int⟩
 |mod=>
  rcases qa (o:=.mod) (by intro z;cases z) v w h with ⟨i,j,rfl,rfl⟩|z
  case inr=>rw[z]at p;exact p.elim
  rw[VR]at hv hw;subst hv;subst hw;obtain⟨hm,p⟩:=aJ p;exact Ko pins s σ H _ _ _ _ Q I rx ry ⟨_,_,rfl,rfl,aav hm,aj r p _ VR.int⟩
 |pow=>
  rcases qa (o:=.pow) (by intro z;cases z) v w h with ⟨i,j,rfl,rfl⟩|z
  case inr=>rw[z]at p;exact p.elim
  rw[VR]at hv hw;subst hv;subst hw;obtain⟨hm,p⟩:=aJ p;have hm:=aav hm;exact Kp pins s σ H _ _ _ _ Q I rx ry ⟨_,_,rfl,rfl,hm,aj r p _ VR.int⟩
end
section
variable {X:Cx} {cl:Nat->Addr} {EX:Nat->List V->Hp->Prop}
theorem v9{b:Bool}(e:zy h v w=some b):∃d f,toD 16 h v=some d/\toD 16 h w=some f/\b=PyData.eqv d f:=by
 unfold zy at e;obtain⟨d,e1,e⟩:=Z5.mp e;obtain⟨f,e2,e⟩:=Z5.mp e;exact⟨d,f,e1,e2,(aaq e).symm⟩
theorem zF{K:Frag}{ρ:List Addr}{H:Hp}{v:Val}{x:V}(q:VR K ρ H v x):decide (x=.non)=pY v:=by
 cases v<;>rw[VR]at q
 ·subst q;rfl
 ·subst q;rfl
 ·subst q;rfl
 ·subst q;rfl
 ·obtain⟨a,xs,rfl,_⟩:=q;rfl
 ·obtain⟨a,xs,rfl,_⟩:=q;rfl
 ·exact q.elim
 ·exact q.elim
 ·obtain⟨a,rfl,_⟩:=q;rfl
theorem Le(hu:X.A.units+64<cLine)(neg:Bool):jz X (compareOp (if neg=true then .NotIn else .In)) (λx y H Q=>∃d f ds,Den X.K H d x/\Den X.K H f y/\d.canLay0=true/\f.canLay0=true/\d.depth<=16/\(f=.list ds\/f=.tuple ds)/\Q (.bl (if neg=true then !(ds.any λy=>PyData.eqv y d) else ds.any λy=>PyData.eqv y d)) H):=by
 intro pins s σ H x y v u Q I rx ry hh;obtain⟨d,f,ds,hd,hf,c1,c2,hz,e,q⟩:=hh;obtain⟨as,ra⟩:=Den.reads I d x v c1 hd rx;obtain⟨bs,rb⟩:=Den.reads I f y u c2 hf ry;have Sn:X.A.units+1+min (PyData.depthAll ds) d.depth<cLine:=by have:=Nat.min_le_right (PyData.depthAll ds) d.depth;omega
 rcases e with rfl|rfl
 ·have c3:PyData.canLayAll0 ds=true:=by simpa [PyData.canLay0] using c2
  cases neg with
  |true=>exact SeqAt.notIn_list_reads rb ra c3 c1 Sn ⟨.bl _,H,I,rfl,q⟩
  |false=>exact SeqAt.in_list_reads rb ra c3 c1 Sn ⟨.bl _,H,I,rfl,q⟩
 ·have c3:PyData.canLayAll0 ds=true:=by simpa [PyData.canLay0] using c2
  cases neg with
  |true=>exact SeqAt.notIn_tuple_reads rb ra c3 c1 Sn ⟨.bl _,H,I,rfl,q⟩
  |false=>exact SeqAt.in_tuple_reads rb ra c3 c1 Sn ⟨.bl _,H,I,rfl,q⟩
theorem gR.val{K:Frag}{ρ:List Addr}{H:Hp}(k:Key):∀{kvs:List (Key×Val)} {ks:List (Key×V)},gR K ρ H kvs ks->(dR kvs k=none->gP ks k=none)/\∀v,dR kvs k=some v->∃x,gP ks k=some x/\VR K ρ H v x
 | [],ks,e=>by
  have:ks=[]:=e;subst this;exact⟨λ_=>rfl,λv z=>by simp[dR]at z⟩
 | (k',v')::kvs,ks,⟨x,r,e,q1,q2⟩=>by
  subst e;obtain⟨a,b⟩:=gR.val k q2
  by_cases hk:k'=k
  ·subst hk;refine⟨λz=>by simp[dR]at z,λv z=>⟨x,by simp[gP],?_⟩⟩;simp[dR]at z;subst z;exact q1
  ·have e1:dR ((k',v')::kvs) k=dR kvs k:=by simp[dR,hk]
   have e2:gP ((k',x)::r) k=gP r k:=by simp[gP,hk]
   rw[e1,e2];exact⟨a,b⟩
theorem gR.length{K:Frag}{ρ:List Addr}{H:Hp}:∀{kvs:List (Key×Val)} {ks:List (Key×V)},gR K ρ H kvs ks->kvs.length=ks.length
 |[],ks,e=>by have:ks=[]:=e;subst this;rfl
 |(k',v')::kvs,ks,⟨x,r,e,q1,q2⟩=>by subst e;simp[gR.length q2]
theorem gR.any{K:Frag}{ρ:List Addr}{H:Hp}(k:Key):∀{kvs:List (Key×Val)} {ks:List (Key×V)},gR K ρ H kvs ks->(kvs.any λkv=>decide (kv.1=k))=(ks.any λkv=>decide (kv.1=k))
 |[],ks,e=>by have:ks=[]:=e;subst this;rfl
 |(k',v')::kvs,ks,⟨x,r,e,q1,q2⟩=>by subst e;simp only[List.any_cons];rw[gR.any k q2]
theorem gR.repl{K:Frag}{ρ:List Addr}{H:Hp}(k:Key){v:Val}{y:V}(q:VR K ρ H v y):∀{kvs:List (Key×Val)} {ks:List (Key×V)},gR K ρ H kvs ks->gR K ρ H (kvs.map λkv=>if kv.1=k then (kv.1,v) else kv) (ks.map λkv=>if kv.1=k then (kv.1,y) else kv)
 |[],ks,e=>by have:ks=[]:=e;subst this;rfl
 | (k',v')::kvs,ks,⟨x,r,e,q1,q2⟩=>by
  subst e;simp only[map_cons]
  by_cases hk:k'=k
  ·rw[aae hk,aae hk];exact⟨y,_,rfl,q,gR.repl k q q2⟩
  ·rw[aac hk,aac hk];exact⟨x,_,rfl,q1,gR.repl k q q2⟩
theorem gR.snoc{K:Frag}{ρ:List Addr}{H:Hp}(k:Key){v:Val}{y:V}(q:VR K ρ H v y):∀{kvs:List (Key×Val)} {ks:List (Key×V)},gR K ρ H kvs ks->gR K ρ H (kvs++[(k,v)]) (ks++[(k,y)])
 |[],ks,e=>by have:ks=[]:=e;subst this;exact⟨y,[],rfl,q,rfl⟩
 |(k',v')::kvs,ks,⟨x,r,e,q1,q2⟩=>by subst e;exact⟨x,_,rfl,q1,gR.snoc k q q2⟩
theorem gR.put{K:Frag}{ρ:List Addr}{H:Hp}(k:Key){v:Val}{y:V}(q:VR K ρ H v y){kvs:List (Key×Val)}{ks:List (Key×V)}(e:gR K ρ H kvs ks):gR K ρ H (eF kvs k v) (putK ks k y):=by
 unfold eF putK;rw[gR.any k e]
 split
 ·exact gR.repl k q e
 ·exact gR.snoc k q e
theorem Dd{K:Frag}{ρ:List Addr}{H:Hp}{v:Val}{x:V}{k:Key}(q:VR K ρ H v x)(e:keyOf v=some k):x=kV k:=by
 cases v<;>simp only[keyOf]at e<;>first|cases e|skip
 ·rw[VR]at q;exact q
 ·rw[VR]at q;exact q
theorem zG(hu:X.A.units+64<cLine):NV X (λx y H Q=>∃a v,x=.ref a/\mU H a y (some v)/\Q v H):=by
 intro value slice pins s σ H x y v u Q I rx ry h hs;obtain⟨a,z,rfl,g,q⟩:=h;cases rx;have hT:=vA I g;unfold subscriptTail;refine Z2 ?_;rw[getitemInPython_of_ne hT.not_modules];refine Z2 (wpAny_specialOf hT PySem.F.slot_dict_getitem.lookup ?_);have fin:wpAny (model X.prog X.w) X.A (subscripted slice false (.ref a) u) (λr s₃=>wpAny (model X.prog X.w) X.A (letTemporaryGo value (.ref a) r >>= λ_=>pure r) (EP X pins σ Q) X.xe s₃) X.xe s:=by rw[hs];exact wpAny_operating (AM (by omega) I g ry λw' s' I' r'=>Z2 (wpAny_letTemporaryGo (Z7 ⟨z,H,I',r',q⟩)))
 first
  |exact Z7 (Z2 fin)
  |exact Z2 (Z7 (Z2 fin))
  |exact Z2 fin
def rC(B:Bd)(o:K7):R2:=λx y H Q=>∃ρ h v w b,HR B ρ h H/\VR B.K ρ H v x/\VR B.K ρ H w y/\cop h o v w=some b/\Q (.bl b) H
theorem lQ{b:Bool}(e:memD h v w=some b):∃d f ds,toD 16 h v=some d/\toD 16 h w=some f/\(f=.list ds\/f=.tuple ds)/\b=ds.any λy=>PyData.eqv y d:=by
 unfold memD at e;obtain⟨f,e1,e⟩:=Z5.mp e;obtain⟨d,e2,e⟩:=Z5.mp e;cases f<;>simp only[K8]at e<;>first|cases e|skip
 ·exact⟨d,_,_,e2,e1,.inl rfl,rfl⟩
 ·exact⟨d,_,_,e2,e1,.inr rfl,rfl⟩
theorem Bs{b:Bool}(hw:∀ks vs,w≠.dc ks vs)(e:uD h v w=some b):(∃x y,v=.str x/\w=.str y/\b = !(Builtin.Str.occurrences y x 0 y.length 1).isEmpty)\/(∃i kvs k,w=.ref i/\h[i]?=some (.dct kvs)/\keyOf v=some k/\b=(dR kvs k).isSome) \/
  ∃d f ds,toD 16 h v=some d/\toD 16 h w=some f/\(f=.list ds\/f=.tuple ds)/\b=ds.any λy=>PyData.eqv y d:=by
 cases w with
 |ref i=>
  have e':(h[i]?).bind (GF h v i)=some b:=by cases v<;>exact e
  obtain⟨ob,e1,e2⟩:=Z5.mp e';cases ob with
  |dct kvs=>obtain⟨k,e3,e4⟩:=Z5.mp (show (keyOf v).bind _=some b from e2);exact .inr (.inl ⟨i,kvs,k,rfl,e1,e3,(aaq e4).symm⟩)
  |lst xs=>exact .inr (.inr (lQ e2))
  |ins c fs=>exact .inr (.inr (lQ e2))
 |dc ks vs=>exact absurd rfl (hw ks vs)
 |str y=>
  cases v with
  |str x=>exact .inl ⟨x,y,rfl,rfl,(aaq e).symm⟩
  |_=>exact .inr (.inr (lQ e))
 |_=>exact .inr (.inr (lQ (by cases v<;>exact e)))
theorem m8(hu:X.A.units+64<cLine)(o:K7):jz X (compareOp (nV o)) (rC (bd X cl) o):=by
 intro pins s σ H x y v' u' Q I rx ry hh;obtain⟨ρ,h,v,w,b,r,hv,hw,e,q⟩:=hh;have mem:∀(neg:Bool),uD h v w=some (if neg=true then !b else b)->wpAny (model X.prog X.w) X.A (compareOp (if neg=true then .NotIn else .In) v' u') (EP X pins σ Q) X.xe s:=by
  intro neg e;have nd:∀ks vs,w≠.dc ks vs:=λks vs z=>by subst z;rw[VR]at hw;exact hw.elim
  rcases Bs nd e with ⟨a,c,rfl,rfl,eb⟩|⟨i,kvs,k,rfl,e1,e2,eb⟩|⟨d,f,ds,e1,e2,e3,eb⟩
  ·rw[VR]at hv;rw[VR]at hw;subst hv;subst hw
   cases neg with
   |true=>refine t7 pins s σ H _ _ v' u' Q I rx ry ⟨a,c,rfl,rfl,?_⟩;rw[aae rfl]at eb;rw[<-eb,Bool.not_not];exact q
   |false=>refine AF pins s σ H _ _ v' u' Q I rx ry ⟨a,c,rfl,rfl,?_⟩;rw[aac Z3]at eb;rw[<-eb];exact q
  ·rw[VR]at hw
   obtain⟨a,rfl,k1⟩:=hw;obtain⟨ks,k2,k3⟩:=r.ob i _ a e1 k1;have ex:=Dd hv e2;subst ex;have es:(gP ks k).isSome=(dR kvs k).isSome:=by
    obtain⟨z1,z2⟩:=gR.val k k3;cases e4:dR kvs k with
    |none=>rw[z1 e4];rfl
    |some z=>obtain⟨x,z3,_⟩:=z2 z e4;rw[z3];rfl
   cases ry;cases neg with
   |true=>refine F6 (by omega) I (mU.k (k:=k) k2) rx λs' I'=>⟨.bl _,H,I',rfl,?_⟩;rw[aae rfl]at eb;rw[es,<-eb,Bool.not_not];exact q
   |false=>refine Tr (by omega) I (mU.k (k:=k) k2) rx λs' I'=>⟨.bl _,H,I',rfl,?_⟩;rw[aac Z3]at eb;rw[es,<-eb];exact q
  ·obtain⟨a1,a2,a3⟩:=m6 r 16 v x d hv e1
   obtain⟨b1,b2,b3⟩:=m6 r 16 w y f hw e2;refine Le hu neg pins s σ H x y v' u' Q I rx ry ⟨d,f,ds,a1,b1,a2,b2,a3,e3,?_⟩;cases neg with
   |true=>rw[aae rfl]at eb |-;rw[<-eb,Bool.not_not];exact q
   |false=>rw[aac Z3]at eb |-;rw[<-eb];exact q
 cases o with
 |eq=>obtain⟨d,f,e1,e2,rfl⟩:=v9 (show zy h v w=some b by exact e);obtain⟨a1,a2,a3⟩:=m6 r 16 v x d hv e1;obtain⟨b1,b2,b3⟩:=m6 r 16 w y f hw e2;exact KQ hu pins s σ H x y v' u' Q I rx ry ⟨d,f,a1,b1,a2,b2,by omega,q⟩
 |ne=>have e':(zy h v w).map (!·)=some b:=e;obtain⟨c,e3,rfl⟩:=aaw.mp e';obtain⟨d,f,e1,e2,rfl⟩:=v9 e3;obtain⟨a1,a2,a3⟩:=m6 r 16 v x d hv e1;obtain⟨b1,b2,b3⟩:=m6 r 16 w y f hw e2;exact KR hu pins s σ H x y v' u' Q I rx ry ⟨d,f,a1,b1,a2,b2,by omega,q⟩
 |lt=>obtain⟨i,j,rfl,rfl⟩:=jc (.inl rfl) e;cases e;rw[VR]at hv;rw[VR]at hw;subst hv;subst hw;exact OE pins s σ H _ _ v' u' Q I rx ry ⟨_,_,rfl,rfl,q⟩
 |le=>obtain⟨i,j,rfl,rfl⟩:=jc (.inr (.inl rfl)) e;cases e;rw[VR]at hv;rw[VR]at hw;subst hv;subst hw;exact OF pins s σ H _ _ v' u' Q I rx ry ⟨_,_,rfl,rfl,q⟩
 |gt=>obtain⟨i,j,rfl,rfl⟩:=jc (.inr (.inr (.inl rfl))) e;cases e;rw[VR]at hv;rw[VR]at hw;subst hv;subst hw;exact OG pins s σ H _ _ v' u' Q I rx ry ⟨_,_,rfl,rfl,q⟩
 |ge=>obtain⟨i,j,rfl,rfl⟩:=jc (.inr (.inr (.inr rfl))) e;cases e;rw[VR]at hv;rw[VR]at hw;subst hv;subst hw;exact OH pins s σ H _ _ v' u' Q I rx ry ⟨_,_,rfl,rfl,q⟩
 |isn=>
  have e:Js v w=some b:=e;cases w<;>first|(cases e;done)|skip
  ·cases e;rw[VR]at hw;subst hw;refine Kq pins s σ H x _ v' u' Q I rx ry ⟨rfl,?_⟩;rw[zF hv];exact q
  ·cases v<;>first|(cases e;done)|skip
   cases e;rw[VR]at hv;rw[VR]at hw;subst hv;subst hw;exact KS pins s σ H _ _ v' u' Q I rx ry ⟨_,_,rfl,rfl,q⟩
 |ntn=>
  have e:(Js v w).map (!·)=some b:=e;cases w<;>first|(cases e;done)|skip
  ·cases e;rw[VR]at hw;subst hw;refine FH pins s σ H x _ v' u' Q I rx ry ⟨rfl,?_⟩;rw[zF hv];exact q
  ·cases v<;>first|(cases e;done)|skip
   cases e;rw[VR]at hv;rw[VR]at hw;subst hv;subst hw;exact Gn pins s σ H _ _ v' u' Q I rx ry ⟨_,_,rfl,rfl,q⟩
 |xK=>exact mem false (by rw[aac Z3];exact e)
 |nin=>have e':(uD h v w).map (!·)=some b:=e;obtain⟨c,e3,rfl⟩:=aaw.mp e';exact mem true (by rw[e3];simp)
theorem Lf{b:Bool}(r:HR B ρ h H)(q:VR B.K ρ H v x)(e:c8 h v=some b):Kr B.K x H b:=by
 cases v with
 |non=>rw[VR]at q;subst q;exact(aaq e).symm
 |bl c=>rw[VR]at q;subst q;exact(aaq e).symm
 |int i=>rw[VR]at q;subst q;exact(aaq e).symm
 |str z=>
  rw[VR]at q;subst q;simp only[c8]at e;split at e
  ·rename_i hl;exact⟨hl,(aaq e).symm⟩
  ·cases e
 |tup vs=>rw[VR]at q;obtain⟨a,xs,rfl,q1,q2⟩:=q;refine .inr (.inl ⟨xs,q1,?_⟩);rw[<-aaq e];have:=q2.length;cases vs<;>cases xs<;>simp_all
 |rl vs=>rw[VR]at q;obtain⟨a,xs,rfl,q1,q2⟩:=q;refine .inl ⟨xs,q1.sq,?_⟩;rw[<-aaq e];have:=q2.length;cases vs<;>cases xs<;>simp_all
 |dc _ _=>rw[VR]at q;exact q.elim
 |ob _ _ _=>rw[VR]at q;exact q.elim
 |ref i=>
  rw[VR]at q;obtain⟨a,rfl,q1⟩:=q;simp only[c8]at e;split at e
  ·rename_i vs e1;obtain⟨xs,k1,k2⟩:=r.ob i _ a e1 q1;refine .inl ⟨xs,.inl (.inl k1),?_⟩;rw[<-aaq e];have:=k2.length;cases vs<;>cases xs<;>simp_all
  ·rename_i vs e1;obtain⟨xs,k1,k2⟩:=r.ob i _ a e1 q1;refine .inr (.inr ⟨xs,k1,?_⟩);rw[<-aaq e];have:=k2.length;cases vs<;>cases xs<;>simp_all
  ·cases e
def Uk(B:Bd):R2:=λx y H Q=>∃ρ h v w z,HR B ρ h H/\VR B.K ρ H v x/\VR B.K ρ H w y/\gC h v w=some z/\∀u,VR B.K ρ H z u->Q u H
theorem Lg(hu:X.A.units+64<cLine):NV X (Uk (bd X cl)):=by
 intro value slice pins s σ H x y v' u' Q I rx ry hh hs;obtain⟨ρ,h,v,w,z,r,hv,hw,e,q⟩:=hh;cases v with
 |str t=>
  cases w<;>first|cases e|skip
  rename_i i;change (if t.length<=sizeLine then (jU t.cps.toList i).map (λc=>Val.str ⟨[c].toArray⟩) else none)=some z at e;split at e
  ·rename_i hl;obtain⟨c,e1,rfl⟩:=aaw.mp e;rw[VR]at hv;rw[VR]at hw;subst hv;subst hw;exact KA value slice pins s σ H _ _ v' u' Q I rx ry ⟨t,i,c,rfl,rfl,hl,e1,q _ VR.str⟩ hs
  ·cases e
 |tup vs=>
  cases w<;>first|cases e|skip
  rename_i i;rw[VR]at hv;rw[VR]at hw;subst hw;obtain⟨a,xs,rfl,q1,q2⟩:=hv;obtain⟨t,e2,q3⟩:=av.jU q2 e;exact Kz value slice pins s σ H _ _ v' u' Q I rx ry ⟨a,xs,i,t,rfl,rfl,q1,e2,q _ q3⟩ hs
 |rl vs=>
  cases w<;>first|cases e|skip
  rename_i i;rw[VR]at hv;rw[VR]at hw;subst hw;obtain⟨a,xs,rfl,q1,q2⟩:=hv;obtain⟨t,e2,q3⟩:=av.jU q2 e;exact ze value slice pins s σ H _ _ v' u' Q I rx ry ⟨a,xs,i,t,rfl,rfl,q1.sq,e2,q _ q3⟩ hs
 |ref j=>
  cases w with
  |int i=>
   change (match h[j]? with|some (.dct kvs)=>dR kvs (.inl i)|_=>(aF h (.ref j)).bind λxs=>jU xs i)=some z at e;split at e
   ·rename_i kvs e1;rw[VR]at hv;obtain⟨a,rfl,q1⟩:=hv;obtain⟨ks,k1,k2⟩:=r.ob j _ a e1 q1;obtain⟨t,e2,q3⟩:=(gR.val (.inl i) k2).2 z e;have g:mU H a (kV (.inl i)) (gP ks (.inl i)):=mU.k k1;rw[e2]at g;rw[VR]at hw;subst hw;exact zG hu value slice pins s σ H _ _ v' u' Q I rx ry ⟨a,t,rfl,g,q _ q3⟩ hs
   ·obtain⟨vs,e1,e⟩:=Z5.mp e;obtain⟨a,xs,rfl,q1,q2⟩:=dS r hv e1;rw[VR]at hw;subst hw;obtain⟨t,e2,q3⟩:=av.jU q2 e;exact ze value slice pins s σ H _ _ v' u' Q I rx ry ⟨a,xs,i,t,rfl,rfl,q1,e2,q _ q3⟩ hs
  |str y=>
   change (match h[j]? with|some (.dct kvs)=>dR kvs (.inr y)|_=>none)=some z at e;split at e
   ·rename_i kvs e1;rw[VR]at hv;obtain⟨a,rfl,q1⟩:=hv;obtain⟨ks,k1,k2⟩:=r.ob j _ a e1 q1;obtain⟨t,e2,q3⟩:=(gR.val (.inr y) k2).2 z e;have g:mU H a (kV (.inr y)) (gP ks (.inr y)):=mU.k k1;rw[e2]at g;rw[VR]at hw;subst hw;exact zG hu value slice pins s σ H _ _ v' u' Q I rx ry ⟨a,t,rfl,g,q _ q3⟩ hs
   ·cases e
  |_=>cases e
 |dc _ _=>rw[VR]at hv;exact hv.elim
 |_=>cases w<;>cases e
def XM(B:Bd)(EX:Nat->List V->Hp->Prop):V->Option Int->Option Int->Hp->VK->Prop:=λx lo hi H Q=>∃ρ h v,HR B ρ h H/\VR B.K ρ H v x/\Post B EX ρ H (WV B.K Q) (rD v lo hi h)
theorem Lh:Se X (XM (bd X cl) EX):=by
 intro pins s σ H x v' vl vu lo hi sl Q I rx hs pl pu hh;obtain⟨ρ,h,v,r,hv,p⟩:=hh;have lists:Post (bd X cl) EX ρ H (WV X.K Q) (bnd (ask λh=>aF h v) (λxs=>new (.lst (dM xs lo hi))) h)->∃T id,typeLookup (.type T) "__getitem__" = pure (some (.builtin id))/\s.TypeIs v' T/\wpAny (model X.prog X.w) X.A (getItem v' (.ref sl)) (EP X pins σ Q) X.xe s:=by intro p;obtain⟨a,e1,p⟩:=aE p;obtain⟨a1,Pc,rfl,k1,k2⟩:=dS r hv e1;exact FT pins s σ H _ v' vl vu lo hi sl Q I rx hs pl pu ⟨a1,Pc,rfl,k1,λq hq=>dF r hq (av.cut lo hi k2) p⟩
 cases v with
 |tup vs=>simp only[rD]at p;rw[VR]at hv;obtain⟨a,xs,rfl,q1,q2⟩:=hv;obtain⟨e,p⟩:=aJ p;refine Ky pins s σ H _ v' vl vu lo hi sl Q I rx hs pl pu ⟨a,xs,rfl,q1,?_,λq hq=>lO r hq (av.cut lo hi q2) p⟩;rw[<-q2.length];simp only[not_eq_true',Bool.and_eq_false_iff,decide_eq_false_iff_not]at e;rintro⟨z1,z2⟩;exact e.elim (λk=>k z1) λk=>k z2
 |_=>exact lists p
end
end Hv
end
section
set_option backward.match.sparseCases false
namespace Hv
open PySem L2 PyProof.Rows
section
variable {X:Cx} {cl:Nat->Addr} {EX:Nat->List V->Hp->Prop}
def Fo(B:Bd)(EX:Nat->List V->Hp->Prop)(b:Bl):List V->Hp->VK->Prop:=λxs H Q=>∃ρ h vs,HR B ρ h H/\av B.K ρ H vs xs/\Post B EX ρ H (WV B.K Q) (blt b vs h)
theorem Li:bR X (.builtin "len") (Fo (bd X cl) EX .len):=by
 intro pins s σ H xs us Q I rr hh;obtain⟨ρ,h,vs,r,hv,p⟩:=hh
 match vs,p with
 |[v],p=>
  obtain⟨n,e,p⟩:=aE p;obtain⟨x,rfl,hx⟩:=av.one hv;have fin:=aj r p _ VR.int;cases v with
  |str z=>
   simp only[lJ]at e;split at e
   ·rename_i hl;cases e;rw[VR]at hx;subst hx;exact L2.kY pins s σ H _ us Q I rr ⟨_,z.length,rfl,⟨hl,rfl⟩,fin⟩
   ·cases e
  |tup vs=>simp only[lJ]at e;cases e;rw[VR]at hx;obtain⟨a,ys,rfl,q1,q2⟩:=hx;refine L2.kY pins s σ H _ us Q I rr ⟨_,ys.length,rfl,.inr ⟨ys,q1,rfl⟩,?_⟩;rw[<-q2.length];exact fin
  |rl vs=>simp only[lJ]at e;cases e;rw[VR]at hx;obtain⟨a,ys,rfl,q1,q2⟩:=hx;refine L2.kY pins s σ H _ us Q I rr ⟨_,ys.length,rfl,.inl ⟨ys,q1.sq,rfl⟩,?_⟩;rw[<-q2.length];exact fin
  |dc _ _=>rw[VR]at hx;exact hx.elim
  |ob _ _ _=>rw[VR]at hx;exact hx.elim
  |ref i=>
   rw[VR]at hx;obtain⟨a,rfl,q1⟩:=hx;simp only[lJ]at e;split at e
   ·rename_i vs e1;cases e;obtain⟨ys,k1,k2⟩:=r.ob i _ a e1 q1;refine L2.kY pins s σ H _ us Q I rr ⟨_,ys.length,rfl,.inl ⟨ys,.inl (.inl k1),rfl⟩,?_⟩;rw[<-k2.length];exact fin
   ·rename_i vs e1;cases e;obtain⟨ks,k1,k2⟩:=r.ob i _ a e1 q1;refine AS pins s σ H _ us Q I rr ⟨a,ks,rfl,k1,?_⟩;rw[<-k2.length];exact fin
   ·cases e
  |_=>simp only[lJ]at e;cases e
theorem Lj(hc:X.calm=true):bR X (.builtin "min") (Fo (bd X cl) EX .min):=by
 intro pins s σ H xs us Q I rr hh;obtain⟨ρ,h,vs,r,hv,p⟩:=hh;have seq:∀v,vs=[v]->Post (bd X cl) EX ρ H (WV X.K Q) (bnd (ask λh=>cI h v) (λxs=>aZ ((aW xs).bind uz)) h)->wpAny (model X.prog X.w) X.A (call (.builtin "min") us) (EP X pins σ Q) X.xe s:=by
  rintro v rfl p;obtain⟨zs,e,p⟩:=aE p;obtain⟨x,rfl,hx⟩:=av.one hv;obtain⟨a,ys,rfl,q1,q2⟩:=uE r hx e;obtain⟨m,e1,p⟩:=cF r p;obtain⟨ns,e2,e3⟩:=Z5.mp e1;rw[eG e2]at q2;rw[av.ints.mp q2]at q1;have hne:0<ns.length:=by cases ns with|nil=>cases e3|cons _ _=>simp
  refine uq hc pins s σ H _ us Q I rr ⟨a,ns,rfl,q1,hne,λm hm hmin=>?_⟩;rw[Bq hm hmin]at e3;cases e3;exact p _ VR.int
 match vs,p with
 |[.int a,.int b],p=>obtain⟨x,y,rfl,hx,hy⟩:=av.two hv;rw[VR]at hx;rw[VR]at hy;subst hx;subst hy;exact AH hc pins s σ H _ us Q I rr ⟨a,b,rfl,aj r p _ VR.int⟩
 |[v],p=>exact seq v rfl (by cases v<;>exact p)
theorem Lk(hc:X.calm=true):bR X (.builtin "max") (Fo (bd X cl) EX .max):=by
 intro pins s σ H xs us Q I rr hh;obtain⟨ρ,h,vs,r,hv,p⟩:=hh;have seq:∀v,vs=[v]->Post (bd X cl) EX ρ H (WV X.K Q) (bnd (ask λh=>cI h v) (λxs=>aZ ((aW xs).bind uC)) h)->wpAny (model X.prog X.w) X.A (call (.builtin "max") us) (EP X pins σ Q) X.xe s:=by
  rintro v rfl p;obtain⟨zs,e,p⟩:=aE p;obtain⟨x,rfl,hx⟩:=av.one hv;obtain⟨a,ys,rfl,q1,q2⟩:=uE r hx e;obtain⟨m,e1,p⟩:=cF r p;obtain⟨ns,e2,e3⟩:=Z5.mp e1;rw[eG e2]at q2;rw[av.ints.mp q2]at q1;have hne:0<ns.length:=by cases ns with|nil=>cases e3|cons _ _=>simp
  refine ur hc pins s σ H _ us Q I rr ⟨a,ns,rfl,q1,hne,λm hm hmin=>?_⟩;rw[Br hm hmin]at e3;cases e3;exact p _ VR.int
 match vs,p with
 |[.int a,.int b],p=>obtain⟨x,y,rfl,hx,hy⟩:=av.two hv;rw[VR]at hx;rw[VR]at hy;subst hx;subst hy;exact AG hc pins s σ H _ us Q I rr ⟨a,b,rfl,aj r p _ VR.int⟩
 |[v],p=>exact seq v rfl (by cases v<;>exact p)
theorem Bt:bR X (.builtin "sorted") (Fo (bd X cl) EX .sorted):=by
 intro pins s σ H xs us Q I rr hh;obtain⟨ρ,h,vs,r,hv,p⟩:=hh
 match vs,p with
 |[v],p=>
  obtain⟨zs,e,p⟩:=aE p;obtain⟨out,e1,p⟩:=bS p;obtain⟨x,rfl,hx⟩:=av.one hv;obtain⟨a,ys,rfl,q1,q2⟩:=dS r hx e;unfold fY at e1;split at e1
  ·rename_i h64
   cases e2:aW zs with
   |some ns=>rw[e2]at e1;cases e1;rw[eG e2]at q2 h64;rw[av.ints.mp q2]at q1;rw[Z8]at h64;exact mW pins s σ H _ us Q I rr ⟨a,ns,rfl,q1,h64,λl hl=>dF r hl (av.ints.mpr rfl) p⟩
   |none=>rw[e2]at e1;obtain⟨oY,e3,e4⟩:=Z5.mp e1;cases e4;obtain⟨g1,g2⟩:=sL e3;rw[g1]at q2 h64;obtain⟨rs,r1,r2,r3⟩:=av.tups q2;rw[r1]at q1;rw[Z8,r2,Z8]at h64;refine mX pins s σ H _ us Q I rr ⟨a,rs,rfl,q1,h64,λp hp=>⟨r3 p hp,g2 _ (by rw[r2];exact List.mem_map_of_mem hp)⟩,λl qs hl hp hs=>?_⟩;have e4:qs.map (·.2)=lI oY:=C8 (by rw[r2];exact hp.map _) (ab1.mpr hs);rw[<-e4]at p;exact dF r hl (av.zB λz hz=>r3 z (hp.mem_iff.mp hz)) p
  ·cases e1
theorem GG:bR X (.type "list") (Fo (bd X cl) EX .list):=by
 intro pins s σ H xs us Q I rr hh;obtain⟨ρ,h,vs,r,hv,p⟩:=hh
 match vs,p with
 |[v],p=>obtain⟨zs,e,p⟩:=aE p;obtain⟨x,rfl,hx⟩:=av.one hv;obtain⟨a,ys,rfl,q1,q2⟩:=uE r hx e;exact uf pins s σ H _ us Q I rr ⟨a,ys,rfl,q1,λl hl=>dF r hl q2 p⟩
theorem De:bR X (.type "tuple") (Fo (bd X cl) EX .tuple):=by
 intro pins s σ H xs us Q I rr hh;obtain⟨ρ,h,vs,r,hv,p⟩:=hh
 match vs,p with
 |[v],p=>
  obtain⟨zs,e,p⟩:=aE p;obtain⟨x,rfl,hx⟩:=av.one hv;obtain⟨a,ys,rfl,q1,q2⟩:=uE r hx e
  rcases q1 with q1|q1
  ·exact j9 pins s σ H _ us Q I rr ⟨a,ys,rfl,.inl ⟨q1,λl hl=>lO r hl q2 p⟩⟩
  ·exact j9 pins s σ H _ us Q I rr ⟨a,ys,rfl,.inr ⟨q1,aj r p _ (VR.tup q1 q2)⟩⟩
theorem Ll:bR X (.type "str") (Fo (bd X cl) EX .str):=by
 intro pins s σ H xs us Q I rr hh;obtain⟨ρ,h,vs,r,hv,p⟩:=hh
 match vs,p with
 |[.int i],p=>obtain⟨e,p⟩:=aJ p;obtain⟨x,rfl,hx⟩:=av.one hv;rw[VR]at hx;subst hx;exact t8 pins s σ H _ us Q I rr ⟨i,rfl,aav e,aj r p _ VR.str⟩
theorem Lm:bR X (.type "int") (Fo (bd X cl) EX .int):=by
 intro pins s σ H xs us Q I rr hh;obtain⟨ρ,h,vs,r,hv,p⟩:=hh
 match vs,p with
 |[.int i],p=>obtain⟨x,rfl,hx⟩:=av.one hv;rw[VR]at hx;subst hx;exact rN pins s σ H _ us Q I rr (.inl ⟨i,rfl,aj r p _ VR.int⟩)
 |[.bl i],p=>obtain⟨x,rfl,hx⟩:=av.one hv;rw[VR]at hx;subst hx;exact rN pins s σ H _ us Q I rr (.inr ⟨i,rfl,aj r p _ VR.int⟩)
theorem Lo(hc:X.calm=true):bR X (.builtin "all") (Fo (bd X cl) EX .all):=by
 intro pins s σ H xs us Q I rr hh;obtain⟨ρ,h,vs,r,hv,p⟩:=hh
 match vs,p with
 |[v],p=>obtain⟨zs,e,p⟩:=aE p;obtain⟨bs,e1,p⟩:=bS p;obtain⟨x,rfl,hx⟩:=av.one hv;obtain⟨a,ys,rfl,q1,q2⟩:=dS r hx e;rw[kG e1]at q2;rw[av.bools.mp q2]at q1;exact qY hc pins s σ H _ us Q I rr ⟨a,bs,rfl,q1,aj r p _ VR.bl⟩
theorem Lp(hc:X.calm=true):bR X (.builtin "any") (Fo (bd X cl) EX .any):=by
 intro pins s σ H xs us Q I rr hh;obtain⟨ρ,h,vs,r,hv,p⟩:=hh
 match vs,p with
 |[v],p=>obtain⟨zs,e,p⟩:=aE p;obtain⟨bs,e1,p⟩:=bS p;obtain⟨x,rfl,hx⟩:=av.one hv;obtain⟨a,ys,rfl,q1,q2⟩:=dS r hx e;rw[kG e1]at q2;rw[av.bools.mp q2]at q1;exact qZ hc pins s σ H _ us Q I rr ⟨a,bs,rfl,q1,aj r p _ VR.bl⟩
def XO(B:Bd)(EX:Nat->List V->Hp->Prop)(T:String):List V->Hp->VK->Prop:=λxs H Q=>∃ρ h v x,xs=[x,.ty T]/\HR B ρ h H/\VR B.K ρ H v x/\Post B EX ρ H (WV B.K Q) (blt (.isin T) [v] h)
theorem GH(K:Frag)(t T:String)(ht:t∈["NoneType","bool","int","str","list","tuple","dict"])(hT:T∈["list","tuple","str","bool","int","dict"]) :
  kitOne K (.type t) (.type T)=some (decide (T=t\/(T = "int" /\ t = "bool"))):=by
 simp only[mem_cons,not_mem_nil,or_false]at ht hT
 rcases ht with rfl|rfl|rfl|rfl|rfl|rfl|rfl<;>rcases hT with rfl|rfl|rfl|rfl|rfl|rfl<;>rfl
theorem GI{T:String}:bR X (.builtin "isinstance") (XO (bd X cl) EX T):=by
 intro pins s σ H xs us Q I rr hh;obtain⟨ρ,h,v,x,rfl,r,hx,p⟩:=hh;obtain⟨u,w',rfl,r1,r2⟩:=vals2 rr;cases r2;obtain⟨t,e,p⟩:=aE p;obtain⟨b,e1,p⟩:=bS p;have q:=aj r p _ VR.bl;unfold vX at e1;split at e1
 ·rename_i XQ
  have hT:T∈["list","tuple","str","bool","int","dict"]:=by simpa using XQ
  cases e1;have fin:∀tk,EP X pins σ Q (.bool (decide (T=t\/(T = "int" /\ t = "bool")))) { s with toks:=tk }:=λtk=>⟨.bl _,H,I.tok _,rfl,q⟩;have tab:=λht=>GH X.K t T ht hT;cases v with
  |non=>rw[VR]at hx;subst hx;cases r1;simp only[vW]at e;cases e;exact aa1 PySem.W.kitx_none I.iM abf (tab (by simp)) (λz=>nomatch z) fin
  |bl c=>rw[VR]at hx;subst hx;cases r1;simp only[vW]at e;cases e;exact aa1 PySem.W.kitx_bool I.iM abf (tab (by simp)) (λz=>nomatch z) fin
  |int i=>rw[VR]at hx;subst hx;obtain⟨t',rfl⟩:=r1;simp only[vW]at e;cases e;exact aa1 PySem.W.kitx_int I.iM abf (tab (by simp)) (λz=>nomatch z) fin
  |str i=>rw[VR]at hx;subst hx;obtain⟨t',rfl⟩:=r1;simp only[vW]at e;cases e;exact aa1 PySem.W.kitx_str I.iM abf (tab (by simp)) (λz=>nomatch z) fin
  |tup vs=>rw[VR]at hx;obtain⟨a,ys,rfl,q1,_⟩:=hx;cases r1;simp only[vW]at e;cases e;obtain⟨_,_,⟨o,e1,e2,_⟩,_⟩:=I.tuple q1;exact aa1 PySem.W.kitx_tuple I.iM ⟨o,e1,e2⟩ (tab (by simp)) (λz=>nomatch z) fin
  |rl vs=>rw[VR]at hx;obtain⟨a,ys,rfl,q1,_⟩:=hx;cases r1;simp only[vW]at e;cases e;obtain⟨_,_,⟨o,n,e1,e2,_⟩,_⟩:=I.list q1.sq;exact aa1 kitx_list I.iM ⟨o,e1,e2⟩ (tab (by simp)) (λz=>nomatch z) fin
  |dc _ _=>rw[VR]at hx;exact hx.elim
  |ob _ _ _=>rw[VR]at hx;exact hx.elim
  |ref i=>
   rw[VR]at hx;obtain⟨a,rfl,q1⟩:=hx;cases r1;simp only[vW]at e;split at e
   ·rename_i vs e1;cases e;obtain⟨ys,k1,k2⟩:=r.ob i _ a e1 q1;obtain⟨_,_,⟨o,n,e1,e2,_⟩,_⟩:=I.list (xs:=ys) (.inl (.inl k1));exact aa1 kitx_list I.iM ⟨o,e1,e2⟩ (tab (by simp)) (λz=>nomatch z) fin
   ·rename_i vs e1;cases e;obtain⟨ks,k1,k2⟩:=r.ob i _ a e1 q1;obtain⟨_,_,vs,_,p⟩:=(show bF X.prog X.w H s.heap a (.dK ks) from I.hok a _ k1);obtain⟨o,es,ep,h1,h2,_⟩:=p;exact aa1 PySem.W.kitx_dict I.iM ⟨o,h1,h2.1⟩ (tab (by simp)) (λz=>nomatch z) fin
   ·cases e
 ·cases e1
def Pd(B:Bd)(EX:Nat->List V->Hp->Prop)(m:Me):V->List V->Hp->VK->Prop:=λx xs H Q=>∃ρ h v vs,HR B ρ h H/\VR B.K ρ H v x/\av B.K ρ H vs xs/\Post B EX ρ H (WV B.K Q) (met m v vs h)
theorem GJ:NW X "str.join" (Pd (bd X cl) EX .join):=by
 intro pins s σ H x xs u us Q I ru rr hh;obtain⟨ρ,h,v,vs,r,hv,hvs,p⟩:=hh;exact(show False from p).elim
theorem qb{i:Nat}(r:HR B ρ h H)(hi:ρ[i]?=some a)(e:h[i]?=some u)(eU:H a=some U)(hm:Mu U=true)(q:OR B ρ (upd H a O) a o)
  (p:Post B EX ρ H (WV B.K Q) (bnd (put i o) (λ_=>ret Val.non) h)):Q .non (upd H a O) :=
 p ρ (upd H a O) (Gr.put (aat hi) eU hm) (r.put hi e q) _ VR.non
theorem Bu:NW X "list.append" (Pd (bd X cl) EX .append):=by
 intro pins s σ H x xs v' us Q I rx rv hh;obtain⟨ρ,h,v,vs,r,hv,hvs,p⟩:=hh
 match v,vs,p with
 |.ref i,[w],p=>
  obtain⟨zs,e,p⟩:=aE p;split at e
  ·rename_i zs' e1;cases e;obtain⟨e2,p⟩:=aJ p;obtain⟨a,ys,rfl,q0,q1,q2⟩:=jG r hv e1;obtain⟨y,rfl,hy⟩:=av.one hvs;refine rT pins s σ H _ _ v' us Q I rx rv ⟨a,ys,y,rfl,rfl,q1,by rw[<-q2.length];exact aav e2,?_⟩;have g:Gr ρ H ρ (upd H a (.lst (ys++[y]))):=Gr.put (aat q0) q1 rfl;exact qb (o:=.lst (zs++[w])) r q0 e1 q1 rfl ⟨_,au,av.append (av.up g _ _ q2) (av.up g _ _ (av.cons hy av.nil))⟩ p
  ·cases e
theorem Bv:NW X "list.extend" (Pd (bd X cl) EX .extend):=by
 intro pins s σ H x xs v' us Q I rx rv hh;obtain⟨ρ,h,v,vs,r,hv,hvs,p⟩:=hh
 match v,vs,p with
 |.ref i,[w],p=>
  obtain⟨zs,e,p⟩:=aE p;split at e
  ·rename_i zs' e1;cases e
   obtain⟨ws,e3,p⟩:=aE p;obtain⟨e2,p⟩:=aJ p;have e2:=aav e2;obtain⟨a,ys,rfl,q0,q1,q2⟩:=jG r hv e1;obtain⟨y,rfl,hy⟩:=av.one hvs;have fin:∀(bs:List V),av X.K ρ H ws bs->Q .non (upd H a (.lst (ys++bs))):=λbs hb=>by
    have g:Gr ρ H ρ (upd H a (.lst (ys++bs))):=Gr.put (aat q0) q1 rfl;exact qb (o:=.lst (zs++ws)) r q0 e1 q1 rfl ⟨_,au,av.append (av.up g _ _ q2) (av.up g _ _ hb)⟩ p
   cases w with
   |tup ts=>simp only[vV]at e3;cases e3;rw[VR]at hy;obtain⟨b,bs,rfl,k1,k2⟩:=hy;exact yg pins s σ H _ _ v' us Q I rx rv ⟨a,b,ys,bs,rfl,rfl,q1,k1,by rw[<-q2.length,<-k2.length];exact e2,fin bs k2⟩
   |ref j=>
    simp only[vV,aF]at e3;split at e3
    ·rename_i ts e4;cases e3;obtain⟨b,bs,rfl,k0,k1,k2⟩:=jG r hy e4;exact AL pins s σ H _ _ v' us Q I rx rv ⟨a,b,ys,bs,rfl,rfl,q1,k1,by rw[<-q2.length,<-k2.length];exact e2,fin bs k2⟩
    ·cases e3
   |_=>simp only[vV]at e3;cases e3
  ·cases e
theorem av.era{K:Frag}{ρ:List Addr}{H:Hp}:∀{vs:List Val} {xs:List V} (n:Nat),av K ρ H vs xs->av K ρ H (vs.eraseIdx n) (xs.eraseIdx n)
 |[],_,n,e=>by rw[av]at e;subst e;exact av.nil
 | _::_,_,n,e=>by
  rw[av]at e;obtain⟨x,r,rfl,e1,e2⟩:=e;cases n with
  |zero=>exact e2
  |succ n=>exact av.cons e1 (av.era n e2)
theorem Bw:NW X "list.remove" (Pd (bd X cl) EX .remove):=by
 intro pins s σ H x xs v' us Q I rx rv hh;obtain⟨ρ,h,v,vs,r,hv,hvs,p⟩:=hh
 match v,vs,p with
 |.ref i,[.int k],p=>
  obtain⟨zs,e,p⟩:=aE p;split at e
  ·rename_i zs' e1;cases e;obtain⟨ks,e3,p⟩:=bS p;obtain⟨e2,p⟩:=aJ p;have e3:=eG e3;subst e3;obtain⟨a,ys,rfl,q0,q1,q2⟩:=jG r hv e1;have hys:=av.ints.mp q2;subst hys;obtain⟨y,rfl,hy⟩:=av.one hvs;rw[VR]at hy;subst hy;refine Bf pins s σ H _ _ v' us Q I rx rv ⟨a,ks,k,rfl,rfl,q1,aav e2,?_⟩;have g:Gr ρ H ρ (upd H a (.lst ((ks.map V.int).eraseIdx (ks.idxOf k)))):=Gr.put (aat q0) q1 rfl;exact qb (o:=.lst ((ks.map Val.int).eraseIdx (ks.idxOf k))) r q0 e1 q1 rfl ⟨_,au,av.era _ (av.up g _ _ q2)⟩ p
  ·cases e
end
def lU(f:Str->Pos->Bool):Expr->Bool
 |.Name a b=>f a b
 |_=>false
theorem o4{f:Str->Pos->Bool}{P:Expr->Prop}{e:Expr}(h:lU f e=true)(H:∀a b,f a b=true->P (.Name a b)):P e:=by
 cases e<;>first|exact H _ _ h|exact(Z3 h).elim
def yv(f:Const->Nat->Pos->Bool):Expr->Bool
 |.Constant a b c=>f a b c
 |_=>false
theorem wc{f:Const->Nat->Pos->Bool}{P:Expr->Prop}{e:Expr}(h:yv f e=true)(H:∀a b c,f a b c=true->P (.Constant a b c)):P e:=by
 cases e<;>first|exact H _ _ _ h|exact(Z3 h).elim
def Pe(f:Expr->Operator->Expr->Pos->Bool):Expr->Bool
 |.BinOp a b c d=>f a b c d
 |_=>false
theorem Lq{f:Expr->Operator->Expr->Pos->Bool}{P:Expr->Prop}{e:Expr}(h:Pe f e=true)(H:∀a b c d,f a b c d=true->P (.BinOp a b c d)):P e:=by
 cases e<;>first|exact H _ _ _ _ h|exact(Z3 h).elim
def Ul(f:UnaryOp->Expr->Pos->Bool):Expr->Bool
 |.UnaryOp a b c=>f a b c
 |_=>false
theorem Jv{f:UnaryOp->Expr->Pos->Bool}{P:Expr->Prop}{e:Expr}(h:Ul f e=true)(H:∀a b c,f a b c=true->P (.UnaryOp a b c)):P e:=by
 cases e<;>first|exact H _ _ _ h|exact(Z3 h).elim
def Lr(f:Expr->List CmpOp->List Expr->Pos->Bool):Expr->Bool
 |.Compare a b c d=>f a b c d
 |_=>false
theorem Df{f:Expr->List CmpOp->List Expr->Pos->Bool}{P:Expr->Prop}{e:Expr}(h:Lr f e=true)(H:∀a b c d,f a b c d=true->P (.Compare a b c d)):P e:=by
 cases e<;>first|exact H _ _ _ _ h|exact(Z3 h).elim
def uF(f:BoolOp->List Expr->Pos->Bool):Expr->Bool
 |.BoolOp a b c=>f a b c
 |_=>false
theorem sM{f:BoolOp->List Expr->Pos->Bool}{P:Expr->Prop}{e:Expr}(h:uF f e=true)(H:∀a b c,f a b c=true->P (.BoolOp a b c)):P e:=by
 cases e<;>first|exact H _ _ _ h|exact(Z3 h).elim
def Pf(f:List Expr->Nat->Pos->Bool):Expr->Bool
 |.Tuple a b c=>f a b c
 |_=>false
theorem Ls{f:List Expr->Nat->Pos->Bool}{P:Expr->Prop}{e:Expr}(h:Pf f e=true)(H:∀a b c,f a b c=true->P (.Tuple a b c)):P e:=by
 cases e<;>first|exact H _ _ _ h|exact(Z3 h).elim
def Pg(f:List Expr->Pos->Bool):Expr->Bool
 |.List a b=>f a b
 |_=>false
theorem Lu{f:List Expr->Pos->Bool}{P:Expr->Prop}{e:Expr}(h:Pg f e=true)(H:∀a b,f a b=true->P (.List a b)):P e:=by
 cases e<;>first|exact H _ _ h|exact(Z3 h).elim
def GK(f:Expr->Expr->Pos->Bool):Expr->Bool
 |.Subscript a b c=>f a b c
 |_=>false
theorem yw{f:Expr->Expr->Pos->Bool}{P:Expr->Prop}{e:Expr}(h:GK f e=true)(H:∀a b c,f a b c=true->P (.Subscript a b c)):P e:=by
 cases e<;>first|exact H _ _ _ h|exact(Z3 h).elim
def Ph(f:Option Expr->Option Expr->Option Expr->Pos->Bool):Expr->Bool
 |.Slice a b c d=>f a b c d
 |_=>false
theorem Lw{f:Option Expr->Option Expr->Option Expr->Pos->Bool}{P:Expr->Prop}{e:Expr}(h:Ph f e=true)(H:∀a b c d,f a b c d=true->P (.Slice a b c d)):P e:=by
 cases e<;>first|exact H _ _ _ _ h|exact(Z3 h).elim
def Dg(f:Expr->List Expr->List Keyword->Pos->Bool):Expr->Bool
 |.Call a b c d=>f a b c d
 |_=>false
theorem zH{f:Expr->List Expr->List Keyword->Pos->Bool}{P:Expr->Prop}{e:Expr}(h:Dg f e=true)(H:∀a b c d,f a b c d=true->P (.Call a b c d)):P e:=by
 cases e<;>first|exact H _ _ _ _ h|exact(Z3 h).elim
def Dh(f:Expr->Str->Pos->Bool):Expr->Bool
 |.Attribute a b c=>f a b c
 |_=>false
theorem zJ{f:Expr->Str->Pos->Bool}{P:Expr->Prop}{e:Expr}(h:Dh f e=true)(H:∀a b c,f a b c=true->P (.Attribute a b c)):P e:=by
 cases e<;>first|exact H _ _ _ h|exact(Z3 h).elim
def Jw(f:Expr->List Comprehension->Scope->Pos->Bool):Expr->Bool
 |.ListComp a b c d=>f a b c d
 |_=>false
theorem GL{f:Expr->List Comprehension->Scope->Pos->Bool}{P:Expr->Prop}{e:Expr}(h:Jw f e=true)(H:∀a b c d,f a b c d=true->P (.ListComp a b c d)):P e:=by
 cases e<;>first|exact H _ _ _ _ h|exact(Z3 h).elim
def Di(f:List (Option Expr)->List Expr->Pos->Bool):Expr->Bool
 |.Dict a b c=>f a b c
 |_=>false
theorem zK{f:List (Option Expr)->List Expr->Pos->Bool}{P:Expr->Prop}{e:Expr}(h:Di f e=true)(H:∀a b c,f a b c=true->P (.Dict a b c)):P e:=by
 cases e<;>first|exact H _ _ _ h|exact(Z3 h).elim
section
variable {α:Type} {f:α -> Bool} {g:α -> List α -> Bool} {P:List α -> Prop} {Q:Option α -> Prop} {l:List α} {b:Bool} {o:Option α}
def oH(l:List α)(b:Bool):Bool:=l.isEmpty&&b
theorem kH(h:oH l b=true)(H:b=true->P []):P l:=by
 cases l with
 |nil=>exact H h
 |cons _ _=>cases h
def kC(f:α -> List α -> Bool):List α -> Bool
 |a::r=>f a r
 |[]=>false
theorem yx(h:kC g l=true)(H:∀a r,g a r=true->P (a::r)):P l:=by
 cases l with
 |nil=>cases h
 |cons a r=>exact H a r h
def k1(f:α -> Bool):List α -> Bool:=kC λa r=>oH r (f a)
theorem oJ(h:k1 f l=true)(H:∀a,f a=true->P [a]):P l:=by
 apply yx h;intro a r h;apply kH h;intro h;exact H a h
def k2(f:α -> α -> Bool):List α -> Bool:=kC λa r=>k1 (f a) r
theorem GN{f:α -> α -> Bool}(h:k2 f l=true)(H:∀a b,f a b=true->P [a,b]):P l:=by
 apply yx h;intro a r h;apply oJ h;intro b h;exact H a b h
def Dj(l:Option α)(b:Bool):Bool:=l.isNone&&b
theorem zL(h:Dj o b=true)(H:b=true->Q none):Q o:=by
 cases o with
 |none=>exact H h
 |some _=>cases h
def zM(f:α -> Bool)(l:Option α):Bool:=l.any f
theorem uG(h:zM f o=true)(H:∀a,f a=true->Q (some a)):Q o:=by
 cases o with
 |none=>cases h
 |some a=>exact H a h
def Lx[DecidableEq α](a b:α)(c:Bool):Bool:=decide (a=b)&&c
theorem we[DecidableEq α]{P:α -> Prop}{a d:α}(h:Lx a d b=true)(H:b=true->P d):P a:=by
 rw[Lx,abe,abD]at h;rw[h.1];exact H h.2
end
def zN(f:Str->Pos->List Expr->Pos->Bool):Expr->Bool:=Dg λg l k p=>lU (λx q=>oH k (f x q l p)) g
theorem ko{f:Str->Pos->List Expr->Pos->Bool}{P:Expr->Prop}{e:Expr}(h:zN f e=true)(H:∀x q l p,f x q l p=true->P (.Call (.Name x q) l [] p)):P e:=by
 apply zH h;intro g l k p h;apply o4 h;intro x q h;apply kH h;intro h;exact H x q l p h
def Pj(f:Expr->Str->Pos->List Expr->Pos->Bool):Expr->Bool:=Dg λg l k p=>Dh (λo x q=>oH k (f o x q l p)) g
theorem Pk{f:Expr->Str->Pos->List Expr->Pos->Bool}{P:Expr->Prop}{e:Expr}(h:Pj f e=true)(H:∀o x q l p,f o x q l p=true->P (.Call (.Attribute o x q) l [] p)):P e:=by
 apply zH h;intro g l k p h;apply zJ h;intro o x q h;apply kH h;intro h;exact H o x q l p h
def Pn(f:Expr->Expr->List Expr->Int->Bool)(c:Comprehension):Bool:=f c.target c.iter c.ifs c.is_async
theorem Ly{f:Expr->Expr->List Expr->Int->Bool}{P:Comprehension->Prop}{c:Comprehension}(h:Pn f c=true)(H:∀a b d i,f a b d i=true->P ⟨a,b,d,i⟩):P c:=by
 cases c;exact H _ _ _ _ h
def Po(f:Str->Bool):Const->Bool
 |.str s=>f s
 |_=>false
theorem Lz{f:Str->Bool}{P:Const->Prop}{e:Const}(h:Po f e=true)(H:∀s,f s=true->P (.str s)):P e:=by
 cases e<;>first|exact H _ h|exact(Z3 h).elim
theorem V6{a b:Bool}(h:(a||b)=true):a=true\/b=true:=by
 cases a with
 |true=>exact .inl rfl
 |false=>exact .inr h
def Dk(f:Expr->Pos->Bool):Stmt->Bool
 |.Expr a b=>f a b
 |_=>false
theorem zO{f:Expr->Pos->Bool}{P:Stmt->Prop}{e:Stmt}(h:Dk f e=true)(H:∀a b,f a b=true->P (.Expr a b)):P e:=by
 cases e<;>first|exact H _ _ h|exact(Z3 h).elim
def LA(f:List Expr->Expr->Pos->Bool):Stmt->Bool
 |.Assign a b c=>f a b c
 |_=>false
theorem Dl{f:List Expr->Expr->Pos->Bool}{P:Stmt->Prop}{e:Stmt}(h:LA f e=true)(H:∀a b c,f a b c=true->P (.Assign a b c)):P e:=by
 cases e<;>first|exact H _ _ _ h|exact(Z3 h).elim
def Um(f:Expr->Operator->Expr->Pos->Bool):Stmt->Bool
 |.AugAssign a b c d=>f a b c d
 |_=>false
def V7(f:Expr->List Stmt->List Stmt->Pos->Bool):Stmt->Bool
 |.If a b c d=>f a b c d
 |_=>false
theorem Pp{f:Expr->List Stmt->List Stmt->Pos->Bool}{P:Stmt->Prop}{e:Stmt}(h:V7 f e=true)(H:∀a b c d,f a b c d=true->P (.If a b c d)):P e:=by
 cases e<;>first|exact H _ _ _ _ h|exact(Z3 h).elim
def Pq(f:Expr->Expr->List Stmt->List Stmt->Pos->Bool):Stmt->Bool
 |.For a b c d i=>f a b c d i
 |_=>false
theorem LB{f:Expr->Expr->List Stmt->List Stmt->Pos->Bool}{P:Stmt->Prop}{e:Stmt}(h:Pq f e=true)(H:∀a b c d i,f a b c d i=true->P (.For a b c d i)):P e:=by
 cases e<;>first|exact H _ _ _ _ _ h|exact(Z3 h).elim
def LC(f:Expr->List Stmt->List Stmt->Pos->Bool):Stmt->Bool
 |.While a b c d=>f a b c d
 |_=>false
def LD(f:Option Expr->Pos->Bool):Stmt->Bool
 |.Return a b=>f a b
 |_=>false
theorem Dm{f:Option Expr->Pos->Bool}{P:Stmt->Prop}{e:Stmt}(h:LD f e=true)(H:∀a b,f a b=true->P (.Return a b)):P e:=by
 cases e<;>first|exact H _ _ h|exact(Z3 h).elim
def GO(f:Str->List Expr->Bool):Stmt->Bool
 |.Raise (some (.Call (.Name x _) es [] _)) none _=>f x es
 |_=>false
theorem LF{f:Str->List Expr->Bool}{P:Stmt->Prop}{e:Stmt}(h:GO f e=true)(H:∀x p es cp pos,f x es=true->P (.Raise (some (.Call (.Name x p) es [] cp)) none pos)):P e:=by
 unfold GO at h;split at h
 ·exact H _ _ _ _ _ h
 ·cases h
def Uo(f:Nat->kQ->Bool):IE->Bool
 |.call j es=>f j es
 |_=>false
def Pu(f:Pos->Bool):Stmt->Bool
 |.Break a=>f a
 |_=>false
theorem LG{f:Pos->Bool}{P:Stmt->Prop}{e:Stmt}(h:Pu f e=true)(H:∀a,f a=true->P (.Break a)):P e:=by
 cases e<;>first|exact H _ h|exact(Z3 h).elim
def Pw(f:Pos->Bool):Stmt->Bool
 |.Continue a=>f a
 |_=>false
theorem LH{f:Pos->Bool}{P:Stmt->Prop}{e:Stmt}(h:Pw f e=true)(H:∀a,f a=true->P (.Continue a)):P e:=by
 cases e<;>first|exact H _ h|exact(Z3 h).elim
def Jx(f:Pos->Bool):Stmt->Bool
 |.Pass a=>f a
 |_=>false
theorem GP{f:Pos->Bool}{P:Stmt->Prop}{e:Stmt}(h:Jx f e=true)(H:∀a,f a=true->P (.Pass a)):P e:=by
 cases e<;>first|exact H _ h|exact(Z3 h).elim
end Hv
end
section
namespace Hv
open PySem L2 PyProof.Rows
structure Tb where
 nc:Nat
 Px:List Str
 GQ:List (Nat×Str×Nat)
 GR:List (Str×Str×Nat)
 isc:List (Str×List Bool)
structure qc where
 N:List Str
 sc:Scope
 fns:List (Str×Nat)
 cons:List (Str×Val)
 tb:Tb
def LI(sc:Scope)(x:Str):Bool:=(sc.names.lookup x==some .local||sc.names.lookup x==some .cell||sc.names.lookup x==some .free) && !(x==("__debug__":Str)) && !(x==("__classdict__":Str))
def qT(sc:Scope)(x:Str):Bool:=sc.names.lookup x==some .globalImplicit && !(x==("__debug__":Str)) && !(x==("__name__":Str))
def Dp:Const->Val->Bool
 |.none,.non=>true
 |.bool a,.bl b=>a==b
 |.int a,.int b=>a==b
 |.str a,.str b=>a==b
 |_,_=>false
def LJ(o:Jr)(op:Operator):Bool:=decide (op=C9 o)
def GS(o:K7)(op:CmpOp):Bool:=decide (op=nV o)
def Py:Bl->Str
 |.len=>"len" | .min=>"min" | .max=>"max" | .sorted=>"sorted" | .list=>"list" | .tuple=>"tuple" | .str=>"str" | .int=>"int" | .all=>"all" | .any=>"any" | .isin _=>"isinstance"
def noStar:Expr->Bool
 |.Starred ..=>false
 |_=>true
def o5:Expr->Bool
 |.Slice ..=>false
 |_=>true
def GU:Expr->Bool
 |.Name ..=>true|.Call ..=>true|.Subscript ..=>true|.List ..=>true|.Tuple ..=>true|.ListComp ..=>true|.Attribute ..=>true|.BinOp ..=>true
 |_=>false
def superB:Expr->Bool
 |.Call (.Name _ _) [] [] _=>false
 |_=>true
def Jy(scope xsc:Scope):Scope :=
 { scope with names:=scope.names.map λ(n,k)=>if (k==.free&&xsc.kind==.function&&xsc.names.lookup n==some .cell) then (n,.cell) else (n,k) }
def qc.Bx(Γ:qc)(scope:Scope)(N':List Str):qc:={ Γ with N:=N',sc:=Jy scope Γ.sc }
def By(Γ:qc):yu->Expr->Bool
 |.one i,.Name x _=>Γ.N[i]?==some x && Γ.sc.names.lookup x==some .local
 | .tup is,.Tuple es _ _=>es.length==is.length&&(is.zip es).all λp=>match p.2 with
  |.Name x _=>Γ.N[p.1]?==some x && Γ.sc.names.lookup x==some .local
  |_=>false
 |_,_=>false
def Pz(Γ:qc)(scope:Scope):yu->Expr->Bool
 |.one i,e=>lU (λx _=>Γ.N[i]?==some x&&(Γ.sc.names.lookup x==some .local||(Γ.sc.names.lookup x==some .cell&&scope.names.lookup x==some .cell))) e
 |.tup is,e=>By Γ (.tup is) e
def wg:yu->List Nat
 |.one i=>[i]
 |.tup is=>is
def XR:Me->Str
 |.join=>"join" | .append=>"append" | .extend=>"extend" | .remove=>"remove"
def yy:Val->Val->Bool
 |.non,.non=>true
 |.bl a,.bl b=>a==b
 |.int a,.int b=>a==b
 |.str a,.str b=>a==b
 |_,_=>false
def LK:kQ->Bool
 |.nil=>true
 |.cons ..=>false
theorem Dq{b:Bool}(h:(LK es&&b)=true):es=.nil/\b=true:=by
 cases es with
 |nil=>exact⟨rfl,h⟩
 |cons _ _=>cases h
def zP(e:Expr):Bool:=match e with
 |.Constant (.bool true) _ _=>true
 |_=>false
theorem zQ(h:zP e=true):∃j p,e=.Constant (.bool true) j p:=by
 unfold zP at h;split at h
 ·exact⟨_,_,rfl⟩
 ·cases h
mutual
noncomputable def bx(Γ:qc):IE->Expr->Bool
 |.var i,e=>lU (λx _=>Γ.N[i]?==some x&&LI Γ.sc x) e
 |.cst d,e=>yv (λc _ _=>Dp c d) e
 |.con x d,e=>lU (λy _=>x==y&&qT Γ.sc x && Γ.cons.any λp=>p.1==x&&yy p.2 d) e
 |.no,_=>false
 |.bin o a b,e=>Pe (λl op r _=>LJ o op&&bx Γ a l&&bx Γ b r) e
 |.neg a,e=>Ul (λq1 l _=>Lx q1 .USub (bx Γ a l)) e
 |.cmp o a b,e=>Lr (λl q1 q2 _=>k1 (λop=>k1 (λr=>GS o op && !behindInMarks op r&&bx Γ a l&&bx Γ b r) q2) q1) e
 |.chn o p a b c,e=>Lr (λl q1 q2 _=>k2 (λop op'=>k2 (λm r=>GS o op&&GS p op' && !behindInMarks op m && !behindInMarks op' r&&bx Γ a l&&bx Γ b m&&bx Γ c r) q2) q1) e
 |.and a b,e=>uF (λq1 q2 pos=>Lx q1 .And (kC (λl q3=>kC (λm r=>bx Γ a l&&(match r with|[]=>bx Γ b m|n::r'=>bx Γ b (.BoolOp .And (m::n::r') pos))) q3) q2)) e
 |.or a b,e=>uF (λq1 q2 pos=>Lx q1 .Or (kC (λl q3=>kC (λm r=>bx Γ a l&&(match r with|[]=>bx Γ b m|n::r'=>bx Γ b (.BoolOp .Or (m::n::r') pos))) q3) q2)) e
 |.not a,e=>Ul (λq1 l _=>Lx q1 .Not (bx Γ a l)) e
 |.ite _ _ _,_=>false
 |.tup es,e=>Pf (λls _ _=>aL Γ es ls) e
 |.lst es,e=>Pg (λls _=>aL Γ es ls) e
 |.idx a b,e=>GK (λl r _=>o5 r&&bx Γ a l&&bx Γ b r) e
 |.slc a lo hi,e=>GK (λl q1 _=>Ph (λl' h' q2 _=>Dj q2 (bx Γ a l&&(match l' with|none=>c9 lo|some e=>!c9 lo&&bx Γ lo e)&&(match h' with|none=>c9 hi|some e=>!c9 hi&&bx Γ hi e))) q1) e
 |.call j es,e=>zN (λx _ args _=>qT Γ.sc x && Γ.fns[j]?==some (x,args.length)&&decide (args.length<1000)&&aL Γ es args) e
 | .blt b es,e=>zN (λx _ args _=>qT Γ.sc x&&x==Py b&&(match b with
   |.isin T=>(match args with|[a,.Name y _]=>qT Γ.sc y&&y==(T:Str)&&["list","tuple","str","bool","int","dict"].contains T&&aL Γ es [a]|_=>false)
   |_=>!args.isEmpty&&aL Γ es args)) e
 |.met m a es,e=>Pj (λo x ap args cp=>x==XR m&&superB o && !args.isEmpty&&decide (args.length<29)&&ap.endLine==cp.line&&bx Γ a o&&aL Γ es args) e
 | .comp N' js pat k it c elt,e=>Jw (λe q1 scope _=>k1 (λq2=>Pn (λtg iter ifs q3=>Lx q3 0 (jD Γ.N Γ.sc scope N' js&&zR Γ k it iter&&decide (N'.Nodup)&&Pz (Γ.Bx scope N') scope pat tg&&((wg pat).all λi=>js[i]?==some none)&&(match k,pat with|.enum,.one _=>false|.zip,.one _=>false|_,_=>true) &&
   (match ifs with|[]=>c9 c|[t]=>!c9 c&&bx (Γ.Bx scope N') c t|_=>false)&&bx (Γ.Bx scope N') elt e)) q2) q1) e
 |.dct0,e=>Di (λq1 q2 _=>oH q1 (oH q2 (true))) e
 |.sset a,e=>zN (λx _ q1 _=>k1 (λq2=>zN (λy _ q3 _=>k1 (λl=>x==("sorted":Str)&&y==("set":Str)&&qT Γ.sc x&&qT Γ.sc y&&noStar l&&bx Γ a l) q3) q2) q1) e
 |.dget d k x,e=>Pj (λo m ap q1 cp=>k2 (λa b=>m==("get":Str)&&superB o&&noStar a&&noStar b&&ap.endLine==cp.line&&bx Γ d o&&bx Γ k a&&bx Γ x b) q1) e
 |.dct1 k v,e=>Di (λq1 q2 _=>k2 (λq3 q4=>zM (λa=>zM (λb=>k2 (λva vb=>bx Γ k a&&bx Γ v b&&zP va&&zP vb) q2) q4) q3) q1) e
 |.lkeys d,e=>zN (λx _ q1 _=>k1 (λq2=>Pj (λo m ap q3 cp=>oH q3 (x==("list":Str)&&m==("keys":Str)&&qT Γ.sc x&&superB o&&ap.endLine==cp.line&&bx Γ d o)) q2) q1) e||zN (λx _ q1 _=>k1 (λq2=>lU (λy q=>x==("list":Str)&&qT Γ.sc x&&bx Γ d (.Name y q)) q2) q1) e
 |.sdef _ _ _,_=>false
 |.svals _,_=>false
 |.skeys d,e=>zN (λx _ q1 _=>k1 (λq2=>Pj (λo m ap q3 cp=>oH q3 (x==("sorted":Str)&&m==("keys":Str)&&qT Γ.sc x&&superB o&&ap.endLine==cp.line&&bx Γ d o)) q2) q1) e||zN (λx _ q1 _=>k1 (λq2=>lU (λy q=>x==("sorted":Str)&&qT Γ.sc x&&bx Γ d (.Name y q)) q2) q1) e
 |.fld n a x,e=>Dh (λo y _=>zN (λf _ ls _=>k1 (λl=>x==y&&qT Γ.sc f && Γ.fns[n]?==some (f,2001)&&noStar l&&bx Γ a l) ls) o) e
 |.rev _ _,_=>false
 |.dflt _ _ _ _ _ _,_=>false
 |.isc _ _ _,_=>false
 |.mth _ m js es,e=>zN (λf _ ls _=>k1 (λl=>f==m&&qT Γ.sc f&&noStar l&&zN (λy _ l2 _=>qT Γ.sc y&&aL Γ es l2&&kC (λp _=>Γ.fns[p.1]?==some (f,3001)&&((Γ.fns[p.2]?==some (y,2001)&&l2.length==1)||(Γ.fns[p.2]?==some (y,2000)&&l2.length==0))) js) l) ls) e
noncomputable def aL(Γ:qc):kQ->List Expr->Bool
 |.nil,ls=>ls.isEmpty
 | .cons e es,ls=>match ls with
  |l::ls=>noStar l&&bx Γ e l&&aL Γ es ls
  |[]=>false
noncomputable def zR(Γ:qc)(k:Ik):kQ->Expr->Bool
 |.nil,_=>false
 | .cons e es,l=>match k with
  |.seq=>LK es&&(GU l&&bx Γ e l)
  |.range=>zN (λx _ as _=>kC (λa args=>x==("range":Str)&&qT Γ.sc x&&noStar a&&bx Γ e a&&aL Γ es args&&decide (args.length<2)) as) l
  |.enum=>LK es&&zN (λx _ as _=>k1 (λa=>x==("enumerate":Str)&&qT Γ.sc x&&noStar a&&bx Γ e a) as) l
  |.zip=>false
end
abbrev Fn:=Nat->List Val->M Val
def cL(K:Frag)(ρ:List Addr)(env:Env)(σ:L2.St)(H:Hp):Prop:=∀(i:Nat) (v:Val),env[i]?=some (some v)->∃x,σ[i]?=some (some x)/\VR K ρ H v x
theorem cL.jV{K:Frag}{ρ ρ':List Addr}{env:Env}{σ:L2.St}{H H':Hp}(e:cL K ρ env σ H)(g:Gw ρ H ρ' H'):cL K ρ' env σ H':=λi v q=>by
 obtain⟨x,q1,q2⟩:=e i v q;exact⟨x,q1,VR.jV g v x q2⟩
theorem cL.up{K:Frag}{ρ ρ':List Addr}{env:Env}{σ:L2.St}{H H':Hp}(e:cL K ρ env σ H)(g:Gr ρ H ρ' H'):cL K ρ' env σ H':=e.jV g.w
def XS(K:Frag)(Q:List V->Hp->Prop):List Val->Hs->List Addr->Hp->Prop:=λvs _ ρ' H'=>∀xs,av K ρ' H' vs xs->Q xs H'
def WT(Q:Bool->Hp->Prop):Bool->Hs->List Addr->Hp->Prop:=λb _ _ H'=>Q b H'
def LL(Φ:Fn)(ir:IE)(env:Env):M Bool:=bnd (aK Φ ir env) λx=>ask λh=>c8 h x
def tV(Φ:Fn)(B:Bd)(EX:Nat->List V->Hp->Prop)(ir:IE):TE:=λσ H Q=>∃ρ env h,cL B.K ρ env σ H/\HR B ρ h H/\Post B EX ρ H (WV B.K Q) (aK Φ ir env h)
def Uq(Φ:Fn)(B:Bd)(EX:Nat->List V->Hp->Prop)(d9:kQ):TA:=λσ H Q=>∃ρ env h,cL B.K ρ env σ H/\HR B ρ h H/\Post B EX ρ H (XS B.K Q) (bB Φ d9 env h)
def tT(Φ:Fn)(B:Bd)(EX:Nat->List V->Hp->Prop)(ir:IE):TT:=λσ H Q=>∃ρ env h,cL B.K ρ env σ H/\HR B ρ h H/\Post B EX ρ H (WT Q) (LL Φ ir env h)
theorem _root_.L2.PE.imp(h:PE X e t)(i:∀σ H Q,t' σ H Q->t σ H Q):PE X e t':=λpins s σ H Q I hw=>h pins s σ H Q I (i σ H Q hw)
theorem _root_.L2.PT.imp(h:PT X e t)(i:∀σ H Q,t' σ H Q->t σ H Q):PT X e t':=λpins s σ H Q I hw=>h pins s σ H Q I (i σ H Q hw)
theorem _root_.L2.PA.imp(h:PA X es t)(i:∀σ H Q,t' σ H Q->t σ H Q):PA X es t':=λpos pins s σ H Q I hw=>h pos pins s σ H Q I (i σ H Q hw)
theorem _root_.L2.PO.imp(h:PO X e t)(i:∀σ H Q,t' σ H Q->t σ H Q):PO X e t':=λpins s σ H Q I hw=>h pins s σ H Q I (i σ H Q hw)
theorem _root_.L2.PI.imp(h:PI X tg iter t)(i:∀σ H R,t' σ H R->t σ H R):PI X tg iter t':=λpins s σ H R I hw=>h pins s σ H R I (i σ H R hw)
theorem aM{α β γ:Type}(m:M α)(f:α -> M β)(g:β -> M γ):bnd (bnd m f) g=bnd m λx=>bnd (f x) g:=by
 funext h;show (match (match m h with|.ok a h'=>f a h'|.exc c vs h'=>.exc c vs h'|.no=>.no) with|.ok a h'=>g a h'|.exc c vs h'=>.exc c vs h'|.no=>.no)=(match m h with|.ok a h'=>bnd (f a) g h'|.exc c vs h'=>.exc c vs h'|.no=>.no);cases m h<;>rfl
theorem bU{α β:Type}(a:α)(f:α -> M β):bnd (ret a) f=f a:=rfl
def NX:Nat->List V->Hp->Prop:=λ_ _ _=>False
def oK(cl:Nat->Addr)(E:XK):Nat->List V->Hp->Prop:=λc xs H=>(∃g y,xs=[.str g,y]/\∀dx,H dx=none->E (.ref (cl (1000+c))) (some dx) (upd H dx (.xd [(g,y)])))\/(xs=[]/\E (.ref (cl (1000+c))) none H)
def BA(B:Bd)(n:Nat)(φ:List Val->M Val):Sp:=λxs H Q E=>∃ρ h vs,vs.length=n/\HR B ρ h H/\av B.K ρ H vs xs/\Post B (oK B.cl E) ρ H (WV B.K Q) (φ vs h)
def LM(P:Program)(w:World)(B:Bd)(mg:Str->Option Value)(base:Heap)(k:Nat)(x:Str)(C:Addr)(g:Str):Prop:=mg x=some (.ref C)/\∃(D fI:Addr) (cd:ClassData) (fd:FuncData) (ps:List Str),oG B.K C D fI cd/\dH P w B.K mg base zg k fI fd ps (vQ B.K g)/\Binds B.K fd ps []/\ps.length=2/\findIn B.K (.ref C) g=some none/\fc B.K C
def Dr(B:Bd)(mg:Str->Option Value)(x:Str)(C:Addr):Prop:=mg x=some (.ref C)/\∃D,iY B.K C D
def Jz(B:Bd)(φ:List Val->M Val):Sp:=λxs H Q _=>∃ρ h a c dx,xs=[.ref a]/\C4 H a (B.cl (1000+c)) dx/\Sl H dx/\HR B ρ h H/\Post B NX ρ H (WV B.K Q) (φ [.int ((c:Nat):Int)] h)
def Ur(P:Program)(w:World)(B:Bd)(mg:Str->Option Value)(base:Heap)(k:Nat)(x:Str)(φ:List Val->M Val):Prop:=∃(f:Addr) (fd:FuncData) (ps:List Str),mg x=some (.ref f)/\keepIn B.K (.ref f)=true/\Binds B.K fd ps []/\dH P w B.K mg base zg k f fd ps (Jz B φ)
def N2(P:Program)(w:World)(B:Bd)(mg:Str->Option Value)(base:Heap)(k:Nat)(j:Nat)(x:Str)(n:Nat)(φ:List Val->M Val):Prop :=
 (n<1000/\∃(f:Addr) (fd:FuncData) (ps:List Str),ps.length=n/\mg x=some (.ref f)/\keepIn B.K (.ref f)=true/\Binds B.K fd ps []/\dH P w B.K mg base (m5 P w) k f fd ps (BA B n φ)) \/
 (n=2001/\∃g,φ = jb j g/\LM P w B mg base k x (B.cl (1000+j)) g)\/(n=2000 /\ φ = lK j/\Dr B mg x (B.cl (1000+j)))\/(n=3001/\Ur P w B mg base k x φ)
def bltNames:List Str:=["len","min","max","sorted","list","tuple","str","all","any","isinstance","range","enumerate","int","bool","dict","set","zip"]
structure Ctx (Φ:Fn) (Γ:qc) (k:Nat) (X:Cx) (cl:Nat->Addr) (EX:Nat->List V->Hp->Prop):Prop where
 N:X.N = Γ.N
 sc:X.env.scope = Γ.sc
 calm:X.calm=true
 room:dj (k+1) X.A
 Us:∃E:XK,Passes (m5 X.prog X.w) X E/\∀c xs H,EX c xs H->oK cl E c xs H
 fns:∀j x n,Γ.fns[j]?=some (x,n)->N2 X.prog X.w (bd X cl) X.mg X.base k j x n (Φ j)
 cls:∀c,c < Γ.tb.nc->VF X.K (cl c)/\∀x ∈ Γ.tb.Px,Ci X.K (cl c) x
 GQ:∀p ∈ Γ.tb.GQ,Meth X.K (cl p.1) p.2.1 (cl (1000+p.2.2))
 GR:∀p ∈ Γ.tb.GR,∃C,X.mg p.1=some (.ref C)/\O4 X.K C p.2.1 (cl (1000+p.2.2))
 isc:∀p ∈ Γ.tb.isc,∃C,X.mg p.1=some (.ref C)/\∀c b,p.2[c]?=some b->V3 X.K (cl c)/\kitOne X.K (.ref (cl c)) (.ref C)=some b
 cons:∀p ∈ Γ.cons,∃v u,X.mg p.1=some u/\RelV v u/\∀K ρ H,VR K ρ H p.2 v
 blt:∀x∈bltNames,X.mg x=none
section
variable {Φ:Fn} {Γ:qc} {k:Nat} {X:Cx} {cl:Nat->Addr} {EX:Nat->List V->Hp->Prop}
theorem Ctx.units(c:Ctx Φ Γ k X cl EX):X.A.units+64<cLine:=c.room.units
theorem Ctx.vis(c:Ctx Φ Γ k X cl EX)(h:LI Γ.sc x=true):N9 X.env.scope x/\(x==("__debug__":Str))=false/\(x==("__classdict__":Str))=false:=by
 unfold LI at h;simp only[and_eq_true,or_eq_true,beq_iff_eq,not_eq_true']at h;obtain⟨⟨h1,h2⟩,h3⟩:=h;refine⟨?_,h2,h3⟩;unfold N9;rw[c.sc]
 rcases h1 with (z|z)|z
 ·exact .inl z
 ·exact .inr (.inl z)
 ·exact .inr (.inr z)
theorem Ctx.gl(c:Ctx Φ Γ k X cl EX)(h:qT Γ.sc x=true):Gl X x/\(x==("__debug__":Str))=false/\x ≠ "__name__":=by
 unfold qT at h;simp only[and_eq_true,beq_iff_eq,not_eq_true']at h;obtain⟨⟨h1,h2⟩,h3⟩:=h;refine⟨?_,h2,λz=>by rw[z]at h3;simp at h3⟩;show X.env.scope.names.lookup x=_;rw[c.sc];exact h1
theorem zS:Passes (m5 X.prog X.w) X (λ_ _ _=>False):=λpins σ H s e s' I h=>by
 obtain⟨_,_,_,_,_,_,_,_,_,_,_,_,_,z⟩:=h;exact z.elim
theorem Ctx.no(c:Ctx Φ Γ k X cl EX):Ctx Φ Γ k X cl NX :=
 { N:=c.N,sc:=c.sc,calm:=c.calm,room:=c.room,Us:=⟨_,zS,λ_ _ _ z=>False.elim z⟩,fns:=c.fns,cls:=c.cls,GQ:=c.GQ,GR:=c.GR,isc:=c.isc,cons:=c.cons,blt:=c.blt }
theorem Ctx.Bx(c:Ctx Φ Γ k X cl EX)(scope:Scope)(N':List Str)(cls:List (Str×Addr))(C:Addr)(s:Shared)(H:Hp)(fp:List Addr):Ctx Φ (Γ.Bx scope N') k (bD X scope N' cls C s H fp) cl NX:=by
 refine⟨rfl,?_,c.calm,c.room,⟨_,zS,λ_ _ _ z=>False.elim z⟩,c.fns,c.cls,c.GQ,c.GR,c.isc,c.cons,c.blt⟩;show relabel scope X.env=Jy scope Γ.sc;rw[<-c.sc];rfl
theorem ak(h:noStar e=true):starEach (e::es) env=(false,eval e env)::starEach es env:=by
 cases e<;>first|rfl|(simp[noStar]at h)
theorem jd:∀{es:List Expr} {d9:kQ},aL Γ d9 es=true->(backTo pos (starEach es env)).any (·.1)=false
 |[],_,_=>rfl
 |e::es,.nil,h=>by simp[aL]at h
 | e::es,.cons i d9,h=>by
  simp only[aL,and_eq_true]at h;rw[ak h.1.1];show (false||(backTo pos (starEach es env)).any (·.1))=false;rw[jd (d9:=d9) h.2];rfl
theorem Ds(h:aL Γ d9 es=true):(backTo pos (starEach es env)).all (λx=>!x.1)=true:=by
 have q:=jd (pos:=pos) (env:=env) h;rw[abH];intro x hx;have:=List.any_eq_false.mp q x hx;simpa using this
theorem yz(h:o5 e=true):zd e:=by
 intro o i;cases e<;>first|rfl|(simp[o5]at h)
theorem super_ok(h:superB e=true):attributeBase e x env whole=whole:=by
 cases e<;>first
  |rfl
  |skip
 rename_i f args kws pos;cases f<;>first
  |rfl
  |skip
 cases args with
 |cons a r=>rfl
 |nil=>
  cases kws with
  |cons a r=>rfl
  |nil=>simp[superB]at h
theorem dU(q:PE X e (tV Φ (bd X cl) EX ir))(he:∀whole,isTrue e X.env whole=(do let v <-whole;standAt e.pos;holding [v] (truthy v))):PT X e (tT Φ (bd X cl) EX ir) :=
 (Cg q he).imp λσ H Q ⟨ρ,env,h,hE,r,p⟩=>⟨ρ,env,h,hE,r,aA p λv h1 ρ1 x H1 g1 r1 q1 p1=>by
  obtain⟨b,e,w⟩:=cD r1 p1;exact⟨b,Lf r1 q1 e,w⟩⟩
theorem Cc:Sa X (unaryOp .USub) (λx H Q=>∃i,x=.int i/\Q (.int (-i)) H):=by
 intro pins s σ H x v Q I rx h;obtain⟨i,rfl,q⟩:=h;obtain⟨t,rfl⟩:=rx;exact neg_int ⟨.int (-i),H,I.tok _,⟨_,rfl⟩,q⟩
theorem JA(h:PT X (.BoolOp op vs pos) t):PW X (.BoolOp op vs pos) t:=λwhole pins s σ H Q I hw=>h pins s σ H Q I hw
def bY(Φ:Fn)(ir:IE):Prop:=∀(Γ:qc) (k:Nat) (X:Cx) (cl:Nat->Addr) (EX:Nat->List V->Hp->Prop) (e:Expr),Ctx Φ Γ k X cl EX->bx Γ ir e=true->PE X e (tV Φ (bd X cl) EX ir)/\PT X e (tT Φ (bd X cl) EX ir)
def jW(Φ:Fn)(d9:kQ):Prop:=(∀(Γ:qc) (k:Nat) (X:Cx) (cl:Nat->Addr) (EX:Nat->List V->Hp->Prop) (es:List Expr),Ctx Φ Γ k X cl EX->aL Γ d9 es=true->PA X es (Uq Φ (bd X cl) EX d9))/\match d9 with
 |.nil=>True
 | .cons e r=>bY Φ e/\match r with
  |.nil=>True
  |.cons e' _=>bY Φ e'
theorem GV(h:LJ o op=true):op=C9 o:=aav h
theorem uH(h:GS o op=true):op=nV o:=aav h
theorem iF(hs:∀env h,aK Φ ir env h=.no):bY Φ ir:=by
 intro Γ k X cl EX e c h;exact⟨λpins s σ H Q I ⟨ρ,env,h,hE,r,p⟩=>by rw[hs]at p;exact p.elim,λpins s σ H Q I ⟨ρ,env,h,hE,r,p⟩=>by unfold LL bnd at p;rw[hs]at p;exact p.elim⟩
theorem LN{i:Nat}:bY Φ (.var i):=by
 intro Γ k X cl EX e c h;apply o4 h;intro x pos h;simp only[and_eq_true,beq_iff_eq]at h;obtain⟨v1,v2,v3⟩:=c.vis h.2;have q:PE X (.Name x pos) (tV Φ (bd X cl) EX (.var i)):=by refine(gx (by rw[c.N];exact h.1) v1 v2 v3).imp λσ H Q aN=>?_;obtain⟨ρ,env,h,hE,r,p⟩:=aN;rw[aK.eq_def]at p;dsimp only at p;obtain⟨d,e1,w⟩:=cF r p;split at e1<;>cases e1;rename_i e1;obtain⟨x,e2,e3⟩:=hE i d e1;exact⟨x,e2,w x e3⟩
 exact⟨q,dU q λ_=>rfl⟩
theorem LO:bY Φ (.cst d):=by
 intro Γ k X cl EX e c h;apply wc h;intro cc j pos h;have q:PE X (.Constant cc j pos) (tV Φ (bd X cl) EX (.cst d)):=by
  unfold Dp at h;split at h<;>first|cases h|skip
  ·refine J0.imp λσ H Q aN=>?_;obtain⟨ρ,env,h,hE,r,p⟩:=aN;simp only[aK]at p;exact aj r p _ VR.non
  ·cases eq_of_beq h;refine yY.imp λσ H Q aN=>?_;obtain⟨ρ,env,h,hE,r,p⟩:=aN;simp only[aK]at p;exact aj r p _ VR.bl
  ·cases eq_of_beq h;refine B4.imp λσ H Q aN=>?_;obtain⟨ρ,env,h,hE,r,p⟩:=aN;simp only[aK]at p;exact aj r p _ VR.int
  ·cases eq_of_beq h;refine tX.imp λσ H Q aN=>?_;obtain⟨ρ,env,h,hE,r,p⟩:=aN;simp only[aK]at p;exact aj r p _ VR.str
 exact⟨q,dU q λ_=>rfl⟩
theorem BB(h:yy a b=true):a=b:=by
 unfold yy at h;split at h<;>first|rfl|(cases eq_of_beq h;rfl)|cases h
theorem LP:bY Φ (.con x d):=by
 intro Γ k X cl EX e c h;apply o4 h;intro y pos h;simp only[and_eq_true,beq_iff_eq]at h;obtain⟨⟨h1,h2⟩,h3⟩:=h;subst h1;obtain⟨g1,g2,g3⟩:=c.gl h2;obtain⟨p,hp,h4⟩:=List.any_eq_true.mp h3;simp only[and_eq_true,beq_iff_eq]at h4;obtain⟨v,u,m1,m2,m3⟩:=c.cons p hp;rw[h4.1]at m1;have q:PE X (.Name x pos) (tV Φ (bd X cl) EX (.con x d)):=by refine(oV g1 m1 m2 g2).imp λσ H Q aN=>?_;obtain⟨ρ,env,h,hE,r,p⟩:=aN;simp only[aK]at p;exact aj r p _ (by rw[<-BB h4.2];exact m3 _ _ _)
 exact⟨q,dU q λ_=>rfl⟩
theorem PB:bY Φ .no:=by
 intro Γ k X cl EX e c h
 (conv at h=>lhs;whnf);cases h
theorem Dt:jW Φ .nil:=by
 refine⟨fun Γ k X cl EX es c h=>?_,trivial⟩;rw[aL]at h;cases es with
 |cons a r=>cases h
 |nil=>refine dO.imp λσ H Q aN=>?_;obtain⟨ρ,env,h,hE,r,p⟩:=aN;simp only[bB]at p;exact aj r p _ av.nil
theorem zT(h1:bY Φ e)(h2:jW Φ es):jW Φ (.cons e es):=by
 refine⟨fun Γ k X cl EX ls c h=>?_,h1,?_⟩
 ·rw[aL.eq_def]at h;dsimp only at h
  cases ls with
  |nil=>cases h
  |cons l ls=>simp only[and_eq_true]at h;refine(bh (h1 Γ k X cl EX l c h.1.2).1 (h2.1 Γ k X cl EX ls c h.2) (ak h.1.1)).imp λσ H Q aN=>?_;obtain⟨ρ,env,h,hE,r,p⟩:=aN;simp only[bB]at p;refine⟨ρ,env,h,hE,r,aA p λv h1 ρ1 x H1 g1 r1 q1 p1=>⟨ρ1,env,h1,hE.up g1,r1,bK p1 λvs h2 ρ2 H2 g2 r2 p2 xs q2=>?_⟩⟩;exact aj r2 p2 _ (av.cons (VR.up g2 _ _ q1) q2)
 ·cases es with
  |nil=>trivial
  |cons e' r=>exact h2.2.1
theorem LQ(ha:bY Φ a)(hb:bY Φ b):bY Φ (.bin o a b):=by
 intro Γ k X cl EX e c h;apply Lq h;intro l op r pos h;simp only[and_eq_true]at h;obtain⟨⟨h1,h2⟩,h3⟩:=h;have eo:op=C9 o:=GV h1;subst eo;have q:PE X (.BinOp l (C9 o) r pos) (tV Φ (bd X cl) EX (.bin o a b)):=by refine(y9 (Ld (cl:=cl) (EX:=EX) o) (ha Γ k X cl EX l c h2).1 (hb Γ k X cl EX r c h3).1).imp λσ H Q aN=>?_;obtain⟨ρ,env,h,hE,r,p⟩:=aN;simp only[aK]at p;exact⟨ρ,env,h,hE,r,aA p λv h1 ρ1 x H1 g1 r1 q1 p1=>⟨ρ1,env,h1,hE.up g1,r1,aA p1 λw h2 ρ2 y H2 g2 r2 q2 p2=>⟨ρ2,h2,v,w,r2,VR.up g2 _ _ q1,q2,p2⟩⟩⟩
 exact⟨q,dU q λ_=>rfl⟩
theorem LR(ha:bY Φ a):bY Φ (.neg a):=by
 intro Γ k X cl EX e c h;apply Jv h;intro q1 l pos h;apply we h;intro h;have q:PE X (.UnaryOp .USub l pos) (tV Φ (bd X cl) EX (.neg a)):=by
  refine(OA Cc (ha Γ k X cl EX l c h).1).imp λσ H Q aN=>?_;obtain⟨ρ,env,h,hE,r,p⟩:=aN;simp only[aK]at p;refine⟨ρ,env,h,hE,r,aA p λv h1 ρ1 x H1 g1 r1 q1 p1=>?_⟩;cases v<;>first|exact p1.elim|skip
  rw[VR]at q1;exact⟨_,q1,aj r1 p1 _ VR.int⟩
 exact⟨q,dU q λ_=>rfl⟩
theorem LS(ha:bY Φ a)(hb:bY Φ b):bY Φ (.cmp o a b):=by
 intro Γ k X cl EX e c h;apply Df h;intro l q1 q2 pos h;apply oJ h;intro op h;apply oJ h;intro r h;simp only[and_eq_true,not_eq_true']at h;obtain⟨⟨⟨h1,h4⟩,h2⟩,h3⟩:=h;have eo:op=nV o:=uH h1;subst eo;refine⟨(FI (m8 (cl:=cl) c.units o) (ha Γ k X cl EX l c h2).1 (hb Γ k X cl EX r c h3).1 h4).imp λσ H Q ⟨ρ,env,h,hE,r,p⟩=>?_,(FJ (m8 (cl:=cl) c.units o) (ha Γ k X cl EX l c h2).1 (hb Γ k X cl EX r c h3).1 h4).imp λσ H Q ⟨ρ,env,h,hE,r,p⟩=>?_⟩
 ·simp only[aK]at p;refine⟨ρ,env,h,hE,r,aA p λv h1 ρ1 x H1 g1 r1 q1 p1=>⟨ρ1,env,h1,hE.up g1,r1,aA p1 λw h2 ρ2 y H2 g2 r2 q2 p2=>?_⟩⟩;obtain⟨t,e,p3⟩:=aE p2;exact⟨ρ2,h2,v,w,t,r2,VR.up g2 _ _ q1,q2,e,aj r2 p3 _ VR.bl⟩
 ·simp only[LL,aK,aM,bU]at p;refine⟨ρ,env,h,hE,r,aA p λv h1 ρ1 x H1 g1 r1 q1 p1=>⟨ρ1,env,h1,hE.up g1,r1,aA p1 λw h2 ρ2 y H2 g2 r2 q2 p2=>?_⟩⟩;obtain⟨t,e,p3⟩:=aE p2;obtain⟨t',e',w'⟩:=cD r2 p3;cases (show some t=some t' from e');exact⟨ρ2,h2,v,w,t,r2,VR.up g2 _ _ q1,q2,e,t,rfl,w'⟩
theorem LU(ha:bY Φ a)(hb:bY Φ b)(hd:bY Φ d):bY Φ (.chn o o' a b d):=by
 intro Γ k X cl EX e c h;apply Df h;intro l q1 q2 pos h;apply GN h;intro op op' h;apply GN h;intro m r h;simp only[and_eq_true,not_eq_true']at h;obtain⟨⟨⟨⟨⟨⟨h1,h2⟩,h3⟩,h4⟩,h5⟩,h6⟩,h7⟩:=h;have eo:op=nV o:=uH h1;have ep:op'=nV o':=uH h2;subst eo;subst ep;have hm:lastMarks [nV o,nV o'] [m,r]=false:=h4;refine⟨(Ce (m8 (cl:=cl) c.units o) (m8 (cl:=cl) c.units o') (ha Γ k X cl EX l c h5).1 (hb Γ k X cl EX m c h6).1 (hd Γ k X cl EX r c h7).1 hm).imp λσ H Q ⟨ρ,env,h,hE,r,p⟩=>?_,
  (Cf (m8 (cl:=cl) c.units o) (m8 (cl:=cl) c.units o') (ha Γ k X cl EX l c h5).1 (hb Γ k X cl EX m c h6).1 (hd Γ k X cl EX r c h7).1 hm).imp λσ H Q ⟨ρ,env,h,hE,r,p⟩=>?_⟩
 ·simp only[aK]at p
  refine⟨ρ,env,h,hE,r,aA p λv h1 ρ1 x H1 g1 r1 q1 p1=>⟨ρ1,env,h1,hE.up g1,r1,aA p1 λw h2 ρ2 y H2 g2 r2 q2 p2=>?_⟩⟩;obtain⟨t,e,p3⟩:=aE p2;refine⟨ρ2,h2,v,w,t,r2,VR.up g2 _ _ q1,q2,e,t,rfl,?_⟩;cases t with
  |false=>rw[aac Z3]at p3 |-;exact aj r2 p3 _ VR.bl
  |true=>rw[aae rfl]at p3 |-;refine⟨ρ2,env,h2,(hE.up g1).up g2,r2,aA p3 λw' h3 ρ3 z H3 g3 r3 q3 p4=>?_⟩;obtain⟨t',e',p5⟩:=aE p4;exact⟨ρ3,h3,w,w',t',r3,VR.up g3 _ _ q2,q3,e',aj r3 p5 _ VR.bl⟩
 ·simp only[LL,aK,aM,bU]at p
  refine⟨ρ,env,h,hE,r,aA p λv h1 ρ1 x H1 g1 r1 q1 p1=>⟨ρ1,env,h1,hE.up g1,r1,aA p1 λw h2 ρ2 y H2 g2 r2 q2 p2=>?_⟩⟩;obtain⟨t,e,p3⟩:=aE p2;refine⟨ρ2,h2,v,w,t,r2,VR.up g2 _ _ q1,q2,e,t,rfl,?_⟩;cases t with
  |false=>rw[aac Z3]at p3 |-;rw[bU]at p3;obtain⟨t',e',w'⟩:=cD r2 p3;cases (show some false=some t' from e');exact⟨false,rfl,w'⟩
  |true=>rw[aae rfl]at p3 |-;simp only[aM,bU]at p3;refine⟨ρ2,env,h2,(hE.up g1).up g2,r2,aA p3 λw' h3 ρ3 z H3 g3 r3 q3 p4=>?_⟩;obtain⟨t',e',p5⟩:=aE p4;obtain⟨t2,e2,w2⟩:=cD r3 p5;cases (show some t'=some t2 from e2);exact⟨ρ3,h3,w,w',t',r3,VR.up g3 _ _ q2,q3,e',t',rfl,w2⟩
end
section
variable {B:Bd} {EX:Nat->List V->Hp->Prop} {ρ:List Addr} {H:Hp} {β:Type} {W:β -> Hs->List Addr->Hp->Prop} {h:Hs}
theorem post_bool(p:Post B EX ρ H W (bnd (nU v) f h)):∃t,v=.bl t/\Post B EX ρ H W (f t h):=by
 cases v with
 |bl t=>exact⟨t,rfl,p⟩
 |_=>exact p.elim
theorem m9(p:Post B EX ρ H W (bnd m F h))(k:∀v h1,Post B EX ρ H W (F v h1)->∃t,c8 h1 v=some t/\∀ρ1 H1,Gr ρ H ρ1 H1->HR B ρ1 h1 H1->Q t H1) :
  Post B EX ρ H (WT Q) (bnd m (λx=>ask λh=>c8 h x) h):=by
 unfold bnd at p |-;cases e:m h with
 |ok v h1=>
  rw[e]at p;obtain⟨t,e1,q⟩:=k v h1 p;show Post B EX ρ H (WT Q) (ask (λh=>c8 h v) h1);have e2:ask (λh=>c8 h v) h1=.ok t h1:=by unfold ask aZ;dsimp only;rw[e1]
  rw[e2];exact λρ1 H1 g r=>q ρ1 H1 g r
 |exc c vs h1=>rw[e]at p;exact p
 |no=>rw[e]at p;exact p
end
section
variable {Φ:Fn} {Γ:qc} {k:Nat} {X:Cx} {cl:Nat->Addr} {EX:Nat->List V->Hp->Prop}
theorem LV(ha:bY Φ a)(hb:bY Φ b):bY Φ (.and a b):=by
 intro Γ k X cl EX e c h;apply sM h;intro q1 q2 pos h;apply we h;intro h;apply yx h;intro l q3 h;apply yx h;intro m r h;simp only[and_eq_true]at h;obtain⟨h1,h2⟩:=h;have hB:PE X (.BoolOp .And (m::r) pos) (tV Φ (bd X cl) EX b)/\PW X (.BoolOp .And (m::r) pos) (tT Φ (bd X cl) EX b):=by
  cases r with
  |nil=>exact⟨pe (hb Γ k X cl EX m c h2).1,Fv (hb Γ k X cl EX m c h2).2⟩
  |cons n r'=>exact⟨(hb Γ k X cl EX _ c h2).1,JA (hb Γ k X cl EX _ c h2).2⟩
 refine⟨(tZ (ha Γ k X cl EX l c h1).1 hB.1).imp λσ H Q ⟨ρ,env,h,hE,r,p⟩=>?_,(J2 (ha Γ k X cl EX l c h1).2 hB.2).pt.imp λσ H Q ⟨ρ,env,h,hE,r,p⟩=>?_⟩
 ·simp only[aK]at p
  refine⟨ρ,env,h,hE,r,aA p λv h1 ρ1 x H1 g1 r1 q1 p1=>?_⟩;obtain⟨t,rfl,p2⟩:=post_bool p1;rw[VR]at q1;refine⟨t,q1,?_⟩;cases t with
  |true=>rw[aae rfl]at p2 |-;refine⟨ρ1,env,h1,hE.up g1,r1,aA p2 λw h2 ρ2 y H2 g2 r2 q2 p3=>?_⟩;obtain⟨u,rfl,p4⟩:=post_bool p3;exact aj r2 p4 _ q2
  |false=>rw[aac Z3]at p2 |-;exact aj r1 p2 _ VR.bl
 ·simp only[LL,aK,aM]at p
  refine⟨ρ,env,h,hE,r,m9 p λv h1 p1=>?_⟩;obtain⟨t,rfl,p2⟩:=post_bool p1;refine⟨t,rfl,λρ1 H1 g1 r1=>?_⟩;have p2:=Post.up g1 p2;cases t with
  |true=>rw[aae rfl]at p2 |-;simp only[aM,bU]at p2;refine⟨ρ1,env,h1,hE.up g1,r1,m9 p2 λw h2 p3=>?_⟩;obtain⟨u,rfl,p4⟩:=post_bool p3;exact⟨u,rfl,λρ2 H2 g2 r2=>by obtain⟨t',e',w'⟩:=cD r2 (Post.up g2 p4);cases (show some u=some t' from e');exact w'⟩
  |false=>rw[aac Z3]at p2 |-;obtain⟨t',e',w'⟩:=cD r1 (show Post _ _ ρ1 H1 _ (ask (λh=>c8 h (.bl false)) h1) from p2);cases (show some false=some t' from e');exact w'
theorem PC(ha:bY Φ a)(hb:bY Φ b):bY Φ (.or a b):=by
 intro Γ k X cl EX e c h;apply sM h;intro q1 q2 pos h;apply we h;intro h;apply yx h;intro l q3 h;apply yx h;intro m r h;simp only[and_eq_true]at h;obtain⟨h1,h2⟩:=h;have hB:PE X (.BoolOp .Or (m::r) pos) (tV Φ (bd X cl) EX b)/\PW X (.BoolOp .Or (m::r) pos) (tT Φ (bd X cl) EX b):=by
  cases r with
  |nil=>exact⟨pe (hb Γ k X cl EX m c h2).1,J1 (hb Γ k X cl EX m c h2).2⟩
  |cons n r'=>exact⟨(hb Γ k X cl EX _ c h2).1,JA (hb Γ k X cl EX _ c h2).2⟩
 refine⟨(Oi (ha Γ k X cl EX l c h1).1 hB.1).imp λσ H Q ⟨ρ,env,h,hE,r,p⟩=>?_,(Of (ha Γ k X cl EX l c h1).2 hB.2).pt.imp λσ H Q ⟨ρ,env,h,hE,r,p⟩=>?_⟩
 ·simp only[aK]at p
  refine⟨ρ,env,h,hE,r,aA p λv h1 ρ1 x H1 g1 r1 q1 p1=>?_⟩;obtain⟨t,rfl,p2⟩:=post_bool p1;rw[VR]at q1;refine⟨t,q1,?_⟩;cases t with
  |false=>rw[aac Z3]at p2 |-;refine⟨ρ1,env,h1,hE.up g1,r1,aA p2 λw h2 ρ2 y H2 g2 r2 q2 p3=>?_⟩;obtain⟨u,rfl,p4⟩:=post_bool p3;exact aj r2 p4 _ q2
  |true=>rw[aae rfl]at p2 |-;exact aj r1 p2 _ VR.bl
 ·simp only[LL,aK,aM]at p
  refine⟨ρ,env,h,hE,r,m9 p λv h1 p1=>?_⟩;obtain⟨t,rfl,p2⟩:=post_bool p1;refine⟨t,rfl,λρ1 H1 g1 r1=>?_⟩;have p2:=Post.up g1 p2;cases t with
  |false=>rw[aac Z3]at p2 |-;simp only[aM,bU]at p2;refine⟨ρ1,env,h1,hE.up g1,r1,m9 p2 λw h2 p3=>?_⟩;obtain⟨u,rfl,p4⟩:=post_bool p3;exact⟨u,rfl,λρ2 H2 g2 r2=>by obtain⟨t',e',w'⟩:=cD r2 (Post.up g2 p4);cases (show some u=some t' from e');exact w'⟩
  |true=>rw[aae rfl]at p2 |-;obtain⟨t',e',w'⟩:=cD r1 (show Post _ _ ρ1 H1 _ (ask (λh=>c8 h (.bl true)) h1) from p2);cases (show some true=some t' from e');exact w'
theorem LW(ha:bY Φ a):bY Φ (.not a):=by
 intro Γ k X cl EX e c h;apply Jv h;intro q1 l pos h;apply we h;intro h;refine⟨(B5 (ha Γ k X cl EX l c h).1).imp λσ H Q ⟨ρ,env,h,hE,r,p⟩=>?_,(J6 (ha Γ k X cl EX l c h).2).imp λσ H Q ⟨ρ,env,h,hE,r,p⟩=>?_⟩
 ·simp only[aK]at p;refine⟨ρ,env,h,hE,r,aA p λv h1 ρ1 x H1 g1 r1 q1 p1=>?_⟩;obtain⟨t,rfl,p2⟩:=post_bool p1;rw[VR]at q1;exact⟨t,q1,aj r1 p2 _ VR.bl⟩
 ·simp only[LL,aK,aM]at p;refine⟨ρ,env,h,hE,r,m9 p λv h1 p1=>?_⟩;obtain⟨t,rfl,p2⟩:=post_bool p1;refine⟨t,rfl,λρ1 H1 g1 r1=>?_⟩;obtain⟨t',e',w'⟩:=cD r1 (show Post _ _ ρ1 H1 _ (ask (λh=>c8 h (.bl (!t))) h1) from Post.up g1 p2);cases (show some (!t)=some t' from e');exact w'
theorem LX(ht:bY Φ t)(ha:bY Φ a)(hb:bY Φ b):bY Φ (.ite t a b):=iF λ_ _=>rfl
theorem LY(hs:jW Φ es):bY Φ (.tup es):=by
 intro Γ k X cl EX e c h;apply Ls h;intro ls x1 pos h;have q:PE X (.Tuple ls x1 pos) (tV Φ (bd X cl) EX (.tup es)):=by refine(Cj (hs.1 Γ k X cl EX ls c h)).imp λσ H Q aN=>?_;obtain⟨ρ,env,h,hE,r,p⟩:=aN;simp only[aK]at p;refine⟨ρ,env,h,hE,r,bK p λvs h1 ρ1 H1 g1 r1 p1 xs q1=>?_⟩;obtain⟨e1,p2⟩:=aJ p1;exact⟨by rw[<-q1.length];exact aav e1,λq hq=>lO r1 hq q1 p2⟩
 exact⟨q,dU q λ_=>rfl⟩
theorem LZ(hs:jW Φ es):bY Φ (.lst es):=by
 intro Γ k X cl EX e c h;apply Lu h;intro ls pos h;have q:PE X (.List ls pos) (tV Φ (bd X cl) EX (.lst es)):=by refine(pC (hs.1 Γ k X cl EX ls c h)).imp λσ H Q aN=>?_;obtain⟨ρ,env,h,hE,r,p⟩:=aN;simp only[aK]at p;refine⟨ρ,env,h,hE,r,bK p λvs h1 ρ1 H1 g1 r1 p1 xs q1=>?_⟩;obtain⟨e1,p2⟩:=aJ p1;exact⟨by rw[<-q1.length];exact aav e1,λq hq=>dF r1 hq q1 p2⟩
 exact⟨q,dU q λ_=>rfl⟩
theorem GW:bY Φ .dct0:=by
 intro Γ k X cl EX e c h;apply zK h;intro q1 q2 pos h;apply kH h;intro h;apply kH h;intro h;have q:PE X (.Dict [] [] pos) (tV Φ (bd X cl) EX .dct0):=by refine(Ct (X:=X) (pos:=pos)).imp λσ H Q aN=>?_;obtain⟨ρ,env,h,hE,r,p⟩:=aN;simp only[aK]at p;exact λa ha=>v8 (o:=.dct []) (O:=.dK []) r ha ⟨[],au,(by rw[gR])⟩ p
 exact⟨q,dU q λ_=>rfl⟩
theorem L3(ha:bY Φ a)(hb:bY Φ b):bY Φ (.idx a b):=by
 intro Γ k X cl EX e c h;apply yw h;intro l r pos h;simp only[and_eq_true]at h;have q:PE X (.Subscript l r pos) (tV Φ (bd X cl) EX (.idx a b)):=by refine(OL (Lg (cl:=cl) c.units) (ha Γ k X cl EX l c h.1.2).1 (hb Γ k X cl EX r c h.2).1 (yz h.1.1)).imp λσ H Q aN=>?_;obtain⟨ρ,env,h,hE,r,p⟩:=aN;simp only[aK]at p;refine⟨ρ,env,h,hE,r,aA p λv h1 ρ1 x H1 g1 r1 q1 p1=>⟨ρ1,env,h1,hE.up g1,r1,aA p1 λw h2 ρ2 y H2 g2 r2 q2 p2=>?_⟩⟩;obtain⟨z,e,w'⟩:=cD r2 p2;exact⟨ρ2,h2,v,w,z,r2,VR.up g2 _ _ q1,q2,e,w'⟩
 exact⟨q,dU q λ_=>rfl⟩
def PD(Φ:Fn)(ir:IE)(env:Env):M (Option Int):=if c9 ir=true then ret none else bnd (aK Φ ir env) λv=>bnd (aZ (kj v)) λi=>ret (some i)
def tP(Φ:Fn)(B:Bd)(EX:Nat->List V->Hp->Prop)(ir:IE):TO:=λσ H Q=>∃ρ env h,cL B.K ρ env σ H/\HR B ρ h H/\Post B EX ρ H (λo _ _ H'=>Q o H') (PD Φ ir env h)
theorem BC{i:Int}(h:kj d=some i):d=.int i:=by cases d<;>cases h;rfl
theorem zU(hi:bY Φ ir)(c:Ctx Φ Γ k X cl EX)(h:(match o with|none=>c9 ir|some e=>!c9 ir&&bx Γ ir e)=true):PO X o (tP Φ (bd X cl) EX ir):=by
 cases o with
 |none=>refine FO.imp λσ H Q aN=>?_;obtain⟨ρ,env,h',hE,r,p⟩:=aN;unfold PD at p;rw[aae h]at p;exact aj r p
 |some e=>simp only[and_eq_true,not_eq_true']at h;refine(FP (hi Γ k X cl EX e c h.2).1).imp λσ H Q aN=>?_;obtain⟨ρ,env,h',hE,r,p⟩:=aN;unfold PD at p;rw[aac (by rw[h.1];exact Z3)]at p;refine⟨ρ,env,h',hE,r,aA p λv h1 ρ1 x H1 g1 r1 q1 p1=>?_⟩;obtain⟨i,e1,p2⟩:=bS p1;cases BC e1;rw[VR]at q1;exact⟨i,q1,aj r1 p2⟩
theorem L4{a lo hi:IE}(ha:bY Φ a)(hl:bY Φ lo)(hh:bY Φ hi):bY Φ (.slc a lo hi):=by
 intro Γ k X cl EX e c h;apply yw h;intro l q1 pos h;apply Lw h;intro l' h' q2 p2 h;apply zL h;intro h;simp only[and_eq_true]at h;have q:PE X (.Subscript l (.Slice l' h' none p2) pos) (tV Φ (bd X cl) EX (.slc a lo hi)):=by refine(Cp (Lh (cl:=cl) (EX:=EX)) (ha Γ k X cl EX l c h.1.1).1 (zU hl c h.1.2) (zU hh c h.2)).imp λσ H Q aN=>?_;obtain⟨ρ,env,h,hE,r,p⟩:=aN;simp only[aK]at p;refine⟨ρ,env,h,hE,r,aA p λv h1 ρ1 x H1 g1 r1 q1 p1=>⟨ρ1,env,h1,hE.up g1,r1,bK (m:=PD Φ lo env) p1 λlo' h2 ρ2 H2 g2 r2 p3=>⟨ρ2,env,h2,(hE.up g1).up g2,r2,bK (m:=PD Φ hi env) p3 λhi' h3 ρ3 H3 g3 r3 p4=>?_⟩⟩⟩;exact⟨ρ3,h3,v,r3,VR.up (g2.trans g3) _ _ q1,p4⟩
 exact⟨q,dU q λ_=>rfl⟩
theorem L5(ha:bY Φ a)(hs:bY Φ sx):bY Φ (.rev a sx):=iF λ_ _=>rfl
theorem qd:∀{d9:kQ} {ls:List Expr} {vs:List Val} {h h':Hs},aL Γ d9 ls=true->bB Φ d9 env h=.ok vs h'->vs.length=ls.length:=by
 intro d9
 induction d9 using kQ.rec (motive_1:=λ_=>True) with
 |nil=>
  intro ls ds h h' a b;rw[aL]at a;simp only[bB,ret]at b;cases b;cases ls with
  |nil=>rfl
  |cons _ _=>cases a
 |cons e es _ ih=>
  intro ls ds h h' a b;rw[aL.eq_def]at a;dsimp only at a;cases ls with
  |nil=>cases a
  |cons l ls=>
   simp only[and_eq_true]at a;simp only[bB,bnd]at b;cases e1:aK Φ e env h with
   |ok v h1=>
    rw[e1]at b;dsimp only at b;cases e2:bB Φ es env h1 with
    |ok vs h2=>rw[e2]at b;cases b;simp[ih a.2 e2]
    |exc _ _ _=>rw[e2]at b;cases b
    |no=>rw[e2]at b;cases b
   |exc _ _ _=>rw[e1]at b;cases b
   |no=>rw[e1]at b;cases b
 |_=>trivial
theorem eL{α β:Type}{W:β -> Hs->List Addr->Hp->Prop}{W':α -> Hs->List Addr->Hp->Prop}{m:M α}{f:α -> M β}(p:Post B EX ρ H W (bnd m f h))(k:∀v h1 ρ1 H1,m h=.ok v h1->Gr ρ H ρ1 H1->HR B ρ1 h1 H1->Post B EX ρ1 H1 W (f v h1)->W' v h1 ρ1 H1):Post B EX ρ H W' (m h):=by
 unfold bnd at p;cases e:m h with
 |ok v h1=>rw[e]at p;exact λρ1 H1 g r=>k v h1 ρ1 H1 e g r (Post.up g p)
 |exc c vs h1=>rw[e]at p;exact p
 |no=>rw[e]at p;exact p
theorem sN{α:Type}{W:α -> Hs->List Addr->Hp->Prop}{o:Out α}(n:∀c xs H,EX c xs H->XT c xs H)(p:Post B EX ρ H W o):Post B XT ρ H W o:=by
 cases o with
 |ok a h'=>exact p
 |exc c vs h'=>exact λρ' H' xs g r q=>n _ _ _ (p ρ' H' xs g r q)
 |no=>exact p
theorem ng{α:Type}{W:α -> Hs->List Addr->Hp->Prop}{m:M α}(p:Post B EX ρ H W (calm m h)):Post B NX ρ H W (m h):=by
 unfold calm at p;cases e:m h with
 |ok a h'=>rw[e]at p;exact p
 |exc c vs h'=>rw[e]at p;exact p.elim
 |no=>rw[e]at p;exact p.elim
theorem GX{j:Nat}{k:Nat}(hs:jW Φ es)(c:Ctx Φ Γ k X cl EX)
  (h:(qT Γ.sc x && Γ.fns[j]?==some (x,args.length)&&decide (args.length<1000)&&aL Γ es args)=true):PE X (.Call (.Name x p) args [] pos) (tV Φ (bd X cl) EX (.call j es))/\PT X (.Call (.Name x p) args [] pos) (tT Φ (bd X cl) EX (.call j es)):=by
 simp only[and_eq_true,beq_iff_eq,decide_eq_true_eq]at h;obtain⟨⟨⟨h1,h2⟩,h3⟩,h4⟩:=h;obtain⟨g1,g2,g3⟩:=c.gl h1;have room:dj k X.A:=c.room.mono (aaQ k);have q:PE X (.Call (.Name x p) args [] pos) (tV Φ (bd X cl) EX (.call j es)):=by
  obtain⟨E,hx,hX⟩:=c.Us
  rcases c.fns j x _ h2 with ⟨_,f,fd,ps,f1,f2,f3,f4,f5⟩|⟨z,_⟩|⟨z,_⟩|⟨z,_⟩
  ·cases args with
   |nil=>
    cases es with
    |cons i d9=>rw[aL.eq_def]at h4;cases h4
    |nil=>refine(Cm f5 room g1 f2 f3 f4 .nil hx g2).imp λσ H Q aN=>?_;obtain⟨ρ,env,h,hE,r,p⟩:=aN;simp only[aK,bB,bU]at p;exact⟨ρ,h,[],rfl,r,av.nil,sN hX p⟩
   |cons l ls=>
    cases es with
    |nil=>rw[aL]at h4;cases h4
    |cons i d9=>have h5:=h4;rw[aL.eq_def]at h5;dsimp only at h5;simp only[and_eq_true]at h5;refine(t9 f5 room g1 f2 f3 f4 .nil hx (hs.1 Γ k X cl EX _ c h4) g2 (ak h5.1.1) (jd h5.2)).imp λσ H Q aN=>?_;obtain⟨ρ,env,h,hE,r,p⟩:=aN;simp only[aK]at p;refine⟨ρ,env,h,hE,r,eL p λvs h1 ρ1 H1 e1 g1 r1 p1 xs q1=>⟨ρ1,h1,vs,qd h4 e1,r1,by rw[aaJ];exact q1,sN hX p1⟩⟩
  ·omega
  ·omega
  ·omega
 exact⟨q,dU q λ_=>rfl⟩
theorem GY{j:Nat}(hs:jW Φ es):bY Φ (.call j es):=by
 intro Γ k X cl EX e c h;apply ko h;intro x _ args _ h;exact GX hs c h
theorem L6(ne:H e=none)(nd:H dx=none)(nx:dx≠e):Gr ρ H ρ (Jp H C g y e t dx):=(Gr.side nd).trans (Gr.side (by rw[ao (Ne.symm nx)];exact ne))
theorem PF(r:HR B ρ h H)(ne:H e=none)(nd:H dx=none)(nx:dx≠e):HR B ρ h (Jp H C g y e t dx):=(r.side nd).side (by rw[ao (Ne.symm nx)];exact ne)
theorem JB:Jp H C g y e t dx e=some (.ext (ExcAt e C t (some dx))):=au
theorem JC(nx:dx≠e):Jp H C g y e t dx dx=some (.xd [(g,y)]):=by unfold Jp;rw[ao nx,au]
theorem Du{n:Nat}{g:Str}{vs:List Val}{h:Hs}{P:Out Val->Prop}(h0:P .no->False)(p:P (jb n g vs h)):∃v,vs=[v]/\P (.exc n [.str g,v] h):=by
 unfold jb at p;split at p
 ·exact⟨_,rfl,p⟩
 ·exact⟨_,rfl,p⟩
 ·exact(h0 p).elim
theorem BD{n:Nat}(p:Post B EX ρ H W (K9 x (jb n g [v]) h)):g=x/\Post B EX ρ H W (.ok v h):=by
 obtain⟨v',e,p⟩:=Du (P:=λo=>Post B EX ρ H W (match o with|.exc _ [.str g,w] h'=>if g=x then .ok w h' else .no|_=>.no)) (λz=>z) (show Post B EX ρ H W (match jb n g [v] h with|.exc _ [.str g,w] h'=>if g=x then .ok w h' else .no|_=>.no) from p);cases e;dsimp only at p
 by_cases c:g=x
 ·rw[aae c]at p;exact⟨c,p⟩
 ·rw[aac c]at p;exact p.elim
theorem L7{n:Nat}(ha:bY Φ a):bY Φ (.fld n a x):=by
 intro Γ k X cl EX e c h;apply zJ h;intro o y pos h;apply ko h;intro f p ls cp h;apply oJ h;intro l h;simp only[and_eq_true,beq_iff_eq]at h;obtain⟨⟨⟨⟨h0,h1⟩,h2⟩,h3⟩,h4⟩:=h;subst h0;obtain⟨g1,g2,g3⟩:=c.gl h1
 rcases c.fns n f _ h2 with ⟨z,_⟩|⟨_,g,e0,hm,D,fI,cd,fd,ps,M,F,hb,hl,hn,G⟩|⟨z,_⟩|⟨z,_⟩
 ·omega
 rotate_left
 ·omega
 ·omega
 have q:PE X (.Attribute (.Call (.Name f p) [l] [] cp) x pos) (tV Φ (bd X cl) EX (.fld n a x)):=by have hx:PE X (.Call (.Name f p) [l] [] cp) (K1 (cl (1000+n)) g (Jh (tV Φ (bd X cl) EX a) Ku)):=C7 M F c.room hb hl hn g1 hm (bh (ha Γ k X cl EX l c h4).1 dO (ak h3)) g2 (ak h3);refine(pe_xf (f:=x) hx (super_ok rfl)).imp λσ H Q aN=>?_;obtain⟨ρ,env,h,hE,r,p⟩:=aN;simp only[aK]at p;refine⟨ρ,env,h,hE,r,aA p λv h1 ρ1 y H1 g1 r1 q1 p1=>⟨y,rfl,λe t dx ne nd nx=>?_⟩⟩;rw[e0]at p1;obtain⟨rfl,p2⟩:=BD p1;exact⟨e,cl (1000+n),dx,[(g,y)],y,rfl,.made JB,JC nx,G,hn,by simp,p2 ρ1 _ (L6 ne nd nx) (PF r1 ne nd nx) _ (VR.up (L6 ne nd nx) _ _ q1)⟩
 exact⟨q,dU q λ_=>rfl⟩
theorem L8(ha:bY Φ a)(hs:jW Φ es):bY Φ (.mth a m js es):=by
 intro Γ k X cl EX e c h;apply ko h;intro f p ls cp h;apply oJ h;intro l h;simp only[and_eq_true,beq_iff_eq]at h;obtain⟨⟨⟨h0,h1⟩,h2⟩,h3⟩:=h;revert h2;apply ko h3;intro y p2 l2 Ut h h2;simp only[and_eq_true]at h;obtain⟨⟨h4,h5⟩,h6⟩:=h;revert h5;cases js with
 |nil=>exact(Z3 h6).elim
 |cons pr jr=>
 have h6:(Γ.fns[pr.1]?==some (f,3001)&&((Γ.fns[pr.2]?==some (y,2001)&&l2.length==1)||(Γ.fns[pr.2]?==some (y,2000)&&l2.length==0)))=true:=h6;simp only[and_eq_true,or_eq_true,beq_iff_eq]at h6;obtain⟨h6,h7⟩:=h6;intro h5;obtain⟨g1,g2,g3⟩:=c.gl h1;obtain⟨y1,y2,y3⟩:=c.gl h4
 rcases c.fns pr.1 f _ h6 with ⟨z,_⟩|⟨z,_⟩|⟨z,_⟩|⟨_,ff,fd,ps,hm,hk,hb,FK⟩
 ·omega
 ·omega
 ·omega
 have room:dj k X.A:=c.room.mono (aaQ k);have q:PE X (.Call (.Name f p) [.Call (.Name y p2) l2 [] Ut] [] cp) (tV Φ (bd X cl) EX (.mth a m (pr::jr) es)):=by
  rcases h7 with ⟨h7,h8⟩|⟨h7,h8⟩
  ·rcases c.fns pr.2 y _ h7 with ⟨z,_⟩|⟨_,g,e0,Uu,D,fI,cd,ZS,ZT,M,F,XU,hlx,hn,G⟩|⟨z,_⟩|⟨z,_⟩
   ·omega
   rotate_left
   ·omega
   ·omega
   match l2,h8,h5,h2 with
   |[l3],_,h5,h2=>
   have st3:noStar l3=true:=by
    cases es with
    |nil=>rw[aL]at h5;cases h5
    |cons i d9=>rw[aL.eq_def]at h5;dsimp only at h5;simp only[and_eq_true]at h5;exact h5.1.1
   have hx:PE X (.Call (.Name y p2) [l3] [] Ut) (K1 (cl (1000+pr.2)) g (Uq Φ (bd X cl) EX es)):=C7 M F c.room XU hlx hn y1 Uu (hs.1 Γ k X cl EX _ c h5) y2 (ak st3);refine(t9 FK room g1 hm hk hb .nil zh (bh hx dO (ak h2)) g2 (ak h2) rfl).imp λσ H Q aN=>?_;obtain⟨ρ,env,h,hE,r,p⟩:=aN;simp only[aK]at p;refine⟨ρ,env,h,hE,r,eL p λvs h1 ρ1 H1 e1 g1 r1 p1 xs q1=>?_⟩;rw[e0]at p1;obtain⟨v,rfl,p3⟩:=Du (P:=λo=>Post (bd X cl) EX ρ1 H1 (WV X.K Q) (match o with|.exc c _ h'=>calm (Φ pr.1 [.int (c:Int)]) h'|_=>.no)) (λz=>z) (show Post (bd X cl) EX ρ1 H1 (WV X.K Q) (match jb pr.2 g vs h1 with|.exc c _ h'=>calm (Φ pr.1 [.int (c:Int)]) h'|_=>.no) from p1);have p4:=ng p3;have lx:=q1.length
   match xs,lx with
   |[y],_=>
   refine⟨y,rfl,λe t dx ne nd nx=>?_⟩;exact⟨ρ1,h1,e,pr.2,some dx,rfl,.made JB,⟨_,JC nx⟩,PF r1 ne nd nx,p4.up (L6 ne nd nx)⟩
  ·rcases c.fns pr.2 y _ h7 with ⟨z,_⟩|⟨z,_⟩|⟨_,e0,Uu,D,M⟩|⟨z,_⟩
   ·omega
   ·omega
   rotate_left
   ·omega
   match l2,h8,h5,h2 with
   |[],_,h5,h2=>
   cases es with
   |cons i d9=>rw[aL.eq_def]at h5;cases h5
   |nil=>
   have hx:PE X (.Call (.Name y p2) [] [] Ut) (Jq (cl (1000+pr.2))):=GC M y1 Uu y2;refine(t9 FK room g1 hm hk hb .nil zh (bh hx dO (ak h2)) g2 (ak h2) rfl).imp λσ H Q aN=>?_;obtain⟨ρ,env,h,hE,r,p⟩:=aN;simp only[aK,bB,bU]at p;rw[e0]at p;have p4:=ng (show Post (bd X cl) EX ρ H (WV X.K Q) (calm (Φ pr.1 [.int (pr.2:Int)]) h) from p);intro e t ne;exact⟨ρ,h,e,pr.2,none,rfl,.made au,trivial,r.side ne,p4.up (Gr.side ne)⟩
 exact⟨q,dU q λ_=>rfl⟩
end
section
variable {Φ:Fn} {Γ:qc} {k:Nat} {X:Cx} {cl:Nat->Addr} {EX:Nat->List V->Hp->Prop}
theorem Ma:bootBuiltins "all" = some (.builtin "all"):=by decide +kernel
theorem Mb:bootBuiltins "any" = some (.builtin "any"):=by decide +kernel
theorem sO:bootBuiltins "sorted" = some (.builtin "sorted"):=by decide +kernel
theorem Mc:bootBuiltins "min" = some (.builtin "min"):=by decide +kernel
theorem Mf:bootBuiltins "max" = some (.builtin "max"):=by decide +kernel
theorem zV:bootBuiltins "list" = some (.type "list"):=by decide +kernel
theorem wj:bootBuiltins "tuple" = some (.type "tuple"):=by decide +kernel
theorem Dv:bootBuiltins "str" = some (.type "str"):=by decide +kernel
theorem Dw:bootBuiltins "int" = some (.type "int"):=by decide +kernel
theorem GZ:bootBuiltins "bool" = some (.type "bool"):=by decide +kernel
theorem Hf:bootBuiltins "dict" = some (.type "dict"):=by decide +kernel
theorem Hg:bootBuiltins "isinstance" = some (.builtin "isinstance"):=by decide +kernel
theorem wm:bB Φ #[e] env=bnd (aK Φ e env) λd=>ret [d]:=by
 simp only[bB,bU]
theorem six{T:String}(h:["list","tuple","str","bool","int","dict"].contains T=true):T = "list" \/ T = "tuple" \/ T = "str" \/ T = "bool" \/ T = "int" \/ T = "dict":=by simpa using h
theorem Hh{T:String}(h:["list","tuple","str","bool","int","dict"].contains T=true):(T:Str)∈bltNames/\bootBuiltins (T:Str)=some (.type T)/\(T:Str) ≠ "__name__" /\ ((T:Str)==("__debug__":Str))=false:=by
 rcases six h with rfl|rfl|rfl|rfl|rfl|rfl
 ·exact⟨by decide,zV,by decide,by decide⟩
 ·exact⟨by decide,wj,by decide,by decide⟩
 ·exact⟨by decide,Dv,by decide,by decide⟩
 ·exact⟨by decide,GZ,by decide,by decide⟩
 ·exact⟨by decide,Dw,by decide,by decide⟩
 ·exact⟨by decide,Hf,by decide,by decide⟩
theorem Hi{T:String}(hs:jW Φ es):bY Φ (.blt (.isin T) es):=by
 intro Γ k X cl EX e c h;apply ko h;intro x p args pos h;simp only[and_eq_true,beq_iff_eq]at h;obtain⟨⟨h1,h2⟩,h3⟩:=h;subst h2;obtain⟨g1,g2,g3⟩:=c.gl h1;split at h3<;>first|cases h3|skip
 rename_i a y yp;simp only[and_eq_true,beq_iff_eq]at h3;obtain⟨⟨⟨k1,k2⟩,k3⟩,k4⟩:=h3;obtain⟨b1,b2,b3,b4⟩:=Hh k3;obtain⟨y1,y2,y3⟩:=c.gl k1;subst k2;cases es with
 |nil=>rw[aL]at k4;cases k4
 |cons i d9=>
  rw[aL.eq_def]at k4;dsimp only at k4;simp only[and_eq_true]at k4;cases d9 with
  |cons j d9=>have:=k4.2;rw[aL.eq_def]at this;cases this
  |nil=>
   have q:PE X (.Call (.Name (Py (.isin T)) p) [a,.Name (T:Str) yp] [] pos) (tV Φ (bd X cl) EX (.blt (.isin T) #[i])):=by refine(cA (GI (cl:=cl) (EX:=EX) (T:=T)) g1 (c.blt _ (show ("isinstance":Str)∈bltNames by decide)) Hg (bh (hs.2.1 Γ k X cl EX a c k4.1.2).1 (bh (tY (v:=.ty T) y1 (c.blt _ b1) b2 rfl b3 b4) dO) (ak k4.1.1)) g3 g2 (ak k4.1.1)).imp λσ H Q aN=>?_;obtain⟨ρ,env,h,hE,r,p⟩:=aN;simp only[aK,wm,aM,bU]at p;exact⟨ρ,env,h,hE,r,aA p λv h1 ρ1 x H1 g1 r1 q1 p1=>⟨ρ1,h1,v,x,rfl,r1,q1,p1⟩⟩
   exact⟨q,dU q λ_=>rfl⟩
theorem Mg:bootBuiltins "set" = some (.type "set"):=by decide +kernel
theorem Hj(ha:bY Φ a):bY Φ (.sset a):=by
 intro Γ k X cl EX e c h;apply ko h;intro x p1 q1 pos1 h;apply oJ h;intro q2 h;apply ko h;intro y p2 q3 pos2 h;apply oJ h;intro l h;simp only[and_eq_true,beq_iff_eq]at h;obtain⟨⟨⟨⟨⟨h1,h2⟩,h3⟩,h4⟩,h5⟩,h6⟩:=h;subst h1;subst h2;have q:PE X (.Call (.Name "sorted" p1) [.Call (.Name "set" p2) [l] [] pos2] [] pos1) (tV Φ (bd X cl) EX (.sset a)):=by have qe:=(ha Γ k X cl EX l c h6).1;intro pins s σ H Q I hh;have hd:X.A.handled=none:=I.ok.hd c.calm;refine((Gm hd (c.gl h3).1 (c.blt _ (by decide)) (c.gl h4).1 (c.blt _ (by decide)) sO Mg qe (ak (env:=X.env) (es:=[]) h5)).imp λσ H Q ⟨ρ,env,h,hE,r,p⟩=>?_) pins s σ H Q I hh;simp only[aK]at p;refine⟨ρ,env,h,hE,r,aA p λv h1 ρ1 x H1 g1 r1 q1 p1=>?_⟩;obtain⟨zs,e,p1⟩:=aE p1;obtain⟨ns,e1,p1⟩:=bS p1;obtain⟨e2,p1⟩:=aJ p1;obtain⟨b,ys,rfl,q2,q3⟩:=dS r1 q1 e;rw[eG e1]at q3;rw[av.ints.mp q3]at q2;exact⟨b,ns,rfl,q2,aav e2,λl hl=>dF r1 hl (av.ints.mpr rfl) p1⟩
 exact⟨q,dU q λ_=>rfl⟩
theorem Hl{d k x:IE}(hd:bY Φ d)(hk:bY Φ k)(hx:bY Φ x):bY Φ (.dget d k x):=iF λ_ _=>rfl
theorem Dy(hd:bY Φ d):bY Φ (.lkeys d):=iF λ_ _=>rfl
theorem Ho{d k x:IE}(hd:bY Φ d)(hk:bY Φ k)(hx:bY Φ x):bY Φ (.sdef d k x):=iF λ_ _=>rfl
theorem Dz(hd:bY Φ d):bY Φ (.skeys d):=iF λ_ _=>rfl
theorem DA(hd:bY Φ d):bY Φ (.svals d):=iF λ_ _=>rfl
theorem Mh(hs:jW Φ es):bY Φ (.blt b es):=by
 cases b with
 |isin T=>exact Hi hs
 |_=>
  intro Γ k X cl EX e c h;apply ko h;intro x p args pos h;simp only[and_eq_true,beq_iff_eq]at h;obtain⟨⟨h1,h2⟩,h3⟩:=h;subst h2;obtain⟨g1,g2,g3⟩:=c.gl h1;cases args with
  |nil=>cases h3.1
  |cons l ls=>
   cases es with
   |nil=>have:=h3.2;rw[aL]at this;cases this
   |cons i d9=>
    have h5:=h3.2;rw[aL.eq_def]at h5;dsimp only at h5;simp only[and_eq_true]at h5;have hA:=hs.1 Γ k X cl EX _ c h3.2;have st:=ak (env:=X.env) (es:=ls) h5.1.1;have an:=jd (pos:=pos) (env:=X.env) h5.2;refine(λq=>⟨q,dU q λ_=>rfl⟩) ?_
    first
     |refine(cA (Li (cl:=cl) (EX:=EX)) g1 (c.blt _ (by decide)) PySem.boot_len hA g3 g2 st an).imp λσ H Q ⟨ρ,env,h,hE,r,p⟩=>?_
     |refine(cA (Lj (cl:=cl) (EX:=EX) c.calm) g1 (c.blt _ (by decide)) Mc hA g3 g2 st an).imp λσ H Q ⟨ρ,env,h,hE,r,p⟩=>?_
     |refine(cA (Lk (cl:=cl) (EX:=EX) c.calm) g1 (c.blt _ (by decide)) Mf hA g3 g2 st an).imp λσ H Q ⟨ρ,env,h,hE,r,p⟩=>?_
     |refine(cA (Bt (cl:=cl) (EX:=EX)) g1 (c.blt _ (by decide)) sO hA g3 g2 st an).imp λσ H Q ⟨ρ,env,h,hE,r,p⟩=>?_
     |refine(cA (Lo (cl:=cl) (EX:=EX) c.calm) g1 (c.blt _ (by decide)) Ma hA g3 g2 st an).imp λσ H Q ⟨ρ,env,h,hE,r,p⟩=>?_
     |refine(cA (Lp (cl:=cl) (EX:=EX) c.calm) g1 (c.blt _ (by decide)) Mb hA g3 g2 st an).imp λσ H Q ⟨ρ,env,h,hE,r,p⟩=>?_
     |refine(jA (GG (cl:=cl) (EX:=EX)) g1 (c.blt _ (by decide)) zV hA g3 g2 st an).imp λσ H Q ⟨ρ,env,h,hE,r,p⟩=>?_
     |refine(jA (De (cl:=cl) (EX:=EX)) g1 (c.blt _ (by decide)) wj hA g3 g2 st an).imp λσ H Q ⟨ρ,env,h,hE,r,p⟩=>?_
     |refine(jA (Ll (cl:=cl) (EX:=EX)) g1 (c.blt _ (by decide)) Dv hA g3 g2 st an).imp λσ H Q ⟨ρ,env,h,hE,r,p⟩=>?_
     |refine(jA (Lm (cl:=cl) (EX:=EX)) g1 (c.blt _ (by decide)) Dw hA g3 g2 st an).imp λσ H Q ⟨ρ,env,h,hE,r,p⟩=>?_
    simp only[aK]at p;exact⟨ρ,env,h,hE,r,bK p λvs h1 ρ1 H1 g1 r1 p1 xs q1=>⟨ρ1,h1,vs,r1,q1,p1⟩⟩
def V8:Me->String
 |.join=>"str" | .append=>"list" | .extend=>"list" | .remove=>"list"
theorem Hq(r:HR B ρ h H)(q:VR B.K ρ H v x)(e:recv h m v=some ()):Tp B.K (V8 m) x H:=by
 cases m<;>cases v<;>simp only[recv]at e<;>first|cases e|skip
 ·rw[VR]at q;subst q;rfl
 all_goals
  split at e
  ·rename_i xs e1;obtain⟨a,ys,rfl,q0,q1,q2⟩:=jG r q e1;exact .inl ⟨rfl,ys,.inl (.inl q1)⟩
  ·cases e
theorem Mi(ha:bY Φ a)(hs:jW Φ es):bY Φ (.met m a es):=by
 intro Γ k X cl EX e c h;apply Pk h;intro o x ap args cp h;simp only[and_eq_true,beq_iff_eq]at h;obtain⟨⟨⟨⟨⟨⟨h1,h2⟩,h3⟩,h4⟩,h5⟩,h6⟩,h7⟩:=h;subst h1;cases args with
 |nil=>cases h3
 |cons l ls=>
  have hA:=hs.1 Γ k X cl EX _ c h7;have h8:noStar l=true/\∃d9,aL Γ d9 ls=true:=by
   cases es with
   |nil=>rw[aL]at h7;cases h7
   |cons i d9=>rw[aL.eq_def]at h7;dsimp only at h7;simp only[and_eq_true]at h7;exact⟨h7.1.1,d9,h7.2⟩
  obtain⟨n1,d9,n2⟩:=h8;have st:=ak (env:=X.env) (es:=ls) n1;have an:=jd (pos:=cp) (env:=X.env) n2;have few:((backTo cp (starEach (l::ls) X.env)).all (λx=>!x.1)&&(backToKw cp (keywordEach [] X.env)).all (λx=>x.1.isSome)
   && decide ((l::ls).length+([]:List Keyword).length+(if ([]:List Keyword).isEmpty then 0 else 1)<30))=true:=by
   rw[Ds h7];have:(l::ls).length<29:=aav h4;simp only[Bool.true_and,and_eq_true];exact⟨rfl,decide_eq_true (by simp at this |-;omega)⟩
  have hl:(ap.endLine==cp.line)=true:=by rw[h5];exact beq_self_eq_true _
  refine(λq=>⟨q,dU q λ_=>rfl⟩) ?_;have fin:∀(T:String) (r:V->List V->Hp->VK->Prop),(∀x xs H Q,Pd (bd X cl) EX m x xs H Q->r x xs H Q)->T=V8 m->∀σ H Q,tV Φ (bd X cl) EX (.met m a es) σ H Q->VJ X.K T r (tV Φ (bd X cl) EX a) (Uq Φ (bd X cl) EX es) σ H Q:=by rintro T rr hr rfl σ H Q ⟨ρ,env,h,hE,r,p⟩;simp only[aK]at p;refine⟨ρ,env,h,hE,r,aA p λv h1 ρ1 x H1 g1 r1 q1 p1=>?_⟩;obtain⟨_,e1,p2⟩:=aE p1;refine⟨Hq r1 q1 e1,ρ1,env,h1,hE.up g1,r1,bK p2 λvs h2 ρ2 H2 g2 r2 p3 xs q2=>hr _ _ _ _ ⟨ρ2,h2,v,vs,r2,VR.up g2 _ _ q1,q2,p3⟩⟩
  cases m with
  |join=>exact(zf PySem.F.plainAttrs_str PySem.F.slot_str_join PySem.F.type_str_join (GJ (cl:=cl) (EX:=EX)) (ha Γ k X cl EX o c h6).1 hA (super_ok h2) few hl st an).imp (fin _ _ (λ_ _ _ _ z=>z) rfl)
  |append=>exact(zf abW PySem.F.slot_list_append PySem.F.type_list_append (Bu (cl:=cl) (EX:=EX)) (ha Γ k X cl EX o c h6).1 hA (super_ok h2) few hl st an).imp (fin _ _ (λ_ _ _ _ z=>z) rfl)
  |extend=>exact(zf abW PySem.F.slot_list_extend PySem.F.type_list_extend (Bv (cl:=cl) (EX:=EX)) (ha Γ k X cl EX o c h6).1 hA (super_ok h2) few hl st an).imp (fin _ _ (λ_ _ _ _ z=>z) rfl)
  |remove=>exact(zf abW PySem.F.slot_list_remove PySem.F.type_list_remove (Bw (cl:=cl) (EX:=EX)) (ha Γ k X cl EX o c h6).1 hA (super_ok h2) few hl st an).imp (fin _ _ (λ_ _ _ _ z=>z) rfl)
end
theorem _root_.L2.PI.or(h:PI X tg iter t)(h':PI X tg iter t'):PI X tg iter (λσ H R=>t σ H R\/t' σ H R):=λpins s σ H R I hw=>hw.elim (h pins s σ H R I) (h' pins s σ H R I)
structure Walks (B:Bd) (src:Src) (J:It) (ρ1:List Addr) (H1:Hp):Prop where
 stop:∀{ρ h H i xs},Gw ρ1 H1 ρ H->HR B ρ h H->src.items h=some xs->xs.length<=i->J.stop i H
 go:∀{ρ h H i xs v},Gw ρ1 H1 ρ H->HR B ρ h H->src.items h=some xs->xs[i]?=some v->J.go i H
 xP:∀{ρ h H i xs v y H'},Gw ρ1 H1 ρ H->HR B ρ h H->src.items h=some xs->xs[i]?=some v->J.xP i H y H'->Gr ρ H ρ H'/\HR B ρ h H'/\VR B.K ρ H' v y
section
variable {B:Bd} {ρ1:List Addr} {H1:Hp} {a:Addr}
theorem BE(q:iy B.K H1 a xs)(e:av B.K ρ1 H1 vs xs):Walks B (.fix vs) (S6 B.K a) ρ1 H1 where
 stop:=λg r hi hl=>by
  cases hi;exact⟨xs,g.Sm q,by rw[<-e.length];exact hl⟩
 go:=λg r hi hv=>by
  cases hi;obtain⟨x,k1,_⟩:=e.get hv;exact⟨xs,x,g.Sm q,k1⟩
 xP:=λg r hi hv y=>by
  cases hi;obtain⟨rfl,y⟩:=y;obtain⟨x,k1,k2⟩:=e.get hv;have:=y xs (g.Sm q);rw[k1]at this;cases this;exact⟨Gr.refl,r,VR.jV g _ _ k2⟩
theorem DC(q:Jt B.K H1 a xs)(e:av B.K ρ1 H1 vs xs):Walks B (.fix vs) (R8 B.K a) ρ1 H1 where
 stop:=λg r hi hl=>by
  cases hi;exact⟨xs,(g.Lc q).sq,by rw[<-e.length];exact hl⟩
 go:=λg r hi hv=>by
  cases hi;obtain⟨x,k1,_⟩:=e.get hv;exact⟨xs,x,(g.Lc q).sq,k1⟩
 xP:=λg r hi hv y=>by
  cases hi;obtain⟨rfl,y⟩:=y;obtain⟨x,k1,k2⟩:=e.get hv;have:=y xs (g.Lc q).sq;rw[k1]at this;cases this;exact⟨Gr.refl,r,VR.jV g _ _ k2⟩
theorem jH{i:Nat}(q:ρ1[i]?=some a)(g:Gw ρ1 H1 ρ H)(r:HR B ρ h H)(hi:(Src.live i).items h=some xs):∃ys,fR B.K H a ys/\av B.K ρ H xs ys:=by
 obtain⟨b,ys,e,k1,k2⟩:=dS r (VR.ref (zA g.pre q)) (show aF h (.ref i)=some xs from hi);cases e;exact⟨ys,k1,k2⟩
theorem yC{i:Nat}(q:ρ1[i]?=some a):Walks B (.live i) (R8 B.K a) ρ1 H1 where
 stop:=λg r hi hl=>by
  obtain⟨ys,k1,k2⟩:=jH q g r hi;exact⟨ys,k1,by rw[<-k2.length];exact hl⟩
 go:=λg r hi hv=>by
  obtain⟨ys,k1,k2⟩:=jH q g r hi;obtain⟨x,k3,_⟩:=k2.get hv;exact⟨ys,x,k1,k3⟩
 xP:=λg r hi hv y=>by
  obtain⟨ys,k1,k2⟩:=jH q g r hi;obtain⟨rfl,y⟩:=y;obtain⟨x,k3,k4⟩:=k2.get hv;have:=y ys k1;rw[k3]at this;cases this;exact⟨Gr.refl,r,k4⟩
theorem gD(lo:Int)(n:Nat):(ck lo n).length=n:=by unfold ck;simp
theorem nW{lo:Int}{n:Nat}:Walks B (.fix (ck lo n)) (Ov lo n) ρ1 H1 where
 stop:=λg r hi hl=>by
  cases hi;rw[gD]at hl;exact hl
 go:=λg r hi hv=>by
  cases hi;have:=(Z9.mp hv).1;rw[gD]at this;exact this
 xP:=λ{ρ h H i xs v y H'} g r hi hv y'=>by
  cases hi;obtain⟨rfl,rfl⟩:=y';have hl:=(Z9.mp hv).1;rw[gD]at hl;have e:(ck lo n)[i]?=some (.int (lo+i)):=by unfold ck;simp[hl]
  rw[e]at hv;cases hv;exact⟨Gr.refl,r,VR.int⟩
theorem fL:∀(i:Nat) (ds:List Val),(bW i ds).length=ds.length
 |_,[]=>rfl
 |i,d::r=>by simp[bW,fL (i+1) r]
theorem sP:∀(k:Nat) (ds:List Val) (i:Nat) (d:Val),ds[i]?=some d->(bW k ds)[i]?=some (.tup [.int ((k+i:Nat):Int),d])
 |_,[],_,_,h=>by simp at h
 |k,e::r,0,d,h=>by simp at h;subst h;simp[bW]
 | k,e::r,i+1,d,h=>by
  have:=sP (k+1) r i d (by simpa using h);simp only[bW,getElem?_cons_succ];rw[this];have e1:k+1+i=k+(i+1):=by omega
  rw[e1]
theorem nh{i:Nat}(e:(bW 0 ds)[i]?=some v):∃d,ds[i]?=some d/\v=.tup [.int (i:Int),d]:=by
 have hl:=(Z9.mp e).1;rw[fL]at hl;have e1:=sP 0 ds i ds[i] (aaA hl);rw[e]at e1;cases e1;exact⟨ds[i],aaA hl,by rw[Nat.zero_add]⟩
theorem wo{i:Nat}(r:HR B ρ h H)(k1:fR B.K H a ys)(k2:av B.K ρ H xs ys)(hv:(bW 0 xs)[i]?=some v)(hy:(OV B.K a).xP i H y H'):Gr ρ H ρ H'/\HR B ρ h H'/\VR B.K ρ H' v y:=by
 obtain⟨p,w,hn,rfl,rfl,hy⟩:=hy;obtain⟨d,e1,rfl⟩:=nh hv;obtain⟨x,k3,k4⟩:=k2.get e1;have:=hy ys k1;rw[k3]at this;cases this;exact⟨Gr.side hn,r.side hn,VR.tup (iy.of au) (av.cons VR.int (av.cons (VR.up (Gr.side hn) _ _ k4) av.nil))⟩
theorem wu(q:Jt B.K H1 a xs)(e:av B.K ρ1 H1 vs xs):Walks B (.fix (bW 0 vs)) (OV B.K a) ρ1 H1 where
 stop:=λg r hi hl=>by
  cases hi;rw[fL]at hl;exact⟨xs,(g.Lc q).sq,by rw[<-e.length];exact hl⟩
 go:=λg r hi hv=>by
  cases hi;obtain⟨d,e1,_⟩:=nh hv;obtain⟨x,k1,_⟩:=e.get e1;exact⟨xs,x,(g.Lc q).sq,k1⟩
 xP:=λg r hi hv y=>by
  cases hi;exact wo r (g.Lc q).sq (av.jV g _ _ e) hv y
theorem wz{i:Nat}(q:ρ1[i]?=some a):Walks B (.enum i) (OV B.K a) ρ1 H1 where
 stop:=λg r hi hl=>by
  obtain⟨zs,e1,rfl⟩:=aaw.mp hi;obtain⟨ys,k1,k2⟩:=jH q g r e1;rw[fL]at hl;exact⟨ys,k1,by rw[<-k2.length];exact hl⟩
 go:=λg r hi hv=>by
  obtain⟨zs,e1,rfl⟩:=aaw.mp hi;obtain⟨ys,k1,k2⟩:=jH q g r e1;obtain⟨d,e2,_⟩:=nh hv;obtain⟨x,k3,_⟩:=k2.get e2;exact⟨ys,x,k1,k3⟩
 xP:=λg r hi hv y=>by
  obtain⟨zs,e1,rfl⟩:=aaw.mp hi;obtain⟨ys,k1,k2⟩:=jH q g r e1;exact wo r k1 k2 hv y
end
section
variable {Φ:Fn} {Γ:qc} {k:Nat} {X:Cx} {cl:Nat->Addr} {EX:Nat->List V->Hp->Prop}
def N3(Φ:Fn)(ik:Ik)(it:kQ)(env:Env):M Src:=bnd (bB Φ it env) λits=>aZ (srcOf ik its)
def tI(Φ:Fn)(B:Bd)(EX:Nat->List V->Hp->Prop)(ik:Ik)(it:kQ):TI:=λσ H R=>∃ρ env h,cL B.K ρ env σ H/\HR B ρ h H /\
 Post B EX ρ H (λsrc h' ρ' H'=>(∃xs,src.items h'=some xs)/\∀J,Walks B src J ρ' H'->R J H') (N3 Φ ik it env h)
theorem JD(hs:jW Φ it)(c:Ctx Φ Γ k X cl EX)(h:zR Γ ik it iter=true)(ht:ik=.enum\/ik=.zip->∃es kk pos,tg=.Tuple es kk pos):PI X tg iter (tI Φ (bd X cl) EX ik it)/\∀x,foldedSetIterable iter X.env x=pure x:=by
 cases it with
 |nil=>rw[zR]at h;cases h
 |cons e es=>
  cases ik with
  |seq=>
   replace h:=Dq h;obtain⟨rfl,h⟩:=h;simp only[and_eq_true]at h;have q:=(hs.2.1 Γ k X cl EX iter c h.2).1;refine⟨((FF q).or (Ke q)).imp λσ H R ⟨ρ,env,h,hE,r,p⟩=>?_,λx=>?_⟩
   ·simp only[N3,wm,aM,bU]at p
    have key:∀(Q:VK),(∀v h1 ρ1 x H1,aK Φ e env h=.ok v h1->Gr ρ H ρ1 H1->HR (bd X cl) ρ1 h1 H1->VR X.K ρ1 H1 v x->Post (bd X cl) EX ρ1 H1 (λsrc h' ρ' H'=>(∃xs,src.items h'=some xs)/\∀J,Walks (bd X cl) src J ρ' H'->R J H') (aZ (srcOf .seq [v]) h1)->Q x H1)->tV Φ (bd X cl) EX e σ H Q:=λQ kk=>
     ⟨ρ,env,h,hE,r,eL p λv h1 ρ1 H1 e1 g1 r1 p1 x q1=>kk v h1 ρ1 x H1 e1 g1 r1 q1 p1⟩
    cases ev:aK Φ e env h with
    |ok v h1=>
     cases v with
     |tup vs=>refine .inr (key _ λv h1 ρ1 x H1 e1 g1 r1 q1 p1=>?_);rw[ev]at e1;cases e1;obtain⟨src,e2,w1,w2⟩:=cF r1 p1;cases e2;rw[VR]at q1;obtain⟨a,xs,rfl,k1,k2⟩:=q1;exact⟨a,rfl,⟨xs,k1⟩,w2 _ (BE k1 k2)⟩
     |rl vs=>refine .inl (key _ λv h1 ρ1 x H1 e1 g1 r1 q1 p1=>?_);rw[ev]at e1;cases e1;obtain⟨src,e2,w1,w2⟩:=cF r1 p1;cases e2;rw[VR]at q1;obtain⟨a,xs,rfl,k1,k2⟩:=q1;exact⟨a,rfl,⟨xs,k1.sq⟩,w2 _ (DC k1 k2)⟩
     |ref i=>refine .inl (key _ λv h1 ρ1 x H1 e1 g1 r1 q1 p1=>?_);rw[ev]at e1;cases e1;obtain⟨src,e2,⟨zs,w1⟩,w2⟩:=cF r1 p1;cases e2;have q0:=q1;rw[VR]at q1;obtain⟨a,rfl,k1⟩:=q1;obtain⟨b,ys,e3,k2,k3⟩:=dS r1 q0 (show aF h1 (.ref i)=some zs from w1);cases e3;exact⟨a,rfl,⟨ys,k2⟩,w2 _ (yC k1)⟩
     |_=>refine .inl (key _ λv h1 ρ1 x H1 e1 g1 r1 q1 p1=>?_);rw[ev]at e1;cases e1;obtain⟨src,e2,_⟩:=cF r1 p1;cases e2
    |exc _ _ _=>exact .inl (key _ λv h1 ρ1 x H1 e1=>by rw[ev]at e1;cases e1)
    |no=>exact .inl (key _ λv h1 ρ1 x H1 e1=>by rw[ev]at e1;cases e1)
   ·cases iter<;>first|rfl|(exact absurd h.1 Z3)
  |range=>
   apply ko h;intro x xp q1 pos h;apply yx h;intro a args h;simp only[and_eq_true,beq_iff_eq]at h;obtain⟨⟨⟨⟨⟨h1,h2⟩,h3⟩,h4⟩,h5⟩,h6⟩:=h;subst h1;obtain⟨g1,g2,g3⟩:=c.gl h2;have hm:=c.blt _ (show ("range":Str)∈bltNames by decide);refine⟨?_,λx=>rfl⟩;have hA:=hs.1 Γ k X cl EX (a::args) c (by rw[aL.eq_def];simp[h3,h4,h5]);cases args with
   |nil=>
    cases es with
    |cons i d9=>rw[aL.eq_def]at h5;cases h5
    |nil=>
     refine(AB g1 hm hA (ak h3)).imp λσ H R aN=>?_;obtain⟨ρ,env,h,hE,r,p⟩:=aN;refine⟨ρ,env,h,hE,r,eL p λvs h1 ρ1 H1 e1 V9 r1 p1 xs q1=>?_⟩;obtain⟨src,e2,w1,w2⟩:=cF r1 p1
     match vs,e2 with
     |[.int n],e2=>
      change (if inR n=true then some (Src.fix (ck 0 n.toNat)) else none)=some src at e2;split at e2
      ·rename_i hn;cases e2;simp only[inR,and_eq_true,decide_eq_true_eq]at hn;obtain⟨x,rfl,hx⟩:=av.one q1;rw[VR]at hx;subst hx;exact⟨n,rfl,hn.1,hn.2,w2 _ nW⟩
      ·cases e2
     |[.int _,.int _],e2=>have:=qd (Γ:=Γ) (ls:=[a]) (by rw[aL.eq_def];simp[h3,h4,aL]) e1;simp at this
   |cons b args=>
    cases args with
    |cons _ _=>have:=aav h6;simp only[length_cons]at this;omega
    |nil=>
     have hb:noStar b=true:=by
      cases es with
      |nil=>rw[aL]at h5;cases h5
      |cons i d9=>rw[aL.eq_def]at h5;dsimp only at h5;simp only[and_eq_true]at h5;exact h5.1.1
     refine(AD g1 hm hA (by rw[ak h3,ak hb];rfl) (by rw[ak hb];rfl)).imp λσ H R aN=>?_;obtain⟨ρ,env,h,hE,r,p⟩:=aN;refine⟨ρ,env,h,hE,r,eL p λvs h1 ρ1 H1 e1 V9 r1 p1 xs q1=>?_⟩;obtain⟨src,e2,w1,w2⟩:=cF r1 p1
     match vs,e2 with
     |[.int _],e2=>have:=qd (Γ:=Γ) (ls:=[a,b]) (by rw[aL.eq_def];simp[h3,h4,h5]) e1;simp at this
     |[.int lo,.int hi],e2=>
      change (if (inR lo&&inR hi)=true then some (Src.fix (ck lo (hi-lo).toNat)) else none)=some src at e2;split at e2
      ·rename_i hn;cases e2;simp only[inR,and_eq_true,decide_eq_true_eq]at hn;obtain⟨x,y,rfl,hx,hy⟩:=av.two q1;rw[VR]at hx;rw[VR]at hy;subst hx;subst hy;exact⟨lo,hi,rfl,⟨hn.1.1,hn.1.2,hn.2.1,hn.2.2⟩,w2 _ nW⟩
      ·cases e2
  |enum=>
   replace h:=Dq h;obtain⟨rfl,h⟩:=h;apply ko h;intro x xp q1 pos h;apply oJ h;intro a h;simp only[and_eq_true,beq_iff_eq]at h;obtain⟨⟨⟨h1,h2⟩,h3⟩,h4⟩:=h;subst h1;obtain⟨g1,g2,g3⟩:=c.gl h2;have hm:=c.blt _ (show ("enumerate":Str)∈bltNames by decide);obtain⟨ZU,tk,tp,rfl⟩:=ht (.inl rfl);refine⟨?_,λx=>rfl⟩;have hA:=hs.1 Γ k X cl EX [a] c (by rw[aL.eq_def];simp[h3,h4,aL]);refine(Gh g1 hm hA (ak h3)).imp λσ H R aN=>?_;obtain⟨ρ,env,h,hE,r,p⟩:=aN;refine⟨ρ,env,h,hE,r,eL p λvs h1 ρ1 H1 e1 V9 r1 p1 xs q1=>?_⟩;obtain⟨src,e2,⟨zs,w1⟩,w2⟩:=cF r1 p1
   match vs,e2 with
   |[.rl ws],e2=>cases e2;obtain⟨x,rfl,hx⟩:=av.one q1;rw[VR]at hx;obtain⟨b,ys,rfl,k1,k2⟩:=hx;exact⟨b,rfl,⟨ys,k1.sq⟩,w2 _ (wu k1 k2)⟩
   |[.ref i],e2=>cases e2;obtain⟨x,rfl,hx⟩:=av.one q1;obtain⟨us,w3,_⟩:=aaw.mp w1;obtain⟨b,ys,rfl,k2,k3⟩:=dS r1 hx w3;rw[VR]at hx;obtain⟨b',e3,k1⟩:=hx;cases e3;exact⟨b,rfl,⟨ys,k2⟩,w2 _ (wz k1)⟩
  |zip=>cases h
end
section
variable {Φ:Fn} {Γ:qc} {k:Nat} {X:Cx} {cl:Nat->Addr} {EX:Nat->List V->Hp->Prop}
def qf:List Nat->NS
 |[]=>Oq
 |i::is=>Je (nN i) (qf is)
def yD(K:Frag):yu->TG
 |.one i=>nN i
 |.tup is=>Ot K is.length (qf is)
def gE:List Nat->List V->L2.St->L2.St
 |i::is,v::vs,σ=>gE is vs (σ.set i (some v))
 |_,_,σ=>σ
theorem nj:∀{is:List Nat} {vs:List V} {σ:L2.St} {H:Hp} {Q:L2.St->Hp->Prop},vs.length=is.length->Q (gE is vs σ) H->qf is vs σ H Q
 |[],[],_,_,_,_,h=>⟨rfl,h⟩
 |i::is,v::vs,σ,H,Q,hl,h=>⟨v,vs,rfl,nj (by simpa using hl) h⟩
theorem sQ(hnd:X.N.Nodup):∀{is:List Nat} {es:List Expr},es.length=is.length->(∀p∈is.zip es,∃x pos,p.2=.Name x pos/\X.N[p.1]?=some x/\X.env.scope.names.lookup x=some .local)->NT X es (qf is)
 |[],[],_,_=>yZ
 | i::is,e::es,hl,h=>by
  obtain⟨x,pos,rfl,h1,h2⟩:=h (i,e) (by simp);exact vn (gj hnd h1 (.inl h2) (.inr h2)) (sQ hnd (by simpa using hl) λp hp=>h p (by simp[hp]))
theorem fZ:∀{es:List Expr},(∀e∈es,∃x pos,e=.Name x pos)->(assignEach es env).length=es.length/\(assignEach es env).findIdx? (·.1)=none
 |[],_=>⟨rfl,rfl⟩
 | e::es,h=>by
  obtain⟨x,pos,rfl⟩:=h e aad;obtain⟨h1,h2⟩:=fZ (env:=env) (es:=es) λe he=>h e (Z6 _ he);have e1:assignEach (Expr.Name x pos::es) env=(false,assign (Expr.Name x pos) env)::assignEach es env:=rfl;rw[e1];refine⟨by simp[h1],?_⟩;rw[List.findIdx?_cons,h2];rfl
theorem DE{i:Nat}(h:By Γ (.one i) tg=true):∃x p,tg=.Name x p:=by
 cases tg<;>first|exact⟨_,_,rfl⟩|exact absurd h Z3
theorem wB{is:List Nat}(h:By Γ (.tup is) tg=true):∃es k p,tg=.Tuple es k p:=by
 cases tg<;>first|exact⟨_,_,_,rfl⟩|exact absurd h Z3
theorem Mj(c:Ctx Φ Γ k X cl EX)(hnd:X.N.Nodup)(h:By Γ pat tg=true):PG X tg (yD X.K pat):=by
 cases pat with
 |one i=>obtain⟨x,xp,rfl⟩:=DE h;simp only[By,and_eq_true,beq_iff_eq]at h;obtain⟨h1,h2⟩:=h;exact gj hnd (by rw[c.N];exact h1) (.inl (by rw[c.sc];exact h2)) (.inr (by rw[c.sc];exact h2))
 |tup is=>
  obtain⟨es,kk,pos,rfl⟩:=wB h
  ·
   simp only[By,and_eq_true,beq_iff_eq,all_eq_true]at h;obtain⟨h1,h2⟩:=h;have names:∀p∈is.zip es,∃x pos,p.2=.Name x pos/\X.N[p.1]?=some x/\X.env.scope.names.lookup x=some .local:=λp hp=>by
    have q:=h2 p hp;cases ep:p.2<;>rw[ep]at q<;>simp at q;rename_i x pos';exact⟨x,pos',rfl,by rw[c.N];exact q.1,by rw[c.sc];exact q.2⟩
   have all:∀e∈es,∃x pos,e=.Name x pos:=λe he=>by
    obtain⟨n,hn,rfl⟩:=ach he;have hm:(is[n]'(by omega),es[n])∈is.zip es:=ab3.mpr ⟨n,by rw[abI];simp[hn]⟩;obtain⟨x,pos,q,_⟩:=names _ hm;exact⟨x,pos,q⟩
   obtain⟨l1,l2⟩:=fZ (env:=X.env) all;exact B9 c.calm (sQ hnd h1 names) (by rw[l1,h1]) l2
theorem Hr(c:Ctx Φ (Γ.Bx scope N') k (bD X scope N' cls C s H fp) cl EX)(hnd:N'.Nodup)(h:Pz (Γ.Bx scope N') scope pat tg=true):PG (bD X scope N' cls C s H fp) tg (yD X.K pat):=by
 cases pat with
 |one i=>
  apply o4 (show lU (λx _=>(Γ.Bx scope N').N[i]?==some x&&((Γ.Bx scope N').sc.names.lookup x==some .local||((Γ.Bx scope N').sc.names.lookup x==some .cell&&scope.names.lookup x==some .cell))) tg=true from h);intro x xp h;simp only[and_eq_true,or_eq_true,beq_iff_eq]at h;obtain⟨h1,h2⟩:=h
  rcases h2 with h2|h2
  ·exact gj hnd h1 (.inl (by rw[c.sc];exact h2)) (.inr (by rw[c.sc];exact h2))
  ·exact gj hnd h1 (.inr (by rw[c.sc];exact h2.1)) (.inl (show (scope.names.lookup x==some .cell)=true by rw[h2.2];rfl))
 |tup is=>exact Mj c hnd h
def wC(Γ:qc):yu->Expr->Bool
 |.one i,.Name x _=>Γ.N[i]?==some x&&(Γ.sc.names.lookup x==some .local || Γ.sc.names.lookup x==some .cell)
 | .tup is,.Tuple es _ _=>es.length==is.length&&(is.zip es).all λp=>match p.2 with
  |.Name x _=>Γ.N[p.1]?==some x&&(Γ.sc.names.lookup x==some .local || Γ.sc.names.lookup x==some .cell)
  |_=>false
 |_,_=>false
theorem qg(hfn:∀x,X.fn x=true)(hnd:X.N.Nodup):∀{is:List Nat} {es:List Expr},es.length=is.length->(∀p∈is.zip es,∃x pos,p.2=.Name x pos/\X.N[p.1]?=some x/\Loc X.env.scope x)->NT X es (qf is)
 |[],[],_,_=>yZ
 | i::is,e::es,hl,h=>by
  obtain⟨x,pos,rfl,h1,h2⟩:=h (i,e) (by simp);exact vn (gj hnd h1 h2 (.inl (hfn x))) (qg hfn hnd (by simpa using hl) λp hp=>h p (by simp[hp]))
theorem qh{i:Nat}(h:wC Γ (.one i) tg=true):∃x p,tg=.Name x p:=by
 cases tg<;>first|exact⟨_,_,rfl⟩|exact absurd h Z3
theorem lV{is:List Nat}(h:wC Γ (.tup is) tg=true):∃es k p,tg=.Tuple es k p:=by
 cases tg<;>first|exact⟨_,_,_,rfl⟩|exact absurd h Z3
theorem zW(c:Ctx Φ Γ k X cl EX)(hfn:∀x,X.fn x=true)(hnd:X.N.Nodup)(h:wC Γ pat tg=true):PG X tg (yD X.K pat):=by
 have loc:∀x,(Γ.sc.names.lookup x==some .local || Γ.sc.names.lookup x==some .cell)=true->Loc X.env.scope x:=λx e=>by
  unfold L2.Loc;rw[c.sc];simpa using e
 cases pat with
 |one i=>obtain⟨x,pos,rfl⟩:=qh h;simp only[wC,and_eq_true,beq_iff_eq]at h;obtain⟨h1,h2⟩:=h;exact gj hnd (by rw[c.N];exact h1) (loc _ h2) (.inl (hfn _))
 |tup is=>
  obtain⟨es,kk,pos,rfl⟩:=lV h
  ·
   simp only[wC,and_eq_true,beq_iff_eq,all_eq_true]at h;obtain⟨h1,h2⟩:=h;have names:∀p∈is.zip es,∃x pos,p.2=.Name x pos/\X.N[p.1]?=some x/\Loc X.env.scope x:=λp hp=>by
    have q:=h2 p hp;cases ep:p.2<;>rw[ep]at q<;>first|cases q|skip
    rename_i x pos';simp only[and_eq_true,beq_iff_eq]at q;exact⟨x,pos',rfl,by rw[c.N];exact q.1,loc _ q.2⟩
   have all:∀e∈es,∃x pos,e=.Name x pos:=λe he=>by
    obtain⟨n,hn,rfl⟩:=ach he;have hm:(is[n]'(by omega),es[n])∈is.zip es:=ab3.mpr ⟨n,by rw[abI];simp[hn]⟩;obtain⟨x,pos,q,_⟩:=names _ hm;exact⟨x,pos,q⟩
   obtain⟨l1,l2⟩:=fZ (env:=X.env) all;exact B9 c.calm (qg hfn hnd h1 names) (by rw[l1,h1]) l2
theorem cL.set{K:Frag}{ρ:List Addr}{env:Env}{σ:L2.St}{H:Hp}{i:Nat}{v:Val}{x:V}(e:cL K ρ env σ H)(hl:env.length = σ.length)(q:VR K ρ H v x):cL K ρ (env.set i (some v)) (σ.set i (some x)) H:=λj w hj=>by
 by_cases hij:i=j
 ·subst hij
  have hi:i<env.length:=by have:=(Z9.mp hj).1;simpa using this
  rw[aak hi]at hj;cases hj;exact⟨x,by rw[aak (by rw[<-hl];exact hi)],q⟩
 ·rw[aaa hij]at hj;rw[aaa hij];exact e j w hj
theorem kI{K:Frag}{ρ:List Addr}{H:Hp}:∀{is:List Nat} {ds:List Val} {xs:List V} {env env':Env} {σ:L2.St},bindAll is ds env=some env'->av K ρ H ds xs->cL K ρ env σ H->env.length = σ.length->cL K ρ env' (gE is xs σ) H/\env'.length=(gE is xs σ).length/\(gE is xs σ).length = σ.length/\xs.length=is.length
 | [],[],xs,env,env',σ,e,q,hE,hl=>by
  rw[av]at q;subst q;simp only[bindAll]at e;cases e;exact⟨hE,hl,rfl,rfl⟩
 | i::is,d::ds,xs,env,env',σ,e,q,hE,hl=>by
  rw[av]at q;obtain⟨x,r,rfl,q1,q2⟩:=q;simp only[bindAll]at e;obtain⟨a1,a2,a3,a4⟩:=kI e q2 (hE.set hl q1) (by simp[hl]);exact⟨a1,a2,by rw[show gE (i::is) (x::r) σ = gE is r (σ.set i (some x)) from rfl,a3];simp,by simp[a4]⟩
 |[],_::_,_,_,_,_,e,_,_,_=>by simp[bindAll]at e
 |_::_,[],_,_,_,_,e,_,_,_=>by simp[bindAll]at e
theorem zX{K:Frag}{ρ:List Addr}{H:Hp}{pat:yu}{v:Val}{x:V}{env env':Env}{σ:L2.St}{Q:L2.St->Hp->Prop}(e:gq pat v env=some env')(q:VR K ρ H v x)(hE:cL K ρ env σ H)(hl:env.length = σ.length)
  (kk:∀σ',cL K ρ env' σ' H->env'.length = σ'.length -> σ'.length = σ.length->Q σ' H):yD K pat x σ H Q:=by
 cases pat with
 |one i=>simp only[gq]at e;cases e;exact kk _ (hE.set hl q) (by simp[hl]) (by simp)
 |tup is=>
  cases v<;>simp only[gq]at e<;>first|cases e|skip
  rw[VR]at q;obtain⟨a,xs,rfl,q1,q2⟩:=q;obtain⟨a1,a2,a3,a4⟩:=kI e q2 hE hl;exact⟨a,xs,rfl,q1,a4,nj a4 (kk _ a1 a2 a3)⟩
theorem jI{α β:Type}{W:β -> Hs->List Addr->Hp->Prop}{W':α -> Hs->List Addr->Hp->Prop}{m:M α}{f:α -> M β}(g:Gr ρ H ρ' H')(p:Post B EX ρ H W (bnd m f h))
  (kk:∀v h1 ρ2 H2,m h=.ok v h1->Post B EX ρ H W (f v h1)->Gr ρ' H' ρ2 H2->HR B ρ2 h1 H2->W' v h1 ρ2 H2):Post B EX ρ' H' W' (m h):=by
 unfold bnd at p;cases e:m h with
 |ok v h1=>rw[e]at p;exact λρ2 H2 g2 r2=>kk v h1 ρ2 H2 e p g2 r2
 |exc c vs h1=>rw[e]at p;exact λρ2 H2 xs g2 r2 q=>p ρ2 H2 xs (g.trans g2) r2 q
 |no=>rw[e]at p;exact p
theorem HR.adopt(r:HR B ρ h H)(hD:D ∉ ρ)(q:OR B (ρ ++ [D]) H D u):HR B (ρ ++ [D]) (h++[u]) H where
 len:=by simp[r.len]
 nd:=by rw[abC];refine⟨r.nd,by simp,λa ha b hb=>?_⟩;rw[aau.mp hb];rintro rfl;exact hD ha
 ob i v a q1 q2:=by
  by_cases hi:i<h.length
  ·rw[aan hi]at q1;rw[aan (by rw[r.len];exact hi)]at q2;exact OR.jV ⟨aa2 _ _,λ_ _ e _=>e⟩ rfl (r.ob i v a q1 q2)
  ·rw[aax (by omega)]at q1
   rw[aax (by rw[r.len];omega)]at q2;have hi0:i-h.length=0:=by have:=(Z9.mp q1).1;simp at this;omega
   rw[hi0]at q1;rw[r.len,hi0]at q2;simp at q1 q2;subst q1;subst q2;exact q
theorem Gr.over(g:Gr ρ H ρ' H')(hD:H D=none):Gr ρ H ρ' (upd H' D o) where
 pre:=g.pre
 keep a u e n:=by rw[ao (aC e hD)];exact g.keep a u e n
 firm a u e n:=by rw[ao (aC e hD)];exact g.firm a u e n
 fresh:=g.fresh
theorem Gr.adopt(g:Gr ρ H ρ' H')(hD:H D=none):Gr ρ H (ρ'++[D]) H' where
 pre:=g.pre.trans (aa2 _ _)
 keep:=g.keep
 firm:=g.firm
 fresh a z n:=by
  rcases abx.mp z with z|z
  ·exact g.fresh a z n
  ·rw[aau.mp z];exact hD
theorem Ht{K:Frag}{ρ:List Addr}{env:Env}{σ:L2.St}{H:Hp}{js:List (Option Nat)}(e:cL K ρ env σ H):cL K ρ (ja js env) (iC js σ) H:=λi v q=>by
 unfold ja at q;rw[aay]at q;cases hj:js[i]? with
 |none=>rw[hj]at q;cases q
 |some o=>
  rw[hj]at q;simp only[map_some]at q;cases o with
  |none=>cases q
  |some j=>
   dsimp only at q;cases ej:env[j]? with
   |none=>rw[ej]at q;cases q
   |some w=>
    cases w with
    |none=>rw[ej]at q;cases q
    |some d=>rw[ej]at q;cases q;obtain⟨x,q1,q2⟩:=e j _ ej;refine⟨x,?_,q2⟩;unfold iC;rw[aay,hj];simp only[map_some];rw[q1]
theorem DF{K:Frag}{ρ:List Addr}{env:Env}{σ σ':L2.St}{H:Hp}{js:List (Option Nat)}{pat:yu}(hp:(wg pat).all (λi=>js[i]?==some none)=true)(e:cL K ρ (ja js env) σ H)(hs:∀i,i∉wg pat -> σ'[i]? = σ[i]?):cL K ρ (ja js env) σ' H:=λi v q=>by
 have hi:i∉wg pat:=λz=>by
  have h1:=abH.mp hp i z;have h2:js[i]?=some none:=eq_of_beq h1;unfold ja at q;rw[aay,h2]at q;cases q
 obtain⟨x,q1,q2⟩:=e i v q;exact⟨x,(hs i hi).trans q1,q2⟩
theorem qi:∀{is:List Nat} {xs:List V} {σ:L2.St} {i:Nat},i∉is->(gE is xs σ)[i]? = σ[i]?
 |[],xs,σ,i,_=>by cases xs<;>rfl
 |j::is,[],σ,i,_=>rfl
 | j::is,x::xs,σ,i,h=>by
  rw[show gE (j::is) (x::xs) σ = gE is xs (σ.set j (some x)) from rfl,qi λz=>h (Z6 _ z),aaa λz=>h (by rw[z];exact aad)]
theorem DG{K:Frag}{ρ:List Addr}{H:Hp}{pat:yu}{v:Val}{x:V}{env env':Env}{σ:L2.St}{Q:L2.St->Hp->Prop}(e:gq pat v env=some env')(q:VR K ρ H v x)(hE:cL K ρ env σ H)(hl:env.length = σ.length)
  (kk:∀σ',cL K ρ env' σ' H -> σ'.length = σ.length->(∀i,i∉wg pat -> σ'[i]? = σ[i]?)->Q σ' H):yD K pat x σ H Q:=by
 cases pat with
 |one i=>simp only[gq]at e;cases e;exact kk _ (hE.set hl q) (by simp) λj hj=>aaa λz=>hj (by rw[z];exact aau.mpr rfl)
 |tup is=>
  cases v<;>simp only[gq]at e<;>first|cases e|skip
  rw[VR]at q;obtain⟨a,xs,rfl,q1,q2⟩:=q;obtain⟨a1,a2,a3,a4⟩:=kI e q2 hE hl;exact⟨a,xs,rfl,q1,a4,nj a4 (kk _ a1 a3 λj hj=>qi hj)⟩
theorem qj(hs:jW Φ it)(hc:bY Φ t)(he:bY Φ elt)(c:Ctx Φ Γ k X cl EX)(h:bx Γ (.comp N' js pat ik it t elt) e=true) :
  ∃e' tg iter ifs scope pos wi g tt te,e=.ListComp e' [⟨tg,iter,ifs,0⟩] scope pos/\jD X.N X.env.scope scope N' js=true/\PI X tg iter wi/\(∀cls C s H fp,PG (bD X scope N' cls C s H fp) tg g)/\(∀cls C s H fp,Ga (bD X scope N' cls C s H fp) ifs tt) /\
   (∀cls C s H fp,PE (bD X scope N' cls C s H fp) e' te)/\(∀x,foldedSetIterable iter X.env x=pure x)/\∀σ H Q,tV Φ (bd X cl) EX (.comp N' js pat ik it t elt) σ H Q->Cy wi js g tt te σ H Q:=by
 apply GL h;intro e' q1 scope pos h;apply oJ h;intro q2 h;apply Ly h;intro tg iter ifs q3 h;apply we h;intro h;simp only[and_eq_true]at h;obtain⟨⟨⟨⟨⟨⟨⟨h1,h2⟩,h3⟩,h4⟩,h5⟩,h6⟩,h7⟩,h8⟩:=h;have hnd:N'.Nodup:=aav h3;have hen:ik=.enum\/ik=.zip->∃es kk pos,tg=.Tuple es kk pos:=by
  intro hz;cases pat with
  |one i=>rcases hz with rfl|rfl<;>cases h6
  |tup is=>exact wB h4
 obtain⟨hi,hf⟩:=JD hs c.no h2 hen
 let tt:TT:=if c9 t=true then vE else tT Φ (bd X cl) NX t
 have Tg:∀cls C s H fp,Ga (bD X scope N' cls C s H fp) ifs tt:=λcls C s H fp=>by
  have c':=c.Bx scope N' cls C s H fp;cases ifs with
  |nil=>have:c9 t=true:=h7;show Ga _ [] (if c9 t=true then vE else tT Φ (bd X cl) NX t);rw[aae this];exact Gb
  |cons a r=>
   cases r with
   |cons _ _=>cases h7
   |nil=>simp only[and_eq_true,not_eq_true']at h7;show Ga _ [a] (if c9 t=true then vE else tT Φ (bd X cl) NX t);rw[aac (by rw[h7.1];exact Z3)];exact Gd (hc _ _ _ _ _ _ c' h7.2).2
 refine⟨e',tg,iter,ifs,scope,pos,_,yD X.K pat,tt,tV Φ (bd X cl) NX elt,rfl,by rw[c.N,c.sc];exact h1,hi,λcls C s H fp=>Hr (c.Bx scope N' cls C s H fp) hnd h4,Tg,λcls C s H fp=>(he _ _ _ _ _ _ (c.Bx scope N' cls C s H fp) h8).1,hf,λσ H Q ⟨ρ,env,h,hE,r,p⟩=>?_⟩
 ·skip
  simp only[aK]at p;have p:=ng p
  let f:Val->M (Option Val):=λd=>bnd (aZ (gq pat d (ja js env))) λenv'=>bnd (if c9 t=true then ret true else bnd (aK Φ t env') λv=>ask λh=>c8 h v) λt=>
    if t=true then bnd (aK Φ elt env') λe=>ret (some e) else ret none
  have p':Post (bd X cl) NX ρ H (WV X.K Q) (bnd (N3 Φ ik it env) (λsrc=>bnd (ask λh=>src.items h) λxs=>aI (decide (xs.length<=100000)) (bnd (fj src f xs.length 0 []) λys=>new (.lst ys))) h):=by unfold N3;rw[aM];exact p
  refine⟨ρ,env,h,hE,r,bK p' λsrc h1 ρ1 H1 g1 r1 p1=>?_⟩;obtain⟨xs,e1,p2⟩:=aE p1;obtain⟨e2,p3⟩:=aJ p2;have e2:=aav e2;refine⟨⟨xs,e1⟩,λJ wk D hD=>?_⟩;have ZV:(100000:Nat)<sizeLine:=by rw[aaZ];decide
  refine⟨λi m σ' H'=>∃ρ' h' acc ys,Gr ρ1 H1 ρ' H'/\HR (bd X cl) ρ' h' H'/\D ∉ ρ'/\H' D=some (.lst ys)/\av X.K ρ' H' acc ys/\cL X.K ρ' (ja js env) σ' H' /\ σ'.length=js.length/\acc.length<=i/\i+m=xs.length /\
   Post (bd X cl) NX ρ1 H1 (WV X.K Q) (bnd (fj src f m i acc) (λys=>new (.lst ys)) h'),⟨xs.length,ρ1,h1,[],[],Gr.side hD,r1.side hD,r1.out hD,au,av.nil,(Ht (hE.up g1)).up (Gr.side hD),kg js σ,aag _,by omega,p3⟩,?_⟩
  rintro i m σ' H' ⟨ρ',h',acc,ys,w1,w2,w3,w4,w5,w6,w7,w8,w9,uI⟩;have fin:∀p:Post (bd X cl) NX ρ1 H1 (WV X.K Q) (new (.lst acc) h'),Q (.ref D) H':=λp=>by
   refine p (ρ'++[D]) H' (w1.adopt hD) (w2.adopt w3 ⟨ys,w4,av.jV ⟨aa2 _ _,λ_ _ e _=>e⟩ _ _ w5⟩) _ (VR.ref (by rw[<-w2.len];simp))
  cases m with
  |zero=>
   simp only[fj,aM]at uI;obtain⟨xs',k1,uI⟩:=aE uI;have PJ:Post (bd X cl) NX ρ1 H1 (WV X.K Q) (bnd (aI (decide (xs'.length<=i)) (ret acc)) (λys=>new (.lst ys)) h'):=uI;unfold aI at PJ
   by_cases hl:xs'.length<=i
   ·have:bnd (λh=>if decide (xs'.length<=i)=true then ret acc h else Out.no) (λys=>new (.lst ys)) h'=new (.lst acc) h':=by
     unfold bnd;dsimp only;rw[aae (decide_eq_true hl)];rfl
    rw[this] at PJ;exact .inl ⟨wk.stop w1.w w2 k1 hl,fin PJ⟩
   ·have:bnd (λh=>if decide (xs'.length<=i)=true then ret acc h else Out.no) (λys=>new (.lst ys)) h'=Out.no:=by
     unfold bnd;dsimp only;rw[aac (by rw[decide_eq_false hl];exact Z3)]
    rw[this] at PJ;exact PJ.elim
  |succ m=>
   simp only[fj,aM]at uI;obtain⟨xs',k1,uI⟩:=aE uI;cases hx:xs'[i]? with
   |none=>rw[hx]at uI;exact .inl ⟨wk.stop w1.w w2 k1 (abh.mp hx),fin uI⟩
   |some v=>
    rw[hx]at uI;dsimp only at uI;refine .inr ⟨wk.go w1.w w2 k1 hx,_,λBX KL w=>⟨m,aaT _,w⟩,λy H2 hy=>?_⟩;obtain⟨z1,z2,z3⟩:=wk.xP w1.w w2 k1 hx hy;simp only[aM]at uI;simp only[f,aM]at uI;obtain⟨env',k2,uI⟩:=bS uI;refine DG k2 z3 (w6.up z1) (by rw[w7];simp[ja]) λσ2 So hl2 hout=>?_;have PK:H2 D=some (.lst ys):=z1.keep _ _ w4 w3;have G2:Gr ρ1 H1 ρ' H2:=w1.trans z1;have body:∀(b:Bool) (h3:Hs) (ρ3:List Addr) (H3:Hp),Gr ρ' H2 ρ3 H3->HR (bd X cl) ρ3 h3 H3->Post (bd X cl) NX ρ1 H1 (WV X.K Q) (bnd (if b=true then bnd (aK Φ elt env') λe=>ret (some e) else ret none) (λo=>bnd (fj src f m (i+1) (match o with|some e=>acc++[e]|none=>acc)) λys=>new (.lst ys)) h3) ->
      (if b=true then tV Φ (bd X cl) NX elt σ2 H3 (λy H4=>∃ys,H4 D=some (.lst ys)/\ys.length<sizeLine/\(λσ' H'=>∃ρ' h' acc ys,Gr ρ1 H1 ρ' H'/\HR (bd X cl) ρ' h' H'/\D ∉ ρ'/\H' D=some (.lst ys)/\av X.K ρ' H' acc ys/\cL X.K ρ' (ja js env) σ' H' /\ σ'.length=js.length/\acc.length<=i+1/\i+1+m=xs.length /\
       Post (bd X cl) NX ρ1 H1 (WV X.K Q) (bnd (fj src f m (i+1) acc) (λys=>new (.lst ys)) h')) σ2 (upd H4 D (.lst (ys++[y]))))
      else (λσ' H'=>∃ρ' h' acc ys,Gr ρ1 H1 ρ' H'/\HR (bd X cl) ρ' h' H'/\D ∉ ρ'/\H' D=some (.lst ys)/\av X.K ρ' H' acc ys/\cL X.K ρ' (ja js env) σ' H' /\ σ'.length=js.length/\acc.length<=i+1/\i+1+m=xs.length /\
       Post (bd X cl) NX ρ1 H1 (WV X.K Q) (bnd (fj src f m (i+1) acc) (λys=>new (.lst ys)) h')) σ2 H3):=by
     intro b h3 ρ3 H3 g3 r3 p5;have Uv:D ∉ ρ3:=λz=>by have:=g3.fresh D z w3;rw[PK]at this;cases this
     have Uw:H3 D=some (.lst ys):=g3.keep _ _ PK w3;have E3:cL X.K ρ3 (ja js env) σ2 H3:=(DF h5 (w6.up z1) hout).up g3;cases b with
     |true=>
      rw[aae rfl]at p5 |-;simp only[aM,bU]at p5;refine⟨ρ3,env',h3,So.up g3,r3,jI (G2.trans g3) p5 λv4 h4 ρ4 H4 _ p6 g4 r4 y4 q4=>?_⟩;have Wa:D ∉ ρ4:=λz=>by have:=g4.fresh D z Uv;rw[Uw]at this;cases this
      have Ux:H4 D=some (.lst ys):=g4.keep _ _ Uw Uv;have gw:Gw ρ4 H4 ρ4 (upd H4 D (.lst (ys++[y4]))):=Gw.other Ux rfl;have la:=w5.length;refine⟨ys,Ux,by omega,ρ4,h4,acc++[v4],ys++[y4],((G2.trans g3).trans g4).over hD,r4.other Wa Ux rfl,Wa,au,av.append (av.jV gw _ _ (av.up ((z1.trans g3).trans g4) _ _ w5)) (av.jV gw _ _ (av.cons q4 av.nil)),(E3.up g4).jV gw,by rw[hl2,w7],by simp;omega,by omega,p6⟩
     |false=>rw[aac Z3]at p5 |-;exact⟨ρ3,h3,acc,ys,G2.trans g3,r3,Uv,Uw,av.up (z1.trans g3) _ _ w5,E3,by rw[hl2,w7],by omega,by omega,p5⟩
    show (if c9 t=true then vE else tT Φ (bd X cl) NX t) σ2 H2 _
    by_cases hn:c9 t=true
    ·rw[aae hn];rw[aae hn,bU]at uI;exact body true h' ρ' H2 Gr.refl z2 uI
    ·rw[aac hn];rw[aac hn]at uI;exact⟨ρ',env',h',So,z2,jI G2 uI λb h3 ρ3 H3 _ p5 g3 r3=>body b h3 ρ3 H3 g3 r3 p5⟩
theorem Hu(hs:jW Φ it)(hc:bY Φ t)(he:bY Φ elt):bY Φ (.comp N' js pat ik it t elt):=by
 intro Γ k X cl EX e c h;obtain⟨e',tg,iter,ifs,scope,pos,wi,g,tt,te,rfl,h1,h2,h3,h4,h5,h6,h7⟩:=qj hs hc he c h;have q:=(Gf (pos:=pos) h1 c.calm h2 h3 h4 h5 h6).imp h7;exact⟨q,dU q λ_=>rfl⟩
theorem Hw{k:Key}:eF [(k,.bl true)] k (.bl true)=[(k,.bl true)]:=by simp[eF]
theorem Hx{k l:Key}(h:k≠l):eF [(k,.bl true)] l (.bl true)=[(k,.bl true),(l,.bl true)]:=by simp[eF,h]
theorem Hy{k:Key}:iB [] [(k,.bl true),(k,.bl true)]=[(k,.bl true)]:=by simp[iB,putK]
theorem Hz{k l:Key}(h:k≠l):iB [] [(k,.bl true),(l,.bl true)]=[(k,.bl true),(l,.bl true)]:=by simp[iB,putK,h]
theorem HD{k v:IE}(hk:bY Φ k)(hv:bY Φ v):bY Φ (.dct1 k v):=by
 intro Γ n X cl EX e c h;apply zK h;intro q1 q2 pos h;apply GN h;intro q3 q4 h;apply uG h;intro a h;apply uG h;intro b h;apply GN h;intro va vb h;simp only[and_eq_true]at h;obtain⟨⟨⟨h1,h2⟩,h3⟩,h4⟩:=h;obtain⟨j3,p3,rfl⟩:=zQ h3;obtain⟨j4,p4,rfl⟩:=zQ h4;have q:PE X (.Dict [some a,some b] [.Constant (.bool true) j3 p3,.Constant (.bool true) j4 p4] pos) (tV Φ (bd X cl) EX (.dct1 k v)):=by
  refine(F8 (vC (hk Γ n X cl EX a c h1).1 yY (vC (hv Γ n X cl EX b c h2).1 yY F7)) rfl rfl (by simp) (by simp)).imp λσ H Q aN=>?_;obtain⟨ρ,env,h,hE,r,p⟩:=aN;intro D hD;have g0:Gr ρ H ρ (upd H D (.dK [])):=Gr.side hD;simp only[aK]at p;refine⟨ρ,env,h,hE.up g0,r.side hD,jI g0 p λx h1 ρ1 H1 _ p1 g1 r1 y1 q1=>?_⟩;obtain⟨kk,e1,p1⟩:=bS p1;refine⟨ρ1,env,h1,(hE.up g0).up g1,r1,jI (g0.trans g1) p1 λy h2 ρ2 H2 _ p2 g2 r2 y2 q2=>?_⟩;obtain⟨k2,e3,p2⟩:=bS p2;have Wb:D ∉ ρ:=r.out hD;have PK:D ∉ ρ2:=λz=>by have:=(g1.trans g2).fresh D z Wb;rw[au]at this;cases this
  have e2:H2 D=some (.dK []):=(g1.trans g2).keep D _ au Wb;have ek:y1=kV kk:=by
   cases x<;>first|(cases e1;done)|skip
   ·cases e1;rw[VR]at q1;exact q1
   ·cases e1;rw[VR]at q1;exact q1
  have XW:y2=kV k2:=by
   cases y<;>first|(cases e3;done)|skip
   ·cases e3;rw[VR]at q2;exact q2
   ·cases e3;rw[VR]at q2;exact q2
  refine⟨e2,[(kk,.bl true),(k2,.bl true)],by rw[ek,XW];rfl,by simp,?_⟩;have Uy:∀H,VR X.K (ρ2++[D]) H (.bl true) (.bl true):=λH=>by rw[VR]
  refine p2 (ρ2++[D]) _ ((((g0.trans g1).trans g2).over hD).adopt hD) ((r2.other PK e2 rfl).adopt PK ⟨_,au,?_⟩) _ (zC r2)
  by_cases ce:kk=k2
  ·subst ce;rw[Hw,Hy];exact⟨.bl true,[],rfl,Uy _,rfl⟩
  ·rw[Hx ce,Hz ce];exact⟨.bl true,_,rfl,Uy _,.bl true,[],rfl,Uy _,rfl⟩
 exact⟨q,dU q λ_=>rfl⟩
theorem HE{p q:Nat}:bY Φ (.dflt N' js p q d w):=iF λ_ _=>rfl
theorem Ml(ha:bY Φ a):bY Φ (.isc a x bs):=iF λ_ _=>rfl
theorem kJ:(∀ir,bY Φ ir)/\∀d9,jW Φ d9:=by
 have one:∀ir,bY Φ ir:=by
  intro ir;exact IE.rec (motive_1:=λir=>bY Φ ir) (motive_2:=λd9=>jW Φ d9) (λ_=>LN) (λ_=>LO) (λ_ _=>LP) PB (λ_ _ _ a b=>LQ a b) (λ_ a=>LR a) (λ_ _ _ a b=>LS a b) (λ_ _ _ _ _ a b c=>LU a b c)
   (λ_ _ a b=>LV a b) (λ_ _ a b=>PC a b) (λ_ a=>LW a) (λ_ _ _ a b c=>LX a b c) (λ_ a=>LY a) (λ_ a=>LZ a) (λ_ _ a b=>L3 a b) (λ_ _ _ a b c=>L4 a b c) (λ_ _ a=>GY a) (λ_ _ a=>Mh a)
   (λ_ _ _ a b=>Mi a b) (λ_ _ _ _ _ _ _ a b c=>Hu a b c) GW (λ_ a=>Hj a) (λ_ _ _ a b c=>Hl a b c) (λ_ _ a b=>HD a b) (λ_ a=>Dy a) (λ_ _ _ a b c=>Ho a b c) (λ_ a=>DA a) (λ_ a=>Dz a) (λ_ _ _ a=>L7 a) (λ_ _ _ _ a b=>L8 a b) (λ_ _ a b=>L5 a b) (λ_ _ _ _ _ _ _ _=>HE) (λ_ _ _ a=>Ml a) Dt (λ_ _ a b=>zT a b) ir
 refine⟨one,λd9=>?_⟩
 induction d9 using kQ.rec (motive_1:=λ_=>True) with
 |nil=>exact Dt
 |cons e es _ ih=>exact zT (one e) ih
 |_=>trivial
end
def qk:Expr->Bool
 |.ListComp ..=>false|.SetComp ..=>false|.DictComp ..=>false
 |_=>true
def PM:Expr->Bool
 |.Tuple ..=>false
 |_=>true
def Uz:Expr->Bool
 |.SetComp ..=>false|.DictComp ..=>false
 |_=>true
mutual
noncomputable def HF(Γ:qc):IS->Stmt->Bool
 |.expr e,s=>Dk (λx _=>qk x&&bx Γ e x) s
 |.asg p e,s=>LA (λq1 x _=>k1 (λtg=>wC Γ p tg&&bx Γ e x&&(match p with|.one _=>Uz x|.tup _=>qk x&&PM x)) q1) s
 |.aug i o e,s=>Um (λq1 op v _=>lU (λx _=>Γ.N[i]?==some x&&(Γ.sc.names.lookup x==some .local || Γ.sc.names.lookup x==some .cell)&&LJ o op&&(match o with|.pow=>false|_=>true)&&bx Γ e v) q1) s
 |.fX o i v,s=>LA (λq1 x _=>k1 (λq2=>GK (λa b _=>o5 b&&qk x&&bx Γ o a&&bx Γ i b&&bx Γ v x) q2) q1) s
 |.iff c a b,s=>V7 (λt x y _=>bx Γ c t&&bO Γ a x&&bO Γ b y) s
 |.for p k it body,s=>Pq (λtg iter x q1 _=>oH q1 (wC Γ p tg&&zR Γ k it iter&&(match k,p with|.enum,.one _=>false|.zip,.one _=>false|_,_=>true)&&bO Γ body x)) s
 |.whl _ c body,s=>LC (λt x q1 _=>oH q1 (bx Γ c t&&bO Γ body x)) s
 |.ret e,s=>LD (λq1 _=>zM (λx=>bx Γ e x) q1) s
 |.GD,s=>LD (λq1 _=>Dj q1 (true)) s
 |.brk,s=>Pu (λ_=>true) s
 |.cnt,s=>Pw (λ_=>true) s
 |.pass,s=>Jx (λ_=>true) s||Dk (λq1 _=>yv (λq2 _ _=>Po (λ_=>true) q2) q1) s
 |.never,_=>true
 |.setF _ a _ _,s=>Uo (λj es=>GO (λx ls=>k1 (λl=>qT Γ.sc x && Γ.fns[j]?==some (x,2001)&&noStar l&&aL Γ es [l]) ls||oH ls (qT Γ.sc x && Γ.fns[j]?==some (x,2000)&&aL Γ es [])) s) a
noncomputable def bO(Γ:qc):eZ->List Stmt->Bool
 |.nil,ls=>ls.isEmpty
 | .cons s r,ls=>match ls with
  |l::ls=>HF Γ s l&&bO Γ r ls
  |[]=>false
end
structure HG (Φ:Fn) (Γ:qc) (k:Nat) (X:Cx) (cl:Nat->Addr) (EX:Nat->List V->Hp->Prop):Prop extends Ctx Φ Γ k X cl EX where
 fn:∀x,X.fn x=true
 nd:X.N.Nodup
 kind:X.env.scope.kind=.function
 xe:PassesOwn (model X.prog X.w) X.A X.env X.xe
 rs:∀(j:Nat) (x g:Str) (arg:Expr) (p cp pos:Pos) (t:TA),LM X.prog X.w (bd X cl) X.mg X.base k x (cl (1000+j)) g->Gl X x->(x==("__debug__":Str))=false->PA X [arg] t->starEach [arg] X.env=(false,eval arg X.env)::starEach [] X.env ->
  PS X (.Raise (some (.Call (.Name x p) [arg] [] cp)) none pos) λ_ σ H=>t σ H λvs H1=>∃y,vs=[y]/\EX j [.str g,y] H1
 Wc:∀(j:Nat) (x:Str) (p cp pos:Pos),Dr (bd X cl) X.mg x (cl (1000+j))->Gl X x->(x==("__debug__":Str))=false->PS X (.Raise (some (.Call (.Name x p) [] [] cp)) none pos) λ_ σ H=>EX j [] H
def WF(K:Frag)(D:Ends):Fl->Hs->List Addr->Hp->Prop
 |.nx env',_,ρ',H'=>∀σ',cL K ρ' env' σ' H'->env'.length = σ'.length->D.nx σ' H'
 |.rt v,_,ρ',H'=>∀x,VR K ρ' H' v x->D.rt x H'
 |.bk env',_,ρ',H'=>∀σ',cL K ρ' env' σ' H'->env'.length = σ'.length->D.bk σ' H'
 |.ct env',_,ρ',H'=>∀σ',cL K ρ' env' σ' H'->env'.length = σ'.length->D.ct σ' H'
def tS(Φ:Fn)(B:Bd)(EX:Nat->List V->Hp->Prop)(ir:IS):TS:=λD σ H=>∃ρ env h,cL B.K ρ env σ H/\env.length = σ.length/\HR B ρ h H/\Post B EX ρ H (WF B.K D) (gO Φ ir env h)
def UA(Φ:Fn)(B:Bd)(EX:Nat->List V->Hp->Prop)(ir:eZ):TS:=λD σ H=>∃ρ env h,cL B.K ρ env σ H/\env.length = σ.length/\HR B ρ h H/\Post B EX ρ H (WF B.K D) (gh Φ ir env h)
theorem _root_.L2.PS.imp(h:PS X e t)(i:∀D σ H,t' D σ H->t D σ H):PS X e t':=λpins s σ H D I hw=>h pins s σ H D I (i D σ H hw)
theorem _root_.L2.nM.imp(h:nM X e t)(i:∀D σ H,t' D σ H->t D σ H):nM X e t':=λpins s σ H D I hw=>h pins s σ H D I (i D σ H hw)
section
variable {Φ:Fn} {Γ:qc} {k:Nat} {X:Cx} {cl:Nat->Addr} {EX:Nat->List V->Hp->Prop}
def wD(Φ:Fn)(ir:IS):Prop:=∀(Γ:qc) (k:Nat) (X:Cx) (cl:Nat->Addr) (EX:Nat->List V->Hp->Prop) (st:Stmt),HG Φ Γ k X cl EX->HF Γ ir st=true->PS X st (tS Φ (bd X cl) EX ir)
def uJ(Φ:Fn)(d9:eZ):Prop:=∀(Γ:qc) (k:Nat) (X:Cx) (cl:Nat->Addr) (EX:Nat->List V->Hp->Prop) (st:List Stmt),HG Φ Γ k X cl EX->bO Γ d9 st=true->nM X st (UA Φ (bd X cl) EX d9)
theorem je{n:Nat}(h:qk e=true):swapsWith e t n env=pure false:=by
 cases e<;>first|rfl|(exact absurd h Z3)
theorem N4(ir:IE)(c:Ctx Φ Γ k X cl EX)(h:bx Γ ir e=true):PE X e (tV Φ (bd X cl) EX ir):=(kJ.1 ir Γ k X cl EX e c h).1
theorem XX(ir:IE)(c:Ctx Φ Γ k X cl EX)(h:bx Γ ir e=true):PT X e (tT Φ (bd X cl) EX ir):=(kJ.1 ir Γ k X cl EX e c h).2
theorem JE(hs:∀env h,gO Φ ir env h=.no):wD Φ ir:=by
 intro Γ k X cl EX st c h;refine pq.imp λD σ H ⟨ρ,env,h,hE,hl,r,p⟩=>?_;rw[hs]at p;exact p.elim
theorem Mm:wD Φ (.expr e):=by
 intro Γ k X cl EX st c h;apply zO h;intro x _ h;simp only[and_eq_true]at h;refine(Fy (N4 e c.toCtx h.2) (je h.1)).imp λD σ H aN=>?_;obtain⟨ρ,env,h,hE,hl,r,p⟩:=aN;simp only[gO]at p;exact⟨ρ,env,h,hE,r,aA p λv h1 ρ1 x H1 g1 r1 q1 p1=>aj r1 p1 σ (hE.up g1) hl⟩
theorem PN:wD Φ (.asg p e):=by
 intro Γ k X cl EX st c h;apply Dl h;intro q1 x pos h;apply oJ h;intro tg h;simp only[and_eq_true]at h;obtain⟨⟨h1,h2⟩,h3⟩:=h;have hg:=zW c.toCtx c.fn c.nd h1;have he:=N4 e c.toCtx h2;have fin:∀D σ H,tS Φ (bd X cl) EX (.asg p e) D σ H->FA (tV Φ (bd X cl) EX e) (yD X.K p) D σ H:=λD σ H ⟨ρ,env,h,hE,hl,r,pp⟩=>by
  simp only[gO]at pp;refine⟨ρ,env,h,hE,r,aA pp λv h1 ρ1 x H1 g1 r1 q1 p1=>?_⟩;obtain⟨env',e1,p2⟩:=bS p1;exact zX e1 q1 (hE.up g1) hl λσ' UB hl' _=>aj r1 p2 σ' UB hl'
 have rz:(assignEach [tg] X.env).map (·.2)=[assign tg X.env]:=by
  cases p with
  |one i=>obtain⟨t,tp,rfl⟩:=qh h1;rfl
  |tup is=>obtain⟨es,kk,tp,rfl⟩:=lV h1;rfl
 cases p with
 |tup is=>
  simp only[and_eq_true]at h3;refine(eB he hg ?_ ?_ rz).imp fin
  ·show swapsWith x (some tg) _ _=_;exact je h3.1
  ·obtain⟨es,kk,tp,rfl⟩:=lV h1;cases x<;>first|rfl|(exact absurd h3.2 Z3)
 |one i=>
  obtain⟨t,tp,rfl⟩:=qh h1
  ·
   simp only[wC,and_eq_true,beq_iff_eq]at h1;have loc:L2.Loc X.env.scope t:=by unfold L2.Loc;rw[c.sc];simpa using h1.2
   have pl:qk x=true->PS X (.Assign [.Name t tp] x pos) (tS Φ (bd X cl) EX (.asg (.one i) e)):=λhx=>(Ca c.nd (by rw[c.N];exact h1.1) loc he (je hx) (.inl (c.fn t))).imp fin;cases x with
   |ListComp e' gens scope p2=>
    cases hb:(X.env.kindOf t==some .local&&tp.line==p2.line && !(scope.names.any λ(n,k)=>n==t&&(k==.local||k==.cell))) with
    |false=>
     refine(Ca c.nd (by rw[c.N];exact h1.1) loc he ?_ (.inl (c.fn t))).imp fin;have bk:(X.env.blockKind==.function)=true:=by unfold Env.blockKind;rw[c.kind];rfl
     show (pure (X.env.blockKind==.function&&X.env.kindOf t==some .local&&tp.line==p2.line && !(scope.names.any λ(n,k)=>n==t&&(k==.local||k==.cell))):Sem Bool)=pure false;rw[bk,abk,hb]
    |true=>
     have bk:(X.env.blockKind==.function)=true:=by unfold Env.blockKind;rw[c.kind];rfl
     have hsw:swapsWith (.ListComp e' gens scope p2) (some (.Name t tp)) pos.line X.env=pure true:=by show (pure (X.env.blockKind==.function&&X.env.kindOf t==some .local&&tp.line==p2.line && !(scope.names.any λ(n,k)=>n==t&&(k==.local||k==.cell))):Sem Bool)=pure true;rw[bk,abk,hb]
     cases e with
     |comp N' js pat ik it PR elt=>obtain⟨e2,ZW,iter,ifs,UC,pos2,wi,g,tt,te,q0,q1,q2,q3,q4,q5,q6,q7⟩:=qj (kJ.2 it) (kJ.1 PR) (kJ.1 elt) c.toCtx h2;cases q0;refine(Gg c.nd (by rw[c.N];exact h1.1) loc q1 c.calm q2 q3 q4 q5 hsw (.inl (c.fn t)) q6).imp λD σ H hh=>?_;exact q7 σ H _ (fin D σ H hh)
     |dflt N' js p q d w=>refine pq.imp λD σ H hh=>?_;obtain⟨ρ,env,h,hE,hl,r,pp⟩:=hh;simp only[gO,aK]at pp;exact pp.elim
     |_=>first|exact absurd h2 Z3|(rw[bx.eq_def]at h2;cases h2)
   |SetComp _ _ _ _=>exact absurd h3 Z3
   |DictComp _ _ _ _ _=>exact absurd h3 Z3
   |_=>exact pl rfl
theorem PU{i:Nat}:wD Φ (.aug i o e):=JE λ_ _=>rfl
def PV(B:Bd)(EX:Nat->List V->Hp->Prop):Ka:=λo i v H Q=>∃ρ h a b w,HR B ρ h H/\VR B.K ρ H a o/\VR B.K ρ H b i/\VR B.K ρ H w v/\Post B EX ρ H (λ_ _ _ H'=>Q H') (vY a b w h)
theorem Mn(hu:X.A.units+64<cLine):Kc X (PV (bd X cl) EX):=by
 intro pins s σ H o i v ov iv u Q I ro ri rv hh;obtain⟨ρ,h,a,b,w,r,ha,hb,hw,p⟩:=hh;cases a with
 |ref j=>
  simp only[vY]at p;obtain⟨ob,e1,p⟩:=aE p;have dict:∀kvs,ob=.dct kvs->Post (bd X cl) EX ρ H (λ_ _ _ H'=>Q H') (bnd (aZ (keyOf b)) (λk=>aI (decide (kvs.length<sizeLine)) (put j (.dct (eF kvs k w)))) h)->wpAny (model X.prog X.w) X.A (setItem ov iv u) (λ_ s'=>∃H',L2.Inv X pins σ H' s'/\Q H') X.xe s:=by rintro kvs rfl p;obtain⟨kk,e2,p⟩:=bS p;obtain⟨e3,p⟩:=aJ p;have e3:=aav e3;rw[VR]at ha;obtain⟨A,rfl,k1⟩:=ha;obtain⟨ks,k2,k3⟩:=r.ob j _ A e1 k1;cases ro;have ek:=Dd hb e2;subst ek;refine AN (by omega) I (FZ.k (v:=v) k2 (by rw[<-k3.length];exact e3)) ri rv λs' I'=>⟨_,I',?_⟩;have g:Gr ρ H ρ (upd H A (.dK (putK ks kk v))):=Gr.put (aat k1) k2 rfl;exact p ρ _ g (r.put k1 e1 (u:=.dct (eF kvs kk w)) ⟨_,au,gR.put kk (VR.up g _ _ hw) (gR.up g _ _ k3)⟩)
  cases ob with
  |lst xs=>
   cases b<;>first|(exact p.elim)|skip
   rename_i n _;obtain⟨jj,e2,p⟩:=bS p;obtain⟨A,ys,rfl,k1,k2,k3⟩:=jG r ha e1;rw[VR]at hb;subst hb;refine set_list pins s σ H _ _ v ov iv u Q I ro ri rv ⟨A,ys,n,jj,rfl,rfl,k2,by rw[<-k3.length];exact e2,?_⟩;have g:Gr ρ H ρ (upd H A (.lst (ys.set jj v))):=Gr.put (aat k1) k2 rfl;exact p ρ _ g (r.put k1 e1 (u:=.lst (xs.set jj w)) ⟨_,au,av.set jj (av.up g _ _ k3) (VR.up g _ _ hw)⟩)
  |dct kvs=>exact dict kvs rfl (by cases b<;>exact p)
  |ins c fs=>cases b<;>exact p.elim
 |_=>exact p.elim
theorem Mp:wD Φ (.fX o i v):=by
 intro Γ k X cl EX st c h;apply Dl h;intro q1 x pos h;apply oJ h;intro q2 h;apply yw h;intro a b sp h;simp only[and_eq_true]at h;obtain⟨⟨⟨⟨h1,h2⟩,h3⟩,h4⟩,h5⟩:=h;have XY:PG X (.Subscript a b sp) (Ou (tV Φ (bd X cl) EX o) (tV Φ (bd X cl) EX i) (PV (bd X cl) EX)):=Kd (N4 o c.toCtx h3) (N4 i c.toCtx h4) (Mn c.units) (by
  intro v;cases b<;>first|rfl|(exact absurd h1 Z3))
 refine(eB (N4 v c.toCtx h5) XY (je (t:=some (.Subscript a b sp)) (n:=pos.line) (env:=X.env) h2) (by cases x<;>rfl) rfl).imp λD σ H aN=>?_;obtain⟨ρ,env,h,hE,hl,r,p⟩:=aN;simp only[gO]at p;refine⟨ρ,env,h,hE,r,aA p λw h1 ρ1 x1 H1 g1 r1 q1 p1=>⟨ρ1,env,h1,hE.up g1,r1,aA p1 λw2 h2 ρ2 x2 H2 g2 r2 q2 p2=>⟨ρ2,env,h2,(hE.up g1).up g2,r2,aA p2 λw3 h3 ρ3 x3 H3 g3 r3 q3 p3=>?_⟩⟩⟩;refine⟨ρ3,h3,w2,w3,w,r3,VR.up g3 _ _ q2,q3,VR.up (g2.trans g3) _ _ q1,bK p3 λ_ h4 ρ4 H4 g4 r4 p4=>?_⟩;exact aj r4 p4 σ (((hE.up g1).up g2).up g3 |>.up g4) hl
theorem PX(ha:uJ Φ a)(hb:uJ Φ b):wD Φ (.iff t a b):=by
 intro Γ k X cl EX st c h;apply Pp h;intro tt x y pos h;simp only[and_eq_true]at h;refine(Oo (XX t c.toCtx h.1.1) (ha Γ k X cl EX x c h.1.2) (hb Γ k X cl EX y c h.2)).imp λD σ H aN=>?_;obtain⟨ρ,env,h,hE,hl,r,p⟩:=aN;simp only[gO]at p;refine⟨ρ,env,h,hE,r,m9 p λv h1 p1=>?_⟩;obtain⟨s,e1,p2⟩:=aE p1;refine⟨s,e1,λρ1 H1 g1 r1=>?_⟩;have p2:=Post.up g1 p2;cases s with
 |true=>rw[aae rfl]at p2 |-;exact⟨ρ1,env,h1,hE.up g1,hl,r1,p2⟩
 |false=>rw[aac Z3]at p2 |-;exact⟨ρ1,env,h1,hE.up g1,hl,r1,p2⟩
theorem PY(hb:uJ Φ body):wD Φ (.for p ik it body):=by
 intro Γ k X cl EX st c h;apply LB h;intro tg iter x q1 pos h;apply kH h;intro h;simp only[and_eq_true]at h;obtain⟨⟨⟨h1,h2⟩,h3⟩,h4⟩:=h;have hen:ik=.enum\/ik=.zip->∃es kk pos,tg=.Tuple es kk pos:=by
  intro hz;cases p with
  |one i=>rcases hz with rfl|rfl<;>cases h3
  |tup is=>exact lV h1
 obtain⟨hi,hf⟩:=JD (kJ.2 it) c.toCtx h2 hen;refine(Kf c.xe c.calm hi (zW c.toCtx c.fn c.nd h1) (hb Γ k X cl EX x c h4) hf).imp λD σ H aN=>?_;obtain⟨ρ,env,h,hE,hl,r,pp⟩:=aN;simp only[gO]at pp;have p':Post (bd X cl) EX ρ H (WF X.K D) (bnd (N3 Φ ik it env) (λsrc=>bnd (ask λh=>src.items h) λxs=>forM src (λx env=>bnd (aZ (gq p x env)) λenv'=>gh Φ body env') xs.length 0 env) h):=by unfold N3;rw[aM];exact pp
 refine⟨ρ,env,h,hE,r,bK p' λsrc h1 ρ1 H1 g1 r1 p1=>?_⟩;obtain⟨xs,e1,p2⟩:=aE p1;refine⟨⟨xs,e1⟩,λJ wk=>?_⟩;refine⟨λi m σ' H'=>∃ρ' env' h',Gr ρ1 H1 ρ' H'/\cL X.K ρ' env' σ' H'/\env'.length = σ'.length/\HR (bd X cl) ρ' h' H'/\Post (bd X cl) EX ρ' H' (WF X.K D) (forM src (λx env=>bnd (aZ (gq p x env)) λenv'=>gh Φ body env') m i env' h'),
  ⟨xs.length,ρ1,env,h1,Gr.refl,hE.up g1,hl,r1,p2⟩,?_⟩
 rintro i m σ' H' ⟨ρ',env',h',w1,w2,w3,w4,w5⟩;cases m with
 |zero=>simp only[forM]at w5;obtain⟨xs',k1,w5⟩:=aE w5;obtain⟨k2,w5⟩:=aJ w5;exact .inl ⟨wk.stop w1.w w4 k1 (aav k2),aj w4 w5 σ' w2 w3⟩
 |succ m=>
  simp only[forM]at w5;obtain⟨xs',k1,w5⟩:=aE w5;cases hx:xs'[i]? with
  |none=>rw[hx]at w5;exact .inl ⟨wk.stop w1.w w4 k1 (abh.mp hx),aj w4 w5 σ' w2 w3⟩
  |some v=>
   rw[hx]at w5;dsimp only at w5;refine .inr ⟨wk.go w1.w w4 k1 hx,_,λBX KL w=>⟨m,aaT _,w⟩,λy H2 hy=>?_⟩;obtain⟨z1,z2,z3⟩:=wk.xP w1.w w4 k1 hx hy;rw[aM]at w5;obtain⟨gF,k2,w5⟩:=bS w5;refine zX k2 z3 (w2.up z1) w3 λσ2 So hl2 _=>⟨ρ',gF,h',So,hl2,z2,bK (Post.up z1 w5) λf h3 ρ3 H3 g3 r3 p3=>?_⟩;cases f with
   |nx HH=>exact λσ3 PZ hl3=>⟨ρ3,HH,h3,(w1.trans z1).trans g3,PZ,hl3,r3,p3⟩
   |ct HH=>exact λσ3 PZ hl3=>⟨ρ3,HH,h3,(w1.trans z1).trans g3,PZ,hl3,r3,p3⟩
   |bk HH=>exact λσ3 PZ hl3=>aj r3 p3 σ3 PZ hl3
   |rt v=>exact(aj r3 p3:WF X.K D (.rt v) h3 ρ3 H3)
theorem P0{n:Nat}(hb:uJ Φ body):wD Φ (.whl n t body):=JE λ_ _=>rfl
theorem P5:wD Φ (.ret e):=by
 intro Γ k X cl EX st c h;apply Dm h;intro q1 _ h;apply uG h;intro x h;refine(B8 (N4 e c.toCtx h)).imp λD σ H aN=>?_;obtain⟨ρ,env,h,hE,hl,r,p⟩:=aN;simp only[gO]at p;exact⟨ρ,env,h,hE,r,aA p λv h1 ρ1 x H1 g1 r1 q1 p1=>aj r1 p1 x q1⟩
theorem Mq:wD Φ .GD:=by
 intro Γ k X cl EX st c h;apply Dm h;intro q1 _ h;apply zL h;intro h;refine Fz.imp λD σ H aN=>?_;obtain⟨ρ,env,h,hE,hl,r,p⟩:=aN;simp only[gO]at p;exact aj r p _ VR.non
theorem P6:wD Φ .brk:=by
 intro Γ k X cl EX st c h;apply LG h;intro _ h;refine B7.imp λD σ H aN=>?_;obtain⟨ρ,env,h,hE,hl,r,p⟩:=aN;simp only[gO]at p;exact aj r p σ hE hl
theorem P7:wD Φ .cnt:=by
 intro Γ k X cl EX st c h;apply LH h;intro _ h;refine vm.imp λD σ H aN=>?_;obtain⟨ρ,env,h,hE,hl,r,p⟩:=aN;simp only[gO]at p;exact aj r p σ hE hl
theorem Mr:wD Φ .pass:=by
 intro Γ k X cl EX st c h
 rcases V6 h with h|h
 ·apply GP h;intro _ h;refine Fx.imp λD σ H aN=>?_;obtain⟨ρ,env,h,hE,hl,r,p⟩:=aN;simp only[gO]at p;exact aj r p σ hE hl
 ·apply zO h;intro q1 _ h;apply wc h;intro q2 _ _ h;apply Lz h;intro _ h;refine J8.imp λD σ H aN=>?_;obtain⟨ρ,env,h,hE,hl,r,p⟩:=aN;simp only[gO]at p;exact aj r p σ hE hl
theorem HJ:wD Φ .never:=by
 intro Γ k X cl EX st c h;refine pq.imp λD σ H aN=>?_;obtain⟨ρ,env,h,hE,hl,r,p⟩:=aN;simp only[gO]at p;exact p.elim
theorem Ms{n:Nat}:wD Φ (.setF n a x v):=by
 intro Γ k X cl EX st c h;revert h;change HF Γ (.setF n a x v) st=true->PS X st λD σ H=>∃ρ env h,cL X.K ρ env σ H/\env.length = σ.length/\HR (bd X cl) ρ h H/\Post (bd X cl) EX ρ H (WF X.K D) (gO Φ (.setF n a x v) env h);intro h;rw[HF.eq_def]at h;dsimp only at h;revert h;cases a<;>first|(intro h;exact(Z3 h).elim)|skip
 rename_i j es;intro h;apply LF (show GO (λx ls=>k1 (λl=>qT Γ.sc x && Γ.fns[j]?==some (x,2001)&&noStar l&&aL Γ es [l]) ls||oH ls (qT Γ.sc x && Γ.fns[j]?==some (x,2000)&&aL Γ es [])) st=true from h);intro x p ls cp pos h
 rcases V6 h with h|h
 rotate_left
 ·apply kH h;intro h
  simp only[and_eq_true,beq_iff_eq]at h;obtain⟨⟨h1,h2⟩,h4⟩:=h;obtain⟨g1,g2,g3⟩:=c.gl h1
  rcases c.fns j x _ h2 with ⟨z,_⟩|⟨z,_⟩|⟨_,e0,R⟩|⟨z,_⟩
  ·omega
  ·omega
  rotate_left
  ·omega
  refine(c.Wc j x p cp pos R g1 g2).imp λD σ H aN=>?_;obtain⟨ρ,env,h9,hE,hl,r,p⟩:=aN;cases es with
  |cons i d9=>rw[aL.eq_def]at h4;cases h4
  |nil=>simp only[gO,aK,bB,aM,bU]at p;rw[e0]at p;exact(show Post (bd X cl) EX ρ H (WF X.K D) (.exc j [] h9) from p) ρ H [] Gr.refl r av.nil
 apply oJ h;intro l h;simp only[and_eq_true,beq_iff_eq]at h;obtain⟨⟨⟨h1,h2⟩,h3⟩,h4⟩:=h;obtain⟨g1,g2,g3⟩:=c.gl h1
 rcases c.fns j x _ h2 with ⟨z,_⟩|⟨_,g,e0,R⟩|⟨z,_⟩|⟨z,_⟩
 ·omega
 rotate_left
 ·omega
 ·omega
 refine(c.rs j x g l p cp pos _ R g1 g2 ((kJ.2 es).1 Γ k X cl EX _ c.toCtx h4) (ak h3)).imp λD σ H aN=>?_;obtain⟨ρ,env,h,hE,hl,r,p⟩:=aN;simp only[gO,aK,aM]at p;refine⟨ρ,env,h,hE,r,eL p λvs h1 ρ1 H1 e1 g1 r1 p1 xs q1=>?_⟩;rw[e0]at p1;have p2:Post (bd X cl) EX ρ1 H1 (WF X.K D) (bnd (jb j g vs) (λ_=>aZ none) h1):=p1
 match vs,q1,p2 with
 |[.int i],q1,p2=>have ex:xs=[V.int i]:=(av.ints (ns:=[i])).mp q1;exact⟨_,ex,p2 ρ1 H1 [.str g,.int i] Gr.refl r1 (av.cons VR.str (av.cons (by rw[VR]) av.nil))⟩
 |[],_,p2=>exact p2.elim
 |[.bl _],_,p2=>exact p2.elim
 |[.str z],q1,p2=>have ex:xs=[V.str z]:=(av.strs (ns:=[z])).mp q1;exact⟨_,ex,p2 ρ1 H1 [.str g,.str z] Gr.refl r1 (av.cons VR.str (av.cons VR.str av.nil))⟩
 |[.non],_,p2=>exact p2.elim
 |[.tup _],_,p2=>exact p2.elim
 |[.rl _],_,p2=>exact p2.elim
 |[.ref _],_,p2=>exact p2.elim
 |[.dc _ _],_,p2=>exact p2.elim
 |[.ob _ _ _],_,p2=>exact p2.elim
 |a::b::r,_,p2=>
  have e:bnd (jb j g (a::b::r)) (λ_=>aZ (none:Option Fl)) h1=.no:=by cases a<;>rfl
  rw[e]at p2;exact p2.elim
theorem Mt:uJ Φ .nil:=by
 intro Γ k X cl EX st c h;rw[bO]at h;cases st with
 |cons _ _=>cases h
 |nil=>refine Fw.imp λD σ H aN=>?_;obtain⟨ρ,env,h,hE,hl,r,p⟩:=aN;simp only[gh]at p;exact aj r p σ hE hl
theorem HK(h1:wD Φ s)(h2:uJ Φ ss):uJ Φ (.cons s ss):=by
 intro Γ k X cl EX st c h;rw[bO.eq_def]at h;dsimp only at h;cases st with
 |nil=>cases h
 |cons l ls=>
  simp only[and_eq_true]at h;refine(cz (h1 Γ k X cl EX l c h.1) (h2 Γ k X cl EX ls c h.2)).imp λD σ H aN=>?_;obtain⟨ρ,env,h,hE,hl,r,p⟩:=aN;simp only[gh]at p;refine⟨ρ,env,h,hE,hl,r,bK p λf h1 ρ1 H1 g1 r1 p1=>?_⟩;cases f with
  |nx env'=>exact λσ' UB hl'=>⟨ρ1,env',h1,UB,hl',r1,p1⟩
  |rt v=>exact(aj r1 p1:WF X.K D (.rt v) h1 ρ1 H1)
  |bk env'=>exact(aj r1 p1:WF X.K D (.bk env') h1 ρ1 H1)
  |ct env'=>exact(aj r1 p1:WF X.K D (.ct env') h1 ρ1 H1)
theorem wG:∀d9,uJ Φ d9:=by
 intro d9;exact eZ.rec (motive_1:=λs=>wD Φ s) (motive_2:=λss=>uJ Φ ss) (λ_=>Mm) (λ_ _=>PN) (λ_ _ _=>PU) (λ_ _ _=>Mp) (λ_ _ _ a b=>PX a b) (λ_ _ _ _ a=>PY a) (λ_ _ _ a=>P0 a) (λ_=>P5) Mq P6 P7 Mr HJ (λ_ _ _ _=>Ms)
  Mt (λ_ _ a b=>HK a b) d9
end
abbrev Row:=Str×Nat×(List Val->M Val)
def look(fs:List Row)(j:Nat):List Val->M Val:=match fs[j]? with
 |some r=>r.2.2
 |none=>λ_=>aZ none
def bV(P:Program)(w:World)(B:Bd)(mg:Str->Option Value)(base:Heap)(k:Nat)(fs:List Row):Prop:=∀(j:Nat) (r:Row),fs[j]?=some r->N2 P w B mg base k j r.1 r.2.1 r.2.2
def aP(N P:List Str)(sc:Scope):Bool :=
 sc.kind==.function && !sc.isCoroutine && !sc.isGenerator&&decide N.Nodup&&N.take P.length==P&&(P.all λx=>sc.names.lookup x==some .local||sc.names.lookup x==some .cell)&&(sc.names.all λy=>y.2 != .free)
theorem lW(h:aP N P sc=true):kZ N P sc:=by
 unfold aP at h;simp only[and_eq_true,beq_iff_eq,not_eq_true',decide_eq_true_eq,all_eq_true,or_eq_true,bne_iff_ne]at h;obtain⟨⟨⟨⟨⟨⟨h1,h2⟩,h3⟩,h4⟩,h5⟩,h6⟩,h7⟩:=h;exact⟨h1,h2,h3,h4,h5,h6,h7⟩
structure Base (K:Frag) (cl:Nat->Addr) (mg:Str->Option Value) (cons:List (Str×Val)) (tb:Tb):Prop where
 blt:∀x∈bltNames,mg x=none
 cons:∀p∈cons,∃v u,mg p.1=some u/\RelV v u/\∀K ρ H,VR K ρ H p.2 v
 cls:∀c,c<tb.nc->VF K (cl c)/\∀x∈tb.Px,Ci K (cl c) x
 GQ:∀p∈tb.GQ,Meth K (cl p.1) p.2.1 (cl (1000+p.2.2))
 GR:∀p∈tb.GR,∃C,mg p.1=some (.ref C)/\O4 K C p.2.1 (cl (1000+p.2.2))
 isc:∀p∈tb.isc,∃C,mg p.1=some (.ref C)/\∀c b,p.2[c]?=some b->V3 K (cl c)/\kitOne K (.ref (cl c)) (.ref C)=some b
section
variable {P:Program} {w:World} {K:Frag} {cl:Nat->Addr} {mg:Str->Option Value} {base:Heap} {k:Nat} {fs:List Row} {cons:List (Str×Val)} {tb:Tb}
theorem zY(T:Base K cl mg cons tb)(A:bV P w ⟨K,cl⟩ mg base k fs)(S:kZ N ps sc)(hr:dj (k+1) (A'.deeper (envOfC qual sc s.heap.objs.size f cdv))) :
  HG (look fs) ⟨N,sc,fs.map (λr=>(r.1,r.2.1)),cons,tb⟩ k (fS (m5 P w) P w K mg base N qual sc f cdv A' outer s H E) cl (oK cl E):=by
 refine { N:=rfl,sc:=rfl,calm:=rfl,room:=hr,Us:=⟨E,Gy,λ_ _ _ z=>z⟩,fns:=λj x n e=>?_,cls:=T.cls,GQ:=T.GQ,GR:=T.GR,isc:=T.isc,cons:=T.cons,blt:=T.blt,fn:=λ_=>rfl,nd:=S.nd,kind:=S.kind,xe:=PassesOwn.leaving,rs:=λj x g arg p cp pos t R hg hd ha he=>?_,Wc:=λj x p cp pos R hg hd=>?_ }
 ·have e':(fs.map (λr=>(r.1,r.2.1)))[j]?=some (x,n):=e
  rw[aay]at e';cases er:fs[j]? with
  |none=>rw[er]at e';cases e'
  |some r=>rw[er]at e';cases e';have:=A j r er;unfold look;rw[er];exact this
 ·obtain⟨hm,D,fI,cd,fd,ps,M,F,hb,hl,hn,_⟩:=R
  refine(CZ (g:=g) M F hr hb hl hn hg hm ha hd he).imp λD σ H q=>?_;have e:(λvs H1=>∃y,vs=[y]/\oK cl E j [.str g,y] H1)=λ(vs:List V) H1=>∃y,vs=[y]/\∀dx,H1 dx=none->E (.ref (cl (1000+j))) (some dx) (upd H1 dx (.xd [(g,y)])):=by
   funext vs H1;refine propext ⟨λ⟨y,e1,z⟩=>?_,λ⟨y,e1,z⟩=>⟨y,e1,.inl ⟨g,y,rfl,z⟩⟩⟩
   rcases z with ⟨g',y',e2,z⟩|⟨e2,_⟩
   ·cases e2;exact⟨y,e1,z⟩
   ·cases e2
  rw[e]at q;exact q
 ·obtain⟨hm,D,M⟩:=R
  refine(Bj M hg hm hd).imp λD' σ H q=>?_
  rcases q with ⟨g',y',e2,z⟩|⟨_,z⟩
  ·cases e2
  ·exact z
theorem DH{x qual:Str}{st:Stmt}{f:Addr}{fd:FuncData}{N ps:List Str}{body:eZ}(T:Base K cl mg cons tb)(A:bV P w ⟨K,cl⟩ mg base k fs)(F:Cw K x qual st f fd)(hS:aP N ps (af st)=true)
  (hc:bO ⟨N,af st,fs.map (λr=>(r.1,r.2.1)),cons,tb⟩ body (aD st)=true):dH P w K mg base (m5 P w) (k+2) f fd ps (BA ⟨K,cl⟩ ps.length (pZ (look fs) N.length body)):=by
 have S:=lW hS;obtain⟨oc,od,kV,doc,pm,an,cdv,ct,osl,rfl,lk,hcd⟩:=F.ex;refine Cn lk hcd S (λvs H Q E h=>?_) λA' outer s H vs Q E hr h=>?_
 ·obtain⟨ρ,h,ws,h1,_,h2,_⟩:=h;rw[<-h2.length,h1]
 ·obtain⟨ρ,h,ws,hl,r,hv,p⟩:=h
  have lv:=hv.length
  let X:Cx:=fS (m5 P w) P w K mg base N qual (af st) f cdv A' outer s H E
  have c:HG (look fs) ⟨N,af st,fs.map (λr=>(r.1,r.2.1)),cons,tb⟩ k X cl (oK cl E):=zY T A S hr;refine⟨_,wG body _ k X cl _ (aD st) c hc,ρ,ws.map some++replicate (N.length-ws.length) none,h,λi v e=>?_,?_,r,bK p λfl h1 ρ1 H1 g1 r1 p1=>?_⟩
  ·by_cases hi:i<ws.length
   ·rw[aan (by simpa using hi)]at e
    rw[aay]at e;cases ei:ws[i]? with
    |none=>rw[ei]at e;cases e
    |some w'=>rw[ei]at e;cases e;obtain⟨y,q1,q2⟩:=hv.get ei;refine⟨y,?_,q2⟩;show (vs.map some++_)[i]?=_;rw[aan (by rw[Z8,<-lv];exact hi),aay,q1];rfl
   ·rw[aax (by simp;omega)]at e;have:=aat e;rw[List.mem_replicate]at this;exact absurd this.2 (by simp)
  ·show _=(vs.map some++_).length;simp[lv]
  ·cases fl with
   |nx env'=>exact λσ' _ _=>aj r1 p1 _ VR.non
   |rt v=>exact(aj r1 p1:WV K Q v h1 ρ1 H1)
   |bk env'=>exact p1.elim
   |ct env'=>exact p1.elim
theorem _root_.Hv.N2.mono{j:Nat}{n:Nat}(g:N2 P w B mg base k j x n φ):N2 P w B mg base (k+2) j x n φ:=by
 have le:k<=k+2:=Nat.le_add_right _ _
 rcases g with ⟨h,f,fd,ps,q1,q2,q3,q4,q5⟩|⟨h,g,e,m,D,fI,cd,fd,ps,q1,q2,q3⟩|g|⟨h,f,fd,ps,q1,q2,q3,q4⟩
 ·exact .inl ⟨h,f,fd,ps,q1,q2,q3,q4,q5.mono le⟩
 ·exact .inr (.inl ⟨h,g,e,m,D,fI,cd,fd,ps,q1,q2.mono le,q3⟩)
 ·exact .inr (.inr (.inl g))
 ·exact .inr (.inr (.inr ⟨h,f,fd,ps,q1,q2,q3,q4.mono le⟩))
theorem all_nil:bV P w ⟨K,cl⟩ mg base k []:=λj r e=>by simp at e
theorem lY{r0:Row}(A:bV P w ⟨K,cl⟩ mg base k fs)(g:N2 P w ⟨K,cl⟩ mg base (k+2) fs.length r0.1 r0.2.1 r0.2.2):bV P w ⟨K,cl⟩ mg base (k+2) (fs++[r0]):=λj r e=>by
 by_cases hj:j<fs.length
 ·rw[aan hj]at e;exact(A j r e).mono
 ·rw[aax (by omega)]at e
  have hj0:j-fs.length=0:=by have:=(Z9.mp e).1;simp at this;omega
  rw[hj0]at e;simp at e;subst e;rw[show j=fs.length by omega];exact g
theorem DI{x qual:Str}{st:Stmt}{f:Addr}{fd:FuncData}{N ps:List Str}{body:eZ}(T:Base K cl mg cons tb)(A:bV P w ⟨K,cl⟩ mg base k fs)(F:Cw K x qual st f fd)(hm:mg x=some (.ref f))(hb:Binds K fd ps [])(DJ:ps.length<1000)(hS:aP N ps (af st)=true)
  (hc:bO ⟨N,af st,fs.map (λr=>(r.1,r.2.1)),cons,tb⟩ body (aD st)=true):bV P w ⟨K,cl⟩ mg base (k+2) (fs++[(x,ps.length,pZ (look fs) N.length body)]) :=
 lY (r0:=(x,ps.length,pZ (look fs) N.length body)) A (.inl ⟨DJ,f,fd,ps,rfl,hm,F.kp,hb,DH T A F hS hc⟩)
theorem jJ(A:bV P w ⟨K,cl⟩ mg base k fs)(R:LM P w ⟨K,cl⟩ mg base (k+2) x (cl (1000+fs.length)) g):bV P w ⟨K,cl⟩ mg base (k+2) (fs++[(x,2001,jb fs.length g)]) :=
 lY (r0:=(x,2001,jb fs.length g)) A (.inr (.inl ⟨rfl,g,rfl,R⟩))
theorem jf(A:bV P w ⟨K,cl⟩ mg base k fs)(R:Dr ⟨K,cl⟩ mg x (cl (1000+fs.length))):bV P w ⟨K,cl⟩ mg base (k+2) (fs++[(x,2000,lK fs.length)]) :=
 lY (r0:=(x,2000,lK fs.length)) A (.inr (.inr (.inl ⟨rfl,rfl,R⟩)))
theorem HL(F:dH P w K mg base (m5 P w) k f fd ps sp):dH P w K mg base zg k f fd ps λvs H Q _=>sp vs H Q λ_ _ _=>False :=
 ⟨λvs H Q _ h=>F.len vs H Q _ h,λA outer s H args us vs Q E hr e0 hb r h=>abq (F.run A outer s H args us vs Q _ hr e0 hb r h) λrr s' hq=>by
  cases rr with
  |ok fl=>cases fl<;>exact hq
  |error e=>obtain⟨_,_,_,_,_,_,_,_,_,_,_,_,_,z⟩:=hq;exact z.elim⟩
end
def mL(K:Frag)(x qual:Str)(st:Stmt)(f:Addr):Prop:=∃fd,Cw K x qual st f fd
theorem mL.kp{K:Frag}{x qual:Str}{st:Stmt}{f:Addr}(F:mL K x qual st f):keepIn K (.ref f)=true:=F.elim λ_ F=>F.kp
section
variable {α:Type} {p:List α -> Prop}
theorem Sq:∀{us:List α},us.length=1->(∀a,p [a])->p us
 |[a],_,h=>h a
theorem ln2:∀{us:List α},us.length=2->(∀a b,p [a,b])->p us
 |[a,b],_,h=>h a b
theorem XZ:∀{us:List α},us.length=3->(∀a b c,p [a,b,c])->p us
 |[a,b,c],_,h=>h a b c
theorem Wd:∀{us:List α},us.length=4->(∀a b c d,p [a,b,c,d])->p us
 |[a,b,c,d],_,h=>h a b c d
end
def X0(x qual:Str)(st:Stmt)(ps:List Str):Prop:=∀(kV doc pm:Value) (an:Option Addr) (cdv ct:Value) (us:List Value),us.length=ps.length->bindArgs (fnOf x qual (lq st) (aD st) (af st) .none kV doc pm an cdv ct) ⟨us,[]⟩=pure (ps.zip us)
section
variable {P:Program} {w:World} {K:Frag} {cl:Nat->Addr} {mg:Str->Option Value} {base:Heap} {k:Nat} {fs:List Row} {cons:List (Str×Val)} {tb:Tb} {x i y qual:Str} {st:Stmt} {f:Addr} {N ps:List Str} {body:eZ} (T:Base K cl mg cons tb) (A:bV P w ⟨K,cl⟩ mg base k fs)
include T A
theorem fJ(F:mL K x qual st f)(hm:mg x=some (.ref f))(hS:aP N ps (af st)=true)
  (hc:bO ⟨N,af st,fs.map (λr=>(r.1,r.2.1)),cons,tb⟩ body (aD st)=true) (DJ:ps.length<1000) (hb:X0 x qual st ps):bV P w ⟨K,cl⟩ mg base (k+2) (fs++[(x,ps.length,pZ (look fs) N.length body)]):=F.elim λ_ F=>DI T A F hm (F.binds hb) DJ hS hc
end
theorem Mv{K:Frag}{cl:Nat->Addr}{φ:List Val->M Val}{H:Hp}{a:Addr}{ns:List Int}(hO:Cu H)(hS:fR K H a (ns.map V.int))(h:∃h',φ [.rl (ns.map .int)] []=.ok (.bl true) h') :
  BA ⟨K,cl⟩ 1 φ [.ref a] H (λv _=>v=.bl true) λ_ _ _=>False:=by
 obtain⟨h',e⟩:=h;have sr:Jt K H a (ns.map V.int):=by
  rcases hS with (z|z)|z
  ·rcases hO a with y|⟨o,xs,y⟩
   ·rw[y]at z;cases z
   ·rw[y]at z;cases z
  ·exact .inl z
  ·exact .inr (.inr z)
 refine⟨[],[],[.rl (ns.map .int)],rfl,⟨rfl,abE,λi o a e=>by simp at e⟩,av.cons (by rw[VR];exact⟨a,_,rfl,sr,av.ints.mpr rfl⟩) av.nil,?_⟩;rw[e];intro ρ' H' g r x q;rw[VR]at q;exact q
def Ss(K:Frag):Sp:=λvs H Q _=>∃(a:Addr) (ns:List Int),vs=[.ref a]/\Cu H/\fR K H a (ns.map V.int)/\ns.length<=63/\∀H',Q (.bl true) H'
theorem Mw{K:Frag}{cl:Nat->Addr}{φ:List Val->M Val}(hφ:∀ns:List Int,ns.length<=63->∃h',φ [.rl (ns.map .int)] []=.ok (.bl true) h')(vs:List V)(H:Hp)(Q:VK)(E:XK)(h:Ss K vs H Q E):BA ⟨K,cl⟩ 1 φ vs H Q λ_ _ _=>False:=by
 obtain⟨a,ns,rfl,hO,hS,hl,hq⟩:=h;obtain⟨ρ,h,vs,q1,q2,q3,q4⟩:=Mv (cl:=cl) hO hS (hφ ns hl);refine⟨ρ,h,vs,q1,q2,q3,?_⟩;revert q4;cases φ vs h with
 |ok v h'=>exact λq4 ρ' H' g r x hx=>by rw[show x=_ from q4 ρ' H' g r x hx];exact hq H'
 |exc c ws h'=>exact λq4=>q4
 |no=>exact λq4=>q4
theorem walk{l:PySem.W.OpenLaw}{q:Program}{loose:List Str}{XP:(Str->Option Value)->Heap->Prop}{YP:World->Heap->Prop}{d:DefRec}{K:Params->Frag}{k:Nat}{x:Str}(hn:l.most=some 63)(hdf:d.params.defaults=[])(hr:dj k callerA)
  (hY:∀(w:World) (h:Heap),YP w h->(K w.params).In h)
  (F:∀(w:World) (mg:Str->Option Value) (fa:Addr) (h:Heap),(K w.params).In h->h.Ns mainGlobals mg->mg d.name=some (.ref fa) ->
   ∃fd:FuncData,(∀(s:Shared) (u:Value),BindsTo s fd ⟨[u],[]⟩ [(x,u)])/\∀base:Heap,(K w.params).In base->base.Ns mainGlobals mg->dH l.prog w (K w.params) mg base zg k fa fd [x] (Ss (K w.params))) :
  PySem.W.WalkO q loose XP YP l.row.toRowW d [] (λf vs=>PySem.call f vs) :=
 L2.F9 (n:=63) (k:=k) (x:=x) (CX:=λ_=>zg) (sp:=λw=>Ss (K w.params)) hn (by decide) hdf hr hY F (λ_ _ a ns hl hO hS=>⟨a,ns,rfl,hO,hS,hl,λ_=>rfl⟩) λ_ _ _ _ _ z=>z
end Hv
end
section
namespace Hv
open PySem L2
inductive Pr (α:Type)
 |ok (a:α)|exc (c:Nat) (ds:List Val)|no
def pb{α β:Type}(m:Pr α)(f:α -> Pr β):Pr β:=match m with
 |.ok a=>f a
 |.exc c ds=>.exc c ds
 |.no=>.no
def pl{α:Type}(o:Option α):Pr α:=match o with
 |some a=>.ok a
 |none=>.no
def pg{α:Type}(c:Bool)(m:Pr α):Pr α:=if c=true then m else .no
inductive Mk
 |sh|nw|ow
def sS:Mk->Bool
 |.ow=>false
 |_=>true
def N5:Mk->Bool
 |.nw=>true
 |_=>false
abbrev bg:=List (Option (Mk×Val))
abbrev FV:=Bool×Val
mutual
noncomputable def kR:Val->Bool
 |.rl _=>false
 |.dc _ _=>false
 |.ob _ _ _=>false
 |.ref _=>false
 |.tup vs=>bw vs
 |.non=>true
 |.bl _=>true
 |.int _=>true
 |.str _=>true
noncomputable def bw:List Val->Bool
 |[]=>true
 |v::vs=>kR v&&bw vs
end
def dW(f:Bool)(d:Val):Mk:=if (f && !kR d)=true then .nw else .sh
def putD(ks:List Key)(ds:List Val)(k:Key)(d:Val):Val:=.dc ((eF (ks.zip ds) k d).map (·.1)) ((eF (ks.zip ds) k d).map (·.2))
def gS:Jr->Val->Val->Pr FV
 |.add,.int a,.int b=>.ok (true,.int (a+b))
 |.add,.str a,.str b=>pg (decide (a.length+b.length<=sizeLine)) (.ok (true,.str (a++b)))
 |.add,.tup a,.tup b=>pg (!a.isEmpty&&decide (a.length+b.length<=sizeLine)) (.ok (bw (a++b),.tup (a++b)))
 |.add,.rl a,.rl b=>pg (decide (a.length+b.length<=sizeLine)) (.ok (bw (a++b),.rl (a++b)))
 |.sub,.int a,.int b=>.ok (true,.int (a-b))
 |.mul,.int a,.int b=>pg (dD a b) (.ok (true,.int (a*b)))
 |.fdiv,.int a,.int b=>pg (iZ b) (.ok (true,.int (a/b)))
 |.mod,.int a,.int b=>pg (decide (0<b)) (.ok (true,.int (a%b)))
 |.pow,.int a,.int b=>pg (decide (0<=b/\b<=1000000/\a.natAbs<2 ^ 64)) (.ok (true,.int (a ^ b.toNat)))
 |_,_,_=>.no
def BF(v:Val)(lo hi:Option Int):Pr FV:=match v with
 |.tup vs=>pg (!(decide (HT.dI vs.length 0 lo=0)&&decide (HT.dI vs.length vs.length hi=vs.length))) (.ok (bw (dM vs lo hi),.tup (dM vs lo hi)))
 |.rl vs=>.ok (bw (dM vs lo hi),.rl (dM vs lo hi))
 |_=>.no
def fH:Bl->List Val->Pr FV
 |.len,[v]=>pb (pl (lJ [] v)) λn=>.ok (true,.int n)
 |.min,[.int a,.int b]=>.ok (true,.int (if b<a then b else a))
 |.max,[.int a,.int b]=>.ok (true,.int (if b>a then b else a))
 |.min,[v]=>pb (pl (cI [] v)) λxs=>pb (pl ((aW xs).bind uz)) λm=>.ok (true,m)
 |.max,[v]=>pb (pl (cI [] v)) λxs=>pb (pl ((aW xs).bind uC)) λm=>.ok (true,m)
 |.sorted,[.rl xs]=>pb (pl (fY xs)) λys=>.ok (true,.rl ys)
 |.list,[v]=>pb (pl (cI [] v)) λxs=>.ok (bw xs,.rl xs)
 |.tuple,[v]=>pb (pl (cI [] v)) λxs=>.ok (bw xs,.tup xs)
 |.str,[.int i]=>pg (decide (i.natAbs.log2<1920)) (.ok (true,.str (toString i)))
 |.int,[.bl b]=>.ok (true,.int (if b=true then 1 else 0))
 |.int,[.int i]=>.ok (true,.int i)
 |.all,[.rl xs]=>pb (pl (cH xs)) λbs=>.ok (true,.bl (bs.all id))
 |.any,[.rl xs]=>pb (pl (cH xs)) λbs=>.ok (true,.bl (bs.any id))
 |.isin T,[v]=>pb (pl (vW [] v)) λt=>pb (pl (vX T t)) λb=>.ok (true,.bl b)
 |_,_=>.no
def gG:Ik->List Val->Option (List Val)
 |.seq,[.tup vs]=>some vs
 |.seq,[.rl vs]=>some vs
 |.range,[.int n]=>if inR n then some (ck 0 n.toNat) else none
 |.range,[.int a,.int b]=>if inR a&&inR b then some (ck a (b-a).toNat) else none
 |.enum,[.rl vs]=>some (bW 0 vs)
 |_,_=>none
def DK(k:Ik)(ds:List Val):Option (List Val):=match k with
 |.zip=>none
 |k=>gG k ds
def cB:List Nat->List Val->bg->Option bg
 |[],[],env=>some env
 |i::is,d::ds,env=>cB is ds (env.set i (some (.sh,d)))
 |_,_,_=>none
def cY:yu->Val->bg->Option bg
 |.one i,d,env=>some (env.set i (some (.sh,d)))
 |.tup is,.tup ds,env=>cB is ds env
 |_,_,_=>none
def jg(js:List (Option Nat))(env:bg):bg:=js.map λo=>match o with
 |none=>none
 | some j=>match env[j]? with
  |some (some d)=>some d
  |_=>none
def kq(f:Val->Pr (Option FV)):List Val->Pr (Bool×List Val)
 |[]=>.ok (true,[])
 |x::r=>pb (f x) λo=>pb (kq f r) λp=>.ok (match o with|some e=>(e.1&&p.1,e.2::p.2)|none=>p)
def ql:Val->Pr Bool
 |.bl b=>.ok b
 |_=>.no
def iO(env:bg):IE->Option FV
 | .var i=>match env[i]? with
  |some (some (_,d))=>some (kR d,d)
  |_=>none
 |_=>none
def isVar:IE->Bool
 |.var _=>true
 |_=>false
def sU{α:Type}:Pr α -> Pr α
 |.ok a=>.ok a
 |.exc _ _=>.no
 |.no=>.no
theorem DL{α:Type}{a:α}:sU (.ok a)=.ok a:=rfl
def sV(c:Nat):List Val->Pr FV
 |[]=>.exc c []
 |_=>.no
def yE(c:Nat)(g:Str):List Val->Pr FV
 |[.int i]=>.exc c [.str g,.int i]
 |[.str s]=>.exc c [.str g,.str s]
 |_=>.no
def HM(x:Str):Pr FV->Pr FV
 |.exc _ [.str g,w]=>pg (kR w) (if g=x then .ok (true,w) else .no)
 |_=>.no
def P8(ψ:List Val->Pr FV):Pr FV->Pr FV
 |.exc c _=>sU (ψ [.int (c:Int)])
 |_=>.no
mutual
noncomputable def bq(Ψ:Nat->List Val->Pr FV):IE->bg->Pr FV
 | .var i,env=>match env[i]? with
  |some (some (m,d))=>pg (sS m) (.ok (kR d,d))
  |_=>.no
 |.cst d,_=>.ok (kR d,d)
 |.con _ d,_=>.ok (kR d,d)
 |.no,_=>.no
 |.bin o a b,env=>pb (if isVar a=true then pl (iO env a) else bq Ψ a env) λx=>pb (if isVar b=true then pl (iO env b) else bq Ψ b env) λy=>gS o x.2 y.2
 | .neg a,env=>pb (bq Ψ a env) λx=>match x.2 with
  |.int i=>.ok (true,.int (-i))
  |_=>.no
 |.cmp o a b,env=>pb (if isVar a=true then pl (iO env a) else bq Ψ a env) λx=>pb (if isVar b=true then pl (iO env b) else bq Ψ b env) λy=>pb (pl (cop [] o x.2 y.2)) λt=>.ok (true,.bl t)
 |.chn o p a b c,env=>pb (bq Ψ a env) λx=>pb (bq Ψ b env) λy=>pb (pl (cop [] o x.2 y.2)) λt=>
  if t=true then pb (bq Ψ c env) λz=>pb (pl (cop [] p y.2 z.2)) λt=>.ok (true,.bl t) else .ok (true,.bl false)
 |.and a b,env=>pb (bq Ψ a env) λx=>pb (ql x.2) λt=>if t=true then pb (bq Ψ b env) λy=>pb (ql y.2) λu=>.ok (true,.bl u) else .ok (true,.bl false)
 |.or a b,env=>pb (bq Ψ a env) λx=>pb (ql x.2) λt=>if t=true then .ok (true,.bl true) else pb (bq Ψ b env) λy=>pb (ql y.2) λu=>.ok (true,.bl u)
 |.not a,env=>pb (bq Ψ a env) λx=>pb (ql x.2) λt=>.ok (true,.bl (!t))
 |.ite _ _ _,_=>.no
 |.tup es,env=>pb (qm Ψ es env) λp=>pg (decide (p.2.length<=sizeLine)) (.ok (p.1,.tup p.2))
 |.lst es,env=>pb (qm Ψ es env) λp=>pg (decide (p.2.length<=sizeLine)) (.ok (p.1,.rl p.2))
 |.idx a b,env=>pb (if isVar a=true then pl (iO env a) else bq Ψ a env) λx=>pb (bq Ψ b env) λy=>pb (pl (gC [] x.2 y.2)) λz=>.ok (kR z,z)
 |.slc a lo hi,env=>pb (if isVar a=true then pl (iO env a) else bq Ψ a env) λx=>pb (if c9 lo=true then .ok none else pb (bq Ψ lo env) λv=>pb (pl (kj v.2)) λi=>.ok (some i)) λl=>
   pb (if c9 hi=true then .ok none else pb (bq Ψ hi env) λv=>pb (pl (kj v.2)) λi=>.ok (some i)) λu=>BF x.2 l u
 |.call j es,env=>pb (qm Ψ es env) λp=>Ψ j p.2
 |.blt b es,env=>pb (fM Ψ es env) λds=>fH b ds
 | .met m a es,env=>match m with
  |.join=>.no
  |_=>.no
 | .comp _ js pat k it c elt,env=>sU (pb (fM Ψ it env) λits=>pb (pl (DK k its)) λxs=>pg (decide (xs.length<=100000))
   (pb (kq (λd=>pb (pl (cY pat d (jg js env))) λenv'=>pb (if c9 c=true then .ok true else pb (bq Ψ c env') λv=>pl (c8 [] v.2)) λt=>
    if t=true then pb (bq Ψ elt env') λe=>.ok (some e) else .ok none) xs) λp=>.ok (p.1,.rl p.2)))
 |.dct0,_=>.ok (true,.dc [] [])
 | .sset a,env=>pb (if isVar a=true then pl (iO env a) else bq Ψ a env) λx=>match x.2 with
  |.rl xs=>pb (pl (aW xs)) λns=>pg (decide (ns.length<64)) (.ok (true,.rl ((sortI (L2.aV [] ns)).map .int)))
  |_=>.no
 |.dget _ _ _,_=>.no
 |.dct1 k v,env=>pb (bq Ψ k env) λx=>pb (pl (keyOf x.2)) λkk=>pb (bq Ψ v env) λy=>pb (pl (keyOf y.2)) λk2=>.ok (true,putD [kk] [.bl true] k2 (.bl true))
 |.lkeys _,_=>.no
 |.sdef ..,_=>.no
 |.svals _,_=>.no
 |.skeys _,_=>.no
 |.fld n a x,env=>pb (bq Ψ a env) λd=>HM x (Ψ n [d.2])
 |.mth _ _ js es,env=>pb (qm Ψ es env) λds=>(match js with|[]=>.no|p::_=>P8 (Ψ p.1) (Ψ p.2 ds.2))
 |.rev _ _,_=>.no
 |.dflt _ _ _ _ _ _,_=>.no
 |.isc _ _ _,_=>.no
noncomputable def qm(Ψ:Nat->List Val->Pr FV):kQ->bg->Pr (Bool×List Val)
 |.nil,_=>.ok (true,[])
 |.cons e es,env=>pb (bq Ψ e env) λd=>pb (qm Ψ es env) λp=>.ok (d.1&&p.1,d.2::p.2)
noncomputable def fM(Ψ:Nat->List Val->Pr FV):kQ->bg->Pr (List Val)
 |.nil,_=>.ok []
 |.cons e es,env=>pb (if isVar e=true then pl (iO env e) else bq Ψ e env) λd=>pb (fM Ψ es env) λp=>.ok (d.2::p)
end
def vf(Ψ:Nat->List Val->Pr FV)(e:IE)(env:bg):Pr FV:=if isVar e=true then pl (iO env e) else bq Ψ e env
inductive DM
 |nx (env:bg)|rt (p:FV)|bk (env:bg)|ct (env:bg)
mutual
noncomputable def rE:IS->List Nat
 |.expr (.met .append (.var i) _)=>[i]
 |.expr (.met .extend (.var i) _)=>[i]
 |.fX (.var i) _ _=>[i]
 |.iff _ a b=>dX a++dX b
 |.for _ _ _ b=>dX b
 |.whl _ _ b=>dX b
 |_=>[]
noncomputable def dX:eZ->List Nat
 |.nil=>[]
 |.cons s r=>rE s++dX r
end
def stored:yu->List Nat
 |.one i=>[i]
 |.tup is=>is
mutual
noncomputable def oM:IS->List Nat
 |.asg p _=>stored p
 |.aug i _ _=>[i]
 |.iff _ a b=>kr a++kr b
 |.for p _ _ b=>stored p++kr b
 |.whl _ _ b=>kr b
 |_=>[]
noncomputable def kr:eZ->List Nat
 |.nil=>[]
 |.cons s r=>oM s++kr r
end
def UD:IE->Bool
 |.lst _=>true
 |.comp ..=>true
 |.slc ..=>true
 |.blt .list _=>true
 |.blt .sorted _=>true
 |.dct0=>true
 |.dct1 ..=>true
 |_=>false
def fO(body:Val->bg->Pr DM):List Val->bg->Pr DM
 |[],env=>.ok (.nx env)
 | x::r,env=>pb (body x env) λf=>match f with
  |.nx env'=>fO body r env'
  |.ct env'=>fO body r env'
  |.bk env'=>.ok (.nx env')
  |.rt p=>.ok (.rt p)
def We:Mk->Mk
 |.ow=>.sh
 |m=>m
def Wf:Option (Mk×Val)->Option (Mk×Val)
 |none=>none
 |some (m,d)=>some (We m,d)
def rL(env:bg):bg:=env.map Wf
def HN(env:bg):kQ->Option (Val×Val)
 | .cons (.var i) #[.var j]=>match env[i]?,env[j]? with
  |some (some (.nw,d)),some (some (.nw,e))=>some (d,e)
  |_,_=>none
 |_=>none
def HP(Ψ:Nat->List Val->Pr FV)(es:kQ)(env:bg):Pr FV:=match HN env es with
 |some p=>.ok (true,.tup [p.1,p.2])
 |none=>bq Ψ (.tup es) (rL env)
def N6(Ψ:Nat->List Val->Pr FV)(e:IE)(env:bg):Pr FV:=match e with
 | .var i=>match env[i]? with
  | some (some (m,d))=>if sS m=true then .ok (kR d||N5 m,d) else match d with
   |.rl ds=>.ok (bw ds,.rl ds)
   |.dc ks ds=>.ok (bw ds,.dc ks ds)
   |_=>.no
  |_=>.no
 |.call j es=>bq Ψ (.call j es) (rL env)
 |.tup es=>HP Ψ es env
 |e=>bq Ψ e env
def zZ(p:yu)(it:kQ)(body:eZ):Bool:=match it with
 |.cons (.var i) .nil=>!(dX body).contains i && !(kr body).contains i && !(stored p).contains i
 |_=>true
mutual
noncomputable def aY(Ψ:Nat->List Val->Pr FV)(ms:List Nat):IS->bg->Pr DM
 | .expr e,env=>match e with
  | .met .append (.var i) #[a]=>match env[i]? with
   |some (some (.ow,.rl ds))=>pb (bq Ψ a env) λx=>pg (decide (ds.length<sizeLine)) (.ok (.nx (env.set i (some (.ow,.rl (ds++[x.2]))))))
   |_=>.no
  | .met .extend (.var i) #[a]=>match env[i]? with
   | some (some (.ow,.rl ds))=>pb (bq Ψ a env) λx=>match x.2 with
    |.tup vs=>pg (decide (ds.length+vs.length<=sizeLine)) (.ok (.nx (env.set i (some (.ow,.rl (ds++vs))))))
    |_=>.no
   |_=>.no
  |e=>pb (bq Ψ e env) λ_=>.ok (.nx env)
 | .asg p e,env=>match p with
  | .one i=>if ms.contains i=true then pg (UD e) (pb (bq Ψ e env) λx=>match x.2 with
    |.rl ds=>.ok (.nx (env.set i (some (.ow,.rl ds))))
    |.dc ks ds=>.ok (.nx (env.set i (some (.ow,.dc ks ds))))
    |_=>.no) else pb (bq Ψ e env) λx=>.ok (.nx (env.set i (some (dW x.1 x.2,x.2))))
  |.tup is=>pg (is.all λi=>!ms.contains i) (pb (bq Ψ e env) λx=>pb (pl (cY (.tup is) x.2 env)) λenv'=>.ok (.nx env'))
 |.aug _ _ _,_=>.no
 | .fX o i v,env=>match o with
  | .var j=>pb (bq Ψ v env) λx=>match env[j]? with
   |some (some (.ow,.rl ds))=>pb (bq Ψ i env) λz=>pb (pl (kj z.2)) λk=>pb (pl (xJ ds.length k)) λn=>.ok (.nx (env.set j (some (.ow,.rl (ds.set n x.2)))))
   |some (some (.ow,.dc ks ds))=>pb (bq Ψ i env) λz=>pb (pl (keyOf z.2)) λk=>pg (decide (ks.length<sizeLine)) (.ok (.nx (env.set j (some (.ow,putD ks ds k x.2)))))
   |_=>.no
  |_=>.no
 |.iff c a b,env=>pb (vf Ψ c env) λx=>pb (pl (c8 [] x.2)) λt=>if t=true then aG Ψ ms a env else aG Ψ ms b env
 |.for p k it body,env=>pg (zZ p it body&&(stored p).all λi=>!ms.contains i) (pb (fM Ψ it env) λits=>pb (pl (gG k its)) λxs=>
   fO (λx env=>pb (pl (cY p x env)) λenv'=>aG Ψ ms body env') xs env)
 |.whl _ _ _,_=>.no
 |.ret e,env=>pb (N6 Ψ e env) λp=>.ok (.rt p)
 |.GD,_=>.ok (.rt (true,.non))
 |.brk,env=>.ok (.bk env)
 |.cnt,env=>.ok (.ct env)
 |.pass,env=>.ok (.nx env)
 |.never,_=>.no
 |.setF _ a _ _,env=>pb (bq Ψ a env) λ_=>.no
noncomputable def aG(Ψ:Nat->List Val->Pr FV)(ms:List Nat):eZ->bg->Pr DM
 |.nil,env=>.ok (.nx env)
 | .cons s r,env=>pb (aY Ψ ms s env) λf=>match f with
  |.nx env'=>aG Ψ ms r env'
  |f=>.ok f
end
def fk(Ψ:Nat->List Val->Pr FV)(n:Nat)(body:eZ)(ds:List Val):Pr FV :=
 pb (aG Ψ (dX body) body (ds.map (λd=>some (.sh,d))++replicate (n-ds.length) none)) λf=>match f with
  |.nx _=>.ok (true,.non)
  |.rt p=>.ok p
  |_=>.no
abbrev AP:=Option Nat->Prop
def Fr(n:Nat):AP:=λo=>match o with
 |none=>False
 |some k=>n<=k
theorem Fr.le{n m:Nat}(h:n<=m):∀o,Fr m o->Fr n o
 |none,e=>e
 |some k,e=>aaG h e
mutual
noncomputable def Dn(A:AP)(h:Hs):Val->Val->Prop
 |.non,v=>v=.non
 |.bl b,v=>v=.bl b
 |.int i,v=>v=.int i
 |.str x,v=>v=.str x
 |.tup ds,v=>∃vs,v=.tup vs/\az A h ds vs
 |.rl ds,v=>(∃vs,v=.rl vs/\A none/\az A h ds vs)\/∃i vs,v=.ref i/\A (some i)/\h[i]?=some (.lst vs)/\az A h ds vs
 |.dc ks ds,v=>∃i kvs,v=.ref i/\A (some i)/\h[i]?=some (.dct kvs)/\kvs.map (·.1)=ks/\az A h ds (kvs.map (·.2))
 |.ob c xs ds,v=>∃i fs,v=.ref i/\A (some i)/\h[i]?=some (.ins c fs)/\fs.map (·.1)=xs/\az A h ds (fs.map (·.2))
 |.ref _,_=>False
noncomputable def az(A:AP)(h:Hs):List Val->List Val->Prop
 |[],vs=>vs=[]
 |d::ds,vs=>∃v r,vs=v::r/\Dn A h d v/\az A h ds r
end
section
variable {A A':AP} {h h' h1:Hs}
mutual
theorem Dn.mono(hA:∀i,A i->A' i)(hh:∀(i:Nat) (o:Ob),A (some i)->h[i]?=some o->h'[i]?=some o):∀(d v:Val),Dn A h d v->Dn A' h' d v
 |.non,v,e=>by rw[Dn]at e |-;exact e
 |.bl _,v,e=>by rw[Dn]at e |-;exact e
 |.int _,v,e=>by rw[Dn]at e |-;exact e
 |.str _,v,e=>by rw[Dn]at e |-;exact e
 | .tup ds,v,e=>by
  rw[Dn]at e |-;obtain⟨vs,rfl,q⟩:=e;exact⟨vs,rfl,az.mono hA hh ds vs q⟩
 | .rl ds,v,e=>by
  rw[Dn]at e |-
  rcases e with ⟨vs,rfl,n,q⟩|⟨i,vs,rfl,a,g,q⟩
  ·exact .inl ⟨vs,rfl,hA _ n,az.mono hA hh ds vs q⟩
  ·exact .inr ⟨i,vs,rfl,hA _ a,hh i _ a g,az.mono hA hh ds vs q⟩
 | .dc ks ds,v,e=>by
  rw[Dn]at e |-;obtain⟨i,kvs,rfl,a,g,k,q⟩:=e;exact⟨i,kvs,rfl,hA _ a,hh i _ a g,k,az.mono hA hh ds _ q⟩
 | .ob c xs ds,v,e=>by
  rw[Dn]at e |-;obtain⟨i,kvs,rfl,a,g,k,q⟩:=e;exact⟨i,kvs,rfl,hA _ a,hh i _ a g,k,az.mono hA hh ds _ q⟩
 |.ref _,v,e=>by rw[Dn]at e;exact e.elim
theorem az.mono(hA:∀i,A i->A' i)(hh:∀(i:Nat) (o:Ob),A (some i)->h[i]?=some o->h'[i]?=some o):∀(ds vs:List Val),az A h ds vs->az A' h' ds vs
 |[],vs,e=>by rw[az]at e |-;exact e
 | d::ds,vs,e=>by
  rw[az]at e |-;obtain⟨v,r,rfl,q1,q2⟩:=e;exact⟨v,r,rfl,Dn.mono hA hh d v q1,az.mono hA hh ds r q2⟩
end
theorem iG{i:Nat}(p:h<+:h')(e:h[i]?=some o):h'[i]?=some o:=by
 obtain⟨t,rfl⟩:=p;have hi:i<h.length:=(Z9.mp e).1;rw[aan hi];exact e
theorem Dn.ext(p:h<+:h')(e:Dn A h d v):Dn A h' d v:=Dn.mono (λ_ a=>a) (λ_ _ _ q=>iG p q) d v e
theorem az.ext(p:h<+:h')(e:az A h d v):az A h' d v:=az.mono (λ_ a=>a) (λ_ _ _ q=>iG p q) d v e
theorem Dn.f7(hA:∀i,A i->A' i)(e:Dn A h d v):Dn A' h d v:=Dn.mono hA (λ_ _ _ q=>q) d v e
theorem az.f7(hA:∀i,A i->A' i)(e:az A h d v):az A' h d v:=az.mono hA (λ_ _ _ q=>q) d v e
mutual
theorem eN:∀(d v:Val),kR d=true->(Dn A h d v↔v=d)
 |.non,v,_=>by rw[Dn]
 |.bl _,v,_=>by rw[Dn]
 |.int _,v,_=>by rw[Dn]
 |.str _,v,_=>by rw[Dn]
 | .tup ds,v,e=>by
  rw[kR]at e;rw[Dn];constructor
  ·rintro⟨vs,rfl,q⟩;rw[(bu ds vs e).mp q]
  ·rintro rfl;exact⟨ds,rfl,(bu ds ds e).mpr rfl⟩
 |.rl _,v,e=>by rw[kR]at e;cases e
 |.dc _ _,v,e=>by rw[kR]at e;cases e
 |.ob _ _ _,v,e=>by rw[kR]at e;cases e
 |.ref _,v,e=>by rw[kR]at e;cases e
theorem bu:∀(ds vs:List Val),bw ds=true->(az A h ds vs↔vs=ds)
 |[],vs,_=>by rw[az]
 | d::ds,vs,e=>by
  rw[bw,abe]at e;rw[az];constructor
  ·rintro⟨v,r,rfl,q1,q2⟩;rw[(eN d v e.1).mp q1,(bu ds r e.2).mp q2]
  ·rintro rfl;exact⟨d,ds,rfl,(eN d d e.1).mpr rfl,(bu ds ds e.2).mpr rfl⟩
end
theorem az.nil:az A h [] []:=by rw[az]
theorem az.cons{d v:Val}{ds vs:List Val}(a:Dn A h d v)(b:az A h ds vs):az A h (d::ds) (v::vs):=by rw[az];exact⟨v,vs,rfl,a,b⟩
theorem az.length:∀{ds vs:List Val},az A h ds vs->ds.length=vs.length
 |[],vs,e=>by rw[az]at e;subst e;rfl
 |d::ds,vs,e=>by rw[az]at e;obtain⟨v,r,rfl,_,q⟩:=e;simp[az.length q]
theorem az.get:∀{ds vs:List Val} {i:Nat} {d:Val},az A h ds vs->ds[i]?=some d->∃v,vs[i]?=some v/\Dn A h d v
 |[],vs,i,d,e,q=>by simp at q
 | c::ds,vs,0,d,e,q=>by
  rw[az]at e;obtain⟨v,r,rfl,a,_⟩:=e;simp at q;subst q;exact⟨v,rfl,a⟩
 | c::ds,vs,i+1,d,e,q=>by
  rw[az]at e;obtain⟨v,r,rfl,_,b⟩:=e;simp at q;obtain⟨w,q1,q2⟩:=az.get b q;exact⟨w,by simpa using q1,q2⟩
theorem az.append:∀{ds es vs ws:List Val},az A h ds vs->az A h es ws->az A h (ds++es) (vs++ws)
 |[],es,vs,ws,e,q=>by rw[az]at e;subst e;exact q
 | d::ds,es,vs,ws,e,q=>by
  rw[az]at e;obtain⟨v,r,rfl,a,b⟩:=e;exact az.cons a (az.append b q)
theorem az.take:∀{ds vs:List Val} (n:Nat),az A h ds vs->az A h (ds.take n) (vs.take n)
 |_,_,0,_=>by simp;exact az.nil
 |[],vs,n+1,e=>by rw[az]at e;subst e;simp;exact az.nil
 | d::ds,vs,n+1,e=>by
  rw[az]at e;obtain⟨v,r,rfl,a,b⟩:=e;exact az.cons a (az.take n b)
theorem az.drop:∀{ds vs:List Val} (n:Nat),az A h ds vs->az A h (ds.drop n) (vs.drop n)
 |_,_,0,e=>by simpa using e
 |[],vs,n+1,e=>by rw[az]at e;subst e;simp;exact az.nil
 | d::ds,vs,n+1,e=>by
  rw[az]at e;obtain⟨v,r,rfl,a,b⟩:=e;exact az.drop n b
theorem az.cut(lo hi:Option Int)(e:az A h ds vs):az A h (dM ds lo hi) (dM vs lo hi):=by
 unfold dM;rw[e.length];exact az.take _ (az.drop _ e)
theorem az.set:∀{ds vs:List Val} (n:Nat) {d v:Val},az A h ds vs->Dn A h d v->az A h (ds.set n d) (vs.set n v)
 |[],vs,n,d,v,e,q=>by rw[az]at e;subst e;simp;exact az.nil
 | c::ds,vs,0,d,v,e,q=>by
  rw[az]at e;obtain⟨w,r,rfl,a,b⟩:=e;exact az.cons q b
 | c::ds,vs,n+1,d,v,e,q=>by
  rw[az]at e;obtain⟨w,r,rfl,a,b⟩:=e;exact az.cons a (az.set n b q)
theorem az.jU{i:Int}(e:az A h ds vs)(q:L2.jU ds i=some d):∃v,L2.jU vs i=some v/\Dn A h d v:=by
 unfold L2.jU at q |-;rw[e.length]at q;cases hi:L2.xJ vs.length i with
 |none=>rw[hi]at q;cases q
 |some n=>rw[hi]at q;exact az.get e q
def OD(A:AP)(h:Hs)(d:Val)(a:Nat):Prop:=match d with
 |.rl ds=>∃vs,h[a]?=some (.lst vs)/\az A h ds vs
 |.dc ks ds=>∃kvs,h[a]?=some (.dct kvs)/\kvs.map (·.1)=ks/\az A h ds (kvs.map (·.2))
 |_=>False
theorem OD.mono{a:Nat}(e:OD A h d a)(ho:∀o,h[a]?=some o->h'[a]?=some o)(hq:∀ds vs,az A h ds vs->az A' h' ds vs):OD A' h' d a:=by
 cases d with
 |rl ds=>obtain⟨vs,g,q⟩:=e;exact⟨vs,ho _ g,hq _ _ q⟩
 |dc ks ds=>obtain⟨kvs,g,k,q⟩:=e;exact⟨kvs,ho _ g,k,hq _ _ q⟩
 |_=>exact False.elim e
theorem OD.ext{a:Nat}(p:h<+:h')(e:OD A h d a):OD A h' d a:=e.mono (λ_ g=>iG p g) λ_ _ q=>q.ext p
theorem OD.lt{a:Nat}(e:OD A h d a):a<h.length:=by
 cases d with
 |rl ds=>obtain⟨vs,g,q⟩:=e;exact(Z9.mp g).1
 |dc ks ds=>obtain⟨kvs,g,k,q⟩:=e;exact(Z9.mp g).1
 |_=>exact False.elim e
theorem OD.dn{a:Nat}(e:OD A h d a)(ha:A (.some a)):Dn A h d (.ref a):=by
 cases d with
 |rl ds=>obtain⟨vs,g,q⟩:=e;rw[Dn];exact .inr ⟨a,vs,rfl,ha,g,q⟩
 |dc ks ds=>obtain⟨kvs,g,k,q⟩:=e;rw[Dn];exact⟨a,kvs,rfl,ha,g,k,q⟩
 |_=>exact False.elim e
def OB(A:AP)(h:Hs)(d:Val)(o:Ob):Prop:=match d with
 |.rl ds=>∃vs,o=.lst vs/\az A h ds vs
 |.dc ks ds=>∃kvs,o=.dct kvs/\kvs.map (·.1)=ks/\az A h ds (kvs.map (·.2))
 |_=>False
theorem OB.od{a:Nat}(e:OB A h d o)(g:h'[a]?=.some o)(hq:∀ds vs,az A h ds vs->az A' h' ds vs):OD A' h' d a:=by
 cases d with
 |rl ds=>obtain⟨vs,rfl,q⟩:=e;exact⟨vs,g,hq _ _ q⟩
 |dc ks ds=>obtain⟨kvs,rfl,k,q⟩:=e;exact⟨kvs,g,k,hq _ _ q⟩
 |_=>exact False.elim e
def DB(A:AP)(h:Hs)(d v:Val):Prop:=Dn A h d v\/∃i,v=.ref i/\OD A h d i
theorem DB.all(e:DB A h d v):Dn (λ_=>True) h d v:=by
 rcases e with e|⟨i,rfl,q⟩
 ·exact e.f7 λ_ _=>trivial
 ·exact(q.mono (A':=λ_=>True) (λ_ g=>g) λ_ _ z=>z.f7 λ_ _=>trivial).dn trivial
theorem DB.ext(p:h<+:h')(e:DB A h d v):DB A h' d v:=by
 rcases e with e|⟨i,rfl,q⟩
 ·exact .inl (e.ext p)
 ·exact .inr ⟨i,rfl,q.ext p⟩
theorem DB.dc(e:DB A h (.dc ks ds) v):∃i kvs,v=.ref i/\h[i]?=some (.dct kvs)/\kvs.map (·.1)=ks/\az A h ds (kvs.map (·.2)):=by
 rcases e with e|⟨i,rfl,kvs,g,k,q⟩
 ·rw[Dn]at e;obtain⟨i,kvs,rfl,_,g,k,q⟩:=e;exact⟨i,kvs,rfl,g,k,q⟩
 ·exact⟨i,kvs,rfl,g,k,q⟩
theorem DB.lst(e:DB A h (.rl ds) v):∃vs,aF h v=some vs/\az A h ds vs:=by
 rcases e with e|⟨i,rfl,vs,g,q⟩
 ·rw[Dn]at e
  rcases e with ⟨vs,rfl,_,q⟩|⟨i,vs,rfl,_,g,q⟩
  ·exact⟨vs,rfl,q⟩
  ·exact⟨vs,by simp[aF,g],q⟩
 ·exact⟨vs,by simp[aF,g],q⟩
theorem DB.seq(e:DB A h d v)(q:cI [] d=some ds):∃vs,cI h v=some vs/\az A h ds vs:=by
 cases d with
 |tup es=>
  simp only[cI]at q;cases q
  rcases e with e|⟨_,_,e1⟩
  ·rw[Dn]at e;obtain⟨vs,rfl,q⟩:=e;exact⟨vs,rfl,q⟩
  ·exact False.elim e1
 |rl es=>simp only[cI,aF]at q;cases q;obtain⟨vs,q1,q2⟩:=e.lst;refine⟨vs,?_,q2⟩;cases v<;>first|(simp[aF]at q1;done)|exact q1
 |ref i=>simp[cI,aF]at q
 |_=>simp[cI,aF]at q
theorem DB.int{i:Int}(e:DB A h (.int i) v):v=.int i:=by
 rcases e with e|⟨_,_,e1⟩
 ·rw[Dn]at e;exact e
 ·exact False.elim e1
theorem DB.str(e:DB A h (.str i) v):v=.str i:=by
 rcases e with e|⟨_,_,e1⟩
 ·rw[Dn]at e;exact e
 ·exact False.elim e1
theorem DB.bl{i:Bool}(e:DB A h (.bl i) v):v=.bl i:=by
 rcases e with e|⟨_,_,e1⟩
 ·rw[Dn]at e;exact e
 ·exact False.elim e1
theorem DB.tup(e:DB A h (.tup ds) v):∃vs,v=.tup vs/\az A h ds vs:=by
 rcases e with e|⟨_,_,e1⟩
 ·rw[Dn]at e;exact e
 ·exact False.elim e1
theorem uK:∀(n:Nat) (d v:Val) (p:PyData),Dn (λ_=>True) h d v->toD n [] d=some p->toD n h v=some p:=by
 intro n
 induction n with
 |zero=>intro d v p _ e;simp[toD]at e
 |succ n ih=>
  have all:∀(ds vs:List Val) (ps:List PyData),az (λ_=>True) h ds vs->cG (toD n []) ds=some ps->cG (toD n h) vs=some ps:=by
   intro ds
   induction ds with
   |nil=>intro vs ps q e;rw[az]at q;subst q;exact e
   |cons d ds X3=>intro vs ps q e;rw[az]at q;obtain⟨v,r,rfl,q1,q2⟩:=q;simp only[cG]at e |-;obtain⟨x,e1,e⟩:=Z5.mp e;obtain⟨xs,e2,e⟩:=Z5.mp e;rw[ih d v x q1 e1,X3 r xs q2 e2];exact e
  intro d v p q e;cases d with
  |non=>rw[Dn]at q;subst q;exact e
  |bl b=>rw[Dn]at q;subst q;exact e
  |int b=>rw[Dn]at q;subst q;exact e
  |str b=>rw[Dn]at q;subst q;exact e
  |tup ds=>rw[Dn]at q;obtain⟨vs,rfl,q⟩:=q;simp only[toD]at e |-;obtain⟨ps,e1,e⟩:=Z5.mp e;rw[all ds vs ps q e1];exact e
  |rl ds=>
   rw[Dn]at q;simp only[toD]at e;obtain⟨ps,e1,e⟩:=Z5.mp e
   rcases q with ⟨vs,rfl,_,q⟩|⟨i,vs,rfl,_,g,q⟩
   ·simp only[toD];rw[all ds vs ps q e1];exact e
   ·simp only[toD,aF,g,bind_some];rw[all ds vs ps q e1];exact e
  |dc ks ds=>simp[toD]at e
  |ob c xs ds=>simp[toD]at e
  |ref i=>rw[Dn]at q;exact q.elim
theorem JF{b:Bool}(a:DB A h d v)(c:DB A h e w)(q:zy [] d e=some b):zy h v w=some b:=by
 unfold zy at q |-;obtain⟨x,e1,q⟩:=Z5.mp q;obtain⟨y,e2,q⟩:=Z5.mp q;rw[uK 16 d v x a.all e1,uK 16 e w y c.all e2];exact q
theorem DN(a:DB A h d v):pY v=pY d:=by
 rcases a with a|⟨i,rfl,q⟩
 ·cases d<;>rw[Dn]at a
  ·subst a;rfl
  ·subst a;rfl
  ·subst a;rfl
  ·subst a;rfl
  ·obtain⟨vs,rfl,_⟩:=a;rfl
  ·rcases a with ⟨vs,rfl,_⟩|⟨i,vs,rfl,_⟩<;>rfl
  ·obtain⟨i,kvs,rfl,_⟩:=a;rfl
  ·obtain⟨i,kvs,rfl,_⟩:=a;rfl
  ·exact a.elim
 ·cases d<;>first|exact False.elim q|rfl
theorem DO{b:Bool}(q:memD h v (.str y)=some b):False:=by
 unfold memD at q;obtain⟨x,e1,q⟩:=Z5.mp q;obtain⟨z,e2,q⟩:=Z5.mp q;simp only[toD]at e1;split at e1<;>cases e1;simp[K8]at q
theorem DP{b:Bool}(a:DB A h d v)(c:DB A h e w)(q:uD [] d e=some b):uD h v w=some b:=by
 have data:memD [] d e=some b->memD h v w=some b:=λq=>by
  unfold memD at q |-;obtain⟨x,e1,q⟩:=Z5.mp q;obtain⟨y,e2,q⟩:=Z5.mp q;rw[uK 16 e w x c.all e1,uK 16 d v y a.all e2];exact q
 cases e with
 |str y=>
  have:=c.str;subst this;cases d with
  |str x=>have:=a.str;subst this;exact q
  |_=>exact(DO (data q)).elim
 |tup es=>obtain⟨ws,rfl,_⟩:=c.tup;have q':=data (by cases d<;>exact q);cases v<;>exact q'
 |rl es=>
  have q':=data (by cases d<;>exact q)
  rcases c with c|⟨i,rfl,vs,g,q2⟩
  ·rw[Dn]at c
   rcases c with ⟨ws,rfl,_⟩|⟨i,ws,rfl,_,g,_⟩
   ·cases v<;>exact q'
   ·cases v<;>(show (h[i]?).bind _=_;rw[g];exact q')
  ·cases v<;>(show (h[i]?).bind _=_;rw[g];exact q')
 |dc ks es=>
  obtain⟨i,kvs,rfl,g,hk,_⟩:=c.dc
  ·skip
   have q':(keyOf d).bind (λk=>some (ks.any λj=>decide (j=k)))=some b:=by cases d<;>exact q
   obtain⟨kk,e1,q'⟩:=Z5.mp q';have ev:keyOf v=some kk:=by
    cases d<;>simp only[keyOf]at e1<;>first|(cases e1;done)|skip
    ·have:=a.int;subst this;exact e1
    ·have:=a.str;subst this;exact e1
   have:(dR kvs kk).isSome=(ks.any λj=>decide (j=kk)):=by
    subst hk;unfold dR;rw[abX,any_map];have key:∀l:List (Key×Val),(List.find? (λkv=>decide (kv.fst=kk)) l).isSome=l.any ((λj=>decide (j=kk))∘λx=>x.fst):=by
     intro l
     induction l with
     |nil=>rfl
     |cons x l ih=>
      rw[find?_cons,abA]
      by_cases hx:x.1=kk
      ·simp[hx]
      ·simp[hx];simpa using ih
    exact key kvs
   have fin:GF h v i (.dct kvs)=some b:=by simp only[GF,ev,bind_some,this];exact q'
   cases v<;>(show (h[i]?).bind _=_;rw[g];exact fin)
 |ref i=>
  rcases c with c|⟨_,_,e1⟩
  ·rw[Dn]at c;exact c.elim
  ·exact False.elim e1
 |ob cc xs es=>
  have q':memD [] d (.ob cc xs es)=some b:=by cases d<;>exact q
  unfold memD at q';obtain⟨x,e1,q'⟩:=Z5.mp q';simp[toD]at e1
 |non=>
  have q':=data (by cases d<;>exact q);have:w=.non:=by
   rcases c with c|⟨_,_,e1⟩
   ·rw[Dn]at c;exact c
   ·exact False.elim e1
  subst this;cases v<;>exact q'
 |bl x=>
  have q':=data (by cases d<;>exact q);have:w=.bl x:=by
   rcases c with c|⟨_,_,e1⟩
   ·rw[Dn]at c;exact c
   ·exact False.elim e1
  subst this;cases v<;>exact q'
 |int x=>
  have q':=data (by cases d<;>exact q);have:w=.int x:=by
   rcases c with c|⟨_,_,e1⟩
   ·rw[Dn]at c;exact c
   ·exact False.elim e1
  subst this;cases v<;>exact q'
theorem DQ{b:Bool}(a:DB A h d v)(c:DB A h e w)(q:Js d e=some b):Js v w=some b:=by
 cases e<;>first|(cases q;done)|skip
 ·have:w=.non:=by
   rcases c with c|⟨_,_,e1⟩
   ·rw[Dn]at c;exact c
   ·exact False.elim e1
  subst this;show some (pY v)=_;rw[DN a];exact q
 ·have:=c.bl;subst this
  cases d<;>first|(cases q;done)|skip
  have:=a.bl;subst this;exact q
theorem yF{b:Bool}(a:DB A h d v)(c:DB A h e w)(q:cop [] o d e=some b):cop h o v w=some b:=by
 cases o with
 |eq=>exact JF a c q
 |ne=>obtain⟨x,e1,e2⟩:=aaw.mp (show (zy [] d e).map _=some b from q);show (zy h v w).map _=_;rw[JF a c e1];exact aa3 some e2
 |isn=>exact DQ a c q
 |ntn=>obtain⟨x,e1,e2⟩:=aaw.mp (show (Js d e).map _=some b from q);show (Js v w).map _=_;rw[DQ a c e1];exact aa3 some e2
 |xK=>exact DP a c q
 |nin=>obtain⟨x,e1,e2⟩:=aaw.mp (show (uD [] d e).map _=some b from q);show (uD h v w).map _=_;rw[DP a c e1];exact aa3 some e2
 |lt=>obtain⟨i,j,rfl,rfl⟩:=jc (.inl rfl) q;have:=a.int;subst this;have:=c.int;subst this;exact q
 |le=>obtain⟨i,j,rfl,rfl⟩:=jc (.inr (.inl rfl)) q;have:=a.int;subst this;have:=c.int;subst this;exact q
 |gt=>obtain⟨i,j,rfl,rfl⟩:=jc (.inr (.inr (.inl rfl))) q;have:=a.int;subst this;have:=c.int;subst this;exact q
 |ge=>obtain⟨i,j,rfl,rfl⟩:=jc (.inr (.inr (.inr rfl))) q;have:=a.int;subst this;have:=c.int;subst this;exact q
theorem yG{b:Bool}(a:DB A h d v)(q:c8 [] d=some b):c8 h v=some b:=by
 cases d with
 |rl ds=>
  obtain⟨vs,q1,q2⟩:=a.lst;have l:=q2.length;have e:(!ds.isEmpty) = !vs.isEmpty:=by cases ds<;>cases vs<;>simp_all
  simp only[c8]at q;rw[e]at q;cases v<;>simp only[aF]at q1<;>first|(cases q1;done)|skip
  ·cases q1;exact q
  ·split at q1<;>cases q1;rename_i g;simp only[c8,g];exact q
 |tup ds=>
  obtain⟨vs,rfl,q2⟩:=a.tup;have l:=q2.length;have e:(!ds.isEmpty) = !vs.isEmpty:=by cases ds<;>cases vs<;>simp_all
  simp only[c8]at q |-;rw[<-e];exact q
 |dc ks ds=>obtain⟨i,kvs,rfl,g,hk,_⟩:=a.dc;subst hk;simp only[c8,g]at q |-;rw[<-q];cases kvs<;>rfl
 |ob c xs ds=>cases q
 |ref i=>
  rcases a with a|⟨_,_,e1⟩
  ·rw[Dn]at a;exact a.elim
  ·exact False.elim e1
 |non=>
  rcases a with a|⟨_,_,e1⟩
  ·rw[Dn]at a;subst a;exact q
  ·exact False.elim e1
 |bl b=>have:=a.bl;subst this;exact q
 |int b=>have:=a.int;subst this;exact q
 |str b=>have:=a.str;subst this;exact q
theorem Mx{n:Nat}(a:DB A h d v)(q:lJ [] d=some n):lJ h v=some n:=by
 cases d with
 |rl ds=>
  obtain⟨vs,q1,q2⟩:=a.lst;have l:=q2.length;simp only[lJ]at q;rw[l]at q;cases v<;>simp only[aF]at q1<;>first|(cases q1;done)|skip
  ·cases q1;exact q
  ·split at q1<;>cases q1;rename_i g;simp only[lJ,g];exact q
 |tup ds=>obtain⟨vs,rfl,q2⟩:=a.tup;simp only[lJ]at q |-;rw[<-q2.length];exact q
 |dc ks ds=>obtain⟨i,kvs,rfl,g,hk,_⟩:=a.dc;subst hk;simp only[lJ,g]at q |-;rw[<-q];simp
 |str b=>have:=a.str;subst this;exact q
 |_=>simp[lJ]at q
theorem P9{t:String}(a:DB A h d v)(q:vW [] d=some t):vW h v=some t:=by
 cases d with
 |rl ds=>
  obtain⟨vs,q1,q2⟩:=a.lst;cases v<;>simp only[aF]at q1<;>first|(cases q1;done)|skip
  ·exact q
  ·split at q1<;>cases q1;rename_i g;simp only[vW,g];exact q
 |tup ds=>obtain⟨vs,rfl,q2⟩:=a.tup;exact q
 |dc ks ds=>obtain⟨i,kvs,rfl,g,hk,_⟩:=a.dc;simp only[vW,g]at q |-;exact q
 |ob c xs ds=>cases q
 |ref i=>
  rcases a with a|⟨_,_,e1⟩
  ·rw[Dn]at a;exact a.elim
  ·exact False.elim e1
 |non=>
  rcases a with a|⟨_,_,e1⟩
  ·rw[Dn]at a;subst a;exact q
  ·exact False.elim e1
 |bl b=>have:=a.bl;subst this;exact q
 |int b=>have:=a.int;subst this;exact q
 |str b=>have:=a.str;subst this;exact q
theorem uL:∀{kvs:List (Key×Val)} {ks:List Key} {ds:List Val} {z:Val},kvs.map (·.1)=ks->az A h ds (kvs.map (·.2))->dR (ks.zip ds) k=some z->∃v,dR kvs k=some v/\Dn A h z v
 |[],ks,ds,z,hk,q,e=>by subst hk;simp[dR]at e
 | (k',v')::kvs,ks,ds,z,hk,q,e=>by
  subst hk;have l:=q.length;cases ds with
  |nil=>simp at l
  |cons d ds=>
   simp only[map_cons]at q;rw[az]at q;obtain⟨v,r,e1,q1,q2⟩:=q;cases e1
   by_cases hkk:k'=k
   ·subst hkk;simp[dR]at e |-;subst e;exact q1
   ·have e':dR ((kvs.map (·.1)).zip ds) k=some z:=by simpa [dR,hkk] using e
    obtain⟨w,a1,a2⟩:=uL rfl q2 e';exact⟨w,by simpa [dR,hkk] using a1,a2⟩
theorem DB.DR{j:Nat}(c:DB A h (.ref j) v):False:=by
 rcases c with c|⟨_,_,e1⟩
 ·rw[Dn]at c;exact c
 ·exact e1
theorem uM(a:Dn A h d v)(e:keyOf d=some kk):keyOf v=some kk:=by
 cases d<;>first|(cases e;done)|skip
 ·rw[Dn]at a;subst a;exact e
 ·rw[Dn]at a;subst a;exact e
theorem My(a:DB A h d v)(c:Dn A h e w)(q:gC [] d e=some z):∃u,gC h v w=some u/\Dn A h z u:=by
 cases e with
 |int i=>
  rw[Dn]at c;subst c;cases d with
  |str x=>
   have:=a.str;subst this;refine⟨z,q,?_⟩;change (if x.length<=sizeLine then (jU x.cps.toList i).map (λc=>Val.str ⟨[c].toArray⟩) else none)=some z at q;split at q
   ·obtain⟨c,_,rfl⟩:=aaw.mp q;rw[Dn]
   ·cases q
  |tup ds=>obtain⟨vs,rfl,q2⟩:=a.tup;exact q2.jU q
  |rl ds=>
   obtain⟨vs,q1,q2⟩:=a.lst;obtain⟨u,q3,q4⟩:=q2.jU q;refine⟨u,?_,q4⟩;cases v<;>simp only[aF]at q1<;>first|(cases q1;done)|skip
   ·cases q1;exact q3
   ·split at q1<;>cases q1;rename_i g;unfold gC;simp only[aF,g,bind_some];exact q3
  |dc ks ds=>obtain⟨i',kvs,rfl,g,hk,q2⟩:=a.dc;obtain⟨u,q3,q4⟩:=uL hk q2 q;refine⟨u,?_,q4⟩;show (match h[i']? with|some (.dct kvs)=>dR kvs (.inl i)|_=>(aF h (.ref i')).bind λxs=>jU xs i)=_;rw[g];exact q3
  |ref j=>exact(DB.DR a).elim
  |_=>cases q
 |str x=>
  rw[Dn]at c;subst c;cases d with
  |dc ks ds=>obtain⟨i',kvs,rfl,g,hk,q2⟩:=a.dc;obtain⟨u,q3,q4⟩:=uL hk q2 q;refine⟨u,?_,q4⟩;show (match h[i']? with|some (.dct kvs)=>dR kvs (.inr x)|_=>none)=_;rw[g];exact q3
  |ref j=>exact(DB.DR a).elim
  |_=>cases q
 |_=>cases d<;>first|(cases q;done)|exact(DB.DR a).elim
end
def Up(A:AP)(h:Hs):Prop:=∀k,h.length<=k->A (some k)
def Rel(A:AP)(h:Hs){α β:Type}(R:α -> Hs -> β -> Prop)(o:Out β):Pr α -> Prop
 |.ok a=>∃b h',o=.ok b h'/\h<+:h'/\R a h' b
 |.exc c es=>∃ws h',o=.exc c ws h'/\h<+:h'/\az A h' es ws
 |.no=>True
def RV(A:AP)(h:Hs):FV->Hs->Val->Prop:=λx h' v=>Dn A h' x.2 v/\(x.1=true->Dn (Fr h.length) h' x.2 v)
def X4(A:AP)(h:Hs):Bool×List Val->Hs->List Val->Prop:=λx h' v=>az A h' x.2 v/\(x.1=true->az (Fr h.length) h' x.2 v)
def UE(A:AP):FV->Hs->Val->Prop:=λx h' v=>DB A h' x.2 v
def HQ(A:AP)(h:Hs):List Val->List Val->Prop
 |[],vs=>vs=[]
 |d::ds,vs=>∃v r,vs=v::r/\DB A h d v/\HQ A h ds r
def ER(A:AP)(aa:bg)(env:Env)(h:Hs):Prop:=∀(i:Nat) (f:Mk) (d:Val),aa[i]?=some (some (f,d)) ->
 if sS f=false then ∃a,env[i]?=some (some (.ref a))/\OD A h d a else ∃v,env[i]?=some (some v)/\Dn A h d v
section
variable {A:AP} {h h1:Hs} {α β γ δ:Type}
theorem Up.ext(u:Up A h)(p:h<+:h1):Up A h1:=λk hk=>u k (aaG p.length_le hk)
theorem ER.ext(e:ER A aa env h)(p:h<+:h1):ER A aa env h1:=λi f d q=>by
 have:=e i f d q;revert this;generalize sS f=t;intro this;cases t with
 |false=>rw[aae rfl]at this |-;obtain⟨a,k2,k3⟩:=this;exact⟨a,k2,k3.ext p⟩
 |true=>rw[aac (by decide)]at this |-;obtain⟨v,k1,k2⟩:=this;exact⟨v,k1,k2.ext p⟩
theorem ah(r:Rel A h R (m h) p)(k:∀a h1 b,h<+:h1->R a h1 b->Rel A h1 R' (f b h1) (F a)):Rel A h R' (bnd m f h) (pb p F):=by
 unfold bnd;cases p with
 |ok a=>
  obtain⟨b,h1,e,q,r⟩:=r;rw[e];show Rel A h R' (f b h1) (F a);have:=k a h1 b q r;cases e2:F a with
  |ok c=>rw[e2]at this;obtain⟨d,h2,e3,q2,r2⟩:=this;exact⟨d,h2,e3,q.trans q2,r2⟩
  |exc c es=>rw[e2]at this;obtain⟨d,h2,e3,q2,r2⟩:=this;exact⟨d,h2,e3,q.trans q2,r2⟩
  |no=>trivial
 |exc c es=>obtain⟨ws,h1,e,q,r⟩:=r;rw[e];exact⟨ws,h1,rfl,q,r⟩
 |no=>trivial
theorem ay(r:R a h b):Rel A h R (ret b h) (.ok a):=⟨b,h,rfl,aar _,r⟩
theorem aX(r:∀a,o=some a->∃b,o'=some b/\R a h b):Rel A h R (aZ o' h) (pl o):=by
 cases o with
 |none=>trivial
 |some a=>obtain⟨b,rfl,q⟩:=r a rfl;exact⟨b,h,rfl,aar _,q⟩
theorem cS(r:∀a,o=some a->∃b,f h=some b/\R a h b):Rel A h R (ask f h) (pl o):=aX r
theorem bL{c c':Bool}(e:c=true->c'=true)(r:c=true->Rel A h R (m h) p):Rel A h R (aI c' m h) (pg c p):=by
 unfold aI pg;cases c with
 |true=>rw[aae (e rfl),aae rfl];exact r rfl
 |false=>rw[aac Z3];trivial
theorem wH(r:Rel A h R o p)(k:∀a h' b,h<+:h'->R a h' b->R' a h' b):Rel A h R' o p:=by
 cases p with
 |ok a=>obtain⟨b,h',e,q,r⟩:=r;exact⟨b,h',e,q,k a h' b q r⟩
 |exc c es=>exact r
 |no=>trivial
theorem dg(o:Ob):h<+:h++[o]:=aa2 _ _
theorem fm(o:Ob):(h++[o])[h.length]?=some o:=by simp
theorem gr{f:Bool}{h0:Hs}(u:Up A h)(p:h0<+:h)(q:az A h xs vs)(g:f=true->az (Fr h0.length) h xs vs):Rel A h (RV A h0) (new (.lst vs) h) (.ok (f,.rl xs)):=by
 refine⟨_,_,rfl,dg _,?_,λhf=>?_⟩
 ·show Dn A _ (.rl xs) _;rw[Dn];exact .inr ⟨_,vs,rfl,u _ (aag _),fm _,q.ext (dg _)⟩
 ·show Dn _ _ (.rl xs) _;rw[Dn];exact .inr ⟨_,vs,rfl,p.length_le,fm _,(g hf).ext (dg _)⟩
theorem uN{h0:Hs}(q:Dn A h d v):RV A h0 (kR d,d) h v:=⟨q,λhi=>(eN d v hi).mpr ((eN d v hi).mp q)⟩
theorem fq(q:az A h ds vs)(hi:bw ds=true):az A' h' ds vs:=(bu ds vs hi).mpr ((bu ds vs hi).mp q)
theorem gH{i:Int}{h0:Hs}{f:Bool}:RV A h0 (f,.int i) h (.int i):=⟨by rw[Dn],λ_=>by rw[Dn]⟩
theorem jh{i:Bool}{h0:Hs}{f:Bool}:RV A h0 (f,.bl i) h (.bl i):=⟨by rw[Dn],λ_=>by rw[Dn]⟩
theorem DS{h0:Hs}{f:Bool}:RV A h0 (f,.str i) h (.str i):=⟨by rw[Dn],λ_=>by rw[Dn]⟩
theorem RV.br{h0:Hs}(r:RV A h0 x h v):UE A x h v:=.inl r.1
theorem HS(ho:o≠.add)(v w:Val):(∃i j,v=.int i/\w=.int j)\/gS o v w=.no:=by
 cases v with
 |int i=>
  cases w with
  |int j=>exact .inl ⟨i,j,rfl,rfl⟩
  |_=>right;cases o<;>first|rfl|exact absurd rfl ho
 |_=>right;cases o<;>first|rfl|exact absurd rfl ho
theorem HU{h0:Hs}(u:Up A h)(p:h0<+:h)(a:DB A h d v)(c:DB A h e w):Rel A h (RV A h0) (N1 o v w h) (gS o d e):=by
 have ii:o≠.add->(∃i j,d=.int i/\e=.int j)\/gS o d e=.no:=λho=>HS ho d e;cases o with
 |add=>
  cases d<;>cases e<;>first|trivial|skip
  ·have:=a.int;subst this;have:=c.int;subst this;exact ay gH
  ·have:=a.str;subst this;have:=c.str;subst this;exact bL (λz=>z) λ_=>ay DS
  ·rename_i xs ys
   obtain⟨vs,rfl,q1⟩:=a.tup;obtain⟨ws,rfl,q2⟩:=c.tup;have l1:=q1.length;have l2:=q2.length;refine bL (λz=>?_) λ_=>ay ⟨?_,λhi=>?_⟩
   ·rw[l1,l2]at z
    have:xs.isEmpty=vs.isEmpty:=by cases xs<;>cases vs<;>simp_all
    rw[<-this];exact z
   ·show Dn A h (.tup _) _;rw[Dn];exact⟨_,rfl,q1.append q2⟩
   ·show Dn _ h (.tup _) _;rw[Dn];exact⟨_,rfl,fq (q1.append q2) hi⟩
  ·rename_i xs ys
   obtain⟨vs,e1,q1⟩:=a.lst;obtain⟨ws,e2,q2⟩:=c.lst;have eb:N1 .add v w=bnd (ask λh=>aF h v) λa=>bnd (ask λh=>aF h w) λb=>aI (decide (a.length+b.length<=sizeLine)) (new (.lst (a++b))):=by
    cases v<;>simp only[aF]at e1<;>first|(cases e1;done)|skip
    all_goals cases w<;>simp only[aF]at e2<;>first|(cases e2;done)|rfl
   have ev:N1 .add v w h=aI (decide (vs.length+ws.length<=sizeLine)) (new (.lst (vs++ws))) h:=by rw[eb];unfold bnd ask aZ;dsimp only;rw[e1];dsimp only;rw[e2]
   rw[ev];refine bL (λz=>?_) λ_=>gr u p (q1.append q2) λhi=>fq (q1.append q2) hi;rw[<-q1.length,<-q2.length];exact z
 |_=>
  rcases ii (by intro z;cases z) with ⟨i,j,rfl,rfl⟩|z
  case inr=>rw[z];trivial
  have:=a.int;subst this;have:=c.int;subst this
  first
   |exact ay gH
   |exact bL (λz=>z) λ_=>ay gH
theorem HV{lo hi:Option Int}{h0:Hs}(u:Up A h)(p:h0<+:h)(a:DB A h d v):Rel A h (RV A h0) (rD v lo hi h) (BF d lo hi):=by
 cases d with
 |tup ds=>
  obtain⟨vs,rfl,q⟩:=a.tup;have l:=q.length;simp only[BF,rD];refine bL (λz=>?_) λ_=>ay ⟨?_,λhi=>?_⟩
  ·rw[l]at z;exact z
  ·show Dn A h (.tup _) _;rw[Dn];exact⟨_,rfl,q.cut lo hi⟩
  ·show Dn _ h (.tup _) _;rw[Dn];exact⟨_,rfl,fq (q.cut _ _) hi⟩
 |rl ds=>
  obtain⟨vs,e1,q⟩:=a.lst;have ev:rD v lo hi h=new (.lst (dM vs lo hi)) h:=by
   have:rD v lo hi=bnd (ask λh=>aF h v) λxs=>new (.lst (dM xs lo hi)):=by cases v<;>simp only[aF]at e1<;>first|(cases e1;done)|rfl
   rw[this];unfold bnd ask aZ;dsimp only;rw[e1]
  rw[ev];exact gr u p (q.cut lo hi) λhh=>fq (q.cut lo hi) hh
 |_=>trivial
theorem HQ.one(e:HQ A h [d] vs):∃v,vs=[v]/\DB A h d v:=by
 obtain⟨v,r,rfl,a,b⟩:=e;cases (show r=[] from b);exact⟨v,rfl,a⟩
theorem HW{ns:List Int}(q:az A h ds vs)(e:aW ds=some ns):vs=ds:=by
 have:bw ds=true:=by
  clear q
  induction ds generalizing ns with
  |nil=>rfl
  |cons d ds ih=>
   simp only[aW,cG]at e;obtain⟨i,e1,e⟩:=Z5.mp e;obtain⟨is,e2,e⟩:=Z5.mp e;cases d<;>first|(cases e1;done)|skip
   rw[bw,kR,abk];exact ih e2
 exact(bu ds vs this).mp q
theorem wI(q:az A h ds vs)(e:cH ds=some ns):vs=ds:=by
 have:bw ds=true:=by
  clear q
  induction ds generalizing ns with
  |nil=>rfl
  |cons d ds ih=>
   simp only[cH,cG]at e;obtain⟨i,e1,e⟩:=Z5.mp e;obtain⟨is,e2,e⟩:=Z5.mp e;cases d<;>first|(cases e1;done)|skip
   rw[bw,kR,abk];exact ih e2
 exact(bu ds vs this).mp q
theorem qo:∀{ds:List Val} {ns:List Int},aW ds=some ns->bw ds=true
 |[],_,_=>rfl
 | d::ds,ns,e=>by
  simp only[aW,cG]at e;obtain⟨i,e1,e⟩:=Z5.mp e;obtain⟨is,e2,e⟩:=Z5.mp e;cases d<;>first|(cases e1;done)|skip
  rw[bw,kR,abk];exact qo (show aW ds=some is from e2)
theorem wJ:∀{ds:List Val} {ns:List (List Int)},ki ds=some ns->bw ds=true
 |[],_,_=>rfl
 | d::ds,ns,e=>by
  simp only[ki,cG]at e;obtain⟨i,e1,e⟩:=Z5.mp e;obtain⟨is,e2,e⟩:=Z5.mp e;cases d<;>first|(cases e1;done)|skip
  rename_i vs;dsimp only at e1;split at e1
  ·cases e1
  ·rw[bw,kR,qo e1,abk];exact wJ (show ki ds=some is from e2)
theorem cO:∀ns:List Int,bw (ns.map .int)=true
 |[]=>rfl
 |n::ns=>by rw[aap,bw,kR,abk];exact cO ns
theorem lZ:∀oY:List (List Int),bw (oY.map kF)=true
 |[]=>rfl
 |n::ns=>by rw[aap,bw,kF,kR,cO,abk];exact lZ ns
theorem sW(e:fY xs=some ys):bw xs=true/\bw ys=true:=by
 unfold fY at e;split at e
 ·cases e2:aW xs with
  |some ns=>rw[e2]at e;cases e;exact⟨qo e2,cO _⟩
  |none=>rw[e2]at e;obtain⟨oY,e3,e4⟩:=Z5.mp e;cases e4;exact⟨wJ e3,lZ _⟩
 ·cases e
theorem HX{h0:Hs}(u:Up A h)(p:h0<+:h)(a:HQ A h ds vs):Rel A h (RV A h0) (blt b vs h) (fH b ds):=by
 have mm:∀(f:List Int->Option Val) (d:Val),(∀ns m,f ns=some m->∃i,m=.int i)->∀v,DB A h d v->Rel A h (RV A h0) (bnd (ask λh=>cI h v) (λxs=>aZ ((aW xs).bind f)) h) (pb (pl (cI [] d)) λxs=>pb (pl ((aW xs).bind f)) λm=>.ok (true,m)):=by
  intro f d hf v hv;refine ah (R:=λxs h' ws=>az A h' xs ws) (cS λxs e=>hv.seq e) λxs h1 ws q1 q=>?_;have:aZ ((aW ws).bind f) h1=bnd (aZ ((aW ws).bind f)) (λm=>ret m) h1:=by unfold bnd aZ;cases (aW ws).bind f<;>rfl
  rw[this];refine ah (R:=λm _ m'=>m'=m/\∃i,m=.int i) (aX λm e=>?_) λm h2 m' _ hm=>?_
  ·obtain⟨ns,e1,e2⟩:=Z5.mp e;rw[HW q e1];exact⟨m,e,rfl,hf ns m e2⟩
  ·obtain⟨rfl,i,rfl⟩:=hm;exact ay gH
 have hmin:∀ns m,uz ns=some m->∃i,m=Val.int i:=λns m e=>by cases ns<;>simp[uz]at e;exact⟨_,e.symm⟩
 have UG:∀ns m,uC ns=some m->∃i,m=Val.int i:=λns m e=>by cases ns<;>simp[uC]at e;exact⟨_,e.symm⟩
 match ds,a with
 |[],a=>cases b<;>trivial
 |[d],a=>
  obtain⟨v,rfl,hv⟩:=a.one;cases b with
  |len=>exact ah (R:=λn _ m=>m=n) (cS λn e=>⟨n,Mx hv e,rfl⟩) λn h1 m _ e=>by subst e;exact ay gH
  |min=>
   have e1:fH .min [d]=pb (pl (cI [] d)) λxs=>pb (pl ((aW xs).bind uz)) λm=>.ok (true,m):=by cases d<;>rfl
   have e2:blt .min [v]=bnd (ask λh=>cI h v) λxs=>aZ ((aW xs).bind uz):=by cases v<;>rfl
   rw[e1,e2];exact mm uz d hmin v hv
  |max=>
   have e1:fH .max [d]=pb (pl (cI [] d)) λxs=>pb (pl ((aW xs).bind uC)) λm=>.ok (true,m):=by cases d<;>rfl
   have e2:blt .max [v]=bnd (ask λh=>cI h v) λxs=>aZ ((aW xs).bind uC):=by cases v<;>rfl
   rw[e1,e2];exact mm uC d UG v hv
  |sorted=>
   cases d<;>first|trivial|skip
   rename_i xs;obtain⟨ws,e1,q⟩:=hv.lst;have ev:bnd (ask λh=>aF h v) (λxs=>bnd (aZ (fY xs)) λys=>new (.lst ys)) h=bnd (aZ (fY ws)) (λys=>new (.lst ys)) h:=by unfold bnd ask aZ;dsimp only;rw[e1]
   show Rel A h (RV A h0) (bnd (ask λh=>aF h v) (λxs=>bnd (aZ (fY xs)) λys=>new (.lst ys)) h) _;rw[ev];refine ah (R:=λys _ zs=>zs=ys/\bw ys=true) (aX λys e=>?_) λys h1 zs q1 hz=>?_
   ·obtain⟨i1,i2⟩:=sW e;rw[(bu xs ws i1).mp q];exact⟨ys,e,rfl,i2⟩
   ·obtain⟨rfl,hi⟩:=hz;exact gr (u.ext q1) (p.trans q1) ((bu _ _ hi).mpr rfl) λ_=>(bu _ _ hi).mpr rfl
  |list=>refine ah (R:=λxs h' ws=>az A h' xs ws) (cS λxs e=>hv.seq e) λxs h1 ws q1 q=>?_;exact gr (u.ext q1) (p.trans q1) q λhi=>fq q hi
  |tuple=>
   refine ah (R:=λxs h' ws=>az A h' xs ws) (cS λxs e=>hv.seq e) λxs h1 ws q1 q=>?_;refine ay ⟨?_,λhi=>?_⟩
   ·show Dn A h1 (.tup _) _;rw[Dn];exact⟨_,rfl,q⟩
   ·show Dn _ h1 (.tup _) _;rw[Dn];exact⟨_,rfl,fq q hi⟩
  |str=>
   cases d<;>first|trivial|skip
   have:=hv.int;subst this;exact bL (λz=>z) λ_=>ay DS
  |int=>
   cases d<;>first|trivial|skip
   ·have:=hv.bl;subst this;exact ay gH
   ·have:=hv.int;subst this;exact ay gH
  |all=>
   cases d<;>first|trivial|skip
   rename_i xs;obtain⟨ws,e1,q⟩:=hv.lst;have ev:bnd (ask λh=>aF h v) (λxs=>bnd (aZ (cH xs)) λbs=>ret (Val.bl (bs.all id))) h=bnd (aZ (cH ws)) (λbs=>ret (Val.bl (bs.all id))) h:=by unfold bnd ask aZ;dsimp only;rw[e1]
   show Rel A h (RV A h0) (bnd (ask λh=>aF h v) (λxs=>bnd (aZ (cH xs)) λbs=>ret (Val.bl (bs.all id))) h) _;rw[ev];exact ah (R:=λys _ zs=>zs=ys) (aX λys e=>⟨ys,by rw[wI q e];exact e,rfl⟩) λys h1 zs q1 hz=>by subst hz;exact ay jh
  |any=>
   cases d<;>first|trivial|skip
   rename_i xs;obtain⟨ws,e1,q⟩:=hv.lst;have ev:bnd (ask λh=>aF h v) (λxs=>bnd (aZ (cH xs)) λbs=>ret (Val.bl (bs.any id))) h=bnd (aZ (cH ws)) (λbs=>ret (Val.bl (bs.any id))) h:=by unfold bnd ask aZ;dsimp only;rw[e1]
   show Rel A h (RV A h0) (bnd (ask λh=>aF h v) (λxs=>bnd (aZ (cH xs)) λbs=>ret (Val.bl (bs.any id))) h) _;rw[ev];exact ah (R:=λys _ zs=>zs=ys) (aX λys e=>⟨ys,by rw[wI q e];exact e,rfl⟩) λys h1 zs q1 hz=>by subst hz;exact ay jh
  |isin T=>refine ah (R:=λn _ m=>m=n) (cS λn e=>⟨n,P9 hv e,rfl⟩) λn h1 m _ e=>?_;subst e;exact ah (R:=λn _ m=>m=n) (aX λn e=>⟨n,e,rfl⟩) λn h1 m _ e=>by subst e;exact ay jh
 |[d,e],a=>
  obtain⟨v,r,rfl,hv,hr⟩:=a;obtain⟨w,rfl,hw⟩:=HQ.one hr;cases b<;>first|trivial|(cases d<;>trivial)|skip
  ·cases d<;>cases e<;>first|trivial|skip
   have:=hv.int;subst this;have:=hw.int;subst this;exact ay gH
  ·cases d<;>cases e<;>first|trivial|skip
   have:=hv.int;subst this;have:=hw.int;subst this;exact ay gH
 |x::y::z::t,a=>cases b<;>first|trivial|(cases x<;>trivial)|(cases x<;>cases y<;>trivial)
end
def Imp(φ:List Val->M Val)(ψ:List Val->Pr FV):Prop:=∀(A:AP) (h:Hs) (ds vs:List Val),Up A h->az A h ds vs->Rel A h (RV A h) (φ vs h) (ψ ds)
section
variable {Φ:Nat->List Val->M Val} {Ψ:Nat->List Val->Pr FV} {A:AP} {h h1:Hs}
theorem fP{x y:Bool}(f:(x&&y)=true):x=true/\y=true:=Bool.and_eq_true_iff.mp f
theorem uO{x y z:Bool}(f:(x&&y&&z)=true):(x=true/\y=true)/\z=true:=⟨fP (fP f).1,(fP f).2⟩
def bX(Φ:Nat->List Val->M Val)(Ψ:Nat->List Val->Pr FV)(ir:IE):Prop:=∀(aa:bg) (env:Env) (A:AP) (h:Hs),Up A h->ER A aa env h->Rel A h (RV A h) (aK Φ ir env h) (bq Ψ ir aa)
def jX(Φ:Nat->List Val->M Val)(Ψ:Nat->List Val->Pr FV)(d9:kQ):Prop:=(∀(aa:bg) (env:Env) (A:AP) (h:Hs),Up A h->ER A aa env h->Rel A h (X4 A h) (bB Φ d9 env h) (qm Ψ d9 aa)) /\
 ∀(aa:bg) (env:Env) (A:AP) (h:Hs),Up A h->ER A aa env h->Rel A h (λds h' vs=>HQ A h' ds vs) (bB Φ d9 env h) (fM Ψ d9 aa)
theorem RV.up{h0 h':Hs}(p:h0<+:h)(r:RV A h x h' v):RV A h0 x h' v:=⟨r.1,λf=>(r.2 f).f7 (Fr.le p.length_le)⟩
theorem DT{h0:Hs}(p:h0<+:h)(r:Rel A h (RV A h) o x):Rel A h (RV A h0) o x:=wH r λ_ _ _ _ q=>q.up p
theorem Qa{i:Nat}(e:ER A aa env h):Rel A h (UE A) (aK Φ (.var i) env h) (pl (iO aa (.var i))):=by
 rw[aK];refine aX λx hx=>?_;simp only[iO]at hx;split at hx
 ·rename_i f d hd
  cases hx;have:=e i f d hd;revert this;generalize sS f=t;intro this;cases t with
  |false=>rw[aae rfl]at this;obtain⟨a,k2,k3⟩:=this;exact⟨.ref a,by rw[k2],.inr ⟨a,rfl,k3⟩⟩
  |true=>rw[aac (by decide)]at this;obtain⟨v,k1,k2⟩:=this;exact⟨v,by rw[k1],.inl k2⟩
 ·cases hx
theorem rF(o:bX Φ Ψ ir)(u:Up A h)(e:ER A aa env h):Rel A h (UE A) (aK Φ ir env h) (if isVar ir=true then pl (iO aa ir) else bq Ψ ir aa):=by
 by_cases hv:isVar ir=true
 ·rw[aae hv];cases ir<;>first|(cases hv;done)|exact Qa e
 ·rw[aac hv];exact wH (o aa env A h u e) λ_ _ _ _ q=>q.br
theorem HY{α β:Type}{R:α -> Hs -> β -> Prop}{c:Bool}{o:Out β}{p:Pr α}(r:c=true->Rel A h R o p):Rel A h R o (pg c p):=by
 unfold pg;cases c with
 |true=>rw[aae rfl];exact r rfl
 |false=>rw[aac Z3];trivial
theorem v_var{i:Nat}:bX Φ Ψ (.var i):=λaa env A h u e=>by
 rw[aK,bq];cases hv:aa[i]? with
 |none=>trivial
 |some o=>
  cases o with
  |none=>trivial
  |some fd=>
   obtain⟨f,d⟩:=fd;refine HY λhf=>?_
   ·have:=e i f d hv;rw[aac (by simp[hf])]at this;obtain⟨v,k1,k2⟩:=this;rw[k1];exact⟨v,h,rfl,aar _,uN k2⟩
theorem HZ{α:Type}{f:Hs->Option α}:ask f h=bnd (ask f) (λz=>ret z) h:=by unfold bnd ask aZ;cases f h<;>rfl
theorem z8(f:kR d=true):Dn A h d d:=(eN d d f).mpr rfl
theorem Qc(f:kR d=true):bX Φ Ψ (.cst d):=λaa env A h u e=>by rw[aK,bq];exact ay (uN (z8 f))
theorem Qd(f:kR d=true):bX Φ Ψ (.con x d):=λaa env A h u e=>by rw[aK,bq];exact ay (uN (z8 f))
theorem UH:bX Φ Ψ .no:=λaa env A h u e=>by rw[bq];trivial
theorem Qe(ha:bX Φ Ψ a)(hb:bX Φ Ψ b):bX Φ Ψ (.bin o a b):=λaa env A h u e=>by
 rw[aK,bq];exact ah (rF ha u e) λx h1 v p1 q1=>ah (rF hb (u.ext p1) (e.ext p1)) λy h2 w p2 q2=>HU ((u.ext p1).ext p2) (p1.trans p2) (DB.ext p2 q1) q2
theorem Qf(ha:bX Φ Ψ a):bX Φ Ψ (.neg a):=λaa env A h u e=>by
 rw[aK,bq];refine ah (ha aa env A h u e) λx h1 v p1 q1=>?_;obtain⟨f,d⟩:=x;have q:=q1.1;cases d<;>dsimp only<;>first|trivial|skip
 dsimp only at q;rw[Dn]at q;subst q;exact ay gH
theorem Qg(ha:bX Φ Ψ a)(hb:bX Φ Ψ b):bX Φ Ψ (.cmp o a b):=λaa env A h u e=>by
 rw[aK,bq];exact ah (rF ha u e) λx h1 v p1 q1=>ah (rF hb (u.ext p1) (e.ext p1)) λy h2 w p2 q2=>
  ah (R:=λt _ t'=>t'=t) (cS λt et=>⟨t,yF (DB.ext p2 q1) q2 et,rfl⟩) λt h3 t' p3 et=>by subst et;exact ay jh
theorem Qh(ha:bX Φ Ψ a)(hb:bX Φ Ψ b)(hc:bX Φ Ψ c):bX Φ Ψ (.chn o o' a b c):=λaa env A h u e=>by
 rw[aK,bq];refine ah (ha aa env A h u e) λx h1 v p1 q1=>ah (hb aa env A h1 (u.ext p1) (e.ext p1)) λy h2 w p2 q2=>
  ah (R:=λt _ t'=>t'=t) (cS λt et=>⟨t,yF (DB.ext p2 q1.br) q2.br et,rfl⟩) λt h3 t' p3 et=>?_
 subst et;cases t' with
 |true=>
  rw[aae rfl,aae rfl];exact ah (hc aa env A h3 (((u.ext p1).ext p2).ext p3) (((e.ext p1).ext p2).ext p3)) λz h4 w' p4 q4=>
   ah (R:=λt _ t'=>t'=t) (cS λt et=>⟨t,yF (DB.ext (p3.trans p4) q2.br) q4.br et,rfl⟩) λt h3 t' p3 et=>by subst et;exact ay jh
 |false=>rw[aac Z3,aac Z3];exact ay jh
theorem ji(q:Dn A h d v):Rel A h (λt _ t'=>t'=t) (nU v h) (ql d):=by
 cases d<;>first|trivial|skip
 rw[Dn]at q;subst q;exact ay rfl
theorem v_and(ha:bX Φ Ψ a)(hb:bX Φ Ψ b):bX Φ Ψ (.and a b):=λaa env A h u e=>by
 rw[aK,bq];refine ah (ha aa env A h u e) λx h1 v p1 q1=>ah (ji q1.1) λt h2 t' p2 et=>?_;subst et;cases t' with
 |true=>rw[aae rfl,aae rfl];exact ah (hb aa env A h2 ((u.ext p1).ext p2) ((e.ext p1).ext p2)) λy h3 w p3 q3=>ah (ji q3.1) λt h2 t' p2 et=>by subst et;exact ay jh
 |false=>rw[aac Z3,aac Z3];exact ay jh
theorem v_or(ha:bX Φ Ψ a)(hb:bX Φ Ψ b):bX Φ Ψ (.or a b):=λaa env A h u e=>by
 rw[aK,bq];refine ah (ha aa env A h u e) λx h1 v p1 q1=>ah (ji q1.1) λt h2 t' p2 et=>?_;subst et;cases t' with
 |false=>rw[aac Z3,aac Z3];exact ah (hb aa env A h2 ((u.ext p1).ext p2) ((e.ext p1).ext p2)) λy h3 w p3 q3=>ah (ji q3.1) λt h2 t' p2 et=>by subst et;exact ay jh
 |true=>rw[aae rfl,aae rfl];exact ay jh
theorem v_not(ha:bX Φ Ψ a):bX Φ Ψ (.not a):=λaa env A h u e=>by
 rw[aK,bq];exact ah (ha aa env A h u e) λx h1 v p1 q1=>ah (ji q1.1) λt h2 t' p2 et=>by subst et;exact ay jh
theorem v_ite(hc:bX Φ Ψ c)(ha:bX Φ Ψ a)(hb:bX Φ Ψ b):bX Φ Ψ (.ite c a b):=λaa env A h u e=>by rw[bq];trivial
theorem JG:jX Φ Ψ .nil:=⟨λaa env A h u e=>by rw[bB,qm];exact ay ⟨az.nil,λ_=>az.nil⟩,λaa env A h u e=>by rw[bB,fM];exact ay rfl⟩
theorem DU(he:bX Φ Ψ e)(hs:jX Φ Ψ es):jX Φ Ψ (.cons e es):=by
 refine⟨λaa env A h u er=>?_,λaa env A h u er=>?_⟩
 ·rw[bB,qm]
  refine ah (he aa env A h u er) λx h1 v p1 q1=>ah (hs.1 aa env A h1 (u.ext p1) (er.ext p1)) λy h2 vs p2 q2=>?_;refine ay ⟨az.cons (q1.1.ext p2) q2.1,λhf=>?_⟩;have hf':x.1=true/\y.1=true:=by simpa using hf
  exact az.cons ((q1.2 hf'.1).ext p2) ((q2.2 hf'.2).f7 (Fr.le p1.length_le))
 ·rw[bB,fM];refine ah (rF he u er) λx h1 v p1 q1=>ah (hs.2 aa env A h1 (u.ext p1) (er.ext p1)) λy h2 vs p2 q2=>?_;exact ay ⟨v,vs,rfl,DB.ext p2 q1,q2⟩
theorem Qi(hs:jX Φ Ψ es):bX Φ Ψ (.tup es):=λaa env A h u e=>by
 rw[aK,bq];refine ah (hs.1 aa env A h u e) λx h1 vs p1 q1=>bL (λz=>by rw[<-q1.1.length];exact z) λ_=>ay ⟨?_,λhf=>?_⟩
 ·show Dn A h1 (.tup _) _;rw[Dn];exact⟨vs,rfl,q1.1⟩
 ·show Dn _ h1 (.tup _) _;rw[Dn];exact⟨vs,rfl,q1.2 hf⟩
theorem Mz:bX Φ Ψ .dct0:=λaa env A h u e=>by
 rw[aK,bq];refine⟨_,_,rfl,dg _,?_,λhf=>?_⟩
 ·show Dn A _ (.dc [] []) _;rw[Dn];exact⟨_,[],rfl,u _ (aag _),fm _,rfl,az.nil⟩
 ·show Dn _ _ (.dc [] []) _;rw[Dn];exact⟨_,[],rfl,aag _,fm _,rfl,az.nil⟩
theorem z9:putD [k] [.bl true] k (.bl true)=.dc [k] [.bl true]:=by simp[putD,eF]
theorem Aa(h:k≠l):putD [k] [.bl true] l (.bl true)=.dc [k,l] [.bl true,.bl true]:=by simp[putD,eF,h]
theorem Ab:eF [(k,.bl true)] k (.bl true)=[(k,.bl true)]:=by simp[eF]
theorem Ac(h:k≠l):eF [(k,.bl true)] l (.bl true)=[(k,.bl true),(l,.bl true)]:=by simp[eF,h]
theorem uQ:Dn A h (.bl true) (.bl true):=by rw[Dn]
theorem MA(hk:bX Φ Ψ k)(hv:bX Φ Ψ v):bX Φ Ψ (.dct1 k v):=λaa env A h u e=>by
 rw[aK,bq];refine ah (hk aa env A h u e) λx h1 w p1 q1=>ah (R:=λkk _ kk'=>kk'=kk) (aX λkk ek=>⟨kk,uM q1.1 ek,rfl⟩) λkk h2 kk' p2 hkk=>?_;subst hkk;refine ah (hv aa env A h2 ((u.ext p1).ext p2) ((e.ext p1).ext p2)) λy h3 z p3 q3=>ah (R:=λkk _ kk'=>kk'=kk) (aX λkk ek=>⟨kk,uM q3.1 ek,rfl⟩) λk2 h4 k2' p4 hk2=>?_;subst hk2;have p:=((p1.trans p2).trans p3).trans p4
 by_cases ce:kk'=k2'
 ·subst ce
  rw[z9,Ab];refine⟨_,_,rfl,dg _,?_,λhf=>?_⟩
  ·show Dn A _ (.dc [kk'] [.bl true]) _;rw[Dn];exact⟨_,[(kk',.bl true)],rfl,u _ p.length_le,fm _,rfl,az.cons uQ az.nil⟩
  ·show Dn _ _ (.dc [kk'] [.bl true]) _;rw[Dn];exact⟨_,[(kk',.bl true)],rfl,p.length_le,fm _,rfl,az.cons uQ az.nil⟩
 ·rw[Aa ce,Ac ce]
  refine⟨_,_,rfl,dg _,?_,λhf=>?_⟩
  ·show Dn A _ (.dc [kk',k2'] [.bl true,.bl true]) _;rw[Dn];exact⟨_,[(kk',.bl true),(k2',.bl true)],rfl,u _ p.length_le,fm _,rfl,az.cons uQ (az.cons uQ az.nil)⟩
  ·show Dn _ _ (.dc [kk',k2'] [.bl true,.bl true]) _;rw[Dn];exact⟨_,[(kk',.bl true),(k2',.bl true)],rfl,p.length_le,fm _,rfl,az.cons uQ (az.cons uQ az.nil)⟩
theorem MB(hd:bX Φ Ψ d)(hk:bX Φ Ψ k)(hx:bX Φ Ψ x):bX Φ Ψ (.dget d k x):=λaa env A h u e=>by rw[bq];trivial
theorem Ia(hd:bX Φ Ψ d):bX Φ Ψ (.lkeys d):=λaa env A h u e=>by rw[bq];trivial
theorem Ib(hd:bX Φ Ψ d):bX Φ Ψ (.skeys d):=λaa env A h u e=>by rw[bq];trivial
theorem wK:∀{xs:List Val} {ns:List Int},aW xs=some ns->xs=ns.map .int
 |[],ns,e=>by cases e;rfl
 | x::xs,ns,e=>by
  unfold aW at e;rw[cG]at e;obtain⟨i,e1,e⟩:=Z5.mp e;obtain⟨r,e2,e⟩:=Z5.mp e;cases e;cases x<;>simp at e1;subst e1;rw[wK e2];rfl
theorem MC{p q:Nat}(hd:bX Φ Ψ d)(hw:bX Φ Ψ w):bX Φ Ψ (.dflt N' js p q d w):=λaa env A h u e=>by rw[bq];trivial
theorem Qj(ha:bX Φ Ψ a):bX Φ Ψ (.isc a x bs):=λaa env A h u e=>by rw[bq];trivial
theorem MD(ha:bX Φ Ψ a):bX Φ Ψ (.sset a):=λaa env A h u e=>by
 rw[aK,bq];refine ah (rF ha u e) λx h1 v p1 q1=>?_;obtain⟨f,d⟩:=x;cases d<;>first|trivial|skip
 rename_i xs;obtain⟨vs,e1,e2⟩:=DB.lst q1;have ea:∀(F:List Val->M Val),bnd (ask λh=>aF h v) F h1=F vs h1:=λF=>by unfold bnd ask aZ;dsimp only;rw[e1]
 rw[ea];show Rel A h1 _ _ (pb (pl (aW xs)) _);refine ah (R:=λns h' ns'=>ns'=ns) (aX λns en=>⟨ns,?_,rfl⟩) λns h2 ns' p2 en=>?_
 ·have ei:=wK en;subst ei;rw[(bu _ _ (cO ns)).mp e2];exact en
 ·subst en;refine bL (λz=>z) λ_=>?_;have hi:∀ms:List Int,az A h2 (ms.map Val.int) (ms.map Val.int):=λms=>(bu _ _ (cO ms)).mpr rfl;exact gr ((u.ext p1).ext p2) (p1.trans p2) (hi _) λ_=>(bu _ _ (cO _)).mpr rfl
theorem Qk(hs:jX Φ Ψ es):bX Φ Ψ (.lst es):=λaa env A h u e=>by
 rw[aK,bq];exact ah (hs.1 aa env A h u e) λx h1 vs p1 q1=>bL (λz=>by rw[<-q1.1.length];exact z) λ_=>gr (u.ext p1) p1 q1.1 q1.2
theorem Ql(ha:bX Φ Ψ a)(hb:bX Φ Ψ b):bX Φ Ψ (.idx a b):=λaa env A h u e=>by
 rw[aK,bq];refine ah (rF ha u e) λx h1 v p1 q1=>ah (hb aa env A h1 (u.ext p1) (e.ext p1)) λy h2 w p2 q2=>?_;rw[HZ];exact ah (R:=λz h' z'=>Dn A h' z z') (cS λz ez=>My (DB.ext p2 q1) q2.1 ez) λz h3 z' p3 q3=>ay (uN q3)
theorem l8(o:bX Φ Ψ ir)(u:Up A h)(e:ER A aa env h) :
  Rel A h (λ(t:Option Int) _ t'=>t'=t) ((if c9 ir=true then ret none else bnd (aK Φ ir env) λv=>bnd (aZ (kj v)) λi=>ret (some i)) h) (if c9 ir=true then .ok none else pb (bq Ψ ir aa) λv=>pb (pl (kj v.2)) λi=>.ok (some i)):=by
 by_cases hn:c9 ir=true
 ·rw[aae hn,aae hn];exact ay rfl
 ·rw[aac hn,aac hn]
  refine ah (o aa env A h u e) λx h1 v p1 q1=>ah (R:=λt _ t'=>t'=t) (aX λi ei=>?_) λt h2 t' p2 et=>by subst et;exact ay rfl
  obtain⟨f,d⟩:=x;have q:=q1.1;cases d<;>first|(cases ei;done)|skip
  dsimp only at q;rw[Dn]at q;subst q;exact⟨i,ei,rfl⟩
theorem Qm(ha:bX Φ Ψ a)(hl:bX Φ Ψ lo)(hh:bX Φ Ψ hi):bX Φ Ψ (.slc a lo hi):=λaa env A h u e=>by
 rw[aK,bq];refine ah (rF ha u e) λx h1 v p1 q1=>ah (l8 hl (u.ext p1) (e.ext p1)) λl h2 l' p2 el=>ah (l8 hh ((u.ext p1).ext p2) ((e.ext p1).ext p2)) λr h3 r' p3 er=>?_;subst el;subst er;exact HV (((u.ext p1).ext p2).ext p3) ((p1.trans p2).trans p3) (DB.ext (p2.trans p3) q1)
theorem Qn(ha:bX Φ Ψ a)(hs:bX Φ Ψ sx):bX Φ Ψ (.rev a sx):=λaa env A h u e=>by rw[bq];trivial
theorem ME{j:Nat}(hΦ:∀j,Imp (Φ j) (Ψ j))(hs:jX Φ Ψ es):bX Φ Ψ (.call j es):=λaa env A h u e=>by
 rw[aK,bq];exact ah (hs.1 aa env A h u e) λx h1 vs p1 q1=>DT p1 (hΦ j A h1 x.2 vs (u.ext p1) q1.1)
theorem qt{α β:Type}{R:α -> Hs -> β -> Prop}{m:M β}{p:Pr α}(r:Rel A h R (m h) p):Rel A h R (calm m h) (sU p):=by
 cases p with
 |ok a=>obtain⟨b,h1,e,q⟩:=r;unfold calm;rw[e];exact⟨b,h1,rfl,q⟩
 |exc c es=>trivial
 |no=>trivial
theorem Ic{β:Type}{R:FV->Hs -> β -> Prop}{o:Out β}{c:Bool}(k:c=true->Rel A h R o p):Rel A h R o (pg c p):=by
 cases c with
 |true=>exact k rfl
 |false=>trivial
theorem Qo{n:Nat}(hΦ:∀j,Imp (Φ j) (Ψ j))(ha:bX Φ Ψ a):bX Φ Ψ (.fld n a x):=λaa env A h u e=>by
 rw[aK,bq];refine ah (ha aa env A h u e) λd h1 v p1 q1=>?_;have r:=hΦ n A h1 [d.2] [v] (u.ext p1) ⟨v,[],rfl,q1.1,rfl⟩;revert r;generalize Ψ n [d.2]=pp;intro r;unfold HM
 split
 ·rename_i c g w
  refine Ic λhw=>?_
  by_cases cx:g=x
  ·rw[aae cx];obtain⟨ws,h',e1,p2,dn⟩:=r;obtain⟨v1,r1,rfl,X5,v2,r2,rfl,X6,rfl⟩:=dn;have e2:v1=.str g:=(eN _ _ rfl).mp X5;have e3:v2=w:=(eN _ _ hw).mp X6;refine⟨w,h',?_,p2,(eN _ _ hw).mpr rfl,λ_=>(eN _ _ hw).mpr rfl⟩;unfold K9;rw[e1,e2,e3];exact aae cx
  ·rw[aac cx];trivial
 ·trivial
theorem Qp(hΦ:∀j,Imp (Φ j) (Ψ j))(ha:bX Φ Ψ a)(hs:jX Φ Ψ es):bX Φ Ψ (.mth a m js es):=λaa env A h u e=>by
 rw[aK,bq];refine ah (hs.1 aa env A h u e) λds h1 vs p1 q1=>?_;cases js with
 |nil=>trivial
 |cons pr jr=>
  dsimp only;have r:=hΦ pr.2 A h1 ds.2 vs (u.ext p1) q1.1;revert r;generalize Ψ pr.2 ds.2=pp;intro r;cases pp with
  |ok x=>trivial
  |no=>trivial
  |exc c xs=>
   obtain⟨ws,h',e1,p2,dn⟩:=r;have r2:=hΦ pr.1 A h' [.int (c:Int)] [.int (c:Int)] ((u.ext p1).ext p2) ⟨_,[],rfl,by rw[Dn],rfl⟩;have ek:La (Φ pr.1) (Φ pr.2 vs) h1=calm (Φ pr.1 [.int (c:Int)]) h':=by unfold La;rw[e1]
   rw[ek];have r3:=DT (p1.trans p2) (qt r2);show Rel A h1 _ _ (sU (Ψ pr.1 [.int (c:Int)]));revert r3;cases sU (Ψ pr.1 [.int (c:Int)]) with
   |ok x=>rintro⟨b,h2,e,q,rv⟩;exact⟨b,h2,e,p2.trans q,rv⟩
   |exc c es=>rintro⟨b,h2,e,q,rv⟩;exact⟨b,h2,e,p2.trans q,rv⟩
   |no=>exact λ_=>trivial
theorem Qq(hs:jX Φ Ψ es):bX Φ Ψ (.blt b es):=λaa env A h u e=>by
 rw[aK,bq];exact ah (hs.2 aa env A h u e) λx h1 vs p1 q1=>HX (u.ext p1) p1 q1
theorem Qs(ha:bX Φ Ψ a)(hs:jX Φ Ψ es):bX Φ Ψ (.met m a es):=λaa env A h u e=>by
 cases m with
 |join=>rw[bq];trivial
 |_=>rw[bq]<;>first|trivial|(intro z;cases z)
def SrcR(A:AP)(h:Hs)(xs:List Val)(src:Src):Prop:=∃ws,az A h xs ws/\∀h',h<+:h'->src.items h'=some ws
theorem jK{lo:Int}{n:Nat}:az A h (ck lo n) (ck lo n):=by
 unfold ck;generalize List.range n=l
 induction l with
 |nil=>exact az.nil
 |cons a l ih=>exact az.cons (by rw[Dn]) ih
theorem gU:∀{xs ws:List Val} (i:Nat),az A h xs ws->az A h (bW i xs) (bW i ws)
 |[],ws,i,q=>by rw[az]at q;subst q;exact az.nil
 | x::xs,ws,i,q=>by
  rw[az]at q;obtain⟨w,r,rfl,a,b⟩:=q;exact az.cons (by rw[Dn];exact⟨_,rfl,az.cons (by rw[Dn]) (az.cons a az.nil)⟩) (gU (i+1) b)
theorem Ad{ds vs:List Val}(a:DB A h (.rl ds) v):∃ws,az A h ds ws/\((v=.rl ws)\/∃i,v=.ref i/\∀h',h<+:h'->aF h' (.ref i)=some ws):=by
 rcases a with a|⟨i,rfl,vs,g,q⟩
 ·rw[Dn]at a
  rcases a with ⟨vs,rfl,_,q⟩|⟨i,vs,rfl,_,g,q⟩
  ·exact⟨vs,q,.inl rfl⟩
  ·exact⟨vs,q,.inr ⟨i,rfl,λh' p=>by simp[aF,iG p g]⟩⟩
 ·exact⟨vs,q,.inr ⟨i,rfl,λh' p=>by simp[aF,iG p g]⟩⟩
theorem Ae(a:HQ A h ds vs):Rel A h (λxs h' src=>SrcR A h' xs src) (aZ (srcOf k vs) h) (pl (DK k ds)):=by
 refine aX λxs e=>?_;cases k with
 |seq=>
  match ds,e with
  |[.tup es],e=>cases e;obtain⟨v,rfl,hv⟩:=a.one;obtain⟨ws,rfl,q⟩:=hv.tup;exact⟨.fix ws,rfl,ws,q,λ_ _=>rfl⟩
  |[.rl es],e=>
   cases e;obtain⟨v,rfl,hv⟩:=a.one;obtain⟨ws,q,rfl|⟨i,rfl,g⟩⟩:=Ad (vs:=[]) hv
   ·exact⟨.fix ws,rfl,ws,q,λ_ _=>rfl⟩
   ·exact⟨.live i,rfl,ws,q,λh' p=>g h' p⟩
 |range=>
  match ds,e with
  |[.int n],e=>
   obtain⟨v,rfl,hv⟩:=a.one;have:=hv.int;subst this;change (if inR n=true then some (ck 0 n.toNat) else none)=some _ at e;split at e
   ·rename_i hn;cases e;exact⟨.fix _,aae hn,_,jK,λ_ _=>rfl⟩
   ·cases e
  |[.int n,.int m],e=>
   obtain⟨v,r,rfl,hv,hr⟩:=a;obtain⟨w,rfl,hw⟩:=HQ.one hr;have:=hv.int;subst this;have:=hw.int;subst this;change (if (inR n&&inR m)=true then some (ck n (m-n).toNat) else none)=some _ at e;split at e
   ·rename_i hn;cases e;exact⟨.fix _,aae hn,_,jK,λ_ _=>rfl⟩
   ·cases e
 |enum=>
  match ds,e with
  |[.rl es],e=>
   cases e;obtain⟨v,rfl,hv⟩:=a.one;obtain⟨ws,q,rfl|⟨i,rfl,g⟩⟩:=Ad (vs:=[]) hv
   ·exact⟨.fix _,rfl,_,gU 0 q,λ_ _=>rfl⟩
   ·exact⟨.enum i,rfl,_,gU 0 q,λh' p=>by simp[Src.items,g h' p]⟩
 |zip=>cases e
theorem Af:∀{is:List Nat} {ds vs:List Val} {aa aH:bg} {env:Env},cB is ds aa=some aH->az A h ds vs->ER A aa env h->(∀i∈is,i<aa.length->i<env.length)->∃env',bindAll is vs env=some env'/\ER A aH env' h
 | [],[],vs,aa,aH,env,e,q,er,_=>by
  rw[az]at q;subst q;simp only[cB]at e;cases e;exact⟨env,rfl,er⟩
 | i::is,d::ds,vs,aa,aH,env,e,q,er,hl=>by
  rw[az]at q;obtain⟨v,r,rfl,q1,q2⟩:=q;simp only[cB]at e;have X7:ER A (aa.set i (some (.sh,d))) (env.set i (some v)) h:=λj f d' hj=>by
   by_cases hij:i=j
   ·subst hij
    have hi:i<aa.length:=by have:=(Z9.mp hj).1;simpa using this
    rw[aak hi]at hj;cases hj;rw[aac (by decide)];exact⟨v,by rw[aak (hl i aad hi)],q1⟩
   ·rw[aaa hij]at hj;rw[aaa hij];exact er j f d' hj
  simp only[bindAll];exact Af e q2 X7 λj hj hl'=>by simpa using hl j (Z6 _ hj) (by simpa using hl')
 |[],_::_,_,_,_,_,e,_,_,_=>by simp[cB]at e
 |_::_,[],_,_,_,_,e,_,_,_=>by simp[cB]at e
theorem wL(e:cY p d aa=some aH)(q:Dn A h d v)(er:ER A aa env h)(hl:aa.length<=env.length):∃env',gq p v env=some env'/\ER A aH env' h:=by
 cases p with
 |one i=>
  simp only[cY]at e;cases e;refine⟨_,rfl,λj f d' hj=>?_⟩
  by_cases hij:i=j
  ·subst hij
   have hi:i<aa.length:=by have:=(Z9.mp hj).1;simpa using this
   rw[aak hi]at hj;cases hj;rw[aac (by decide)];exact⟨v,by rw[aak (by omega)],q⟩
  ·rw[aaa hij]at hj;rw[aaa hij];exact er j f d' hj
 |tup is=>
  cases d<;>simp only[cY]at e<;>first|(cases e;done)|skip
  rw[Dn]at q;obtain⟨vs,rfl,q⟩:=q;exact Af e q er λi _ hi=>by omega
theorem Ag(e:ER A aa env h):ER A (jg js aa) (ja js env) h:=λi f d q=>by
 unfold jg at q;rw[aay]at q;cases hj:js[i]? with
 |none=>rw[hj]at q;cases q
 |some o=>
  rw[hj]at q;simp only[map_some]at q;cases o with
  |none=>cases q
  |some j=>
   dsimp only at q;cases ej:aa[j]? with
   |none=>rw[ej]at q;cases q
   |some w=>
    cases w with
    |none=>rw[ej]at q;cases q
    |some fd=>
     rw[ej]at q;cases q;have:=e j f d ej;revert this;generalize sS f=t;intro this;cases t with
     |false=>rw[aae rfl]at this |-;obtain⟨a,k2,k3⟩:=this;refine⟨a,?_,k3⟩;unfold ja;rw[aay,hj];simp only[map_some];rw[k2]
     |true=>rw[aac (by decide)]at this |-;obtain⟨v,k1,k2⟩:=this;refine⟨v,?_,k2⟩;unfold ja;rw[aay,hj];simp only[map_some];rw[k1]
theorem qu :
  ∀(xs:List Val) (vs:List Val) (i:Nat) (acc:List Val) (h:Hs),hb<+:h->Up A h->(∀h',h<+:h'->src.items h'=some ws)->ws.drop i=vs->az A h xs vs ->
   (∀x v h',h<+:h'->Dn A h' x v->Rel A h' (λo h'' o'=>match o,o' with|some e,some e'=>RV A hb e h'' e'|none,none=>True|_,_=>False) (f v h') (g x)) ->
   Rel A h (λp h' ys=>∃zs,ys=acc++zs/\az A h' p.2 zs/\(p.1=true->az (Fr hb.length) h' p.2 zs)) (fj src f vs.length i acc h) (kq g xs)
 | [],vs,i,acc,h,Wg,u,hi,hd,q,hf=>by
  rw[az]at q;subst q;have hl:ws.length<=i:=List.drop_eq_nil_iff.mp hd;have ev:fj src f ([]:List Val).length i acc h=.ok acc h:=by show fj src f 0 i acc h=_;simp only[fj];unfold bnd ask aZ aI;dsimp only;rw[hi h (aar _)];dsimp only;rw[aae (decide_eq_true hl)];rfl
  rw[ev,kq];exact⟨acc,h,rfl,aar _,[],by simp,az.nil,λ_=>az.nil⟩
 | x::xs,vs,i,acc,h,Wg,u,hi,hd,q,hf=>by
  rw[az]at q;obtain⟨v,r,rfl,q1,q2⟩:=q;have hv:ws[i]?=some v:=by have:=aa3 (λl=>l[0]?) hd;simpa using this
  have hr:ws.drop (i+1)=r:=by
   have:ws.drop (i+1)=(ws.drop i).drop 1:=by rw[List.drop_drop]
   rw[this,hd];rfl
  have ev:fj src f (v::r).length i acc h=bnd (f v) (λo=>fj src f r.length (i+1) (match o with|some e=>acc++[e]|none=>acc)) h:=by show fj src f (r.length+1) i acc h=_;simp only[fj];unfold bnd ask aZ;dsimp only;rw[hi h (aar _)];dsimp only;rw[hv];try rfl
  rw[ev,kq];refine ah (hf x v h (aar _) q1) λo h1 o' p1 ho=>?_;have ih:=λacc'=>qu xs r (i+1) acc' h1 (Wg.trans p1) (u.ext p1) (λh' p=>hi h' (p1.trans p)) hr (q2.ext p1) λx v h' p=>hf x v h' (p1.trans p);cases o' with
  |some e'=>
   cases o with
   |none=>exact ho.elim
   |some e=>
    have ih:=ih (acc++[e']);cases e2:kq g xs with
    |ok p=>
     rw[e2]at ih;obtain⟨ys,h2,e3,p2,zs,rfl,z1,z2⟩:=ih;refine⟨_,h2,e3,p2,e'::zs,by simp,az.cons (ho.1.ext p2) z1,λhp=>?_⟩;have Wh:e.1=true/\p.1=true:=by simpa using hp
     exact az.cons ((ho.2 Wh.1).ext p2) (z2 Wh.2)
    |exc c es=>rw[e2]at ih;exact ih
    |no=>trivial
  |none=>
   cases o with
   |some e'=>exact ho.elim
   |none=>
    have ih:=ih acc;cases e2:kq g xs with
    |ok p=>rw[e2]at ih;obtain⟨ys,h2,e3,p2,zs,rfl,z1,z2⟩:=ih;exact⟨_,h2,e3,p2,zs,rfl,z1,z2⟩
    |exc c es=>rw[e2]at ih;exact ih
    |no=>trivial
theorem jk{c:Nat}:Imp (lK c) (sV c):=λA h ds vs u q=>by
 have l:=q.length
 match ds,vs,l,q with
 |[],[],_,_=>exact⟨[],h,rfl,aar _,rfl⟩
 |_::_,_,_,_=>trivial
theorem jL{c:Nat}:Imp (jb c g) (yE c g):=λA h ds vs u q=>by
 have l:=q.length
 match ds,vs,l,q with
 |[],_,_,_=>trivial
 |a::b::r,_,_,_=>cases a<;>trivial
 |[d],[v],_,q=>
  cases d with
  |str i=>
   have e:v=.str i:=by obtain⟨y,r,z,q2,_⟩:=q;cases z;rw[Dn]at q2;exact q2
   subst e;have d1:Dn A h (.str g) (.str g):=by rw[Dn]
   have d2:Dn A h (.str i) (.str i):=by rw[Dn]
   exact⟨[.str g,.str i],h,rfl,aar _,⟨_,_,rfl,d1,⟨_,_,rfl,d2,rfl⟩⟩⟩
  |int i=>
   have e:v=.int i:=by obtain⟨y,r,z,q2,_⟩:=q;cases z;rw[Dn]at q2;exact q2
   subst e;have d1:Dn A h (.str g) (.str g):=by rw[Dn]
   have d2:Dn A h (.int i) (.int i):=by rw[Dn]
   exact⟨[.str g,.int i],h,rfl,aar _,⟨_,_,rfl,d1,⟨_,_,rfl,d2,rfl⟩⟩⟩
  |_=>trivial
theorem MF(hs:jX Φ Ψ it)(hc:bX Φ Ψ c)(he:bX Φ Ψ elt):bX Φ Ψ (.comp N js pat k it c elt):=λaa env A h u e=>by
 rw[aK,bq];refine qt ?_;refine ah (hs.2 aa env A h u e) λds h1 vs p1 q1=>ah (Ae q1) λxs h2 src p2 q2=>?_;obtain⟨ws,q3,q4⟩:=q2;have l:=q3.length;have ev:∀(F:List Val->M Val),bnd (ask λh=>src.items h) F h2=F ws h2:=λF=>by unfold bnd ask aZ;dsimp only;rw[q4 h2 (aar _)]
 rw[ev];refine bL (λz=>by rw[<-l];exact z) λ_=>?_;have u2:=(u.ext p1).ext p2;have e2:=(e.ext p1).ext p2;refine ah (qu (hb:=h) xs ws 0 [] h2 (p1.trans p2) u2 q4 rfl q3 λx v h' p' qx=>?_) λp h3 ys p3 hp=>?_
 ·refine ah (R:=λaH _ env'=>∃_:ER A aH env' h',True) (aX λaH ev'=>?_) λaH h4 env' p4 he'=>?_
  ·obtain⟨env',a1,a2⟩:=wL ev' qx (Ag (e2.ext p')) (by simp[jg,ja]);exact⟨env',a1,a2,trivial⟩
  ·obtain⟨er,_⟩:=he'
   have er:=er.ext p4;have u4:=(u2.ext p').ext p4;have PR:Rel A h4 (λt _ t'=>t'=t) ((if c9 c=true then ret true else bnd (aK Φ c env') λv=>ask λh=>c8 h v) h4) (if c9 c=true then .ok true else pb (bq Ψ c aH) λv=>pl (c8 [] v.2)):=by
    by_cases hn:c9 c=true
    ·rw[aae hn,aae hn];exact ay rfl
    ·rw[aac hn,aac hn];exact ah (hc aH env' A h4 u4 er) λy h5 w p5 q5=>cS λt et=>⟨t,yG q5.br et,rfl⟩
   refine ah PR λt h5 t' p5 et=>?_;subst et;cases t' with
   |true=>rw[aae rfl,aae rfl];exact ah (he aH env' A h5 (u4.ext p5) (er.ext p5)) λy h6 w p6 q6=>ay (q6.up ((p1.trans p2).trans (p'.trans (p4.trans p5))))
   |false=>rw[aac Z3,aac Z3];exact ay trivial
 ·obtain⟨zs,rfl,z1,z2⟩:=hp;exact gr (u2.ext p3) ((p1.trans p2).trans p3) z1 z2
mutual
noncomputable def dm:IE->Bool
 |.cst d=>kR d
 |.con _ d=>kR d
 |.bin _ a b=>dm a&&dm b
 |.neg a=>dm a
 |.cmp _ a b=>dm a&&dm b
 |.chn _ _ a b c=>dm a&&dm b&&dm c
 |.and a b=>dm a&&dm b
 |.or a b=>dm a&&dm b
 |.not a=>dm a
 |.ite a b c=>dm a&&dm b&&dm c
 |.tup es=>l9 es
 |.lst es=>l9 es
 |.idx a b=>dm a&&dm b
 |.slc a b c=>dm a&&dm b&&dm c
 |.call _ es=>l9 es
 |.blt _ es=>l9 es
 |.met _ a es=>dm a&&l9 es
 |.comp _ _ _ _ es a b=>l9 es&&dm a&&dm b
 |.var _=>true
 |.no=>true
 |.dct0=>true
 |.sset a=>dm a
 |.dget a b c=>dm a&&dm b&&dm c
 |.dct1 a b=>dm a&&dm b
 |.lkeys a=>dm a
 |.sdef ..=>false
 |.svals _=>false
 |.skeys a=>dm a
 |.fld _ a _=>dm a
 |.mth a _ _ es=>dm a&&l9 es
 |.rev a b=>dm a&&dm b
 |.dflt _ _ _ _ a b=>dm a&&dm b
 |.isc a _ _=>dm a
noncomputable def l9:kQ->Bool
 |.nil=>true
 |.cons e es=>dm e&&l9 es
end
theorem v_all(hΦ:∀j,Imp (Φ j) (Ψ j)):(∀ir,dm ir=true->bX Φ Ψ ir)/\∀d9,l9 d9=true->jX Φ Ψ d9:=by
 have one:∀ir,dm ir=true->bX Φ Ψ ir:=by
  intro ir;refine IE.rec (motive_1:=λir=>dm ir=true->bX Φ Ψ ir) (motive_2:=λd9=>l9 d9=true->jX Φ Ψ d9) ?_ ?_ ?_ ?_ ?_ ?_ ?_ ?_ ?_ ?_ ?_ ?_ ?_ ?_ ?_ ?_ ?_ ?_ ?_ ?_ ?_ ?_ ?_ ?_ ?_ ?_ ?_ ?_ ?_ ?_ ?_ ?_ ?_ ?_ ?_ ir
  ·exact λ_ _=>v_var
  ·exact λ_ f=>Qc f
  ·exact λ_ _ f=>Qd f
  ·exact λ_=>UH
  ·intro _ _ _ a b f;have f:=fP f;exact Qe (a f.1) (b f.2)
  ·intro _ a f;exact Qf (a f)
  ·intro _ _ _ a b f;have f:=fP f;exact Qg (a f.1) (b f.2)
  ·intro _ _ _ _ _ a b c f;have f:=uO f;exact Qh (a f.1.1) (b f.1.2) (c f.2)
  ·intro _ _ a b f;have f:=fP f;exact v_and (a f.1) (b f.2)
  ·intro _ _ a b f;have f:=fP f;exact v_or (a f.1) (b f.2)
  ·intro _ a f;exact v_not (a f)
  ·intro _ _ _ a b c f;have f:=uO f;exact v_ite (a f.1.1) (b f.1.2) (c f.2)
  ·intro _ a f;exact Qi (a f)
  ·intro _ a f;exact Qk (a f)
  ·intro _ _ a b f;have f:=fP f;exact Ql (a f.1) (b f.2)
  ·intro _ _ _ a b c f;have f:=uO f;exact Qm (a f.1.1) (b f.1.2) (c f.2)
  ·intro _ _ a f;exact ME hΦ (a f)
  ·intro _ _ a f;exact Qq (a f)
  ·intro _ _ _ a b f;have f:=fP f;exact Qs (a f.1) (b f.2)
  ·intro _ _ _ _ _ _ _ a b c f;have f:=uO f;exact MF (a f.1.1) (b f.1.2) (c f.2)
  ·exact λ_=>Mz
  ·intro _ a f;exact MD (a f)
  ·intro _ _ _ a b c f;have f:=uO f;exact MB (a f.1.1) (b f.1.2) (c f.2)
  ·intro _ _ a b f;have f:=fP f;exact MA (a f.1) (b f.2)
  ·intro _ a f;exact Ia (a f)
  ·intro _ _ _ _ _ _ f;exact nomatch (show false=true from f)
  ·intro _ _ f;exact nomatch (show false=true from f)
  ·intro _ a f;exact Ib (a f)
  ·intro _ _ _ a f;exact Qo hΦ (a f)
  ·intro _ _ _ _ a b f;have f:=fP f;exact Qp hΦ (a f.1) (b f.2)
  ·intro _ _ a b f;have f:=fP f;exact Qn (a f.1) (b f.2)
  ·intro _ _ _ _ _ _ a b f;have f:=fP f;exact MC (a f.1) (b f.2)
  ·intro _ _ _ a f;exact Qj (a f)
  ·exact λ_=>JG
  ·intro _ _ a b f;have f:=fP f;exact DU (a f.1) (b f.2)
 refine⟨one,λd9=>?_⟩
 induction d9 using kQ.rec (motive_1:=λ_=>True) with
 |nil=>exact λ_=>JG
 |cons e es _ ih=>exact λf=>by have f:=fP f;exact DU (one e f.1) (ih f.2)
 |_=>trivial
end
section
variable {A A':AP} {h h':Hs}
mutual
theorem Dn.move(hn:A none->A' none)(hh:∀(i:Nat) (o:Ob),A (some i)->h[i]?=some o->A' (some i)/\h'[i]?=some o):∀(d v:Val),Dn A h d v->Dn A' h' d v
 |.non,v,e=>by rw[Dn]at e |-;exact e
 |.bl _,v,e=>by rw[Dn]at e |-;exact e
 |.int _,v,e=>by rw[Dn]at e |-;exact e
 |.str _,v,e=>by rw[Dn]at e |-;exact e
 | .tup ds,v,e=>by
  rw[Dn]at e |-;obtain⟨vs,rfl,q⟩:=e;exact⟨vs,rfl,az.move hn hh ds vs q⟩
 | .rl ds,v,e=>by
  rw[Dn]at e |-
  rcases e with ⟨vs,rfl,n,q⟩|⟨i,vs,rfl,a,g,q⟩
  ·exact .inl ⟨vs,rfl,hn n,az.move hn hh ds vs q⟩
  ·exact .inr ⟨i,vs,rfl,(hh i _ a g).1,(hh i _ a g).2,az.move hn hh ds vs q⟩
 | .dc ks ds,v,e=>by
  rw[Dn]at e |-;obtain⟨i,kvs,rfl,a,g,k,q⟩:=e;exact⟨i,kvs,rfl,(hh i _ a g).1,(hh i _ a g).2,k,az.move hn hh ds _ q⟩
 | .ob c xs ds,v,e=>by
  rw[Dn]at e |-;obtain⟨i,kvs,rfl,a,g,k,q⟩:=e;exact⟨i,kvs,rfl,(hh i _ a g).1,(hh i _ a g).2,k,az.move hn hh ds _ q⟩
 |.ref _,v,e=>by rw[Dn]at e;exact e.elim
theorem az.move(hn:A none->A' none)(hh:∀(i:Nat) (o:Ob),A (some i)->h[i]?=some o->A' (some i)/\h'[i]?=some o):∀(ds vs:List Val),az A h ds vs->az A' h' ds vs
 |[],vs,e=>by rw[az]at e |-;exact e
 | d::ds,vs,e=>by
  rw[az]at e |-;obtain⟨v,r,rfl,q1,q2⟩:=e;exact⟨v,r,rfl,Dn.move hn hh d v q1,az.move hn hh ds r q2⟩
end
end
def Al(A0:AP)(O:Nat->Option Nat):AP:=λo=>A0 o/\∀i,o.isSome=true->O i≠o
structure SR (A0:AP) (h0:Hs) (aa:bg) (env:Env) (h:Hs) (O:Nat->Option Nat):Prop where
 len:aa.length=env.length
 sh:∀(i:Nat) (m:Mk) (d:Val),aa[i]?=some (some (m,d))->sS m=true->∃v,env[i]?=some (some v)/\Dn (Al A0 O) h d v/\(N5 m=true->Dn (Al (Fr h0.length) O) h d v)
 ow:∀(i:Nat) (d:Val),aa[i]?=some (some (.ow,d))->∃a,env[i]?=some (some (.ref a))/\O i=some a/\OD (Al A0 O) h d a
 own:∀i a,O i=some a->h0.length<=a/\a<h.length/\∃d,aa[i]?=some (some (.ow,d))
 inj:∀i j a,O i=some a->O j=some a->i=j
 pre:h0<+:h
 up:Up A0 h0
structure Fm (m:List Nat) (aa:bg) (env:Env) (h:Hs) (O:Nat->Option Nat) (aH:bg) (env':Env) (h':Hs) (O':Nat->Option Nat):Prop where
 le:h.length<=h'.length
 keep:∀k,k<h.length->(∀i,O i≠some k)->h'[k]?=h[k]?/\∀i,O' i≠some k
 stay:∀i,i∉m->O' i=O i/\aH[i]?=aa[i]?/\env'[i]?=env[i]?/\∀a,O i=some a->h'[a]?=h[a]?
def RF(A0:AP)(h0:Hs)(m:List Nat)(aa:bg)(env:Env)(h:Hs)(O:Nat->Option Nat):DM->Hs->Fl->Prop
 |.nx aH,h',.nx env'=>∃O',SR A0 h0 aH env' h' O'/\Fm m aa env h O aH env' h' O'
 |.bk aH,h',.bk env'=>∃O',SR A0 h0 aH env' h' O'/\Fm m aa env h O aH env' h' O'
 |.ct aH,h',.ct env'=>∃O',SR A0 h0 aH env' h' O'/\Fm m aa env h O aH env' h' O'
 |.rt p,h',.rt v=>Dn A0 h' p.2 v/\(p.1=true->Dn (Fr h0.length) h' p.2 v)/\h0<+:h'
 |_,_,_=>False
def gi(A0:AP)(h0:Hs){α β:Type}(R:α -> Hs -> β -> Prop)(o:Out β):Pr α -> Prop
 |.ok f=>∃g h',o=.ok g h'/\R f h' g
 |.exc c es=>∃ws h',o=.exc c ws h'/\h0<+:h'/\az A0 h' es ws
 |.no=>True
section
variable {A0:AP} {h0:Hs} {aa:bg} {env:Env} {h h1:Hs} {O:Nat->Option Nat} {m:List Nat}
theorem SR.er(s:SR A0 h0 aa env h O):ER (Al A0 O) aa env h:=λi f d e=>by
 cases f with
 |ow=>rw[aae (show sS .ow=false by decide)];obtain⟨a,k2,_,k3⟩:=s.ow i d e;exact⟨a,k2,k3⟩
 |sh=>rw[aac (by decide)];obtain⟨v,k1,k2,_⟩:=s.sh i _ d e rfl;exact⟨v,k1,k2⟩
 |nw=>rw[aac (by decide)];obtain⟨v,k1,k2,_⟩:=s.sh i _ d e rfl;exact⟨v,k1,k2⟩
theorem SR.Ah(s:SR A0 h0 aa env h O):Up (Al A0 O) h:=λk hk=>⟨s.up k (aaG s.pre.length_le hk),λi _ e=>by have:=(s.own i k e).2.1;omega⟩
theorem SR.ext(s:SR A0 h0 aa env h O)(p:h<+:h1):SR A0 h0 aa env h1 O where
 len:=s.len
 sh i m d e hm:=by obtain⟨v,k1,k2,k3⟩:=s.sh i m d e hm;exact⟨v,k1,k2.ext p,λz=>(k3 z).ext p⟩
 ow i d e:=by obtain⟨a,k2,k3,k4⟩:=s.ow i d e;exact⟨a,k2,k3,k4.ext p⟩
 own i a e:=by obtain⟨k1,k2,k3⟩:=s.own i a e;exact⟨k1,aai k2 p.length_le,k3⟩
 inj:=s.inj
 pre:=s.pre.trans p
 up:=s.up
theorem mh(p:h<+:h1){k:Nat}(hk:k<h.length):h1[k]?=h[k]?:=by
 obtain⟨t,rfl⟩:=p;rw[aan hk]
theorem Fm.refl(s:SR A0 h0 aa env h O)(p:h<+:h1):Fm m aa env h O aa env h1 O where
 le:=p.length_le
 keep k hk n:=⟨mh p hk,n⟩
 stay i _:=⟨rfl,rfl,rfl,λa e=>mh p (s.own i a e).2.1⟩
theorem Fm.trans{mj nX:bg}{uR gF:Env}{h2:Hs}{O1 O2:Nat->Option Nat}(a:Fm m aa env h O mj uR h1 O1)(b:Fm m mj uR h1 O1 nX gF h2 O2):Fm m aa env h O nX gF h2 O2 where
 le:=aaG a.le b.le
 keep k hk n:=by obtain⟨a1,a2⟩:=a.keep k hk n;obtain⟨b1,b2⟩:=b.keep k (aai hk a.le) a2;exact⟨b1.trans a1,b2⟩
 stay i hi:=by obtain⟨a1,a2,a3,a4⟩:=a.stay i hi;obtain⟨b1,b2,b3,b4⟩:=b.stay i hi;exact⟨b1.trans a1,b2.trans a2,b3.trans a3,λc e=>(b4 c (a1.trans e)).trans (a4 c e)⟩
theorem Fm.f7{m':List Nat}(hm:∀i∈m,i∈m')(a:Fm m aa env h O aH env' h1 O'):Fm m' aa env h O aH env' h1 O':=⟨a.le,a.keep,λi hi=>a.stay i λz=>hi (hm i z)⟩
theorem RF.pre(s:SR A0 h0 aa env h O)(p:h<+:h1)(r:RF A0 h0 m aa env h1 O f h' g):RF A0 h0 m aa env h O f h' g:=by
 cases f<;>cases g<;>first|exact r.elim|exact r|(obtain⟨O',a,b⟩:=r;exact⟨O',a,(Fm.refl s p).trans b⟩)
theorem RF.f7{m':List Nat}(hm:∀i∈m,i∈m')(r:RF A0 h0 m aa env h O f h' g):RF A0 h0 m' aa env h O f h' g:=by
 cases f<;>cases g<;>first|exact r.elim|exact r|(obtain⟨O',a,b⟩:=r;exact⟨O',a,b.f7 hm⟩)
theorem RF.seq{mj:bg}{uR:Env}{O1:Nat->Option Nat}(a:Fm m aa env h O mj uR h1 O1)(r:RF A0 h0 m mj uR h1 O1 f h' g):RF A0 h0 m aa env h O f h' g:=by
 cases f<;>cases g<;>first|exact r.elim|exact r|(obtain⟨O',b,c⟩:=r;exact⟨O',b,a.trans c⟩)
theorem bG{α β γ δ:Type}{R:α -> Hs -> β -> Prop}{R':γ -> Hs -> δ -> Prop}{mm:M β}{f:β -> M δ}{p:Pr α}{F:α -> Pr γ}(s:SR A0 h0 aa env h O)(r:Rel (Al A0 O) h R (mm h) p)(k:∀a h1 b,h<+:h1->R a h1 b->gi A0 h0 R' (f b h1) (F a)):gi A0 h0 R' (bnd mm f h) (pb p F):=by
 unfold bnd;cases p with
 |ok a=>obtain⟨b,h1,e,q,r⟩:=r;rw[e];exact k a h1 b q r
 |exc c es=>obtain⟨ws,h1,e,q,r⟩:=r;rw[e];exact⟨ws,h1,rfl,s.pre.trans q,r.f7 λ_ z=>z.1⟩
 |no=>trivial
theorem bz{α β:Type}{R:α -> Hs -> β -> Prop}{a:α}{b:β}(r:R a h b):gi A0 h0 R (ret b h) (.ok a):=⟨b,h,rfl,r⟩
theorem gW{α β:Type}{R R':α -> Hs -> β -> Prop}{o:Out β}{p:Pr α}(r:gi A0 h0 R o p)(k:∀a h' b,R a h' b->R' a h' b):gi A0 h0 R' o p:=by
 cases p with
 |ok a=>obtain⟨b,h',e,r⟩:=r;exact⟨b,h',e,k a h' b r⟩
 |exc c es=>exact r
 |no=>trivial
theorem qv{α β γ δ:Type}{R:α -> Hs -> β -> Prop}{R':γ -> Hs -> δ -> Prop}{mm:M β}{f:β -> M δ}{p:Pr α}{F:α -> Pr γ}(r:gi A0 h0 R (mm h) p)(k:∀a h1 b,R a h1 b->gi A0 h0 R' (f b h1) (F a)):gi A0 h0 R' (bnd mm f h) (pb p F):=by
 unfold bnd;cases p with
 |ok a=>obtain⟨b,h1,e,r⟩:=r;rw[e];exact k a h1 b r
 |exc c es=>obtain⟨ws,h1,e,q,r⟩:=r;rw[e];exact⟨ws,h1,rfl,q,r⟩
 |no=>trivial
theorem jO{α β:Type}{R:α -> Hs -> β -> Prop}{c:Bool}{o:Out β}{p:Pr α}(r:c=true->gi A0 h0 R o p):gi A0 h0 R o (pg c p):=by
 unfold pg;cases c with
 |true=>rw[aae rfl];exact r rfl
 |false=>rw[aac Z3];trivial
def fK(O:Nat->Option Nat)(i:Nat):Nat->Option Nat:=λj=>if j=i then none else O j
theorem o6:Al A0 O none->Al A0 O none:=id
theorem jl:Al A0 O none->Al A0 O' none:=λh=>⟨h.1,λ_ z=>by cases z⟩
theorem iH{i:Nat}:∀k,Al A0 O k->Al A0 (fK O i) k:=λk ⟨a,b⟩=>⟨a,λj z=>by unfold fK;split;(cases k<;>simp_all);exact b j z⟩
theorem SR.setM(s:SR A0 h0 aa env h O){i:Nat}{mk:Mk}{d v:Val}(X8:sS mk=true)(q:Dn (Al A0 O) h d v)(qn:N5 mk=true->Dn (Al (Fr h0.length) O) h d v):SR A0 h0 (aa.set i (some (mk,d))) (env.set i (some v)) h (fK O i)/\Fm [i] aa env h O (aa.set i (some (mk,d))) (env.set i (some v)) h (fK O i):=by
 refine⟨⟨by simp[s.len],λj m' d' e hm'=>?_,λj d' e=>?_,λj a e=>?_,λj l a e1 e2=>?_,s.pre,s.up⟩,aag _,λk hk n=>⟨rfl,λj=>?_⟩,λj hj=>?_⟩
 ·by_cases hij:i=j
  ·subst hij
   have hi:i<aa.length:=by have:=(Z9.mp e).1;simpa using this
   rw[aak hi]at e;cases e;exact⟨v,by rw[aak (by rw[<-s.len];exact hi)],q.f7 iH,λz=>(qn z).f7 iH⟩
  ·rw[aaa hij]at e;rw[aaa hij];obtain⟨w,k1,k2,k3⟩:=s.sh j m' d' e hm';exact⟨w,k1,k2.f7 iH,λz=>(k3 z).f7 iH⟩
 ·by_cases hij:i=j
  ·subst hij
   have hi:i<aa.length:=by have:=(Z9.mp e).1;simpa using this
   rw[aak hi]at e;cases e;cases X8
  ·rw[aaa hij]at e;rw[aaa hij];obtain⟨a,k2,k3,k4⟩:=s.ow j d' e;exact⟨a,k2,by unfold fK;rw[aac (λz=>hij z.symm)];exact k3,k4.mono (λ_ g=>g) λ_ _ z=>z.f7 iH⟩
 ·unfold fK at e
  split at e
  ·cases e
  ·rename_i hj;obtain⟨k1,k2,d',k3⟩:=s.own j a e;exact⟨k1,k2,d',by rw[aaa (λz=>hj z.symm)];exact k3⟩
 ·unfold fK at e1 e2
  split at e1
  ·cases e1
  ·split at e2
   ·cases e2
   ·exact s.inj j l a e1 e2
 ·unfold fK;split;simp;exact n j
 ·have hj':j≠i:=by simpa using hj
  exact⟨by unfold fK;rw[aac hj'],aaa (λz=>hj' z.symm),aaa (λz=>hj' z.symm),λ_ _=>rfl⟩
theorem SR.set(s:SR A0 h0 aa env h O){i:Nat}(q:Dn (Al A0 O) h d v):SR A0 h0 (aa.set i (some (.sh,d))) (env.set i (some v)) h (fK O i)/\Fm [i] aa env h O (aa.set i (some (.sh,d))) (env.set i (some v)) h (fK O i):=s.setM rfl q λz=>nomatch z
theorem SR.binds:∀{is:List Nat} {ds vs:List Val} {aa:bg} {env:Env} {O:Nat->Option Nat} {aH:bg},SR A0 h0 aa env h O->cB is ds aa=some aH->az (Al A0 O) h ds vs ->
  ∃env' O',bindAll is vs env=some env'/\SR A0 h0 aH env' h O'/\Fm is aa env h O aH env' h O'
 | [],[],vs,aa,env,O,aH,s,e,q=>by
  rw[az]at q;subst q;simp only[cB]at e;cases e;exact⟨env,O,rfl,s,Fm.refl s (aar _)⟩
 | i::is,d::ds,vs,aa,env,O,aH,s,e,q=>by
  rw[az]at q;obtain⟨v,r,rfl,q1,q2⟩:=q;simp only[cB]at e;obtain⟨s1,f1⟩:=s.set (i:=i) q1;obtain⟨env',O',b1,b2,b3⟩:=SR.binds s1 e (q2.f7 iH);refine⟨env',O',by simp only[bindAll];exact b1,b2,(f1.f7 λj hj=>?_).trans (b3.f7 λj hj=>Z6 _ hj)⟩;rw[aau.mp hj];exact aad
 |[],_::_,_,_,_,_,_,_,e,_=>by simp[cB]at e
 |_::_,[],_,_,_,_,_,_,e,_=>by simp[cB]at e
theorem SR.bind(s:SR A0 h0 aa env h O)(e:cY p d aa=some aH)(q:Dn (Al A0 O) h d v):∃env' O',gq p v env=some env'/\SR A0 h0 aH env' h O'/\Fm (stored p) aa env h O aH env' h O':=by
 cases p with
 |one i=>simp only[cY]at e;cases e;obtain⟨s1,f1⟩:=s.set (i:=i) q;exact⟨_,_,rfl,s1,f1⟩
 |tup is=>
  cases d<;>simp only[cY]at e<;>first|(cases e;done)|skip
  rw[Dn]at q;obtain⟨vs,rfl,q⟩:=q;exact s.binds e q
theorem Ie{a:Nat}(p:h0<+:h)(ha:h0.length<=a):h0<+:h.set a o:=by
 obtain⟨t,rfl⟩:=p;rw[List.set_append_right _ _ ha];exact aa2 _ _
theorem SR.put(s:SR A0 h0 aa env h O){i a:Nat}{d d1:Val}(e:aa[i]?=some (some (.ow,d)))(ha:O i=some a)(q:OB (Al A0 O) h d1 ob) :
  SR A0 h0 (aa.set i (some (.ow,d1))) env (h.set a ob) O/\Fm [i] aa env h O (aa.set i (some (.ow,d1))) env (h.set a ob) O:=by
 obtain⟨o1,o2,_⟩:=s.own i a ha;have hi:i<aa.length:=(Z9.mp e).1;have mv:∀{A0:AP} (k:Nat) (o:Ob),Al A0 O k->h[k]?=some o->Al A0 O k/\(h.set a ob)[k]?=some o:=λk o hk g=>⟨hk,by rw[aaa λz=>hk.2 i rfl (by rw[<-z];exact ha)];exact g⟩;obtain⟨a0,e2,e3,_⟩:=s.ow i d e;refine⟨⟨by simp[s.len],λj m' d' ej hm'=>?_,λj d' ej=>?_,λj b ej=>?_,s.inj,Ie s.pre o1,s.up⟩,by simp,λk hk n=>⟨?_,n⟩,λj hj=>?_⟩
 ·by_cases hij:i=j
  ·subst hij;rw[aak hi]at ej;cases ej;cases hm'
  ·rw[aaa hij]at ej;obtain⟨w,k1,k2,k3⟩:=s.sh j m' d' ej hm';exact⟨w,k1,Dn.move o6 mv _ _ k2,λz=>Dn.move o6 mv _ _ (k3 z)⟩
 ·by_cases hij:i=j
  ·subst hij;rw[aak hi]at ej;cases ej;rw[ha]at e3;cases e3;exact⟨a,e2,ha,q.od (by rw[aak o2]) λ_ _ z=>az.move o6 mv _ _ z⟩
  ·rw[aaa hij]at ej;obtain⟨a1,k2,k3,k4⟩:=s.ow j d' ej;have:a≠a1:=λz=>hij (s.inj i j a ha (by rw[z];exact k3));exact⟨a1,k2,k3,k4.mono (λ_ g=>by rw[aaa this];exact g) λ_ _ z=>az.move o6 mv _ _ z⟩
 ·obtain⟨k1,k2,d',k3⟩:=s.own j b ej
  refine⟨k1,by simp[k2],?_⟩
  by_cases hij:i=j
  ·subst hij;exact⟨_,by rw[aak hi]⟩
  ·exact⟨d',by rw[aaa hij];exact k3⟩
 ·rw[aaa λz=>n i (by rw[<-z];exact ha)]
 ·have hj':j≠i:=by simpa using hj
  exact⟨rfl,aaa (λz=>hj' z.symm),rfl,λb eb=>by rw[aaa λz=>hj' (s.inj j i b eb (by rw[<-z];exact ha))]⟩
def rG(O:Nat->Option Nat)(i a:Nat):Nat->Option Nat:=λj=>if j=i then some a else O j
theorem SR.fresh(s:SR A0 h0 aa env h O){i:Nat}{d1:Val}{h2:Hs}(p:h<+:h2)(q:OB (Al A0 O) h2 d1 ob) :
  SR A0 h0 (aa.set i (some (.ow,d1))) (env.set i (some (.ref h2.length))) (h2++[ob]) (if i<aa.length then rG O i h2.length else fK O i) /\
   Fm [i] aa env h O (aa.set i (some (.ow,d1))) (env.set i (some (.ref h2.length))) (h2++[ob]) (if i<aa.length then rG O i h2.length else fK O i):=by
 have pp:h<+:h2++[ob]:=p.trans (aa2 _ _);have s2:=s.ext p;have mv:∀{A0:AP} (j:Nat),∀(k:Nat) (o:Ob),Al A0 O k->h2[k]?=some o->Al A0 (if i<aa.length then rG O i h2.length else fK O i) k/\(h2++[ob])[k]?=some o:=λ{A0} j k o hk g=>by
  have hlt:k<h2.length:=(Z9.mp g).1;refine⟨?_,by rw[aan hlt];exact g⟩
  split
  ·refine⟨hk.1,λl _=>?_⟩
   unfold rG
   split
   ·intro z;cases z;omega
   ·exact hk.2 l rfl
  ·exact iH k hk
 by_cases hi:i<aa.length
 ·rw[aae hi]at mv |-
  refine⟨⟨by simp[s.len],λj m' d' ej hm'=>?_,λj d' ej=>?_,λj b ej=>?_,λj l b e1 e2=>?_,s.pre.trans pp,s.up⟩,pp.length_le,λk hk n=>⟨mh pp hk,λl=>?_⟩,λj hj=>?_⟩
  ·by_cases hij:i=j
   ·subst hij;rw[aak hi]at ej;cases ej;cases hm'
   ·rw[aaa hij]at ej;rw[aaa hij];obtain⟨w,k1,k2,k3⟩:=s2.sh j m' d' ej hm';exact⟨w,k1,Dn.move jl (mv 0) _ _ k2,λz=>Dn.move jl (mv 0) _ _ (k3 z)⟩
  ·by_cases hij:i=j
   ·subst hij;rw[aak hi]at ej;cases ej;exact⟨h2.length,by rw[aak (by rw[<-s.len];exact hi)],by unfold rG;rw[aae rfl],q.od (by simp) λ_ _ z=>az.move jl (mv 0) _ _ z⟩
   ·rw[aaa hij]at ej;rw[aaa hij];obtain⟨a1,k2,k3,k4⟩:=s2.ow j d' ej;have hlt:a1<h2.length:=k4.lt;exact⟨a1,k2,by unfold rG;rw[aac λz=>hij z.symm];exact k3,k4.mono (λ_ g=>by rw[aan hlt];exact g) λ_ _ z=>az.move jl (mv 0) _ _ z⟩
  ·unfold rG at ej
   split at ej
   ·rename_i hj;cases ej;subst hj;exact⟨aaG s.pre.length_le p.length_le,by simp,_,by rw[aak hi]⟩
   ·rename_i hj;obtain⟨k1,k2,d',k3⟩:=s2.own j b ej;exact⟨k1,by simp;omega,d',by rw[aaa λz=>hj z.symm];exact k3⟩
  ·unfold rG at e1 e2
   split at e1
   ·rename_i h1;cases e1
    split at e2
    ·rename_i h3;rw[h1,h3]
    ·have:=(s2.own l _ e2).2.1;omega
   ·split at e2
    ·cases e2;have:=(s2.own j _ e1).2.1;omega
    ·exact s.inj j l b e1 e2
  ·unfold rG;split
   ·intro z;cases z;have:=p.length_le;omega
   ·exact n l
  ·have hj':j≠i:=by simpa using hj
   exact⟨by unfold rG;rw[aac hj'],aaa (λz=>hj' z.symm),aaa (λz=>hj' z.symm),λb eb=>mh pp (s.own j b eb).2.1⟩
 ·rw[aac hi]at mv |-
  have e1:aa.set i (some (.ow,d1))=aa:=List.set_eq_of_length_le (by omega);have e2:env.set i (some (.ref h2.length))=env:=List.set_eq_of_length_le (by rw[<-s.len];omega);have e3:fK O i=O:=by
   funext j;unfold fK;split
   ·rename_i hj;subst hj
    cases e:O j with
    |none=>rfl
    |some a=>obtain⟨_,_,d,k⟩:=s.own j a e;exact absurd (Z9.mp k).1 hi
   ·rfl
  rw[e1,e2,e3];exact⟨s.ext pp,Fm.refl s pp⟩
end
section
variable {Φ:Nat->List Val->M Val} {Ψ:Nat->List Val->Pr FV} {A:AP} {h h1:Hs}
def isRef:Val->Bool
 |.rl _=>true
 |.dc _ _=>true
 |_=>false
def RN(A:AP)(h:Hs):FV->Hs->Val->Prop:=λx h' v=>isRef x.2=true->∃h2 o,h'=h2++[o]/\v=.ref h2.length/\h<+:h2/\OB A h2 x.2 o
def JH(Φ:Nat->List Val->M Val)(Ψ:Nat->List Val->Pr FV)(ir:IE):Prop:=∀(aa:bg) (env:Env) (A:AP) (h:Hs),Up A h->ER A aa env h->Rel A h (RN A h) (aK Φ ir env h) (bq Ψ ir aa)
theorem jm{f:Bool}{h0:Hs}(p:h0<+:h)(q:az A h xs vs):Rel A h (RN A h0) (new (.lst vs) h) (.ok (f,.rl xs)) :=
 ⟨_,_,rfl,dg _,λ_=>⟨h,.lst vs,rfl,rfl,p,vs,rfl,q⟩⟩
theorem MG:JH Φ Ψ .dct0:=λaa env A h u e=>by
 rw[aK,bq];exact⟨_,_,rfl,dg _,λ_=>⟨h,.dct [],rfl,rfl,aar _,[],rfl,rfl,az.nil⟩⟩
theorem MH(hk:bX Φ Ψ k)(hv:bX Φ Ψ v):JH Φ Ψ (.dct1 k v):=λaa env A h u e=>by
 rw[aK,bq];refine ah (hk aa env A h u e) λx h1 w p1 q1=>ah (R:=λkk _ kk'=>kk'=kk) (aX λkk ek=>⟨kk,uM q1.1 ek,rfl⟩) λkk h2 kk' p2 hkk=>?_;subst hkk;refine ah (hv aa env A h2 ((u.ext p1).ext p2) ((e.ext p1).ext p2)) λy h3 z p3 q3=>ah (R:=λkk _ kk'=>kk'=kk) (aX λkk ek=>⟨kk,uM q3.1 ek,rfl⟩) λk2 h4 k2' p4 hk2=>?_;subst hk2;have p:=((p1.trans p2).trans p3).trans p4
 by_cases ce:kk'=k2'
 ·subst ce;rw[z9,Ab];exact⟨_,_,rfl,dg _,λ_=>⟨h4,.dct [(kk',.bl true)],rfl,rfl,p,[(kk',.bl true)],rfl,rfl,az.cons uQ az.nil⟩⟩
 ·rw[Aa ce,Ac ce];exact⟨_,_,rfl,dg _,λ_=>⟨h4,.dct [(kk',.bl true),(k2',.bl true)],rfl,rfl,p,[(kk',.bl true),(k2',.bl true)],rfl,rfl,az.cons uQ (az.cons uQ az.nil)⟩⟩
theorem Qt(hs:jX Φ Ψ es):JH Φ Ψ (.lst es):=λaa env A h u e=>by
 rw[aK,bq];exact ah (hs.1 aa env A h u e) λx h1 vs p1 q1=>bL (λz=>by rw[<-q1.1.length];exact z) λ_=>jm p1 q1.1
theorem Qu(ha:bX Φ Ψ a)(hl:bX Φ Ψ lo)(hh:bX Φ Ψ hi):JH Φ Ψ (.slc a lo hi):=λaa env A h u e=>by
 rw[aK,bq];refine ah (rF ha u e) λx h1 v p1 q1=>ah (l8 hl (u.ext p1) (e.ext p1)) λl h2 l' p2 el=>ah (l8 hh ((u.ext p1).ext p2) ((e.ext p1).ext p2)) λr h3 r' p3 er=>?_;subst el;subst er;have q1:=DB.ext (p2.trans p3) q1;obtain⟨f,d⟩:=x;cases d with
 |tup ds=>obtain⟨vs,rfl,q⟩:=DB.tup q1;have l:=q.length;simp only[BF,rD];exact bL (λz=>by rw[l]at z;exact z) λ_=>ay λe=>by cases e
 |rl ds=>
  obtain⟨vs,e1,q⟩:=DB.lst q1;have ev:rD v l' r' h3=new (.lst (dM vs l' r')) h3:=by
   have:rD v l' r'=bnd (ask λh=>aF h v) λxs=>new (.lst (dM xs l' r')):=by cases v<;>simp only[aF]at e1<;>first|(cases e1;done)|rfl
   rw[this];unfold bnd ask aZ;dsimp only;rw[e1]
  rw[ev];exact jm ((p1.trans p2).trans p3) (q.cut l' r')
 |_=>trivial
theorem MI(hs:jX Φ Ψ es):JH Φ Ψ (.blt .list es):=λaa env A h u e=>by
 rw[aK,bq];refine ah (hs.2 aa env A h u e) λds h1 vs p1 q1=>?_
 match ds,q1 with
 |[],q1=>trivial
 |[d],q1=>obtain⟨v,rfl,hv⟩:=q1.one;exact ah (R:=λxs h' ws=>az A h' xs ws) (cS λxs e=>hv.seq e) λxs h2 ws p2 q=>jm (p1.trans p2) q
 |_::_::_,_=>trivial
theorem DV(hs:jX Φ Ψ es):JH Φ Ψ (.blt .sorted es):=λaa env A h u e=>by
 rw[aK,bq];refine ah (hs.2 aa env A h u e) λds h1 vs p1 q1=>?_
 match ds,q1 with
 |[],q1=>trivial
 |[d],q1=>
  obtain⟨v,rfl,hv⟩:=q1.one;cases d<;>first|trivial|skip
  rename_i xs;obtain⟨ws,e1,q⟩:=hv.lst;have ev:bnd (ask λh=>aF h v) (λxs=>bnd (aZ (fY xs)) λys=>new (.lst ys)) h1=bnd (aZ (fY ws)) (λys=>new (.lst ys)) h1:=by unfold bnd ask aZ;dsimp only;rw[e1]
  show Rel A h1 (RN A h) (bnd (ask λh=>aF h v) (λxs=>bnd (aZ (fY xs)) λys=>new (.lst ys)) h1) _;rw[ev];refine ah (R:=λys _ zs=>zs=ys/\bw ys=true) (aX λys e=>?_) λys h2 zs p2 hz=>?_
  ·obtain⟨i1,i2⟩:=sW e;rw[(bu xs ws i1).mp q];exact⟨ys,e,rfl,i2⟩
  ·obtain⟨rfl,hi⟩:=hz;exact jm (p1.trans p2) ((bu _ _ hi).mpr rfl)
 |x::_::_,_=>cases x<;>trivial
theorem MJ(hs:jX Φ Ψ it)(hc:bX Φ Ψ c)(he:bX Φ Ψ elt):JH Φ Ψ (.comp N js pat k it c elt):=λaa env A h u e=>by
 rw[aK,bq];refine qt ?_;refine ah (hs.2 aa env A h u e) λds h1 vs p1 q1=>ah (Ae q1) λxs h2 src p2 q2=>?_;obtain⟨ws,q3,q4⟩:=q2;have l:=q3.length;have ev:∀(F:List Val->M Val),bnd (ask λh=>src.items h) F h2=F ws h2:=λF=>by unfold bnd ask aZ;dsimp only;rw[q4 h2 (aar _)]
 rw[ev];refine bL (λz=>by rw[<-l];exact z) λ_=>?_;have u2:=(u.ext p1).ext p2;have e2:=(e.ext p1).ext p2;refine ah (qu (hb:=h) xs ws 0 [] h2 (p1.trans p2) u2 q4 rfl q3 λx v h' p' qx=>?_) λp h3 ys p3 hp=>?_
 ·refine ah (R:=λaH _ env'=>∃_:ER A aH env' h',True) (aX λaH ev'=>?_) λaH h4 env' p4 he'=>?_
  ·obtain⟨env',a1,a2⟩:=wL ev' qx (Ag (e2.ext p')) (by simp[jg,ja]);exact⟨env',a1,a2,trivial⟩
  ·obtain⟨er,_⟩:=he'
   have er:=er.ext p4;have u4:=(u2.ext p').ext p4;have PR:Rel A h4 (λt _ t'=>t'=t) ((if c9 c=true then ret true else bnd (aK Φ c env') λv=>ask λh=>c8 h v) h4) (if c9 c=true then .ok true else pb (bq Ψ c aH) λv=>pl (c8 [] v.2)):=by
    by_cases hn:c9 c=true
    ·rw[aae hn,aae hn];exact ay rfl
    ·rw[aac hn,aac hn];exact ah (hc aH env' A h4 u4 er) λy h5 w p5 q5=>cS λt et=>⟨t,yG q5.br et,rfl⟩
   refine ah PR λt h5 t' p5 et=>?_;subst et;cases t' with
   |true=>rw[aae rfl,aae rfl];exact ah (he aH env' A h5 (u4.ext p5) (er.ext p5)) λy h6 w p6 q6=>ay (q6.up ((p1.trans p2).trans (p'.trans (p4.trans p5))))
   |false=>rw[aac Z3,aac Z3];exact ay trivial
 ·obtain⟨zs,rfl,z1,z2⟩:=hp;exact jm ((p1.trans p2).trans p3) z1
theorem Qv(hΦ:∀j,Imp (Φ j) (Ψ j))(hf:UD e=true)(ho:dm e=true):JH Φ Ψ e:=by
 have V:=v_all hΦ;cases e<;>first|(cases hf;done)|skip
 ·exact Qt (V.2 _ ho)
 ·have ho:=uO ho;exact Qu (V.1 _ ho.1.1) (V.1 _ ho.1.2) (V.1 _ ho.2)
 ·rename_i b es
  change l9 _=true at ho;cases b<;>first|(cases hf;done)|skip
  ·exact DV (V.2 _ ho)
  ·exact MI (V.2 _ ho)
 ·have ho:=uO ho;exact MJ (V.2 _ ho.1.1) (V.1 _ ho.1.2) (V.1 _ ho.2)
 ·exact MG
 ·have ho:=fP ho;exact MH (V.1 _ ho.1) (V.1 _ ho.2)
mutual
noncomputable def Wi:IS->Bool
 |.expr e=>dm e
 |.asg _ e=>dm e
 |.aug _ _ e=>dm e
 |.fX o i v=>dm o&&dm i&&dm v
 |.iff c a b=>dm c&&wN a&&wN b
 |.for _ _ it b=>l9 it&&wN b
 |.whl _ c b=>dm c&&wN b
 |.ret e=>dm e
 |.setF _ a _ _=>dm a
 |_=>true
noncomputable def wN:eZ->Bool
 |.nil=>true
 |.cons s r=>Wi s&&wN r
end
def mS(s:IS):List Nat:=rE s++oM s
def Ig(s:eZ):List Nat:=dX s++kr s
variable {ms:List Nat}
def Ai(Φ:Nat->List Val->M Val)(Ψ:Nat->List Val->Pr FV)(ms:List Nat)(s:IS):Prop:=∀(A0:AP) (h0:Hs) (aa:bg) (env:Env) (h:Hs) (O:Nat->Option Nat),SR A0 h0 aa env h O->gi A0 h0 (RF A0 h0 (mS s) aa env h O) (gO Φ s env h) (aY Ψ ms s aa)
def uS(Φ:Nat->List Val->M Val)(Ψ:Nat->List Val->Pr FV)(ms:List Nat)(s:eZ):Prop:=∀(A0:AP) (h0:Hs) (aa:bg) (env:Env) (h:Hs) (O:Nat->Option Nat),SR A0 h0 aa env h O->gi A0 h0 (RF A0 h0 (Ig s) aa env h O) (gh Φ s env h) (aG Ψ ms s aa)
theorem DW(he:bX Φ Ψ e)(hx:∀aa,aY Ψ ms (.expr e) aa=pb (bq Ψ e aa) λ_=>.ok (.nx aa)):Ai Φ Ψ ms (.expr e):=λA0 h0 aa env h O s=>by
 rw[gO,hx];exact bG s (he aa env _ h s.Ah s.er) λx h1 v p1 q1=>bz ⟨O,s.ext p1,Fm.refl s p1⟩
theorem bE{α β γ:Type}(m:M α)(f:α -> M β)(g:β -> M γ):bnd (bnd m f) g=bnd m λx=>bnd (f x) g:=by
 funext h;show (match (match m h with|.ok a h'=>f a h'|.exc c vs h'=>.exc c vs h'|.no=>.no) with|.ok a h'=>g a h'|.exc c vs h'=>.exc c vs h'|.no=>.no)=(match m h with|.ok a h'=>bnd (f a) g h'|.exc c vs h'=>.exc c vs h'|.no=>.no);cases m h<;>rfl
theorem dw{α β:Type}{m:M α}{f:α -> M β}{a:α}{h h1:Hs}(e:m h=.ok a h1):bnd m f h=f a h1:=by unfold bnd;rw[e]
theorem gI{i:Nat}(e:env[i]?=some (some v)):aK Φ (.var i) env h=.ok v h:=by rw[aK,e];rfl
theorem BG{i:Nat}(ha:bX Φ Ψ a):Ai Φ Ψ ms (.expr (.met .append (.var i) #[a])):=λA0 h0 aa env h O s=>by
 rw[gO,aY];try dsimp only
 split
 ·rename_i ds hv
  obtain⟨b,e2,e3,vs,e4,e5⟩:=s.ow i _ hv;have ev:bnd (aK Φ (.met .append (.var i) #[a]) env) (λ_=>ret (Fl.nx env)) h=bnd (aK Φ a env) (λv=>bnd (met .append (.ref b) [v]) λ_=>ret (Fl.nx env)) h:=by
   rw[aK,bE,dw (gI e2)];rw[bE,dw (a:=()) (h1:=h) (by unfold ask aZ;simp[recv,e4])];rw[bE,bB,bE]
   congr 1
  rw[ev];refine bG s (ha aa env _ h s.Ah s.er) λx h1 v p1 q1=>jO λhg=>?_;have s1:=s.ext p1;obtain⟨s2,f2⟩:=s1.put (d1:=.rl (ds++[x.2])) (ob:=.lst (vs++[v])) hv e3 ⟨_,rfl,(e5.ext p1).append (az.cons q1.1 az.nil)⟩;have l:=e5.length;refine⟨.nx env,h1.set b (.lst (vs++[v])),?_,O,s2,(Fm.refl s p1).trans (f2.f7 λj hj=>?_)⟩
  ·have g:=iG p1 e4;unfold met bnd ask aZ aI put ret;dsimp only;rw[g];dsimp only;rw[aae (by rw[<-l];exact hg)]
  ·rw[aau.mp hj];exact abi _ aad
 ·trivial
theorem BH{i:Nat}(ha:bX Φ Ψ a):Ai Φ Ψ ms (.expr (.met .extend (.var i) #[a])):=λA0 h0 aa env h O s=>by
 rw[gO,aY];try dsimp only
 split
 ·rename_i ds hv
  obtain⟨b,e2,e3,vs,e4,e5⟩:=s.ow i _ hv;have ev:bnd (aK Φ (.met .extend (.var i) #[a]) env) (λ_=>ret (Fl.nx env)) h=bnd (aK Φ a env) (λv=>bnd (met .extend (.ref b) [v]) λ_=>ret (Fl.nx env)) h:=by
   rw[aK,bE,dw (gI e2)];rw[bE,dw (a:=()) (h1:=h) (by unfold ask aZ;simp[recv,e4])];rw[bE,bB,bE]
   congr 1
  rw[ev];refine bG s (ha aa env _ h s.Ah s.er) λx h1 v p1 q1=>?_;obtain⟨f,d⟩:=x;cases d<;>first|trivial|skip
  rename_i ts;have q:=q1.1;dsimp only at q;rw[Dn]at q;obtain⟨ws,rfl,q⟩:=q;refine jO λhg=>?_;have s1:=s.ext p1;obtain⟨s2,f2⟩:=s1.put (d1:=.rl (ds++ts)) (ob:=.lst (vs++ws)) hv e3 ⟨_,rfl,(e5.ext p1).append q⟩;have l:=e5.length;have l2:=q.length;refine⟨.nx env,h1.set b (.lst (vs++ws)),?_,O,s2,(Fm.refl s p1).trans (f2.f7 λj hj=>?_)⟩
  ·have g:=iG p1 e4;unfold met bnd ask aZ aI put ret vV;dsimp only;rw[g];dsimp only;rw[aae (by rw[<-l,<-l2];exact hg)]
  ·rw[aau.mp hj];exact abi _ aad
 ·trivial
theorem Ih(hΦ:∀j,Imp (Φ j) (Ψ j))(ho:dm e=true):Ai Φ Ψ ms (.expr e):=by
 have V:=v_all hΦ;have gen:(∀aa,aY Ψ ms (.expr e) aa=pb (bq Ψ e aa) λ_=>.ok (.nx aa))->Ai Φ Ψ ms (.expr e):=λhx=>DW (V.1 e ho) hx;cases e with
 |met m a es=>
  cases m with
  |join=>exact gen λaa=>by rw[aY]<;>(intros;simp_all)
  |append=>
   cases a with
   |var i=>
    cases es with
    |nil=>exact gen λaa=>by rw[aY]<;>(intros;simp_all)
    |cons x r=>
     cases r with
     |nil=>exact BG (V.1 x (fP (fP ho).2).1)
     |cons _ _=>exact gen λaa=>by rw[aY]<;>(intros;simp_all)
   |_=>exact gen λaa=>by rw[aY]<;>(intros;simp_all)
  |extend=>
   cases a with
   |var i=>
    cases es with
    |nil=>exact gen λaa=>by rw[aY]<;>(intros;simp_all)
    |cons x r=>
     cases r with
     |nil=>exact BH (V.1 x (fP (fP ho).2).1)
     |cons _ _=>exact gen λaa=>by rw[aY]<;>(intros;simp_all)
   |_=>exact gen λaa=>by rw[aY]<;>(intros;simp_all)
  |remove=>exact gen λaa=>by rw[aY]<;>(intros;simp_all)
 |_=>exact gen λaa=>by rw[aY]<;>(intros;simp_all)
end
section
variable {Φ:Nat->List Val->M Val} {Ψ:Nat->List Val->Pr FV} {ms:List Nat}
theorem DX{i:Nat}{l:List Nat}(h:i∈l):∀j∈[i],j∈l:=λj hj=>by rw[aau.mp hj];exact h
theorem MK(hΦ:∀j,Imp (Φ j) (Ψ j))(ho:dm e=true):Ai Φ Ψ ms (.asg p e):=λA0 h0 aa env h O s=>by
 have V:=(v_all hΦ).1 e ho;cases p with
 |one i=>
  rw[gO,aY];try dsimp only
  split
  ·refine jO λhf=>?_
   refine bG s (Qv hΦ hf ho aa env _ h s.Ah s.er) λx h1 v p1 q1=>?_;obtain⟨f,d⟩:=x;cases d<;>first|trivial|skip
   ·obtain⟨h2,vs,rfl,rfl,p2,q2⟩:=q1 rfl;obtain⟨s2,f2⟩:=s.fresh (i:=i) p2 q2;exact⟨_,_,rfl,_,s2,f2.f7 (DX (by simp[mS,oM,stored]))⟩
   ·obtain⟨h2,vs,rfl,rfl,p2,q2⟩:=q1 rfl;obtain⟨s2,f2⟩:=s.fresh (i:=i) p2 q2;exact⟨_,_,rfl,_,s2,f2.f7 (DX (by simp[mS,oM,stored]))⟩
  ·refine bG s (V aa env _ h s.Ah s.er) λx h1 v p1 q1=>?_
   have hnw:N5 (dW x.1 x.2)=true->Dn (Al (Fr h0.length) O) h1 x.2 v:=λz=>by
    have hx:x.1=true:=by
     unfold dW at z;split at z
     ·rename_i hh;simp only[and_eq_true]at hh;exact hh.1
     ·cases z
    refine(q1.2 hx).f7 λo ho=>?_;cases o with
    |none=>exact ho.elim
    |some k=>exact⟨aaG s.pre.length_le ho,λj _ e=>by have:=(s.own j k e).2.1;have ho':h.length<=k:=ho;omega⟩
   have hrd:sS (dW x.1 x.2)=true:=by unfold dW;split<;>rfl
   obtain⟨s2,f2⟩:=(s.ext p1).setM (i:=i) hrd q1.1 hnw;exact⟨_,_,rfl,_,s2,(Fm.refl s p1).trans (f2.f7 (DX (by simp[mS,oM,stored])))⟩
 |tup is=>
  rw[gO,aY];try dsimp only
  refine jO λhf=>bG s (V aa env _ h s.Ah s.er) λx h1 v p1 q1=>?_;have s1:=s.ext p1;refine bG s1 (R:=λaH h' env'=>∃O',SR A0 h0 aH env' h' O'/\Fm (stored (.tup is)) aa env h1 O aH env' h' O') (aX λaH ev=>?_) λaH h2 env' p2 hh=>?_
  ·obtain⟨env',O',b1,b2,b3⟩:=s1.bind ev q1.1;exact⟨env',b1,O',b2,b3⟩
  ·obtain⟨O',b2,b3⟩:=hh;exact bz ⟨O',b2,(Fm.refl s p1).trans (b3.f7 λj hj=>by simp only[mS,oM];exact aaz _ hj)⟩
theorem ML{i:Nat}(hΦ:∀j,Imp (Φ j) (Ψ j))(ho:dm e=true):Ai Φ Ψ ms (.aug i o e):=λA0 h0 aa env h O s=>by rw[aY];trivial
theorem Aj(k:Key)(l:List (Key×Val)):(l.any λkv=>decide (kv.1=k))=((l.map (·.1)).any λx=>decide (x=k)):=by
 rw[any_map];rfl
theorem Ak(e:Dn A h d v):∀{kvs:List (Key×Val)} {ds:List Val},az A h ds (kvs.map (·.2)) ->
  az A h ((((kvs.map (·.1)).zip ds).map λkv=>if kv.1=k then (kv.1,d) else kv).map (·.2)) ((kvs.map λkv=>if kv.1=k then (kv.1,v) else kv).map (·.2))
 |[],ds,q=>by simp only[map_nil,List.zip_nil_left];exact az.nil
 | (k',v')::kvs,ds,q=>by
  have l:=q.length;cases ds with
  |nil=>simp at l
  |cons d' ds=>
   simp only[map_cons]at q;rw[az]at q;obtain⟨v1,r,e1,q1,q2⟩:=q;cases e1;simp only[map_cons,List.zip_cons_cons];refine az.cons ?_ (Ak e q2)
   by_cases hk:k'=k
   ·rw[aae hk,aae hk];exact e
   ·rw[aac hk,aac hk];exact q1
theorem nY(k:Key)(d:Val)(l:List (Key×Val)):(l.map λkv=>if kv.1=k then (kv.1,d) else kv).map (·.1)=l.map (·.1):=by
 rw[abv];refine aa9 λx _=>?_;show (if x.1=k then (x.1,d) else x).1=x.1
 split<;>rfl
theorem Ii(hk:kvs.map (·.1)=ks)(q:az A h ds (kvs.map (·.2)))(e:Dn A h d v) :
  (eF kvs k v).map (·.1)=(eF (ks.zip ds) k d).map (·.1)/\az A h ((eF (ks.zip ds) k d).map (·.2)) ((eF kvs k v).map (·.2)):=by
 subst hk;have l:=q.length;rw[Z8]at l;have z1:((kvs.map (·.1)).zip ds).map (·.1)=kvs.map (·.1):=List.map_fst_zip (by rw[Z8];omega);have z2:((kvs.map (·.1)).zip ds).map (·.2)=ds:=List.map_snd_zip (by rw[Z8];omega);unfold eF;rw[Aj,Aj,z1]
 split
 ·rw[nY,nY,z1];exact⟨rfl,Ak e q⟩
 ·rw[abz,abz,abz,abz,z1,z2];exact⟨rfl,q.append (az.cons e az.nil)⟩
theorem Ij(hΦ:∀j,Imp (Φ j) (Ψ j))(ho:dm o=true)(hi:dm i=true)(hv:dm v=true):Ai Φ Ψ ms (.fX o i v):=λA0 h0 aa env h O s=>by
 have V:=(v_all hΦ).1;cases o with
 |var j=>
  rw[gO,aY];refine bG s (V v hv aa env _ h s.Ah s.er) λx h1 w p1 q1=>?_;have s1:=s.ext p1
  split
  ·rename_i ds hj
   obtain⟨b,e2,e3,vs,e4,e5⟩:=s1.ow j _ hj;rw[dw (gI e2)];refine bG s1 (V i hi aa env _ h1 s1.Ah s1.er) λz h2 u p2 q2=>?_;have s2:=s1.ext p2;obtain⟨f,d⟩:=z;have q:=q2.1;cases d<;>first|trivial|skip
   dsimp only at q;rw[Dn]at q;subst q;rename_i kk;have g:=iG p2 e4;have l:=e5.length;show gi A0 h0 _ _ (pb (pl (xJ ds.length kk)) _);cases hn:xJ ds.length kk with
   |none=>trivial
   |some n=>obtain⟨s3,f3⟩:=s2.put (d1:=.rl (ds.set n x.2)) (ob:=.lst (vs.set n w)) hj e3 ⟨_,rfl,(e5.ext p2).set n (q1.1.ext p2)⟩;refine⟨.nx env,h2.set b (.lst (vs.set n w)),?_,O,s3,(Fm.refl s (p1.trans p2)).trans (f3.f7 (DX (by simp[mS,rE])))⟩;rw[l]at hn;simp only[vY];unfold bnd ask aZ put ret;dsimp only;rw[g];dsimp only;rw[hn]
  ·rename_i ks ds hj
   obtain⟨b,e2,e3,kvs,e4,ek,e5⟩:=s1.ow j _ hj;rw[dw (gI e2)];refine bG s1 (V i hi aa env _ h1 s1.Ah s1.er) λz h2 u p2 q2=>?_;have s2:=s1.ext p2;obtain⟨f,d⟩:=z;have q:=q2.1;dsimp only at q;show gi A0 h0 _ _ (pb (pl (keyOf d)) _);cases hk:keyOf d with
   |none=>trivial
   |some kk=>
    have hu:keyOf u=some kk:=by
     cases d<;>simp only[keyOf]at hk<;>first|(cases hk;done)|skip
     all_goals (rw[Dn]at q;subst q;exact hk)
    show gi A0 h0 _ _ (pg _ _);refine jO λhl=>?_;have g:=iG p2 e4;obtain⟨k1,k2⟩:=Ii (k:=kk) ek (e5.ext p2) (q1.1.ext p2);obtain⟨s3,f3⟩:=s2.put (d1:=putD ks ds kk x.2) (ob:=.dct (eF kvs kk w)) hj e3 ⟨_,rfl,k1,k2⟩;refine⟨.nx env,h2.set b (.dct (eF kvs kk w)),?_,O,s3,(Fm.refl s (p1.trans p2)).trans (f3.f7 (DX (by simp[mS,rE])))⟩;have hl':decide (kvs.length<sizeLine)=true:=by rw[<-ek,Z8]at hl;exact hl
    simp only[vY];unfold bnd ask aZ put ret aI;dsimp only;rw[g];dsimp only;rw[hu];dsimp only;rw[aae hl']
  ·trivial
 |_=>rw[aY]<;>first|trivial|(intros;simp_all)
theorem MM(hΦ:∀j,Imp (Φ j) (Ψ j))(hc:dm c=true)(ha:uS Φ Ψ ms a)(hb:uS Φ Ψ ms b):Ai Φ Ψ ms (.iff c a b):=λA0 h0 aa env h O s=>by
 have V:=(v_all hΦ).1 c hc;rw[gO,aY];refine bG s (rF V s.Ah s.er) λx h1 v p1 q1=>?_;have s1:=s.ext p1;refine bG s1 (R:=λt _ t'=>t'=t) (cS λt et=>⟨t,yG q1 et,rfl⟩) λt h2 t' p2 et=>?_;subst et;have s2:=s1.ext p2;cases t' with
 |true=>
  rw[aae rfl,aae rfl];refine gW (ha A0 h0 aa env h2 O s2) λf h' g r=>(r.pre s (p1.trans p2)).f7 λi hi=>?_;simp only[Ig,mS,rE,oM,mem_append]at hi |-
  rcases hi with z|z
  ·exact .inl (.inl z)
  ·exact .inr (.inl z)
 |false=>
  rw[aac Z3,aac Z3];refine gW (hb A0 h0 aa env h2 O s2) λf h' g r=>(r.pre s (p1.trans p2)).f7 λi hi=>?_;simp only[Ig,mS,rE,oM,mem_append]at hi |-
  rcases hi with z|z
  ·exact .inl (.inr z)
  ·exact .inr (.inr z)
def yH(h:Hs)(O:Nat->Option Nat)(m:List Nat)(src:Src)(ws:List Val):Prop :=
 ∀h':Hs,(∀k,k<h.length->(∀i,O i≠some k)->h'[k]?=h[k]?)->(∀i,i∉m->∀a,O i=some a->h'[a]?=h[a]?)->src.items h'=some ws
theorem iI{i:Nat}(e:h[i]?=some (.lst ws)):(Src.live i).items h=some ws:=by simp[Src.items,aF,e]
theorem iJ{i:Nat}(e:h[i]?=some (.lst ws)):(Src.enum i).items h=some (bW 0 ws):=by simp[Src.items,aF,e]
theorem wO{A0:AP}{h0:Hs}{m:List Nat}(hb:∀aa env h O x v,SR A0 h0 aa env h O->Dn (Al A0 O) h x v->gi A0 h0 (RF A0 h0 m aa env h O) (body v env h) (bodyV x aa))
  {mj:bg} {uR:Env} {h1:Hs} {O1:Nat->Option Nat} (st:yH h1 O1 m src ws) :
  ∀(xs vs:List Val) (i:Nat) (aa:bg) (env:Env) (h:Hs) (O:Nat->Option Nat),SR A0 h0 aa env h O->Fm m mj uR h1 O1 aa env h O->ws.drop i=vs->az (Al A0 O) h xs vs ->
   gi A0 h0 (RF A0 h0 m mj uR h1 O1) (forM src body vs.length i env h) (fO bodyV xs aa)
 | [],vs,i,aa,env,h,O,s,f,hd,q=>by
  rw[az]at q;subst q;have hl:ws.length<=i:=List.drop_eq_nil_iff.mp hd;have hi:=st h (λk hk n=>(f.keep k hk n).1) (λj hj a e=>(f.stay j hj).2.2.2 a e);rw[fO];refine⟨.nx env,h,?_,O,s,f⟩;show forM src body 0 i env h=_;simp only[forM];unfold bnd ask aZ aI;dsimp only;rw[hi];dsimp only;rw[aae (decide_eq_true hl)];rfl
 | x::xs,vs,i,aa,env,h,O,s,f,hd,q=>by
  rw[az]at q;obtain⟨v,r,rfl,q1,q2⟩:=q;have hv:ws[i]?=some v:=by have:=aa3 (λl=>l[0]?) hd;simpa using this
  have hr:ws.drop (i+1)=r:=by
   have:ws.drop (i+1)=(ws.drop i).drop 1:=by rw[List.drop_drop]
   rw[this,hd];rfl
  have hi:=st h (λk hk n=>(f.keep k hk n).1) (λj hj a e=>(f.stay j hj).2.2.2 a e);have ev:forM src body (v::r).length i env h=bnd (body v env) (λf=>match f with
   |.nx env'=>forM src body r.length (i+1) env'
   |.ct env'=>forM src body r.length (i+1) env'
   |.bk env'=>ret (.nx env')
   |.rt v=>ret (.rt v)) h:=by
   show forM src body (r.length+1) i env h=_;simp only[forM];unfold bnd ask aZ;dsimp only;rw[hi];dsimp only;rw[hv];try rfl
  rw[ev,fO];refine qv (hb aa env h O x v s q1) λfl h2 gl hr2=>?_;have go:∀aH env' O',SR A0 h0 aH env' h2 O'->Fm m aa env h O aH env' h2 O'->gi A0 h0 (RF A0 h0 m mj uR h1 O1) (forM src body r.length (i+1) env' h2) (fO bodyV xs aH):=λaH env' O' s' f'=>by
   refine wO hb st xs r (i+1) aH env' h2 O' s' (f.trans f') hr (az.move jl (λk o hk g=>?_) _ _ q2);have hlt:k<h.length:=(Z9.mp g).1;obtain⟨a1,a2⟩:=f'.keep k hlt λi=>hk.2 i rfl;exact⟨⟨hk.1,λi _=>a2 i⟩,a1.trans g⟩
  cases fl<;>cases gl<;>first|exact hr2.elim|skip
  ·obtain⟨O',s',f'⟩:=hr2;exact go _ _ O' s' f'
  ·exact bz hr2
  ·obtain⟨O',s',f'⟩:=hr2;exact bz ⟨O',s',f.trans f'⟩
  ·obtain⟨O',s',f'⟩:=hr2;exact go _ _ O' s' f'
theorem DY{A0:AP}{m:List Nat}(q:Dn (Al A0 O) h d v)(e:gG k [d]=some xs):∃src ws,srcOf k [v]=some src/\az (Al A0 O) h xs ws/\src.items h=some ws/\yH h O m src ws:=by
 have lst:∀es,d=.rl es->(∃ws,v=.rl ws/\az (Al A0 O) h es ws)\/∃a ws,v=.ref a/\h[a]?=some (.lst ws)/\az (Al A0 O) h es ws/\∀h':Hs,(∀k,k<h.length->(∀i,O i≠some k)->h'[k]?=h[k]?)->h'[a]?=some (Ob.lst ws):=by
  rintro es rfl;rw[Dn]at q
  rcases q with ⟨ws,rfl,_,q⟩|⟨a,ws,rfl,al,g,q⟩
  ·exact .inl ⟨ws,rfl,q⟩
  ·exact .inr ⟨a,ws,rfl,g,q,λh' hk=>(hk a (Z9.mp g).1 λi=>al.2 i rfl).trans g⟩
 cases k with
 |seq=>
  cases d<;>first|(cases e;done)|skip
  ·cases e;rw[Dn]at q;obtain⟨ws,rfl,q⟩:=q;exact⟨.fix ws,ws,rfl,q,rfl,λ_ _ _=>rfl⟩
  ·cases e
   rcases lst _ rfl with ⟨ws,rfl,q'⟩|⟨a,ws,rfl,g,q',st⟩
   ·exact⟨.fix ws,ws,rfl,q',rfl,λ_ _ _=>rfl⟩
   ·exact⟨.live a,ws,rfl,q',iI g,λh' hk _=>iI (st h' hk)⟩
 |range=>
  cases d<;>first|(cases e;done)|skip
  rw[Dn]at q;subst q;rename_i n;change (if inR n=true then some (ck 0 n.toNat) else none)=some _ at e;split at e
  ·rename_i hn;cases e;exact⟨.fix _,_,aae hn,jK,rfl,λ_ _ _=>rfl⟩
  ·cases e
 |enum=>
  cases d<;>first|(cases e;done)|skip
  cases e
  rcases lst _ rfl with ⟨ws,rfl,q'⟩|⟨a,ws,rfl,g,q',st⟩
  ·exact⟨.fix _,_,rfl,gU 0 q',rfl,λ_ _ _=>rfl⟩
  ·exact⟨.enum a,_,rfl,gU 0 q',iJ g,λh' hk _=>iJ (st h' hk)⟩
 |zip=>cases e
theorem DZ{α β γ δ:Type}{R:α -> Hs -> β -> Prop}{R':γ -> Hs -> δ -> Prop}{m:M β}{f:β -> M δ}{p:Pr α}{F:α -> Pr γ}(r:Rel A h R (m h) p)(k:∀a h1 b,p=.ok a->h<+:h1->R a h1 b->Rel A h1 R' (f b h1) (F a)):Rel A h R' (bnd m f h) (pb p F):=by
 unfold bnd;cases p with
 |ok a=>
  obtain⟨b,h1,e,q,r⟩:=r;rw[e];show Rel A h R' (f b h1) (F a);have:=k a h1 b rfl q r;cases e2:F a with
  |ok c=>rw[e2]at this;obtain⟨d,h2,e3,q2,r2⟩:=this;exact⟨d,h2,e3,q.trans q2,r2⟩
  |exc c es=>rw[e2]at this;obtain⟨d,h2,e3,q2,r2⟩:=this;exact⟨d,h2,e3,q.trans q2,r2⟩
  |no=>trivial
 |exc c es=>obtain⟨ws,h1,e,q,r⟩:=r;rw[e];exact⟨ws,h1,rfl,q,r⟩
 |no=>trivial
theorem D0{e e2:IE}(h:fM Ψ (.cons e (.cons e2 r)) aa=.ok ds):2<=ds.length:=by
 rw[fM,fM]at h;cases h1:(if isVar e=true then pl (iO aa e) else bq Ψ e aa) with
 |ok a=>
  rw[h1]at h;cases h2:(if isVar e2=true then pl (iO aa e2) else bq Ψ e2 aa) with
  |ok b=>
   rw[h2]at h;cases h3:fM Ψ r aa with
   |ok c=>rw[h3]at h;cases h;simp
   |exc _ _=>rw[h3]at h;cases h
   |no=>rw[h3]at h;cases h
  |exc _ _=>rw[h2]at h;cases h
  |no=>rw[h2]at h;cases h
 |exc _ _=>rw[h1]at h;cases h
 |no=>rw[h1]at h;cases h
theorem D3{d1 d2:Val}(ex:gG k [d1,d2]=some xs):k=.range/\∃n m,d1=.int n/\d2=.int m/\(inR n&&inR m)=true/\xs=ck n (m-n).toNat:=by
 cases k with
 |seq=>cases d1<;>cases ex
 |enum=>cases d1<;>cases ex
 |zip=>cases ex
 |range=>
  cases d1<;>first|(cases ex;done)|skip
  cases d2<;>first|(cases ex;done)|skip
  rename_i n m;change (if (inR n&&inR m)=true then some (ck n (m-n).toNat) else none)=some xs at ex
  by_cases hn:(inR n&&inR m)=true
  ·rw[aae hn]at ex;cases ex;exact⟨rfl,n,m,rfl,rfl,hn,rfl⟩
  ·rw[aac hn]at ex;cases ex
theorem yI{d1 d2 d3:Val}:gG k (d1::d2::d3::r)=none:=by
 cases k with
 |seq=>cases d1<;>rfl
 |enum=>cases d1<;>rfl
 |zip=>rfl
 |range=>cases d1<;>first|rfl|(cases d2<;>rfl)
theorem Il{A0:AP}{h0:Hs}{m:List Nat}(hΦ:∀j,Imp (Φ j) (Ψ j))(hi:l9 it=true)(s:SR A0 h0 aa env h O)(hm:∀i,it=.cons (.var i) .nil->i∉m) :
  Rel (Al A0 O) h (λxs h' src=>∃ws,az (Al A0 O) h' xs ws/\src.items h'=some ws/\yH h' O m src ws) (bnd (bB Φ it env) (λits=>aZ (srcOf k its)) h) (pb (fM Ψ it aa) λits=>pl (gG k its)):=by
 have V:=v_all hΦ;cases it with
 |nil=>rw[fM];cases k<;>trivial
 |cons e es=>
  cases es with
  |nil=>
   replace hi:=fP hi
   by_cases hv:isVar e=true
   ·cases e<;>first|(cases hv;done)|skip
    rename_i i;rw[fM,fM,aae hv];simp only[iO];cases hx:aa[i]? with
    |none=>trivial
    |some o=>
     cases o with
     |none=>trivial
     |some fd=>
      obtain⟨f,d⟩:=fd;show Rel _ _ _ _ (pl (gG k [d]));cases hf:sS f with
      |false=>
       have hf:f=.ow:=by cases f<;>first|rfl|cases hf
       subst hf;obtain⟨a,e2,e3,e4⟩:=s.ow i d hx;have ev:bnd (bB Φ #[.var i] env) (λits=>aZ (srcOf k its)) h=aZ (srcOf k [.ref a]) h:=by rw[bB,bB,bE,dw (gI e2)];rfl
       rw[ev];refine aX λxs ex=>?_;have hd:∃ds,d=.rl ds:=by cases d<;>first|exact⟨_,rfl⟩|exact False.elim e4|(cases k<;>cases ex)
       obtain⟨ds,rfl⟩:=hd;obtain⟨vs,e4,e5⟩:=e4;have st:∀h':Hs,(∀i,i∉m->∀a,O i=some a->h'[a]?=h[a]?)->h'[a]?=some (Ob.lst vs):=λh' hs=>(hs i (hm i rfl) a e3).trans e4;cases k with
       |seq=>cases ex;exact⟨.live a,rfl,vs,e5,iI e4,λh' _ hs=>iI (st h' hs)⟩
       |range=>cases ex
       |enum=>cases ex;exact⟨.enum a,rfl,_,gU 0 e5,iJ e4,λh' _ hs=>iJ (st h' hs)⟩
       |zip=>cases ex
      |true=>
       obtain⟨v,e1,e2,_⟩:=s.sh i f d hx hf;have ev:bnd (bB Φ #[.var i] env) (λits=>aZ (srcOf k its)) h=aZ (srcOf k [v]) h:=by rw[bB,bB,bE,dw (gI e1)];rfl
       rw[ev];refine aX λxs ex=>?_;obtain⟨src,ws,a1,a2,a3,a4⟩:=DY (m:=m) e2 ex;exact⟨src,a1,ws,a2,a3,a4⟩
   ·rw[fM,fM,aac hv]
    have ev:bnd (bB Φ #[e] env) (λits=>aZ (srcOf k its)) h=bnd (aK Φ e env) (λv=>aZ (srcOf k [v])) h:=by rw[bB,bB,bE];rfl
    rw[ev];have ep:(pb (pb (bq Ψ e aa) λd=>pb (Pr.ok ([]:List Val)) λp=>Pr.ok (d.2::p)) λits=>pl (gG k its))=pb (bq Ψ e aa) λd=>pl (gG k [d.2]):=by cases bq Ψ e aa<;>rfl
    rw[ep];refine ah (V.1 e hi.1 aa env _ h s.Ah s.er) λx h1 v p1 q1=>aX λxs ex=>?_;obtain⟨src,ws,a1,a2,a3,a4⟩:=DY (m:=m) q1.1 ex;exact⟨src,a1,ws,a2,a3,a4⟩
  |cons e2 r=>
   have V2:=V.2 _ hi;refine DZ (V2.2 aa env _ h s.Ah s.er) λds h1 vs eb p1 q1=>aX λxs ex=>?_;have hl:2<=ds.length:=D0 eb
   match ds,q1 with
   |[],q1=>cases k<;>cases ex
   |[d],q1=>simp at hl
   |[d1,d2],q1=>obtain⟨v,rr,rfl,hv,hr⟩:=q1;obtain⟨w,rfl,hw⟩:=HQ.one hr;obtain⟨rfl,n,m',rfl,rfl,hn,rfl⟩:=D3 ex;have:=hv.int;subst this;have:=hw.int;subst this;exact⟨.fix _,aae hn,_,jK,rfl,λ_ _ _=>rfl⟩
   |d1::d2::d3::dr,q1=>rw[yI]at ex;cases ex
theorem MN(hΦ:∀j,Imp (Φ j) (Ψ j))(hi:l9 it=true)(hb:uS Φ Ψ ms body):Ai Φ Ψ ms (.for p k it body):=λA0 h0 aa env h O s=>by
 rw[gO,aY];refine jO λhg=>?_;rw[abe]at hg;have hm:∀i,it=.cons (.var i) .nil->i∉mS (.for p k it body):=by
  rintro i rfl z;simp only[zZ,and_eq_true,not_eq_true',List.contains_eq_mem,decide_eq_false_iff_not]at hg;simp only[mS,rE,oM,mem_append]at z
  rcases z with z|z|z
  ·exact hg.1.1.1 z
  ·exact hg.1.2 z
  ·exact hg.1.1.2 z
 have ev:∀(F:Src->M Fl),bnd (bB Φ it env) (λits=>bnd (aZ (srcOf k its)) F) h=bnd (bnd (bB Φ it env) λits=>aZ (srcOf k its)) F h:=λF=>by rw[bE]
 have ep:∀(F:List Val->Pr DM),pb (fM Ψ it aa) (λits=>pb (pl (gG k its)) F)=pb (pb (fM Ψ it aa) λits=>pl (gG k its)) F:=λF=>by cases fM Ψ it aa<;>rfl
 rw[ev,ep];refine bG s (Il (m:=mS (.for p k it body)) hΦ hi s hm) λxs h1 src p1 hx=>?_;obtain⟨ws,q1,q2,st⟩:=hx;have s1:=s.ext p1;have l:=q1.length;have Yb:∀(F:List Val->M Fl),bnd (ask λh=>src.items h) F h1=F ws h1:=λF=>by unfold bnd ask aZ;dsimp only;rw[q2]
 rw[Yb];refine gW (wO (m:=mS (.for p k it body)) (λaH env' h' O' x v s' qx=>?_) st xs ws 0 aa env h1 O s1 (Fm.refl s1 (aar _)) rfl q1) λf h' g r=>r.pre s p1;refine bG s' (R:=λnX h2 gF=>∃O2,SR A0 h0 nX gF h2 O2/\Fm (stored p) aH env' h' O' nX gF h2 O2) (aX λnX e2=>?_) λnX h2 gF p2 hh=>?_
 ·obtain⟨gF,O2,b1,b2,b3⟩:=s'.bind e2 qx;exact⟨gF,b1,O2,b2,b3⟩
 ·obtain⟨O2,b2,b3⟩:=hh
  refine gW (hb A0 h0 nX gF h2 O2 b2) λf h'' g r=>RF.seq (b3.f7 λi hi=>?_) (r.f7 λi hi=>?_)
  ·simp only[mS,rE,oM,mem_append];exact .inr (.inl hi)
  ·simp only[Ig,mS,rE,oM,mem_append]at hi |-
   rcases hi with z|z
   ·exact .inl z
   ·exact .inr (.inr z)
theorem MO{n:Nat}(hΦ:∀j,Imp (Φ j) (Ψ j))(hc:dm c=true)(hb:uS Φ Ψ ms body):Ai Φ Ψ ms (.whl n c body):=λA0 h0 aa env h O s=>by rw[aY];trivial
theorem JI:sS (We m)=true:=by cases m<;>rfl
theorem SR.fr{A0:AP}{h0:Hs}(s:SR A0 h0 aa env h O):ER A0 (rL aa) env h:=λi f d e=>by
 unfold rL at e;rw[aay]at e;cases hx:aa[i]? with
 |none=>rw[hx]at e;cases e
 |some o=>
  rw[hx]at e;cases o with
  |none=>cases e
  |some fd=>
   obtain⟨m,d'⟩:=fd;cases e;rw[aac (by rw[JI];decide)];cases hm:sS m with
   |false=>
    have hm:m=.ow:=by cases m<;>first|rfl|cases hm
    subst hm;obtain⟨a,e2,e3,e4⟩:=s.ow i d hx;exact⟨_,e2,(e4.mono (A':=A0) (λ_ g=>g) λ_ _ z=>z.f7 λ_ y=>y.1).dn (s.up a (s.own i a e3).1)⟩
   |true=>obtain⟨v,e1,e2,_⟩:=s.sh i m d hx hm;exact⟨v,e1,e2.f7 λ_ z=>z.1⟩
theorem sX{A0:AP}{h0:Hs}{α β γ δ:Type}{R:α -> Hs -> β -> Prop}{R':γ -> Hs -> δ -> Prop}{mm:M β}{f:β -> M δ}{p:Pr α}{F:α -> Pr γ}(s:SR A0 h0 aa env h O)(r:Rel A0 h R (mm h) p)(k:∀a h1 b,h<+:h1->R a h1 b->gi A0 h0 R' (f b h1) (F a)):gi A0 h0 R' (bnd mm f h) (pb p F):=by
 unfold bnd;cases p with
 |ok a=>obtain⟨b,h1,e,q,r⟩:=r;rw[e];exact k a h1 b q r
 |exc c es=>obtain⟨ws,h1,e,q,r⟩:=r;rw[e];exact⟨ws,h1,rfl,s.pre.trans q,r⟩
 |no=>trivial
theorem BI(h:HN env es=some p):∃i j,es=.cons (.var i) #[.var j]/\env[i]?=some (some (.nw,p.1))/\env[j]?=some (some (.nw,p.2)):=by
 unfold HN at h;split at h
 ·split at h
  ·rename_i a b;cases h;exact⟨_,_,rfl,a,b⟩
  ·cases h
 ·cases h
theorem MP(hΦ:∀j,Imp (Φ j) (Ψ j))(ho:dm e=true):Ai Φ Ψ ms (.ret e):=λA0 h0 aa env h O s=>by
 have V:=(v_all hΦ).1 e ho;have gen:N6 Ψ e aa=bq Ψ e aa->gi A0 h0 (RF A0 h0 (mS (.ret e)) aa env h O) (gO Φ (.ret e) env h) (aY Ψ ms (.ret e) aa):=λhe=>by
  rw[gO,aY,he];exact bG s (V aa env _ h s.Ah s.er) λx h1 v p1 q1=>bz ⟨q1.1.f7 λ_ z=>z.1,λf=>(q1.2 f).f7 (Fr.le s.pre.length_le),s.pre.trans p1⟩
 cases e with
 |var i=>
  rw[gO,aY];simp only[N6];cases hx:aa[i]? with
  |none=>trivial
  |some o=>
   cases o with
   |none=>trivial
   |some fd=>
    obtain⟨f,d⟩:=fd;cases hf:sS f with
    |false=>
     have hf:f=.ow:=by cases f<;>first|rfl|cases hf
     subst hf;obtain⟨a,e2,e3,e4⟩:=s.ow i d hx;rw[dw (gI e2)];have ha:=s.own i a e3;cases d<;>first|exact False.elim e4|skip
     ·refine⟨_,h,rfl,?_,λhi=>?_,s.pre⟩
      ·exact(e4.mono (A':=A0) (λ_ g=>g) λ_ _ z=>z.f7 λ_ y=>y.1).dn (s.up a ha.1)
      ·obtain⟨vs,e4,e5⟩:=e4;show Dn _ h (.rl _) (.ref a);rw[Dn];exact .inr ⟨a,vs,rfl,ha.1,e4,fq e5 hi⟩
     ·refine⟨_,h,rfl,?_,λhi=>?_,s.pre⟩
      ·exact(e4.mono (A':=A0) (λ_ g=>g) λ_ _ z=>z.f7 λ_ y=>y.1).dn (s.up a ha.1)
      ·obtain⟨kvs,e4,ek,e5⟩:=e4;show Dn _ h (.dc _ _) (.ref a);rw[Dn];exact⟨a,kvs,rfl,ha.1,e4,ek,fq e5 hi⟩
    |true=>
     obtain⟨v,e1,e2,e3⟩:=s.sh i f d hx hf;rw[dw (gI e1)];dsimp only;rw[aae hf];refine⟨_,h,rfl,e2.f7 λ_ z=>z.1,λhi=>?_,s.pre⟩
     rcases(or_eq_true _ _).mp hi with hi|hi
     ·exact(eN d v hi).mpr ((eN d v hi).mp e2)
     ·exact(e3 hi).f7 λ_ z=>z.1
 |call j es=>rw[gO,aY];exact sX s (V (rL aa) env A0 h (s.up.ext s.pre) s.fr) λx h1 v p1 q1=>bz ⟨q1.1,λf=>(q1.2 f).f7 (Fr.le s.pre.length_le),s.pre.trans p1⟩
 |tup es=>
  rw[gO,aY];change gi A0 h0 _ _ (pb (HP Ψ es aa) _);unfold HP
  split
  ·rename_i pp hp
   obtain⟨i,j,he,hi,hj⟩:=BI hp;subst he;obtain⟨v,e1,e2,e3⟩:=s.sh i .nw _ hi rfl;obtain⟨w,k1,k2,k3⟩:=s.sh j .nw _ hj rfl;have ev:aK Φ (.tup #[.var i,.var j]) env h=.ok (.tup [v,w]) h:=by rw[aK,bB,bB,bB];rw[dw (a:=[v,w]) (h1:=h) (by rw[dw (gI e1),dw (a:=[w]) (h1:=h) (by rw[dw (gI k1)];rfl)];rfl)];rfl
   rw[dw ev];refine⟨_,h,rfl,?_,λ_=>?_,s.pre⟩
   ·show Dn A0 h (.tup _) _;rw[Dn];exact⟨_,rfl,az.cons (e2.f7 λ_ z=>z.1) (az.cons (k2.f7 λ_ z=>z.1) az.nil)⟩
   ·show Dn (Fr h0.length) h (.tup _) _;rw[Dn];exact⟨_,rfl,az.cons ((e3 rfl).f7 λ_ z=>z.1) (az.cons ((k3 rfl).f7 λ_ z=>z.1) az.nil)⟩
  exact sX s (V (rL aa) env A0 h (s.up.ext s.pre) s.fr) λx h1 v p1 q1=>bz ⟨q1.1,λf=>(q1.2 f).f7 (Fr.le s.pre.length_le),s.pre.trans p1⟩
 |_=>exact gen rfl
theorem MQ:uS Φ Ψ ms .nil:=λA0 h0 aa env h O s=>by rw[gh,aG];exact bz ⟨O,s,Fm.refl s (aar _)⟩
theorem Im(ha:Ai Φ Ψ ms a)(hr:uS Φ Ψ ms r):uS Φ Ψ ms (.cons a r):=λA0 h0 aa env h O s=>by
 rw[gh,aG];have w1:∀i∈mS a,i∈Ig (.cons a r):=λi hi=>by
  simp only[mS,Ig,dX,kr,mem_append]at hi |-
  rcases hi with z|z
  ·exact .inl (.inl z)
  ·exact .inr (.inl z)
 have w2:∀i∈Ig r,i∈Ig (.cons a r):=λi hi=>by
  simp only[Ig,dX,kr,mem_append]at hi |-
  rcases hi with z|z
  ·exact .inl (.inr z)
  ·exact .inr (.inr z)
 refine qv (ha A0 h0 aa env h O s) λf h1 g rr=>?_;have rr:=rr.f7 w1;cases f<;>cases g<;>first|exact rr.elim|skip
 ·obtain⟨O',s',f'⟩:=rr;exact gW (hr A0 h0 _ _ h1 O' s') λf h' g r'=>RF.seq f' (r'.f7 w2)
 ·exact bz rr
 ·exact bz rr
 ·exact bz rr
theorem Qw(hΦ:∀j,Imp (Φ j) (Ψ j)):∀ss,wN ss=true->uS Φ Ψ ms ss:=by
 intro ss;refine eZ.rec (motive_1:=λs=>Wi s=true->Ai Φ Ψ ms s) (motive_2:=λss=>wN ss=true->uS Φ Ψ ms ss) ?_ ?_ ?_ ?_ ?_ ?_ ?_ ?_ ?_ ?_ ?_ ?_ ?_ ?_ ?_ ?_ ss
 ·exact λe f=>Ih hΦ f
 ·exact λp e f=>MK hΦ f
 ·exact λi o e f=>ML hΦ f
 ·intro o i v f;have f:=uO f;exact Ij hΦ f.1.1 f.1.2 f.2
 ·intro c a b ia ib f;have f:=uO f;exact MM hΦ f.1.1 (ia f.1.2) (ib f.2)
 ·intro p k it b ib f;have f:=fP f;exact MN hΦ f.1 (ib f.2)
 ·intro n c b ib f;have f:=fP f;exact MO hΦ f.1 (ib f.2)
 ·exact λe f=>MP hΦ f
 ·exact λ_ A0 h0 aa env h O s=>by rw[gO,aY];exact bz ⟨by rw[Dn],λ_=>by rw[Dn],s.pre⟩
 ·exact λ_ A0 h0 aa env h O s=>by rw[gO,aY];exact bz ⟨O,s,Fm.refl s (aar _)⟩
 ·exact λ_ A0 h0 aa env h O s=>by rw[gO,aY];exact bz ⟨O,s,Fm.refl s (aar _)⟩
 ·exact λ_ A0 h0 aa env h O s=>by rw[gO,aY];exact bz ⟨O,s,Fm.refl s (aar _)⟩
 ·exact λ_ A0 h0 aa env h O s=>by rw[aY];trivial
 ·exact λ_ e _ _ f A0 h0 aa env h O s=>by rw[gO,aY];exact bG s (((v_all hΦ).1 e f) aa env _ h s.Ah s.er) λx h1 v p1 q1=>trivial
 ·exact λ_=>MQ
 ·intro a r ia ir f;have f:=fP f;exact Im (ia f.1) (ir f.2)
theorem Qx{n:Nat}(u:Up A h)(q:az A h ds vs):SR A h (ds.map (λd=>some (.sh,d))++replicate (n-ds.length) none) (vs.map some++replicate (n-vs.length) none) h (λ_=>none):=by
 have l:=q.length;have al:∀k,A k->Al A (λ_=>none) k:=λk hk=>⟨hk,λi z e=>by subst e;cases z⟩;have get:∀(i:Nat) (f:Mk) (d:Val),(ds.map (λd=>some (.sh,d))++replicate (n-ds.length) none:bg)[i]?=some (some (f,d))->f=.sh/\ds[i]?=some d:=λi f d e=>by
  by_cases hi:i<ds.length
  ·rw[aan (by simpa using hi),aay]at e
   cases ei:ds[i]? with
   |none=>rw[ei]at e;cases e
   |some d'=>rw[ei]at e;cases e;exact⟨rfl,rfl⟩
  ·rw[aax (by simp;omega)]at e;have:=aat e;rw[List.mem_replicate]at this;exact absurd this.2 (by simp)
 refine⟨by simp[l],λi m d e hm=>?_,λi d e=>?_,(λi a e=>nomatch e),(λi j a e=>nomatch e),aar _,u⟩
 ·obtain⟨hm',e⟩:=get i m d e;obtain⟨v,k1,k2⟩:=q.get e;have hi:i<vs.length:=(Z9.mp k1).1;exact⟨v,by rw[aan (by simpa using hi),aay,k1];rfl,k2.f7 al,λz=>by subst hm';cases z⟩
 ·obtain⟨z,_⟩:=get i .ow d e;cases z
theorem cP{n:Nat}(hΦ:∀j,Imp (Φ j) (Ψ j))(ho:wN body=true):Imp (pZ Φ n body) (fk Ψ n body):=λA h ds vs u q=>by
 have l:=q.length;have s:=Qx (n:=n) u q;unfold pZ fk;have r:=qv (R':=λx h' v=>h<+:h'/\RV A h x h' v) (Qw (ms:=dX body) hΦ body ho A h _ _ h _ s) (f:=λf=>match f with
  |.nx _=>ret .non
  |.rt v=>ret v
  |_=>aZ none) (F:=λf=>match f with
  |.nx _=>.ok (true,.non)
  |.rt p=>.ok p
  | _=>.no) λf h1 g rr=>by
   cases f<;>cases g<;>first|exact rr.elim|skip
   ·obtain⟨O',s',_⟩:=rr;exact bz ⟨s'.pre,by show Dn _ _ Val.non _;rw[Dn],λ_=>by show Dn _ _ Val.non _;rw[Dn]⟩
   ·exact bz ⟨rr.2.2,rr.1,rr.2.1⟩
   ·trivial
   ·trivial
 revert r;generalize (pb (aG Ψ (dX body) body (ds.map (λd=>some (.sh,d))++replicate (n-ds.length) none)) _)=p;intro r;cases p with
 |ok x=>obtain⟨v,h',e,a,b⟩:=r;exact⟨v,h',e,a,b⟩
 |exc c es=>exact r
 |no=>trivial
end
abbrev aS:=List Val->Pr FV
def ai(gs:List aS)(j:Nat):aS:=match gs[j]? with
 |some g=>g
 |none=>λ_=>.no
def cU(fs:List Row)(gs:List aS):Prop:=fs.length=gs.length/\∀(j:Nat) (r:Row) (g:aS),fs[j]?=some r->gs[j]?=some g->Imp r.2.2 g
theorem D4:cU [] []:=⟨rfl,λj r g e=>by simp at e⟩
theorem aT(a:cU fs gs)(j:Nat):Imp (look fs j) (ai gs j):=by
 unfold look ai;cases e:fs[j]? with
 |none=>
  have:gs[j]?=none:=by have:=abh.mp e;exact abh.mpr (by rw[<-a.1];exact this)
  rw[this];exact λ_ _ _ _ _ _=>trivial
 |some r=>
  cases e2:gs[j]? with
  |none=>exact λ_ _ _ _ _ _=>trivial
  |some g=>exact a.2 j r g e e2
theorem aB{k:Nat}(a:cU fs gs)(i:Imp f g):cU (fs++[(x,k,f)]) (gs++[g]):=by
 refine⟨by simp[a.1],λj r g' e1 e2=>?_⟩
 by_cases hj:j<fs.length
 ·rw[aan hj]at e1;rw[aan (by rw[<-a.1];exact hj)]at e2;exact a.2 j r g' e1 e2
 ·rw[aax (by omega)]at e1
  rw[aax (by rw[<-a.1];omega)]at e2;have hj0:j-fs.length=0:=by have:=(Z9.mp e1).1;simp at this;omega
  rw[<-a.1]at e2;rw[hj0]at e1 e2;simp at e1 e2;subst e1;subst e2;exact i
theorem D5(i:Imp φ ψ){ns:List Int}{f:Bool}(e:ψ [.rl (ns.map .int)]=.ok (f,.bl true)):∃h',φ [.rl (ns.map .int)] []=.ok (.bl true) h':=by
 have r:=i (λ_=>True) [] [.rl (ns.map .int)] [.rl (ns.map .int)] (λ_ _=>trivial) (az.cons (by rw[Dn];exact .inl ⟨_,rfl,trivial,(bu _ _ (cO ns)).mpr rfl⟩) az.nil);rw[e]at r;obtain⟨v,h',e1,_,q⟩:=r;have q:=q.1;dsimp only at q;rw[Dn]at q;subst q;exact⟨h',e1⟩
section
variable {α β γ:Type}
theorem aU(a:α)(f:α -> Pr β):pb (.ok a) f=f a:=rfl
theorem jn(c:Nat)(ds:List Val)(f:α -> Pr β):pb (.exc c ds) f=.exc c ds:=rfl
theorem MR(c:Prop)[Decidable c](m n:Pr α)(f:α -> Pr β):pb (if c then m else n) f=if c then pb m f else pb n f:=by split<;>rfl
theorem D6(m:Pr α)(f:α -> Pr β)(g:β -> Pr γ):pb (pb m f) g=pb m λx=>pb (f x) g:=by cases m<;>rfl
theorem gu(a:α):pl (some a)=.ok a:=rfl
theorem uT(m:Pr α):pg true m=m:=rfl
theorem MS(c:Prop)[Decidable c](m:Pr α):pg (decide c) m=if c then m else .no:=by unfold pg;simp
theorem qw{c:Bool}(h:c=true)(m:Pr α):pg c m=m:=by rw[h];rfl
end
theorem D7{f:Bool}:sS (dW f d)=true:=by unfold dW;split<;>rfl
theorem Qy:sS .sh=true:=rfl
theorem Qz:sS .nw=true:=rfl
theorem QA:sS .ow=false:=rfl
theorem QB:N5 .sh=false:=rfl
theorem QC:N5 .nw=true:=rfl
theorem MT{f:Bool}{i:Int}:dW f (.int i)=.sh:=by cases f<;>rfl
theorem QD{f:Bool}{i:Bool}:dW f (.bl i)=.sh:=by cases f<;>rfl
theorem MU{f:Bool}:dW f (.str i)=.sh:=by cases f<;>rfl
theorem MV{f:Bool}:dW f .non=.sh:=by cases f<;>rfl
theorem UI:dW false d=.sh:=rfl
theorem QE:dW true (.rl ds)=.nw:=rfl
theorem QF:dW true (.dc ks ds)=.nw:=rfl
section
variable {a b:Int} {x y:Str} {t:Bool} {vs ws:List Val} {v:Val}
theorem QG:gS .add (.int a) (.int b)=.ok (true,.int (a+b)):=rfl
theorem QH:gS .sub (.int a) (.int b)=.ok (true,.int (a-b)):=rfl
theorem nZ(h:dD a b=true):gS .mul (.int a) (.int b)=.ok (true,.int (a*b)):=by simp only[gS];exact qw h _
theorem gJ(h:iZ b=true):gS .fdiv (.int a) (.int b)=.ok (true,.int (a/b)):=by simp only[gS];exact qw h _
theorem cZ(h:decide (0<b)=true):gS .mod (.int a) (.int b)=.ok (true,.int (a%b)):=by simp only[gS];exact qw h _
theorem qy(h:decide (0<=b/\b<=1000000/\a.natAbs<2 ^ 64)=true):gS .pow (.int a) (.int b)=.ok (true,.int (a ^ b.toNat)):=by simp only[gS];exact qw h _
theorem add_l(h:decide (vs.length+ws.length<=sizeLine)=true):gS .add (.rl vs) (.rl ws)=.ok (bw (vs++ws),.rl (vs++ws)):=by simp only[gS];exact qw h _
theorem UJ:cop [] .lt (.int a) (.int b)=some (decide (a<b)):=rfl
theorem UK:cop [] .le (.int a) (.int b)=some (decide (a<=b)):=rfl
theorem UL:cop [] .gt (.int a) (.int b)=some (decide (b<a)):=rfl
theorem UM:cop [] .ge (.int a) (.int b)=some (decide (b<=a)):=rfl
theorem UN:cop [] .eq (.int a) (.int b)=some (decide (a=b)):=by
 show some (a==b)=_
 congr 1
theorem UO:cop [] .ne (.int a) (.int b)=some (!decide (a=b)):=by
 show some (!(a==b))=_
 congr 1
theorem QI:cop [] .isn v .non=some (pY v):=by cases v<;>rfl
theorem QJ:cop [] .ntn v .non=some (!pY v):=by cases v<;>rfl
theorem D8:c8 [] (.bl t)=some t:=rfl
theorem QK:c8 [] (.int a)=some (a != 0):=rfl
theorem QL:c8 [] (.rl vs)=some (!vs.isEmpty):=rfl
theorem QM:c8 [] (.tup vs)=some (!vs.isEmpty):=rfl
theorem QN:fH .len [.rl vs]=.ok (true,.int vs.length):=rfl
theorem QO:fH .len [.tup vs]=.ok (true,.int vs.length):=rfl
theorem QS:fH .min [.int a,.int b]=.ok (true,.int (if b<a then b else a)):=rfl
theorem QT:fH .max [.int a,.int b]=.ok (true,.int (if b>a then b else a)):=rfl
theorem MW:fH .min [.tup [.int a,.int b]]=.ok (true,.int (min a b)):=rfl
theorem MX:fH .max [.tup [.int a,.int b]]=.ok (true,.int (max a b)):=rfl
theorem MY:fH .list [.rl vs]=.ok (bw vs,.rl vs):=rfl
theorem MZ:fH .list [.tup vs]=.ok (bw vs,.rl vs):=rfl
theorem Io:fH .tuple [.rl vs]=.ok (bw vs,.tup vs):=rfl
theorem QU:fH .int [.bl t]=.ok (true,.int (if t=true then 1 else 0)):=rfl
theorem n6(h:jU vs a=some v):gC [] (.rl vs) (.int a)=some v:=h
theorem jo(h:jU vs a=some v):gC [] (.tup vs) (.int a)=some v:=h
end
theorem wQ:jU (v::vs) (0:Int)=some v:=by
 have:=jB (xs:=v::vs) (j:=0) (v:=v) rfl;exact this
theorem yJ:jU (u::v::vs) (1:Int)=some v:=by
 have:=jB (xs:=u::v::vs) (j:=1) (v:=v) rfl;exact this
theorem nk{T:String}{t:String}(h1:vW [] v=some t)(h2:vX T t=some true):fH (.isin T) [v]=.ok (true,.bl true):=by
 show pb (pl (vW [] v)) _=_;rw[h1,gu,aU,h2];rfl
theorem yK{T:String}{t:String}(h1:vW [] v=some t)(h2:vX T t=some false):fH (.isin T) [v]=.ok (true,.bl false):=by
 show pb (pl (vW [] v)) _=_;rw[h1,gu,aU,h2];rfl
theorem eq_self(h:toD 16 [] d=some p)(hp:p.canLay0=true):cop [] .eq d d=some true:=by
 simp only[cop,zy,h,bind_some];rw[SeqAt.eqv_refl p hp]
theorem ne_self(h:toD 16 [] d=some p)(hp:p.canLay0=true):cop [] .ne d d=some false:=by
 simp only[cop,zy,h,bind_some];rw[SeqAt.eqv_refl p hp];rfl
theorem QV:gG .seq [.tup vs]=some vs:=rfl
theorem gX:gG .seq [.rl vs]=some vs:=rfl
theorem M0:DK .seq ds=gG .seq ds:=rfl
theorem M1:DK .range ds=gG .range ds:=rfl
theorem M3:DK .enum ds=gG .enum ds:=rfl
theorem D9:gG .enum [.rl vs]=some (bW 0 vs):=rfl
theorem sY{lo hi:Option Int}:BF (.rl vs) lo hi=.ok (bw (dM vs lo hi),.rl (dM vs lo hi)):=rfl
theorem bM{i:Nat}:cY (.one i) d env=some (env.set i (some (.sh,d))):=rfl
theorem Ea{i j:Nat}:cY (.tup [i,j]) (.tup [d,e]) env=some ((env.set i (some (.sh,d))).set j (some (.sh,e))):=rfl
theorem gY{α β:Type}(f:α -> β)(ds:List α)(lo hi:Option Int):dM (ds.map f) lo hi=(dM ds lo hi).map f:=by
 unfold dM;simp only[length_map,List.map_take,List.map_drop]
theorem nq:∀(i:Nat) (ds:List Val),(bW i ds).length=ds.length
 |_,[]=>rfl
 |i,d::r=>by rw[bW,aaC,nq (i+1) r,aaC]
theorem gZ{α β γ:Type}{f:β -> Option γ}{g:α -> β}{k:α -> γ}:∀(xs:List α),(∀x∈xs,f (g x)=some (k x))->cG f (xs.map g)=some (xs.map k)
 |[],_=>rfl
 | x::r,h=>by
  rw[aap,cG,h x aad,gZ r λy hy=>h y (Z6 _ hy)];rfl
theorem ints_map(xs:List Int):aW (xs.map .int)=some xs:=by
 have:=gZ (f:=λv=>match v with|.int i=>some i|_=>none) (g:=Val.int) (k:=id) xs λ_ _=>rfl;rw[map_id]at this;exact this
theorem yL(oY:List (List Int))(h:∀k∈oY,k≠[])(hl:oY.length<64):fY (oY.map kF)=some ((lI oY).map kF):=by
 unfold fY;rw[aae (by rw[Z8];exact hl)];cases oY with
 |nil=>rfl
 |cons k r=>
  have e:aW (List.map kF (k::r))=none:=by unfold aW ;rw[aap,cG];rfl
  rw[e];have e2:ki (List.map kF (k::r))=some (k::r):=by
   have:=gZ (f:=λv=>match v with|.tup vs=>if vs.isEmpty then none else aW vs|_=>none) (g:=kF) (k:=id) (k::r) λx hx=>by
    have hx:=h x hx;show (if (x.map Val.int).isEmpty=true then none else aW (x.map .int))=some x;rw[aac (by simpa using hx),ints_map]
   rw[map_id]at this;exact this
  show (ki (List.map kF (k::r))).bind _=_;rw[e2];rfl
theorem yM{α:Type}(xs:List α):cH (xs.map λ_=>Val.bl true)=some (xs.map λ_=>true):=gZ (g:=λ_=>Val.bl true) (k:=λ_=>true) xs λ_ _=>rfl
theorem all_true{α:Type}(xs:List α):fH .all [.rl (xs.map λ_=>Val.bl true)]=.ok (true,.bl true):=by
 show pb (pl (cH _)) _=_;rw[yM,gu,aU]
 congr 3
 simp
theorem mq(s:String):PyData.strOk (Str.ofString s)=true:=by
 have:=PyProof.Rows.signs_ofString s;unfold PyData.strOk;rw[<-Array.all_toList,this,abH];intro c hc;obtain⟨d,_,rfl⟩:=acy.mp hc;have:=d.valid;simp only[decide_eq_true_eq];show d.val.toNat<1114112;unfold UInt32.isValidChar Nat.isValidChar at this;omega
theorem yN{α:Type}{n:Nat}(f:α -> Val)(g:α -> PyData)(xs:List α)(e:∀x∈xs,toD n h (f x)=some (g x)):toD (n+1) h (.rl (xs.map f))=some (.list (xs.map g)):=by
 show (cG (toD n h) _).bind _=_;rw[gZ xs e];rfl
theorem Ip{α:Type}{n:Nat}(f:α -> Val)(g:α -> PyData)(xs:List α)(e:∀x∈xs,toD n h (f x)=some (g x)):toD (n+1) h (.tup (xs.map f))=some (.tuple (xs.map g)):=by
 show (cG (toD n h) _).bind _=_;rw[gZ xs e];rfl
theorem wR{n:Nat}(ks:List Int):toD (n+2) h (kF ks)=some (.tuple (ks.map .int)):=Ip _ _ ks λ_ _=>rfl
theorem eO{α:Type}(g:α -> PyData):∀(xs:List α),(∀x∈xs,(g x).canLay0=true)->PyData.canLayAll0 (xs.map g)=true
 |[],_=>by simp[PyData.canLayAll0]
 | x::r,h=>by
  rw[aap,PyData.canLayAll0,h x aad,eO g r λy hy=>h y (Z6 _ hy)];rfl
theorem jP{α:Type}(enc:α -> Val)(Q:List α -> bg->Prop):∀(us done:List α) (env:bg),Q done env->(∀(pre:List α) (u:α) (post:List α) (env:bg),done++us=pre++u::post->Q pre env->∃env',body (enc u) env=.ok (.nx env')/\Q (pre++[u]) env')->∃env',fO body (us.map enc) env=.ok (.nx env')/\Q (done++us) env'
 |[],done,env,q,_=>⟨env,rfl,by rw[aaJ];exact q⟩
 | x::xs,done,env,q,h=>by
  obtain⟨env',e,q'⟩:=h done x xs env rfl q;have eq:done++x::xs=done++[x]++xs:=by simp
  obtain⟨gF,e2,q2⟩:=jP enc Q xs (done++[x]) env' q' (by rw[<-eq];exact h);refine⟨gF,?_,by rw[eq];exact q2⟩;rw[aap,fO,e,aU];exact e2
theorem nt{α:Type}(enc:α -> Val){us:List α}{xY:bg}{β:Type}{k:DM->Pr β}(G:Pr β -> Prop)(Q:List α -> bg->Prop)(h0:Q [] xY)
  (step:∀(pre:List α) (u:α) (post:List α) (env:bg),us=pre++u::post->Q pre env->∃env',body (enc u) env=.ok (.nx env')/\Q (pre++[u]) env')
  (post:∀env',Q us env'->G (k (.nx env'))):G (pb (fO body (us.map enc) xY) k):=by
 obtain⟨env',e,q⟩:=jP enc Q us [] xY h0 (λpre x post env ep q=>step pre x post env ep q);rw[e,aU];exact post env' q
abbrev jY(xs:List Int)(g:Int->Val):Val:=.dc (xs.map Sum.inl) (xs.map g)
def uU(g:Int->Val)(x:Int)(v:Val):Int->Val:=λy=>if y=x then v else g y
theorem Eb(xs:List Int)(g:Int->Val):(xs.map (Sum.inl:Int->Key)).zip (xs.map g)=xs.map λx=>((Sum.inl x:Key),g x):=by
 induction xs with
 |nil=>rfl
 |cons x r ih=>simp only[map_cons,List.zip_cons_cons,ih]
theorem JJ{xs:List Int}{x:Int}:cop [] .xK (.int x) (jY xs g)=some (decide (x∈xs)):=by
 show some ((xs.map (Sum.inl:Int->Key)).any λj=>decide (j=Sum.inl x))=_
 congr 1
 induction xs with
 |nil=>rfl
 |cons y r ih=>
  rw[aap,abA,ih]
  by_cases e:y=x
  ·subst e;simp
  ·have e':¬ x=y:=λh=>e h.symm;simp[e,e']
theorem Ec(xs:List Int)(g:Int->Val)(x:Int):((xs.map λx=>((Sum.inl x:Key),g x)).any λkv=>decide (kv.1=Sum.inl x))=decide (x∈xs):=by
 induction xs with
 |nil=>rfl
 |cons y r ih=>
  rw[aap,abA,ih]
  by_cases e:y=x
  ·subst e;simp
  ·have e':¬ x=y:=λh=>e h.symm;simp[e,e']
theorem Iq{xs:List Int}{x:Int}(h:x∈xs):putD (xs.map Sum.inl) (xs.map g) (.inl x) v=jY xs (uU g x v):=by
 unfold putD eF;rw[Eb,Ec,aae (by simpa using h)];unfold jY;rw[abv,abv]
 congr 1
 ·refine aa9 λy _=>?_
  show ((if (Sum.inl y:Key)=Sum.inl x then ((Sum.inl y:Key),v) else (Sum.inl y,g y)).1)=_
  split<;>rfl
 ·rw[abv,abv]
  refine aa9 λy _=>?_;show ((if (Sum.inl y:Key)=Sum.inl x then ((Sum.inl y:Key),v) else (Sum.inl y,g y)).2)=_;unfold uU
  by_cases e:y=x
  ·rw[aae (by rw[e]),aae e]
  ·rw[aac (by simpa using e),aac e]
theorem Am{xs:List Int}{x:Int}(h:x∉xs):putD (xs.map Sum.inl) (xs.map g) (.inl x) v=jY (xs++[x]) (uU g x v):=by
 unfold putD eF;rw[Eb,Ec,aac (by simpa using h)];unfold jY;simp only[List.map_append,map_map,map_cons,map_nil]
 congr 1
 congr 1
 ·refine aa9 λy hy=>?_;show g y=uU g x v y;unfold uU;rw[aac (λe:y=x=>h (e▸hy))]
 ·simp[uU]
theorem nu{xs:List Int}(h:∀x∈xs,g x=g' x):jY xs g=jY xs g':=by
 unfold jY;rw[aa9 h]
theorem QW{x:Int}:keyOf (.int x)=some (.inl x):=rfl
theorem Ir(a b:Int):PyData.eqv (.int a) (.int b)=decide (a=b):=by
 show (a==b)=_
 by_cases h:a=b<;>simp[h]
theorem QX{xs:List Int}{x:Int}:cop [] .xK (.int x) (.rl (xs.map .int))=some (decide (x∈xs)):=by
 show (toD 16 [] (.rl (xs.map .int))).bind _=_;rw[yN Val.int PyData.int xs λ_ _=>rfl];show some ((xs.map PyData.int).any λy=>PyData.eqv y (.int x))=_
 congr 1
 induction xs with
 |nil=>rfl
 |cons y r ih=>
  rw[aap,abA,ih,Ir]
  by_cases e:y=x
  ·subst e;simp
  ·have e':¬ x=y:=λh=>e h.symm;simp[e,e']
theorem wU(x:Int):∀(ns ks:List Int),x∈aV ks ns↔x∈ks\/x∈ns
 |[],ks=>by simp[aV]
 | k::r,ks=>by
  rw[aV,wU x r,iU]
  split
  ·rename_i h
   constructor
   ·rintro(h'|h')
    ·exact .inl h'
    ·exact .inr (Z6 _ h')
   ·rintro(h'|h')
    ·exact .inl h'
    ·rcases aal.mp h' with h'|h'
     ·exact .inl (h'▸h)
     ·exact .inr h'
  ·simp[or_assoc]
theorem kK:∀(ns ks:List Int),ks.Nodup->(aV ks ns).Nodup
 |[],ks,h=>h
 | k::r,ks,h=>by
  rw[aV];refine kK r _ ?_;rw[iU]
  split
  ·exact h
  ·rename_i hk;rw[abC];exact⟨h,by simp,λa ha b hb=>by simp at hb;subst hb;exact λe=>hk (e▸ha)⟩
def fX(ns:List Int):List Int:=sortI (aV [] ns)
theorem wV(x:Int)(ns:List Int):x∈fX ns↔x∈ns:=by
 unfold fX;rw[(abu _).mem_iff,wU];simp
theorem yO(ns:List Int):(fX ns).Nodup:=by
 unfold fX;rw[(abu _).nodup_iff];exact kK ns [] abE
abbrev T3:=Int×Int×Int
def l3(t:T3):List Int:=[t.1,t.2.1,t.2.2]
def aq(t:T3):Val:=.tup [.int t.1,.int t.2.1,.int t.2.2]
def BJ(x:T3):List T3->List T3
 |[]=>[x]
 |y::r=>if HT.lexLt (l3 y) (l3 x)=true then y::BJ x r else x::y::r
def f9:List T3->List T3
 |[]=>[]
 |x::r=>BJ x (f9 r)
theorem wW(x:T3):∀l:List T3,uy (l3 x) (l.map l3)=(BJ x l).map l3
 |[]=>rfl
 | y::r=>by
  rw[aap,uy,BJ]
  split
  ·rw[aap,wW x r]
  ·rfl
theorem sZ:∀l:List T3,lI (l.map l3)=(f9 l).map l3
 |[]=>rfl
 |x::r=>by rw[aap,lI,sZ r,wW];rfl
theorem tu(x:T3):∀l:List T3,(BJ x l).Perm (x::l)
 |[]=>.refl _
 | y::r=>by
  rw[BJ]
  split
  ·exact((tu x r).cons y).trans (List.Perm.swap ..)
  ·exact .refl _
theorem gb:∀l:List T3,(f9 l).Perm l
 |[]=>.refl _
 |x::r=>(tu x _).trans ((gb r).cons x)
theorem Iu(ts:List T3)(hl:ts.length<64):fY (ts.map aq)=some ((f9 ts).map aq):=by
 have e:∀us:List T3,us.map aq=(us.map l3).map kF:=λus=>by rw[abv];rfl
 rw[e,yL _ (λk hk=>by obtain⟨t,_,rfl⟩:=acy.mp hk;simp[l3]) (by rw[Z8];exact hl),sZ,e]
theorem wX(hl:ts.length<64):fH .sorted [.rl (ts.map aq)]=.ok (true,.rl ((f9 ts).map aq)):=by
 show pb (pl (fY _)) _=_;rw[Iu ts hl];rfl
def turnT(t:T3):T3:=(t.1,if t.2.2<t.2.1 then t.2.2 else t.2.1,if t.2.2>t.2.1 then t.2.2 else t.2.1)
def gK(p q:Int)(ts:List T3):Val:=.tup [.tup [.int p,.int q],.rl (ts.map aq)]
theorem Iv(p q:Int)(ts:List T3):cop [] .ne (gK p q ts) (gK p q ts)=some false:=by
 have h1:toD 15 [] (.tup [.int p,.int q])=some (.tuple [.int p,.int q]):=rfl;have h2:toD 15 [] (.rl (ts.map aq))=some (.list (ts.map λt=>.tuple ((l3 t).map .int))):=yN aq _ ts λt _=>wR (l3 t);have h:toD 16 [] (gK p q ts)=some (.tuple [.tuple [.int p,.int q],.list (ts.map λt=>.tuple ((l3 t).map .int))]):=by show (cG (toD 15 []) _).bind _=_;rw[cG,h1,cG,h2,cG];rfl
 refine ne_self h ?_;have hi:∀xs:List Int,PyData.canLayAll0 (xs.map PyData.int)=true:=λxs=>eO _ _ λ_ _=>by rw[PyData.canLay0]
 have h3:PyData.canLayAll0 (ts.map λt=>.tuple ((l3 t).map .int))=true:=eO _ _ λt _=>by rw[PyData.canLay0];exact hi _
 have h4:=hi [p,q];simp only[map_cons,map_nil]at h4;rw[PyData.canLay0,PyData.canLayAll0,PyData.canLay0,h4,PyData.canLayAll0,PyData.canLay0,h3,PyData.canLayAll0];rfl
theorem An{i j k:Nat}:cY (.tup [i,j,k]) (aq t) env=some (((env.set i (some (.sh,.int t.1))).set j (some (.sh,.int t.2.1))).set k (some (.sh,.int t.2.2))):=rfl
theorem BK{α:Type}(ds:List α)(lo:Int)(n:Nat)(h:0<=lo):(dM ds (some lo) (some (lo+n))).length<=n:=by
 unfold dM HT.dI;dsimp only;rw[aac (by omega),aac (by omega)];simp only[List.length_take,List.length_drop];omega
theorem M4:BF (aq t) (some 1) none=.ok (true,.tup [.int t.2.1,.int t.2.2]):=rfl
theorem qz{α:Type}(enc:α -> Val)(g:α -> FV):∀(us:List α),(∀u∈us,f (enc u)=.ok (some (g u)))->kq f (us.map enc)=.ok (us.all λu=>(g u).1,us.map λu=>(g u).2)
 |[],_=>rfl
 | x::xs,h=>by
  rw[aap,kq,h x aad,aU,qz enc g xs λy hy=>h y (Z6 _ hy),aU];rfl
theorem eT{α:Type}(enc dec:α -> Val)(us:List α)(h:∀u∈us,f (enc u)=.ok (some (true,dec u))):kq f (us.map enc)=.ok (true,us.map dec):=by
 rw[qz enc (λu=>(true,dec u)) us h];simp
end Hv
end
section
namespace Hv
open PySem L2 PyProof.Rows
def yP(b:List Stmt)(g:Str):Prop:=∃p1 p2 p3 p4,b=[.Assign [.Attribute (.Name "self" p1) g p2] (.Name g p3) p4]
section
variable {P:Program} {w:World} {K:Frag} {cl:Nat->Addr} {mg:Str->Option Value} {base:Heap} {k:Nat} {fs:List Row} {cons:List (Str×Val)} {tb:Tb}
theorem nv{x qual g:Str}{st:Stmt}{f:Addr}{fd:FuncData}(F:Cw K x qual st f fd)(hS:aP ["self",g] ["self",g] (af st)=true)(hg:g ≠ "self")(hb:yP (aD st) g)(hd:(g==("__debug__":Str))=false)(hcd:(g==("__classdict__":Str))=false):dH P w K mg base zg (k+1) f fd ["self",g] (vQ K g):=by
 have S:=lW hS;obtain⟨p1,p2,p3,p4,hb⟩:=hb;refine F.ok S (λvs H Q E h=>?_) (λcdv A' outer s H vs Q E hr h=>?_)
 ·obtain⟨e,y,C,D,t,cd,rfl,_⟩:=h;rfl
 ·rw[hb]
  refine⟨_,t6 (KW (gx (i:=0) rfl ?_ (by decide) (by decide)) (gx (i:=1) rfl ?_ hd hcd) rfl),?_⟩
  ·rcases S.par "self" (by simp) with z|z
   ·exact .inl z
   ·exact .inr (.inl z)
  ·rcases S.par g (by simp) with z|z
   ·exact .inl z
   ·exact .inr (.inl z)
  ·obtain⟨e,y,C,D,t,cd,rfl,he,c,n,q⟩:=h;exact⟨y,rfl,.ref e,rfl,e,C,D,t,cd,rfl,he,c,n,q⟩
end
def M5(x:Str)(e:Expr):Prop:=∃p1 p2 p3 p4,e=.Call (.Name "isinstance" p1) [.Name "_law_e" p2,.Name x p3] [] p4
def Ed:List Str->List Expr->Prop
 |[],es=>es=[]
 |x::xs,es=>∃e r,es=e::r/\M5 x e/\Ed xs r
def bH(K:Frag)(C:Addr):List Addr->List Bool->Prop
 |[],bs=>bs=[]
 |c::cs,bs=>∃b r,bs=b::r/\kitOne K (.ref C) (.ref c)=some b/\bH K C cs r
theorem kits_cons{K:Frag}{C c:Addr}{cs:List Addr}{b:Bool}{bs:List Bool}(h:kitOne K (.ref C) (.ref c)=some b)(k:bH K C cs bs):bH K C (c::cs) (b::bs):=⟨b,bs,rfl,h,k⟩
theorem kits_nil{K:Frag}{C:Addr}:bH K C [] []:=rfl
def kL(mg:Str->Option Value):List Str->List Addr->Prop
 |[],cs=>cs=[]
 |x::xs,cs=>∃c r,cs=c::r/\mg x=some (.ref c)/\kL mg xs r
abbrev UP:List Str:=["NoNumber","Twice","BadRow","NotThere"]
abbrev UQ:List Str:=["OtherTurn","Over","TooMany"]
abbrev UR:List Str:=["TooBig","NoPaper","NoDeed"]
abbrev QY:List Str:=["isinstance","ValueError","NetError","BadLine","NoNumber","Twice","BadRow","NotThere","OtherTurn","Over","TooMany","TooBig","NoPaper","NoDeed"]
def M6(b:List Stmt):Prop:=∃(l1 l2 l3:List Expr) (e4 e5 e6:Expr) (a0 a1 a2 a3 a4 a5 a6 a7 a8 a9 b0 b1 b2 b3 b4 b5 b6 US:Pos) (p5 p6 p7 p8:Pos),b =
 [.Assign [.Name "_law_kinds_here" a0] (.List l1 a1) a2,.Assign [.Name "_law_kinds_here" a3] (.BinOp (.Name "_law_kinds_here" a4) .Add (.List l2 a5) a6) a7,.Assign [.Name "_law_kinds_here" a8] (.BinOp (.Name "_law_kinds_here" a9) .Add (.List l3 b0) b1) b2,
   .Return (some (.BinOp (.Name "_law_kinds_here" b3) .Add (.List [e4,.BoolOp .And [e5,.Call (.Name "isinstance" p5) [.Name "_law_e" p6,.Name "ValueError" p7] [] p8] b6] b4) b5)) US]/\Ed UP l1/\Ed UQ l2/\Ed UR l3/\M5 "BadLine" e4/\M5 "NetError" e5
theorem qA:bootBuiltins "isinstance" = some (.builtin "isinstance"):=by decide +kernel
theorem Ef:bootBuiltins "ValueError" = some (.type "ValueError"):=by decide +kernel
section
variable {X:Cx}
structure BL (X:Cx):Prop where
 N:X.N=(["_law_e","_law_kinds_here"]:List Str)
 l0:X.env.scope.names.lookup ("_law_e":Str)=some .local
 l1:X.env.scope.names.lookup ("_law_kinds_here":Str)=some .local
 gl:∀x∈QY,X.env.scope.names.lookup x=some .globalImplicit
 mi:X.mg "isinstance" = none
 mv:X.mg "ValueError" = none
def Wj(K:Frag)(cv:Value):TE:=λσ H Q=>∃x C b,σ[0]?=some (some x)/\GB K H x C/\kitOne K (.ref C) cv=some b/\Q (.bl b) H
theorem BL.ev(k:BL X)(p:Pos):PE X (.Name "_law_e" p) (B3 0):=gx (by rw[k.N];rfl) (.inl k.l0) (by decide) (by decide)
theorem Eg(k:BL X)(hI:M5 x e)(hx:x∈QY)(hm:X.mg x=some (.ref c))(hd:(x==("__debug__":Str))=false):PE X e (Wj X.K (.ref c)):=by
 obtain⟨p1,p2,p3,p4,rfl⟩:=hI;refine(cA (pos:=p4) (p:=p1) lG (k.gl _ (by simp)) k.mi qA (bh (k.ev p2) (bh (oV (pos:=p3) (v:=.ref c) (k.gl _ hx) hm rfl hd) dO (ak rfl)) (ak rfl)) (by decide) (by decide) (ak rfl) (by rw[ak rfl];rfl)).imp λσ H Q q=>?_;obtain⟨y,C,b,e0,ty,kt,q⟩:=q;exact⟨y,e0,y,.ref c,.ref c,C,b,rfl,λu z=>z,ty,kt,q⟩
theorem M7(k:BL X){p1 p2 p3 p4:Pos}:PE X (.Call (.Name "isinstance" p1) [.Name "_law_e" p2,.Name "ValueError" p3] [] p4) (Wj X.K (.type "ValueError")):=by
 refine(cA (pos:=p4) (p:=p1) lG (k.gl _ (by simp)) k.mi qA (bh (k.ev p2) (bh (tY (pos:=p3) (v:=.ty "ValueError") (k.gl _ (by simp)) k.mv Ef rfl (by decide) (by decide)) dO (ak rfl)) (ak rfl)) (by decide) (by decide) (ak rfl) (by rw[ak rfl];rfl)).imp λσ H Q q=>?_;obtain⟨y,C,b,e0,ty,kt,q⟩:=q;exact⟨y,e0,y,.ty "ValueError",.type "ValueError",C,b,rfl,λu z=>z,ty,kt,q⟩
def UT(K:Frag)(cs:List Addr):TA:=λσ H Q=>∃x C bs,σ[0]?=some (some x)/\GB K H x C/\bH K C cs bs/\Q (bs.map V.bl) H
theorem QZ(h:M5 x e):noStar e=true:=by obtain⟨_,_,_,_,rfl⟩:=h;rfl
theorem uV(k:BL X):∀{xs:List Str} {es:List Expr} {cs:List Addr},Ed xs es->kL X.mg xs cs->(∀x∈xs,x∈QY)->(∀x∈xs,(x==("__debug__":Str))=false)->PA X es (UT X.K cs)
 | [],es,cs,h,hc,_,_=>by
  obtain rfl:es=[]:=h;obtain rfl:cs=[]:=hc;refine dO.imp λσ H Q q=>?_;obtain⟨x,C,bs,_,_,kt,q⟩:=q;obtain rfl:bs=[]:=kt;exact q
 | x::xs,es,cs,h,hc,hx,hd=>by
  obtain⟨e,r,rfl,hI,h⟩:=h;obtain⟨c,cr,rfl,hm,hc⟩:=hc;refine(bh (Eg k hI (hx x aad) hm (hd x aad)) (uV k h hc (λy hy=>hx y (Z6 _ hy)) λy hy=>hd y (Z6 _ hy)) (ak (QZ hI))).imp λσ H Q q=>?_;obtain⟨y,C,bs,e0,ty,kt,q⟩:=q;obtain⟨b,br,rfl,k1,k2⟩:=kt;exact⟨y,C,b,e0,ty,k1,y,C,br,e0,ty,k2,q⟩
theorem ny{K:Frag}{H:Hp}{x:V}{C p:Addr}{o:HO}(t:GB K H x C)(hp:H p=none):GB K (upd H p o) x C:=by
 obtain⟨a,dx,rfl,⟨φ,ea,hx⟩,hd,G⟩:=t;refine⟨a,dx,rfl,⟨φ,by rw[ao (aC ea hp)];exact ea,hx⟩,?_,G⟩;cases dx with
 |none=>trivial
 |some d=>obtain⟨fs,hd⟩:=hd;exact⟨fs,by rw[ao (aC hd hp)];exact hd⟩
def Su(H H1:Hp):Prop:=(∀ρ,Gr ρ H ρ H1)/\∀B ρ h,HR B ρ h H->HR B ρ h H1
theorem nC{H H1:Hp}(f:Su H H1)(hp:H1 p=none):Su H (upd H1 p o):=⟨λρ=>(f.1 ρ).trans (Gr.side hp),λB ρ h r=>(f.2 B ρ h r).side hp⟩
theorem Eh:Su H H:=⟨λ_=>Gr.refl,λ_ _ _ r=>r⟩
theorem nD{K:Frag}{H:Hp}{a:Addr}{xs:List V}(e:H a=some (.lst xs)):fR K H a xs:=.inl (.inl e)
theorem M8(k:BL X){Q0 Q2 Q3:List Addr}{c4 c5:Addr}(hb:M6 b)(h1:kL X.mg UP Q0)(h2:kL X.mg UQ Q2)(h3:kL X.mg UR Q3)(h4:X.mg "BadLine" = some (.ref c4))(h5:X.mg "NetError" = some (.ref c5)) :
  ∃t,nM X b t/\∀(En:Ends) (H:Hp) (x:V) (C:Addr) (bs1 jq kO:List Bool) (b4:Bool),GB X.K H x C->bH X.K C Q0 bs1->bH X.K C Q2 jq->bH X.K C Q3 kO->kitOne X.K (.ref C) (.ref c4)=some b4->kitOne X.K (.ref C) (.ref c5)=some true->kitOne X.K (.ref C) (.type "ValueError")=some true ->
   bs1.length+jq.length+kO.length<=20->(∀H1 p,Su H H1->H1 p=none->En.rt (.ref p) (upd H1 p (.lst (bs1.map V.bl++jq.map V.bl++kO.map V.bl++[.bl b4,.bl true]))))->t En [some x,none] H:=by
 obtain⟨l1,l2,l3,e4,e5,e6,a0,a1,a2,a3,a4,a5,a6,a7,a8,a9,b0,b1,b2,b3,b4,b5,b6,US,p5,p6,p7,p8,rfl,i1,i2,i3,i4,i5⟩:=hb;have nd:X.N.Nodup:=by rw[k.N];decide
 have n1:X.N[1]?=some ("_law_kinds_here":Str):=by rw[k.N];rfl
 have kh:∀p,PE X (.Name "_law_kinds_here" p) (B3 1):=λp=>gx n1 (.inl k.l1) (by decide) (by decide);have st:∀p,PG X (.Name "_law_kinds_here" p) (nN 1):=λp=>gj (pos:=p) nd n1 (.inl k.l1) (.inr k.l1);have A1:=uV k i1 h1 (by decide) (by decide);have A2:=uV k i2 h2 (by decide) (by decide);have A3:=uV k i3 h3 (by decide) (by decide);have E4:=Eg k i4 (by decide) h4 (by decide);have E5:=Eg k i5 (by decide) h5 (by decide);have E6:=M7 k (p1:=p5) (p2:=p6) (p3:=p7) (p4:=p8);have S1:=eB (pos:=a2) (pC (pos:=a1) A1) (st a0) rfl rfl rfl;have S2:=eB (pos:=a7) (y9 (pos:=a6) oZ (kh a4) (pC (pos:=a5) A2)) (st a3) rfl rfl rfl;have S3:=eB (pos:=b2) (y9 (pos:=b1) oZ (kh a9) (pC (pos:=b0) A3)) (st a8) rfl rfl rfl;have S4:=B8 (pos:=US) (y9 (pos:=b5) oZ (kh b3) (pC (pos:=b4) (bh E4 (bh (tZ (pos:=b6) E5 (pe E6)) dO (ak rfl)) (ak (QZ i4)))));refine⟨_,cz S1 (cz S2 (cz S3 (t6 S4))),λEn H x C bs1 jq kO b4 ty k1 k2 k3 k4 k5 k6 hl h=>?_⟩;have big:(100:Nat)<=sizeLine:=by decide
 have m1:(bs1.map V.bl).length=bs1.length:=Z8 ..;have m2:(jq.map V.bl).length=jq.length:=Z8 ..;have m3:(kO.map V.bl).length=kO.length:=Z8 ..;have step:∀{H0:Hp} {p:Addr} {L:List V},H0 p=none->∃H1,H1=upd H0 p (.lst L)/\H1 p=some (.lst L)/\(∀q o,H0 q=some o->H1 q=some o):=λ{H0 p L} hp=>⟨_,rfl,au,λq o e=>by rw[ao (aC e hp)];exact e⟩;refine⟨x,C,bs1,rfl,ty,k1,by omega,λq1 z1=>?_⟩;have f1:=nC (o:=.lst (bs1.map V.bl)) Eh z1;have t1:=ny (o:=.lst (bs1.map V.bl)) ty z1;obtain⟨H1,g1,E1,_⟩:=step (L:=(bs1.map V.bl)) z1;rw[<-g1]at f1 t1;rw[<-g1];refine⟨.ref q1,rfl,x,C,jq,rfl,t1,k2,by omega,λq2 z2=>?_⟩;have f2:=nC (o:=.lst (jq.map V.bl)) f1 z2;have t2:=ny (o:=.lst (jq.map V.bl)) t1 z2;obtain⟨H2,g2,E2,K2⟩:=step (L:=(jq.map V.bl)) z2;rw[<-g2]at f2 t2;refine⟨q1,q2,(bs1.map V.bl),(jq.map V.bl),rfl,rfl,nD (by rw[<-g2];exact K2 _ _ E1),nD au,by omega,?_⟩;rw[<-g2];intro q3 z3;have f3:=nC (o:=.lst ((bs1.map V.bl)++(jq.map V.bl))) f2 z3;have t3:=ny (o:=.lst ((bs1.map V.bl)++(jq.map V.bl))) t2 z3;obtain⟨H3,g3,E3,K3⟩:=step (L:=(bs1.map V.bl)++(jq.map V.bl)) z3;rw[<-g3]at f3 t3;rw[<-g3];refine⟨.ref q3,rfl,x,C,kO,rfl,t3,k3,by omega,λq4 z4=>?_⟩;have f4:=nC (o:=.lst (kO.map V.bl)) f3 z4;have t4:=ny (o:=.lst (kO.map V.bl)) t3 z4;obtain⟨H4,g4,ZX,K4⟩:=step (L:=(kO.map V.bl)) z4;rw[<-g4]at f4 t4;refine⟨q3,q4,(bs1.map V.bl)++(jq.map V.bl),(kO.map V.bl),rfl,rfl,nD (by rw[<-g4];exact K4 _ _ E3),nD au,by rw[aao];omega,?_⟩;rw[<-g4];intro q5 z5;have f5:=nC (o:=.lst ((bs1.map V.bl)++(jq.map V.bl)++(kO.map V.bl))) f4 z5;have t5:=ny (o:=.lst ((bs1.map V.bl)++(jq.map V.bl)++(kO.map V.bl))) t4 z5;obtain⟨H5,g5,Yc,K5⟩:=step (L:=(bs1.map V.bl)++(jq.map V.bl)++(kO.map V.bl)) z5;rw[<-g5]at f5 t5;rw[<-g5];refine⟨.ref q5,rfl,x,C,b4,rfl,t5,k4,x,C,true,rfl,t5,k5,true,rfl,?_⟩;rw[aae rfl];refine⟨x,C,true,rfl,t5,k6,by show 2<=_;omega,λq6 z6=>?_⟩;have f6:=nC (o:=.lst [.bl b4,.bl true]) f5 z6;obtain⟨H6,g6,ZY,K6⟩:=step (L:=[.bl b4,.bl true]) z6;rw[<-g6]at f6;refine⟨q5,q6,(bs1.map V.bl)++(jq.map V.bl)++(kO.map V.bl),[.bl b4,.bl true],rfl,rfl,nD (by rw[<-g6];exact K6 _ _ Yc),nD au,by rw[aao,aao];show _+2<=_;omega,?_⟩;rw[<-g6];exact λq7 z7=>h H6 q7 f6 z7
end
def M9(tab:Nat->Option (List Bool)):List Val->M Val
 |[.int c]=>(match tab c.toNat with|some bs=>new (.lst (bs.map .bl))|none=>λ_=>.no)
 |_=>λ_=>.no
theorem Ei{K:Frag}{ρ:List Addr}{H:Hp}:∀bs:List Bool,av K ρ H (bs.map Val.bl) (bs.map V.bl)
 |[]=>av.nil
 |b::bs=>av.cons VR.bl (Ei bs)
section
variable {P:Program} {w:World} {K:Frag} {cl:Nat->Addr} {mg:Str->Option Value} {base:Heap} {k:Nat}
theorem Na{x qual:Str}{st:Stmt}{f:Addr}{fd:FuncData}{tab:Nat->Option (List Bool)}{Q0 Q2 Q3:List Addr}{c4 c5:Addr}(F:Cw K x qual st f fd)(hS:aP ["_law_e","_law_kinds_here"] ["_law_e"] (af st)=true)(hb:M6 (aD st))
  (Yd:(af st).names.lookup ("_law_e":Str)=some .local) (hl1:(af st).names.lookup ("_law_kinds_here":Str)=some .local) (UU:∀x∈QY,(af st).names.lookup x=some .globalImplicit) (mi:mg "isinstance" = none) (mv:mg "ValueError" = none)
  (h1:kL mg UP Q0) (h2:kL mg UQ Q2) (h3:kL mg UR Q3) (h4:mg "BadLine" = some (.ref c4)) (h5:mg "NetError" = some (.ref c5))
  (KH:∀c bs,tab c=some bs->fc K (cl (1000+c))/\∃bs1 jq kO b4,bs=bs1++jq++kO++[b4,true]/\bs1.length+jq.length+kO.length<=20/\bH K (cl (1000+c)) Q0 bs1/\bH K (cl (1000+c)) Q2 jq/\bH K (cl (1000+c)) Q3 kO/\kitOne K (.ref (cl (1000+c))) (.ref c4)=some b4/\kitOne K (.ref (cl (1000+c))) (.ref c5)=some true/\kitOne K (.ref (cl (1000+c))) (.type "ValueError")=some true) :
  dH P w K mg base zg (k+1) f fd ["_law_e"] (Jz ⟨K,cl⟩ (M9 tab)):=by
 have S:=lW hS;refine F.ok S (λvs H Q E h=>?_) (λcdv A' outer s H vs Q E hr h=>?_)
 ·obtain⟨ρ,h,a,c,dx,rfl,_⟩:=h;rfl
 ·obtain⟨t,ht,hq⟩:=M8 (X:=(fS zg P w K mg base ["_law_e","_law_kinds_here"] qual (af st) f cdv A' outer s H E).Ff) ⟨rfl,Yd,hl1,UU,mi,mv⟩ hb h1 h2 h3 h4 h5
  refine⟨t,ht,?_⟩;obtain⟨ρ,h,a,c,dx,rfl,ob,xd,r,p⟩:=h;have p:Post ⟨K,cl⟩ NX ρ H (WV K Q) ((match tab ((c:Int).toNat) with|some bs=>new (.lst (bs.map .bl))|none=>λ_=>.no) h):=p;rw[Int.toNat_natCast]at p;cases et:tab c with
  |none=>rw[et]at p;exact p.elim
  |some bs=>
   rw[et]at p;have p:Post ⟨K,cl⟩ NX ρ H (WV K Q) (new (.lst (bs.map .bl)) h):=p;obtain⟨G,bs1,jq,kO,b4,rfl,hl,k1,k2,k3,k4,k5,k6⟩:=KH c bs et;refine hq _ H (.ref a) (cl (1000+c)) bs1 jq kO b4 ⟨a,dx,rfl,ob,xd,G⟩ k1 k2 k3 k4 k5 k6 hl λH1 q f z=>?_;have e:bs1.map V.bl++jq.map V.bl++kO.map V.bl++[.bl b4,.bl true]=(bs1++jq++kO++[b4,true]).map V.bl:=by simp
   rw[e];exact dF (f.2 _ _ _ r) z (Ei _) (p.up (f.1 ρ))
end
def Ej(tab:Nat->Option (List Bool)):List Val->Pr FV
 |[.int c]=>(match tab c.toNat with|some bs=>.ok (true,.rl (bs.map .bl))|none=>.no)
 |_=>.no
theorem uW:∀bs:List Bool,bw (bs.map Val.bl)=true
 |[]=>rfl
 |b::bs=>by rw[aap,bw,uW bs];rfl
theorem Iw:Imp (M9 tab) (Ej tab):=λA h ds vs u q=>by
 have l:=q.length;unfold Ej
 split
 ·rename_i c
  match vs,l,q with
  |[v],_,q=>
   have e:v=.int c:=by obtain⟨y,r,z,q2,_⟩:=q;cases z;rw[Dn]at q2;exact q2
   subst e;show Rel A h (RV A h) ((match tab c.toNat with|some bs=>new (.lst (bs.map .bl))|none=>λ_=>.no) h) _;cases et:tab c.toNat with
   |none=>trivial
   |some bs=>exact gr u (aar _) ((bu _ _ (uW bs)).mpr rfl) λ_=>(bu _ _ (uW bs)).mpr rfl
 ·trivial
abbrev Iz:List Str:=["_law_poles_here","_law_ties_here","_law_word","_law_what","_law_plain","_law_e"]
abbrev Nb:List Str:=["isinstance","ValueError","NetError","NoNumber","Twice","TooMany","NotThere","Over","BadRow","TooBig","net_of"]
def UW:List Str->List Expr->Prop
 |[],es=>es=[]
 |x::xs,es=>∃p r,es=.Name x p::r/\UW xs r
def UX(b:List Stmt)(xs:List Str):Prop:=∃(es:List Expr) (e1:Expr) (a0 a1 a2 a3 a4 a5 a6 a7 a8 a9 b0 b1 b2 b3 b4 b5:Pos) (k:Nat),b =
 [.Assign [.Name "_law_plain" a0] (.BoolOp .And [e1,.Call (.Name "isinstance" a1) [.Name "_law_e" a2,.Name "ValueError" a3] [] a4] a5) a6,
   .Assign [.Name "_law_plain" a7] (.BoolOp .And [.Name "_law_plain" a8,.UnaryOp .Not (.Call (.Name "isinstance" a9) [.Name "_law_e" b0,.Tuple es k b1] [] b2) b3] b4) b5]/\M5 "NetError" e1/\UW xs es
def UY(b:List Stmt)(W g:Str)(xs:List Str):Prop:=∃(r:List Stmt) (a0 a1 a2 a3 a4 a5 a6:Pos) (k:Nat),b=.Assign [.Name "_law_word" a0] (.Constant (.str W) k a1) a2::.Assign [.Name "_law_what" a3] (.Attribute (.Name "_law_e" a4) g a5) a6::r/\UX r xs
def Wk(b:List Stmt)(W:Str)(xs:List Str):Prop:=∃(r:List Stmt) (a0 a1 a2:Pos) (k:Nat),b=.Assign [.Name "_law_word" a0] (.Constant (.str W) k a1) a2::r/\UX r xs
structure jZ (X:Cx):Prop where
 N:X.N=Iz
 l:∀x∈Iz,X.env.scope.names.lookup x=some .local
 gl:∀x∈Nb,X.env.scope.names.lookup x=some .globalImplicit
 mi:X.mg "isinstance" = none
 mv:X.mg "ValueError" = none
section
variable {X:Cx}
def Q4(K:Frag)(cv:Value):TE:=λσ H Q=>∃x C b,σ[5]?=some (some x)/\GB K H x C/\kitOne K (.ref C) cv=some b/\Q (.bl b) H
theorem jZ.nd(k:jZ X):X.N.Nodup:=by rw[k.N];decide
theorem jZ.nm(k:jZ X){i:Nat}(e:Iz[i]?=some x):X.N[i]?=some x:=by rw[k.N];exact e
theorem jZ.ev(k:jZ X)(p:Pos):PE X (.Name "_law_e" p) (B3 5):=gx (k.nm rfl) (.inl (k.l _ (by simp))) (by decide) (by decide)
theorem jZ.st(k:jZ X){i:Nat}(e:Iz[i]?=some x)(p:Pos):PG X (.Name x p) (nN i):=gj (pos:=p) k.nd (k.nm e) (.inl (k.l _ (aat e))) (.inr (k.l _ (aat e)))
theorem Nc(k:jZ X)(hI:M5 "NetError" e)(hm:X.mg "NetError" = some (.ref c)):PE X e (Q4 X.K (.ref c)):=by
 obtain⟨p1,p2,p3,p4,rfl⟩:=hI;refine(cA (pos:=p4) (p:=p1) lG (k.gl _ (by simp)) k.mi qA (bh (k.ev p2) (bh (oV (pos:=p3) (v:=.ref c) (k.gl _ (by simp)) hm rfl (by decide)) dO (ak rfl)) (ak rfl)) (by decide) (by decide) (ak rfl) (by rw[ak rfl];rfl)).imp λσ H Q q=>?_;obtain⟨y,C,b,e0,ty,kt,q⟩:=q;exact⟨y,e0,y,.ref c,.ref c,C,b,rfl,λu z=>z,ty,kt,q⟩
theorem ID(k:jZ X){p1 p2 p3 p4:Pos}:PE X (.Call (.Name "isinstance" p1) [.Name "_law_e" p2,.Name "ValueError" p3] [] p4) (Q4 X.K (.type "ValueError")):=by
 refine(cA (pos:=p4) (p:=p1) lG (k.gl _ (by simp)) k.mi qA (bh (k.ev p2) (bh (tY (pos:=p3) (v:=.ty "ValueError") (k.gl _ (by simp)) k.mv Ef rfl (by decide) (by decide)) dO (ak rfl)) (ak rfl)) (by decide) (by decide) (ak rfl) (by rw[ak rfl];rfl)).imp λσ H Q q=>?_;obtain⟨y,C,b,e0,ty,kt,q⟩:=q;exact⟨y,e0,y,.ty "ValueError",.type "ValueError",C,b,rfl,λu z=>z,ty,kt,q⟩
theorem Ek(k:jZ X):∀{xs:List Str} {es:List Expr} {cs:List Addr},UW xs es->kL X.mg xs cs->(∀x∈xs,x∈Nb)->(∀x∈xs,(x==("__debug__":Str))=false)->PA X es (λσ H Q=>Q (cs.map V.ref) H)
 | [],es,cs,h,hc,_,_=>by
  obtain rfl:es=[]:=h;obtain rfl:cs=[]:=hc;exact dO
 | x::xs,es,cs,h,hc,hx,hd=>by
  obtain⟨p,r,rfl,h⟩:=h;obtain⟨c,cr,rfl,hm,hc⟩:=hc;exact bh (oV (pos:=p) (v:=.ref c) (k.gl _ (hx x aad)) hm rfl (hd x aad)) (Ek k h hc (λy hy=>hx y (Z6 _ hy)) λy hy=>hd y (Z6 _ hy)) (ak rfl)
def Plain(K:Frag)(D:Addr)(cs:List Addr)(σ:L2.St)(H:Hp)(C:Addr):Prop:=σ.length=6/\(∃x,σ[5]?=some (some x)/\GB K H x C)/\kitOne K (.ref C) (.ref D)=some true/\kitOne K (.ref C) (.type "ValueError")=some true/\kitAny K (.ref C) (cs.map .ref)=some false
def uP(K:Frag)(D:Addr)(cs:List Addr):TS:=λEn σ H=>∃C,Plain K D cs σ H C/\∀p,H p=none->En.nx (σ.set 4 (some (.bl true))) (upd H p (.tup (cs.map V.ref)))
theorem JK(k:jZ X)(hb:UX b xs)(hc:kL X.mg xs cs)(hx:∀x∈xs,x∈Nb)(hd:∀x∈xs,(x==("__debug__":Str))=false)(hD:X.mg "NetError" = some (.ref D))(hl:cs.length<=20):nM X b (uP X.K D cs):=by
 obtain⟨es,e1,a0,a1,a2,a3,a4,a5,a6,a7,a8,a9,b0,b1,b2,b3,b4,b5,kk,rfl,i1,i2⟩:=hb;have S1:=eB (pos:=a6) (tZ (pos:=a5) (Nc k i1 hD) (pe (ID k (p1:=a1) (p2:=a2) (p3:=a3) (p4:=a4)))) (k.st (i:=4) rfl a0) rfl rfl rfl;have S2:=eB (pos:=b5) (tZ (pos:=b4) (gx (pos:=a8) (k.nm (i:=4) rfl) (.inl (k.l _ (by simp))) (by decide) (by decide)) (pe (B5 (pos:=b3) (cA (pos:=b2) (p:=a9) C5 (k.gl _ (by simp)) k.mi qA (bh (k.ev b0) (bh (Cj (pos:=b1) (x1:=kk) (Ek k i2 hc hx hd)) dO (ak rfl)) (ak rfl)) (by decide) (by decide) (ak rfl) (by rw[ak rfl];rfl))))) (k.st (i:=4) rfl a7) rfl rfl rfl;refine nM.imp (cz S1 (t6 S2)) λEn σ H q=>?_;obtain⟨C,⟨l6,⟨x,e5,ty⟩,k1,k2,k3⟩,q⟩:=q;have e5':(σ.set 4 (some (.bl true)))[5]?=some (some x):=by rw[aaa (by decide)];exact e5
 have Ye:(σ.set 4 (some (.bl true)))[4]?=some (some (.bl true)):=aak (by omega);refine⟨x,C,true,e5,ty,k1,true,rfl,?_⟩;rw[aae rfl];refine⟨x,C,true,e5,ty,k2,?_⟩;refine⟨_,Ye,true,rfl,?_⟩;rw[aae rfl];have big:(100:Nat)<=sizeLine:=by decide
 refine⟨_,e5',⟨by rw[Z8];omega,λp hp=>?_⟩⟩;refine⟨x,p,cs,C,false,rfl,au,ny ty hp,k3,false,rfl,?_⟩;show En.nx ((σ.set 4 (some (.bl true))).set 4 (some (.bl true))) _;rw[List.set_set];exact q p hp
def uA(K:Frag)(W g:Str)(D:Addr)(cs:List Addr):TS:=λEn σ H=>∃a C dx v,σ.length=6 /\ σ[5]?=some (some (.ref a))/\C4 H a C (some dx)/\H dx=some (.xd [(g,v)])/\fc K C/\findIn K (.ref C) g=some none/\kitOne K (.ref C) (.ref D)=some true/\kitOne K (.ref C) (.type "ValueError")=some true/\kitAny K (.ref C) (cs.map .ref)=some false /\
 ∀p,H p=none->En.nx (((σ.set 2 (some (.str W))).set 3 (some v)).set 4 (some (.bl true))) (upd H p (.tup (cs.map V.ref)))
def uB(K:Frag)(W:Str)(D:Addr)(cs:List Addr):TS:=λEn σ H=>∃a C dx,σ.length=6 /\ σ[5]?=some (some (.ref a))/\C4 H a C dx/\Sl H dx/\fc K C/\kitOne K (.ref C) (.ref D)=some true/\kitOne K (.ref C) (.type "ValueError")=some true/\kitAny K (.ref C) (cs.map .ref)=some false /\
 ∀p,H p=none->En.nx ((σ.set 2 (some (.str W))).set 4 (some (.bl true))) (upd H p (.tup (cs.map V.ref)))
theorem El(k:jZ X)(hb:UY b W g xs)(hc:kL X.mg xs cs)(hx:∀x∈xs,x∈Nb)(hd:∀x∈xs,(x==("__debug__":Str))=false)(hD:X.mg "NetError" = some (.ref D))(hl:cs.length<=20):nM X b (uA X.K W g D cs):=by
 obtain⟨r,a0,a1,a2,a3,a4,a5,a6,kk,rfl,hp⟩:=hb;have S1:=eB (pos:=a2) (tX (X:=X) (x:=W) (j:=kk) (pos:=a1)) (k.st (i:=2) rfl a0) rfl rfl rfl;have S2:=eB (pos:=a6) (pe_xf (f:=g) (pos:=a5) (k.ev a4) rfl) (k.st (i:=3) rfl a3) rfl rfl rfl;refine nM.imp (cz S1 (cz S2 (JK k hp hc hx hd hD hl))) λEn σ H q=>?_;obtain⟨a,C,dx,v,l6,e5,ob,ed,G,hn,k1,k2,k3,q⟩:=q;have e5':(σ.set 2 (some (.str W)))[5]?=some (some (.ref a)):=by rw[aaa (by decide)];exact e5
 refine⟨_,e5',a,C,dx,[(g,v)],v,rfl,ob,ed,G,hn,by simp,?_⟩;exact⟨C,⟨by rw[acf,acf];exact l6,⟨.ref a,by rw[aaa (by decide)];exact e5',a,some dx,rfl,ob,⟨_,ed⟩,G⟩,k1,k2,k3⟩,q⟩
theorem Nd(k:jZ X)(hb:Wk b W xs)(hc:kL X.mg xs cs)(hx:∀x∈xs,x∈Nb)(hd:∀x∈xs,(x==("__debug__":Str))=false)(hD:X.mg "NetError" = some (.ref D))(hl:cs.length<=20):nM X b (uB X.K W D cs):=by
 obtain⟨r,a0,a1,a2,kk,rfl,hp⟩:=hb;have S1:=eB (pos:=a2) (tX (X:=X) (x:=W) (j:=kk) (pos:=a1)) (k.st (i:=2) rfl a0) rfl rfl rfl;refine nM.imp (cz S1 (JK k hp hc hx hd hD hl)) λEn σ H q=>?_;obtain⟨a,C,dx,l6,e5,ob,xd,G,k1,k2,k3,q⟩:=q;exact⟨C,⟨by rw[acf];exact l6,⟨.ref a,by rw[aaa (by decide)];exact e5,a,dx,rfl,ob,xd,G⟩,k1,k2,k3⟩,q⟩
end
abbrev Wl:List Str:=["Twice","TooMany","NotThere","Over","BadRow"]
abbrev Wm:List Str:=["TooMany","NotThere","Over","BadRow"]
abbrev Wn:List Str:=["NotThere","Over","BadRow","TooBig"]
def Nf(b:List Stmt)(post:List Stmt):Prop:=∃(u1 u2 u3:List Stmt) (v1 v2 v3:Stmt) (a0 a1 a2 a3 a4 a5 a6 a7 a8 a9 b0 b1 b2 b3 c1 c2 c3 d1 d2 d3 e0:Pos) (k0 k1 k2:Nat),b =
 .Assign [.Name "_law_word" a0] (.Constant (.str "none") k0 a1) a2::.Assign [.Name "_law_what" a3] (.Constant (.int 0) k1 a4) a5::.Assign [.Name "_law_plain" a6] (.Constant (.bool true) k2 a7) a8 ::
   .Try [.Expr (.Call (.Name "net_of" a9) [.Name "_law_poles_here" b0,.Name "_law_ties_here" b1] [] b2) b3]
  [.ExceptHandler (some (.Name "NoNumber" c1)) (some "_law_e") (v1::u1) d1,.ExceptHandler (some (.Name "Twice" c2)) (some "_law_e") (v2::u2) d2,.ExceptHandler (some (.Name "TooMany" c3)) (some "_law_e") (v3::u3) d3] [] [] e0::post /\
 UY (v1::u1) "number" "number" Wl/\UY (v2::u2) "twice" "tie" Wm/\Wk (v3::u3) "many" Wn
structure Ng (K:Frag) (mg:Str->Option Value) (CN CT CM D:Addr) (csN xM xN:List Addr):Prop where
 gN:fc K CN
 gT:fc K CT
 gM:fc K CM
 mN:mg "NoNumber" = some (.ref CN)
 mT:mg "Twice" = some (.ref CT)
 mM:mg "TooMany" = some (.ref CM)
 mD:mg "NetError" = some (.ref D)
 fN:findIn K (.ref CN) "number" = some none
 fT:findIn K (.ref CT) "tie" = some none
 cN:kL mg Wl csN
 cT:kL mg Wm xM
 cM:kL mg Wn xN
 lN:csN.length<=20
 lT:xM.length<=20
 lM:xN.length<=20
 kN:kitOne K (.ref CN) (.ref D)=some true/\kitOne K (.ref CN) (.type "ValueError")=some true/\kitAny K (.ref CN) (csN.map .ref)=some false
 kT:kitOne K (.ref CT) (.ref D)=some true/\kitOne K (.ref CT) (.type "ValueError")=some true/\kitAny K (.ref CT) (xM.map .ref)=some false
 kM:kitOne K (.ref CM) (.ref D)=some true/\kitOne K (.ref CM) (.type "ValueError")=some true/\kitAny K (.ref CM) (xN.map .ref)=some false
 Yg:kE K CN CN true
 Yh:kE K CT CN false
 Yi:kE K CT CT true
 Yj:kE K CM CN false
 Yk:kE K CM CT false
 Yl:kE K CM CM true
 n1:CT≠CN
 n2:CM≠CN
 n3:CM≠CT
def wM(K:Frag)(CN CT CM D:Addr)(csN xM xN:List Addr)(C:Addr):Ends->L2.St->Addr->Hp->Prop :=
 if C=CN then Bm 5 (uA K "number" "number" D csN) else if C=CT then Bm 5 (uA K "twice" "tie" D xM) else if C=CM then Bm 5 (uB K "many" D xN) else λ_ _ _ _=>False
theorem Nh{X:Cx}{CN CT CM D fE:Addr}{csN xM xN:List Addr}{Q5:FuncData}{Q6:List Str}{sp:Sp}{tP:TS}{k:Nat}{b post:List Stmt}(m:jZ X)(hst:X.stack=X.env::X.outer)(hfm:X.env.frame=some X.env.locals)
  (hb:Nf b post) (hp:nM X post tP) (Kx:Ng X.K X.mg CN CT CM D csN xM xN) (FE:dH X.prog X.w X.K X.mg X.base (m5 X.prog X.w) k fE Q5 Q6 sp) (hr:dj k X.A) (UZ:Binds X.K Q5 Q6 []) (U0:X.mg "net_of" = some (.ref fE)) (U1:keepIn X.K (.ref fE)=true) :
  ∃t,nM X b t/\∀(En:Ends) (H:Hp) (x0 x1:V),sp [x0,x1] H (λ_ H2=>tP En [some x0,some x1,some (.str "none"),some (.int 0),some (.bl true),none] H2)
   (λc d H'=>∃C,c=.ref C/\∀a T,H' a=none->H' T=none->T≠a->wM X.K CN CT CM D csN xM xN C { En with nx:=tP En } [some x0,some x1,some (.str "none"),some (.int 0),some (.bl true),none] a (nR H' a C T d))->t En [some x0,some x1,none,none,none,none] H:=by
 obtain⟨u1,u2,u3,v1,v2,v3,a0,a1,a2,a3,a4,a5,a6,a7,a8,a9,b0,b1,b2,b3,c1,c2,c3,d1,d2,d3,e0,k0,k1,k2,rfl,s1,s2,s3⟩:=hb;have hm:∀a,jZ (X.held (.ref a)).Ff:=λa=>⟨m.N,m.l,m.gl,m.mi,m.mv⟩;have P1:=eB (pos:=a2) (tX (X:=X) (x:="none") (j:=k0) (pos:=a1)) (m.st (i:=2) rfl a0) rfl rfl rfl;have P2:=eB (pos:=a5) (B4 (X:=X) (i:=0) (j:=k1) (pos:=a4)) (m.st (i:=3) rfl a3) rfl rfl rfl;have P3:=eB (pos:=a8) (yY (X:=X) (b:=true) (j:=k2) (pos:=a7)) (m.st (i:=4) rfl a6) rfl rfl rfl;have ha:PA X.Ff [.Name "_law_poles_here" b0,.Name "_law_ties_here" b1] _:=bh (gx (X:=X.Ff) (m.nm (i:=0) rfl) (.inl (m.l _ (by simp))) (by decide) (by decide)) (bh (gx (m.nm (i:=1) rfl) (.inl (m.l _ (by simp))) (by decide) (by decide)) dO (ak rfl)) (ak rfl);have l5:=m.l ("_law_e":Str) (by simp);have n5:X.N[5]?=some ("_law_e":Str):=m.nm rfl;have hh:∀C,Pa X C [.ExceptHandler (some (.Name "NoNumber" c1)) (some "_law_e") (v1::u1) d1,.ExceptHandler (some (.Name "Twice" c2)) (some "_law_e") (v2::u2) d2,.ExceptHandler (some (.Name "TooMany" c3)) (some "_law_e") (v3::u3) d3] (wM X.K CN CT CM D csN xM xN C):=λC=>by
  unfold wM
  by_cases e1:C=CN
  ·rw[aae e1];subst e1;exact yt (m.gl _ (by simp)) Kx.mN (by decide) Kx.Yg m.nd n5 l5 λa=>El (hm a) s1 Kx.cN (by decide) (by decide) Kx.mD Kx.lN
  rw[aac e1]
  by_cases e2:C=CT
  ·rw[aae e2];subst e2;exact ux (m.gl _ (by simp)) Kx.mN (by decide) Kx.Yh (yt (m.gl _ (by simp)) Kx.mT (by decide) Kx.Yi m.nd n5 l5 λa=>El (hm a) s2 Kx.cT (by decide) (by decide) Kx.mD Kx.lT)
  rw[aac e2]
  by_cases e3:C=CM
  ·rw[aae e3];subst e3;exact ux (m.gl _ (by simp)) Kx.mN (by decide) Kx.Yj (ux (m.gl _ (by simp)) Kx.mT (by decide) Kx.Yk (yt (m.gl _ (by simp)) Kx.mM (by decide) Kx.Yl m.nd n5 l5 λa=>Nd (hm a) s3 Kx.cM (by decide) (by decide) Kx.mD Kx.lM))
  rw[aac e3];exact λpins s σ H a T dx D I ne q=>False.elim q
 have P4:=K0 (X:=X) (p:=a9) (cpos:=b2) (epos:=b3) (pos:=e0) hst hfm FE hr (m.gl _ (by simp)) U0 U1 UZ ha (by decide) (ak rfl) (by rw[ak rfl];rfl) (je rfl) hh;refine⟨_,cz P1 (cz P2 (cz P3 (cz P4 hp))),λEn H x0 x1 h=>?_⟩;exact⟨x0,rfl,x1,rfl,h⟩
def uX(jN jT jM c:Nat):List Val->Option Val
 |[.str g,.int i]=>if c=jN/\g = "number" then some (.tup [.str "number",.int i]) else if c=jT/\g = "tie" then some (.tup [.str "twice",.int i]) else none
 |[]=>if c=jM then some (.tup [.str "many",.int 0]) else none
 |_=>none
theorem Em{jN jT jM c:Nat}(h:uX jN jT jM c vs=some v):(∃i,c=jN/\vs=[.str "number",.int i]/\v=.tup [.str "number",.int i])\/(∃i,c=jT/\vs=[.str "tie",.int i]/\v=.tup [.str "twice",.int i])\/(c=jM/\vs=[]/\v=.tup [.str "many",.int 0]):=by
 unfold uX at h;split at h
 ·rename_i g i
  split at h
  ·rename_i q;cases h;exact .inl ⟨i,q.1,by rw[q.2],rfl⟩
  ·split at h
   ·rename_i q;cases h;exact .inr (.inl ⟨i,q.1,by rw[q.2],rfl⟩)
   ·cases h
 ·split at h
  ·rename_i q;cases h;exact .inr (.inr ⟨q,rfl,rfl⟩)
  ·cases h
 ·cases h
def Eo(jN jT jM:Nat):Out Val->Out Val
 |.ok _ h'=>.ok (.tup [.str "none",.int 0]) h'
 |.exc c vs h'=>(match uX jN jT jM c vs with|some v=>.ok v h'|none=>.no)
 |.no=>.no
def Ni(φ:List Val->M Val)(jN jT jM:Nat):List Val->M Val
 |[v0,v1]=>λh=>Eo jN jT jM (φ [v0,v1] h)
 |_=>λ_=>.no
theorem two{α:Type}{l:List α}(h:l.length=2):∃a b,l=[a,b]:=by
 match l,h with
 |[a,b],_=>exact⟨a,b,rfl⟩
theorem Q7(h1:H a=none)(h2:H T=none)(ne:T≠a):Gr ρ H ρ (nR H a C T dx):=by
 unfold nR;exact(Gr.side h1).trans (Gr.side (by rw[ao ne];exact h2))
theorem Q8(r:HR B ρ h H)(h1:H a=none)(h2:H T=none)(ne:T≠a):HR B ρ h (nR H a C T dx):=by
 unfold nR;exact(r.side h1).side (by rw[ao ne];exact h2)
section
variable {P:Program} {w:World} {K:Frag} {cl:Nat->Addr} {mg:Str->Option Value} {base:Heap} {k:Nat} {fs:List Row} {cons:List (Str×Val)} {tb:Tb}
theorem Nj{x qual:Str}{st:Stmt}{post:List Stmt}{f fE D:Addr}{csN xM xN:List Addr}{fd Q5:FuncData}{Q6:List Str}{jN jT jM:Nat}{φ:List Val->M Val}{Q9:eZ}(T:Base K cl mg cons tb)(A:bV P w ⟨K,cl⟩ mg base k fs)(F:Cw K x qual st f fd)
  (hS:aP Iz ["_law_poles_here","_law_ties_here"] (af st)=true) (hb:Nf (aD st) post) (hc:bO ⟨Iz,af st,fs.map (λr=>(r.1,r.2.1)),cons,tb⟩ Q9 post=true)
  (hR:∀v0 v1 W i h,gh (look fs) Q9 [some v0,some v1,some (.str W),some (.int i),some (.bl true),none] h=.ok (.rt (.tup [.str W,.int i])) h)
  (hl:∀x∈Iz,(af st).names.lookup x=some .local) (UU:∀x∈Nb,(af st).names.lookup x=some .globalImplicit) (mi:mg "isinstance" = none) (mv:mg "ValueError" = none)
  (Kx:Ng K mg (cl (1000+jN)) (cl (1000+jT)) (cl (1000+jM)) D csN xM xN) (FE:dH P w K mg base (m5 P w) (k+1) fE Q5 Q6 (BA ⟨K,cl⟩ 2 φ)) (UZ:Binds K Q5 Q6 []) (U0:mg "net_of" = some (.ref fE)) (U1:keepIn K (.ref fE)=true) :
  dH P w K mg base (m5 P w) (k+2) f fd ["_law_poles_here","_law_ties_here"] (BA ⟨K,cl⟩ 2 (Ni φ jN jT jM)):=by
 have S:=lW hS;obtain⟨oc,od,kV,doc,pm,an,cdv,ct,osl,rfl,lk,U3⟩:=F.ex;refine Cn lk U3 S (λvs H Q E h=>?_) λA' outer s H vs Q E hr h=>?_
 ·obtain⟨ρ,h,ws,h1,_,h2,_⟩:=h;rw[<-h2.length,h1];rfl
 ·have c:=zY (outer:=outer) (H:=H) (E:=E) T A S hr
  have hpost:=wG Q9 _ k _ cl _ post c hc;obtain⟨t,ht,hq⟩:=Nh (X:=fS (m5 P w) P w K mg base Iz qual (af st) f cdv A' outer s H E) ⟨rfl,hl,UU,mi,mv⟩ rfl rfl hb hpost Kx FE hr UZ U0 U1;refine⟨t,ht,?_⟩;obtain⟨ρ,h,ws,lw,r,hv,p⟩:=h;have lv:=hv.length;obtain⟨v0,v1,rfl⟩:=two lw;obtain⟨x0,x1,rfl⟩:=two lv.symm;obtain⟨y0,q0,r0⟩:=hv.get (i:=0) rfl;obtain⟨y1,q1,r1⟩:=hv.get (i:=1) rfl;cases q0;cases q1;have p:Post ⟨K,cl⟩ (oK cl E) ρ H (WV K Q) (Eo jN jT jM (φ [v0,v1] h)):=p;have fin:∀(W:Str) (i:Int) (h':Hs) (ρ1:List Addr) (H1:Hp),Gr ρ H ρ1 H1->HR ⟨K,cl⟩ ρ1 h' H1->Post ⟨K,cl⟩ (oK cl E) ρ H (WV K Q) (.ok (.tup [.str W,.int i]) h') ->
    UA (look fs) ⟨K,cl⟩ (oK cl E) Q9 { nx:=λ_ H'=>Q .non H',rt:=Q } [some x0,some x1,some (.str W),some (.int i),some (.bl true),none] H1:=λW i h' ρ1 H1 g1 r1' p=>by
   refine⟨ρ1,[some v0,some v1,some (.str W),some (.int i),some (.bl true),none],h',λj v e=>?_,rfl,r1',?_⟩
   ·match j,e with
    |0,e=>cases e;exact⟨x0,rfl,VR.jV g1.w _ _ r0⟩
    |1,e=>cases e;exact⟨x1,rfl,VR.jV g1.w _ _ r1⟩
    |2,e=>cases e;exact⟨.str W,rfl,VR.str⟩
    |3,e=>cases e;exact⟨.int i,rfl,VR.int⟩
    |4,e=>cases e;exact⟨.bl true,rfl,VR.bl⟩
    |5,e=>cases e
    |j+6,e=>simp at e
   ·rw[hR];intro ρ4 H4 g4 r4 y hy;exact p ρ4 H4 (g1.trans g4) r4 y hy
  refine hq _ H x0 x1 ⟨ρ,h,[v0,v1],rfl,r,hv,?_⟩;revert p;cases φ [v0,v1] h with
  |no=>exact λp=>p.elim
  |ok v h'=>exact λp ρ1 H1 g1 r1' y hy=>fin "none" 0 h' ρ1 H1 g1 r1' p
  |exc cc vs h'=>
   intro p;have p:Post ⟨K,cl⟩ (oK cl E) ρ H (WV K Q) (match uX jN jT jM cc vs with|some v=>.ok v h'|none=>.no):=p;cases em:uX jN jT jM cc vs with
   |none=>rw[em]at p;exact p.elim
   |some v=>
    rw[em]at p;have pv:Post ⟨K,cl⟩ (oK cl E) ρ H (WV K Q) (.ok v h'):=p;intro ρ1 H1 xs g1 r1' hxs;have hit:∀(g W:Str) (j:Nat) (i:Int) (cs:List Addr),xs=[.str g,.int i]->v=.tup [.str W,.int i]->fc K (cl (1000+j))->findIn K (.ref (cl (1000+j))) g=some none->kitOne K (.ref (cl (1000+j))) (.ref D)=some true/\kitOne K (.ref (cl (1000+j))) (.type "ValueError")=some true/\kitAny K (.ref (cl (1000+j))) (cs.map .ref)=some false ->
      wM K (cl (1000+jN)) (cl (1000+jT)) (cl (1000+jM)) D csN xM xN (cl (1000+j))=Bm 5 (uA K W g D cs) ->
      oK cl (λc d H'=>∃C,c=.ref C/\∀a T,H' a=none->H' T=none->T≠a->wM K (cl (1000+jN)) (cl (1000+jT)) (cl (1000+jM)) D csN xM xN C { nx:=UA (look fs) ⟨K,cl⟩ (oK cl E) Q9 { nx:=λ_ H'=>Q .non H',rt:=Q },rt:=Q } [some x0,some x1,some (.str "none"),some (.int 0),some (.bl true),none] a (nR H' a C T d)) j xs H1:=λg W j i cs ex ev G hf kk ew=>by
     refine .inl ⟨g,.int i,ex,λdx nd=>⟨_,rfl,λa T na nT ne=>?_⟩⟩;have Ym:dx≠a:=λz=>by rw[<-z,au]at na;cases na
     have Yn:dx≠T:=λz=>by rw[<-z,au]at nT;cases nT
     have g2:Gr ρ1 H1 ρ1 (nR (upd H1 dx (.xd [(g,.int i)])) a (cl (1000+j)) T (some dx)):=(Gr.side nd).trans (Q7 na nT ne);have r2:HR ⟨K,cl⟩ ρ1 h' (nR (upd H1 dx (.xd [(g,.int i)])) a (cl (1000+j)) T (some dx)):=Q8 (r1'.side nd) na nT ne;rw[ew];refine⟨a,cl (1000+j),dx,.int i,rfl,rfl,.uw (sI ne),by rw[oX Ym Yn];exact au,G,hf,kk.1,kk.2.1,kk.2.2,λp' np=>?_⟩;exact fin W i h' ρ1 _ ((g1.trans g2).trans (Gr.side np)) (r2.side np) (by rw[<-ev];exact pv)
    rcases Em em with ⟨i,rfl,rfl,ev⟩|⟨i,rfl,rfl,ev⟩|⟨rfl,rfl,ev⟩
    ·have ex:xs=[.str "number",.int i]:=by
      obtain⟨z0,z1,rfl⟩:=two (hxs.length.symm);obtain⟨w0,t0,s0⟩:=hxs.get (i:=0) rfl;obtain⟨w1,t1,s1⟩:=hxs.get (i:=1) rfl;cases t0;cases t1;rw[show _=_ from s0,show _=_ from s1]
     exact hit "number" "number" _ i csN ex ev Kx.gN Kx.fN Kx.kN (aae rfl)
    ·have ex:xs=[.str "tie",.int i]:=by
      obtain⟨z0,z1,rfl⟩:=two (hxs.length.symm);obtain⟨w0,t0,s0⟩:=hxs.get (i:=0) rfl;obtain⟨w1,t1,s1⟩:=hxs.get (i:=1) rfl;cases t0;cases t1;rw[show _=_ from s0,show _=_ from s1]
     exact hit "tie" "twice" _ i xM ex ev Kx.gT Kx.fT Kx.kT ((aac Kx.n1).trans (aae rfl))
    ·have ex:xs=[]:=by
      have:=hxs.length;exact List.length_eq_zero_iff.mp this.symm
     refine .inr ⟨ex,_,rfl,λa T na nT ne=>?_⟩;have g2:Gr ρ1 H1 ρ1 (nR H1 a (cl (1000+cc)) T none):=Q7 na nT ne;have r2:HR ⟨K,cl⟩ ρ1 h' (nR H1 a (cl (1000+cc)) T none):=Q8 r1' na nT ne;have ew:wM K (cl (1000+jN)) (cl (1000+jT)) (cl (1000+cc)) D csN xM xN (cl (1000+cc))=Bm 5 (uB K "many" D xN):=(aac Kx.n2).trans ((aac Kx.n3).trans (aae rfl));show wM K (cl (1000+jN)) (cl (1000+jT)) (cl (1000+cc)) D csN xM xN (cl (1000+cc)) _ _ _ _;rw[ew];refine⟨a,cl (1000+cc),none,rfl,rfl,.uw (sI ne),trivial,Kx.gM,Kx.kM.1,Kx.kM.2.1,Kx.kM.2.2,λp' np=>?_⟩;exact fin "many" 0 h' ρ1 _ ((g1.trans g2).trans (Gr.side np)) (r2.side np) (by rw[<-ev];exact pv)
end
def wY(jN jT jM:Nat):Pr FV->Pr FV
 |.ok _=>.ok (true,.tup [.str "none",.int 0])
 |.exc c ds=>(match uX jN jT jM c ds with|some v=>.ok (true,v)|none=>.no)
 |.no=>.no
def Ra(ψ:List Val->Pr FV)(jN jT jM:Nat):List Val->Pr FV
 |[d0,d1]=>wY jN jT jM (ψ [d0,d1])
 |_=>.no
theorem IF{jN jT jM:Nat}(hi:Imp φ ψ):Imp (Ni φ jN jT jM) (Ra ψ jN jT jM):=λA h ds vs u q=>by
 have l:=q.length
 match ds,vs,l,q with
 |[],_,_,_=>trivial
 |[_],_,_,_=>trivial
 |_::_::_::_,_,_,_=>trivial
 |[d0,d1],[v0,v1],_,q=>
  have r:=hi A h _ _ u q;show Rel A h (RV A h) (Eo jN jT jM (φ [v0,v1] h)) (wY jN jT jM (ψ [d0,d1]));revert r;generalize ψ [d0,d1]=pp;intro r;have fin:∀(v:Val) (h':Hs),kR v=true->h<+:h'->Rel A h (RV A h) (.ok v h') (.ok (true,v)):=λv h' hv p=>⟨v,h',rfl,p,(eN _ _ hv).mpr rfl,λ_=>(eN _ _ hv).mpr rfl⟩;cases pp with
  |no=>trivial
  |ok x=>obtain⟨v,h',e,p,_⟩:=r;rw[e];exact fin _ h' rfl p
  |exc c es=>
   obtain⟨ws,h',e,p,dn⟩:=r;rw[e];show Rel A h (RV A h) (match uX jN jT jM c ws with|some v=>.ok v h'|none=>.no) (match uX jN jT jM c es with|some v=>.ok (true,v)|none=>.no);cases em:uX jN jT jM c es with
   |none=>trivial
   |some v=>
    have hw:ws=es/\kR v=true:=by
     rcases Em em with ⟨i,_,rfl,rfl⟩|⟨i,_,rfl,rfl⟩|⟨_,rfl,rfl⟩
     ·exact⟨(bu _ _ rfl).mp dn,rfl⟩
     ·exact⟨(bu _ _ rfl).mp dn,rfl⟩
     ·exact⟨(bu _ _ rfl).mp dn,rfl⟩
    rw[hw.1,em];exact fin v h' hw.2 p
abbrev Rb:eZ:=#[.iff (.or (.not (!4)) (.or (.not (.blt (.isin "int") #[!3])) (.blt (.isin "bool") #[!3]))) #[.ret (.cst .non)] .nil,.ret (.tup #[!2,!3])]
section
variable {Φ:Fn} {a b:IE} {env:Env} {h:Hs} {u:Bool}
theorem JL(e1:aK Φ a env h=.ok (.bl false) h)(e2:aK Φ b env h=.ok (.bl u) h):aK Φ (.or a b) env h=.ok (.bl u) h:=by
 rw[aK];simp only[bnd,e1,nU,ret,false_eq_true,if_false,e2]
end
theorem IG(v0 v1:Val)(W:Str)(i:Int)(h:Hs):gh Φ Rb [some v0,some v1,some (.str W),some (.int i),some (.bl true),none] h=.ok (.rt (.tup [.str W,.int i])) h:=by
 have z2:2<=sizeLine:=by decide
 have n4:aK Φ (.not (!4)) [some v0,some v1,some (.str W),some (.int i),some (.bl true),none] h=.ok (.bl false) h:=by rw[aK,aK];rfl
 have v3:bB Φ #[!3] [some v0,some v1,some (.str W),some (.int i),some (.bl true),none] h=.ok [.int i] h:=by rw[bB,aK,bB];rfl
 have b1:aK Φ (.not (.blt (.isin "int") #[!3])) [some v0,some v1,some (.str W),some (.int i),some (.bl true),none] h=.ok (.bl false) h:=by rw[aK,aK];unfold bnd;rw[v3];rfl
 have b2:aK Φ (.blt (.isin "bool") #[!3]) [some v0,some v1,some (.str W),some (.int i),some (.bl true),none] h=.ok (.bl false) h:=by rw[aK];unfold bnd;rw[v3];rfl
 have s1:gO Φ (.iff (.or (.not (!4)) (.or (.not (.blt (.isin "int") #[!3])) (.blt (.isin "bool") #[!3]))) #[.ret (.cst .non)] .nil) [some v0,some v1,some (.str W),some (.int i),some (.bl true),none] h=.ok (.nx [some v0,some v1,some (.str W),some (.int i),some (.bl true),none]) h:=by rw[gO];unfold bnd;rw[JL n4 (JL b1 b2)];show (if false=true then gh Φ #[.ret (.cst .non)] [some v0,some v1,some (.str W),some (.int i),some (.bl true),none] else gh Φ .nil [some v0,some v1,some (.str W),some (.int i),some (.bl true),none]) h=_;rw[aac Z3,gh];rfl
 have e2:bB Φ #[!2,!3] [some v0,some v1,some (.str W),some (.int i),some (.bl true),none] h=.ok [.str W,.int i] h:=by rw[bB,aK,bB,aK,bB];rfl
 have s2:gO Φ (.ret (.tup #[!2,!3])) [some v0,some v1,some (.str W),some (.int i),some (.bl true),none] h=.ok (.rt (.tup [.str W,.int i])) h:=by rw[gO,aK];unfold bnd;rw[e2];show (match (aI (decide (2<=sizeLine)) (ret (Val.tup [.str W,.int i])) h) with|.ok a h'=>(λv=>ret (Fl.rt v)) a h'|.exc c vs h'=>.exc c vs h'|.no=>.no)=_;unfold aI;rw[decide_eq_true z2];rfl
 rw[gh];unfold bnd;rw[s1];show gh Φ #[.ret (.tup #[!2,!3])] _ h=_;rw[gh];unfold bnd;rw[s2];rfl
end Hv
end
section
namespace K02
open PySem L2 Hv
abbrev Ep:List PySem.Str:=["_law_script","_law_k"]
abbrev Nk:List PySem.Str:=["_law_script","_law_seat","_law_k","_law_one","_law_two","_law_step","_law_shift","_law_number_here"]
abbrev Nl:List PySem.Str:=["_law_script","_law_many","_law_one"]
abbrev Nm:List PySem.Str:=["_law_script","_law_start","_law_most","_law_many","_law_ties_here","_law_k","_law_cell","_law_one","_law_other"]
abbrev Rc:List PySem.Str:=["_law_script","_law_start","_law_most","_law_many"]
abbrev Nn:List PySem.Str:=["_law_poles_here","_law_ties_here","_law_numbers","_law_places","_law_tie","_law_number_here","_law_k"]
abbrev Er:List PySem.Str:=["_law_poles_here","_law_ties_here"]
abbrev Np:List PySem.Str:=["_law_poles_here","_law_ties_here","_law_way","_law_cell","_law_bad","_law_at","_law_row","_law_k","_law_name"]
abbrev Rf:List PySem.Str:=["_law_poles_here","_law_ties_here","_law_way","_law_cell"]
abbrev Nq:List PySem.Str:=["_law_one","_law_two","_law_found"]
abbrev wZ:List PySem.Str:=["_law_found","_law_many"]
abbrev xg:List PySem.Str:=["_law_found","_law_due_here"]
abbrev Es:List PySem.Str:=["poles","ties","numbers","tie","number"]
abbrev tw:List PySem.Str:=["poles","ties"]
abbrev Et:List PySem.Str:=["ties","seen","tie"]
abbrev Eu:List PySem.Str:=["poles","ties","named","name","one","other"]
abbrev Ew:List PySem.Str:=["net","places","tie"]
abbrev Ey:List PySem.Str:=["poles","ties","net"]
abbrev JM:List PySem.Str:=["_law_poles_here","_law_ties_here","_law_word","_law_what","_law_plain","_law_e"]
abbrev Ez:List PySem.Str:=["_law_poles_here","_law_ties_here","_law_rows"]
abbrev JN:List PySem.Str:=["_law_script","_law_many","_law_poles_here","_law_ties_here","_law_k","_law_way","_law_handed","_law_due_here"]
def top(i:Nat):Stmt:=PySem.Challenge.pw_linkorcut_k02_nets_refused.main.body.getD i (.Pass ⟨0,0,0,0⟩)
def cons:List (Str×Val):=[("MOST_TIES",(.int 14)),("MOST_PLACES",(.int 8))]
def tb:Tb:=⟨0,[],[],[],[]⟩
def dY:eZ:=#[.iff (.cmp .lt (!1) (.blt .len #[!0])) #[.ret (.idx (!0) (!1))] .nil,.ret (¬0)]
def fu:eZ:=#[.asg (.one 3) (.call 0 #[!0,!1]),.asg (.one 4) (.call 0 #[!0,.bin .add (!1) (¬1)]),.asg (.one 5) (¬1),.asg (.one 6) (¬0),.iff (.cmp .gt (.bin .mod (!3) (¬3)) (¬0)) #[.asg (.one 5) (.bin .add (.bin .mod (!3) (.bin .pow (¬10) (¬57))) (¬1))] .nil,.iff (.cmp .gt (.bin .mod (!4) (¬3)) (¬0)) #[.asg (.one 6) (.bin .mod (!4) (.bin .pow (¬10) (¬57)))] .nil,.asg (.one 7) (.bin .add (.bin .mul (!5) (.bin .mod (.bin .add (.bin .mul (.bin .add (¬1) (.bin .mod (.bin .fdiv (!4) (¬3)) (¬66))) (!2)) (.bin .mod (.bin .fdiv (!3) (¬3)) (¬67))) (¬67))) (!6)),.iff (.cmp .eq (.bin .mod (!4) (¬7)) (¬3)) #[.ret (.bin .sub (.bin .sub (.bin .pow (¬10) (¬60)) (¬1)) (!7))] .nil,.ret (!7)]
def gc:eZ:=#[.asg (.one 2) (.call 1 #[!0,¬2,¬0]),.iff (.or (.cmp .eq (!1) (¬1)) (.cmp .eq (.bin .mod (.bin .fdiv (.call 0 #[!0,¬4]) (¬8)) (¬5)) (¬4))) #[.ret (.tup #[!2,!2])] .nil,.ret (.tup #[!2,.call 1 #[!0,¬2,¬1]])]
def g9:eZ:=#[.asg (.one 4) (.lst .nil),.for (.tup [5,6]) .enum #[.slc (!0) (!1) (.bin .add (!1) (!2))] #[.asg (.one 7) (.call 1 #[!0,¬2,.bin .mod (.bin .mod (.bin .mul (!6) (¬48271)) (¬10007)) (!3)]),.asg (.one 8) (.call 1 #[!0,¬2,.bin .mod (.bin .mod (.bin .mul (!6) (¬16807)) (¬10009)) (!3)]),.expr (.met .append (!4) #[.tup #[.call 1 #[!0,¬0,!5],!7,!8]])],.ret (!4)]
def ic:eZ:=#[.asg (.one 2) (.blt .list #[!0]),.asg (.one 3) (.dct1 (.idx (!0) (¬0)) (.idx (!0) (¬1))),.for (.one 4) .seq #[!1] #[.asg (.one 2) (.bin .add (!2) (.blt .list #[!4])),.fX (!3) (.idx (!4) (¬1)) (.cst (.bl true)),.fX (!3) (.idx (!4) (¬2)) (.cst (.bl true))],.for (.one 5) .seq #[!2] #[.iff (.or (.cmp .lt (!5) (¬0)) (.cmp .ge (!5) (.bin .pow (¬10) (¬60)))) #[.ret (.tup #[.cst (.str "number"),!5])] .nil],.for (.tup [6,4]) .enum #[!1] #[.iff (.cmp .xK (.idx (!4) (¬0)) (.comp ["_law_one"] [none] (.one 0) .seq #[.slc (!1) .no (!6)] .no (.idx (!0) (¬0)))) #[.ret (.tup #[.cst (.str "twice"),.idx (!4) (¬0)])] .nil],.iff (.or (.cmp .gt (.blt .len #[!1]) (¬14)) (.cmp .gt (.blt .len #[!3]) (¬8))) #[.ret (.tup #[.cst (.str "many"),¬0])] .nil,.ret (.tup #[.cst (.str "none"),¬0])]
def dG:eZ:=#[.asg (.one 4) (.idx (.lst #[.bin .sub (.neg (¬1)) (.bin .mod (!3) (.bin .pow (¬10) (¬60))),.bin .add (.bin .pow (¬10) (¬60)) (.bin .mul (.bin .mod (!3) (.bin .pow (¬10) (¬60))) (.blt .int #[.cmp .gt (.bin .mod (.bin .fdiv (!3) (¬4)) (¬3)) (¬0)]))]) (.bin .mod (.bin .fdiv (!3) (¬2)) (¬2))),.asg (.one 5) (.bin .mod (.bin .mod (.bin .mul (!3) (¬48271)) (¬10061)) (.bin .add (¬2) (.bin .mul (¬3) (.blt .len #[!1])))),.iff (.and (.cmp .eq (!2) (¬1)) (.cmp .eq (!5) (¬0))) #[.ret (.tup #[.tup #[!4,.idx (!0) (¬1)],!1])] .nil,.iff (.and (.cmp .eq (!2) (¬1)) (.cmp .eq (!5) (¬1))) #[.ret (.tup #[.tup #[.idx (!0) (¬0),!4],!1])] .nil,.iff (.cmp .eq (!2) (¬1)) #[.asg (.one 6) (.blt .list #[.idx (!1) (.bin .fdiv (.bin .sub (!5) (¬2)) (¬3))]),.fX (!6) (.bin .mod (.bin .sub (!5) (¬2)) (¬3)) (!4),.ret (.tup #[!0,.bin .add (.bin .add (.slc (!1) .no (.bin .fdiv (.bin .sub (!5) (¬2)) (¬3))) (.lst #[.blt .tuple #[!6]])) (.slc (!1) (.bin .add (.bin .fdiv (.bin .sub (!5) (¬2)) (¬3)) (¬1)) .no)])] .nil,.iff (.and (.cmp .eq (!2) (¬2)) (.cmp .gt (.blt .len #[!1]) (¬0))) #[.asg (.one 7) (.bin .mod (.bin .mod (.bin .mul (!3) (¬16807)) (¬10067)) (.blt .len #[!1])),.asg (.one 8) (.idx (.idx (!1) (.bin .mod (.bin .fdiv (!3) (¬3)) (.blt .len #[!1]))) (¬0)),.ret (.tup #[!0,.bin .add (.bin .add (.slc (!1) .no (!7)) (.lst #[.tup #[!8,.idx (.idx (!1) (!7)) (¬1),.idx (.idx (!1) (!7)) (¬2)]])) (.slc (!1) (.bin .add (!7) (¬1)) .no)])] .nil,.ret (.tup #[!0,!1])]
def cV:eZ:=#[.iff (.cmp .ne (.lst #[.fld 6 (!0) "number",.fld 7 (!1) "tie",.fld 8 (!0) "row",.fld 9 (!1) "tie"]) (.lst #[!0,!1,!0,!1])) #[.ret (.cst (.bl false))] .nil,.iff (.or (.cmp .ne (.fld 10 (.cst (.str "cutter")) "side") (.cst (.str "cutter"))) (.cmp .ne (.fld 11 (.cst (.str "linker")) "winner") (.cst (.str "linker")))) #[.ret (.cst (.bl false))] .nil,.asg (.one 2) (.lst #[.mth (.cst .non) "_law_kinds" [(17,6)] #[!0],.mth (.cst .non) "_law_kinds" [(17,7)] #[!1],.mth (.cst .non) "_law_kinds" [(17,8)] #[!0],.mth (.cst .non) "_law_kinds" [(17,9)] #[!1]]),.asg (.one 2) (.bin .add (!2) (.lst #[.mth (.cst .non) "_law_kinds" [(17,10)] #[.cst (.str "linker")],.mth (.cst .non) "_law_kinds" [(17,11)] #[.cst (.str "cutter")],.mth (.cst .non) "_law_kinds" [(17,12)] .nil])),.asg (.one 2) (.bin .add (!2) (.lst #[.mth (.cst .non) "_law_kinds" [(17,13)] .nil,.mth (.cst .non) "_law_kinds" [(17,14)] .nil,.mth (.cst .non) "_law_kinds" [(17,15)] .nil,.mth (.cst .non) "_law_kinds" [(17,16)] .nil])),.ret (.blt .all #[.comp ["_law_k","_law_found"] [none,some 2] (.one 0) .range #[¬11] .no (.cmp .eq (.idx (!1) (!0)) (.comp ["_law_j","_law_k"] [none,some 0] (.one 0) .range #[¬12] .no (.cmp .xK (!0) (.tup #[!1,¬11]))))])]
def fy:eZ:=#[.iff (.or (.not (.blt (.isin "tuple") #[!0])) (.cmp .ne (.blt .len #[!0]) (!1))) #[.ret (.cst (.bl false))] .nil,.ret (.blt .all #[.comp ["_law_one"] [none] (.one 0) .seq #[!0] .no (.and (.blt (.isin "int") #[!0]) (.not (.blt (.isin "bool") #[!0])))])]
def dh:eZ:=#[.iff (.or (.not (.blt (.isin "tuple") #[!0])) (.or (.cmp .ne (.blt .len #[!0]) (¬2)) (.not (.call 19 #[.idx (!0) (¬0),¬2])))) #[.ret (.cst (.bl false))] .nil,.iff (.or (.not (.blt (.isin "list") #[.idx (!0) (¬1)])) (.not (.blt .all #[.comp ["_law_tie"] [none] (.one 0) .seq #[.idx (!0) (¬1)] .no (.call 19 #[!0,¬3])]))) #[.ret (.cst (.bl false))] .nil,.ret (.cmp .eq (!0) (!1))]
def dZ:eZ:=#[.ret (.chn .le .lt (¬0) (!0) (.bin .pow (¬10) (¬60)))]
def bC:eZ:=#[.asg (.one 2) (.blt .list #[!0]),.for (.one 3) .seq #[!1] #[.expr (.met .extend (!2) #[!3])],.for (.one 4) .seq #[!2] #[.iff (.not (.call 21 #[!4])) #[.setF 0 (.call 6 #[!4]) "" .no] .nil]]
def bP:eZ:=#[.asg (.one 1) .dct0,.for (.one 2) .seq #[!0] #[.iff (.cmp .xK (.idx (!2) (¬0)) (!1)) #[.setF 0 (.call 7 #[.idx (!2) (¬0)]) "" .no] .nil,.fX (!1) (.idx (!2) (¬0)) (.cst (.bl true))]]
def cC:eZ:=#[.asg (.one 2) (.lst .nil),.for (.tup [3,4,5]) .seq #[!1] #[.expr (.met .append (!2) #[.tup #[!3,.blt .min #[!4,!5],.blt .max #[!4,!5]]])],.ret (.tup #[.tup #[.blt .min #[.idx (!0) (¬0),.idx (!0) (¬1)],.blt .max #[.idx (!0) (¬0),.idx (!0) (¬1)]],.blt .sorted #[!2]])]
def d7:eZ:=#[.asg (.one 1) (.blt .list #[.idx (!0) (¬0)]),.for (.one 2) .seq #[.idx (!0) (¬1)] #[.expr (.met .extend (!1) #[.slc (!2) (¬1) .no])],.ret (.sset (!1))]
def ie:eZ:=#[.expr (.call 22 #[!0,!1]),.expr (.call 23 #[!1]),.asg (.one 2) (.call 24 #[!0,!1]),.iff (.or (.cmp .gt (.blt .len #[!1]) (.con "MOST_TIES" (.int 14))) (.cmp .gt (.blt .len #[.call 25 #[!2]]) (.con "MOST_PLACES" (.int 8)))) #[.setF 0 (.call 12 .nil) "" .no] .nil,.ret (!2)]
def jt:eZ:=#[.asg (.one 2) (.comp ["_law_name","_law_one","_law_other"] [none,none,none] (.tup [0,1,2]) .seq #[!1] .no (.tup #[!0,.blt .min #[!1,!2],.blt .max #[!1,!2]])),.ret (.tup #[.tup #[.blt .min #[!0],.blt .max #[!0]],.blt .sorted #[!2]])]
def qB:eZ:=#[.asg (.one 1) (.bin .add (¬1) (.bin .mod (.call 0 #[!0,¬4]) (¬10))),.asg (.one 2) (.call 2 #[!0,!1]),.asg (.one 3) (.call 3 #[!0,¬8,.bin .add (¬13) (.bin .mod (.bin .fdiv (.call 0 #[!0,¬4]) (¬40)) (¬4)),!1]),.for (.one 4) .range #[¬2] #[.asg (.one 5) (.bin .mod (.bin .fdiv (.call 0 #[!0,¬5]) (.idx (.lst #[¬1,¬4]) (!4))) (¬4)),.asg (.tup [2,3]) (.call 5 #[!2,!3,!5,.call 0 #[!0,.bin .add (¬6) (!4)]])],.iff (.not (.call 18 #[.call 1 #[!0,¬0,¬20],.call 1 #[!0,¬2,¬20]])) #[.ret (.cst (.bl false))] .nil,.asg (.one 6) (.blt .list #[!3]),.asg (.one 7) (.call 4 #[!2,!3]),.iff (.or (.cmp .ne (.call 27 #[!2,!6]) (!7)) (.cmp .ne (!6) (!3))) #[.ret (.cst (.bl false))] .nil,.iff (.cmp .ne (!7) (.tup #[.cst (.str "none"),¬0])) #[.ret (.cst (.bl true))] .nil,.ret (.and (.call 20 #[.call 26 #[!2,!6],.call 28 #[!2,!3]]) (.cmp .eq (!6) (!3)))]
def yQ(c:Nat):Option (List Bool):=if c=6 then some [true,false,false,false,false,false,false,false,false,false,false,true] else if c=7 then some [false,true,false,false,false,false,false,false,false,false,false,true] else if c=8 then some [false,false,true,false,false,false,false,false,false,false,false,true] else if c=9 then some [false,false,false,true,false,false,false,false,false,false,false,true] else if c=10 then some [false,false,false,false,true,false,false,false,false,false,false,true] else if c=11 then some [false,false,false,false,false,true,false,false,false,false,false,true] else if c=12 then some [false,false,false,false,false,false,true,false,false,false,false,true] else if c=13 then some [false,false,false,false,false,false,false,true,false,false,false,true] else if c=14 then some [false,false,false,false,false,false,false,false,true,false,false,true] else if c=15 then some [false,false,false,false,false,false,false,false,false,true,false,true] else if c=16 then some [false,false,false,false,false,false,false,false,false,false,true,true] else none
theorem Rg{Q:Nat->List Bool->Prop}{c:Nat}{bs:List Bool}(h:yQ c=some bs)(q0:Q 6 [true,false,false,false,false,false,false,false,false,false,false,true])(q1:Q 7 [false,true,false,false,false,false,false,false,false,false,false,true])(q2:Q 8 [false,false,true,false,false,false,false,false,false,false,false,true])(q3:Q 9 [false,false,false,true,false,false,false,false,false,false,false,true])(q4:Q 10 [false,false,false,false,true,false,false,false,false,false,false,true])(q5:Q 11 [false,false,false,false,false,true,false,false,false,false,false,true])(q6:Q 12 [false,false,false,false,false,false,true,false,false,false,false,true])(q7:Q 13 [false,false,false,false,false,false,false,true,false,false,false,true])(q8:Q 14 [false,false,false,false,false,false,false,false,true,false,false,true])(q9:Q 15 [false,false,false,false,false,false,false,false,false,true,false,true])(Yo:Q 16 [false,false,false,false,false,false,false,false,false,false,true,true]):Q c bs:=by
 unfold yQ at h
 by_cases e0:c=6
 ·rw[aae e0]at h;cases h;rw[e0];exact q0
 rw[aac e0]at h
 by_cases e1:c=7
 ·rw[aae e1]at h;cases h;rw[e1];exact q1
 rw[aac e1]at h
 by_cases e2:c=8
 ·rw[aae e2]at h;cases h;rw[e2];exact q2
 rw[aac e2]at h
 by_cases e3:c=9
 ·rw[aae e3]at h;cases h;rw[e3];exact q3
 rw[aac e3]at h
 by_cases e4:c=10
 ·rw[aae e4]at h;cases h;rw[e4];exact q4
 rw[aac e4]at h
 by_cases e5:c=11
 ·rw[aae e5]at h;cases h;rw[e5];exact q5
 rw[aac e5]at h
 by_cases e6:c=12
 ·rw[aae e6]at h;cases h;rw[e6];exact q6
 rw[aac e6]at h
 by_cases e7:c=13
 ·rw[aae e7]at h;cases h;rw[e7];exact q7
 rw[aac e7]at h
 by_cases e8:c=14
 ·rw[aae e8]at h;cases h;rw[e8];exact q8
 rw[aac e8]at h
 by_cases e9:c=15
 ·rw[aae e9]at h;cases h;rw[e9];exact q9
 rw[aac e9]at h
 by_cases Gx:c=16
 ·rw[aae Gx]at h;cases h;rw[Gx];exact Yo
 rw[aac Gx]at h;cases h
def Rh:List Row:=[]
def n8:List Val->M Val:=pZ (look Rh) 2 dY
def Ri:List Row:=Rh++[(("_law_cell_at":Str),2,n8)]
def qC:List Val->M Val:=pZ (look Ri) 8 fu
def Rj:List Row:=Ri++[(("_law_number":Str),3,qC)]
def tB:List Val->M Val:=pZ (look Rj) 3 gc
def Rk:List Row:=Rj++[(("_law_poles":Str),2,tB)]
def xh:List Val->M Val:=pZ (look Rk) 9 g9
def Rm:List Row:=Rk++[(("_law_ties":Str),4,xh)]
def Ao:List Val->M Val:=pZ (look Rm) 7 ic
def Rn:List Row:=Rm++[(("_law_due":Str),2,Ao)]
def qD:List Val->M Val:=pZ (look Rn) 9 dG
def Sv:List Row:=Rn++[(("_law_spoilt":Str),4,qD)]
def qE:List Val->M Val:=jb 6 "number"
def Sw:List Row:=Sv++[(("NoNumber":Str),2001,qE)]
def Aq:List Val->M Val:=jb 7 "tie"
def Sx:List Row:=Sw++[(("Twice":Str),2001,Aq)]
def xj:List Val->M Val:=jb 8 "row"
def Sy:List Row:=Sx++[(("BadRow":Str),2001,xj)]
def qF:List Val->M Val:=jb 9 "tie"
def II:List Row:=Sy++[(("NotThere":Str),2001,qF)]
def n9:List Val->M Val:=jb 10 "side"
def IJ:List Row:=II++[(("OtherTurn":Str),2001,n9)]
def EA:List Val->M Val:=jb 11 "winner"
def IK:List Row:=IJ++[(("Over":Str),2001,EA)]
def tE:List Val->M Val:=lK 12
def IL:List Row:=IK++[(("TooMany":Str),2000,tE)]
def xm:List Val->M Val:=lK 13
def IM:List Row:=IL++[(("TooBig":Str),2000,xm)]
def tF:List Val->M Val:=lK 14
def IP:List Row:=IM++[(("NoPaper":Str),2000,tF)]
def xq:List Val->M Val:=lK 15
def IQ:List Row:=IP++[(("NoDeed":Str),2000,xq)]
def tG:List Val->M Val:=lK 16
def Nr:List Row:=IQ++[(("BadLine":Str),2000,tG)]
def nE:List Val->M Val:=M9 yQ
def EB:List Row:=Nr++[(("_law_kinds":Str),3001,nE)]
def oh:List Val->M Val:=pZ (look EB) 3 cV
def EC:List Row:=EB++[(("_law_by_hand":Str),2,oh)]
def qG:List Val->M Val:=pZ (look EC) 2 fy
def ED:List Row:=EC++[(("_law_wholes":Str),2,qG)]
def mw:List Val->M Val:=pZ (look ED) 2 dh
def EE:List Row:=ED++[(("_law_same_net":Str),2,mw)]
def oj:List Val->M Val:=pZ (look EE) 1 dZ
def EF:List Row:=EE++[(("is_number":Str),1,oj)]
def ig:List Val->M Val:=pZ (look EF) 5 bC
def EG:List Row:=EF++[(("refuse_numbers":Str),2,ig)]
def ju:List Val->M Val:=pZ (look EG) 3 bP
def EH:List Row:=EG++[(("refuse_names":Str),1,ju)]
def jv:List Val->M Val:=pZ (look EH) 6 cC
def EI:List Row:=EH++[(("put_in_order":Str),2,jv)]
def om:List Val->M Val:=pZ (look EI) 3 d7
def EJ:List Row:=EI++[(("places_of":Str),1,om)]
def qH:List Val->M Val:=pZ (look EJ) 3 ie
def EK:List Row:=EJ++[(("net_of":Str),2,qH)]
def tH:eZ:=#[.iff (.or (.not (!4)) (.or (.not (.blt (.isin "int") #[!3])) (.blt (.isin "bool") #[!3]))) #[.ret (.cst .non)] .nil,.ret (.tup #[!2,!3])]
def qI:List Stmt:=(aD (top 32)).drop 4
def uY:List Val->M Val:=Ni qH 6 7 12
def EL:List Row:=EK++[(("_law_met":Str),2,uY)]
def Ar:List Val->M Val:=pZ (look EL) 3 jt
def IT:List Row:=EL++[(("_law_net":Str),2,Ar)]
def EM:List Val->M Val:=pZ (look IT) 8 qB
def U4:List aS:=[]
def bf:aS:=fk (ai U4) 2 dY
def Sz:List aS:=U4++[bf]
def dz:aS:=fk (ai Sz) 8 fu
def Ro:List aS:=Sz++[dz]
def iu:aS:=fk (ai Ro) 3 gc
def SA:List aS:=Ro++[iu]
def jw:aS:=fk (ai SA) 9 g9
def BY:List aS:=SA++[jw]
def mz:aS:=fk (ai BY) 7 ic
def BN:List aS:=BY++[mz]
def gf:aS:=fk (ai BN) 9 dG
def Wo:List aS:=BN++[gf]
def iK:aS:=yE 6 "number"
def Wq:List aS:=Wo++[iK]
def o7:aS:=yE 7 "tie"
def Wr:List aS:=Wq++[o7]
def xr:aS:=yE 8 "row"
def Ws:List aS:=Wr++[xr]
def qJ:aS:=yE 9 "tie"
def Rp:List aS:=Ws++[qJ]
def oq:aS:=yE 10 "side"
def Rq:List aS:=Rp++[oq]
def EN:aS:=yE 11 "winner"
def Rt:List aS:=Rq++[EN]
def jQ:aS:=sV 12
def Ru:List aS:=Rt++[jQ]
def xu:aS:=sV 13
def Rv:List aS:=Ru++[xu]
def tK:aS:=sV 14
def Rw:List aS:=Rv++[tK]
def xw:aS:=sV 15
def Rx:List aS:=Rw++[xw]
def tM:aS:=sV 16
def Ry:List aS:=Rx++[tM]
def tN:aS:=Ej yQ
def fz:List aS:=Ry++[tN]
def fB:aS:=fk (ai fz) 3 cV
def Nt:List aS:=fz++[fB]
def dB:aS:=fk (ai Nt) 2 fy
def IU:List aS:=Nt++[dB]
def cW:aS:=fk (ai IU) 2 dh
def Nu:List aS:=IU++[cW]
def fD:aS:=fk (ai Nu) 1 dZ
def uZ:List aS:=Nu++[fD]
def cg:aS:=fk (ai uZ) 5 bC
def BO:List aS:=uZ++[cg]
def cQ:aS:=fk (ai BO) 3 bP
def Nv:List aS:=BO++[cQ]
def cR:aS:=fk (ai Nv) 6 cC
def Nx:List aS:=Nv++[cR]
def fF:aS:=fk (ai Nx) 3 d7
def xx:List aS:=Nx++[fF]
def fG:aS:=fk (ai xx) 3 ie
def Rz:List aS:=xx++[fG]
def mC:aS:=Ra fG 6 7 12
def Ny:List aS:=Rz++[mC]
def mE:aS:=fk (ai Ny) 3 jt
def cX:List aS:=Ny++[mE]
def EO:aS:=fk (ai cX) 8 qB
theorem iP:ai Sz 0=bf:=rfl
theorem jx:ai Ro 0=bf:=rfl
theorem j6:ai Ro 1=dz:=rfl
theorem kP:ai SA 1=dz:=rfl
theorem d8:ai IU 19=dB:=rfl
theorem cJ:ai uZ 21=fD:=rfl
theorem aQ:ai xx 22=cg:=rfl
theorem bJ:ai xx 23=cQ:=rfl
theorem cu:ai xx 24=cR:=rfl
theorem c7:ai xx 25=fF:=rfl
theorem eV:ai cX 0=bf:=rfl
theorem oN:ai cX 1=dz:=rfl
theorem qK:ai cX 2=iu:=rfl
theorem rH:ai cX 3=jw:=rfl
theorem u5:ai cX 4=mz:=rfl
theorem oO:ai cX 5=gf:=rfl
theorem nF:ai cX 18=fB:=rfl
theorem mF:ai cX 20=cW:=rfl
theorem rJ:ai cX 26=fG:=rfl
theorem u6:ai cX 27=mC:=rfl
theorem u7:ai cX 28=mE:=rfl
theorem i0:cU Rh U4:=D4
theorem xy:Imp n8 bf:=cP (aT i0) (by decide +kernel)
theorem i1:cU Ri Sz:=aB i0 xy
theorem yR:Imp qC dz:=cP (aT i1) (by decide +kernel)
theorem i2:cU Rj Ro:=aB i1 yR
theorem BP:Imp tB iu:=cP (aT i2) (by decide +kernel)
theorem i3:cU Rk SA:=aB i2 BP
theorem ES:Imp xh jw:=cP (aT i3) (by decide +kernel)
theorem i4:cU Rm BY:=aB i3 ES
theorem IV:Imp Ao mz:=cP (aT i4) (by decide +kernel)
theorem i5:cU Rn BN:=aB i4 IV
theorem yS:Imp qD gf:=cP (aT i5) (by decide +kernel)
theorem i6:cU Sv Wo:=aB i5 yS
theorem yT:Imp qE iK:=jL
theorem i7:cU Sw Wq:=aB i6 yT
theorem IW:Imp Aq o7:=jL
theorem i8:cU Sx Wr:=aB i7 IW
theorem ET:Imp xj xr:=jL
theorem i9:cU Sy Ws:=aB i8 ET
theorem yU:Imp qF qJ:=jL
theorem Yp:cU II Rp:=aB i9 yU
theorem xA:Imp n9 oq:=jL
theorem Yq:cU IJ Rq:=aB Yp xA
theorem Nz:Imp EA EN:=jL
theorem i12:cU IK Rt:=aB Yq Nz
theorem BQ:Imp tE jQ:=jk
theorem Yr:cU IL Ru:=aB i12 BQ
theorem EU:Imp xm xu:=jk
theorem Ys:cU IM Rv:=aB Yr EU
theorem BR:Imp tF tK:=jk
theorem Yt:cU IP Rw:=aB Ys BR
theorem EW:Imp xq xw:=jk
theorem Yu:cU IQ Rx:=aB Yt EW
theorem BS:Imp tG tM:=jk
theorem Yv:cU Nr Ry:=aB Yu BS
theorem BU:Imp nE tN:=Iw
theorem Wt:cU EB fz:=aB Yv BU
theorem xB:Imp oh fB:=cP (aT Wt) (by decide +kernel)
theorem Wu:cU EC Nt:=aB Wt xB
theorem yV:Imp qG dB:=cP (aT Wu) (by decide +kernel)
theorem Wv:cU ED IU:=aB Wu yV
theorem u9:Imp mw cW:=cP (aT Wv) (by decide +kernel)
theorem Ww:cU EE Nu:=aB Wv u9
theorem xC:Imp oj fD:=cP (aT Ww) (by decide +kernel)
theorem Wx:cU EF uZ:=aB Ww xC
theorem nG:Imp ig cg:=cP (aT Wx) (by decide +kernel)
theorem Wy:cU EG BO:=aB Wx nG
theorem qL:Imp ju cQ:=cP (aT Wy) (by decide +kernel)
theorem Wz:cU EH Nv:=aB Wy qL
theorem qM:Imp jv cR:=cP (aT Wz) (by decide +kernel)
theorem WA:cU EI Nx:=aB Wz qM
theorem xD:Imp om fF:=cP (aT WA) (by decide +kernel)
theorem WB:cU EJ xx:=aB WA xD
theorem xE:Imp qH fG:=cP (aT WB) (by decide +kernel)
theorem Yw:cU EK Rz:=aB WB xE
theorem IX:Imp uY mC:=IF xE
theorem WC:cU EL Ny:=aB Yw IX
theorem IY:Imp Ar mE:=cP (aT WC) (by decide +kernel)
theorem Yx:cU IT cX:=aB WC IY
theorem IZ{ns:List Int}{f:Bool}(e:EO [.rl (ns.map .int)]=.ok (f,.bl true)):∃h',EM [.rl (ns.map .int)] []=.ok (.bl true) h':=D5 (cP (aT Yx) (by decide +kernel)) e
theorem c0:aP Ep Ep (af (top 23))=true:=by decide +kernel
theorem d0:bO ⟨Ep,af (top 23),Rh.map (λr=>(r.1,r.2.1)),cons,tb⟩ dY (aD (top 23))=true:=by decide +kernel
theorem c1:aP Nk ["_law_script","_law_seat","_law_k"] (af (top 24))=true:=by decide +kernel
theorem d1:bO ⟨Nk,af (top 24),Ri.map (λr=>(r.1,r.2.1)),cons,tb⟩ fu (aD (top 24))=true:=by decide +kernel
theorem c2:aP Nl ["_law_script","_law_many"] (af (top 26))=true:=by decide +kernel
theorem d2:bO ⟨Nl,af (top 26),Rj.map (λr=>(r.1,r.2.1)),cons,tb⟩ gc (aD (top 26))=true:=by decide +kernel
theorem c3:aP Nm Rc (af (top 25))=true:=by decide +kernel
theorem d3:bO ⟨Nm,af (top 25),Rk.map (λr=>(r.1,r.2.1)),cons,tb⟩ g9 (aD (top 25))=true:=by decide +kernel
theorem c4:aP Nn Er (af (top 31))=true:=by decide +kernel
theorem d4:bO ⟨Nn,af (top 31),Rm.map (λr=>(r.1,r.2.1)),cons,tb⟩ ic (aD (top 31))=true:=by decide +kernel
theorem c5:aP Np Rf (af (top 30))=true:=by decide +kernel
theorem d5:bO ⟨Np,af (top 30),Rn.map (λr=>(r.1,r.2.1)),cons,tb⟩ dG (aD (top 30))=true:=by decide +kernel
def NB:Stmt:=(match top 2 with|.ClassDef (body:=b) ..=>b.getD 0 (.Pass ⟨0,0,0,0⟩)|_=>.Pass ⟨0,0,0,0⟩)
theorem U5:yP (aD NB) "number":=⟨_,_,_,_,rfl⟩
theorem Yy:aP ["self","number"] ["self","number"] (af NB)=true:=by decide +kernel
def NC:Stmt:=(match top 3 with|.ClassDef (body:=b) ..=>b.getD 0 (.Pass ⟨0,0,0,0⟩)|_=>.Pass ⟨0,0,0,0⟩)
theorem U6:yP (aD NC) "tie":=⟨_,_,_,_,rfl⟩
theorem Yz:aP ["self","tie"] ["self","tie"] (af NC)=true:=by decide +kernel
def ND:Stmt:=(match top 5 with|.ClassDef (body:=b) ..=>b.getD 0 (.Pass ⟨0,0,0,0⟩)|_=>.Pass ⟨0,0,0,0⟩)
theorem U7:yP (aD ND) "row":=⟨_,_,_,_,rfl⟩
theorem YA:aP ["self","row"] ["self","row"] (af ND)=true:=by decide +kernel
def NF:Stmt:=(match top 6 with|.ClassDef (body:=b) ..=>b.getD 0 (.Pass ⟨0,0,0,0⟩)|_=>.Pass ⟨0,0,0,0⟩)
theorem U8:yP (aD NF) "tie":=⟨_,_,_,_,rfl⟩
theorem YB:aP ["self","tie"] ["self","tie"] (af NF)=true:=by decide +kernel
def EY:Stmt:=(match top 9 with|.ClassDef (body:=b) ..=>b.getD 0 (.Pass ⟨0,0,0,0⟩)|_=>.Pass ⟨0,0,0,0⟩)
theorem RA:yP (aD EY) "side":=⟨_,_,_,_,rfl⟩
theorem U9:aP ["self","side"] ["self","side"] (af EY)=true:=by decide +kernel
def EZ:Stmt:=(match top 8 with|.ClassDef (body:=b) ..=>b.getD 0 (.Pass ⟨0,0,0,0⟩)|_=>.Pass ⟨0,0,0,0⟩)
theorem RB:yP (aD EZ) "winner":=⟨_,_,_,_,rfl⟩
theorem Va:aP ["self","winner"] ["self","winner"] (af EZ)=true:=by decide +kernel
theorem YC:aP ["_law_e","_law_kinds_here"] ["_law_e"] (af (top 33))=true:=by decide +kernel
theorem YD:M6 (aD (top 33)):=⟨_,_,_,_,_,.Name "x" ⟨0,0,0,0⟩,_,_,_,_,_,_,_,_,_,_,_,_,_,_,_,_,_,_,_,_,_,_,rfl,⟨_,_,rfl,⟨_,_,_,_,rfl⟩,_,_,rfl,⟨_,_,_,_,rfl⟩,_,_,rfl,⟨_,_,_,_,rfl⟩,_,_,rfl,⟨_,_,_,_,rfl⟩,rfl⟩,⟨_,_,rfl,⟨_,_,_,_,rfl⟩,_,_,rfl,⟨_,_,_,_,rfl⟩,_,_,rfl,⟨_,_,_,_,rfl⟩,rfl⟩,⟨_,_,rfl,⟨_,_,_,_,rfl⟩,_,_,rfl,⟨_,_,_,_,rfl⟩,_,_,rfl,⟨_,_,_,_,rfl⟩,rfl⟩,⟨_,_,_,_,rfl⟩,⟨_,_,_,_,rfl⟩⟩
theorem Vb:(af (top 33)).names.lookup ("_law_e":Str)=some .local:=by decide +kernel
theorem Vc:(af (top 33)).names.lookup ("_law_kinds_here":Str)=some .local:=by decide +kernel
theorem YE:∀x∈QY,(af (top 33)).names.lookup x=some .globalImplicit:=by decide +kernel
theorem YF:aP Nq ["_law_one","_law_two"] (af (top 34))=true:=by decide +kernel
theorem YG:bO ⟨Nq,af (top 34),EB.map (λr=>(r.1,r.2.1)),cons,tb⟩ cV (aD (top 34))=true:=by decide +kernel
theorem YH:aP wZ wZ (af (top 28))=true:=by decide +kernel
theorem YI:bO ⟨wZ,af (top 28),EC.map (λr=>(r.1,r.2.1)),cons,tb⟩ fy (aD (top 28))=true:=by decide +kernel
theorem YJ:aP xg xg (af (top 29))=true:=by decide +kernel
theorem YK:bO ⟨xg,af (top 29),ED.map (λr=>(r.1,r.2.1)),cons,tb⟩ dh (aD (top 29))=true:=by decide +kernel
theorem YL:aP ["number"] ["number"] (af (top 18))=true:=by decide +kernel
theorem YM:bO ⟨["number"],af (top 18),EE.map (λr=>(r.1,r.2.1)),cons,tb⟩ dZ (aD (top 18))=true:=by decide +kernel
theorem YN:aP Es tw (af (top 17))=true:=by decide +kernel
theorem YO:bO ⟨Es,af (top 17),EF.map (λr=>(r.1,r.2.1)),cons,tb⟩ bC (aD (top 17))=true:=by decide +kernel
theorem YQ:aP Et ["ties"] (af (top 19))=true:=by decide +kernel
theorem YR:bO ⟨Et,af (top 19),EG.map (λr=>(r.1,r.2.1)),cons,tb⟩ bP (aD (top 19))=true:=by decide +kernel
theorem YS:aP Eu tw (af (top 20))=true:=by decide +kernel
theorem YT:bO ⟨Eu,af (top 20),EH.map (λr=>(r.1,r.2.1)),cons,tb⟩ cC (aD (top 20))=true:=by decide +kernel
theorem YU:aP Ew ["net"] (af (top 21))=true:=by decide +kernel
theorem YV:bO ⟨Ew,af (top 21),EI.map (λr=>(r.1,r.2.1)),cons,tb⟩ d7 (aD (top 21))=true:=by decide +kernel
theorem WD:aP Ey tw (af (top 16))=true:=by decide +kernel
theorem WE:bO ⟨Ey,af (top 16),EJ.map (λr=>(r.1,r.2.1)),cons,tb⟩ ie (aD (top 16))=true:=by decide +kernel
theorem YW:aP JM Er (af (top 32))=true:=by decide +kernel
theorem YX:bO ⟨JM,af (top 32),EK.map (λr=>(r.1,r.2.1)),cons,tb⟩ tH qI=true:=by decide +kernel
theorem YY:Nf (aD (top 32)) qI:=⟨_,_,_,_,_,_,_,_,_,_,_,_,_,_,_,_,_,_,_,_,_,_,_,_,_,_,_,_,_,_,rfl,⟨_,_,_,_,_,_,_,_,_,rfl,⟨_,_,_,_,_,_,_,_,_,_,_,_,_,_,_,_,_,_,_,rfl,⟨_,_,_,_,rfl⟩,⟨_,_,rfl,_,_,rfl,_,_,rfl,_,_,rfl,_,_,rfl,rfl⟩⟩⟩,⟨_,_,_,_,_,_,_,_,_,rfl,⟨_,_,_,_,_,_,_,_,_,_,_,_,_,_,_,_,_,_,_,rfl,⟨_,_,_,_,rfl⟩,⟨_,_,rfl,_,_,rfl,_,_,rfl,_,_,rfl,rfl⟩⟩⟩,⟨_,_,_,_,_,rfl,⟨_,_,_,_,_,_,_,_,_,_,_,_,_,_,_,_,_,_,_,rfl,⟨_,_,_,_,rfl⟩,⟨_,_,rfl,_,_,rfl,_,_,rfl,_,_,rfl,rfl⟩⟩⟩⟩
theorem YZ:∀x∈Iz,(af (top 32)).names.lookup x=some .local:=by decide +kernel
theorem Y0:∀x∈Nb,(af (top 32)).names.lookup x=some .globalImplicit:=by decide +kernel
theorem Y3:∀v0 v1 W i h,gh (look EK) tH [some v0,some v1,some (.str W),some (.int i),some (.bl true),none] h=.ok (.rt (.tup [.str W,.int i])) h:=λv0 v1 W i h=>IG v0 v1 W i h
theorem Y4:aP Ez Er (af (top 27))=true:=by decide +kernel
theorem Y5:bO ⟨Ez,af (top 27),EL.map (λr=>(r.1,r.2.1)),cons,tb⟩ jt (aD (top 27))=true:=by decide +kernel
theorem Y6:aP JN ["_law_script"] (af (top 35))=true:=by decide +kernel
theorem Y7:bO ⟨JN,af (top 35),IT.map (λr=>(r.1,r.2.1)),cons,tb⟩ qB (aD (top 35))=true:=by decide +kernel
section
variable {P:Program} {w:World} {K:Frag} {mg:Str->Option Value} {base:Heap}
theorem all_mk{l:PySem.W.OpenLaw}{h:Heap}{fa:Addr}(X:K.In h)(G:h.Ns mainGlobals mg)(Y8:mg "law" = some (.ref fa))(hφ:∀ns:List Int,ns.length<=63->∃h',EM [.rl (ns.map .int)] []=.ok (.bl true) h'){X1:Addr}{a0:Addr}{a1:Addr}{a2:Addr}{a3:Addr}{a4:Addr}{a5:Addr}{a6:Addr}{b6:Addr}{RC:ClassData}{a7:Addr}{b7:Addr}{RD:ClassData}{a8:Addr}{b8:Addr}{RE:ClassData}{a9:Addr}{b9:Addr}{RG:ClassData}{nH:Addr}{SD:Addr}{JO:ClassData}{j7:Addr}{SE:Addr}{JP:ClassData}{iQ:Addr}{nJ:Addr}{oQ:Addr}{oR:Addr}{oS:Addr}{Vd:Addr}{WG:Addr}{WH:Addr}{WI:Addr}{WJ:Addr}{WK:Addr}{WL:Addr}{WM:Addr}{WN:Addr}{WO:Addr}{Ve:Addr}{WQ:Addr}{WR:Addr}{tk0:Tok}{Y9:Tok}
  (A0:nsIn K mainGlobals "_law_cell_at" = some (some (.ref a0)))
  (F0:mL K "_law_cell_at" "_law_cell_at" (top 23) a0)
  (A1:nsIn K mainGlobals "_law_number" = some (some (.ref a1)))
  (F1:mL K "_law_number" "_law_number" (top 24) a1)
  (A2:nsIn K mainGlobals "_law_poles" = some (some (.ref a2)))
  (F2:mL K "_law_poles" "_law_poles" (top 26) a2)
  (A3:nsIn K mainGlobals "_law_ties" = some (some (.ref a3)))
  (F3:mL K "_law_ties" "_law_ties" (top 25) a3)
  (A4:nsIn K mainGlobals "_law_due" = some (some (.ref a4)))
  (F4:mL K "_law_due" "_law_due" (top 31) a4)
  (A5:nsIn K mainGlobals "_law_spoilt" = some (some (.ref a5)))
  (F5:mL K "_law_spoilt" "_law_spoilt" (top 30) a5)
  (XG6:L2.fc K a6)
  (A6:nsIn K mainGlobals "NoNumber" = some (some (.ref a6))) (XI6:findIn K (.ref a6) "__init__" = some (some (.ref b6))) (XT6:mL K "__init__" "NoNumber.__init__" NB b6) (XM6:L2.oG K a6 X1 b6 RC) (XQ6:findIn K (.ref a6) "number" = some none)
  (XG7:L2.fc K a7)
  (A7:nsIn K mainGlobals "Twice" = some (some (.ref a7))) (XI7:findIn K (.ref a7) "__init__" = some (some (.ref b7))) (XT7:mL K "__init__" "Twice.__init__" NC b7) (XM7:L2.oG K a7 X1 b7 RD) (XQ7:findIn K (.ref a7) "tie" = some none)
  (XG8:L2.fc K a8)
  (A8:nsIn K mainGlobals "BadRow" = some (some (.ref a8))) (XI8:findIn K (.ref a8) "__init__" = some (some (.ref b8))) (XT8:mL K "__init__" "BadRow.__init__" ND b8) (XM8:L2.oG K a8 X1 b8 RE) (XQ8:findIn K (.ref a8) "row" = some none)
  (XG9:L2.fc K a9)
  (A9:nsIn K mainGlobals "NotThere" = some (some (.ref a9))) (XI9:findIn K (.ref a9) "__init__" = some (some (.ref b9))) (XT9:mL K "__init__" "NotThere.__init__" NF b9) (XM9:L2.oG K a9 X1 b9 RG) (XQ9:findIn K (.ref a9) "tie" = some none)
  (XG10:L2.fc K nH)
  (A10:nsIn K mainGlobals "OtherTurn" = some (some (.ref nH))) (XI10:findIn K (.ref nH) "__init__" = some (some (.ref SD))) (XT10:mL K "__init__" "OtherTurn.__init__" EY SD) (XM10:L2.oG K nH X1 SD JO) (XQ10:findIn K (.ref nH) "side" = some none)
  (XG11:L2.fc K j7)
  (A11:nsIn K mainGlobals "Over" = some (some (.ref j7))) (XI11:findIn K (.ref j7) "__init__" = some (some (.ref SE))) (XT11:mL K "__init__" "Over.__init__" EZ SE) (XM11:L2.oG K j7 X1 SE JP) (XQ11:findIn K (.ref j7) "winner" = some none)
  (XG12:L2.fc K iQ)
  (A12:nsIn K mainGlobals "TooMany" = some (some (.ref iQ))) (XZ12:L2.iY K iQ X1)
  (XG13:L2.fc K nJ)
  (A13:nsIn K mainGlobals "TooBig" = some (some (.ref nJ))) (XZ13:L2.iY K nJ X1)
  (XG14:L2.fc K oQ)
  (A14:nsIn K mainGlobals "NoPaper" = some (some (.ref oQ))) (XZ14:L2.iY K oQ X1)
  (XG15:L2.fc K oR)
  (A15:nsIn K mainGlobals "NoDeed" = some (some (.ref oR))) (XZ15:L2.iY K oR X1)
  (XG16:L2.fc K oS)
  (A16:nsIn K mainGlobals "BadLine" = some (some (.ref oS))) (XZ16:L2.iY K oS X1)
  (A17:nsIn K mainGlobals "_law_kinds" = some (some (.ref Vd)))
  (F17:mL K "_law_kinds" "_law_kinds" (top 33) Vd)
  (A18:nsIn K mainGlobals "_law_by_hand" = some (some (.ref WG)))
  (F18:mL K "_law_by_hand" "_law_by_hand" (top 34) WG)
  (A19:nsIn K mainGlobals "_law_wholes" = some (some (.ref WH)))
  (F19:mL K "_law_wholes" "_law_wholes" (top 28) WH)
  (A20:nsIn K mainGlobals "_law_same_net" = some (some (.ref WI)))
  (F20:mL K "_law_same_net" "_law_same_net" (top 29) WI)
  (A21:nsIn K mainGlobals "is_number" = some (some (.ref WJ)))
  (F21:mL K "is_number" "is_number" (top 18) WJ)
  (A22:nsIn K mainGlobals "refuse_numbers" = some (some (.ref WK)))
  (F22:mL K "refuse_numbers" "refuse_numbers" (top 17) WK)
  (A23:nsIn K mainGlobals "refuse_names" = some (some (.ref WL)))
  (F23:mL K "refuse_names" "refuse_names" (top 19) WL)
  (A24:nsIn K mainGlobals "put_in_order" = some (some (.ref WM)))
  (F24:mL K "put_in_order" "put_in_order" (top 20) WM)
  (A25:nsIn K mainGlobals "places_of" = some (some (.ref WN)))
  (F25:mL K "places_of" "places_of" (top 21) WN)
  (A26:nsIn K mainGlobals "net_of" = some (some (.ref WO)))
  (F26:mL K "net_of" "net_of" (top 16) WO)
  (A27:nsIn K mainGlobals "_law_met" = some (some (.ref Ve)))
  (F27:mL K "_law_met" "_law_met" (top 32) Ve)
  (A28:nsIn K mainGlobals "_law_net" = some (some (.ref WQ)))
  (F28:mL K "_law_net" "_law_net" (top 27) WQ)
  (A29:nsIn K mainGlobals "law" = some (some (.ref WR)))
  (F29:mL K "law" "law" (top 35) WR)
  (Z:∀x∈bltNames,nsIn K mainGlobals x=some none)
  (XA1:nsIn K mainGlobals "NetError" = some (some (.ref X1))) (XV:nsIn K mainGlobals "ValueError" = some none)
  (XB6:bH K a6 [a6,a7,a8,a9] [true,false,false,false]/\bH K a6 [nH,j7,iQ] [false,false,false]/\bH K a6 [nJ,oQ,oR] [false,false,false]/\kitOne K (.ref a6) (.ref oS)=some false/\kitOne K (.ref a6) (.ref X1)=some true/\kitOne K (.ref a6) (.type "ValueError")=some true)
  (XB7:bH K a7 [a6,a7,a8,a9] [false,true,false,false]/\bH K a7 [nH,j7,iQ] [false,false,false]/\bH K a7 [nJ,oQ,oR] [false,false,false]/\kitOne K (.ref a7) (.ref oS)=some false/\kitOne K (.ref a7) (.ref X1)=some true/\kitOne K (.ref a7) (.type "ValueError")=some true)
  (XB8:bH K a8 [a6,a7,a8,a9] [false,false,true,false]/\bH K a8 [nH,j7,iQ] [false,false,false]/\bH K a8 [nJ,oQ,oR] [false,false,false]/\kitOne K (.ref a8) (.ref oS)=some false/\kitOne K (.ref a8) (.ref X1)=some true/\kitOne K (.ref a8) (.type "ValueError")=some true)
  (XB9:bH K a9 [a6,a7,a8,a9] [false,false,false,true]/\bH K a9 [nH,j7,iQ] [false,false,false]/\bH K a9 [nJ,oQ,oR] [false,false,false]/\kitOne K (.ref a9) (.ref oS)=some false/\kitOne K (.ref a9) (.ref X1)=some true/\kitOne K (.ref a9) (.type "ValueError")=some true)
  (XB10:bH K nH [a6,a7,a8,a9] [false,false,false,false]/\bH K nH [nH,j7,iQ] [true,false,false]/\bH K nH [nJ,oQ,oR] [false,false,false]/\kitOne K (.ref nH) (.ref oS)=some false/\kitOne K (.ref nH) (.ref X1)=some true/\kitOne K (.ref nH) (.type "ValueError")=some true)
  (XB11:bH K j7 [a6,a7,a8,a9] [false,false,false,false]/\bH K j7 [nH,j7,iQ] [false,true,false]/\bH K j7 [nJ,oQ,oR] [false,false,false]/\kitOne K (.ref j7) (.ref oS)=some false/\kitOne K (.ref j7) (.ref X1)=some true/\kitOne K (.ref j7) (.type "ValueError")=some true)
  (XB12:bH K iQ [a6,a7,a8,a9] [false,false,false,false]/\bH K iQ [nH,j7,iQ] [false,false,true]/\bH K iQ [nJ,oQ,oR] [false,false,false]/\kitOne K (.ref iQ) (.ref oS)=some false/\kitOne K (.ref iQ) (.ref X1)=some true/\kitOne K (.ref iQ) (.type "ValueError")=some true)
  (XB13:bH K nJ [a6,a7,a8,a9] [false,false,false,false]/\bH K nJ [nH,j7,iQ] [false,false,false]/\bH K nJ [nJ,oQ,oR] [true,false,false]/\kitOne K (.ref nJ) (.ref oS)=some false/\kitOne K (.ref nJ) (.ref X1)=some true/\kitOne K (.ref nJ) (.type "ValueError")=some true)
  (XB14:bH K oQ [a6,a7,a8,a9] [false,false,false,false]/\bH K oQ [nH,j7,iQ] [false,false,false]/\bH K oQ [nJ,oQ,oR] [false,true,false]/\kitOne K (.ref oQ) (.ref oS)=some false/\kitOne K (.ref oQ) (.ref X1)=some true/\kitOne K (.ref oQ) (.type "ValueError")=some true)
  (XB15:bH K oR [a6,a7,a8,a9] [false,false,false,false]/\bH K oR [nH,j7,iQ] [false,false,false]/\bH K oR [nJ,oQ,oR] [false,false,true]/\kitOne K (.ref oR) (.ref oS)=some false/\kitOne K (.ref oR) (.ref X1)=some true/\kitOne K (.ref oR) (.type "ValueError")=some true)
  (XB16:bH K oS [a6,a7,a8,a9] [false,false,false,false]/\bH K oS [nH,j7,iQ] [false,false,false]/\bH K oS [nJ,oQ,oR] [false,false,false]/\kitOne K (.ref oS) (.ref oS)=some true/\kitOne K (.ref oS) (.ref X1)=some true/\kitOne K (.ref oS) (.type "ValueError")=some true)
  (XKA0:kitAny K (.ref a6) ([a7,iQ,a9,j7,a8].map Value.ref)=some false)
  (XKA1:kitAny K (.ref a7) ([iQ,a9,j7,a8].map Value.ref)=some false)
  (XKA2:kitAny K (.ref iQ) ([a9,j7,a8,nJ].map Value.ref)=some false)
  (XS0:L2.kE K a6 a6 true)
  (XS1:L2.kE K a7 a6 false)
  (XS2:L2.kE K a7 a7 true)
  (XS3:L2.kE K iQ a6 false)
  (XS4:L2.kE K iQ a7 false)
  (XS5:L2.kE K iQ iQ true)
  (XD0:a7≠a6)
  (XD1:iQ≠a6)
  (XD2:iQ≠a7)
  (V0:nsIn K mainGlobals "MOST_TIES" = some (some (.int (14) tk0)))
  (V1:nsIn K mainGlobals "MOST_PLACES" = some (some (.int (8) Y9))) :
  ∃fd:FuncData,(∀(s:Shared) (v:Value),BindsTo s fd ⟨[v],[]⟩ [("_law_script",v)])/\∀base:Heap,K.In base->base.Ns mainGlobals mg->dH l.prog w K mg base zg 60 fa fd ["_law_script"] (Ss K):=by
 have e:=Y8.symm.trans (aab X G A29);cases e;obtain⟨cl,hcl⟩:∃cl:Nat->Addr,cl=λn=>if n=1006 then a6 else if n=1007 then a7 else if n=1008 then a8 else if n=1009 then a9 else if n=1010 then nH else if n=1011 then j7 else if n=1012 then iQ else if n=1013 then nJ else if n=1014 then oQ else if n=1015 then oR else if n=1016 then oS else 0:=⟨_,rfl⟩
 have T:Base K cl mg cons tb:=by
  subst hcl;refine⟨λx hx=>?_,λp hp=>?_,λc hc=>?_,λp hp=>?_,λp hp=>?_,λp hp=>?_⟩
  ·exact abw X G (Z x hx)
  ·simp only[cons,mem_cons,not_mem_nil,or_false]at hp
   rcases hp with rfl|rfl
   ·exact⟨.int (14),_,aab X G V0,⟨_,rfl⟩,λ_ _ _=>VR.int⟩
   ·exact⟨.int (8),_,aab X G V1,⟨_,rfl⟩,λ_ _ _=>VR.int⟩
  ·exact absurd hc (Nat.not_lt_zero _)
  ·simp[tb]at hp
  ·simp[tb]at hp
  ·simp[tb]at hp
 obtain⟨fd,F⟩:=F29;obtain⟨_,_,_,_,_,_,_,_,_,e,_⟩:=F.ex;refine⟨fd,λs v=>by rw[e];exact .of_eq rfl,λbase _ _=>?_⟩;have G0:bV l.prog w ⟨K,cl⟩ mg base 0 Rh:=all_nil;have G1:bV l.prog w ⟨K,cl⟩ mg base 2 Ri:=fJ (x:="_law_cell_at") (N:=Ep) (ps:=Ep) (body:=dY) T G0 F0 (aab X G A0) c0 d0 (by decide) (by intro _ _ _ _ _ _ _ l;apply ln2 l;intros;rfl);have G2:bV l.prog w ⟨K,cl⟩ mg base 4 Rj:=fJ (x:="_law_number") (N:=Nk) (ps:=["_law_script","_law_seat","_law_k"]) (body:=fu) T G1 F1 (aab X G A1) c1 d1 (by decide) (by intro _ _ _ _ _ _ _ l;apply XZ l;intros;rfl);have G3:bV l.prog w ⟨K,cl⟩ mg base 6 Rk:=fJ (x:="_law_poles") (N:=Nl) (ps:=["_law_script","_law_many"]) (body:=gc) T G2 F2 (aab X G A2) c2 d2 (by decide) (by intro _ _ _ _ _ _ _ l;apply ln2 l;intros;rfl);have G4:bV l.prog w ⟨K,cl⟩ mg base 8 Rm:=fJ (x:="_law_ties") (N:=Nm) (ps:=Rc) (body:=g9) T G3 F3 (aab X G A3) c3 d3 (by decide) (by intro _ _ _ _ _ _ _ l;apply Wd l;intros;rfl);have G5:bV l.prog w ⟨K,cl⟩ mg base 10 Rn:=fJ (x:="_law_due") (N:=Nn) (ps:=Er) (body:=ic) T G4 F4 (aab X G A4) c4 d4 (by decide) (by intro _ _ _ _ _ _ _ l;apply ln2 l;intros;rfl);have G6:bV l.prog w ⟨K,cl⟩ mg base 12 Sv:=fJ (x:="_law_spoilt") (N:=Np) (ps:=Rf) (body:=dG) T G5 F5 (aab X G A5) c5 d5 (by decide) (by intro _ _ _ _ _ _ _ l;apply Wd l;intros;rfl);have G7:bV l.prog w ⟨K,cl⟩ mg base 14 Sw:=jJ (x:="NoNumber") (g:="number") G6 (by rw[show cl (1000+Sv.length)=a6 by rw[hcl];rfl];exact⟨aab X G A6,X1,b6,RC,_,["self","number"],XM6,nv (k:=13) (aas XT6) Yy (by decide) U5 rfl rfl,(aas XT6).binds (by intro _ _ _ _ _ _ _ l;apply ln2 l;intros;rfl),rfl,XQ6,XG6⟩);have G8:bV l.prog w ⟨K,cl⟩ mg base 16 Sx:=jJ (x:="Twice") (g:="tie") G7 (by rw[show cl (1000+Sw.length)=a7 by rw[hcl];rfl];exact⟨aab X G A7,X1,b7,RD,_,["self","tie"],XM7,nv (k:=15) (aas XT7) Yz (by decide) U6 rfl rfl,(aas XT7).binds (by intro _ _ _ _ _ _ _ l;apply ln2 l;intros;rfl),rfl,XQ7,XG7⟩);have G9:bV l.prog w ⟨K,cl⟩ mg base 18 Sy:=jJ (x:="BadRow") (g:="row") G8 (by rw[show cl (1000+Sx.length)=a8 by rw[hcl];rfl];exact⟨aab X G A8,X1,b8,RE,_,["self","row"],XM8,nv (k:=17) (aas XT8) YA (by decide) U7 rfl rfl,(aas XT8).binds (by intro _ _ _ _ _ _ _ l;apply ln2 l;intros;rfl),rfl,XQ8,XG8⟩);have Za:bV l.prog w ⟨K,cl⟩ mg base 20 II:=jJ (x:="NotThere") (g:="tie") G9 (by rw[show cl (1000+Sy.length)=a9 by rw[hcl];rfl];exact⟨aab X G A9,X1,b9,RG,_,["self","tie"],XM9,nv (k:=19) (aas XT9) YB (by decide) U8 rfl rfl,(aas XT9).binds (by intro _ _ _ _ _ _ _ l;apply ln2 l;intros;rfl),rfl,XQ9,XG9⟩);have Zb:bV l.prog w ⟨K,cl⟩ mg base 22 IJ:=jJ (x:="OtherTurn") (g:="side") Za (by rw[show cl (1000+II.length)=nH by rw[hcl];rfl];exact⟨aab X G A10,X1,SD,JO,_,["self","side"],XM10,nv (k:=21) (aas XT10) U9 (by decide) RA rfl rfl,(aas XT10).binds (by intro _ _ _ _ _ _ _ l;apply ln2 l;intros;rfl),rfl,XQ10,XG10⟩);have Zc:bV l.prog w ⟨K,cl⟩ mg base 24 IK:=jJ (x:="Over") (g:="winner") Zb (by rw[show cl (1000+IJ.length)=j7 by rw[hcl];rfl];exact⟨aab X G A11,X1,SE,JP,_,["self","winner"],XM11,nv (k:=23) (aas XT11) Va (by decide) RB rfl rfl,(aas XT11).binds (by intro _ _ _ _ _ _ _ l;apply ln2 l;intros;rfl),rfl,XQ11,XG11⟩);have Zd:bV l.prog w ⟨K,cl⟩ mg base 26 IL:=jf (x:="TooMany") Zc (by rw[show cl (1000+IK.length)=iQ by rw[hcl];rfl];exact⟨aab X G A12,X1,XZ12⟩);have Ze:bV l.prog w ⟨K,cl⟩ mg base 28 IM:=jf (x:="TooBig") Zd (by rw[show cl (1000+IL.length)=nJ by rw[hcl];rfl];exact⟨aab X G A13,X1,XZ13⟩);have Zf:bV l.prog w ⟨K,cl⟩ mg base 30 IP:=jf (x:="NoPaper") Ze (by rw[show cl (1000+IM.length)=oQ by rw[hcl];rfl];exact⟨aab X G A14,X1,XZ14⟩);have Zg:bV l.prog w ⟨K,cl⟩ mg base 32 IQ:=jf (x:="NoDeed") Zf (by rw[show cl (1000+IP.length)=oR by rw[hcl];rfl];exact⟨aab X G A15,X1,XZ15⟩);have Zh:bV l.prog w ⟨K,cl⟩ mg base 34 Nr:=jf (x:="BadLine") Zg (by rw[show cl (1000+IQ.length)=oS by rw[hcl];rfl];exact⟨aab X G A16,X1,XZ16⟩);have WS:cl (1000+6)=a6:=by rw[hcl];rfl
 have WU:cl (1000+7)=a7:=by rw[hcl];rfl
 have Zi:cl (1000+8)=a8:=by rw[hcl];rfl
 have Zj:cl (1000+9)=a9:=by rw[hcl];rfl
 have Vf:cl (1000+10)=nH:=by rw[hcl];rfl
 have Vg:cl (1000+11)=j7:=by rw[hcl];rfl
 have RH:cl (1000+12)=iQ:=by rw[hcl];rfl
 have Vh:cl (1000+13)=nJ:=by rw[hcl];rfl
 have Vi:cl (1000+14)=oQ:=by rw[hcl];rfl
 have Vj:cl (1000+15)=oR:=by rw[hcl];rfl
 have Vk:cl (1000+16)=oS:=by rw[hcl];rfl
 have Zk:∀c bs,yQ c=some bs->L2.fc K (cl (1000+c))/\∃bs1 jq kO b4,bs=bs1++jq++kO++[b4,true]/\bs1.length+jq.length+kO.length<=20/\bH K (cl (1000+c)) [a6,a7,a8,a9] bs1/\bH K (cl (1000+c)) [nH,j7,iQ] jq/\bH K (cl (1000+c)) [nJ,oQ,oR] kO/\kitOne K (.ref (cl (1000+c))) (.ref oS)=some b4/\kitOne K (.ref (cl (1000+c))) (.ref X1)=some true/\kitOne K (.ref (cl (1000+c))) (.type "ValueError")=some true:=λc bs h=>by
  refine Rg (Q:=λc bs=>L2.fc K (cl (1000+c))/\∃bs1 jq kO b4,bs=bs1++jq++kO++[b4,true]/\bs1.length+jq.length+kO.length<=20/\bH K (cl (1000+c)) [a6,a7,a8,a9] bs1/\bH K (cl (1000+c)) [nH,j7,iQ] jq/\bH K (cl (1000+c)) [nJ,oQ,oR] kO/\kitOne K (.ref (cl (1000+c))) (.ref oS)=some b4/\kitOne K (.ref (cl (1000+c))) (.ref X1)=some true/\kitOne K (.ref (cl (1000+c))) (.type "ValueError")=some true) h ?_ ?_ ?_ ?_ ?_ ?_ ?_ ?_ ?_ ?_ ?_
  ·rw[WS];exact⟨XG6,[true,false,false,false],[false,false,false],[false,false,false],false,rfl,by decide,XB6⟩
  ·rw[WU];exact⟨XG7,[false,true,false,false],[false,false,false],[false,false,false],false,rfl,by decide,XB7⟩
  ·rw[Zi];exact⟨XG8,[false,false,true,false],[false,false,false],[false,false,false],false,rfl,by decide,XB8⟩
  ·rw[Zj];exact⟨XG9,[false,false,false,true],[false,false,false],[false,false,false],false,rfl,by decide,XB9⟩
  ·rw[Vf];exact⟨XG10,[false,false,false,false],[true,false,false],[false,false,false],false,rfl,by decide,XB10⟩
  ·rw[Vg];exact⟨XG11,[false,false,false,false],[false,true,false],[false,false,false],false,rfl,by decide,XB11⟩
  ·rw[RH];exact⟨XG12,[false,false,false,false],[false,false,true],[false,false,false],false,rfl,by decide,XB12⟩
  ·rw[Vh];exact⟨XG13,[false,false,false,false],[false,false,false],[true,false,false],false,rfl,by decide,XB13⟩
  ·rw[Vi];exact⟨XG14,[false,false,false,false],[false,false,false],[false,true,false],false,rfl,by decide,XB14⟩
  ·rw[Vj];exact⟨XG15,[false,false,false,false],[false,false,false],[false,false,true],false,rfl,by decide,XB15⟩
  ·rw[Vk];exact⟨XG16,[false,false,false,false],[false,false,false],[false,false,false],true,rfl,by decide,XB16⟩
 have Zl:bV l.prog w ⟨K,cl⟩ mg base 36 EB:=lY (r0:=("_law_kinds",3001,nE)) Zh (.inr (.inr (.inr ⟨rfl,Vd,_,["_law_e"],aab X G A17,F17.kp,(aas F17).binds (by intro _ _ _ _ _ _ _ l;apply Sq l;intros;rfl),Na (k:=35) (aas F17) YC YD Vb Vc YE (abw X G (Z _ (by decide))) (abw X G XV) ⟨_,_,rfl,aab X G A6,_,_,rfl,aab X G A7,_,_,rfl,aab X G A8,_,_,rfl,aab X G A9,rfl⟩ ⟨_,_,rfl,aab X G A10,_,_,rfl,aab X G A11,_,_,rfl,aab X G A12,rfl⟩ ⟨_,_,rfl,aab X G A13,_,_,rfl,aab X G A14,_,_,rfl,aab X G A15,rfl⟩ (aab X G A16) (aab X G XA1) Zk⟩)));have Zm:bV l.prog w ⟨K,cl⟩ mg base 38 EC:=fJ (x:="_law_by_hand") (N:=Nq) (ps:=["_law_one","_law_two"]) (body:=cV) T Zl F18 (aab X G A18) YF YG (by decide) (by intro _ _ _ _ _ _ _ l;apply ln2 l;intros;rfl);have Zn:bV l.prog w ⟨K,cl⟩ mg base 40 ED:=fJ (x:="_law_wholes") (N:=wZ) (ps:=wZ) (body:=fy) T Zm F19 (aab X G A19) YH YI (by decide) (by intro _ _ _ _ _ _ _ l;apply ln2 l;intros;rfl);have Zo:bV l.prog w ⟨K,cl⟩ mg base 42 EE:=fJ (x:="_law_same_net") (N:=xg) (ps:=xg) (body:=dh) T Zn F20 (aab X G A20) YJ YK (by decide) (by intro _ _ _ _ _ _ _ l;apply ln2 l;intros;rfl);have Zp:bV l.prog w ⟨K,cl⟩ mg base 44 EF:=fJ (x:="is_number") (N:=["number"]) (ps:=["number"]) (body:=dZ) T Zo F21 (aab X G A21) YL YM (by decide) (by intro _ _ _ _ _ _ _ l;apply Sq l;intros;rfl);have Zq:bV l.prog w ⟨K,cl⟩ mg base 46 EG:=fJ (x:="refuse_numbers") (N:=Es) (ps:=tw) (body:=bC) T Zp F22 (aab X G A22) YN YO (by decide) (by intro _ _ _ _ _ _ _ l;apply ln2 l;intros;rfl);have Zr:bV l.prog w ⟨K,cl⟩ mg base 48 EH:=fJ (x:="refuse_names") (N:=Et) (ps:=["ties"]) (body:=bP) T Zq F23 (aab X G A23) YQ YR (by decide) (by intro _ _ _ _ _ _ _ l;apply Sq l;intros;rfl);have Zs:bV l.prog w ⟨K,cl⟩ mg base 50 EI:=fJ (x:="put_in_order") (N:=Eu) (ps:=tw) (body:=cC) T Zr F24 (aab X G A24) YS YT (by decide) (by intro _ _ _ _ _ _ _ l;apply ln2 l;intros;rfl);have WW:bV l.prog w ⟨K,cl⟩ mg base 52 EJ:=fJ (x:="places_of") (N:=Ew) (ps:=["net"]) (body:=d7) T Zs F25 (aab X G A25) YU YV (by decide) (by intro _ _ _ _ _ _ _ l;apply Sq l;intros;rfl);have WX:bV l.prog w ⟨K,cl⟩ mg base 54 EK:=fJ (x:="net_of") (N:=Ey) (ps:=tw) (body:=ie) T WW F26 (aab X G A26) WD WE (by decide) (by intro _ _ _ _ _ _ _ l;apply ln2 l;intros;rfl);have Zt:Ng K mg (cl (1000+6)) (cl (1000+7)) (cl (1000+12)) X1 [a7,iQ,a9,j7,a8] [iQ,a9,j7,a8] [a9,j7,a8,nJ]:=by rw[WS,WU,RH];exact⟨XG6,XG7,XG12,aab X G A6,aab X G A7,aab X G A12,aab X G XA1,XQ6,XQ7,⟨_,_,rfl,aab X G A7,_,_,rfl,aab X G A12,_,_,rfl,aab X G A9,_,_,rfl,aab X G A11,_,_,rfl,aab X G A8,rfl⟩,⟨_,_,rfl,aab X G A12,_,_,rfl,aab X G A9,_,_,rfl,aab X G A11,_,_,rfl,aab X G A8,rfl⟩,⟨_,_,rfl,aab X G A9,_,_,rfl,aab X G A11,_,_,rfl,aab X G A8,_,_,rfl,aab X G A13,rfl⟩,show 5<=20 by decide,show 4<=20 by decide,show 4<=20 by decide,⟨XB6.2.2.2.2.1,XB6.2.2.2.2.2,XKA0⟩,⟨XB7.2.2.2.2.1,XB7.2.2.2.2.2,XKA1⟩,⟨XB12.2.2.2.2.1,XB12.2.2.2.2.2,XKA2⟩,XS0,XS1,XS2,XS3,XS4,XS5,XD0,XD1,XD2⟩
 have Zu:bV l.prog w ⟨K,cl⟩ mg base 56 EL:=lY (r0:=("_law_met",2,uY)) WX (.inl ⟨by decide,Ve,_,["_law_poles_here","_law_ties_here"],rfl,aab X G A27,F27.kp,(aas F27).binds (by intro _ _ _ _ _ _ _ l;apply ln2 l;intros;rfl),Nj T WX (aas F27) YW YY YX Y3 YZ Y0 (abw X G (Z _ (by decide))) (abw X G XV) Zt ((DH T WW (aas F26) WD WE).mono (by decide)) ((aas F26).binds (by intro _ _ _ _ _ _ _ l;apply ln2 l;intros;rfl)) (aab X G A26) F26.kp⟩);have Zv:bV l.prog w ⟨K,cl⟩ mg base 58 IT:=fJ (x:="_law_net") (N:=Ez) (ps:=Er) (body:=jt) T Zu F28 (aab X G A28) Y4 Y5 (by decide) (by intro _ _ _ _ _ _ _ l;apply ln2 l;intros;rfl);exact(HL (DH T Zv F Y6 Y7)).imp (Mw hφ)
end
end K02
end
section
open PySem L2 Hv
set_option hygiene false
local macro_rules | `(tactic| simp only[EV,$ls,*] $[$l:location]?)=>`(tactic| simp only[fk,DL,M0,M1,M3,D7,Qy,Qz,QA,QB,QC,MT,QD,MU,MV,UI,QE,QF,aG,aY,vf,bq,qm,fM,N6,HP,HN,rL,Wf,JI,aU,MR,gu,uT,MS,isVar,iO,List.getElem?_cons_zero,getElem?_cons_succ,List.set_cons_zero,List.set_cons_succ,map_cons,map_nil,length_cons,length_nil,cons_append,nil_append,List.replicate_succ,List.replicate_zero,Nat.reduceSub,reduceAdd,Nat.reduceLeDiff,QG,QH,UJ,UK,UL,UM,UN,UO,QI,QJ,D8,QK,QL,QM,QN,QO,QS,QT,MW,MX,MY,MZ,Io,QU,kR,bw,ql,UD,c9,kj,Hv.stored,List.contains_nil,contains_cons,List.elem_nil,List.elem_cons,Nat.reduceBEq,Nat.reduceEqDiff,BEq.rfl,List.all_cons,List.all_nil,beq_self_eq_true,zZ,dX,rE,kr,oM,↓reduceIte,Bool.and_true,Bool.true_and,Bool.false_and,Bool.and_false,Bool.or_false,Bool.false_or,Bool.or_true,Bool.true_or,Bool.or_self,Nat.zero_le,Bool.not_true,Bool.not_false,false_eq_true,decide_eq_true_eq,not_eq_true',decide_eq_false_iff_not,List.append_nil,nil_append,reduceCtorEq,$ls,*] $[$l:location]?)
section
open PySem L2 Hv
namespace K02
def cellAt(ns:List Int)(k:Nat):Int:=ns.getD k 0
theorem jR(ns:List Int)(k:Nat):bf [.rl (ns.map .int),.int k]=.ok (true,.int (cellAt ns k)):=by
 unfold bf dY
 by_cases h:k<ns.length
 ·have e:jU (List.map Val.int ns) (k:Int)=some (.int (ns[k])):=jB (by simp[h])
  have h':(k:Int)<ns.length:=by omega
  simp only[EV,n6 e,length_map,h',cellAt,List.getD,List.getElem?_eq_getElem h,Option.getD_some]
 ·have h':¬ (k:Int)<ns.length:=by omega
  have e:ns[k]?=none:=by simp;omega
  simp only[EV,length_map,h',cellAt,List.getD,e,getD_none]
def number(ns:List Int)(qN:Nat)(k:Int):Int :=
 let one:=cellAt ns qN
 let two:=cellAt ns (qN+1)
 let step:=if 0<one%3 then one%10 ^ 57+1 else 1
 let shift:=if 0<two%3 then two%10 ^ 57 else 0
 let here:=step*(((1+two/3%66)*k+one/3%67)%67)+shift
 if two%7=3 then 10 ^ 60-1-here else here
theorem tO(a b:Int)(h:0<=b/\b<67):dD a b=true:=by
 unfold dD;simp only[or_eq_true,and_eq_true,decide_eq_true_eq];right;omega
theorem qO(a b:Int)(h:0<=a/\a<67):dD a b=true:=by
 unfold dD;simp only[or_eq_true,and_eq_true,decide_eq_true_eq];left;omega
theorem eW(ns:List Int)(qN:Nat)(k:Int):dz [.rl (ns.map .int),.int qN,.int k]=.ok (true,.int (number ns qN k)):=by
 have c1:=jR ns qN;have c2:bf [.rl (ns.map .int),.int ((qN:Int)+1)]=.ok (true,.int (cellAt ns (qN+1))):=jR ns (qN+1);unfold dz fu number;generalize h1:cellAt ns qN=one at *;generalize h2:cellAt ns (qN+1)=two at *;have m1:dD (1+two/3%66) k=true:=qO _ _ (by omega);have m2:∀x,dD x (((1+two/3%66)*k+one/3%67)%67)=true:=λx=>tO _ _ (by omega);simp only[EV,iP,c1,c2,cZ (show decide ((0:Int)<3)=true by decide),cZ (show decide ((0:Int)<7)=true by decide),cZ (show decide ((0:Int)<66)=true by decide),cZ (show decide ((0:Int)<67)=true by decide),gJ (show iZ 3=true by decide),qy (show decide ((0:Int)<=57/\(57:Int)<=1000000/\(10:Int).natAbs<2 ^ 64)=true by decide),qy (show decide ((0:Int)<=60/\(60:Int)<=1000000/\(10:Int).natAbs<2 ^ 64)=true by decide),nZ m1,nZ (m2 _),cZ (show decide ((0:Int)<10 ^ (57:Int).toNat)=true by decide)]
 repeat' split
 all_goals first|rfl|contradiction
theorem qP:∀(i:Nat) (ms:List Int) (pre post:List Val) (x:Val),bW i (ms.map .int)=pre++x::post->∃c:Int,x=.tup [.int ((i+pre.length:Nat):Int),.int c]
 |_,[],pre,post,x,h=>by simp[bW]at h
 | i,d::r,[],post,x,h=>by
  rw[aap,bW,abQ]at h;injection h with h _
  exact⟨d,by rw[<-h];rfl⟩
 | i,d::r,y::pre,post,x,h=>by
  rw[aap,bW,cons_append]at h;injection h with _ h
  obtain⟨c,e⟩:=qP (i+1) r pre post x h;exact⟨c,by rw[e,aaC];congr 4;omega⟩
theorem I0(ns:List Int)(start most many:Int)(h0:0<=start)(h1:0<=most)(h2:most<=16)(hm:decide (0<many)=true):∃(f:Bool) (ts:List T3),jw [.rl (ns.map .int),.int start,.int most,.int many]=.ok (f,.rl (ts.map aq))/\ts.length<=16:=by
 unfold jw g9;simp only[EV,sY,D9,gY];rw[D6];obtain⟨m,rfl⟩:=abn h1;have hlen:=BK ns start m h0;generalize dM ns (some start) (some (start+(m:Int)))=cs at *;have hx:bW 0 (cs.map Val.int)=(bW 0 (cs.map Val.int)).map id:=(map_id _).symm;rw[hx];refine nt id (λr:Pr FV=>∃(f:Bool) (ts:List T3),r=.ok (f,.rl (ts.map aq))/\ts.length<=16)
  (λdone env=>∃(ts:List T3) (a b c d:Option (Hv.Mk×Val)),env=[some (.sh,.rl (ns.map .int)),some (.sh,.int start),some (.sh,.int m),some (.sh,.int many),some (.ow,.rl (ts.map aq)),a,b,c,d]/\ts.length=done.length)
  ⟨[],none,none,none,none,rfl,rfl⟩ ?_ ?_
 ·rintro pre x post env hx ⟨ts,a,b,c,d,rfl,hl⟩
  have hpl:pre.length<16:=by have:=aa3 length hx;rw[nq,Z8,aao,aaC]at this;omega
  obtain⟨cell,rfl⟩:=qP _ _ _ _ _ hx;rw[Nat.zero_add];have e1:=eW ns 2 (cell*48271%10007%many);have e2:=eW ns 2 (cell*16807%10009%many);have e3:=eW ns 0 (pre.length:Int);rw[show ((2:Nat):Int)=2 from rfl]at e1 e2;rw[show ((0:Nat):Int)=0 from rfl]at e3;generalize ZZ:number ns 2 (cell*48271%10007%many)=n1 at *;generalize Z0:number ns 2 (cell*16807%10009%many)=n2 at *;generalize Z1:number ns 0 (pre.length:Int)=n3 at *;have z3:3<=sizeLine:=by decide
  have m1:∀x:Int,dD x 48271=true:=λx=>by unfold dD;simp
  have m2:∀x:Int,dD x 16807=true:=λx=>by unfold dD;simp
  have z:ts.length<sizeLine:=by rw[hl];unfold sizeLine;omega
  refine⟨[some (.sh,.rl (ns.map .int)),some (.sh,.int start),some (.sh,.int m),some (.sh,.int many),some (.ow,.rl ((ts++[(n3,n1,n2)]).map aq)),some (.sh,.int pre.length),some (.sh,.int cell),some (.sh,.int n1),some (.sh,.int n2)],?_,_,_,_,_,_,rfl,by rw[aao,aao,hl];rfl⟩;simp only[EV,id,Ea,kP,nZ (m1 _),nZ (m2 _),cZ hm,cZ (show decide ((0:Int)<10007)=true by decide),cZ (show decide ((0:Int)<10009)=true by decide),e1,e2,e3,length_map,z,z3,List.map_append,aq]
 ·rintro env ⟨ts,a,b,c,d,rfl,hl⟩;refine⟨_,ts,by simp only[EV,aU];rfl,?_⟩;rw[hl,nq,Z8];omega
theorem E7(ns:List Int)(many:Int):∃f p q,iu [.rl (ns.map .int),.int many]=.ok (f,.tup [.int p,.int q]):=by
 have e1:=eW ns 2 0;have e2:=eW ns 2 1;rw[show ((2:Nat):Int)=2 from rfl]at e1 e2;have c1:bf [.rl (ns.map .int),.int 4]=.ok (true,.int (cellAt ns 4)):=jR ns 4;have z:2<=sizeLine:=by decide
 unfold iu gc;simp only[EV,jx,j6,e1,e2,c1,gJ (show iZ 8=true by decide),cZ (show decide ((0:Int)<5)=true by decide)];simp(config:={decide:=false}) only [z,if_true]
 by_cases h1:many=1
 ·exact⟨true,number ns 2 0,number ns 2 0,by simp[h1]⟩
 ·by_cases h2:cellAt ns 4/8%5=4
  ·exact⟨true,number ns 2 0,number ns 2 0,by simp[h1,h2]⟩
  ·exact⟨true,number ns 2 0,number ns 2 1,by simp[h1,h2]⟩
theorem NG{p q:Int}{ts:List T3}(hl:ts.length<=63):mE [.tup [.int p,.int q],.rl (ts.map aq)]=.ok (true,gK (min p q) (max p q) (f9 (ts.map turnT))):=by
 unfold mE jt;have z:2<=sizeLine:=by decide
 have z3:3<=sizeLine:=by decide
 have hc:ts.length<=100000:=by omega
 simp only[EV,gX,length_map,hc,jg];rw[eT aq (λt=>aq (turnT t)) ts (λt ht=>by
  simp only[EV,An,z3];rfl)]
 have em:ts.map (λt=>aq (turnT t))=(ts.map turnT).map aq:=by rw[abv];rfl
 rw[em];simp only[EV,z,wX (show (ts.map turnT).length<64 by rw[length_map];omega)];rfl
theorem order_eq{p q:Int}{us:List T3}(hl:us.length<=16):cR [.tup [.int p,.int q],.rl (us.map aq)]=.ok (true,gK (if q<p then q else p) (if q>p then q else p) (f9 (us.map turnT))):=by
 unfold cR cC;have z0:0<=sizeLine:=by decide
 have z2:2<=sizeLine:=by decide
 have z3:3<=sizeLine:=by decide
 simp only[EV,gX];rw[D6];refine nt aq (λr:Pr FV=>r=.ok (true,gK (if q<p then q else p) (if q>p then q else p) (f9 (us.map turnT))))
  (λdone env=>∃a b c,env=[some (.sh,.tup [.int p,.int q]),some (.sh,.rl (us.map aq)),some (.ow,.rl ((done.map turnT).map aq)),a,b,c])
  ⟨none,none,none,rfl⟩ ?_ ?_
 ·rintro pre t post env hx ⟨a,b,c,rfl⟩
  have hpl:pre.length<16:=by have:=aa3 length hx;rw[aao,aaC]at this;omega
  have z:((pre.map turnT).map aq).length<sizeLine:=by rw[Z8,Z8];unfold sizeLine;omega
  refine⟨[some (.sh,.tup [.int p,.int q]),some (.sh,.rl (us.map aq)),some (.ow,.rl (((pre++[t]).map turnT).map aq)),some (.sh,.int t.1),some (.sh,.int t.2.1),some (.sh,.int t.2.2)],?_,_,_,_,rfl⟩;have ea:((pre++[t]).map turnT).map aq=(pre.map turnT).map aq++[aq (turnT t)]:=by simp
  simp only[EV,An,z3,z,ea];rfl
 ·rintro env ⟨a,b,c,rfl⟩;simp only[EV,jo wQ,jo yJ,z2,wX (show (us.map turnT).length<64 by rw[length_map];omega)];rfl
def aO(p q:Int)(ts:List T3):List Int:=p::q::ts.flatMap λt=>[t.2.1,t.2.2]
def SG(p q:Int)(ts:List T3):List Int:=fX (aO p q ts)
theorem nK(p q:Int)(ts:List T3):(aO p q ts).length=2+2*ts.length:=by
 unfold aO
 induction ts with
 |nil=>rfl
 |cons t r ih=>simp only[List.flatMap_cons,length_cons,length_append,length_nil] at *;omega
theorem xF:∀(ns ks:List Int),(aV ks ns).length<=ks.length+ns.length
 |[],ks=>aag _
 | k::r,ks=>by
  rw[aV,aaC];have:=xF r (iU ks k);have:=lz ks k;omega
theorem places_eq{p q:Int}(h:ts.length<=16):fF [gK p q ts]=.ok (true,.rl ((SG p q ts).map .int)):=by
 unfold fF d7 gK;simp only[EV,jo wQ,jo yJ,gX];rw[D6];refine nt aq (λr:Pr FV=>r=.ok (true,.rl ((SG p q ts).map .int)))
  (λdone env=>∃a,env=[some (.sh,gK p q ts),some (.ow,.rl ((aO p q done).map .int)),a])
  ⟨none,rfl⟩ ?_ ?_
 ·rintro pre t post env hx ⟨a,rfl⟩
  refine⟨[some (.sh,gK p q ts),some (.ow,.rl ((aO p q (pre++[t])).map .int)),some (.sh,aq t)],?_,_,rfl⟩;have hpl:pre.length<16:=by have:=aa3 length hx;rw[aao,aaC]at this;omega
  have z:((aO p q pre).map Val.int).length+2<=sizeLine:=by rw[Z8,nK];unfold sizeLine;omega
  have ea:(aO p q (pre++[t])).map Val.int=(aO p q pre).map Val.int++[.int t.2.1,.int t.2.2]:=by unfold aO;simp
  simp only[EV,bM,M4,z,ea]
 ·rintro env ⟨a,rfl⟩
  have hl:(aO p q ts).length<64:=by rw[nK];omega
  simp only[EV,ints_map,hl];rfl
theorem Zw(t:Int):fH (.isin "int") [.int t]=.ok (true,.bl true):=nk (t:="int") rfl (by decide)
theorem Vl(t:Int):fH (.isin "bool") [.int t]=.ok (true,.bl false):=yK (t:="int") rfl (by decide)
theorem WY(vs:List Val):fH (.isin "tuple") [.tup vs]=.ok (true,.bl true):=nk (t:="tuple") rfl (by decide)
theorem Zx(vs:List Val):fH (.isin "list") [.rl vs]=.ok (true,.bl true):=nk (t:="list") rfl (by decide)
theorem tQ(xs:List Int)(hl:xs.length<=100000):dB [.tup (xs.map .int),.int xs.length]=.ok (true,.bl true):=by
 unfold dB fy;simp only[EV,WY,length_map,decide_true,QV,hl,jg];rw[eT Val.int (λ_=>Val.bl true) xs (λx hx=>by
  simp only[EV,bM,Zw,Vl])]
 simp only[EV,all_true]
theorem xG{p q:Int}(hl:ts.length<=16):cW [gK p q ts,gK p q ts]=.ok (true,.bl true):=by
 have w2:dB [.tup [.int p,.int q],.int 2]=.ok (true,.bl true):=tQ [p,q] (by simp);have w3:∀t:T3,dB [aq t,.int 3]=.ok (true,.bl true):=λt=>tQ (l3 t) (by simp[l3]);have WZ:cop [] .eq (gK p q ts) (gK p q ts)=some true:=by
  have:=Iv p q ts;change (cop [] .eq (gK p q ts) (gK p q ts)).map _=_ at this;cases h:cop [] .eq (gK p q ts) (gK p q ts) with
  |none=>rw[h]at this;cases this
  |some b=>rw[h]at this;cases b<;>simp_all
 unfold cW dh;have hc:ts.length<=100000:=by omega
 have ed:gK p q ts=.tup [.tup [.int p,.int q],.rl (ts.map aq)]:=rfl;rw[ed] at WZ;rw[ed];simp only[EV,WY,Zx,jo wQ,jo yJ,d8,w2,decide_true,gX,show ((2:Nat):Int)=2 from rfl,length_map,hc,jg];rw[eT aq (λ_=>Val.bl true) ts (λt ht=>by
  simp only[EV,bM,d8,w3])]
 simp only[EV,all_true,WZ]
end K02
end
section
open PySem L2 Hv
namespace K02
def di{α:Type}(bad:List α -> α -> Bool):List α -> List α -> Option α
 |_,[]=>none
 |done,u::r=>if bad done u=true then some u else di bad (done++[u]) r
theorem jS{α:Type}(enc:α -> Val)(Q:List α -> bg->Prop)(bad:List α -> α -> Bool)(stop:α -> Pr DM)(hs:∀u,(∃c ds,stop u=.exc c ds)\/∃r,stop u=.ok (.rt r)) :
  ∀(us done:List α) (env:bg),Q done env->(∀pre u post env,us=pre++u::post->Q (done++pre) env->if bad (done++pre) u=true then body (enc u) env=stop u else ∃env',body (enc u) env=.ok (.nx env')/\Q (done++pre++[u]) env') ->
  (∃u,di bad done us=some u/\fO body (us.map enc) env=stop u)\/(di bad done us=none/\∃env',fO body (us.map enc) env=.ok (.nx env')/\Q (done++us) env')
 |[],done,env,q,_=>.inr ⟨rfl,env,by rw[abt,fO],by rw[aaJ];exact q⟩
 | u::us,done,env,q,h=>by
  have h0:=h [] u us env rfl (by rw[aaJ];exact q);rw[aaJ]at h0;rw[aap,fO,di]
  by_cases c:bad done u=true
  ·rw[aae c]at h0 |-
   refine .inl ⟨u,rfl,?_⟩;rw[h0]
   rcases hs u with ⟨cc,ds,e⟩|⟨r,e⟩<;>rw[e]<;>rfl
  ·rw[aac c]at h0 |-
   obtain⟨env',e,q'⟩:=h0;rw[e,aU];have:=jS enc Q bad stop hs us (done++[u]) env' q' λpre v post gF e2 q2=>by
    have:=h (u::pre) v post gF (by rw[e2];rfl) (by rw[show done++u::pre=done++[u]++pre by simp];exact q2);rw[show done++u::pre=done++[u]++pre by simp]at this;exact this
   rcases this with ⟨v,e1,e2⟩|⟨e1,gF,e2,q2⟩
   ·exact .inl ⟨v,e1,e2⟩
   ·exact .inr ⟨e1,gF,e2,by rw[show done++u::us=done++[u]++us by simp];exact q2⟩
def good(n:Int):Bool:=decide (0<=n)&&decide (n<10 ^ 60)
def mG(_:List Int)(n:Int):Bool:=!good n
def nL(done:List T3)(t:T3):Bool:=decide (t.1∈done.map (·.1))
theorem vc(x:Int):fD [.int x]=.ok (true,.bl (good x)):=by
 unfold fD dZ good;have e:(10:Int) ^ (60:Int).toNat=10 ^ 60:=rfl
 by_cases h0:(0:Int)<=x
 ·simp only[EV,qy (show decide ((0:Int)<=60/\(60:Int)<=1000000/\(10:Int).natAbs<2 ^ 64)=true by decide),h0,decide_true,e]
 ·simp only[EV,qy (show decide ((0:Int)<=60/\(60:Int)<=1000000/\(10:Int).natAbs<2 ^ 64)=true by decide),h0,decide_false,e]
def aR(p q:Int)(us:List T3):List Int:=p::q::us.flatMap l3
theorem tR(p q:Int)(us:List T3):(aR p q us).length=2+3*us.length:=by
 unfold aR
 induction us with
 |nil=>rfl
 |cons t r ih=>simp only[List.flatMap_cons,length_cons,length_append,l3,length_nil] at *;omega
theorem Vm{i:Int}:iK [.int i]=.exc 6 [.str "number",.int i]:=rfl
theorem Vn{i:Int}:o7 [.int i]=.exc 7 [.str "tie",.int i]:=rfl
theorem NH:jQ []=.exc 12 []:=rfl
theorem jn{α β:Type}{c:Nat}{f:α -> Pr β}:pb (.exc c ds) f=.exc c ds:=rfl
theorem bI{ms:List Nat}(h:aY Ψ ms st env=.ok (.nx env')):aG Ψ ms (.cons st r) env=aG Ψ ms r env':=by
 rw[aG,h];rfl
theorem mH{ms:List Nat}(h:aY Ψ ms st env=.ok (.rt v)):aG Ψ ms (.cons st r) env=.ok (.rt v):=by
 rw[aG,h];rfl
theorem JQ{ms:List Nat}{c:Nat}(h:aY Ψ ms st env=.exc c ds):aG Ψ ms (.cons st r) env=.exc c ds:=by
 rw[aG,h];rfl
theorem gg{ms:List Nat}(hs:(zZ p #[e] body&&(stored p).all λi=>!ms.contains i)=true)(hx:fM Ψ #[e] env=.ok [v])(hv:gG k [v]=some xs):aY Ψ ms (.for p k #[e] body) env=fO (λx env=>pb (pl (cY p x env)) λenv'=>aG Ψ ms body env') xs env:=by
 rw[aY,hs,hx];show pb (pl (gG k [v])) _=_;rw[hv];rfl
def bA:eZ:=.cons (.expr (.met .extend (!2) #[!3])) .nil
def bN:eZ:=.cons (.iff (.not (.call 21 #[!4])) #[.setF 0 (.call 6 #[!4]) "" .no] .nil) .nil
theorem RI:bC=.cons (.asg (.one 2) (.blt .list #[!0])) #[.for (.one 3) .seq #[!1] bA,.for (.one 4) .seq #[!2] bN]:=rfl
abbrev pV(p q:Int):Val:=.tup [.int p,.int q]
theorem mJ{p q:Int}(hl:us.length<=16):cg [pV p q,.rl (us.map aq)]=(match di mG [] (aR p q us) with|some n=>.exc 6 [.str "number",.int n]|none=>.ok (true,.non)):=by
 unfold cg fk;rw[show dX bC=[2] by decide +kernel,RI];show pb (aG (ai uZ) [2] _ [some (.sh,pV p q),some (.sh,.rl (us.map aq)),none,none,none]) _=_;rw[bI (env':=[some (.sh,pV p q),some (.sh,.rl (us.map aq)),some (.ow,.rl ((aR p q []).map .int)),none,none]) (by simp only[EV,aU];rfl)];have l1:∃a,fO (λx env=>pb (pl (cY (.one 3) x env)) λenv'=>aG (ai uZ) [2] bA env') (us.map aq) [some (.sh,pV p q),some (.sh,.rl (us.map aq)),some (.ow,.rl ((aR p q []).map .int)),none,none]=.ok (.nx [some (.sh,pV p q),some (.sh,.rl (us.map aq)),some (.ow,.rl ((aR p q us).map .int)),a,none]):=by
  obtain⟨env',e,a,rfl⟩:=jP aq (body:=λx env=>pb (pl (cY (.one 3) x env)) λenv'=>aG (ai uZ) [2] bA env') (λdone env=>∃a,env=[some (.sh,pV p q),some (.sh,.rl (us.map aq)),some (.ow,.rl ((aR p q done).map .int)),a,none]) us [] _ ⟨none,rfl⟩ (by
   rintro pre t post env hx ⟨a,rfl⟩;have hpl:pre.length<16:=by have:=aa3 length hx;rw[abQ]at this;rw[aao,aaC]at this;omega
   refine⟨[some (.sh,pV p q),some (.sh,.rl (us.map aq)),some (.ow,.rl ((aR p q (pre++[t])).map .int)),some (.sh,aq t),none],?_,_,rfl⟩;have z:((aR p q pre).map Val.int).length+3<=sizeLine:=by rw[Z8,tR];unfold sizeLine;omega
   have ea:(aR p q (pre++[t])).map Val.int=(aR p q pre).map Val.int++[.int t.1,.int t.2.1,.int t.2.2]:=by unfold aR;simp[l3]
   unfold bA;simp only[EV,bM,aq,z,ea])
  exact⟨a,e⟩
 obtain⟨a,l1⟩:=l1;rw[bI (Eq.trans (gg (by decide +kernel) (by simp only[EV,aU]) gX) l1)];have st:=jS Val.int (body:=λx env=>pb (pl (cY (.one 4) x env)) λenv'=>aG (ai uZ) [2] bN env')
   (λ_ env=>∃b,env=[some (.sh,pV p q),some (.sh,.rl (us.map aq)),some (.ow,.rl ((aR p q us).map .int)),a,b]) mG (λn=>.exc 6 [.str "number",.int n]) (λu=>.inl ⟨_,_,rfl⟩) (aR p q us) []
   [some (.sh,pV p q),some (.sh,.rl (us.map aq)),some (.ow,.rl ((aR p q us).map .int)),a,none] ⟨none,rfl⟩ (by
    rintro pre x post env hx ⟨b,rfl⟩;have e:=vc x;have ln:ai uZ 6=iK:=rfl;unfold bN
    by_cases c:good x=true
    ·rw[aac (by unfold mG;rw[c];decide)];refine⟨_,?_,some (.sh,.int x),rfl⟩;simp only[EV,bM,cJ,e,c]
    ·rw[aae (by unfold mG;simp[c])]
     have c:good x=false:=by simpa using c
     simp only[EV,bM,cJ,e,c,ln,Vm,jn])
 rcases st with ⟨u,e1,e2⟩|⟨e1,env',e2,_⟩
 ·rw[e1,JQ (Eq.trans (gg (by decide +kernel) (by simp only[EV,aU]) gX) e2)];rfl
 ·rw[e1,bI (Eq.trans (gg (by decide +kernel) (by simp only[EV,aU]) gX) e2),aG];rfl
def bT:eZ:=.cons (.iff (.cmp .xK (.idx (!2) (¬0)) (!1)) #[.setF 0 (.call 7 #[.idx (!2) (¬0)]) "" .no] .nil) #[.fX (!1) (.idx (!2) (¬0)) (.cst (.bl true))]
theorem RJ:bP=.cons (.asg (.one 1) .dct0) #[.for (.one 2) .seq #[!0] bT]:=rfl
theorem oU{us:List T3}(hl:us.length<=16):cQ [.rl (us.map aq)]=(match di nL [] us with|some t=>.exc 7 [.str "tie",.int t.1]|none=>.ok (true,.non)):=by
 unfold cQ fk;rw[show dX bP=[1] by decide +kernel,RJ];show pb (aG (ai BO) [1] _ [some (.sh,.rl (us.map aq)),none,none]) _=_;rw[bI (env':=[some (.sh,.rl (us.map aq)),some (.ow,jY [] λ_=>.bl true),none]) (by simp only[EV,aU];rfl)];have ln:ai BO 7=o7:=rfl;have st:=jS aq (body:=λx env=>pb (pl (cY (.one 2) x env)) λenv'=>aG (ai BO) [1] bT env')
  (λdone env=>(done.map (·.1)).Nodup/\∃a,env=[some (.sh,.rl (us.map aq)),some (.ow,jY (done.map (·.1)) λ_=>.bl true),a]) nL (λt=>.exc 7 [.str "tie",.int t.1]) (λu=>.inl ⟨_,_,rfl⟩) us []
  [some (.sh,.rl (us.map aq)),some (.ow,jY [] λ_=>.bl true),none] ⟨abE,none,rfl⟩ (by
   rintro pre t post env hx ⟨hnd,a,rfl⟩;rw[abQ]at hnd |-;have hpl:pre.length<16:=by have:=aa3 length hx;rw[aao,aaC]at this;omega
   have ei:gC [] (aq t) (.int 0)=some (.int t.1):=jo wQ;unfold bT
   by_cases c:t.1∈pre.map (·.1)
   ·rw[aae (by unfold nL;simpa using c)];simp only[EV,bM,ei,JJ,c,decide_true,ln,Vn,jn]
   ·rw[aac (by unfold nL;simpa using c)]
    have z:((pre.map (·.1)).map (Sum.inl:Int->Key)).length<sizeLine:=by rw[Z8,Z8];unfold sizeLine;omega
    refine⟨[some (.sh,.rl (us.map aq)),some (.ow,jY ((pre++[t]).map (·.1)) λ_=>.bl true),some (.sh,aq t)],?_,?_,_,rfl⟩
    ·simp only[EV,bM,ei,JJ,c,decide_false,QW,z,Am c]
     rw[abz,aap,abt,nu (g':=λ_=>Val.bl true)];intro y _;unfold uU
     split<;>rfl
    ·rw[abz,aap,abt,abC];exact⟨hnd,aa0.mpr ⟨by simp,abE⟩,λa ha b hb=>by rw[aau]at hb;subst hb;exact λz=>c (z▸ha)⟩)
 rcases st with ⟨u,e1,e2⟩|⟨e1,env',e2,_⟩
 ·rw[e1,JQ (Eq.trans (gg (by decide +kernel) (by simp only[EV,aU]) gX) e2)];rfl
 ·rw[e1,bI (Eq.trans (gg (by decide +kernel) (by simp only[EV,aU]) gX) e2),aG];rfl
end K02
end
section
open PySem L2 Hv
namespace K02
def iN(p q:Int)(ts:List T3):Bool:=decide (14<ts.length)||decide (8<(aV [] (aO p q ts)).length)
abbrev E8(p q:Int)(ts:List T3):Val:=gK (if q<p then q else p) (if q>p then q else p) (f9 (ts.map turnT))
theorem BV{x:Int}{ns:List Int}:x∈aV [] ns↔x∈ns:=by
 rw[<-wV x ns];unfold fX;exact(abu _).mem_iff.symm
theorem NI(p q:Int)(ts:List T3):(SG (if q<p then q else p) (if q>p then q else p) (f9 (ts.map turnT))).length=(aV [] (aO p q ts)).length:=by
 refine List.Perm.length_eq ((List.perm_ext_iff_of_nodup (yO _) (kK _ _ abE)).mpr λx=>?_);show x∈fX _↔_;rw[wV,BV];unfold aO;simp only[mem_cons,List.mem_flatMap,not_mem_nil,or_false];have h1:(x=(if q<p then q else p)\/x=(if q>p then q else p))↔(x=p\/x=q):=by
  split<;>split<;>omega
 have h2:(∃a,a∈f9 (ts.map turnT)/\(x=a.2.1\/x=a.2.2))↔∃a,a∈ts/\(x=a.2.1\/x=a.2.2):=by
  constructor
  ·rintro⟨a,ha,hx⟩
   obtain⟨b,hb,rfl⟩:=acy.mp ((gb _).mem_iff.mp ha);refine⟨b,hb,?_⟩;unfold turnT at hx;dsimp only at hx
   rcases hx with hx|hx<;>split at hx<;>omega
  ·rintro⟨b,hb,hx⟩
   refine⟨turnT b,(gb _).mem_iff.mpr (List.mem_map_of_mem hb),?_⟩;unfold turnT;dsimp only
   split<;>split<;>omega
 rw[h2,<-or_assoc,h1,or_assoc]
theorem tU{p q:Int}{ts:List T3}(hl:ts.length<=16):fG [pV p q,.rl (ts.map aq)]=(match di mG [] (aR p q ts) with|some n=>.exc 6 [.str "number",.int n]|none=>(match di nL [] ts with|some t=>.exc 7 [.str "tie",.int t.1]|none=>if iN p q ts=true then .exc 12 [] else .ok (true,E8 p q ts))):=by
 have e1:=mJ (p:=p) (q:=q) hl;have e2:=oU hl;have e3:=order_eq (p:=p) (q:=q) hl;have hs:(f9 (ts.map turnT)).length<=16:=by rw[(gb _).length_eq,Z8];exact hl
 have e4:=places_eq (p:=if q<p then q else p) (q:=if q>p then q else p) hs;have ce:=NI p q ts;unfold fG ie;cases h1:di mG [] (aR p q ts) with
 |some n=>rw[h1]at e1;simp only[EV,aQ,e1,jn]
 |none=>
  rw[h1]at e1;cases h2:di nL [] ts with
  |some t=>rw[h2]at e2;simp only[EV,aQ,bJ,e1,e2,jn]
  |none=>
   rw[h2]at e2;have lm:ai xx 12=jQ:=rfl;have g1:(((ts.length:Nat):Int)>14)↔14<ts.length:=by omega
   have g2:((((SG (if q<p then q else p) (if q>p then q else p) (f9 (ts.map turnT))).length:Nat):Int)>8)↔8<(aV [] (aO p q ts)).length:=by rw[ce];omega
   unfold iN
   by_cases c1:14<ts.length
   ·simp only[EV,aQ,bJ,cu,c7,e1,e2,e3,e4,length_map,g1,c1,decide_true,lm,NH,jn]
   ·by_cases c2:8<(aV [] (aO p q ts)).length
    ·simp only[EV,aQ,bJ,cu,c7,e1,e2,e3,e4,length_map,g1,g2,c1,c2,decide_true,decide_false,lm,NH,jn]
    ·simp only[EV,aQ,bJ,cu,c7,e1,e2,e3,e4,length_map,g1,g2,c1,c2,decide_true,decide_false,lm,NH,jn];rfl
def iw(p q:Int)(ts:List T3):Val:=match di mG [] (aR p q ts) with
 |some n=>.tup [.str "number",.int n]
 | none=>match di nL [] ts with
  |some t=>.tup [.str "twice",.int t.1]
  |none=>if iN p q ts=true then .tup [.str "many",.int 0] else .tup [.str "none",.int 0]
theorem NJ{p q:Int}(hl:ts.length<=16):mC [pV p q,.rl (ts.map aq)]=.ok (true,iw p q ts):=by
 unfold mC;show wY 6 7 12 (fG [pV p q,.rl (ts.map aq)])=_;rw[tU hl];unfold iw;cases di mG [] (aR p q ts) with
 |some n=>rfl
 |none=>
  cases di nL [] ts with
  |some t=>rfl
  |none=>
   by_cases c:iN p q ts=true
   ·show wY 6 7 12 (if iN p q ts=true then _ else _)=.ok (true,if iN p q ts=true then _ else _);rw[aae c,aae c];rfl
   ·show wY 6 7 12 (if iN p q ts=true then _ else _)=.ok (true,if iN p q ts=true then _ else _);rw[aac c,aac c];rfl
theorem qQ{ms:List Nat}{f:Bool}(h:vf Ψ c env=.ok (f,.bl false)):aY Ψ ms (.iff c a .nil) env=.ok (.nx env):=by
 rw[aY,h,aU];show pb (pl (c8 [] (.bl false))) _=_;rw[D8,gu,aU,aac Z3,aG]
theorem E9{ms:List Nat}{f:Bool}(h:vf Ψ c env=.ok (f,.bl true)):aY Ψ ms (.iff c a b) env=aG Ψ ms a env:=by
 rw[aY,h,aU];show pb (pl (c8 [] (.bl true))) _=_;rw[D8,gu,aU,aae rfl]
theorem qR{α:Type}(enc:α -> Val)(Q:List α -> bg->Prop)(bad:List α -> α -> Bool)(stop:α -> Pr DM)(hs:∀u,(∃c ds,stop u=.exc c ds)\/∃r,stop u=.ok (.rt r)) :
  ∀(us done:List α) (env:bg),Q done env->(∀pre u post env,us=pre++u::post->Q (done++pre) env->if bad (done++pre) u=true then body (.tup [.int ((done++pre).length:Nat),enc u]) env=stop u else ∃env',body (.tup [.int ((done++pre).length:Nat),enc u]) env=.ok (.nx env')/\Q (done++pre++[u]) env') ->
  (∃u,di bad done us=some u/\fO body (bW done.length (us.map enc)) env=stop u)\/(di bad done us=none/\∃env',fO body (bW done.length (us.map enc)) env=.ok (.nx env')/\Q (done++us) env')
 |[],done,env,q,_=>.inr ⟨rfl,env,by rw[abt,bW,fO],by rw[aaJ];exact q⟩
 | u::us,done,env,q,h=>by
  have h0:=h [] u us env rfl (by rw[aaJ];exact q);rw[aaJ]at h0;rw[aap,bW,fO,di]
  by_cases c:bad done u=true
  ·rw[aae c]at h0 |-
   refine .inl ⟨u,rfl,?_⟩;rw[h0]
   rcases hs u with ⟨cc,ds,e⟩|⟨r,e⟩<;>rw[e]<;>rfl
  ·rw[aac c]at h0 |-
   obtain⟨env',e,q'⟩:=h0;rw[e,aU];have:=qR enc Q bad stop hs us (done++[u]) env' q' λpre v post gF e2 q2=>by
    have:=h (u::pre) v post gF (by rw[e2];rfl) (by rw[show done++u::pre=done++[u]++pre by simp];exact q2);rw[show done++u::pre=done++[u]++pre by simp]at this;exact this
   rw[show (done++[u]).length=done.length+1 by simp]at this
   rcases this with ⟨v,e1,e2⟩|⟨e1,gF,e2,q2⟩
   ·exact .inl ⟨v,e1,e2⟩
   ·exact .inr ⟨e1,gF,e2,by rw[show done++u::us=done++[u]++us by simp];exact q2⟩
def dA:eZ:=.cons (.asg (.one 2) (.bin .add (!2) (.blt .list #[!4]))) #[.fX (!3) (.idx (!4) (¬1)) (.cst (.bl true)),.fX (!3) (.idx (!4) (¬2)) (.cst (.bl true))]
def dN:eZ:=.cons (.iff (.or (.cmp .lt (!5) (¬0)) (.cmp .ge (!5) (.bin .pow (¬10) (¬60)))) #[.ret (.tup #[.cst (.str "number"),!5])] .nil) .nil
def cE:IE:=(.comp ["_law_one"] [none] (.one 0) .seq #[.slc (!1) .no (!6)] .no (.idx (!0) (¬0)))
theorem Vo:isVar cE=false:=rfl
def dT:eZ:=.cons (.iff (.cmp .xK (.idx (!4) (¬0)) cE) #[.ret (.tup #[.cst (.str "twice"),.idx (!4) (¬0)])] .nil) .nil
def dE:eZ:=.cons (.iff (.or (.cmp .gt (.blt .len #[!1]) (¬14)) (.cmp .gt (.blt .len #[!3]) (¬8))) #[.ret (.tup #[.cst (.str "many"),¬0])] .nil) #[.ret (.tup #[.cst (.str "none"),¬0])]
theorem RK:ic=.cons (.asg (.one 2) (.blt .list #[!0])) (.cons (.asg (.one 3) (.dct1 (.idx (!0) (¬0)) (.idx (!0) (¬1)))) (.cons (.for (.one 4) .seq #[!1] dA) (.cons (.for (.one 5) .seq #[!2] dN) (.cons (.for (.tup [6,4]) .enum #[!1] dT) dE)))):=rfl
theorem JR:∀ks:List Int,bw (ks.map Val.int)=true
 |[]=>rfl
 |k::r=>by rw[aap,bw,JR r];rfl
def tr:Int->Val:=λ_=>.bl true
theorem Fb{ks:List Int}{x:Int}:putD (ks.map Sum.inl) (ks.map tr) (.inl x) (.bl true)=jY (iU ks x) tr:=by
 have eu:∀y,uU tr x (.bl true) y=tr y:=λy=>by
  unfold uU
  split<;>rfl
 unfold iU
 by_cases h:x∈ks
 ·rw[Iq h,aae h];exact nu λy _=>eu y
 ·rw[Am h,aac h];exact nu λy _=>eu y
theorem xH:∀(xs ys ks:List Int),aV ks (xs++ys)=aV (aV ks xs) ys
 |[],ys,ks=>rfl
 |x::r,ys,ks=>by rw[cons_append,aV,xH r ys,aV]
theorem Ja(p q:Int)(pre:List T3)(t:T3):aV [] (aO p q (pre++[t]))=iU (iU (aV [] (aO p q pre)) t.2.1) t.2.2:=by
 have e:aO p q (pre++[t])=aO p q pre++[t.2.1,t.2.2]:=by unfold aO;simp
 rw[e,xH];rfl
theorem Zy(p q:Int):putD [Sum.inl p] [.bl true] (.inl q) (.bl true)=jY (aV [] (aO p q [])) tr:=by
 have:=Fb (ks:=[p]) (x:=q);exact this
theorem NK{p q:Int}(hl:ts.length<=16):∃f,mz [pV p q,.rl (ts.map aq)]=.ok (f,iw p q ts):=by
 unfold mz fk;rw[show dX ic=[3,3] by decide +kernel,RK];show ∃f,pb (aG (ai BY) [3,3] _ [some (.sh,pV p q),some (.sh,.rl (ts.map aq)),none,none,none,none,none]) _=_;rw[bI (env':=[some (.sh,pV p q),some (.sh,.rl (ts.map aq)),some (.nw,.rl ((aR p q []).map .int)),none,none,none,none]) (by simp only[EV,aU];rfl)];rw[bI (env':=[some (.sh,pV p q),some (.sh,.rl (ts.map aq)),some (.nw,.rl ((aR p q []).map .int)),some (.ow,jY (aV [] (aO p q [])) tr),none,none,none]) (by simp only[EV,jo wQ,jo yJ,keyOf,Zy])];have l1:∃a,fO (λx env=>pb (pl (cY (.one 4) x env)) λenv'=>aG (ai BY) [3,3] dA env') (ts.map aq) [some (.sh,pV p q),some (.sh,.rl (ts.map aq)),some (.nw,.rl ((aR p q []).map .int)),some (.ow,jY (aV [] (aO p q [])) tr),none,none,none]=.ok (.nx [some (.sh,pV p q),some (.sh,.rl (ts.map aq)),some (.nw,.rl ((aR p q ts).map .int)),some (.ow,jY (aV [] (aO p q ts)) tr),a,none,none]):=by
  obtain⟨env',e,a,rfl⟩:=jP aq (body:=λx env=>pb (pl (cY (.one 4) x env)) λenv'=>aG (ai BY) [3,3] dA env') (λdone env=>∃a,env=[some (.sh,pV p q),some (.sh,.rl (ts.map aq)),some (.nw,.rl ((aR p q done).map .int)),some (.ow,jY (aV [] (aO p q done)) tr),a,none,none]) ts [] _ ⟨none,rfl⟩ (by
   rintro pre t post env hx ⟨a,rfl⟩;have hpl:pre.length<16:=by have:=aa3 length hx;rw[abQ]at this;rw[aao,aaC]at this;omega
   have k1:(aV [] (aO p q pre)).length<=34:=by have:=xF (aO p q pre) [];rw[nK]at this;simp only[length_nil]at this;omega
   have l1:((aV [] (aO p q pre)).map (Sum.inl:Int->Key)).length<sizeLine:=by rw[Z8];unfold sizeLine;omega
   have l2:((iU (aV [] (aO p q pre)) t.2.1).map (Sum.inl:Int->Key)).length<sizeLine:=by rw[Z8];have:=lz (aV [] (aO p q pre)) t.2.1;unfold sizeLine;omega
   have pt:∀ks x,putD (ks.map Sum.inl) (ks.map tr) (.inl x) (.bl true)=jY (iU ks x) tr:=λks x=>Fb;have i1:gC [] (aq t) (.int 1)=some (.int t.2.1):=rfl;have i2:gC [] (aq t) (.int 2)=some (.int t.2.2):=rfl;have z:decide (((aR p q pre).map Val.int).length+[Val.int t.1,.int t.2.1,.int t.2.2].length<=sizeLine)=true:=by rw[Z8,tR];refine decide_eq_true ?_;show 2+3*pre.length+3<=_;unfold sizeLine;omega
   have ea:(aR p q (pre++[t])).map Val.int=(aR p q pre).map Val.int++[.int t.1,.int t.2.1,.int t.2.2]:=by unfold aR;simp[l3]
   have im:bw ((aR p q pre).map Val.int++[.int t.1,.int t.2.1,.int t.2.2])=true:=by rw[<-ea];exact JR _
   refine⟨[some (.sh,pV p q),some (.sh,.rl (ts.map aq)),some (.nw,.rl ((aR p q (pre++[t])).map .int)),some (.ow,jY (aV [] (aO p q (pre++[t]))) tr),some (.sh,aq t),none,none],?_,_,rfl⟩;rw[Ja,ea];have lt:fH .list [aq t]=.ok (true,.rl [.int t.1,.int t.2.1,.int t.2.2]):=rfl;unfold dA jY;simp only[EV,bM,lt,add_l z,im,i1,i2,keyOf,l1,l2,pt,jY])
  exact⟨a,e⟩
 obtain⟨a,l1⟩:=l1;rw[bI (Eq.trans (gg (by decide +kernel) (by simp only[EV,aU]) gX) l1)];have z2:2<=sizeLine:=by decide
 have W0:(10:Int) ^ (60:Int).toNat=10 ^ 60:=rfl;have st:=jS Val.int (body:=λx env=>pb (pl (cY (.one 5) x env)) λenv'=>aG (ai BY) [3,3] dN env')
   (λ_ env=>∃b,env=[some (.sh,pV p q),some (.sh,.rl (ts.map aq)),some (.nw,.rl ((aR p q ts).map .int)),some (.ow,jY (aV [] (aO p q ts)) tr),a,b,none]) mG (λn=>.ok (.rt (true,.tup [.str "number",.int n]))) (λu=>.inr ⟨_,rfl⟩) (aR p q ts) []
   [some (.sh,pV p q),some (.sh,.rl (ts.map aq)),some (.nw,.rl ((aR p q ts).map .int)),some (.ow,jY (aV [] (aO p q ts)) tr),a,none,none] ⟨none,rfl⟩ (by
    rintro pre x post env hx ⟨b,rfl⟩;unfold dN
    by_cases c0:x<0
    ·rw[aae (by unfold mG good;simp;omega)];simp only[EV,bM,c0,decide_true,z2]
    ·by_cases c1:(10:Int) ^ 60<=x
     ·rw[aae (by unfold mG good;simp;omega)];have c2:x≥10 ^ 60:=c1;simp only[EV,bM,c0,decide_false,qy (show decide ((0:Int)<=60/\(60:Int)<=1000000/\(10:Int).natAbs<2 ^ 64)=true by decide),W0,c2,decide_true,z2]
     ·rw[aac (by unfold mG good;simp;omega)];have c2:¬ x≥10 ^ 60:=c1;refine⟨_,?_,some (.sh,.int x),rfl⟩;simp only[EV,bM,c0,decide_false,qy (show decide ((0:Int)<=60/\(60:Int)<=1000000/\(10:Int).natAbs<2 ^ 64)=true by decide),W0,c2])
 unfold iw
 rcases st with ⟨u,e1,e2⟩|⟨e1,env',e2,b,rfl⟩
 ·rw[e1,mH (Eq.trans (gg (by decide +kernel) (by simp only[EV,aU]) gX) e2)];exact⟨_,rfl⟩
 rw[e1,bI (Eq.trans (gg (by decide +kernel) (by simp only[EV,aU]) gX) e2)];have st:=qR aq (body:=λx env=>pb (pl (cY (.tup [6,4]) x env)) λenv'=>aG (ai BY) [3,3] dT env')
   (λ_ env=>∃a c,env=[some (.sh,pV p q),some (.sh,.rl (ts.map aq)),some (.nw,.rl ((aR p q ts).map .int)),some (.ow,jY (aV [] (aO p q ts)) tr),a,b,c]) nL (λt=>.ok (.rt (true,.tup [.str "twice",.int t.1]))) (λu=>.inr ⟨_,rfl⟩) ts []
   [some (.sh,pV p q),some (.sh,.rl (ts.map aq)),some (.nw,.rl ((aR p q ts).map .int)),some (.ow,jY (aV [] (aO p q ts)) tr),a,b,none] ⟨a,none,rfl⟩ (by
    rintro pre t post env hx ⟨a',c',rfl⟩;rw[abQ];have i0:gC [] (aq t) (.int 0)=some (.int t.1):=rfl;have ct:dM ts none (some ((pre.length:Nat):Int))=pre:=by unfold dM;rw[HT.pD,HT.ua,List.drop_zero,Nat.sub_zero,hx,Nat.min_eq_left (by simp),List.take_left]
    have hpl:pre.length<=100000:=by have:=aa3 length hx;rw[aao,aaC]at this;omega
    have cm:bq (ai BY) cE [some (.sh,pV p q),some (.sh,.rl (ts.map aq)),some (.nw,.rl ((aR p q ts).map .int)),some (.ow,jY (aV [] (aO p q ts)) tr),some (.sh,aq t),b,some (.sh,.int (pre.length:Nat))]=.ok (true,.rl ((pre.map (·.1)).map .int)):=by
     unfold cE;simp only[EV,sY,gY,ct,gX,jg,length_map,hpl];rw[eT aq (λt=>.int t.1) pre (λt ht=>by
      simp only[EV,bM];rfl)]
     simp only[EV,map_map];rfl
    have hc:vf (ai BY) (.cmp .xK (.idx (!4) (¬0)) cE) [some (.sh,pV p q),some (.sh,.rl (ts.map aq)),some (.nw,.rl ((aR p q ts).map .int)),some (.ow,jY (aV [] (aO p q ts)) tr),some (.sh,aq t),b,some (.sh,.int (pre.length:Nat))]=.ok (true,.bl (decide (t.1∈pre.map (·.1)))):=by
     have h1:vf (ai BY) cE [some (.sh,pV p q),some (.sh,.rl (ts.map aq)),some (.nw,.rl ((aR p q ts).map .int)),some (.ow,jY (aV [] (aO p q ts)) tr),some (.sh,aq t),b,some (.sh,.int (pre.length:Nat))]=.ok (true,.rl ((pre.map (·.1)).map .int)):=by unfold vf;rw[aac (by rw[Vo];decide)];exact cm
     have h2:vf (ai BY) (.idx (!4) (¬0)) [some (.sh,pV p q),some (.sh,.rl (ts.map aq)),some (.nw,.rl ((aR p q ts).map .int)),some (.ow,jY (aV [] (aO p q ts)) tr),some (.sh,aq t),b,some (.sh,.int (pre.length:Nat))]=.ok (true,.int t.1):=by simp only[EV,i0]
     unfold vf at h1 h2 |-;rw[aac (show ¬ (isVar (.cmp .xK (.idx (!4) (¬0)) cE)=true) from λz=>nomatch (show false=true from z)),bq,h1,h2,aU,aU];show pb (pl (cop [] .xK (.int t.1) (.rl ((pre.map (·.1)).map .int)))) _=_;rw[QX];rfl
    have bn:cY (.tup [6,4]) (.tup [.int (pre.length:Nat),aq t]) [some (.sh,pV p q),some (.sh,.rl (ts.map aq)),some (.nw,.rl ((aR p q ts).map .int)),some (.ow,jY (aV [] (aO p q ts)) tr),a',b,c']=some [some (.sh,pV p q),some (.sh,.rl (ts.map aq)),some (.nw,.rl ((aR p q ts).map .int)),some (.ow,jY (aV [] (aO p q ts)) tr),some (.sh,aq t),b,some (.sh,.int (pre.length:Nat))]:=rfl;rw[bn];unfold dT
    by_cases c:t.1∈pre.map (·.1)
    ·rw[aae (by unfold nL;simpa using c)];rw[decide_eq_true c]at hc;show aG _ _ #[_] _=_;rw[mH (Eq.trans (E9 hc) (mH (by simp only[EV,i0,z2];rfl)))]
    ·rw[aac (by unfold nL;simpa using c)];refine⟨_,?_,some (.sh,aq t),some (.sh,.int (pre.length:Nat)),rfl⟩;rw[decide_eq_false c]at hc;show aG _ _ #[_] _=_;rw[bI (qQ hc),aG])
 rcases st with ⟨u,e3,e4⟩|⟨e3,env',e4,a',c',rfl⟩
 ·rw[e3,mH (Eq.trans (gg (by decide +kernel) (by simp only[EV,aU]) D9) e4)];exact⟨_,rfl⟩
 rw[e3,bI (Eq.trans (gg (by decide +kernel) (by simp only[EV,aU]) D9) e4)];have ld:fH .len [jY (aV [] (aO p q ts)) tr]=.ok (true,.int ((aV [] (aO p q ts)).length:Nat)):=by show Pr.ok (true,Val.int ((((aV [] (aO p q ts)).map (Sum.inl:Int->Key)).length:Nat):Int))=_;rw[Z8]
 have g1:(((ts.length:Nat):Int)>14)↔14<ts.length:=by omega
 have g2:((((aV [] (aO p q ts)).length:Nat):Int)>8)↔8<(aV [] (aO p q ts)).length:=by omega
 unfold dE iN
 by_cases c1:14<ts.length
 ·simp only[EV,length_map,g1,c1,decide_true,z2];exact⟨_,rfl⟩
 ·by_cases c2:8<(aV [] (aO p q ts)).length
  ·simp only[EV,length_map,ld,g1,g2,c1,c2,decide_true,decide_false,z2];exact⟨_,rfl⟩
  ·simp only[EV,length_map,ld,g1,g2,c1,c2,decide_true,decide_false,z2];exact⟨_,rfl⟩
end K02
end
section
open PySem L2 Hv
namespace K02
theorem qS{i:Nat}(h:bq Ψ e env=.ok x):aY Ψ [] (.asg (.one i) e) env=.ok (.nx (env.set i (some (dW x.1 x.2,x.2)))):=by
 rw[aY,h];rfl
theorem Fc{ms:List Nat}(h:N6 Ψ e env=.ok r):aY Ψ ms (.ret e) env=.ok (.rt r):=by
 rw[aY,h];rfl
def kV(k:Nat):Val:=.rl ((List.range 12).map λj=>Val.bl (decide (j=k\/j=11)))
def Vp:IE:=.cmp .ne (.lst #[.fld 6 (!0) "number",.fld 7 (!1) "tie",.fld 8 (!0) "row",.fld 9 (!1) "tie"]) (.lst #[!0,!1,!0,!1])
def Vq:IE:=.or (.cmp .ne (.fld 10 (.cst (.str "cutter")) "side") (.cst (.str "cutter"))) (.cmp .ne (.fld 11 (.cst (.str "linker")) "winner") (.cst (.str "linker")))
def Vr:IE:=.lst #[.mth (.cst .non) "_law_kinds" [(17,6)] #[!0],.mth (.cst .non) "_law_kinds" [(17,7)] #[!1],.mth (.cst .non) "_law_kinds" [(17,8)] #[!0],.mth (.cst .non) "_law_kinds" [(17,9)] #[!1]]
def Vs:IE:=.bin .add (!2) (.lst #[.mth (.cst .non) "_law_kinds" [(17,10)] #[.cst (.str "linker")],.mth (.cst .non) "_law_kinds" [(17,11)] #[.cst (.str "cutter")],.mth (.cst .non) "_law_kinds" [(17,12)] .nil])
def Vt:IE:=.bin .add (!2) (.lst #[.mth (.cst .non) "_law_kinds" [(17,13)] .nil,.mth (.cst .non) "_law_kinds" [(17,14)] .nil,.mth (.cst .non) "_law_kinds" [(17,15)] .nil,.mth (.cst .non) "_law_kinds" [(17,16)] .nil])
def hI:IE:=.comp ["_law_j","_law_k"] [none,some 0] (.one 0) .range #[¬12] .no (.cmp .xK (!0) (.tup #[!1,¬11]))
def hE:IE:=.comp ["_law_k","_law_found"] [none,some 2] (.one 0) .range #[¬11] .no (.cmp .eq (.idx (!1) (!0)) hI)
theorem RL:cV=.cons (.iff Vp #[.ret (.cst (.bl false))] .nil) #[.iff Vq #[.ret (.cst (.bl false))] .nil,.asg (.one 2) Vr,.asg (.one 2) Vs,.asg (.one 2) Vt,.ret (.blt .all #[hE])]:=rfl
theorem Vu:ai fz 17=Ej yQ:=rfl
theorem k6{i:Int}:ai fz 6 [.int i]=.exc 6 [.str "number",.int i]:=rfl
theorem k7{i:Int}:ai fz 7 [.int i]=.exc 7 [.str "tie",.int i]:=rfl
theorem k8{i:Int}:ai fz 8 [.int i]=.exc 8 [.str "row",.int i]:=rfl
theorem k9{i:Int}:ai fz 9 [.int i]=.exc 9 [.str "tie",.int i]:=rfl
theorem W2:ai fz 10 [.str i]=.exc 10 [.str "side",.str i]:=rfl
theorem W3:ai fz 11 [.str i]=.exc 11 [.str "winner",.str i]:=rfl
theorem Zz:ai fz 12 []=.exc 12 []:=rfl
theorem ZA:ai fz 13 []=.exc 13 []:=rfl
theorem ZC:ai fz 14 []=.exc 14 []:=rfl
theorem ZD:ai fz 15 []=.exc 15 []:=rfl
theorem ZE:ai fz 16 []=.exc 16 []:=rfl
theorem Vv{c:Nat}{i:Int}:HM g (.exc c [.str g,.int i])=.ok (true,.int i):=by
 show pg true (if g=g then _ else _)=_;rw[aae rfl];rfl
theorem Vw{c:Nat}:HM g (.exc c [.str g,.str i])=.ok (true,.str i):=by
 show pg true (if g=g then _ else _)=_;rw[aae rfl];rfl
theorem kk(k:Nat)(h:k<11):P8 (Ej yQ) (.exc (6+k) ds)=.ok (true,kV k):=by
 have:k=0\/k=1\/k=2\/k=3\/k=4\/k=5\/k=6\/k=7\/k=8\/k=9\/k=10:=by omega
 rcases this with rfl|rfl|rfl|rfl|rfl|rfl|rfl|rfl|rfl|rfl|rfl<;>rfl
theorem ne_str(s:String):cop [] .ne (.str s) (.str s)=some false:=by
 refine ne_self (p:=.str s) ?_ ?_
 ·show (if PyData.strOk s=true then _ else _)=_;rw[aae (mq s)]
 ·rw[PyData.canLay0];exact mq s
theorem ZF:∀k<11,∀j<12,cop [] .xK (.int ((j:Nat):Int)) (.tup [.int ((k:Nat):Int),.int 11])=some (decide (j=k\/j=11)):=by decide +kernel
theorem RM(k:Nat):cop [] .eq (kV k) (kV k)=some true:=by
 refine eq_self (p:=.list ((List.range 12).map λj=>.bool (decide (j=k\/j=11)))) rfl ?_;rw[PyData.canLay0];exact eO _ _ λ_ _=>by rw[PyData.canLay0]
abbrev nI(n:Nat):Val:=.int n
theorem ZG:gG .range [.int 11]=some ((List.range 11).map nI):=rfl
theorem ZH:gG .range [.int 12]=some ((List.range 12).map nI):=rfl
abbrev fV:Val:=.rl [kV 0,kV 1,kV 2,kV 3,kV 4,kV 5,kV 6,kV 7,kV 8,kV 9,kV 10]
theorem RO{k:Nat}(hk:k<11):bq (ai fz) hI [some (.sh,.int k),e]=.ok (true,kV k):=by
 have z2:2<=sizeLine:=by decide
 unfold hI;simp only[EV,ZH,length_map,List.length_range,jg,Nat.reduceLeDiff];rw[eT nI (λj=>Val.bl (decide (j=k\/j=11))) (List.range 12) (λj hj=>by
  have:=ZF k hk j (mem_range.mp hj);simp only[EV,bM,z2,this])]
 rfl
theorem Vx:∀k:Nat,k<11->gC [] fV (.int k)=some (kV k):=by
 intro k hk;have:k=0\/k=1\/k=2\/k=3\/k=4\/k=5\/k=6\/k=7\/k=8\/k=9\/k=10:=by omega
 rcases this with rfl|rfl|rfl|rfl|rfl|rfl|rfl|rfl|rfl|rfl|rfl<;>rfl
theorem Vy:isVar hI=false:=rfl
theorem RP{a b:Int}:bq (ai fz) hE [some (.sh,.int a),some (.sh,.int b),some (.sh,fV)]=.ok (true,.rl ((List.range 11).map λ_=>Val.bl true)):=by
 unfold hE;simp only[EV,ZG,length_map,List.length_range,jg,Nat.reduceLeDiff];rw[eT nI (λj=>Val.bl true) (List.range 11) (λk hk=>by
  have hk:=mem_range.mp hk;have e1:=Vx k hk;have e2:=RO hk (e:=some (.sh,fV));have e3:=RM k;simp only[EV,bM,Vy,e1,e2,e3];rfl)]
 rfl
theorem yW(a b:Int):fB [.int a,.int b]=.ok (true,.bl true):=by
 unfold fB fk;rw[show dX cV=[] by decide +kernel,RL];show pb (aG (ai fz) [] _ [some (.sh,.int a),some (.sh,.int b),none]) _=_;have z4:4<=sizeLine:=by decide
 have z3:3<=sizeLine:=by decide
 have h1:vf (ai fz) Vp [some (.sh,.int a),some (.sh,.int b),none]=.ok (true,.bl false):=by unfold Vp;simp only[EV,k6,k7,k8,k9,Vv,z4,ne_self (d:=.rl [.int a,.int b,.int a,.int b]) (p:=.list [.int a,.int b,.int a,.int b]) rfl (by simp[PyData.canLay0,PyData.canLayAll0])]
 have h2:vf (ai fz) Vq [some (.sh,.int a),some (.sh,.int b),none]=.ok (true,.bl false):=by have e1:cop [] .ne (.str "cutter") (.str "cutter")=some false:=ne_str "cutter";have e2:cop [] .ne (.str "linker") (.str "linker")=some false:=ne_str "linker";unfold Vq;simp only[EV,W2,W3,Vw,e1,e2]
 rw[bI (qQ h1),bI (qQ h2)];have q2:bw [kV 0,kV 1,kV 2,kV 3,kV 4,kV 5,kV 6]=false:=rfl;have q3:bw [kV 0,kV 1,kV 2,kV 3,kV 4,kV 5,kV 6,kV 7,kV 8,kV 9,kV 10]=false:=rfl;have l1:bq (ai fz) Vr [some (.sh,.int a),some (.sh,.int b),none]=.ok (true,.rl [kV 0,kV 1,kV 2,kV 3]):=by unfold Vr;simp only[EV,Vu,k6,k7,k8,k9,z4,kk 0 (by decide),kk 1 (by decide),kk 2 (by decide),kk 3 (by decide)]
 have l2:bq (ai fz) Vs [some (.sh,.int a),some (.sh,.int b),some (.nw,.rl [kV 0,kV 1,kV 2,kV 3])]=.ok (false,.rl [kV 0,kV 1,kV 2,kV 3,kV 4,kV 5,kV 6]):=by unfold Vs;rw[<-q2];simp only[bq,qm,isVar,iO,List.getElem?_cons_zero,getElem?_cons_succ,gu,aU,false_eq_true,↓reduceIte,Vu,W2,W3,Zz,kk 4 (by decide),kk 5 (by decide),kk 6 (by decide),uT,length_cons,length_nil,reduceAdd,z3,decide_true,add_l (vs:=[kV 0,kV 1,kV 2,kV 3]) (ws:=[kV 4,kV 5,kV 6]) (by decide),cons_append,nil_append]
 have l3:bq (ai fz) Vt [some (.sh,.int a),some (.sh,.int b),some (.sh,.rl [kV 0,kV 1,kV 2,kV 3,kV 4,kV 5,kV 6])]=.ok (false,.rl [kV 0,kV 1,kV 2,kV 3,kV 4,kV 5,kV 6,kV 7,kV 8,kV 9,kV 10]):=by unfold Vt;rw[<-q3];simp only[bq,qm,isVar,iO,List.getElem?_cons_zero,getElem?_cons_succ,gu,aU,false_eq_true,↓reduceIte,Vu,ZA,ZC,ZD,ZE,kk 7 (by decide),kk 8 (by decide),kk 9 (by decide),kk 10 (by decide),uT,length_cons,length_nil,reduceAdd,z4,decide_true,add_l (vs:=[kV 0,kV 1,kV 2,kV 3,kV 4,kV 5,kV 6]) (ws:=[kV 7,kV 8,kV 9,kV 10]) (by decide),cons_append,nil_append]
 rw[bI (qS l1)];show pb (aG (ai fz) [] _ [some (.sh,.int a),some (.sh,.int b),some (.nw,.rl [kV 0,kV 1,kV 2,kV 3])]) _=_;rw[bI (qS l2)];show pb (aG (ai fz) [] _ [some (.sh,.int a),some (.sh,.int b),some (.sh,.rl [kV 0,kV 1,kV 2,kV 3,kV 4,kV 5,kV 6])]) _=_;rw[bI (qS l3)];show pb (aG (ai fz) [] _ [some (.sh,.int a),some (.sh,.int b),some (.sh,.rl [kV 0,kV 1,kV 2,kV 3,kV 4,kV 5,kV 6,kV 7,kV 8,kV 9,kV 10])]) _=_;rw[mH (v:=(true,.bl true)) (Fc ?_)]
 ·rfl
 ·show bq _ (.blt .all #[hE]) _=_;rw[bq,fM,aac (show ¬ (isVar hE=true) from λz=>nomatch (show false=true from z)),RP,aU,fM,aU,aU];exact all_true _
end K02
end
section
open PySem L2 Hv
namespace K02
def sB:IE:=.idx (.lst #[.bin .sub (.neg (¬1)) (.bin .mod (!3) (.bin .pow (¬10) (¬60))),.bin .add (.bin .pow (¬10) (¬60)) (.bin .mul (.bin .mod (!3) (.bin .pow (¬10) (¬60))) (.blt .int #[.cmp .gt (.bin .mod (.bin .fdiv (!3) (¬4)) (¬3)) (¬0)]))]) (.bin .mod (.bin .fdiv (!3) (¬2)) (¬2))
def sA:IE:=.bin .mod (.bin .mod (.bin .mul (!3) (¬48271)) (¬10061)) (.bin .add (¬2) (.bin .mul (¬3) (.blt .len #[!1])))
def s1:IS:=.iff (.and (.cmp .eq (!2) (¬1)) (.cmp .eq (!5) (¬0))) #[.ret (.tup #[.tup #[!4,.idx (!0) (¬1)],!1])] .nil
def s2:IS:=.iff (.and (.cmp .eq (!2) (¬1)) (.cmp .eq (!5) (¬1))) #[.ret (.tup #[.tup #[.idx (!0) (¬0),!4],!1])] .nil
def SH:eZ:=.cons (.asg (.one 6) (.blt .list #[.idx (!1) (.bin .fdiv (.bin .sub (!5) (¬2)) (¬3))])) #[.fX (!6) (.bin .mod (.bin .sub (!5) (¬2)) (¬3)) (!4),.ret (.tup #[!0,.bin .add (.bin .add (.slc (!1) .no (.bin .fdiv (.bin .sub (!5) (¬2)) (¬3))) (.lst #[.blt .tuple #[!6]])) (.slc (!1) (.bin .add (.bin .fdiv (.bin .sub (!5) (¬2)) (¬3)) (¬1)) .no)])]
def SJ:eZ:=.cons (.asg (.one 7) (.bin .mod (.bin .mod (.bin .mul (!3) (¬16807)) (¬10067)) (.blt .len #[!1]))) #[.asg (.one 8) (.idx (.idx (!1) (.bin .mod (.bin .fdiv (!3) (¬3)) (.blt .len #[!1]))) (¬0)),.ret (.tup #[!0,.bin .add (.bin .add (.slc (!1) .no (!7)) (.lst #[.tup #[!8,.idx (.idx (!1) (!7)) (¬1),.idx (.idx (!1) (!7)) (¬2)]])) (.slc (!1) (.bin .add (!7) (¬1)) .no)])]
def s5:eZ:=.cons (.ret (.tup #[!0,!1])) .nil
theorem RQ:dG=.cons (.asg (.one 4) sB) (.cons (.asg (.one 5) sA) (.cons s1 (.cons s2 (.cons (.iff (.cmp .eq (!2) (¬1)) SH .nil) (.cons (.iff (.and (.cmp .eq (!2) (¬2)) (.cmp .gt (.blt .len #[!1]) (¬0))) SJ .nil) s5))))):=rfl
theorem at2(x y i:Int):∃n,gC [] (.rl [.int x,.int y]) (.int (i%2))=some (.int n):=by
 have:i%2=0\/i%2=1:=by omega
 rcases this with h|h<;>rw[h]
 ·exact⟨x,n6 wQ⟩
 ·exact⟨y,n6 yJ⟩
theorem ZI(x:Int)(c:Bool):dD x (if c=true then 1 else 0)=true:=tO _ _ (by cases c<;>simp)
abbrev sE(p q:Int)(ts:List T3)(way cell:Int):bg:=[some (.sh,pV p q),some (.sh,.rl (ts.map aq)),some (.sh,.int way),some (.sh,.int cell)]
theorem RS{p q:Int}{way cell:Int}:∃n,bq (ai BN) sB (sE p q ts way cell++[none,none,none,none,none])=.ok (true,.int n):=by
 obtain⟨n,en⟩:=at2 (-1-cell%10 ^ (60:Int).toNat) (10 ^ (60:Int).toNat+cell%10 ^ (60:Int).toNat*(if decide (cell/4%3>0)=true then 1 else 0)) (cell/2);refine⟨n,?_⟩;have z2:2<=sizeLine:=by decide
 have m1:=ZI (cell%10 ^ (60:Int).toNat) (decide (cell/4%3>0));simp only[decide_eq_true_eq]at en m1;unfold sB;simp only[EV,gJ (show iZ 4=true by decide),gJ (show iZ 2=true by decide),cZ (show decide ((0:Int)<3)=true by decide),cZ (show decide ((0:Int)<2)=true by decide),qy (show decide ((0:Int)<=60/\(60:Int)<=1000000/\(10:Int).natAbs<2 ^ 64)=true by decide),cZ (show decide ((0:Int)<10 ^ (60:Int).toNat)=true by decide),nZ m1,z2,en]
theorem RT{p q:Int}{way cell bad:Int}:∃n:Int,0<=n/\n<2+3*ts.length/\bq (ai BN) sA (sE p q ts way cell++[some (.sh,.int bad),none,none,none,none])=.ok (true,.int n):=by
 have hp:(0:Int)<2+3*ts.length:=by omega
 refine⟨cell*48271%10061%(2+3*((ts.length:Nat):Int)),Int.emod_nonneg _ (by omega),ack _ hp,?_⟩;have m1:dD cell 48271=true:=by unfold dD;simp
 have m2:dD 3 ((ts.length:Nat):Int)=true:=qO _ _ (by omega);unfold sA;simp only[EV,length_map,nZ m1,nZ m2,cZ (show decide ((0:Int)<10061)=true by decide),cZ (decide_eq_true hp)]
theorem RU{i:Nat}(h:i<ts.length):dM ts none (some (i:Int))=ts.take i:=by
 unfold dM;rw[HT.pD,HT.ua,List.drop_zero,Nat.sub_zero,Nat.min_eq_left (by omega)]
theorem RW{i:Nat}(h:i<ts.length):dM ts (some ((i:Int)+1)) none=ts.drop (i+1):=by
 unfold dM;rw[show ((i:Int)+1)=((i+1:Nat):Int) by omega,HT.pD,HT.ua,Nat.min_eq_left (by omega)];exact List.take_of_length_le (by simp)
def j8(ts:List T3)(i:Nat)(t:T3):List T3:=ts.take i++[t]++ts.drop (i+1)
theorem mK{i:Nat}(h:i<ts.length):(j8 ts i t).length=ts.length:=by
 unfold j8;simp only[length_append,List.length_take,List.length_drop,length_cons,length_nil];omega
theorem RX{i:Nat}(h:i<ts.length)(hl:ts.length<=16):pb (gS .add (.rl ((ts.take i).map aq)) (.rl [aq t])) (λx=>gS .add x.2 (.rl ((ts.drop (i+1)).map aq)))=.ok (bw ((j8 ts i t).map aq),.rl ((j8 ts i t).map aq)):=by
 have z1:decide (((ts.take i).map aq).length+[aq t].length<=sizeLine)=true:=decide_eq_true (by rw[Z8,abl];simp only[length_cons,length_nil];unfold sizeLine;omega);have z2:decide ((((ts.take i).map aq)++[aq t]).length+((ts.drop (i+1)).map aq).length<=sizeLine)=true:=decide_eq_true (by rw[aao,Z8,Z8,abl,ab5];simp only[length_cons,length_nil];unfold sizeLine;omega);have e:(j8 ts i t).map aq=((ts.take i).map aq++[aq t])++(ts.drop (i+1)).map aq:=by unfold j8;simp
 rw[add_l z1,aU,add_l z2,e]
theorem As{ms:List Nat}{f t:Bool}(h:vf Ψ c env=.ok (f,.bl t)):aY Ψ ms (.iff c a .nil) env=if t=true then aG Ψ ms a env else .ok (.nx env):=by
 cases t with
 |false=>exact qQ h
 |true=>exact E9 h
abbrev sF(p q:Int)(ts:List T3)(way cell bad at_:Int):bg:=sE p q ts way cell++[some (.sh,.int bad),some (.sh,.int at_),none,none,none]
def SK(n:Nat)(r:Pr DM):Prop:=∃(f:Bool) (p' q':Int) (ts':List T3),r=.ok (.rt (f,.tup [pV p' q',.rl (ts'.map aq)]))/\ts'.length=n
theorem vd{i:Nat}{a b c:Int}(h:i<ts.length)(hl:ts.length<=16):pb (gS .add (.rl ((ts.take i).map aq)) (.rl [.tup [.int a,.int b,.int c]])) (λx=>gS .add x.2 (.rl ((ts.drop (i+1)).map aq)))=.ok (bw ((j8 ts i (a,b,c)).map aq),.rl ((j8 ts i (a,b,c)).map aq)):=RX (t:=(a,b,c)) h hl
theorem RY{p q:Int}{way cell bad at_:Int}(hl:ts.length<=16)(h0:2<=at_)(h1:at_<2+3*ts.length):SK ts.length (aG (ai BN) [6] SH (sF p q ts way cell bad at_)):=by
 have z2:2<=sizeLine:=by decide
 have z1:1<=sizeLine:=by decide
 obtain⟨i,hi⟩:∃i:Nat,(at_-2)/3=i:=abn (by omega);have hlt:i<ts.length:=by omega
 have ei:gC [] (.rl (ts.map aq)) (.int (i:Nat))=some (aq ts[i]):=n6 (jB (by simp[hlt]));have c1:=RU hlt;have c2:=RW hlt;have hj:(at_-2)%3=0\/(at_-2)%3=1\/(at_-2)%3=2:=by omega
 have lt:fH .list [aq ts[i]]=.ok (true,.rl [.int ts[i].1,.int ts[i].2.1,.int ts[i].2.2]):=rfl;unfold SH
 rcases hj with hj|hj|hj
 ·have ix:xJ 3 0=some 0:=rfl;refine⟨bw ((j8 ts i (bad,ts[i].2.1,ts[i].2.2)).map aq),p,q,j8 ts i (bad,ts[i].2.1,ts[i].2.2),?_,mK hlt⟩;simp only[EV,ei,lt,hj,ix,sY,gY,hi,c1,c2,z1,z2,gJ (show iZ 3=true by decide),cZ (show decide ((0:Int)<3)=true by decide),vd hlt hl]
 ·have ix:xJ 3 1=some 1:=rfl;refine⟨bw ((j8 ts i (ts[i].1,bad,ts[i].2.2)).map aq),p,q,j8 ts i (ts[i].1,bad,ts[i].2.2),?_,mK hlt⟩;simp only[EV,ei,lt,hj,ix,sY,gY,hi,c1,c2,z1,z2,gJ (show iZ 3=true by decide),cZ (show decide ((0:Int)<3)=true by decide),vd hlt hl]
 ·have ix:xJ 3 2=some 2:=rfl;refine⟨bw ((j8 ts i (ts[i].1,ts[i].2.1,bad)).map aq),p,q,j8 ts i (ts[i].1,ts[i].2.1,bad),?_,mK hlt⟩;simp only[EV,ei,lt,hj,ix,sY,gY,hi,c1,c2,z1,z2,gJ (show iZ 3=true by decide),cZ (show decide ((0:Int)<3)=true by decide),vd hlt hl]
theorem RZ{p q:Int}{way cell bad at_:Int}(hl:ts.length<=16)(h0:0<ts.length):SK ts.length (aG (ai BN) [6] SJ (sF p q ts way cell bad at_)):=by
 have z1:1<=sizeLine:=by decide
 have z2:2<=sizeLine:=by decide
 have z3:3<=sizeLine:=by decide
 have hp:(0:Int)<((ts.length:Nat):Int):=by omega
 obtain⟨i,hi⟩:∃i:Nat,cell*16807%10067%((ts.length:Nat):Int)=i:=abn (Int.emod_nonneg _ (by omega));have hlt:i<ts.length:=by have:=ack (cell*16807%10067) hp;omega
 obtain⟨j,hj⟩:∃j:Nat,cell/3%((ts.length:Nat):Int)=j:=abn (Int.emod_nonneg _ (by omega));have ZJ:j<ts.length:=by have:=ack (cell/3) hp;omega
 have ei:gC [] (.rl (ts.map aq)) (.int (i:Nat))=some (aq ts[i]):=n6 (jB (by simp[hlt]));have ej:gC [] (.rl (ts.map aq)) (.int (j:Nat))=some (aq ts[j]):=n6 (jB (by simp[ZJ]));have j0:gC [] (aq ts[j]) (.int 0)=some (.int ts[j].1):=rfl;have i1:gC [] (aq ts[i]) (.int 1)=some (.int ts[i].2.1):=rfl;have i2:gC [] (aq ts[i]) (.int 2)=some (.int ts[i].2.2):=rfl;have c1:=RU hlt;have c2:=RW hlt;have m1:dD cell 16807=true:=by unfold dD;simp
 unfold SJ;refine⟨bw ((j8 ts i (ts[j].1,ts[i].2.1,ts[i].2.2)).map aq),p,q,j8 ts i (ts[j].1,ts[i].2.1,ts[i].2.2),?_,mK hlt⟩;simp only[EV,length_map,ei,ej,j0,i1,i2,hi,hj,sY,gY,c1,c2,z1,z2,z3,nZ m1,gJ (show iZ 3=true by decide),cZ (show decide ((0:Int)<10067)=true by decide),cZ (decide_eq_true hp),vd hlt hl]
theorem BW{p q:Int}{ts:List T3}(way cell:Int)(hl:ts.length<=16):∃(f:Bool) (p' q':Int) (ts':List T3),gf [pV p q,.rl (ts.map aq),.int way,.int cell]=.ok (f,.tup [pV p' q',.rl (ts'.map aq)])/\ts'.length=ts.length:=by
 have out:∀r:Pr DM,SK ts.length r->∃(f:Bool) (p' q':Int) (ts':List T3),pb r (λf=>match f with|.nx _=>.ok (true,.non)|.rt p=>.ok p|_=>.no)=.ok (f,.tup [pV p' q',.rl (ts'.map aq)])/\ts'.length=ts.length:=by rintro r ⟨f,p',q',ts',rfl,h⟩;exact⟨f,p',q',ts',rfl,h⟩
 unfold gf fk;rw[show dX dG=[6] by decide +kernel,RQ];refine out _ ?_;show SK _ (aG (ai BN) [6] _ (sE p q ts way cell++[none,none,none,none,none]));have z2:2<=sizeLine:=by decide
 obtain⟨bad,eb⟩:=RS (p:=p) (q:=q) (ts:=ts) (way:=way) (cell:=cell);rw[bI (env':=sE p q ts way cell++[some (.sh,.int bad),none,none,none,none]) (by rw[aY,eb];rfl)];obtain⟨at_,a0,a1,ea⟩:=RT (p:=p) (q:=q) (ts:=ts) (way:=way) (cell:=cell) (bad:=bad);rw[bI (env':=sF p q ts way cell bad at_) (by rw[aY,ea];rfl)];have cw:∀k:Int,vf (ai BN) (.and (.cmp .eq (!2) (¬1)) (.cmp .eq (!5) (.cst (.int k)))) (sF p q ts way cell bad at_)=.ok (true,.bl (decide (way=1)&&decide (at_=k))):=λk=>by
  by_cases c:way=1
  ·simp only[EV,c,decide_true]
  ·simp only[EV,c,decide_false]
 have ZK:vf (ai BN) (.cmp .eq (!2) (¬1)) (sF p q ts way cell bad at_)=.ok (true,.bl (decide (way=1))):=by simp only[EV,aU]
 have ZL:vf (ai BN) (.and (.cmp .eq (!2) (¬2)) (.cmp .gt (.blt .len #[!1]) (¬0))) (sF p q ts way cell bad at_)=.ok (true,.bl (decide (way=2)&&decide (((ts.length:Nat):Int)>0))):=by
  by_cases c:way=2
  ·simp only[EV,c,decide_true,length_map]
  ·simp only[EV,c,decide_false,length_map]
 have e1:=As (ms:=[6]) (a:=.cons (.ret (.tup #[.tup #[!4,.idx (!0) (¬1)],!1])) .nil) (cw 0);have e2:=As (ms:=[6]) (a:=.cons (.ret (.tup #[.tup #[.idx (!0) (¬0),!4],!1])) .nil) (cw 1);have e3:=As (ms:=[6]) (a:=SH) ZK;have e4:=As (ms:=[6]) (a:=SJ) ZL
 by_cases c:way=1
 ·by_cases c0:at_=0
  ·rw[aae (by simp[c,c0])]at e1;rw[aG,show aY (ai BN) [6] s1 _=_ from e1];refine⟨false,bad,q,ts,?_,rfl⟩;simp only[EV,jo yJ,z2]
  ·rw[aac (by simp[c,c0])]at e1
   rw[bI (show aY _ _ s1 _=_ from e1)]
   by_cases c1:at_=1
   ·rw[aae (by simp[c,c1])]at e2;rw[aG,show aY (ai BN) [6] s2 _=_ from e2];refine⟨false,p,bad,ts,?_,rfl⟩;simp only[EV,jo wQ,z2]
   ·rw[aac (by simp[c,c1])]at e2;rw[bI (show aY _ _ s2 _=_ from e2)];rw[aae (by simp[c])]at e3;obtain⟨f,p',q',ts',e,hh⟩:=RY (p:=p) (q:=q) (way:=way) (cell:=cell) (bad:=bad) hl (show 2<=at_ by omega) a1;exact⟨f,p',q',ts',mH (Eq.trans e3 e),hh⟩
 ·rw[aac (by simp[c])]at e1 e2 e3
  rw[bI (show aY _ _ s1 _=_ from e1),bI (show aY _ _ s2 _=_ from e2),bI e3]
  by_cases c4:way=2/\0<ts.length
  ·rw[aae (by rw[abe,abD,abD];exact⟨c4.1,by omega⟩)]at e4;obtain⟨f,p',q',ts',e,hh⟩:=RZ (p:=p) (q:=q) (way:=way) (cell:=cell) (bad:=bad) (at_:=at_) hl c4.2;exact⟨f,p',q',ts',mH (Eq.trans e4 e),hh⟩
  ·rw[aac (by intro z;rw[abe,abD,abD]at z;exact c4 ⟨z.1,by omega⟩)]at e4;rw[bI e4];refine⟨false,p,q,ts,?_,rfl⟩;unfold s5;simp only[EV,z2]
end K02
end
section
open PySem L2 Hv
namespace K02
abbrev tV(ts:List T3):Val:=.rl (ts.map aq)
theorem tD(ts:List T3):toD 16 [] (tV ts)=some (.list (ts.map λt=>.tuple ((l3 t).map .int))):=yN aq _ ts λt _=>wR (l3 t)
theorem tL(ts:List T3):(PyData.list (ts.map λt=>.tuple ((l3 t).map .int))).canLay0=true:=by
 rw[PyData.canLay0];exact eO _ _ λt _=>by rw[PyData.canLay0];exact eO _ _ λ_ _=>by rw[PyData.canLay0]
theorem Vz(ts:List T3):cop [] .ne (tV ts) (tV ts)=some false:=ne_self (tD ts) (tL ts)
theorem VA(ts:List T3):cop [] .eq (tV ts) (tV ts)=some true:=eq_self (tD ts) (tL ts)
theorem Fd(n:Nat)(s:String)(i:Int):toD (n+2) [] (.tup [.str s,.int i])=some (.tuple [.str s,.int i]):=by
 show (cG (toD (n+1) []) _).bind _=_;rw[cG,show toD (n+1) [] (.str s)=some (.str s) from aae (mq s),cG,show toD (n+1) [] (.int i)=some (.int i) from rfl,cG];rfl
theorem ne_si(s:String)(i:Int):cop [] .ne (.tup [.str s,.int i]) (.tup [.str s,.int i])=some false:=by
 refine ne_self (Fd 14 s i) ?_;rw[PyData.canLay0,PyData.canLayAll0,PyData.canLay0,PyData.canLayAll0,PyData.canLay0,PyData.canLayAll0,mq];rfl
theorem Fe{s t:String}(i j:Int)(h:PyData.eqv (.tuple [.str s,.int i]) (.tuple [.str t,.int j])=false):cop [] .ne (.tup [.str s,.int i]) (.tup [.str t,.int j])=some true:=by
 simp only[cop,zy,Fd 14,bind_some];rw[h];rfl
theorem ve(i:Int):cop [] .ne (.tup [.str "number",.int i]) (.tup [.str "none",.int 0])=some true/\cop [] .ne (.tup [.str "twice",.int i]) (.tup [.str "none",.int 0])=some true/\cop [] .ne (.tup [.str "many",.int i]) (.tup [.str "none",.int 0])=some true :=
 ⟨Fe i 0 rfl,Fe i 0 rfl,Fe i 0 rfl⟩
theorem NL(p q:Int)(ts:List T3):cop [] .ne (iw p q ts) (iw p q ts)=some false:=by
 unfold iw
 split
 ·exact ne_si _ _
 ·split
  ·exact ne_si _ _
  ·split<;>exact ne_si _ _
def lC(k:Int):IE:=.call 0 #[!0,.cst (.int k)]
def lM:IE:=.bin .add (¬1) (.bin .mod (lC 4) (¬10))
def lP:IE:=.call 2 #[!0,!1]
def lT:IE:=.call 3 #[!0,¬8,.bin .add (¬13) (.bin .mod (.bin .fdiv (lC 4) (¬40)) (¬4)),!1]
def lB:eZ:=.cons (.asg (.one 5) (.bin .mod (.bin .fdiv (lC 5) (.idx (.lst #[¬1,¬4]) (!4))) (¬4))) #[.asg (.tup [2,3]) (.call 5 #[!2,!3,!5,.call 0 #[!0,.bin .add (¬6) (!4)]])]
def lH:IE:=.not (.call 18 #[.call 1 #[!0,¬0,¬20],.call 1 #[!0,¬2,¬20]])
def lD:IE:=.call 4 #[!2,!3]
def lN:IE:=.or (.cmp .ne (.call 27 #[!2,!6]) (!7)) (.cmp .ne (!6) (!3))
def lX:IE:=.cmp .ne (!7) (.tup #[.cst (.str "none"),¬0])
def lR:IE:=.and (.call 20 #[.call 26 #[!2,!6],.call 28 #[!2,!3]]) (.cmp .eq (!6) (!3))
def lF(b:Bool):eZ:=.cons (.ret (.cst (.bl b))) .nil
theorem NN:qB=.cons (.asg (.one 1) lM) #[.asg (.one 2) lP,.asg (.one 3) lT,.for (.one 4) .range #[¬2] lB,.iff lH (lF false) .nil,.asg (.one 6) (.blt .list #[!3]),.asg (.one 7) lD,.iff lN (lF false) .nil,.iff lX (lF true) .nil,.ret lR]:=rfl
abbrev wE(ns:List Int)(many:Int)(m2:Hv.Mk)(p q:Int)(m3:Hv.Mk)(ts:List T3)(a b c d:Option (Hv.Mk×Val)):bg:=[some (.sh,.rl (ns.map .int)),some (.sh,.int many),some (m2,pV p q),some (m3,tV ts),a,b,c,d]
theorem JS{ns:List Int}{many:Int}{m2 m3:Hv.Mk}{p q:Int}(h2:sS m2=true)(h3:sS m3=true)(hl:ts.length<=16)(w:Nat)(hw:w<2) :
  ∃p' q' ts' b',aG (ai cX) [] lB (wE ns many m2 p q m3 ts (some (.sh,.int w)) b none none)=.ok (.nx (wE ns many .sh p' q' .sh ts' (some (.sh,.int w)) b' none none))/\ts'.length<=16:=by
 have z2:2<=sizeLine:=by decide
 have c5:bf [.rl (ns.map .int),.int 5]=.ok (true,.int (cellAt ns 5)):=jR ns 5;have c6:bf [.rl (ns.map .int),.int (6+(w:Int))]=.ok (true,.int (cellAt ns (6+w))):=jR ns (6+w);obtain⟨d,ed,hd⟩:∃d:Int,gC [] (.rl [.int 1,.int 4]) (.int w)=some (.int d)/\iZ d=true:=by
  have:w=0\/w=1:=by omega
  rcases this with rfl|rfl
  ·exact⟨1,n6 wQ,by decide⟩
  ·exact⟨4,n6 yJ,by decide⟩
 obtain⟨f,p',q',ts',e,hh⟩:=BW (p:=p) (q:=q) (cellAt ns 5/d%4) (cellAt ns (6+w)) hl;refine⟨p',q',ts',some (.sh,.int (cellAt ns 5/d%4)),?_,by omega⟩;unfold lB lC;simp only[EV,eV,oO,c5,c6,z2,ed,gJ hd,cZ (show decide ((0:Int)<4)=true by decide),h2,h3,e,Ea]
theorem Jb(p q:Int)(ts:List T3):gK (min p q) (max p q) (f9 (ts.map turnT))=E8 p q ts:=by
 have h1:min p q=if q<p then q else p:=by rw[Int.min_def];split<;>split<;>omega
 have h2:max p q=if q>p then q else p:=by rw[Int.max_def];split<;>split<;>omega
 rw[h1,h2]
abbrev wF(ns:List Int)(many:Int)(p q:Int)(ts:List T3)(a b:Option (Hv.Mk×Val))(f g:Bool)(d:Val):bg:=wE ns many .sh p q .sh ts a b (some (dW f (tV ts),tV ts)) (some (dW g d,d))
theorem R0{ns:List Int}{many:Int}{p q:Int}:∃f,vf (ai cX) lH (wE ns many .sh p q .sh ts a b c d)=.ok (f,.bl false):=by
 have e1:=eW ns 0 20;have e2:=eW ns 2 20;rw[show ((0:Nat):Int)=0 from rfl]at e1;rw[show ((2:Nat):Int)=2 from rfl]at e2;have e:=yW (number ns 0 20) (number ns 2 20);refine⟨true,?_⟩;unfold lH;simp only[EV,oN,nF,e1,e2,e]
theorem R1{ns:List Int}{many:Int}{p q:Int}{f g:Bool}(hl:ts.length<=16):vf (ai cX) lN (wF ns many p q ts a b f g (iw p q ts))=.ok (true,.bl false):=by
 have e:=NJ (p:=p) (q:=q) hl;unfold lN;simp only[EV,u6,e,NL p q ts,Vz ts]
theorem JT{ns:List Int}{many:Int}{p q:Int}{f g t:Bool}(h:cop [] .ne d (.tup [.str "none",.int 0])=some t):vf (ai cX) lX (wF ns many p q ts a b f g d)=.ok (true,.bl t):=by
 have z2:2<=sizeLine:=by decide
 unfold lX;simp only[EV,z2,h]
theorem R3{ns:List Int}{many:Int}{p q:Int}{f g:Bool}(hl:ts.length<=16)(h1:di mG [] (aR p q ts)=none)(h2:di nL [] ts=none)(h3:¬ iN p q ts=true):bq (ai cX) lR (wF ns many p q ts a b f g d)=.ok (true,.bl true):=by
 have e1:=tU (p:=p) (q:=q) hl;rw[h1,h2]at e1;have e1:fG [pV p q,tV ts]=.ok (true,E8 p q ts):=by rw[e1];exact aac h3
 have e2:=NG (p:=p) (q:=q) (ts:=ts) (by omega);rw[Jb]at e2;have e3:=xG (p:=if q<p then q else p) (q:=if q>p then q else p) (ts:=f9 (ts.map turnT)) (by rw[(gb _).length_eq,Z8];exact hl);change cW [E8 p q ts,E8 p q ts]=_ at e3;unfold lR;simp only[EV,rJ,u7,mF,e1,e2,e3,VA ts]
theorem NO(ns:List Int):∃f,EO [.rl (ns.map .int)]=.ok (f,.bl true):=by
 unfold EO fk;rw[show dX qB=[] by decide +kernel,NN];show ∃f,pb (aG (ai cX) [] _ [some (.sh,.rl (ns.map .int)),none,none,none,none,none,none,none]) _=_;have c4:bf [.rl (ns.map .int),.int 4]=.ok (true,.int (cellAt ns 4)):=jR ns 4;have hm:decide (0<1+cellAt ns 4%10)=true:=decide_eq_true (by omega);have hk0:0<=13+cellAt ns 4/40%4:=by omega
 have hk1:13+cellAt ns 4/40%4<=16:=by omega
 rw[bI (env':=[some (.sh,.rl (ns.map .int)),some (.sh,.int (1+cellAt ns 4%10)),none,none,none,none,none,none]) (by unfold lM lC;simp only[EV,eV,c4,cZ (show decide ((0:Int)<10)=true by decide)])];obtain⟨f1,p,q,e1⟩:=E7 ns (1+cellAt ns 4%10);obtain⟨f2,ts,e2,hl⟩:=I0 ns 8 (13+cellAt ns 4/40%4) (1+cellAt ns 4%10) (by decide) hk0 hk1 hm;generalize 1+cellAt ns 4%10=many at *;have l2:bq (ai cX) lP [some (.sh,.rl (ns.map .int)),some (.sh,.int many),none,none,none,none,none,none]=.ok (f1,pV p q):=by unfold lP;simp only[EV,qK,e1]
 rw[bI (qS l2)];show ∃f,pb (aG (ai cX) [] _ [some (.sh,.rl (ns.map .int)),some (.sh,.int many),some (dW f1 (pV p q),pV p q),none,none,none,none,none]) _=_;have l3:bq (ai cX) lT [some (.sh,.rl (ns.map .int)),some (.sh,.int many),some (dW f1 (pV p q),pV p q),none,none,none,none,none]=.ok (f2,tV ts):=by unfold lT lC;simp only[EV,eV,c4,gJ (show iZ 40=true by decide),cZ (show decide ((0:Int)<4)=true by decide),rH,e2]
 rw[bI (qS l3)];show ∃f,pb (aG (ai cX) [] _ (wE ns many (dW f1 (pV p q)) p q (dW f2 (tV ts)) ts none none none none)) _=_;obtain⟨p1,q1,W4,b1,e3,hl1⟩:=JS (ns:=ns) (many:=many) (p:=p) (q:=q) (ts:=ts) (b:=none) (m2:=dW f1 (pV p q)) (m3:=dW f2 (tV ts)) D7 D7 hl 0 (by decide);obtain⟨p2,q2,jy,b2,e4,hl2⟩:=JS (ns:=ns) (many:=many) (p:=p1) (q:=q1) (ts:=W4) (b:=b1) (m2:=.sh) (m3:=.sh) rfl rfl hl1 1 (by decide);have lp:aY (ai cX) [] (.for (.one 4) .range #[¬2] lB) (wE ns many (dW f1 (pV p q)) p q (dW f2 (tV ts)) ts none none none none)=.ok (.nx (wE ns many .sh p2 q2 .sh jy (some (.sh,.int (1:Nat))) b2 none none)):=by rw[gg (v:=.int 2) (xs:=[.int (0:Nat),.int (1:Nat)]) (by decide +kernel) rfl rfl,fO];show pb (aG (ai cX) [] lB (wE ns many (dW f1 (pV p q)) p q (dW f2 (tV ts)) ts (some (.sh,.int (0:Nat))) none none none)) _=_;rw[e3,aU];show fO _ [.int (1:Nat)] _=_;rw[fO];show pb (aG (ai cX) [] lB (wE ns many .sh p1 q1 .sh W4 (some (.sh,.int (1:Nat))) b1 none none)) _=_;rw[e4,aU];rfl
 rw[bI lp];generalize (some (Hv.Mk.sh,Val.int (1:Nat)))=a2;obtain⟨fh,eh⟩:=R0 (ns:=ns) (many:=many) (p:=p2) (q:=q2) (ts:=jy) (a:=a2) (b:=b2) (c:=none) (d:=none);rw[bI (qQ eh)];have l6:bq (ai cX) (.blt .list #[!3]) (wE ns many .sh p2 q2 .sh jy a2 b2 none none)=.ok (bw (jy.map aq),tV jy):=by simp only[EV,aU]
 rw[bI (qS l6)];show ∃f,pb (aG (ai cX) [] _ (wE ns many .sh p2 q2 .sh jy a2 b2 (some (dW (bw (jy.map aq)) (tV jy),tV jy)) none)) _=_;obtain⟨fd,ed⟩:=NK (p:=p2) (q:=q2) hl2;have l7:bq (ai cX) lD (wE ns many .sh p2 q2 .sh jy a2 b2 (some (dW (bw (jy.map aq)) (tV jy),tV jy)) none)=.ok (fd,iw p2 q2 jy):=by unfold lD;simp only[EV,u5,ed]
 rw[bI (qS l7)];show ∃f,pb (aG (ai cX) [] _ (wF ns many p2 q2 jy a2 b2 (bw (jy.map aq)) fd (iw p2 q2 jy))) _=_;rw[bI (qQ (R1 hl2))];have yes:cop [] .ne (iw p2 q2 jy) (.tup [.str "none",.int 0])=some true->∃f,pb (aG (ai cX) [] #[.iff lX (lF true) .nil,.ret lR] (wF ns many p2 q2 jy a2 b2 (bw (jy.map aq)) fd (iw p2 q2 jy))) (λf=>match f with|.nx _=>.ok (true,.non)|.rt p=>.ok p|_=>.no)=.ok (f,.bl true):=λh=>by
  have r:aG (ai cX) [] (lF true) (wF ns many p2 q2 jy a2 b2 (bw (jy.map aq)) fd (iw p2 q2 jy))=.ok (.rt (true,.bl true)):=rfl;rw[mH (Eq.trans (E9 (JT h)) r)];exact⟨_,rfl⟩
 cases h1:di mG [] (aR p2 q2 jy) with
 |some n=>exact yes (by unfold iw;rw[h1];exact(ve n).1)
 |none=>
  cases h2:di nL [] jy with
  |some t=>exact yes (by unfold iw;rw[h1,h2];exact(ve t.1).2.1)
  |none=>
   by_cases h3:iN p2 q2 jy=true
   ·refine yes ?_;unfold iw;rw[h1,h2];show cop [] .ne (if iN p2 q2 jy=true then _ else _) _=_;rw[aae h3];exact(ve 0).2.2
   ·have hd:iw p2 q2 jy=.tup [.str "none",.int 0]:=by
     unfold iw;rw[h1,h2];exact aac h3
    have r:N6 (ai cX) lR (wF ns many p2 q2 jy a2 b2 (bw (jy.map aq)) fd (iw p2 q2 jy))=.ok (true,.bl true):=by show bq (ai cX) lR (wF ns many p2 q2 jy a2 b2 (bw (jy.map aq)) fd (iw p2 q2 jy))=.ok (true,.bl true);exact R3 hl2 h1 h2 h3
    rw[bI (qQ (JT (by rw[hd];exact ne_si _ _))),mH (Fc r)];exact⟨_,rfl⟩
theorem true(ns:List Int)(hn:ns.length<=63):∃h',EM [.rl (ns.map .int)] []=.ok (.bl true) h':=by
 obtain⟨f,e⟩:=NO ns;exact IZ e
end K02
end
end
section
namespace PySem.W.Fast
theorem tw5166805775631564135:True:=trivial
theorem tw13460151887886502464:True:=trivial
theorem tw2703912251040767795:True:=trivial
theorem tw16491568290640821324:True:=trivial
theorem tw16157851543634647618:True:=trivial
theorem tw3264265821514552704:True:=trivial
theorem tw10865467042727669590:True:=trivial
theorem tw3205921284981565414:True:=trivial
theorem tw4482734572209382113:True:=trivial
theorem tw14070543552594095900:True:=trivial
theorem tw1725141436002002032:True:=trivial
theorem tw434180389304664412:True:=trivial
theorem tw2269256183609085512:True:=trivial
theorem tw15223492539440629768:True:=trivial
theorem tw15944750140426407916:True:=trivial
theorem tw5834077700807768995:True:=trivial
theorem tw9862052735120353599:True:=trivial
theorem tw900119089739267179:True:=trivial
theorem tw12901151385880014914:True:=trivial
theorem tw2487724057065767296:True:=trivial
theorem tw5846675723415698350:True:=trivial
theorem tw10497368921348313019:True:=trivial
theorem tw3695332022350486402:True:=trivial
theorem tw7932731537941594930:True:=trivial
theorem tw14155633315573593492:True:=trivial
theorem tw2178152297808269518:True:=trivial
theorem tw14642804745360469189:True:=trivial
theorem tw14434893568307569856:True:=trivial
theorem tw7812186492422695287:True:=trivial
theorem tw344576818465306386:True:=trivial
theorem tw1009817731696943153:True:=trivial
theorem tw16708877767276913122:True:=trivial
theorem tw6858022675158403031:True:=trivial
theorem tw659571468261316097:True:=trivial
theorem tw1570909752436795846:True:=trivial
theorem tw1877926880027080869:True:=trivial
theorem tw11465373994300428387:True:=trivial
theorem tw12410549259360485045:True:=trivial
theorem tw6180121835232043746:True:=trivial
theorem tw11402447689676944909:True:=trivial
theorem tw1466024636444066038:True:=trivial
theorem tw11600463551186764226:True:=trivial
theorem tw1308408254569883458:True:=trivial
theorem tw6990683882469230885:True:=trivial
theorem tw5833367307787557807:True:=trivial
theorem tw6133516852131057518:True:=trivial
theorem tw1665006155075789378:True:=trivial
theorem tw8117011302282502657:True:=trivial
theorem tw4103274975916983119:True:=trivial
theorem tw941415644312852000:True:=trivial
theorem tw17630850153018758594:True:=trivial
theorem tw12864246282309779336:True:=trivial
theorem tw17703966422235212078:True:=trivial
theorem tw7435097459547049415:True:=trivial
theorem tw2675876550196874550:True:=trivial
theorem tw13561942898986040541:True:=trivial
theorem tw16881051742699661487:True:=trivial
theorem tw7724044270908056392:True:=trivial
theorem tw2797466746029130694:True:=trivial
theorem tw10395005960980300728:True:=trivial
theorem tw14194575691360968630:True:=trivial
theorem tw18054522770868444780:True:=trivial
theorem tw6336344958922496327:True:=trivial
theorem tw1598836784715841856:True:=trivial
theorem tw15002792986745945378:True:=trivial
theorem tw10354874933751287560:True:=trivial
theorem tw3828811059983448270:True:=trivial
theorem tw1532315794637423407:True:=trivial
theorem tw7905151684755323652:True:=trivial
theorem tw1842093507678622934:True:=trivial
theorem tw14060438751960339857:True:=trivial
theorem tw208097053112026297:True:=trivial
theorem tw8376050181804690292:True:=trivial
theorem tw3489134787487052670:True:=trivial
theorem tw7337589327341978949:True:=trivial
theorem tw16565064879759359222:True:=trivial
theorem tw13667738492673357660:True:=trivial
theorem tw1395041773332273218:True:=trivial
theorem tw6296570893647363001:True:=trivial
theorem tw1515182869959488578:True:=trivial
theorem tw14810075548660175959:True:=trivial
theorem tw17507311292921148051:True:=trivial
theorem tw1044237417685496834:True:=trivial
theorem tw17140225493377388994:True:=trivial
theorem tw10286565482775694415:True:=trivial
theorem tw511149649246300000:True:=trivial
theorem tw11729264676584629981:True:=trivial
theorem tw9799181143349054376:True:=trivial
theorem tw6331424135137982211:True:=trivial
theorem tw6137584394508984382:True:=trivial
theorem tw10701886847209799279:True:=trivial
theorem tw2451600792507115023:True:=trivial
theorem tw10217109616412406967:True:=trivial
theorem tw7403316477680440471:True:=trivial
theorem tw14198444322761210740:True:=trivial
theorem tw6533212584931701636:True:=trivial
theorem tw16148723994884394471:True:=trivial
theorem tw16238694945974603190:True:=trivial
theorem tw8896709771906403924:True:=trivial
theorem tw9887181081024260728:True:=trivial
theorem tw2777015132567758725:True:=trivial
theorem tw3116061375055066121:True:=trivial
theorem tw1107951946368396975:True:=trivial
theorem tw3084706548277869555:True:=trivial
theorem tw11095416300827131007:True:=trivial
theorem tw3733011526518881392:True:=trivial
theorem tw17463647977678056536:True:=trivial
theorem tw14655937532561683351:True:=trivial
theorem tw18390984972454587135:True:=trivial
theorem tw15050155055245050363:True:=trivial
theorem tw17391699456298343496:True:=trivial
theorem tw15787973655829079959:True:=trivial
theorem tw5457750989937199750:True:=trivial
theorem tw16762205211286485063:True:=trivial
theorem tw17606002121005427783:True:=trivial
theorem tw11442151542548545602:True:=trivial
theorem tw7524224485418275241:True:=trivial
theorem tw14839035221587690519:True:=trivial
theorem tw1613503192437049376:True:=trivial
theorem tw34714663138743943:True:=trivial
end PySem.W.Fast
open PySem PySem.W PyProof.Rows
set_option maxRecDepth 100000 in
set_option maxHeartbeats 0 in
theorem PySem.Challenge.cw_linkorcut_k02_nets_refused_holds : PySem.Challenge.rw_linkorcut_k02_nets_refused.Holds := by
 w_on;o_law;k_head;(case hw=>w_witness2)
 k_fill
 refine Hv.walk (l:=PySem.Challenge.rw_linkorcut_k02_nets_refused) (k:=60) (x:="_law_script") rfl rfl ⟨rfl,by decide,by decide⟩ (λw h Y=>PySem.W.kIn_of Y) ?F
 case F=>
  intro w mg fa h KX G hmg;refine' K02.all_mk KX G hmg K02.true ?_ ?_ ?_ ?_ ?_ ?_ ?_ ?_ ?_ ?_ ?_ ?_ ?_ ?_ ?_ ?_ ?_ ?_ ?_ ?_ ?_ ?_ ?_ ?_ ?_ ?_ ?_ ?_ ?_ ?_ ?_ ?_ ?_ ?_ ?_ ?_ ?_ ?_ ?_ ?_ ?_ ?_ ?_ ?_ ?_ ?_ ?_ ?_ ?_ ?_ ?_ ?_ ?_ ?_ ?_ ?_ ?_ ?_ ?_ ?_ ?_ ?_ ?_ ?_ ?_ ?_ ?_ ?_ ?_ ?_ ?_ ?_ ?_ ?_ ?_ ?_ ?_ ?_ ?_ ?_ ?_ ?_ ?_ ?_ ?_ ?_ ?_ ?_ ?_ ?_ ?_ ?_ ?_ ?_ ?_ ?_ ?_ ?_ ?_ ?_ ?_ ?_ ?_ ?_ ?_ ?_ ?_ ?_ ?_ ?_ ?_ ?_ ?_ ?_ ?_ ?_ ?_
  iterate 2 all_goals try first|k_is|kit_is|(exact⟨_,L2.fun_mk (by k_is) (by k_is) (by k_is)⟩)|(exact⟨⟨by k_is,by rfl,by rfl,by k_is,by k_is⟩,L2.excOb (by k_is) (by rfl),L2.excUp (by k_is) (by rfl) (by k_is) (by rfl) (by rfl) (by rfl),by k_is,by k_is,by k_is⟩)|(exact⟨L2.excOb0 (by k_is) (by rfl) (by k_is) (by rfl) (by rfl) (by rfl),L2.excUp (by k_is) (by rfl) (by k_is) (by rfl) (by rfl) (by rfl),by k_is⟩)|(exact⟨Hv.kits_cons (by kit_is) (Hv.kits_cons (by kit_is) (Hv.kits_cons (by kit_is) (Hv.kits_cons (by kit_is) Hv.kits_nil))),Hv.kits_cons (by kit_is) (Hv.kits_cons (by kit_is) (Hv.kits_cons (by kit_is) Hv.kits_nil)),Hv.kits_cons (by kit_is) (Hv.kits_cons (by kit_is) (Hv.kits_cons (by kit_is) Hv.kits_nil)),by kit_is,by kit_is,by kit_is⟩)|(exact L2.excS (by k_is) (by rfl) (by rfl) (by k_is) (by rfl) (by rfl))|(exact⟨by k_is,by k_is,by k_is,by k_is,by k_is,by k_is,by k_is,by k_is⟩)|(intro x hx;simp only[Hv.bltNames,List.mem_cons,List.not_mem_nil,or_false]at hx;rcases hx with rfl|rfl|rfl|rfl|rfl|rfl|rfl|rfl|rfl|rfl|rfl|rfl|rfl|rfl|rfl|rfl|rfl<;>k_is)|decide
#print axioms PySem.Challenge.cw_linkorcut_k02_nets_refused_holds
end
