import PyProof.Rows.All
import Wide.All
import OpenK.AllK
import Wide.FinOn
import Lean
import PyProof.EqAt
import PyProof.EqKinds
import PyProof.TupleCall
import KE.KDictList
import KE.KDictLaws
import KE.KDictSum
import KE.KRevSl
import PyProof.DictWalks
import PyProof.ExcInit
import PyProof.ExcClass2
import PyProof.StationsW
import PyProof.InstStore
import PyProof.InstStoreFacts
import PyProof.ExcBaseAll.ValueError
import PyProof.RulesAs
import PyProof.NsDelKeeps
import PyProof.ExcAttrAll.ValueError
import KE.KIsAll
import PySem.Challenge.RW_linkorcut_k73_bounds_of_plays
set_option Elab.async false
set_option compiler.extract_closed false
set_option linter.all false
set_option maxRecDepth 100000
set_option maxHeartbeats 4000000
set_option genSizeOf false
set_option backward.eqns.nonrecursive false
set_option backward.eqns.deepRecursiveSplit false
set_option bootstrap.genMatcherCode false
set_option hygiene false
local macro_rules
|`(def $n:declId $s:optDeclSig $v:declVal)=>`(noncomputable def $n:declId $s:optDeclSig $v:declVal)
|`(abbrev $n:declId $s:optDeclSig $v:declVal)=>`(noncomputable abbrev $n:declId $s:optDeclSig $v:declVal)
local macro_rules
|`(#[$a])=>`(.cons $a .nil)
|`(#[$a,$as,*])=>`(.cons $a #[$as,*])
local macro_rules
|`(!$n:num)=>`(.var $n)
local macro_rules
|`(¬$n:num)=>`(.cst (.int $n))
set_option hygiene true
open Array(toList)
open Bool(and_eq_true false_eq_true not_eq_true' or_eq_true)
open Classical(byContradiction choose_spec not_forall not_imp)
open PySem.Heap(get?_update_ne get?_update_other size_push)
open List(all_eq_true any_cons append_nil contains_cons countP_congr countP_cons countP_eq_zero ext_getElem filterMap_cons filter_congr find?_cons flatten_append flatten_cons flatten_nil getD_eq_getElem?_getD getElem_of_mem length length_cons length_drop length_eq_zero_iff length_map length_nil length_set length_singleton length_take lookup_cons map_append map_cons map_id map_nil map_singleton map_take mem_append mem_cons mem_filter mem_flatten nil_append nodup_nil nodup_range not_mem_nil of_mem_zip pairwise_cons pairwise_map range' range_succ replicate size_toArray sum_append sum_cons sum_singleton take_length take_sublist toArray zip_cons_cons)
open Nat(le_of_lt le_succ lt_succ_of_lt lt_succ_self lt_trans mod_lt ne_of_gt)
open Option(bind_some getD_none isSome_some map_some)
open PySem.W(any_some callWith_K callWith_K0 cellsFrom_some codeIn eq_sortI findIn findObj hasDictIn hideAll hideAll_get hideAll_none kat_lt keepIn kia_one kitAny kitOne kitx_list lookIn looks_clsIn looks_findIn looks_mroIn methodObj mg_none_of notCls of_hideAll osa_eq sortI_perm specialIn takesIn typeIn)
def aaa:=@PySem.wpAny_bind
def aab:=@Bool.false_ne_true
def aac:=@if_neg
def aad:=@PySem.Heap.get?_push_of_some
def aae:=@if_pos
def aaf:=@List.mem_cons_of_mem
def aag:=@List.length_map
def aah:=@PySem.wpAny_pure
def aai:=@Option.bind_eq_some_iff
def aaj:=@List.getElem?_set_ne
def aak:=@List.mem_cons_self
def aal:=@List.getElem?_eq_some_iff
def aam:=@Nat.le_refl
def aan:=@PySem.Heap.lt_size
def aao:=@List.mem_cons
def aap:=@List.size_toArray
def aaq:=@List.mem_singleton
def aar:=@List.getElem?_set_self
def aas:=@Nat.lt_of_lt_of_le
def aat:=@PySem.W.mg_of
def aau:=@List.length_append
def aav:=@Nat.ne_of_lt
def aaw:=@PySem.Heap.get?_push_size
def aax:=@List.getElem?_append_left
def aay:=@List.map_cons
def aaz:=@List.getElem?_eq_getElem
def aaA:=@Option.some.inj
def aaB:=@List.prefix_refl
def aaC:=@of_decide_eq_true
def aaD:=@List.mem_append
def aaE:=@Nat.le_trans
def aaF:=@List.mem_of_getElem?
def aaG:=@List.mem_append_right
def aaH:=@Option.map_eq_some_iff
def aaI:=@List.getElem?_map
def aaJ:=@List.getElem_mem
def aaK:=@PySem.wpAny_mono
def aaL:=@List.getElem?_append_right
def aaM:=@List.map_append
def aaN:=@List.map_map
def aaO:=@List.mem_append_left
def aaP:=@List.mem_map
def aaQ:=@PySem.Heap.get?_update_self
def aaR:=@List.mem_range
def aaS:=@Array.length_toList
def aaT:=@List.map_congr_left
def aaU:=@List.mem_map_of_mem
def aaV:=@PySem.wpAny_newObj_type
def aaW:=@List.nodup_cons
def aaX:=@Nat.zero_le
def aaY:=@List.nodup_append
def aaZ:=@Nat.lt_irrefl
def aa0:=@List.prefix_append
def aa1:=@List.getElem_map
def aa2:=@List.length_range
def aa3:=@decide_eq_true_eq
open PySem.W(Frag sortI nsIn fnOf isFn)
section
namespace L2
open PySem PySem.Spec PyProof.Rows
abbrev Key:=Sum Int Str
def sJ:Key->Value->Bool
 |.inl k,v=>Value.isInt k v
 |.inr x,v=>Value.isStrOf x v
def U9(w:World):Key->Int
 |.inl k=>hashInt k
 |.inr x=>hashStr w x
theorem bY:∀{k:Key} {v:Value},sJ k v=true->(∃i t,k=Sum.inl i/\v=Value.int i t)\/(∃x t,k=Sum.inr x/\v=Value.str x t)
 | .inl i,v,h=>by
  obtain⟨t,e⟩:=Value.isInt_shape (k:=i) (v:=v) h;exact .inl ⟨i,t,rfl,e⟩
 | .inr x,v,h=>by
  obtain⟨t,e⟩:=Value.isStrOf_shape (x:=x) (v:=v) h;exact .inr ⟨x,t,rfl,e⟩
theorem BY(i:Int)(t:Tok):sJ (.inl i) (.int i t)=true:=by simp[sJ,Value.isInt]
theorem BZ(x:Str)(t:Tok):sJ (.inr x) (.str x t)=true:=by simp[sJ,Value.isStrOf]
theorem MF(a b:Int):decide ((Sum.inl a:Key)=Sum.inl b)=(a==b):=by
 by_cases e:a=b
 ·subst e;simp
 ·have h:¬ (Sum.inl a:Key)=Sum.inl b:=λq=>e (Sum.inl.inj q);rw[decide_eq_false h];exact(beq_eq_false_iff_ne.mpr e).symm
theorem MG(a b:Str):decide ((Sum.inr a:Key)=Sum.inr b)=decide (a=b):=by
 by_cases e:a=b
 ·subst e;simp
 ·have h:¬ (Sum.inr a:Key)=Sum.inr b:=λq=>e (Sum.inr.inj q);rw[decide_eq_false h,decide_eq_false e]
theorem MH(a:Int)(b:Str):decide ((Sum.inl a:Key)=Sum.inr b)=false:=decide_eq_false (λq=>nomatch q)
theorem MI(a:Str)(b:Int):decide ((Sum.inr a:Key)=Sum.inl b)=false:=decide_eq_false (λq=>nomatch q)
def bU(prog:Program)(w:World):PySem.KeyKind prog w Key where
 is:=sJ
 hash:=U9 w
 inj:=λv a b ha hb=>by
  rcases bY ha with ⟨i,t,rfl,rfl⟩|⟨x,t,rfl,rfl⟩
  ·rcases bY hb with ⟨j,u,rfl,e⟩|⟨y,u,rfl,e⟩
   ·injection e with e1 _;rw[e1]
   ·exact nomatch e
  ·rcases bY hb with ⟨j,u,rfl,e⟩|⟨y,u,rfl,e⟩
   ·exact nomatch e
   ·injection e with e1 _;rw[e1]
 byValue:=λk v h=>by
  rcases bY h with ⟨i,t,rfl,rfl⟩|⟨x,t,rfl,rfl⟩<;>rfl
 pyHash:=λhv h=>by
  rcases bY hv with ⟨i,t,rfl,rfl⟩|⟨x,t,rfl,rfl⟩
  ·exact wpAny_pyHash_int h
  ·exact wpAny_pyHash_str h
 eqBool:=λhu hv h=>by
  rcases bY hu with ⟨i,t,rfl,rfl⟩|⟨x,t,rfl,rfl⟩
  ·rcases bY hv with ⟨j,u,rfl,rfl⟩|⟨y,u,rfl,rfl⟩
   ·rw[MF]at h;exact wpAny_eqBool_int h
   ·rw[MH]at h;exact SeqAt.EqAt.int_str i t y u _ _ _ _ h
  ·rcases bY hv with ⟨j,u,rfl,rfl⟩|⟨y,u,rfl,rfl⟩
   ·rw[MI]at h;exact SeqAt.EqAt.str_int x t j u _ _ _ _ h
   ·rw[MG]at h;exact wpAny_eqBool_str h
 «strs»:=λk x t v h=>by
  rcases bY h with ⟨i,u,rfl,e⟩|⟨y,u,rfl,e⟩
  ·exact nomatch e
  ·injection e with e1 _
   subst e1;cases v<;>rfl
theorem vH(prog:Program)(w:World)(i:Int)(t:Tok):(bU prog w).is (.inl i) (.int i t)=true:=BY i t
theorem vI(prog:Program)(w:World)(x:Str)(t:Tok):(bU prog w).is (.inr x) (.str x t)=true:=BZ x t
inductive V where
 |non|bl (b:Bool)|int (i:Int)|str (x:Str)|byt (b:Array UInt8)|flt (b:UInt64)|ref (a:Addr)|ty (n:String)
 deriving DecidableEq
def RelV:V->Value->Prop
 |.non,u=>u=Value.none
 |.bl b,u=>u=Value.bool b
 |.int i,u=>∃t,u=Value.int i t
 |.str x,u=>∃t,u=Value.str x t
 |.byt b,u=>∃t,u=Value.bytes b t
 |.flt b,u=>∃t,u=Value.float b t
 |.ref a,u=>u=Value.ref a
 |.ty n,u=>u=Value.type n
abbrev Vals:List V->List Value->Prop:=Paired RelV
theorem Vals.length(r:Vals xs us):xs.length=us.length:=Paired.length r
theorem Vals.get:∀{xs:List V} {us:List Value} {i:Nat} {x:V},Vals xs us->xs[i]?=some x->∃u,us[i]?=some u/\RelV x u
 |_,_,_,_,.nil,e=>by simp at e
 |_,_,0,_,.cons r _,e=>by simp at e;subst e;exact⟨_,rfl,r⟩
 | _,_,i+1,x,.cons _ t,e=>by
  obtain⟨u,h1,h2⟩:=Vals.get (i:=i) (x:=x) t (by simpa using e);exact⟨u,by simpa using h1,h2⟩
theorem Vals.set(r:RelV x u):∀{xs:List V} {us:List Value} (i:Nat),Vals xs us->Vals (xs.set i x) (us.set i u)
 |_,_,_,.nil=>.nil
 |_,_,0,.cons _ t=>.cons r t
 |_,_,i+1,.cons q t=>.cons q (Vals.set r i t)
theorem Vals.append:∀{xs ys:List V} {us ws:List Value},Vals xs us->Vals ys ws->Vals (xs++ys) (us++ws)
 |_,_,_,_,.nil,s=>s
 |_,_,_,_,.cons r t,s=>.cons r (Vals.append t s)
theorem Vals.take:∀{xs:List V} {us:List Value} (n:Nat),Vals xs us->Vals (xs.take n) (us.take n)
 |_,_,0,_=>.nil
 |_,_,_+1,.nil=>.nil
 |_,_,n+1,.cons r t=>.cons r (Vals.take n t)
theorem Vals.drop:∀{xs:List V} {us:List Value} (n:Nat),Vals xs us->Vals (xs.drop n) (us.drop n)
 |_,_,0,r=>r
 |_,_,_+1,.nil=>.nil
 |_,_,n+1,.cons _ t=>Vals.drop n t
def lV:Option V->Option Value->Prop
 |some v,some u=>RelV v u
 |none,none=>True
 |_,_=>False
def KV{κ:Type}:List (κ × V)->List (κ × Value)->Prop:=Paired λ(p:κ × V) (q:κ × Value)=>p.1=q.1/\RelV p.2 q.2
def kV:Key->V
 |.inl i=>.int i
 |.inr x=>.str x
inductive HO where
  |lst (xs:List V)
  |tup (xs:List V)
  |dK (kvs:List (Key×V))|dT (kvs:List (List Key×V))
  |set (S:Int->Bool) (n:Nat)
  |ins (C dx:Addr) (fs:List (Str×V))
  |own (x:Addr)
  |xd (fs:List (Str×V))
  |met (f x:Addr)
  |rng (lo hi:Int)
  |sM (o:Obj) (u:HO)
  |tbl (ps:Array Value)
  |ext (φ:Heap->Prop)
abbrev Hp:=Addr->Option HO
def upd(H:Hp)(a:Addr)(o:HO):Hp:=λb=>if b=a then some o else H b
theorem aD:upd H a o a=some o:=by unfold upd;rw[aae rfl]
theorem ao(h:b≠a):upd H a o b=H b:=by unfold upd;rw[aac h]
theorem Q4{H:Hp}{a b:Addr}{o u:HO}(h:H a=some o)(h':H b=some u)(d:o≠u):a≠b:=by
 intro e;subst e;rw[h]at h';exact d (aaA h')
theorem aF{H:Hp}{a b:Addr}{o:HO}(h:H a=some o)(h':H b=none):a≠b:=by
 intro e;subst e;rw[h]at h';cases h'
section
variable (P:Program) (w:World)
def bL(H:Hp)(h:Heap)(a:Addr):HO->Prop
 |.lst xs=>xs.length<=sizeLine/\∃(its:List Value) (n:Nat),Vals xs its/\h.get? a=some { cls:=.type "list",data:=.seq its.toArray n }
 |.tup xs=>xs.length<=sizeLine/\∃its:List Value,Vals xs its/\IsTup h a its.toArray
 |.dK kvs=>kvs.length<=sizeLine/\(a==sysModules)=false/\∃vs,KV kvs vs/\h.DictOf (bU P w) a vs
 | .dT kvs=>kvs.length<=sizeLine/\(a==sysModules)=false/\∃xs:List (List Key×Addr×Value),
   Paired (λ(p:List Key×V) (q:List Key×Addr×Value)=>p.1=q.1/\H q.2.1=some (.tup (p.1.map kV))/\RelV p.2 q.2.2) kvs xs /\
   ∃o es ep,h.get? a=some o/\o.ExactDict/\o.data=.dict es ep/\es.toList=xs.map (entryOfKey (tupleKind (bU P w)))/\(xs.map (·.1)).Nodup
 |.set S n=>h.SetOf (intKind P w) a S n
 | .ins C dx fs=>H dx=some (.own a)/\fs.length<=1000/\dx≠a/\h.get? a=some (PySem.W.instObj C dx) /\
   ∃mA,h.Ns1 dx mA/\(∀f,lV (fs.lookup f) (mA f))/\PySem.Within mA (fs.map (·.1))
 |.own _=>∃o,h.get? a=some o
 |.xd fs=>∃mA,h.Ns1 a mA/\∀f,lV (fs.lookup f) (mA f)
 |.rng lo hi=>∃t u v,h.get? a=some { cls:=.type "range",data:=.fields [.int lo t,.int hi u,.int 1 v].toArray }
 |.sM o u=>h.get? a=some o/\bL H h a u
 |.tbl ps=>h.get? a=some { cls:=.none,data:=.fields ps }
 |.met f x=>h.get? a=some (methodObj (.ref f) (.ref x))
 |.ext φ=>φ h/\(∃o,h.get? a=some o)/\∀h1 h2:Heap,φ h1->(∀o,h1.get? a=some o->h2.get? a=some o) -> φ h2
def jw(H:Hp)(h:Heap):Prop:=∀a o,H a=some o->bL P w H h a o
end
section
variable {P:Program} {w:World} {H H':Hp} {h h':Heap} {a:Addr} {o:HO}
theorem bL.lt(x:bL P w H h a o):a<h.objs.size:=by
 cases o with
 |lst xs=>obtain⟨_,_,_,_,e⟩:=x;exact aan e
 |tup xs=>obtain⟨_,_,_,p⟩:=x;exact p.lt
 |dK kvs=>obtain⟨_,_,_,_,o,_,_,e,_⟩:=x;exact aan e
 |dT kvs=>obtain⟨_,_,_,_,o,_,_,e,_⟩:=x;exact aan e
 |set S n=>obtain⟨o,_,_,_,e,_⟩:=x;exact aan e
 |ins C dx fs=>obtain⟨_,_,_,e,_⟩:=x;exact aan e
 |own y=>obtain⟨_,e⟩:=x;exact aan e
 |xd fs=>obtain⟨_,⟨_,_,_,e,_⟩,_⟩:=x;exact aan e
 |rng lo hi=>obtain⟨_,_,_,e⟩:=x;exact aan e
 |sM ob u=>obtain⟨e,_⟩:=x;exact aan e
 |tbl ps=>exact aan (show h.get? a=some _ from x)
 |met f y=>exact aan (show h.get? a=some _ from x)
 |ext φ=>obtain⟨_,⟨_,e⟩,_⟩:=x;exact aan e
theorem Paired.MJ{α β:Type}{F G:α -> β -> Prop}:∀{l₁:List α} {l₂:List β},Paired F l₁ l₂->(∀a b,F a b->G a b)->Paired G l₁ l₂
 |_,_,.nil,_=>.nil
 |_,_,.cons r t,f=>.cons (f _ _ r) (Paired.MJ t f)
theorem bL.stay(x:bL P w H h a o)(k:∀b u,(b=a\/H b=some (.own a))->h.get? b=some u->h'.get? b=some u)
  (ho:∀b,H b=some (.own a)->H' b=some (.own a)) (ht:∀b xs,H b=some (.tup xs)->H' b=some (.tup xs)):bL P w H' h' a o:=by
 induction o with
 |lst xs=>obtain⟨z,its,n,r,e⟩:=x;exact⟨z,its,n,r,k _ _ (.inl rfl) e⟩
 |tup xs=>obtain⟨z,its,r,ob,e,c⟩:=x;exact⟨z,its,r,ob,k _ _ (.inl rfl) e,c⟩
 |dK kvs=>obtain⟨z,y,vs,r,ob,es,ep,e,c⟩:=x;exact⟨z,y,vs,r,ob,es,ep,k _ _ (.inl rfl) e,c⟩
 |dT kvs=>obtain⟨z,y,xs,r,ob,es,ep,e,c⟩:=x;exact⟨z,y,xs,Paired.MJ r λp q z=>⟨z.1,ht _ _ z.2.1,z.2.2⟩,ob,es,ep,k _ _ (.inl rfl) e,c⟩
 |set S n=>obtain⟨ob,es,ep,t,e,c⟩:=x;exact⟨ob,es,ep,t,k _ _ (.inl rfl) e,c⟩
 |ins C dx fs=>obtain⟨d,z,ne,e,mA,⟨od,es,ep,e2,c⟩,r⟩:=x;exact⟨ho _ d,z,ne,k _ _ (.inl rfl) e,mA,⟨od,es,ep,k _ _ (.inr d) e2,c⟩,r⟩
 |own y=>obtain⟨ob,e⟩:=x;exact⟨ob,k _ _ (.inl rfl) e⟩
 |xd fs=>obtain⟨mA,⟨od,es,ep,e,c⟩,r⟩:=x;exact⟨mA,⟨od,es,ep,k _ _ (.inl rfl) e,c⟩,r⟩
 |rng lo hi=>obtain⟨t,u,v,e⟩:=x;exact⟨t,u,v,k _ _ (.inl rfl) e⟩
 |sM ob u ih=>obtain⟨e,q⟩:=x;exact⟨k _ _ (.inl rfl) e,ih q⟩
 |tbl ps=>have e:h.get? a=some { cls:=.none,data:=.fields ps }:=x;show h'.get? a=some { cls:=.none,data:=.fields ps };exact k a _ (.inl rfl) e
 |met f y=>have e:h.get? a=some (methodObj (.ref f) (.ref y)):=x;show h'.get? a=some (methodObj (.ref f) (.ref y));exact k a _ (.inl rfl) e
 |ext φ=>obtain⟨p,⟨o,e⟩,st⟩:=x;exact⟨st _ _ p λo q=>k _ _ (.inl rfl) q,⟨o,k _ _ (.inl rfl) e⟩,st⟩
theorem jw.lt(x:jw P w H h)(e:H a=some o):a<h.objs.size:=(x a o e).lt
theorem jw.fresh(x:jw P w H h)(e:h.objs.size<=a):H a=none:=by
 cases q:H a with
 |none=>rfl
 |some u=>exact absurd (aas (x.lt q) e) (aaZ _)
theorem jw.kept(x:jw P w H h)(k:∀b u,h.get? b=some u->h'.get? b=some u):jw P w H h':=λa o e=>
 (x a o e).stay (λb u _ q=>k b u q) (λ_ q=>q) λ_ _ q=>q
theorem jw.laid(x:jw P w H h)(k:∀b u,h.get? b=some u->h'.get? b=some u)(hp:h.objs.size<=a)(new:bL P w (upd H a o) h' a o):jw P w (upd H a o) h':=λb u e=>by
 have hn:=x.fresh hp
 by_cases hb:b=a
 ·subst hb;rw[aD]at e;cases e;exact new
 ·rw[ao hb]at e;exact(x b u e).stay (λc v _ q=>k c v q) (λc q=>by rw[ao (aF q hn)];exact q) λc xs q=>by rw[ao (aF q hn)];exact q
end
def Rd(H:Hp)(a:Addr)(u:HO):Prop:=H a=some u\/∃o,H a=some (.sM o u)
theorem Rd.ok(r:Rd H a u)(x:jw P w H h):bL P w H h a u:=by
 rcases r with r|⟨o,r⟩
 ·exact x a u r
 ·obtain⟨_,q⟩:=x a _ r;exact q
def Q5:Option HO->Prop
 |some (.lst _)=>True
 |some (.dK _)=>True
 |some (.dT _)=>True
 |some (.set _ _)=>True
 |some (.ins _ _ _)=>True
 |some (.ext _)=>True
 |_=>False
section
variable {P:Program} {w:World} {H:Hp} {h h':Heap} {x e:Addr} {o':HO}
theorem jw.write(ok:jw P w H h)(mu:Q5 (H x))(he:e=x\/H e=some (.own x))(k:∀b u,b≠e->h.get? b=some u->h'.get? b=some u)(QL:∃u,h'.get? e=some u)
  (new:bL P w (upd H x o') h' x o'):jw P w (upd H x o') h':=λb u q=>by
 have nown:∀c y,H c=some (.own y)->c≠x:=λc y r z=>by subst z;rw[r]at mu;exact mu
 have ntup:∀c xs,H c=some (.tup xs)->c≠x:=λc xs r z=>by subst z;rw[r]at mu;exact mu
 by_cases hb:b=x
 ·subst hb;rw[aD]at q;cases q;exact new
 ·rw[ao hb]at q
  by_cases MK:b=e
  ·have q':H b=some (.own x):=by
    rcases he with z|z
    ·exact absurd (MK.trans z) hb
    ·rw[MK];exact z
   rw[q]at q';cases q';obtain⟨v,hv⟩:=QL;exact⟨v,by rw[MK];exact hv⟩
  ·refine(ok b u q).stay (λc v hc r=>k c v ?_ r) (λc r=>by rw[ao (nown c b r)];exact r) λc xs r=>by rw[ao (ntup c xs r)];exact r
   rcases hc with rfl|hc
   ·exact MK
   ·rintro rfl
    rcases he with z|z
    ·exact nown c b hc z
    ·rw[hc]at z;cases z;exact hb rfl
end
structure Un (fs ex:List Addr) (H H':Hp) (h h':Heap):Prop where
 keep:∀b o,h.get? b=some o->H b=none->b∉fs->b∉ex->h'.get? b=some o
 slot:∀b o,h.get? b=some o->H b=none->b∈fs->b∉ex->∃sl,h'.get? b=some { o with slots:=sl }
 free:∀b o,h.get? b=some o->H b=none->b∉ex->H' b=none
 there:∀b o,h.get? b=some o->b∉ex->∃o',h'.get? b=some o'
 tups:∀b xs,H b=some (.tup xs)->H' b=some (.tup xs)
 frzs:∀b o u,H b=some (.sM o u)->H' b=some (.sM o u)
 lW:∀b ps,H b=some (.tbl ps)->∃more,H' b=some (.tbl (ps++more))
section
variable {fs fs' ex ex':List Addr} {H H1 H2:Hp} {h h1 h2 h':Heap} {a x e:Addr} {o:HO}
theorem Un.any(u:Un fs ex H H1 h h1)(q:h.get? b=some ob)(n:H b=none)(hx:b∉ex):∃sl,h1.get? b=some { ob with slots:=sl }:=by
 by_cases hb:b∈fs
 ·exact u.slot b ob q n hb hx
 ·exact⟨ob.slots,u.keep b ob q n hb hx⟩
theorem Un.kept(k:∀b u,h.get? b=some u->h'.get? b=some u):Un fs ex H H h h' :=
 ⟨λb ob q _ _ _=>k b ob q,λb ob q _ _ _=>⟨ob.slots,k b ob q⟩,λ_ _ _ n _=>n,λb ob q _=>⟨ob,k b ob q⟩,λ_ _ q=>q,λ_ _ _ q=>q,λ_ ps q=>⟨#[],by rw[q];simp⟩⟩
theorem Un.refl:Un fs ex H H h h:=Un.kept λ_ _ q=>q
theorem Un.laid(k:∀b u,h.get? b=some u->h'.get? b=some u)(hp:h.objs.size<=a)(hn:H a=none):Un fs ex H (upd H a o) h h' where
 keep:=λb u q _ _ _=>k b u q
 slot:=λb u q _ _ _=>⟨u.slots,k b u q⟩
 free:=λb u q n _=>by rw[ao (aav (aas (aan q) hp))];exact n
 there:=λb u q _=>⟨u,k b u q⟩
 tups:=λb xs q=>by rw[ao (aF q hn)];exact q
 frzs:=λb u xs q=>by rw[ao (aF q hn)];exact q
 lW:=λb ps q=>⟨#[],by rw[ao (aF q hn),q];simp⟩
theorem Un.write(mu:Q5 (H x))(he:e=x\/H e=some (.own x))(k:∀b u,b≠e->h.get? b=some u->h'.get? b=some u)(QL:∃u,h'.get? e=some u):Un fs ex H (upd H x o) h h':=by
 have hx:∀b,H b=none->b≠x:=λb n z=>by subst z;rw[n]at mu;exact mu
 have hb:∀b,H b=none->b≠e:=λb n z=>by
  subst z
  rcases he with r|r
  ·exact hx b n r
  ·rw[n]at r;cases r
 have hm:∀b u,H b=some u->¬ Q5 (some u)->b≠x:=λb u q nm z=>by subst z;rw[q]at mu;exact nm mu
 refine⟨λb u q n _ _=>k b u (hb b n) q,λb u q n _ _=>⟨u.slots,k b u (hb b n) q⟩,λb u q n _=>by rw[ao (hx b n)];exact n,λb u q _=>?_,
  λb xs q=>by rw[ao (hm b _ q λz=>z)];exact q,λb u xs q=>by rw[ao (hm b _ q λz=>z)];exact q,λb ps q=>⟨#[],by rw[ao (hm b _ q λz=>z),q];simp⟩⟩
 by_cases MK:b=e
 ·subst MK;exact QL
 ·exact⟨u,k b u MK q⟩
end
def UH(h:Heap)(H:Hp):List Addr:=(List.range h.objs.size).filter λa=>(H a).isSome
def uB(h:Heap)(H:Hp):Heap:=hideAll h (UH h H)
theorem B0(h:Heap)(H:Hp):(uB h H).objs.size=h.objs.size:=PySem.W.hideAll_size _ _
theorem DH(e:h.get? b=some o)(n:H b=none):(uB h H).get? b=some o :=
 hideAll_get _ e λhm=>by
  have q:(H b).isSome=true:=(mem_filter.mp hm).2;rw[n]at q;simp at q
theorem Ig(e:(uB h H).get? b=some o):h.get? b=some o/\H b=none:=by
 have e':h.get? b=some o:=of_hideAll (UH h H) e;refine⟨e',?_⟩;cases q:H b with
 |none=>rfl
 |some x=>have hm:b∈UH h H:=mem_filter.mpr ⟨aaR.mpr (aan e'),by simp[q]⟩;have z:(uB h H).get? b=none:=hideAll_none (UH h H) hm;rw[z]at e;cases e
def Ih(g h:Heap)(L:Addr):List (Addr×Obj):=(List.range h.objs.size).filterMap λa=>if a=L\/(g.get? a).isSome=true then none else (h.get? a).map λo=>(a,o)
def rest(g h:Heap)(L d:Addr):List (Addr×Obj):=(Ih g h L).filter λp=>decide (p.1≠d)
structure Mod (K:Frag) (mg:Str->Option Value) (base:Heap):Prop where
 Q6:K.In base
 glob:base.Ns mainGlobals mg
 blt:∃mb,base.Ns builtinsNs mb/\∀x:Str,x ≠ "__name__" -> mb x=bootBuiltins x
 nolimit:base.NoLimit
structure Cx where
 prog:Program
 w:World
 K:Frag
 mg:Str->Option Value
 base:Heap
 A:Around
 N:List Str
 s₀:Shared
 H₀:Hp
 env:Env
 outer:List Env
 stack:List Env
 ex:List Addr
 fn:Str->Bool
 calm:Bool
 pn:List (Addr×Obj)
 xe:Value->Shared->Prop
def frs(l:List Env):List Addr:=l.filterMap (·.frame)
abbrev Cx.fs(X:Cx):List Addr:=frs X.outer
def Q7(sc:Scope)(x:Str):Prop:=sc.names.lookup x=some .local\/sc.names.lookup x=some .cell\/sc.names.lookup x=some .free
def Loc(sc:Scope)(x:Str):Prop:=sc.names.lookup x=some .local\/sc.names.lookup x=some .cell
def Look(env:Env)(h:Heap)(m:Str->Option Value)(x:Str)(u:Value):Prop :=
 (env.kindOf x=some .local/\m x=some u)\/((env.kindOf x=some .cell\/env.kindOf x=some .free)/\∃c,env.cells.lookup x=some c/\h.IsCell c (some u))
structure Cx.Ok (X:Cx):Prop where
 mod:Mod X.K X.mg X.base
 kind:X.env.scope.kind=.function
 glob:X.env.globals=mainGlobals
 blt:X.env.builtins=builtinsNs
 above:X.s₀.heap.objs.size<=X.env.locals
 inj:∀x y c,X.env.cells.lookup x=some c->X.env.cells.lookup y=some c->x=y
 has:∀x,(X.env.kindOf x=some .cell\/X.env.kindOf x=some .free)->∃c,X.env.cells.lookup x=some c
 QM:∀x c,X.fn x=true->X.env.cells.lookup x=some c->X.s₀.heap.objs.size<=c
 hd:X.calm=true->X.A.handled=none
 frames:X.A.frames=some X.stack
 stk:X.stack=X.outer\/(X.stack=X.env::X.outer/\X.env.frame=some X.env.locals)
 UI:∀b∈X.ex,b≠X.env.locals/\∀x c,X.env.cells.lookup x=some c->c≠b
 bs:∀b o,X.base.get? b=some o->X.s₀.heap.get? b=some o/\X.H₀ b=none
 Ii:X.base.objs.size<=X.s₀.heap.objs.size
 B3:∀b o,X.base.get? b=some o->b∉X.ex
 B4:∀b∈X.ex,b∉X.fs
 nq:X.s₀.heap.FunFrames X.base X.outer
 Ly:∀b∈X.fs,X.H₀ b=none
structure Inv (X:Cx) (pins:List (Addr×Obj)) (σ:List (Option V)) (H:Hp) (s:Shared):Prop where
 ok:X.Ok
 os:s.os=X.s₀.os
 bare:AllBare s.gens
 base:Un X.fs X.ex X.H₀ H X.s₀.heap s.heap
 loc:∃m,s.heap.Ns X.env.locals m/\∀(i:Nat) (x:Str) (v:V),X.N[i]?=some x -> σ[i]?=some (some v)->Q7 X.env.scope x->∃u,RelV v u/\Look X.env s.heap m x u
 cell:∀x c,X.env.cells.lookup x=some c->∃v,s.heap.IsCell c v
 free:H X.env.locals=none
 gy:∀x c,X.env.cells.lookup x=some c->H c=none
 pin:∀p∈X.pn++pins,s.heap.get? p.1=some p.2/\H p.1=none/\p.1≠X.env.locals/\p.1∉X.fs/\∀v,p.2.data≠.cell v
 hok:jw X.prog X.w H s.heap
 len:σ.length=X.N.length
section
variable {X:Cx} {pins:List (Addr×Obj)} {σ:List (Option V)} {H H':Hp} {s:Shared} {h':Heap}
theorem Cx.Ok.Va(ok:X.Ok)(e:X.base.get? b=some o):b∉X.fs:=λhb=>by
 have:=(ok.nq.mem hb).1;rw[e]at this;cases this
theorem Inv.bs(I:Inv X pins σ H s):∀b o,X.base.get? b=some o->s.heap.get? b=some o/\H b=none:=λb o e=>
 ⟨I.base.keep b o (I.ok.bs b o e).1 (I.ok.bs b o e).2 (I.ok.Va e) (I.ok.B3 b o e),I.base.free b o (I.ok.bs b o e).1 (I.ok.bs b o e).2 (I.ok.B3 b o e)⟩
theorem Inv.bk(I:Inv X pins σ H s):∀b o,X.base.get? b=some o->s.heap.get? b=some o:=λb o e=>(I.bs b o e).1
theorem Inv.mod(I:Inv X pins σ H s):Mod X.K X.mg X.base:=I.ok.mod
theorem Inv.kQ(I:Inv X pins σ H s):X.K.In s.heap:=I.ok.mod.Q6.keeps I.bk
theorem Inv.lt(I:Inv X pins σ H s):X.env.locals<s.heap.objs.size:=let ⟨_,hn,_⟩:=I.loc;hn.lt
theorem Inv.sz(I:Inv X pins σ H s):X.s₀.heap.objs.size<=s.heap.objs.size:=aaE I.ok.above (le_of_lt I.lt)
theorem Inv.Vb(I:Inv X pins σ H s)(h:s.heap.objs.size<=a):a∉X.fs:=λhb=>by
 obtain⟨_,o,ho,_⟩:=I.ok.nq.mem hb;exact absurd (aas (aan ho) (aaE I.sz h)) (aaZ _)
theorem Inv.cne(I:Inv X pins σ H s):∀x c,X.env.cells.lookup x=some c->c≠X.env.locals:=λx c e z=>by
 obtain⟨v,o,ho,hd⟩:=I.cell x c e;obtain⟨m,⟨o',es,ep,ho',hd',_⟩,_⟩:=I.loc;rw[z,ho']at ho;cases ho;rw[hd']at hd;cases hd
theorem Inv.nq(I:Inv X pins σ H s):s.heap.FunFrames X.base X.outer:=by
 have all:∀(l:List Env),(∀b∈frs l,b∈X.fs)->X.s₀.heap.FunFrames X.base l->s.heap.FunFrames X.base l:=by
  intro l
  induction l with
  |nil=>intro _ _;trivial
  |cons env r ih=>intro hs hl;obtain⟨hk,⟨L,o,hf,hn,ho,hd⟩,hr⟩:=hl;have hL:L∈X.fs:=hs L (by unfold frs;rw[filterMap_cons,hf];exact aak);obtain⟨sl,e⟩:=I.base.slot L o ho (I.ok.Ly L hL) hL λz=>I.ok.B4 L z hL;exact⟨hk,⟨L,_,hf,hn,e,hd⟩,ih (λb hb=>hs b (by unfold frs;rw[filterMap_cons,hf];exact aaf _ hb)) hr⟩
 exact all X.outer (λ_ hb=>hb) I.ok.nq
theorem Inv.stack(I:Inv X pins σ H s):s.heap.FunFrames X.base X.stack:=by
 rcases I.ok.stk with e|⟨e,hf⟩
 ·rw[e];exact I.nq
 ·rw[e];obtain⟨m,hn,_⟩:=I.loc;refine .cons (by rw[I.ok.kind];decide) hf hn ?_ I.nq;exact Heap.get?_none_of_le (aaE I.ok.Ii I.ok.above)
theorem Inv.yH(I:Inv X pins σ H s):∀b∈frs X.stack,b∈X.env.locals::X.fs:=λb hb=>by
 rcases I.ok.stk with e|⟨e,hf⟩
 ·rw[e]at hb;exact aaf _ hb
 ·rw[e]at hb;unfold frs at hb;rw[filterMap_cons,hf]at hb;exact hb
theorem Inv.lX(I:Inv X pins σ H s):∀b∈frs X.stack,H b=none:=λb hb=>by
 rcases aao.mp (I.yH b hb) with e|hb
 ·rw[e];exact I.free
 ·obtain⟨_,o,ho,_⟩:=I.ok.nq.mem hb;exact I.base.free b o ho (I.ok.Ly b hb) λz=>I.ok.B4 b z hb
theorem Inv.step{g':Array GenState}{t':Nat}{d':Drawn}{ch:List Addr}(I:Inv X pins σ H s)
  (hch:∀b∈ch,(b∈X.ex\/X.s₀.heap.objs.size<=b)/\b≠X.env.locals/\(∀x c,X.env.cells.lookup x=some c->c≠b)/\∀p∈X.pn++pins,p.1≠b)
  (keep:∀b o,b≠X.env.locals->b∉X.fs->b∉ch->s.heap.get? b=some o->H b=none->h'.get? b=some o)
  (slot:∀b o,b≠X.env.locals->b∈X.fs->b∉ch->s.heap.get? b=some o->H b=none->∃sl,h'.get? b=some { o with slots:=sl }) (free:∀b o,b∉ch->s.heap.get? b=some o->H b=none->H' b=none)
  (there:∀b o,b∉ch->s.heap.get? b=some o->∃o',h'.get? b=some o')
  (tups:∀b xs,H b=some (.tup xs)->H' b=some (.tup xs)) (frzs:∀b o u,H b=some (.sM o u)->H' b=some (.sM o u)) (lW:∀b ps,H b=some (.tbl ps)->∃more,H' b=some (.tbl (ps++more)))
  (ns:∀m,s.heap.Ns X.env.locals m->h'.Ns X.env.locals m) (hok:jw X.prog X.w H' h') (hg:AllBare g') :
  Inv X pins σ H' { s with heap:=h',gens:=g',drawn:=d',toks:=t' }:=by
 have neL:∀b o,X.s₀.heap.get? b=some o->b≠X.env.locals:=λb o e=>aav (aas (aan e) I.ok.above);have neC:∀b o,X.s₀.heap.get? b=some o->b∉X.ex->b∉ch:=λb o e hx hb=>by
  rcases(hch b hb).1 with z|z
  ·exact hx z
  ·exact absurd (aas (aan e) z) (aaZ _)
 have cellK:∀x c,X.env.cells.lookup x=some c->∀v,s.heap.IsCell c v->h'.IsCell c v:=λx c e v ⟨o,ho,hd⟩=>by
  have Q8:c∉ch:=λz=>(hch c z).2.2.1 x c e rfl
  by_cases hc:c∈X.fs
  ·obtain⟨sl,q⟩:=slot c o (I.cne x c e) hc Q8 ho (I.gy x c e);exact⟨_,q,hd⟩
  ·exact⟨o,keep c o (I.cne x c e) hc Q8 ho (I.gy x c e),hd⟩
 refine⟨I.ok,I.os,hg,⟨λb o e n hb hx=>?_,λb o e n hb hx=>?_,λb o e n hx=>?_,λb o e hx=>?_,λb xs e=>tups b xs (I.base.tups b xs e),λb o xs e=>frzs b o xs (I.base.frzs b o xs e),λb ps e=>?_⟩,?_,λx c e=>?_,?_,λx c e=>?_,λp hp=>?_,hok,I.len⟩
 ·exact keep b o (neL b o e) hb (neC b o e hx) (I.base.keep b o e n hb hx) (I.base.free b o e n hx)
 ·obtain⟨sl,e1⟩:=I.base.slot b o e n hb hx;obtain⟨Q9,e2⟩:=slot b _ (neL b o e) hb (neC b o e hx) e1 (I.base.free b o e n hx);exact⟨Q9,e2⟩
 ·obtain⟨o',e1⟩:=I.base.there b o e hx;exact free b o' (neC b o e hx) e1 (I.base.free b o e n hx)
 ·obtain⟨o',e1⟩:=I.base.there b o e hx;exact there b o' (neC b o e hx) e1
 ·obtain⟨m1,e1⟩:=I.base.lW b ps e;obtain⟨m2,e2⟩:=lW b _ e1;exact⟨m1++m2,by rw[e2,Array.append_assoc]⟩
 ·obtain⟨m,hn,hl⟩:=I.loc
  refine⟨m,ns m hn,λi x v e1 e2 e3=>?_⟩;obtain⟨u,r,l⟩:=hl i x v e1 e2 e3;refine⟨u,r,?_⟩
  rcases l with l|⟨k,c,e,z⟩
  ·exact .inl l
  ·exact .inr ⟨k,c,e,cellK x c e _ z⟩
 ·obtain⟨v,z⟩:=I.cell x c e;exact⟨v,cellK x c e v z⟩
 ·obtain⟨m,⟨o,_,_,ho,_⟩,_⟩:=I.loc;exact free _ o (λz=>(hch _ z).2.1 rfl) ho I.free
 ·obtain⟨v,o,ho,hd⟩:=I.cell x c e;exact free c o (λz=>(hch c z).2.2.1 x c e rfl) ho (I.gy x c e)
 ·obtain⟨e,n,ne,nf,d⟩:=I.pin p hp;have Q8:p.1∉ch:=λz=>(hch p.1 z).2.2.2 p hp rfl;exact⟨keep p.1 p.2 ne nf Q8 e n,free p.1 p.2 Q8 e n,ne,nf,d⟩
theorem Inv.un{t':Nat}(I:Inv X pins σ H s)(u:Un X.fs [] H H' s.heap h')(hok:jw X.prog X.w H' h'):Inv X pins σ H' { s with heap:=h',toks:=t' }:=by
 obtain⟨m,⟨o,es,ep,ho,r⟩,_⟩:=id I.loc;obtain⟨sl,hL⟩:=u.any ho I.free (by simp);exact I.step (g':=s.gens) (d':=s.drawn) (ch:=[]) (λ_ z=>nomatch z) (λb o _ hb _ e n=>u.keep b o e n hb (by simp)) (λb o _ hb _ e n=>u.slot b o e n hb (by simp)) (λb o _ e n=>u.free b o e n (by simp)) (λb o _ e=>u.there b o e (by simp)) u.tups u.frzs u.lW (λm' hm=>by
  obtain⟨o',es',Vc,ho',r'⟩:=hm;rw[ho]at ho';cases ho';exact⟨_,es',Vc,hL,r'⟩) hok I.bare
theorem Inv.call{t':Nat}(I:Inv X pins σ H s)(u:Un (frs X.stack) ch H H' s.heap h')(hok:jw X.prog X.w H' h')(hg:AllBare g')
  (hch:∀b∈ch,(b∈X.ex\/X.s₀.heap.objs.size<=b)/\b≠X.env.locals/\(∀x c,X.env.cells.lookup x=some c->c≠b)/\∀p∈X.pn++pins,p.1≠b) :
  Inv X pins σ H' { s with heap:=h',gens:=g',drawn:=d',toks:=t' }:=by
 obtain⟨m,⟨o,es,ep,ho,r⟩,_⟩:=id I.loc;obtain⟨sl,hL⟩:=u.any ho I.free λz=>(hch _ z).2.1 rfl;exact I.step (ch:=ch) hch (λb o hL hb hc e n=>u.keep b o e n (λz=>(aao.mp (I.yH b z)).elim hL hb) hc) (λb o _ _ hc e n=>u.any e n hc) (λb o hc e n=>u.free b o e n hc) (λb o hc e=>u.there b o e hc) u.tups u.frzs u.lW (λm' hm=>by
  obtain⟨o',es',Vc,ho',r'⟩:=hm;rw[ho]at ho';cases ho';exact⟨_,es',Vc,hL,r'⟩) hok hg
theorem Inv.turned{t':Nat}(I:Inv X pins σ H s)(k:∀b o,b≠it->s.heap.get? b=some o->h'.get? b=some o)(hn:H it=none)(hL:it≠X.env.locals)
  (h1:it∈X.ex\/X.s₀.heap.objs.size<=it) (h2:∀x c,X.env.cells.lookup x=some c->c≠it) (h3:∀p∈X.pn++pins,p.1≠it):Inv X pins σ H { s with heap:=h',toks:=t' }:=by
 have Ra:∀b u,H b=some u->b≠it:=λb u e z=>by rw[z,hn]at e;cases e
 refine I.step (g':=s.gens) (d':=s.drawn) (ch:=[it]) (λb hb=>?_) (λb o _ _ hc e _=>k b o (λz=>hc (by simp[z])) e) (λb o _ _ hc e _=>⟨o.slots,k b o (λz=>hc (by simp[z])) e⟩) (λ_ _ _ _ n=>n)
  (λb o hc e=>⟨o,k b o (λz=>hc (by simp[z])) e⟩) (λ_ _ e=>e) (λ_ _ _ e=>e) (λb ps e=>⟨#[],by rw[e];simp⟩) (λm hm=>?_) (λb u e=>?_) I.bare
 ·have e:b=it:=by simpa using hb
  subst e;exact⟨h1,hL,h2,h3⟩
 ·obtain⟨o,es,ep,ho,r⟩:=hm;exact⟨o,es,ep,k _ o (Ne.symm hL) ho,r⟩
 ·refine(I.hok b u e).stay (λc v hc q=>k c v ?_ q) (λ_ q=>q) λ_ _ q=>q
  rcases hc with z|z
  ·rw[z];exact Ra b u e
  ·exact Ra c _ z
theorem Inv.tok(I:Inv X pins σ H s)(t:Nat):Inv X pins σ H { s with toks:=t }:=I.un (h':=s.heap) (t':=t) Un.refl I.hok
theorem Inv.kept{t':Nat}(I:Inv X pins σ H s)(k:∀b u,s.heap.get? b=some u->h'.get? b=some u):Inv X pins σ H { s with heap:=h',toks:=t' }:=I.un (Un.kept k) (I.hok.kept k)
theorem Inv.laid{t':Nat}(I:Inv X pins σ H s)(k:∀b u,s.heap.get? b=some u->h'.get? b=some u)(hp:s.heap.objs.size<=a)(new:bL X.prog X.w (upd H a o) h' a o) :
  Inv X pins σ (upd H a o) { s with heap:=h',toks:=t' }:=I.un (Un.laid k hp (I.hok.fresh hp)) (I.hok.laid k hp new)
theorem Inv.write{t':Nat}(I:Inv X pins σ H s)(mu:Q5 (H x))(he:e=x\/H e=some (.own x))(k:∀b u,b≠e->s.heap.get? b=some u->h'.get? b=some u)(QL:∃u,h'.get? e=some u)
  (new:bL X.prog X.w (upd H x o) h' x o):Inv X pins σ (upd H x o) { s with heap:=h',toks:=t' }:=I.un (Un.write mu he k QL) (I.hok.write mu he k QL new)
theorem Inv.Ae(I:Inv X pins σ H s)(h:∀p∈Rb,s.heap.get? p.1=some p.2/\H p.1=none/\p.1≠X.env.locals/\p.1∉X.fs/\∀v,p.2.data≠.cell v):Inv X Rb σ H s :=
 ⟨I.ok,I.os,I.bare,I.base,I.loc,I.cell,I.free,I.gy,λp hp=>(aaD.mp hp).elim (λz=>I.pin p (aaO _ z)) (h p),I.hok,I.len⟩
theorem pY{N:List Str}(hN:N.Nodup){i j:Nat}{x:Str}(a:N[i]?=some x)(b:N[j]?=some x):i=j:=by
 obtain⟨h1,e1⟩:=aal.mp a;obtain⟨h2,e2⟩:=aal.mp b;exact(List.getElem_inj hN).mp (e1.trans e2.symm)
theorem sN{i:Nat}(I:Inv X pins σ H s)(hN:X.N.Nodup)(hi:X.N[i]?=some x)(hx:Loc X.env.scope x)(r:RelV v u)
  (h:∀s',Inv X pins (σ.set i (some v)) H s'->(∃a,Heap.SameBut a s.heap s'.heap/\(a=X.env.locals\/X.env.cells.lookup x=some a))->Q () s') (hf:X.fn x=true\/X.env.scope.names.lookup x=some .local):wpAny M A (storeName X.env x u) Q E s:=by
 obtain⟨m,hn,hl⟩:=id I.loc;have hcls:(X.env.scope.kind==.class||(X.env.scope.kind==.module&&X.env.locals != X.env.globals))=false:=by rw[I.ok.kind];rfl
 have UJ:i < σ.length:=by rw[I.len];exact(aal.mp hi).1
 have cne:=I.cne;have tracked:∀{a:Addr} {h':Heap},(∃o,s.heap.get? a=some o/\H a=none)->Heap.SameBut a s.heap h'->jw X.prog X.w H h':=λ{a h'} ha hs b ob e=>by
  obtain⟨_,_,hfree⟩:=ha;refine(I.hok b ob e).stay (λc w' hc q=>(hs.2 c ?_).trans q) (λ_ q=>q) λ_ _ q=>q;rintro rfl
  rcases hc with rfl|hc
  ·rw[hfree]at e;cases e
  ·rw[hfree]at hc;cases hc
 rcases hx with hk|hk
 ·refine wpAny_storeName_local hk hn (λh' hn' hs=>?_) hcls
  obtain⟨oL,_,_,WX,_⟩:=id hn;refine h _ ⟨I.ok,I.os,I.bare,⟨λb o e n hb hx=>?_,λb o e n hb hx=>?_,I.base.free,λb o e hx=>?_,I.base.tups,I.base.frzs,I.base.lW⟩,⟨_,hn',λj y v' e1 e2 e3=>?_⟩,λy c e=>?_,I.free,I.gy,λp hp=>?_,tracked ⟨oL,WX,I.free⟩ hs,by simpa using I.len⟩ ⟨_,hs,.inl rfl⟩
  ·exact(hs.2 b (aav (aas (aan e) I.ok.above))).trans (I.base.keep b o e n hb hx)
  ·obtain⟨sl,e1⟩:=I.base.slot b o e n hb hx;exact⟨sl,(hs.2 b (aav (aas (aan e) I.ok.above))).trans e1⟩
  ·obtain⟨o',e1⟩:=I.base.there b o e hx;exact⟨o',(hs.2 b (aav (aas (aan e) I.ok.above))).trans e1⟩
  ·by_cases hj:j=i
   ·subst hj;rw[hi]at e1;cases e1;rw[aar UJ]at e2;cases e2;exact⟨u,r,.inl ⟨hk,by simp⟩⟩
   ·rw[aaj (Ne.symm hj)]at e2
    obtain⟨u',r',q⟩:=hl j y v' e1 e2 e3;refine⟨u',r',?_⟩
    rcases q with ⟨k,e⟩|⟨k,c,e,z⟩
    ·refine .inl ⟨k,?_⟩;have:y≠x:=λe=>hj (pY hN e1 (e▸hi));simp[this,e]
    ·exact .inr ⟨k,c,e,z.sameBut hs (cne y c e)⟩
  ·obtain⟨w',z⟩:=I.cell y c e;exact⟨w',z.sameBut hs (cne y c e)⟩
  ·obtain⟨e,n,ne,nf,d⟩:=I.pin p hp;exact⟨(hs.2 p.1 ne).trans e,n,ne,nf,d⟩
 ·have hfn:X.fn x=true:=by
   rcases hf with z|z
   ·exact z
   ·rw[z]at hk;cases hk
  obtain⟨c,hc⟩:=I.ok.has x (.inl hk);obtain⟨w',z⟩:=I.cell x c hc;refine wpAny_storeName_cell I.ok.kind hk hc z (λh' hc' hs=>?_);obtain⟨oc,hoc,DI⟩:=id z;refine h { s with heap:=h' } ⟨I.ok,I.os,I.bare,⟨λb o e n hb hx=>?_,λb o e n hb hx=>?_,I.base.free,λb o e hx=>?_,I.base.tups,I.base.frzs,I.base.lW⟩,⟨m,hn.sameBut hs (Ne.symm (cne x c hc)),λj y v' e1 e2 e3=>?_⟩,λy c' e=>?_,I.free,I.gy,λp hp=>?_,tracked ⟨oc,hoc,I.gy x c hc⟩ hs,by simpa using I.len⟩ ⟨c,hs,.inr hc⟩
  ·exact(hs.2 b (aav (aas (aan e) (I.ok.QM x c hfn hc)))).trans (I.base.keep b o e n hb hx)
  ·obtain⟨sl,e1⟩:=I.base.slot b o e n hb hx;exact⟨sl,(hs.2 b (aav (aas (aan e) (I.ok.QM x c hfn hc)))).trans e1⟩
  ·obtain⟨o',e1⟩:=I.base.there b o e hx;exact⟨o',(hs.2 b (aav (aas (aan e) (I.ok.QM x c hfn hc)))).trans e1⟩
  ·by_cases hj:j=i
   ·subst hj;rw[hi]at e1;cases e1;rw[aar UJ]at e2;cases e2;exact⟨u,r,.inr ⟨.inl hk,c,hc,hc'⟩⟩
   ·rw[aaj (Ne.symm hj)]at e2
    obtain⟨u',r',q⟩:=hl j y v' e1 e2 e3;refine⟨u',r',?_⟩
    rcases q with q|⟨k,c',e,z'⟩
    ·exact .inl q
    ·refine .inr ⟨k,c',e,z'.sameBut hs ?_⟩;rintro rfl;exact hj (pY hN e1 (I.ok.inj _ _ _ e hc▸hi))
  ·by_cases hcc:c'=c
   ·subst hcc;exact⟨_,hc'⟩
   ·obtain⟨w2,z2⟩:=I.cell y c' e;exact⟨w2,z2.sameBut hs hcc⟩
  ·obtain⟨e,n,ne,nf,d⟩:=I.pin p hp;refine⟨(hs.2 p.1 ?_).trans e,n,ne,nf,d⟩;intro q;rw[q,hoc]at e;have q':oc=p.2:=aaA e;exact d w' (by rw[<-q'];exact DI)
theorem lY{i:Nat}(I:Inv X pins σ H s)(hN:X.N.Nodup)(hi:X.N[i]?=some x)(hx:Loc X.env.scope x)(r:RelV v u)
  (h:∀s',Inv X pins (σ.set i (some v)) H s'->Q () s') (hf:X.fn x=true\/X.env.scope.names.lookup x=some .local):wpAny M A (storeName X.env x u) Q E s :=
 sN I hN hi hx r (λs' I' _=>h s' I') hf
theorem Inv.Lz(I:Inv X pins σ H s)(ho:s'.os=s.os)(u:Un (frs X.stack) ch H H' s.heap s'.heap)(hok:jw X.prog X.w H' s'.heap)(hg:AllBare s'.gens)
  (hch:∀b∈ch,(b∈X.ex\/X.s₀.heap.objs.size<=b)/\b≠X.env.locals/\(∀x c,X.env.cells.lookup x=some c->c≠b)/\∀p∈X.pn++pins,p.1≠b):Inv X pins σ H' s':=by
 obtain⟨h',g',d',t',o'⟩:=s';have e:o'=s.os:=ho;subst e;exact I.call (g':=g') (t':=t') (d':=d') u hok hg hch
end
abbrev XK:=Value->Option Addr->Hp->Prop
abbrev St:=List (Option V)
abbrev VK:=V->Hp->Prop
abbrev TE:=St->Hp->VK->Prop
abbrev TT:=St->Hp->(Bool->Hp->Prop)->Prop
abbrev TA:=St->Hp->(List V->Hp->Prop)->Prop
structure Ends where
 nx:St->Hp->Prop
 rt:VK
 bk:St->Hp->Prop:=λ_ _=>False
 ct:St->Hp->Prop:=λ_ _=>False
abbrev TS:=Ends->St->Hp->Prop
def EP(X:Cx)(pins:List (Addr×Obj))(σ:St)(Q:VK)(u:Value)(s':Shared):Prop:=∃v H',Inv X pins σ H' s'/\RelV v u/\Q v H'
def TP(X:Cx)(pins:List (Addr×Obj))(σ:St)(Q:Bool->Hp->Prop)(b:Bool)(s':Shared):Prop:=∃H',Inv X pins σ H' s'/\Q b H'
def AP(X:Cx)(pins:List (Addr×Obj))(σ:St)(Q:List V->Hp->Prop)(us:List Value)(s':Shared):Prop:=∃vs H',Inv X pins σ H' s'/\Vals vs us/\Q vs H'
def SP(X:Cx)(pins:List (Addr×Obj))(D:Ends)(f:Flow)(s':Shared):Prop :=
 match f with
 |.next=>∃σ' H',Inv X pins σ' H' s'/\D.nx σ' H'
 |.brk=>∃σ' H',Inv X pins σ' H' s'/\D.bk σ' H'
 |.cont=>∃σ' H',Inv X pins σ' H' s'/\D.ct σ' H'
 |.ret u=>∃v σ' H',Inv X pins σ' H' s'/\RelV v u/\D.rt v H'
def PE(X:Cx)(e:Expr)(t:TE):Prop :=
 ∀(pins:List (Addr×Obj)) (s:Shared) (σ:St) (H:Hp) (Q:VK),Inv X pins σ H s->t σ H Q->wpAny (model X.prog X.w) X.A (eval e X.env) (EP X pins σ Q) X.xe s
def PT(X:Cx)(e:Expr)(t:TT):Prop :=
 ∀(pins:List (Addr×Obj)) (s:Shared) (σ:St) (H:Hp) (Q:Bool->Hp->Prop),Inv X pins σ H s->t σ H Q->wpAny (model X.prog X.w) X.A (isTrue e X.env (eval e X.env)) (TP X pins σ Q) X.xe s
def PW(X:Cx)(e:Expr)(t:TT):Prop :=
 ∀(whole:Sem Value) (pins:List (Addr×Obj)) (s:Shared) (σ:St) (H:Hp) (Q:Bool->Hp->Prop),Inv X pins σ H s->t σ H Q->wpAny (model X.prog X.w) X.A (isTrue e X.env whole) (TP X pins σ Q) X.xe s
theorem PW.pt(h:PW X e t):PT X e t:=h _
def PA(X:Cx)(es:List Expr)(t:TA):Prop :=
 ∀(pos:Pos) (pins:List (Addr×Obj)) (s:Shared) (σ:St) (H:Hp) (Q:List V->Hp->Prop),Inv X pins σ H s->t σ H Q->wpAny (model X.prog X.w) X.A (spliced (backTo pos (starEach es X.env))) (AP X pins σ Q) X.xe s
def PS(X:Cx)(st:Stmt)(t:TS):Prop :=
 ∀(pins:List (Addr×Obj)) (s:Shared) (σ:St) (H:Hp) (D:Ends),Inv X pins σ H s->t D σ H->wpAny (model X.prog X.w) X.A (exec st X.env) (SP X pins D) X.xe s
def uC(X:Cx)(st:List Stmt)(t:TS):Prop :=
 ∀(pins:List (Addr×Obj)) (s:Shared) (σ:St) (H:Hp) (D:Ends),Inv X pins σ H s->t D σ H->wpAny (model X.prog X.w) X.A (execs st X.env) (SP X pins D) X.xe s
theorem cX{α:Type}{t:Sem α}{Q Q':α -> Shared->Prop}(h:wpAny M A t Q E s)(hQ:∀a s,Q a s->Q' a s):wpAny M A t Q' E s:=aaK h hQ λ_ _ x=>x
section
variable {X:Cx}
theorem bin{a b:Expr}{ta tb:TE}(ha:PE X a ta)(hb:PE X b tb){pins:List (Addr×Obj)}{s:Shared}{σ:St}{H:Hp}{R:V->V->Hp->Prop}(I:Inv X pins σ H s)(h:ta σ H λx H1=>tb σ H1 λy H2=>R x y H2)
  {α:Type} {Q:α -> Shared->Prop} {f:Value->Value->Sem α}
  (hf:∀v u s2 x y H2,Inv X pins σ H2 s2->RelV x v->RelV y u->R x y H2->wpAny (model X.prog X.w) X.A (f v u) Q X.xe s2) :
  wpAny (model X.prog X.w) X.A (eval a X.env) (λv s₁=>wpAny (model X.prog X.w) X.A (eval b X.env) (λu s₂=>wpAny (model X.prog X.w) X.A (f v u) Q X.xe s₂) X.xe s₁) X.xe s:=by
 refine cX (ha pins s σ H _ I h) λv s1 aV=>?_;obtain⟨x,H1,I1,r1,q1⟩:=aV;refine cX (hb pins s1 σ H1 _ I1 q1) λu s2 aV=>?_;obtain⟨y,H2,I2,r2,q2⟩:=aV;exact hf v u s2 x y H2 I2 r1 r2 q2
def B5(i:Nat):TE:=λσ H Q=>∃v,σ[i]?=some (some v)/\Q v H
def tC(v:V):TE:=λ_ H Q=>Q v H
theorem jF{i:Nat}(hN:X.N[i]?=some x)(hv:Q7 X.env.scope x)(hd:(x==("__debug__":Str))=false)(hcd:(x==("__classdict__":Str))=false):PE X (.Name x pos) (B5 i):=by
 intro pins s σ H Q I h;obtain⟨v,e,h⟩:=h;obtain⟨m,hn,hl⟩:=I.loc;obtain⟨u,r,l⟩:=hl i x v hN e hv;have fin:EP X pins σ Q u s:=⟨v,H,I,r,h⟩
 rcases l with ⟨hk,hm⟩|⟨hk,c,hc,hcell⟩
 ·exact wpAny_Name (wpAny_loadName_local I.ok.kind hk hn hm fin) hd
 ·rcases hk with hk|hk
  ·exact wpAny_Name (wpAny_loadName_cell I.ok.kind hk hc hcell fin) hd
  ·exact wpAny_Name (wpAny_loadName_free I.ok.kind hk hc hcell fin hcd) hd
theorem ML{i j pos}:PE X (.Constant (.int i) j pos) (tC (.int i)):=λ_ _ _ H _ I h=>wpAny_Constant_int ⟨.int i,H,I.tok _,⟨_,rfl⟩,h⟩
theorem Rc{b j pos}:PE X (.Constant (.bool b) j pos) (tC (.bl b)):=λ_ _ _ H _ I h=>Constant_bool ⟨.bl b,H,I,rfl,h⟩
theorem MM{j pos}:PE X (.Constant .none j pos) (tC .non):=λ_ _ _ H _ I h=>Constant_none ⟨.non,H,I,rfl,h⟩
theorem MN{x j pos}:PE X (.Constant (.str x) j pos) (tC (.str x)):=λ_ _ _ H _ I h=>Calls.Constant_str ⟨.str x,H,I.tok _,⟨_,rfl⟩,h⟩
def Gl(X:Cx)(x:Str):Prop:=X.env.kindOf x=some .globalImplicit
theorem iU(I:Inv X pins σ H s)(hg:Gl X x)(hm:X.mg x=some u)(h:Q u s)
  (hd:(x==("__debug__":Str))=false):wpAny (model X.prog X.w) X.A (eval (.Name x pos) X.env) Q E s :=
 Calls.Name_function_global I.ok.kind hg (Calls.loadGlobal_global (by rw[I.ok.glob];exact I.mod.glob.keeps I.bk) hm h) hd
theorem jG(I:Inv X pins σ H s)(hg:Gl X x)(hm:X.mg x=none)(hv:bootBuiltins x=some u)(h:Q u s)
  (hn:x ≠ "__name__":=by decide) (hd:(x==("__debug__":Str))=false:=by decide):wpAny (model X.prog X.w) X.A (eval (.Name x pos) X.env) Q E s:=by
 obtain⟨mb,h1,h2⟩:=I.mod.blt;exact Calls.Name_function_global I.ok.kind hg (Calls.loadGlobal_builtin (by rw[I.ok.glob];exact I.mod.glob.keeps I.bk) hm (by rw[I.ok.blt];exact h1.keeps I.bk) ((h2 x hn).trans hv) h) hd
theorem pq(hg:Gl X x)(hm:X.mg x=some u)(r:RelV v u)(hd:(x==("__debug__":Str))=false):PE X (.Name x pos) (tC v) :=
 λ_ _ _ H _ I h=>iU I hg hm ⟨v,H,I,r,h⟩ hd
theorem Af(hg:Gl X x)(hm:X.mg x=none)(hv:bootBuiltins x=some u)(r:RelV v u)(hn:x ≠ "__name__")(hd:(x==("__debug__":Str))=false):PE X (.Name x pos) (tC v) :=
 λ_ _ _ H _ I h=>jG I hg hm hv ⟨v,H,I,r,h⟩ hn hd
variable {a b:Expr} {ta tb:TE} {pos:Pos}
def tB(t:TE):TT:=λσ H Q=>t σ H λx H1=>∃c,x=.bl c/\Q c H1
variable {tA UK:TT} {rest:List Expr}
def Vd(t u:TT):TT:=λσ H Q=>t σ H λc H1=>if c=true then u σ H1 Q else Q false H1
def YO(t u:TT):TT:=λσ H Q=>t σ H λc H1=>if c=true then Q true H1 else u σ H1 Q
def Ve(t:TT):TT:=λσ H Q=>t σ H λc H1=>Q (!c) H1
theorem Ij(ha:PT X a tA):PW X (.BoolOp .And [a] pos) tA:=by
 intro wh pins s σ H Q I h;refine isTrue_and (cX (ha pins s σ H Q I h) λc s1 e=>?_);cases c with
 |true=>exact isTrue_and_nil e
 |false=>exact e
theorem MO(ha:PT X a tA):PW X (.BoolOp .Or [a] pos) tA:=by
 intro wh pins s σ H Q I h;refine isTrue_or (cX (ha pins s σ H Q I h) λc s1 e=>?_);cases c with
 |false=>exact isTrue_or_nil e
 |true=>exact e
theorem MP(ha:PT X a tA)(hb:PW X (.BoolOp .And (b::rest) pos) UK):PW X (.BoolOp .And (a::b::rest) pos) (Vd tA UK):=by
 intro wh pins s σ H Q I h;refine isTrue_and (cX (ha pins s σ H _ I h) λc s1 aV=>?_);obtain⟨H1,I1,q1⟩:=aV;cases c with
 |true=>exact hb wh pins s1 σ H1 Q I1 q1
 |false=>exact⟨H1,I1,q1⟩
theorem Rf(ha:PT X a tA)(hb:PW X (.BoolOp .Or (b::rest) pos) UK):PW X (.BoolOp .Or (a::b::rest) pos) (YO tA UK):=by
 intro wh pins s σ H Q I h;refine isTrue_or (cX (ha pins s σ H _ I h) λc s1 aV=>?_);obtain⟨H1,I1,q1⟩:=aV;cases c with
 |true=>exact⟨H1,I1,q1⟩
 |false=>exact hb wh pins s1 σ H1 Q I1 q1
theorem MQ(ha:PT X a tA):PT X (.UnaryOp .Not a pos) (Ve tA):=by
 intro pins s σ H Q I h;exact isTrue_not (ha pins s σ H (λc H1=>Q (!c) H1) I h)
def Rg(ta tb:TE):TE:=λσ H Q=>ta σ H λx H1=>∃c,x=.bl c/\if c=true then tb σ H1 Q else Q (.bl false) H1
def Vf(ta tb:TE):TE:=λσ H Q=>ta σ H λx H1=>∃c,x=.bl c/\if c=true then Q (.bl true) H1 else tb σ H1 Q
def Rh(ta:TE):TE:=λσ H Q=>ta σ H λx H1=>∃c,x=.bl c/\Q (.bl (!c)) H1
theorem DJ{op}(h:PE X a t):PE X (.BoolOp op [a] pos) t:=λpins s σ H Q I hw=>BoolOp_one (h pins s σ H Q I hw)
theorem MR(ha:PE X a ta)(hb:PE X (.BoolOp .And (b::rest) pos) tb):PE X (.BoolOp .And (a::b::rest) pos) (Rg ta tb):=by
 intro pins s σ H Q I h;refine BoolOp_and (cX (ha pins s σ H _ I h) λv s1 aV=>?_);obtain⟨x,H1,I1,r1,q1⟩:=aV;obtain⟨c,rfl,q1⟩:=q1;cases r1;refine wpAny_truthy_bool ?_;cases c with
 |true=>exact hb pins s1 σ H1 Q I1 q1
 |false=>exact⟨.bl false,H1,I1,rfl,q1⟩
theorem Ri(ha:PE X a ta)(hb:PE X (.BoolOp .Or (b::rest) pos) tb):PE X (.BoolOp .Or (a::b::rest) pos) (Vf ta tb):=by
 intro pins s σ H Q I h;refine BoolOp_or (cX (ha pins s σ H _ I h) λv s1 aV=>?_);obtain⟨x,H1,I1,r1,q1⟩:=aV;obtain⟨c,rfl,q1⟩:=q1;cases r1;refine wpAny_truthy_bool ?_;cases c with
 |false=>exact hb pins s1 σ H1 Q I1 q1
 |true=>exact⟨.bl true,H1,I1,rfl,q1⟩
theorem MS(ha:PE X a ta):PE X (.UnaryOp .Not a pos) (Rh ta):=by
 intro pins s σ H Q I h;refine UnaryOp_ (cX (ha pins s σ H _ I h) λv s1 aV=>?_);obtain⟨x,H1,I1,r1,q1⟩:=aV;obtain⟨c,rfl,q1⟩:=q1;cases r1;exact not_of (wpAny_truthy_bool ⟨.bl (!c),H1,I1,rfl,q1⟩)
end
def gU(K:Frag)(H:Hp)(a:Addr)(xs:List V):Prop :=
 Rd H a (.lst xs) \/
  ∃(o:Obj) (its:Array Value) (n:Nat),K.lookup a=some o/\o.cls=.type "list" /\ o.dict=none/\o.data=.seq its n/\its.size<=sizeLine/\Vals xs its.toList
def jx(K:Frag)(H:Hp)(a:Addr)(xs:List V):Prop :=
 Rd H a (.tup xs) \/
  ∃(o:Obj) (its:Array Value) (n:Nat),K.lookup a=some o/\o.cls=.type "tuple" /\ o.data=.seq its n/\its.size<=sizeLine/\Vals xs its.toList
def Vg:Value->Option V
 |.none=>some .non
 |.bool b=>some (.bl b)
 |.int i _=>some (.int i)
 |.str x _=>some (.str x)
 |.bytes b _=>some (.byt b)
 |.float b _=>some (.flt b)
 |.ref a=>some (.ref a)
 |.type n=>some (.ty n)
 |_=>none
theorem RelV.abs(r:RelV x u):Vg u=some x:=by
 cases x with
 |non=>cases r;rfl
 |bl _=>cases r;rfl
 |int _=>obtain⟨t,rfl⟩:=r;rfl
 |str _=>obtain⟨t,rfl⟩:=r;rfl
 |byt _=>obtain⟨t,rfl⟩:=r;rfl
 |flt _=>obtain⟨t,rfl⟩:=r;rfl
 |ref _=>cases r;rfl
 |ty _=>cases r;rfl
theorem RelV.inj(r:RelV x u)(q:RelV y u):x=y:=aaA (r.abs.symm.trans q.abs)
theorem Vals.inj:∀{xs ys:List V} {us:List Value},Vals xs us->Vals ys us->xs=ys
 |_,_,_,.nil,.nil=>rfl
 |_,_,_,.cons r t,.cons r' t'=>by rw[r.inj r',Vals.inj t t']
section
variable {X:Cx} {pins:List (Addr×Obj)} {σ:St} {H:Hp} {s:Shared} {a:Addr} {xs ys:List V}
theorem jx.of{K:Frag}(h:H a=some (.tup xs)):jx K H a xs:=.inl (.inl h)
theorem Inv.list(I:Inv X pins σ H s)(h:gU X.K H a xs):∃its:List Value,Vals xs its/\PlainL s.heap a its.toArray/\xs.length<=sizeLine:=by
 rcases h with h|⟨o,its,n,hk,hc,hd,hs,hz,r⟩
 ·obtain⟨z,its,n,r,e⟩:=h.ok I.hok;exact⟨its,r,⟨_,n,e,rfl,rfl,rfl⟩,z⟩
 ·refine⟨its.toList,r,⟨o,n,I.kQ a o hk,hc,hd,by simpa using hs⟩,?_⟩;have e:=r.length;simp only[Array.length_toList]at e;omega
theorem Inv.tuple(I:Inv X pins σ H s)(h:jx X.K H a xs):∃its:List Value,Vals xs its/\IsTup s.heap a its.toArray/\xs.length<=sizeLine:=by
 rcases h with h|⟨o,its,n,hk,hc,hs,hz,r⟩
 ·obtain⟨z,its,r,p⟩:=h.ok I.hok;exact⟨its,r,p,z⟩
 ·refine⟨its.toList,r,⟨o,I.kQ a o hk,hc,n,by simpa using hs⟩,?_⟩;have e:=r.length;simp only[Array.length_toList]at e;omega
theorem Inv.vJ(I:Inv X pins σ H s)(h:gU X.K H a xs)(h':gU X.K H a ys):xs=ys:=by
 obtain⟨its,r,⟨o,n,e,_,_,d⟩,_⟩:=I.list h;obtain⟨its',r',⟨o',n',e',_,_,d'⟩,_⟩:=I.list h';rw[e]at e';cases e';rw[d]at d';injection d' with d1 _
 have:its=its':=by simpa using congrArg toList d1
 subst this;exact r.inj r'
theorem Inv.B6(I:Inv X pins σ H s)(h:jx X.K H a xs)(h':jx X.K H a ys):xs=ys:=by
 obtain⟨its,r,⟨o,e,_,n,d⟩,_⟩:=I.tuple h;obtain⟨its',r',⟨o',e',_,n',d'⟩,_⟩:=I.tuple h';rw[e]at e';cases e';rw[d]at d';injection d' with d1 _
 have:its=its':=by simpa using congrArg toList d1
 subst this;exact r.inj r'
end
abbrev Cx.nt(X:Cx)(E:Value->Shared->Prop):Cx:={ X with xe:=E }
abbrev Cx.DA(X:Cx):Cx:=X.nt λ_ _=>False
theorem Cx.Ok.nt{X:Cx}(ok:X.Ok)(E:Value->Shared->Prop):(X.nt E).Ok :=
 ⟨ok.mod,ok.kind,ok.glob,ok.blt,ok.above,ok.inj,ok.has,ok.QM,ok.hd,ok.frames,ok.stk,ok.UI,ok.bs,ok.Ii,ok.B3,ok.B4,ok.nq,ok.Ly⟩
theorem Cx.Ok.gz{X:Cx}{E:Value->Shared->Prop}(ok:(X.nt E).Ok):X.Ok :=
 ⟨ok.mod,ok.kind,ok.glob,ok.blt,ok.above,ok.inj,ok.has,ok.QM,ok.hd,ok.frames,ok.stk,ok.UI,ok.bs,ok.Ii,ok.B3,ok.B4,ok.nq,ok.Ly⟩
section
variable {X:Cx} {pins:List (Addr×Obj)} {σ:St} {H:Hp} {s:Shared} {E:Value->Shared->Prop}
theorem Inv.nt(I:Inv X pins σ H s)(E:Value->Shared->Prop):Inv (X.nt E) pins σ H s:=⟨I.ok.nt E,I.os,I.bare,I.base,I.loc,I.cell,I.free,I.gy,I.pin,I.hok,I.len⟩
theorem Inv.gz(I:Inv (X.nt E) pins σ H s):Inv X pins σ H s:=⟨I.ok.gz,I.os,I.bare,I.base,I.loc,I.cell,I.free,I.gy,I.pin,I.hok,I.len⟩
theorem SP.gz(h:SP (X.nt E) pins D f s'):SP X pins D f s':=by
 cases f with
 |next=>obtain⟨σ',H',I,q⟩:=h;exact⟨σ',H',I.gz,q⟩
 |brk=>obtain⟨σ',H',I,q⟩:=h;exact⟨σ',H',I.gz,q⟩
 |cont=>obtain⟨σ',H',I,q⟩:=h;exact⟨σ',H',I.gz,q⟩
 |ret u=>obtain⟨v,σ',H',I,r,q⟩:=h;exact⟨v,σ',H',I.gz,r,q⟩
theorem uC.DA{st:List Stmt}{t:TS}(h:uC X.DA st t):uC X st t:=λpins s σ H D I hw=>
 aaK (h pins s σ H D (I.nt _) hw) (λ_ _ q=>q.gz) λ_ _ z=>False.elim z
end
section
variable {X:Cx} {st:Stmt} {rest:List Stmt} {t u:TS} {e:Expr} {te:TE} {pos:Pos}
def DK:TS:=λD σ H=>D.nx σ H
def Vh(t u:TS):TS:=λD σ H=>t { D with nx:=u D } σ H
theorem Il:uC X [] DK:=λ_ _ σ H _ I h=>wpAny_execs_nil ⟨σ,H,I,h⟩
theorem lZ(h1:PS X st t)(h2:uC X rest u):uC X (st::rest) (Vh t u):=by
 intro pins s σ H D I h;refine wpAny_execs_cons (cX (h1 pins s σ H { D with nx:=u D } I h) λf s1 q=>?_);cases f with
 |next=>obtain⟨σ',H',I',q⟩:=q;exact h2 pins s1 σ' H' D I' q
 |ret v=>exact q
 |brk=>exact q
 |cont=>exact q
theorem Ag(h1:PS X st t):uC X [st] t:=by
 intro pins s σ H D I h;refine wpAny_execs_cons (cX (h1 pins s σ H D I h) λf s1 q=>?_);cases f with
 |next=>exact wpAny_execs_nil q
 |ret v=>exact q
 |brk=>exact q
 |cont=>exact q
def MT:TS:=λD σ H=>D.bk σ H
def Rj:TS:=λD σ H=>D.ct σ H
theorem Im:PS X (.Pass pos) DK:=λ_ _ σ H _ I h=>wpAny_Pass ⟨σ,H,I,h⟩
theorem DL:PS X (.Break pos) MT:=λ_ _ σ H _ I h=>wpAny_Break ⟨σ,H,I,h⟩
theorem vK:PS X (.Continue pos) Rj:=λ_ _ σ H _ I h=>wpAny_Continue ⟨σ,H,I,h⟩
theorem Inv.quiet(I:Inv X pins σ H s):interactive X.env=false:=by simp[interactive,I.ok.kind]
theorem MU{x j pos pos'}:PS X (.Expr (.Constant (.str x) j pos) pos') DK:=λ_ s σ H _ I h=>wpAny_Expr (Calls.Constant_str (show SP X _ _ .next { s with toks:=s.toks+1 } from⟨σ,H,I.tok _,h⟩)) I.quiet
def Rk(te:TE):TS:=λD σ H=>te σ H λ_ H1=>D.nx σ H1
theorem Io(he:PE X e te)(hs:swapsWith e none pos.line X.env=pure false):PS X (.Expr e pos) (Rk te):=by
 intro pins s σ H D I h;exact wpAny_Expr_any (cX (he pins s σ H _ I h) λv s1 ⟨x,H1,I1,r1,q1⟩=>⟨σ,H1,I1,q1⟩) I.quiet hs
def Vi(te:TE):TS:=λD σ H=>te σ H D.rt
theorem MV(he:PE X e te):PS X (.Return (some e) pos) (Vi te):=by
 intro pins s σ H D I h;exact wpAny_Return_some (cX (he pins s σ H _ I h) λv s1 ⟨x,H1,I1,r1,q1⟩=>⟨x,σ,H1,I1,r1,q1⟩)
def Rm:TS:=λD _ H=>D.rt .non H
theorem Ip:PS X (.Return none pos) Rm:=λ_ _ σ H _ I h=>wpAny_Return_none ⟨.non,σ,H,I,rfl,h⟩
def Vj(c:TT)(t u:TS):TS:=λD σ H=>c σ H λb H1=>if b=true then t D σ H1 else u D σ H1
theorem Rn(hc:PT X c tc)(ha:uC X a t)(hb:uC X b u):PS X (.If c a b pos) (Vj tc t u):=by
 intro pins s σ H D I h;refine wpAny_If (cX (hc pins s σ H _ I h) λd s1 aV=>?_);obtain⟨H1,I1,q1⟩:=aV;cases d with
 |true=>exact ha pins s1 σ H1 D I1 q1
 |false=>exact hb pins s1 σ H1 D I1 q1
def MW:TS:=λ_ _ _=>False
theorem vL:PS X st MW:=λ_ _ _ _ _ _ h=>h.elim
end
abbrev TG:=V->St->Hp->(St->Hp->Prop)->Prop
abbrev QN:=List V->St->Hp->(St->Hp->Prop)->Prop
def PG(X:Cx)(target:Expr)(t:TG):Prop :=
 ∀(pins:List (Addr×Obj)) (s:Shared) (σ:St) (H:Hp) (v:V) (u:Value) (Q:St->Hp->Prop),Inv X pins σ H s->RelV v u->t v σ H Q ->
  wpAny (model X.prog X.w) X.A (assign target X.env u) (λ_ s'=>∃σ' H',Inv X pins σ' H' s'/\Q σ' H') X.xe s
def QO(X:Cx)(ts:List Expr)(t:QN):Prop :=
 ∀(pins:List (Addr×Obj)) (s:Shared) (σ:St) (H:Hp) (vs:List V) (us:List Value) (Q:St->Hp->Prop),Inv X pins σ H s->Vals vs us->t vs σ H Q ->
  wpAny (model X.prog X.w) X.A (assignInOrder ((assignEach ts X.env).map (·.2)) us) (λ_ s'=>∃σ' H',Inv X pins σ' H' s'/\Q σ' H') X.xe s
abbrev MX:=V->V->V->Hp->(Hp->Prop)->Prop
def MY(X:Cx)(t:MX):Prop :=
 ∀(pins:List (Addr×Obj)) (s:Shared) (σ:St) (H:Hp) (o i v:V) (ov iv u:Value) (Q:Hp->Prop),Inv X pins σ H s->RelV o ov->RelV i iv->RelV v u->t o i v H Q ->
  wpAny (model X.prog X.w) X.A (setItem ov iv u) (λ_ s'=>∃H',Inv X pins σ H' s'/\Q H') X.xe s
section
variable {X:Cx} {pos:Pos}
def sO(i:Nat):TG:=λv σ H Q=>Q (σ.set i (some v)) H
theorem l0{i:Nat}(hN:X.N.Nodup)(hi:X.N[i]?=some x)(hx:Loc X.env.scope x)(hf:X.fn x=true\/X.env.scope.names.lookup x=some .local):PG X (.Name x pos) (sO i):=by
 intro pins s σ H v u Q I r h;exact wpAny_assign_Name (lY I hN hi hx r (λs' I'=>⟨_,H,I',h⟩) hf)
def Ro:QN:=λvs σ H Q=>vs=[]/\Q σ H
def LA(t:TG)(u:QN):QN:=λvs σ H Q=>∃v r,vs=v::r/\t v σ H λσ' H'=>u r σ' H' Q
theorem Ah:QO X [] Ro:=by
 intro pins s σ H vs us Q I r h;obtain⟨e,h⟩:=h;subst e;cases r;exact assignInOrder_nil ⟨σ,H,I,h⟩
theorem vM(h1:PG X e t)(h2:QO X es u)
  (hs:(assignEach (e::es) X.env).map (·.2)=assign e X.env::(assignEach es X.env).map (·.2):=by rfl):QO X (e::es) (LA t u):=by
 intro pins s σ H vs us Q I r h;obtain⟨v,vr,e1,h⟩:=h;subst e1;cases r with
 |cons r rr=>rw[hs];refine assignInOrder_cons (cX (h1 pins s σ H _ _ _ I r h) λ_ s1 aV=>?_);obtain⟨σ1,H1,I1,q1⟩:=aV;exact h2 pins s1 σ1 H1 _ _ Q I1 rr q1
def Rp(K:Frag)(n:Nat)(t:QN):TG:=λv σ H Q=>∃a xs,v=.ref a/\jx K H a xs/\xs.length=n/\t xs σ H Q
theorem DM{k:Nat}{n:Nat}(hc:X.calm=true)(h:QO X es t)
  (hn:(assignEach es X.env).length=n) (hst:(assignEach es X.env).findIdx? (·.1)=none):PG X (.Tuple es k pos) (Rp X.K n t):=by
 intro pins s σ H v u Q I r hw;obtain⟨a,xs,e1,hq,hl,hw⟩:=hw;subst e1;cases r;obtain⟨its,rv,ht,hz⟩:=I.tuple hq;refine assign_Tuple_tuple (I.ok.hd hc) ht (by simp[hn,<-hl,rv.length]) hst λh' hx=>?_;have I1:Inv X pins σ H { s with heap:=h' }:=I.kept (t':=s.toks) λb o e=>hx b o (aav (aan e)) e;exact h pins _ σ H xs _ Q I1 (by simpa using rv) hw
def Rq(to ti:TE)(t:MX):TG:=λv σ H Q=>to σ H λo H1=>ti σ H1 λi H2=>t o i v H2 λH3=>Q σ H3
theorem MZ(ho:PE X o to)(hi:PE X i ti)(hs:MY X t)
  (ha:∀v,assign (.Subscript o i pos) X.env v=(do
   let ov <-holding [v] (eval o X.env)
   let iv <-holding [v,ov] (eval i X.env)
   standAt pos
   holding [v,ov,iv] (setItem ov iv v)
   release [v,ov,iv] [])):PG X (.Subscript o i pos) (Rq to ti t):=by
 intro pins s σ H v u Q I r h;rw[ha];refine aaa (wpAny_holding (cX (ho pins s σ H _ I h) λov s1 aV=>?_));obtain⟨x,H1,I1,r1,q1⟩:=aV;refine aaa (wpAny_holding (cX (hi pins s1 σ H1 _ I1 q1) λiv s2 aV=>?_));obtain⟨y,H2,I2,r2,q2⟩:=aV;refine aaa (wpAny_standAt (aaa (wpAny_holding (cX (hs pins s2 σ H2 x y v ov iv u _ I2 r1 r2 r q2) λ_ s3 aV=>?_))));obtain⟨H3,I3,q3⟩:=aV;exact wpAny_release ⟨σ,H3,I3,q3⟩
def Iq(te:TE)(g:TG):TS:=λD σ H=>te σ H λx H1=>g x σ H1 D.nx
theorem yI(he:PE X e te)(hg:PG X tg g)(hs:swapsWithSole [tg] e pos.line X.env=pure false)(hw:swappedStores [tg] e X.env=pure none)
  (h1:(assignEach [tg] X.env).map (·.2)=[assign tg X.env]):PS X (.Assign [tg] e pos) (Iq te g):=by
 intro pins s σ H D I h;refine wpAny_Assign_stores (cX (he pins s σ H _ I h) λv s1 ⟨x,H1,I1,r1,q1⟩=>?_) hs hw;rw[h1];exact cX (hg pins s1 σ H1 x v _ I1 r1 q1) λ_ s2 q=>q
theorem DN{i:Nat}(hN:X.N.Nodup)(hi:X.N[i]?=some x)(hx:Loc X.env.scope x)(he:PE X e te)(hs:swapsWith e (some (.Name x pos')) pos.line X.env=pure false)(hf:X.fn x=true\/X.env.scope.names.lookup x=some .local) :
  PS X (.Assign [.Name x pos'] e pos) (Iq te (sO i)):=by
 intro pins s σ H D I h;refine wpAny_Assign_Name (cX (he pins s σ H _ I h) λv s1 ⟨y,H1,I1,r1,q1⟩=>?_) hs;exact lY I1 hN hi hx r1 (λs2 I2=>⟨_,H1,I2,q1⟩) hf
end
structure It where
 go:Nat->Hp->Prop
 yJ:Nat->Hp->V->Hp->Prop
 stop:Nat->Hp->Prop
def oZ(X:Cx)(pins:List (Addr×Obj))(H:Hp)(b:Addr):Prop :=
 H b=none/\b≠X.env.locals/\b∉X.fs/\(b∈X.ex\/X.s₀.heap.objs.size<=b)/\(∀x c,X.env.cells.lookup x=some c->c≠b)/\∀p∈X.pn++pins,p.1≠b
theorem Inv.Ir(I:Inv X pins σ H s)(hb:s.heap.objs.size<=b)(hn:H' b=none):oZ X pins H' b:=by
 refine⟨hn,ne_of_gt (aas I.lt hb),I.Vb hb,.inr (aaE I.sz hb),λx c e z=>?_,λp hp z=>?_⟩
 ·obtain⟨v,q⟩:=I.cell x c e;exact absurd (aas q.lt (by rw[z];exact hb)) (aaZ _)
 ·exact absurd (aas (aan (I.pin p hp).1) (by rw[z];exact hb)) (aaZ _)
structure Turn (P:Program) (w:World) (K:Frag) (tg:Expr) (J:It) (fp:List Addr) (it:Addr) (tn:Nat->Heap->Prop):Prop where
 mem:it∈fp
 obj:∀i h,tn i h->∀b∈fp,∃o,h.get? b=some o/\∀v,o.data≠.cell v
 keep:∀i h h',tn i h->(∀b∈fp,∀o,h.get? b=some o->h'.get? b=some o)->tn i h'
 item:∀(X:Cx),X.prog=P->X.w=w->X.K=K->X.calm=true->∀(i:Nat) (pins:List (Addr×Obj)) (s:Shared) (σ:St) (H:Hp) (E:Value->Shared->Prop),Inv X pins σ H s->(∀b∈fp,oZ X pins H b)->tn i s.heap->J.go i H ->
  wpAny (model P w) X.A (pyNext (.ref it)) (λr s1=>∃u,r=some u /\
   wpAny (model P w) X.A (letOwnedTupleGo tg (.ref it) u) (λ_ s2=>∃x H',Inv X pins σ H' s2/\RelV x u/\J.yJ i H x H'/\tn (i+1) s2.heap/\∀b∈fp,H' b=none) E s1) E s
 done:∀(X:Cx),X.prog=P->X.w=w->X.K=K->X.calm=true->∀(i:Nat) (pins:List (Addr×Obj)) (s:Shared) (σ:St) (H:Hp) (E:Value->Shared->Prop),Inv X pins σ H s->(∀b∈fp,oZ X pins H b)->tn i s.heap->J.stop i H ->
  wpAny (model P w) X.A (pyNext (.ref it)) (λr s1=>r=none/\Inv X pins σ H s1) E s
 self:∀(A:Around) (i:Nat) (s:Shared) (Q:Value->Shared->Prop) (E:Value->Shared->Prop),tn i s.heap->Q (.ref it) s->wpAny (model P w) A (pyIter (.ref it)) Q E s
abbrev TI:=St->Hp->(It->Hp->Prop)->Prop
def WY(X:Cx)(pins:List (Addr×Obj))(σ:St)(tg:Expr)(R:It->Hp->Prop)(itv:Value)(s2:Shared):Prop :=
 ∃(it:Addr) (fp:List Addr) (tn:Nat->Heap->Prop) (J:It) (H':Hp),itv=.ref it/\Inv X pins σ H' s2/\Turn X.prog X.w X.K tg J fp it tn/\tn 0 s2.heap/\(∀b∈fp,oZ X pins H' b)/\R J H'
def PI(X:Cx)(tg iter:Expr)(wi:TI):Prop :=
 ∀(pins:List (Addr×Obj)) (s:Shared) (σ:St) (H:Hp) (R:It->Hp->Prop),Inv X pins σ H s->wi σ H R ->
  wpAny (model X.prog X.w) X.A (eval iter X.env) (λv s1=>wpAny (model X.prog X.w) X.A (pyIter v) (WY X pins σ tg R) X.xe s1) X.xe s
theorem DO{n:String}(ho:s.heap.get? it=some o)(hc:o.cls=.type n)(hd:o.data=.fields vs)
  (hn:["enumerate","zip","dict_itemiterator","dict_reverseitemiterator","odict_iterator","itertools.zip_longest","itertools.pairwise"].contains n=false) (hQ:Q () s):wpAny M A (letOwnedTupleGo tg (.ref it) u) Q E s:=by
 unfold letOwnedTupleGo;cases tg<;>first
  |exact aah hQ
  | (cases u<;>first
    |exact aah hQ
    | (refine aaa (wpAny_load ho ?_)
       rw[hc,hd];show wpAny M A (if (["enumerate","zip","dict_itemiterator","dict_reverseitemiterator","odict_iterator","itertools.zip_longest","itertools.pairwise"].contains n&&vs[0]?==some (rawInt _))=true then _ else _) Q E s;rw[aac (by intro h;rw[hn,Bool.false_and]at h;cases h)];exact aah hQ))
def UL(K:Frag)(a:Addr):It :=
 ⟨λi H=>∃xs x,gU K H a xs/\xs[i]?=some x,λi H x H'=>H'=H/\∀xs,gU K H a xs->xs[i]?=some x,λi H=>∃xs,gU K H a xs/\xs.length<=i⟩
def Vk(K:Frag)(a:Addr):It :=
 ⟨λi H=>∃xs x,jx K H a xs/\xs[i]?=some x,λi H x H'=>H'=H/\∀xs,jx K H a xs->xs[i]?=some x,λi H=>∃xs,jx K H a xs/\xs.length<=i⟩
def Rt(lo:Int)(n:Nat):It:=⟨λi _=>i<n,λi H x H'=>H'=H/\x=.int (lo+i),λi _=>n<=i⟩
theorem B7{P:Program}{w:World}{K:Frag}{tg:Expr}(a it:Addr):Turn P w K tg (UL K a) [it] it (λi h=>h.IsListIter it a i) where
 mem:=by simp
 obj:=λi h st b hb=>by
  have e:b=it:=by simpa using hb
  subst e;obtain⟨o,e,c,d⟩:=st;exact⟨o,e,λv z=>by rw[d]at z;cases z⟩
 keep:=λi h h' st k=>st.at λo e=>k it (by simp) o e
 item:=by intro X hP hw hK hc i pins s σ H E I hf st hg;subst hP hw hK;obtain⟨xs,x,hq,hx⟩:=hg;obtain⟨its,rv,p,hz⟩:=I.list hq;obtain⟨u,hu,ru⟩:=rv.get hx;obtain⟨f0,f1,f2,f3,f4,f5⟩:=hf it (by simp);refine wpAny_pyNext_list_item st p.isList (x:=u) (by simpa using hu) λh' st' sb=>?_;have I1:Inv X pins σ H { s with heap:=h' }:=I.turned (t':=s.toks) (λb o hb e=>(sb.2 b hb).trans e) f0 f1 f3 f4 f5;obtain⟨o,e,c,d⟩:=id st';exact⟨u,rfl,DO (s:={ s with heap:=h' }) e c d (by decide) ⟨x,H,I1,ru,⟨rfl,λys hy=>by rw[I.vJ hy hq];exact hx⟩,st',λb hb=>(hf b hb).1⟩⟩
 done:=by intro X hP hw hK hc i pins s σ H E I hf st hg;subst hP hw hK;obtain⟨xs,hq,hx⟩:=hg;obtain⟨its,rv,p,hz⟩:=I.list hq;obtain⟨f0,f1,f2,f3,f4,f5⟩:=hf it (by simp);have hl:=rv.length;exact wpAny_pyNext_list_end (I.ok.hd hc) st p.isList (by simp;omega) λh' eb=>⟨rfl,I.turned (t':=s.toks) (λb o hb e=>eb b o hb e) f0 f1 f3 f4 f5⟩
 self:=λ_ _ _ _ _ st h=>wpAny_pyIter_listiter st h
theorem yK{P:Program}{w:World}{K:Frag}{tg:Expr}(a it:Addr):Turn P w K tg (Vk K a) [it] it (λi h=>h.IsTupleIter it a i) where
 mem:=by simp
 obj:=λi h st b hb=>by
  have e:b=it:=by simpa using hb
  subst e;obtain⟨o,e,c,d⟩:=st;exact⟨o,e,λv z=>by rw[d]at z;cases z⟩
 keep:=λi h h' st k=>st.at λo e=>k it (by simp) o e
 item:=by intro X hP hw hK hc i pins s σ H E I hf st hg;subst hP hw hK;obtain⟨xs,x,hq,hx⟩:=hg;obtain⟨its,rv,p,hz⟩:=I.tuple hq;obtain⟨u,hu,ru⟩:=rv.get hx;obtain⟨f0,f1,f2,f3,f4,f5⟩:=hf it (by simp);refine wpAny_pyNext_tuple_item st (show s.heap.IsTuple a its.toArray from p) (x:=u) (by simpa using hu) λh' st' sb=>?_;have I1:Inv X pins σ H { s with heap:=h' }:=I.turned (t':=s.toks) (λb o hb e=>(sb.2 b hb).trans e) f0 f1 f3 f4 f5;obtain⟨o,e,c,d⟩:=id st';exact⟨u,rfl,DO (s:={ s with heap:=h' }) e c d (by decide) ⟨x,H,I1,ru,⟨rfl,λys hy=>by rw[I.B6 hy hq];exact hx⟩,st',λb hb=>(hf b hb).1⟩⟩
 done:=by intro X hP hw hK hc i pins s σ H E I hf st hg;subst hP hw hK;obtain⟨xs,hq,hx⟩:=hg;obtain⟨its,rv,p,hz⟩:=I.tuple hq;obtain⟨f0,f1,f2,f3,f4,f5⟩:=hf it (by simp);have hl:=rv.length;exact wpAny_pyNext_tuple_end (I.ok.hd hc) st (show s.heap.IsTuple a its.toArray from p) (by simp;omega) λh' eb=>⟨rfl,I.turned (t':=s.toks) (λb o hb e=>eb b o hb e) f0 f1 f3 f4 f5⟩
 self:=λ_ _ _ _ _ st h=>wpAny_pyIter_tupleiter st h
theorem yL{P:Program}{w:World}{K:Frag}{tg:Expr}(it:Addr)(lo:Int)(n:Nat):Turn P w K tg (Rt lo n) [it] it (λi h=>IsRangeIter h it (lo+(i:Nat)*1) ((n:Int)-(i:Nat)) 1) where
 mem:=by simp
 obj:=λi h st b hb=>by
  have e:b=it:=by simpa using hb
  subst e;exact⟨_,st,λv z=>by
   have z':Data.fields _=Data.cell v:=z;cases z'⟩
 keep:=λi h h' st k=>k it (by simp) _ st
 item:=by intro X hP hw hK hc i pins s σ H E I hf st hg;subst hP hw hK;obtain⟨f0,f1,f2,f3,f4,f5⟩:=hf it (by simp);have W:=Walks.range (prog:=X.prog) (w:=X.w) (I.ok.hd hc) it lo 1 n;refine W.item i s _ _ hg st λv h' tk hv st' kk=>?_;obtain⟨t,rfl⟩:=hv;have I1:Inv X pins σ H { s with heap:=h',toks:=tk }:=I.turned (λb o hb e=>kk b o (by simpa using hb) e) f0 f1 f3 f4 f5;refine⟨_,rfl,DO (s:={ s with heap:=h',toks:=tk }) (n:="range_iterator") st' rfl rfl (by decide) ⟨.int (lo+i),H,I1,⟨t,?_⟩,⟨rfl,rfl⟩,st',λb hb=>(hf b hb).1⟩⟩;rw[Int.mul_one]
 done:=by intro X hP hw hK hc i pins s σ H E I hf st hg;subst hP hw hK;obtain⟨f0,f1,f2,f3,f4,f5⟩:=hf it (by simp);exact wpAny_pyNext_range_end (I.ok.hd hc) st (by have:n<=i:=hg;omega) λh' eb=>⟨rfl,I.turned (t':=s.toks) (λb o hb e=>eb b o hb e) f0 f1 f3 f4 f5⟩
 self:=λ_ _ _ _ _ st h=>wpAny_pyIter_rangeiter st h
section
variable {X:Cx} {tg:Expr}
def Ru(K:Frag)(tl:TE):TI:=λσ H R=>tl σ H λx H1=>∃a,x=.ref a/\(∃xs,gU K H1 a xs)/\R (UL K a) H1
def Vl(K:Frag)(tl:TE):TI:=λσ H R=>tl σ H λx H1=>∃a,x=.ref a/\(∃xs,jx K H1 a xs)/\R (Vk K a) H1
theorem Iu(hl:PE X l tl):PI X tg l (Ru X.K tl):=by
 intro pins s σ H R I h;refine cX (hl pins s σ H _ I h) λv s1 aV=>?_;obtain⟨x,H1,I1,r1,q1⟩:=aV;obtain⟨a,e,⟨xs,hq⟩,q⟩:=q1;subst e;cases r1;obtain⟨its,rv,p,hz⟩:=I1.list hq;refine wpAny_pyIter_list p.isList ?_;refine⟨s1.heap.objs.size,[s1.heap.objs.size],_,_,H1,rfl,I1.kept (t':=s1.toks) λb o e=>aad _ e,B7 a _,⟨_,aaw _ rfl,rfl,rfl⟩,λb hb=>?_,q⟩;have e:b=s1.heap.objs.size:=by simpa using hb
 subst e;exact I1.Ir (aam _) (I1.hok.fresh (aam _))
theorem M0(hl:PE X l tl):PI X tg l (Vl X.K tl):=by
 intro pins s σ H R I h;refine cX (hl pins s σ H _ I h) λv s1 aV=>?_;obtain⟨x,H1,I1,r1,q1⟩:=aV;obtain⟨a,e,⟨xs,hq⟩,q⟩:=q1;subst e;cases r1;obtain⟨its,rv,p,hz⟩:=I1.tuple hq;refine wpAny_pyIter_tuple (show s1.heap.IsTuple a its.toArray from p) ?_;refine⟨s1.heap.objs.size,[s1.heap.objs.size],_,_,H1,rfl,I1.kept (t':=s1.toks) λb o e=>aad _ e,yK a _,⟨_,aaw _ rfl,rfl,rfl⟩,λb hb=>?_,q⟩;have e:b=s1.heap.objs.size:=by simpa using hb
 subst e;exact I1.Ir (aam _) (I1.hok.fresh (aam _))
theorem vN{lo hi:Int}{tk:Nat}(I:Inv X pins σ H s)(h1:-(2 ^ 62)<=lo)(h2:lo<2 ^ 62)(h3:-(2 ^ 62)<=hi)(h4:hi<2 ^ 62)
  (q:R (Rt lo (hi-lo).toNat) H):wpAny (model X.prog X.w) X.A (pyIter (.ref s.heap.objs.size)) (WY X pins σ tg R) E { s with heap:=s.heap.push { cls:=.type "range",data:=.fields [.int lo t,.int hi u,.int 1 v].toArray },toks:=tk }:=by
 refine wpAny_pyIter_range (IsRange.new ..) (small_one h1 h2 h3 h4) ?_;have I1:Inv X pins σ H { s with heap:=s.heap.push { cls:=.type "range",data:=.fields [.int lo t,.int hi u,.int 1 v].toArray },toks:=tk }:=I.kept λb o e=>aad _ e;refine⟨(s.heap.push { cls:=.type "range",data:=.fields [.int lo t,.int hi u,.int 1 v].toArray }).objs.size,[(s.heap.push { cls:=.type "range",data:=.fields [.int lo t,.int hi u,.int 1 v].toArray }).objs.size],_,_,H,rfl,
  I1.kept (t':=tk) λb o e=>aad _ e,yL _ lo (hi-lo).toNat,?_,λb hb=>?_,q⟩
 ·have e1:lo+((0:Nat):Int)*1=lo:=by simp
  have e2:(((hi-lo).toNat:Nat):Int)-((0:Nat):Int)=Builtin.Range.rangeSize lo hi 1:=by rw[rangeSize_one];split<;>omega
  show IsRangeIter _ _ (lo+((0:Nat):Int)*1) ((((hi-lo).toNat:Nat):Int)-((0:Nat):Int)) 1;rw[e1,e2];exact aaw _ rfl
 ·have e:b=(s.heap.push { cls:=.type "range",data:=.fields [.int lo t,.int hi u,.int 1 v].toArray }).objs.size:=by simpa using hb
  subst e;exact I1.Ir (aam _) (I1.hok.fresh (aam _))
def Rv(ta:TA):TI:=λσ H R=>ta σ H λvs H1=>∃j:Int,vs=[.int j] /\ -(2 ^ 62)<=j/\j<2 ^ 62/\R (Rt 0 j.toNat) H1
def Rw(ta:TA):TI:=λσ H R=>ta σ H λvs H1=>∃i j:Int,vs=[.int i,.int j]/\(-(2 ^ 62)<=i/\i<2 ^ 62 /\ -(2 ^ 62)<=j/\j<2 ^ 62)/\R (Rt i (j-i).toNat) H1
theorem B8(hg:Gl X "range")(hm:X.mg "range" = none)(ha:PA X [a] ta)(hs:starEach [a] X.env=[(false,eval a X.env)]):PI X tg (.Call (.Name "range" p) [a] [] pos) (Rv ta):=by
 intro pins s σ H R I h;refine Call_ (jG I hg hm boot_range (PyProof.Rows.callWith_type1 (cX (ha pos pins s σ H _ I h) λus s1 aV=>?_) hs rfl));obtain⟨vs,H1,I1,r1,q1⟩:=aV;obtain⟨j,e,q1,q2,q⟩:=q1;subst e;cases r1 with
 |cons r rr=>cases rr;obtain⟨t,rfl⟩:=r;exact call_range_1 (vN I1 (by omega) (by omega) q1 q2 (by simpa using q))
theorem B9(hg:Gl X "range")(hm:X.mg "range" = none)(ha:PA X [a,b] ta)(hs:starEach [a,b] X.env=[(false,eval a X.env),(false,eval b X.env)])(hs2:starEach [b] X.env=[(false,eval b X.env)]) :
  PI X tg (.Call (.Name "range" p) [a,b] [] pos) (Rw ta):=by
 intro pins s σ H R I h;refine Call_ (jG I hg hm boot_range (PyProof.Rows.callWith_type1 (cX (ha pos pins s σ H _ I h) λus s1 ⟨vs,H1,I1,r1,q1⟩=>?_) (by rw[hs,hs2]) (by rw[hs2];rfl)));obtain⟨i,j,e,⟨q1,q2,q3,q4⟩,q⟩:=q1;subst e;cases r1 with
 |cons r rr=>
  cases rr with
  |cons r' rr=>cases rr;obtain⟨t,rfl⟩:=r;obtain⟨t',rfl⟩:=r';exact call_range_2 (vN I1 q1 q2 q3 q4 q)
def Vm(wi:TI)(g:TG)(tb:TS):TS:=λD σ H=>wi σ H λJ H1=>∃W:Nat->Nat->St->Hp->Prop,(∃m,W 0 m σ H1)/\∀i m σ H,W i m σ H ->
 (J.stop i H/\D.nx σ H)\/(J.go i H/\∃N:St->Hp->Prop,(∀σ' H',N σ' H'->∃m',m'<m/\W (i+1) m' σ' H')/\∀x H',J.yJ i H x H'->g x σ H' λσ2 H2=>tb { D with nx:=N,ct:=N,bk:=D.nx } σ2 H2)
def pZ(fp:List Addr)(h:Heap):List (Addr×Obj):=fp.filterMap λb=>(h.get? b).map λo=>(b,o)
theorem iV(hb:b∈fp)(e:h.get? b=some o):(b,o)∈pZ fp h:=List.mem_filterMap.mpr ⟨b,hb,by rw[e];rfl⟩
theorem Ca(hp:p∈pZ fp h):p.1∈fp/\h.get? p.1=some p.2:=by
 obtain⟨b,hb,e⟩:=List.mem_filterMap.mp hp;cases q:h.get? b with
 |none=>rw[q]at e;cases e
 |some o=>rw[q]at e;have e':(b,o)=p:=aaA e;subst e';exact⟨hb,q⟩
theorem Inv.pinned(I:Inv X pins σ H s)(hf:∀b∈fp,oZ X pins H b)(ho:∀b∈fp,∃o,s.heap.get? b=some o/\∀v,o.data≠.cell v):Inv X (pins++pZ fp s.heap) σ H s :=
 I.Ae λp hp=>(aaD.mp hp).elim (λz=>I.pin p (aaG _ z)) λz=>by
  obtain⟨hb,e⟩:=Ca z;obtain⟨f0,f1,f2,_⟩:=hf p.1 hb;obtain⟨o,e',d⟩:=ho p.1 hb;rw[e]at e';cases e';exact⟨e,f0,f1,f2,d⟩
theorem Inv.l6(I:Inv X (pins++pl) σ H s):Inv X pins σ H s:=I.Ae λp hp=>I.pin p (aaG _ (aaO _ hp))
theorem M1(hp:PassesOwn (model X.prog X.w) X.A X.env X.xe)(hc:X.calm=true)(hi:PI X tg iter wi)(hg:PG X tg g)(hb:uC X body tb)
  (hs:∀x,foldedSetIterable iter X.env x=pure x):PS X (.For tg iter body [] pos) (Vm wi g tb):=by
 intro pins s σ H D I h;refine wpAny_For (cX (hi pins s σ H _ I h) λv s1 h1=>cX h1 λitv s2 h2=>?_) hs;obtain⟨it,fp,tn,J,H2,e,I2,T,st2,f2,W,⟨m0,w0⟩,turn⟩:=h2;subst e;have stat:∀{H':Hp},(∀b∈fp,H' b=none)->∀b∈fp,oZ X pins H' b:=λhn b hb=>⟨hn b hb,(f2 b hb).2⟩;refine codeAny_forLoop_any (λn s'=>∃i σ' H',Inv X pins σ' H' s'/\tn i s'.heap/\(∀b∈fp,H' b=none)/\W i n σ' H') ?_ m0 ⟨0,σ,H2,I2,st2,λb hb=>(f2 b hb).1,w0⟩;rintro n s3 ⟨i,σ3,H3,I3,st3,WZ,w3⟩
 rcases turn i n σ3 H3 w3 with ⟨stop,qn⟩|⟨go,N,hN,step⟩
 ·refine wpAny_passesOwn hp (cX (T.done X rfl rfl rfl hc i pins s3 σ3 H3 X.xe I3 (stat WZ) st3 stop) λr s4 aV=>?_);obtain⟨hr,I4⟩:=aV;subst hr;exact wpAny_execs_nil ⟨σ3,H3,I4,qn⟩
 ·refine wpAny_passesOwn hp (cX (T.item X rfl rfl rfl hc i pins s3 σ3 H3 X.xe I3 (stat WZ) st3 go) λr s4 aV=>?_)
  obtain⟨u,hr,h4⟩:=aV;subst hr;refine wpAny_passesOwn hp (cX h4 λ_ s5 aV=>?_);obtain⟨x,H5,I5,r5,y5,QS,UM⟩:=aV;have YQ:=I5.pinned (stat UM) (T.obj _ _ QS);refine wpAny_passesOwn hp (cX (hg _ s5 σ3 H5 x u _ YQ r5 (step x H5 y5)) λ_ s6 aV=>?_);obtain⟨σ6,H6,I6,q6⟩:=aV;refine wpAny_passesOwn hp (cX (hb _ s6 σ6 H6 _ I6 q6) λf s7 q7=>?_);have again:∀{σ7:St} {H7:Hp},Inv X (pins++pZ fp s5.heap) σ7 H7 s7->N σ7 H7->∃m,m<n/\∃i σ' H',Inv X pins σ' H' s7/\tn i s7.heap/\(∀b∈fp,H' b=none)/\W i m σ' H':=λ{σ7 H7} I7 n7=>by
   obtain⟨m',hm,w7⟩:=hN σ7 H7 n7;refine⟨m',hm,i+1,σ7,H7,I7.l6,T.keep _ _ _ QS λb hb o e=>(I7.pin (b,o) (aaG _ (aaG _ (iV hb e)))).1,λb hb=>?_,w7⟩;obtain⟨o,e,d⟩:=T.obj _ _ QS b hb;exact(I7.pin (b,o) (aaG _ (aaG _ (iV hb e)))).2.1
  cases f with
  |next=>obtain⟨σ7,H7,I7,n7⟩:=q7;exact again I7 n7
  |cont=>obtain⟨σ7,H7,I7,n7⟩:=q7;exact again I7 n7
  |brk=>obtain⟨σ7,H7,I7,q7⟩:=q7;exact⟨σ7,H7,I7.l6,q7⟩
  |ret v=>obtain⟨x7,σ7,H7,I7,r7,q7⟩:=q7;exact⟨x7,σ7,H7,I7.l6,r7,q7⟩
end
abbrev R2:=V->V->Hp->VK->Prop
def nh(X:Cx)(f:Value->Value->Sem Value)(r:R2):Prop :=
 ∀(pins:List (Addr×Obj)) (s:Shared) (σ:St) (H:Hp) (x y:V) (v u:Value) (Q:VK),Inv X pins σ H s->RelV x v->RelV y u->r x y H Q ->
  wpAny (model X.prog X.w) X.A (f v u) (EP X pins σ Q) X.xe s
def cI(X:Cx)(f:Value)(r:List V->Hp->VK->Prop):Prop :=
 ∀(pins:List (Addr×Obj)) (s:Shared) (σ:St) (H:Hp) (xs:List V) (us:List Value) (Q:VK),Inv X pins σ H s->Vals xs us->r xs H Q ->
  wpAny (model X.prog X.w) X.A (call f us) (EP X pins σ Q) X.xe s
def Vn(X:Cx)(r:V->Hp->(Bool->Hp->Prop)->Prop):Prop :=
 ∀(pins:List (Addr×Obj)) (s:Shared) (σ:St) (H:Hp) (x:V) (v:Value) (Q:Bool->Hp->Prop),Inv X pins σ H s->RelV x v->r x H Q ->
  wpAny (model X.prog X.w) X.A (truthy v) (TP X pins σ Q) X.xe s
def UN(r:R2)(ta tb:TE):TE:=λσ H Q=>ta σ H λx H1=>tb σ H1 λy H2=>r x y H2 Q
def rI(C:Int->Int->Prop)(g:Int->Int->V):R2:=λx y H Q=>∃i j,x=.int i/\y=.int j/\C i j/\Q (g i j) H
def LB(g:Int->Int->V):R2:=λx y H Q=>∃i j,x=.int i/\y=.int j/\Q (g i j) H
section
variable {X:Cx} {a b c:Expr} {ta tb tc:TE} {pos:Pos}
theorem M3(ha:PE X a ta)(hb:PE X b tb){pins:List (Addr×Obj)}{s:Shared}{σ:St}{H:Hp}{R:V->V->Hp->Prop}(I:Inv X pins σ H s)
  (h:ta σ H λx H1=>tb σ H1 λy H2=>R x y H2) {Q:Value->Shared->Prop} {f:Value->Value->Sem Value}
  (hf:∀v u s2 x y H2,Inv X pins σ H2 s2->RelV x v->RelV y u->R x y H2->wpAny (model X.prog X.w) X.A (f v u) Q X.xe s2) :
  wpAny (model X.prog X.w) X.A (eval a X.env) (λv s₁=>wpAny (model X.prog X.w) X.A (eval b X.env) (λu s₂=>wpAny (model X.prog X.w) X.A (f v u) Q X.xe s₂) X.xe s₁) X.xe s:=by
 refine cX (ha pins s σ H _ I h) λv s1 aV=>?_;obtain⟨x,H1,I1,r1,q1⟩:=aV;refine cX (hb pins s1 σ H1 _ I1 q1) λu s2 aV=>?_;obtain⟨y,H2,I2,r2,q2⟩:=aV;exact hf v u s2 x y H2 I2 r1 r2 q2
theorem Rx(ho:nh X (binaryOp op) r)(ha:PE X a ta)(hb:PE X b tb):PE X (.BinOp a op b pos) (UN r ta tb):=by
 intro pins s σ H Q I h;exact wpAny_BinOp (M3 ha hb I h λv u s2 x y H2 I2 rx ry q=>ho pins s2 σ H2 x y v u Q I2 rx ry q)
theorem UO{f:Value->Value->Sem Value}{C:Int->Int->Prop}{g:Int->Int->Int}
  (rule:∀(i j:Int) (t u:Tok) (s:Shared) (Q:Value->Shared->Prop) (E:Value->Shared->Prop),C i j->Q (.int (g i j) s.toks) { s with toks:=s.toks+1 }->wpAny (model X.prog X.w) X.A (f (.int i t) (.int j u)) Q E s) :
  nh X f (rI C λi j=>.int (g i j)):=by
 intro pins s σ H x y v u Q I rx ry h;obtain⟨i,j,rfl,rfl,hc,q⟩:=h;obtain⟨t,rfl⟩:=rx;obtain⟨t',rfl⟩:=ry;exact rule i j t t' s _ _ hc ⟨.int (g i j),H,I.tok _,⟨_,rfl⟩,q⟩
theorem Ry{f:Value->Value->Sem Value}{g:Int->Int->Int}
  (rule:∀(i j:Int) (t u:Tok) (s:Shared) (Q:Value->Shared->Prop) (E:Value->Shared->Prop),Q (.int (g i j) s.toks) { s with toks:=s.toks+1 }->wpAny (model X.prog X.w) X.A (f (.int i t) (.int j u)) Q E s) :
  nh X f (LB λi j=>.int (g i j)):=by
 intro pins s σ H x y v u Q I rx ry h;obtain⟨i,j,rfl,rfl,q⟩:=h;obtain⟨t,rfl⟩:=rx;obtain⟨t',rfl⟩:=ry;exact rule i j t t' s _ _ ⟨.int (g i j),H,I.tok _,⟨_,rfl⟩,q⟩
theorem Iv{f:Value->Value->Sem Value}{g:Int->Int->Bool}
  (rule:∀(i j:Int) (t u:Tok) (s:Shared) (Q:Value->Shared->Prop) (E:Value->Shared->Prop),Q (.bool (g i j)) s->wpAny (model X.prog X.w) X.A (f (.int i t) (.int j u)) Q E s) :
  nh X f (LB λi j=>.bl (g i j)):=by
 intro pins s σ H x y v u Q I rx ry h;obtain⟨i,j,rfl,rfl,q⟩:=h;obtain⟨t,rfl⟩:=rx;obtain⟨t',rfl⟩:=ry;exact rule i j t t' s _ _ ⟨.bl (g i j),H,I,rfl,q⟩
def Vo(i j:Int):Prop:=0<=j/\j<=1000000/\i.natAbs<2 ^ 64
def M4(i j:Int):Prop:=(-(2 ^ 64)<i/\i<2 ^ 64)\/(-(2 ^ 64)<j/\j<2 ^ 64)
theorem M4.ok{i j:Int}(h:M4 i j):IntMulOk i j:=by
 rcases h with ⟨h1,h2⟩|⟨h1,h2⟩
 ·exact .of_left (intBits_le_64 h1 h2)
 ·exact .of_right (intBits_le_64 h1 h2)
theorem M5:nh X (binaryOp .Add) (LB λi j=>.int (i+j)):=Ry λ_ _ _ _ _ _ _ q=>add_int q
theorem M6:nh X (binaryOp .Sub) (LB λi j=>.int (i-j)):=Ry λ_ _ _ _ _ _ _ q=>sub_int q
theorem M7:nh X (binaryOp .Mult) (rI M4 λi j=>.int (i*j)):=UO λ_ _ _ _ _ _ _ hc q=>mul_int q hc.ok
theorem M8:nh X (binaryOp .Mod) (rI (λ_ j=>0<j) λi j=>.int (i%j)):=UO λi j _ _ _ _ _ hc q=>by
 have h1:(0:Int)<j:=hc;exact mod_int' (by omega) (by rw[Int.fmod_eq_emod_of_nonneg i (by omega)];exact q)
theorem M9:nh X (binaryOp .Pow) (rI Vo λi j=>.int (i ^ j.toNat)):=UO λ_ _ _ _ _ _ _ hc q=>pow_int_small hc.1 hc.2.1 hc.2.2 q
end
section
variable {X:Cx} {a b c:Expr} {ta tb tc:TE} {pos:Pos}
theorem uD{k k':Bool}(I:Inv X pins σ H s)(q:Q (.bl k) H)(e:k=k'):EP X pins σ Q (.bool k') s:=by
 subst e;exact⟨.bl k,H,I,rfl,q⟩
theorem Rz:nh X (compareOp .Lt) (LB λi j=>.bl (decide (i<j))):=Iv λ_ _ _ _ _ _ _ q=>lt_int q
theorem RA:nh X (compareOp .LtE) (LB λi j=>.bl (decide (i<=j))):=Iv λ_ _ _ _ _ _ _ q=>le_int q
theorem RB:nh X (compareOp .Gt) (LB λi j=>.bl (decide (j<i))):=Iv λ_ _ _ _ _ _ _ q=>gt_int q
theorem RC:nh X (compareOp .GtE) (LB λi j=>.bl (decide (j<=i))):=Iv λ_ _ _ _ _ _ _ q=>ge_int q
theorem Na:nh X (compareOp .Is) (λx y H Q=>y=.non/\Q (.bl (decide (x=.non))) H):=by
 intro pins s σ H x y v u Q I rx ry h;obtain⟨rfl,q⟩:=h;cases ry;refine is_none_gen (uD I q ?_);cases x<;>first
  |(cases rx;rfl)
  |(obtain⟨t,rfl⟩:=rx;rfl)
theorem Iw:nh X (compareOp .IsNot) (λx y H Q=>y=.non/\Q (.bl (!decide (x=.non))) H):=by
 intro pins s σ H x y v u Q I rx ry h;obtain⟨rfl,q⟩:=h;cases ry;refine isnot_none_gen (uD I q ?_);cases x<;>first
  |(cases rx;rfl)
  |(obtain⟨t,rfl⟩:=rx;rfl)
theorem Iz(ho:nh X (compareOp op) r)(ha:PE X a ta)(hb:PE X b tb)(hm:behindInMarks op b=false):PE X (.Compare a [op] [b] pos) (UN r ta tb):=by
 intro pins s σ H Q I h;exact wpAny_Compare1 (M3 ha hb I h λv u s2 x y H2 I2 rx ry q=>ho pins s2 σ H2 x y v u Q I2 rx ry q) hm
def RD(t:TE):TT:=λσ H Q=>t σ H λx H'=>∃k,x=.bl k/\Q k H'
theorem ID(ho:nh X (compareOp op) r)(ha:PE X a ta)(hb:PE X b tb)(hm:behindInMarks op b=false):PT X (.Compare a [op] [b] pos) (RD (UN r ta tb)):=by
 intro pins s σ H Q I h;refine wpAny_isTrue_Compare1 (cX (ha pins s σ H _ I h) λv s1 ⟨x,H1,I1,r1,q1⟩=>cX (hb pins s1 σ H1 _ I1 q1) λu s2 ⟨y,H2,I2,r2,q2⟩=>
  cX (ho pins s2 σ H2 x y v u _ I2 r1 r2 q2) λc s3 ⟨z,H3,I3,r3,k,e,q3⟩=>?_) hm
 subst e;cases r3;exact wpAny_truthy_bool ⟨H3,I3,q3⟩
def Nb(K:Frag)(x:V)(H:Hp)(k:Bool):Prop :=
 match x with
 |.non=>k=false
 |.bl b=>k=b
 |.int i=>k=(i != 0)
 |.str y=>y.length<=sizeLine/\k=((y.length:Int) != 0)
 |.byt y=>y.size<=sizeLine/\k=((y.size:Int) != 0)
 |.ref p=>(∃xs,gU K H p xs/\k = !xs.isEmpty)\/(∃xs,jx K H p xs/\k = !xs.isEmpty)\/∃kvs,H p=some (.dK kvs)/\k = !kvs.isEmpty
 |_=>False
theorem yM{κ:Type}{kvs:List (κ × V)}{vs:List (κ × Value)}(r:KV kvs vs):(!vs.isEmpty) = !kvs.isEmpty:=by
 cases r<;>rfl
theorem p7(r:Vals xs its):(!its.toArray.isEmpty) = !xs.isEmpty:=by
 cases r<;>simp
theorem nu:(sizeLine:Nat)<2 ^ 63:=by rw[sizeLine_eq];decide
theorem Nc:Vn X (λx H Q=>∃k,Nb X.K x H k/\Q k H):=by
 intro pins s σ H x v Q I rx h;obtain⟨k,e,q⟩:=h;have hl:=nu;have hs:sizeLine=16777216:=sizeLine_eq;cases x with
 |non=>cases rx;have e':k=false:=e;subst e';exact truthy_none ⟨H,I,q⟩
 |bl b=>cases rx;have e':k=b:=e;subst e';exact wpAny_truthy_bool ⟨H,I,q⟩
 |int i=>obtain⟨t,rfl⟩:=rx;have e':k=(i != 0):=e;subst e';exact PySem.P.truthy_int ⟨H,I,q⟩
 |str y=>obtain⟨t,rfl⟩:=rx;obtain⟨hy,e'⟩:y.length<=sizeLine/\k=((y.length:Int) != 0):=e;subst e';exact PySem.P.truthy_str (by omega) ⟨H,I.tok _,q⟩
 |byt y=>obtain⟨t,rfl⟩:=rx;obtain⟨hy,e'⟩:y.size<=sizeLine/\k=((y.size:Int) != 0):=e;subst e';exact PySem.W.truthy_bytes (by omega) ⟨H,I.tok _,q⟩
 |ref p=>
  cases rx;have e':(∃xs,gU X.K H p xs/\k = !xs.isEmpty)\/(∃xs,jx X.K H p xs/\k = !xs.isEmpty)\/∃kvs,H p=some (.dK kvs)/\k = !kvs.isEmpty:=e
  rcases e' with ⟨xs,hx,e'⟩|⟨xs,hx,e'⟩|⟨kvs,hx,e'⟩
  ·subst e';obtain⟨its,r,pl,hz⟩:=I.list hx;have hlen:=r.length;exact wpAny_truthy_list pl.isList (by simp only[size_toArray];omega) ⟨H,I.tok _,by rw[p7 r];exact q⟩
  ·subst e';obtain⟨its,r,pl,hz⟩:=I.tuple hx;have hlen:=r.length;exact truthy_tuple pl (by simp only[size_toArray];omega) ⟨H,I.tok _,by rw[p7 r];exact q⟩
  ·subst e';obtain⟨hz,hS,vs,r,m⟩:kvs.length<=sizeLine/\(p==sysModules)=false/\∃vs,KV kvs vs/\s.heap.DictOf (bU X.prog X.w) p vs:=I.hok p _ hx;have hlen:kvs.length=vs.length:=Paired.length r;exact wpAny_truthy_dict hS m (by omega) ⟨H,I.tok _,by rw[yM r];exact q⟩
 |_=>exact(show False from e).elim
theorem DP(ha:PE X a ta)(he:∀whole,isTrue a X.env whole=(do let v <-whole;standAt a.pos;holding [v] (truthy v))) :
  PT X a (λσ H Q=>ta σ H λx H'=>∃k,Nb X.K x H' k/\Q k H'):=by
 intro pins s σ H Q I h;exact isTrue_plain (cX (ha pins s σ H _ I h) λv s1 ⟨x,H1,I1,r1,q1⟩=>Nc pins s1 σ H1 x v Q I1 r1 q1) (he _)
theorem yN:nh X (binaryOp .Add) (λx y H Q=>∃i j,x=.str i/\y=.str j/\i.length+j.length<=sizeLine/\Q (.str (i++j)) H):=by
 intro pins s σ H x y v u Q I rx ry h;obtain⟨i,j,rfl,rfl,hz,q⟩:=h;obtain⟨t,rfl⟩:=rx;obtain⟨t',rfl⟩:=ry;exact add_str (λt' tk=>⟨.str (i++j),H,I.tok _,⟨_,rfl⟩,q⟩) hz
theorem vals1(r:Vals [x] us):∃u,us=[u]/\RelV x u:=by
 cases r with
 |cons r1 r2=>cases r2;exact⟨_,rfl,r1⟩
theorem vals2(r:Vals [x,y] us):∃u w',us=[u,w']/\RelV x u/\RelV y w':=by
 cases r with
 |cons r1 r2=>
  cases r2 with
  |cons r3 r4=>cases r4;exact⟨_,_,rfl,r1,r3⟩
theorem Cb(hc:X.calm=true):cI X (.builtin "max") (λxs H Q=>∃i j,xs=[.int i,.int j]/\Q (.int (if j>i then j else i)) H):=by
 intro pins s σ H xs us Q I r h;obtain⟨i,j,rfl,q⟩:=h;obtain⟨u,w',rfl,⟨t,rfl⟩,⟨t',rfl⟩⟩:=vals2 r;refine max_two_ints (I.ok.hd hc) λh' tk k=>⟨_,H,I.kept k,?_,q⟩
 by_cases hj:j>i
 ·rw[aae hj,aae hj];exact⟨_,rfl⟩
 ·rw[aac hj,aac hj];exact⟨_,rfl⟩
theorem Cc(hc:X.calm=true):cI X (.builtin "min") (λxs H Q=>∃i j,xs=[.int i,.int j]/\Q (.int (if j<i then j else i)) H):=by
 intro pins s σ H xs us Q I r h;obtain⟨i,j,rfl,q⟩:=h;obtain⟨u,w',rfl,⟨t,rfl⟩,⟨t',rfl⟩⟩:=vals2 r;refine min_two_ints (I.ok.hd hc) λh' tk k=>⟨_,H,I.kept k,?_,q⟩
 by_cases hj:j<i
 ·rw[aae hj,aae hj];exact⟨_,rfl⟩
 ·rw[aac hj,aac hj];exact⟨_,rfl⟩
theorem sP:cI X (.type "int") (λxs H Q=>(∃i,xs=[.int i]/\Q (.int i) H)\/∃k,xs=[.bl k]/\Q (.int (if k then 1 else 0)) H):=by
 intro pins s σ H xs us Q I r h
 rcases h with ⟨i,rfl,q⟩|⟨k,rfl,q⟩
 ·obtain⟨u,rfl,t,rfl⟩:=vals1 r;exact call_int_int ⟨.int i,H,I,⟨_,rfl⟩,q⟩
 ·obtain⟨u,rfl,r1⟩:=vals1 r;cases r1;exact call_int_bool ⟨.int (if k then 1 else 0),H,I.tok _,⟨_,rfl⟩,q⟩
def Vp(K:Frag)(x:V)(H:Hp)(n:Nat):Prop :=
 match x with
 |.str y=>y.length<=sizeLine/\n=y.length
 |.byt y=>y.size<=sizeLine/\n=y.size
 |.ref p=>(∃xs,gU K H p xs/\n=xs.length)\/∃xs,jx K H p xs/\n=xs.length
 |_=>False
theorem l7:cI X (.builtin "len") (λxs H Q=>∃x n,xs=[x]/\Vp X.K x H n/\Q (.int n) H):=by
 intro pins s σ H xs us Q I r h;obtain⟨x,n,rfl,e,q⟩:=h;obtain⟨u,rfl,rx⟩:=vals1 r;have hl:=nu;have hs:sizeLine=16777216:=sizeLine_eq;cases x with
 |str y=>obtain⟨t,rfl⟩:=rx;obtain⟨hy,e'⟩:y.length<=sizeLine/\n=y.length:=e;subst e';exact len_str (by omega) ⟨.int _,H,I.tok _,⟨_,rfl⟩,q⟩
 |byt y=>obtain⟨t,rfl⟩:=rx;obtain⟨hy,e'⟩:y.size<=sizeLine/\n=y.size:=e;subst e';exact PySem.W.len_bytes (by omega) ⟨.int _,H,I.tok _,⟨_,rfl⟩,q⟩
 |ref p=>
  cases rx;have e':(∃xs,gU X.K H p xs/\n=xs.length)\/∃xs,jx X.K H p xs/\n=xs.length:=e
  rcases e' with ⟨xs,hx,e'⟩|⟨xs,hx,e'⟩
  ·subst e';obtain⟨its,r',pl,hz⟩:=I.list hx;have hlen:=r'.length;exact Calls.call_len_list pl.isList (by simp only[size_toArray];omega) ⟨.int xs.length,H,I.tok _,⟨_,by simp only[size_toArray];rw[hlen]⟩,q⟩
  ·subst e';obtain⟨its,r',pl,hz⟩:=I.tuple hx;have hlen:=r'.length;exact len_tuple pl (by simp only[size_toArray];omega) ⟨.int xs.length,H,I.tok _,⟨_,by simp only[size_toArray];rw[hlen]⟩,q⟩
 |_=>exact(show False from e).elim
end
theorem Cd{h:Heap}{dx:Addr}{mA:Str->Option Value}(n:h.Ns1 dx mA):∃od,h.get? dx=some od/\∀name,lookIn name od=some (mA name):=by
 obtain⟨o,es,ep,ho,hd,hk,_,hm⟩:=n;refine⟨o,ho,λname=>?_⟩;have e:=hm name;unfold nsFind findBy at e;rw[<-Array.find?_toList]at e;unfold lookIn;rw[hd];dsimp only
 split
 ·rename_i y q;rw[q]at e;exact congrArg some e
 ·rename_i q
  rw[q]at e;have a:es.toList.any (·.refKey)=false:=by rw[List.any_eq_false];intro y hy;obtain⟨z,t,hkey⟩:=hk y (Array.mem_toList_iff.mp hy);simp[DictEntry.refKey,hkey]
  have a':¬ es.toList.any (·.refKey)=true:=by rw[a];exact aab
  rw[aac a'];exact congrArg some e
theorem lV.some_of(r:lV (some v) o):∃u,o=some u/\RelV v u:=by
 cases o with
 |none=>exact(show False from r).elim
 |some u=>exact⟨u,rfl,r⟩
structure W0 (K:Frag) (C:Addr):Prop where
 pg:PySem.W.plainGet K C Str.empty=true
 hd:hasDictIn K C=true
 po:PySem.W.plainOver K C=true
 sa:findIn K (.ref C) "__setattr__" = some (some (.builtin "object.__setattr__"))
def DQ(K:Frag)(C:Addr)(f:Str):Prop:=findIn K (.ref C) f=some none
structure Meth (K:Frag) (C:Addr) (m:Str) (f:Addr):Prop where
 at_:findIn K (.ref C) m=some (some (.ref f))
 fn:isFn K (.ref f)=true
 kp:keepIn K (.ref f)=true
structure dU (k:Nat) (A:Around):Prop where
 hd:A.handled=none
 dp:A.depth+3*k+5<recursionLimit
 un:A.units+16*k+200<cLine
theorem dU.mono{j k:Nat}(r:dU k A)(h:j<=k):dU j A:=⟨r.hd,by have:=r.dp;omega,by have:=r.un;omega⟩
theorem dU.deeper{k:Nat}(r:dU (k+1) A)(env:Env):dU k (A.deeper env) :=
 ⟨r.hd,by have:=r.dp;show A.depth+1+3*k+5<_;omega,by have:=r.un;show A.units+3+16*k+200<_;omega⟩
theorem yO{A:Around}{C:Addr}{us:List Value}{kw:List (Str×Value)}:(A.under (.builtin "type.__call__" ⟨.ref C::us,kw⟩)).depth=A.depth+1:=by
 first|rfl|simp[Around.under,Code.weight,Code.isCreation,Code.isGuard,Code.isCaller,Code.frames,Code.isFrame,guardIds]
theorem yP{A:Around}{C:Addr}{us:List Value}{kw:List (Str×Value)}:(A.under (.builtin "type.__call__" ⟨.ref C::us,kw⟩)).units=A.units+1:=by
 first|rfl|simp[Around.under,Code.cUnits,Code.frames,Code.isFrame]
theorem dU.make{k:Nat}(r:dU (k+1) A)(C:Addr)(us:List Value)(kw:List (Str×Value)):dU k (A.under (.builtin "type.__call__" ⟨.ref C::us,kw⟩)) :=
 ⟨r.hd,by have:=r.dp;rw[yO];omega,by have:=r.un;rw[yP];omega⟩
theorem dU.depth{k:Nat}(r:dU k A):A.depth<recursionLimit:=by have:=r.dp;omega
theorem dU.units{k:Nat}(r:dU k A):A.units+64<cLine:=by have:=r.un;omega
def RE:TA:=λ_ H Q=>Q [] H
def RG(ta:TE)(tr:TA):TA:=λσ H Q=>ta σ H λx H1=>tr σ H1 λxs H2=>Q (x::xs) H2
section
variable {X:Cx} {e:Expr} {es:List Expr} {te:TE} {t:TA} {pos:Pos}
theorem iW:PA X [] RE:=λ_ _ _ _ H Q I h=>Calls.spliced_nil ⟨[],H,I,.nil,h⟩
theorem bZ(ha:PE X e te)(hr:PA X es t)(hs:starEach (e::es) X.env=(false,eval e X.env)::starEach es X.env:=by rfl):PA X (e::es) (RG te t):=by
 intro pos pins s σ H Q I h;rw[hs];show wpAny _ _ (spliced ((false,eval e X.env)::backTo pos (starEach es X.env))) _ _ s;refine Calls.spliced_cons (cX (ha pins s σ H _ I h) λu s1 aV=>?_);obtain⟨x,H1,I1,r1,q1⟩:=aV;exact cX (hr pos pins s1 σ H1 _ I1 q1) λus s2 ⟨xs,H2,I2,r2,q2⟩=>⟨x::xs,H2,I2,.cons r1 r2,q2⟩
def Vq(t:TA):TE:=λσ H Q=>t σ H λxs H1=>xs.length<=sizeLine/\∀p,H1 p=none->Q (.ref p) (upd H1 p (.tup xs))
def Vr(t:TA):TE:=λσ H Q=>t σ H λxs H1=>xs.length<=sizeLine/\∀p,H1 p=none->Q (.ref p) (upd H1 p (.lst xs))
theorem DR{x1}(h:PA X es t):PE X (.Tuple es x1 pos) (Vq t):=by
 intro pins s σ H Q I hq;refine wpAny_Tuple_spliced (cX (h pos pins s σ H _ I hq) λus s1 ⟨xs,H1,I1,r,z,q⟩=>⟨by rw[<-r.length];exact z,?_⟩);have hf:H1 s1.heap.objs.size=none:=I1.hok.fresh (aam _);refine⟨.ref s1.heap.objs.size,upd H1 s1.heap.objs.size (.tup xs),I1.laid (t':=s1.toks) (λb u e=>aad _ e) (aam _) ?_,rfl,q _ hf⟩;exact⟨z,us,r,⟨_,aaw _ rfl,rfl,_,rfl⟩⟩
theorem DS(h:PA X es t):PE X (.List es pos) (Vr t):=by
 intro pins s σ H Q I hq;refine wpAny_List_spliced (cX (h pos pins s σ H _ I hq) λus s1 ⟨xs,H1,I1,r,z,q⟩=>⟨by rw[<-r.length];exact z,?_⟩);have hf:H1 s1.heap.objs.size=none:=I1.hok.fresh (aam _);refine⟨.ref s1.heap.objs.size,upd H1 s1.heap.objs.size (.lst xs),I1.laid (t':=s1.toks) (λb u e=>aad _ e) (aam _) ?_,rfl,q _ hf⟩;exact⟨z,us,0,r,aaw _ rfl⟩
end
abbrev Sp:=List V->Hp->VK->XK->Prop
abbrev yQ:=List Env->Hp->Shared->XK->Value->Shared->Prop
structure yR (P:Program) (w:World) (K:Frag) (mg:Str->Option Value) (base:Heap) (A:Around) (outer:List Env) (s:Shared) (H:Hp):Prop where
 frames:A.frames=some outer
 mod:Mod K mg base
 bs:∀b o,base.get? b=some o->s.heap.get? b=some o/\H b=none
 Ii:base.objs.size<=s.heap.objs.size
 nq:s.heap.FunFrames base outer
 Ly:∀b∈frs outer,H b=none
 hok:jw P w H s.heap
 bare:AllBare s.gens
def CE(outer:List Env)(P:Program)(w:World)(H:Hp)(s:Shared)(Q:VK)(u:Value)(s':Shared):Prop :=
 ∃v H',s'.os=s.os/\AllBare s'.gens/\Un (frs outer) [] H H' s.heap s'.heap/\jw P w H' s'.heap/\RelV v u/\Q v H'
def CR(CX:yQ)(outer:List Env)(P:Program)(w:World)(H:Hp)(s:Shared)(Q:VK)(E:XK)(r:Result)(s':Shared):Prop :=
 match r with
 |.ok (.ret u)=>CE outer P w H s Q u s'
 |.ok _=>False
 |.error e=>CX outer H s E e s'
structure dW (P:Program) (w:World) (K:Frag) (mg:Str->Option Value) (base:Heap) (CX:yQ) (k:Nat) (f:Addr) (fd:FuncData) (ps:List Str) (sp:Sp):Prop where
 len:∀vs H Q E,sp vs H Q E->vs.length=ps.length
 run:∀(A:Around) (outer:List Env) (s:Shared) (H:Hp) (args:Args) (us:List Value) (vs:List V) (Q:VK) (E:XK),dU k A->yR P w K mg base A outer s H->BindsTo s fd args (ps.zip us)->Vals vs us->sp vs H Q E ->
  codeAny (model P w) A (.call (.ref f) args) (CR CX outer P w H s Q E) s
theorem dW.mono{P:Program}{w:World}{K:Frag}{mg:Str->Option Value}{base:Heap}{CX:yQ}{j k:Nat}{f:Addr}{fd:FuncData}{ps:List Str}{sp:Sp}(F:dW P w K mg base CX j f fd ps sp)(h:j<=k) :
  dW P w K mg base CX k f fd ps sp:=⟨F.len,λA outer s H args us vs Q E hr=>F.run A outer s H args us vs Q E (hr.mono h)⟩
theorem dW.imp{P:Program}{w:World}{K:Frag}{mg:Str->Option Value}{base:Heap}{CX:yQ}{k:Nat}{f:Addr}{fd:FuncData}{ps:List Str}{sp W2:Sp}(F:dW P w K mg base CX k f fd ps sp)
  (h:∀vs H Q E,W2 vs H Q E->sp vs H Q E):dW P w K mg base CX k f fd ps W2 :=
 ⟨λvs H Q E q=>F.len vs H Q E (h _ _ _ _ q),λA outer s H args us vs Q E hr he hb hv hs=>F.run A outer s H args us vs Q E hr he hb hv (h _ _ _ _ hs)⟩
theorem yR.make{P:Program}{w:World}{K:Frag}{mg:Str->Option Value}{base:Heap}{A:Around}{outer:List Env}{s:Shared}{H:Hp}(e:yR P w K mg base A outer s H)(C:Addr)(us:List Value)(kw:List (Str×Value)) :
  yR P w K mg base (A.under (.builtin "type.__call__" ⟨.ref C::us,kw⟩)) outer s H:=⟨by first|exact e.frames|(simpa [Around.under,Code.envs,Code.isFrame,pushEnvs] using e.frames),e.mod,e.bs,e.Ii,e.nq,e.Ly,e.hok,e.bare⟩
section
variable {X:Cx} {pins:List (Addr×Obj)} {σ:St} {H:Hp} {s s':Shared}
theorem Inv.yS(I:Inv X pins σ H s):yR X.prog X.w X.K X.mg X.base X.A X.stack s H :=
 ⟨I.ok.frames,I.ok.mod,I.bs,aaE I.ok.Ii I.sz,I.stack,I.lX,I.hok,I.bare⟩
theorem Inv.after(I:Inv X pins σ H s)(h:CE X.stack X.prog X.w H s Q u s'):EP X pins σ Q u s':=by
 obtain⟨v,H',os,bare,un,hok,r,q⟩:=h;obtain⟨hh,g,d,t,os'⟩:=s';obtain rfl:os'=s.os:=os;exact⟨v,H',I.call (h':=hh) (g':=g) (d':=d) (t':=t) (ch:=[]) un hok bare (λb z=>absurd z (by simp)),r,q⟩
end
def LC(sp:Sp)(HU:List V)(E:XK)(t:TA):TE:=λσ H Q=>t σ H λvs H1=>sp (vs++HU) H1 Q E
def Binds(K:Frag)(fd:FuncData)(ps:List Str)(ds:List Value):Prop :=
 ∀(s:Shared) (us:List Value),K.In s.heap->(us++ds).length=ps.length->BindsTo s fd ⟨us,[]⟩ (ps.zip (us++ds))
theorem Binds.all{K:Frag}{fd:FuncData}{ps:List Str}(h:∀us:List Value,us.length=ps.length->bindArgs fd ⟨us,[]⟩=pure (ps.zip us)):Binds K fd ps []:=λs us _ hl=>by
 rw[append_nil]at hl |-;exact .of_eq (h us hl)
def Passes(CX:yQ)(X:Cx)(E:XK):Prop:=∀(pins:List (Addr×Obj)) (σ:St) (H:Hp) (s:Shared) (e:Value) (s':Shared),Inv X pins σ H s->CX X.stack H s E e s'->X.xe e s'
section
variable {X:Cx} {CX:yQ} {k:Nat} {f C:Addr} {fd:FuncData} {ps:List Str} {sp:Sp} {HU:List V} {ds:List Value} {E:XK} {x m:Str} {p pos apos:Pos} {e o:Expr} {es:List Expr} {ta:TE} {t:TA}
theorem DT(F:dW X.prog X.w X.K X.mg X.base CX k f fd ps sp)(hr:dU k X.A)(hb:Binds X.K fd ps ds)(hd:Vals HU ds)(hx:Passes CX X E)
  (I:Inv X pins σ H s) (r:Vals vs us) (h:sp (vs++HU) H Q E):wpAny (model X.prog X.w) X.A (call (.ref f) us) (EP X pins σ Q) X.xe s:=by
 have r2:Vals (vs++HU) (us++ds):=r.append hd;have hl:(us++ds).length=ps.length:=by rw[<-r2.length];exact F.len _ _ _ _ h
 refine wpAny_call (codeAny_mono (F.run X.A X.stack s H ⟨us,[]⟩ (us++ds) (vs++HU) Q E hr I.yS (hb s us I.kQ hl) r2 h) λr s' hq=>?_);cases r with
 |error e=>exact hx pins σ H s e s' I hq
 |ok fl=>
  cases fl with
  |ret u=>exact I.after hq
  |next=>exact False.elim hq
  |brk=>exact False.elim hq
  |cont=>exact False.elim hq
theorem IF(F:dW X.prog X.w X.K X.mg X.base CX k f fd ps sp)(hr:dU k X.A)(hg:Gl X x)(hm:X.mg x=some (.ref f))(hk:keepIn X.K (.ref f)=true)(hb:Binds X.K fd ps ds)(hd:Vals HU ds)(hx:Passes CX X E)
  (ha:PA X (e::es) t) (hdb:(x==("__debug__":Str))=false) (he:starEach (e::es) X.env=(false,eval e X.env)::starEach es X.env) (hpl:(backTo pos (starEach es X.env)).any (·.1)=false) :
  PE X (.Call (.Name x p) (e::es) [] pos) (LC sp HU E t):=by
 intro pins s σ H Q I h;refine wpAny_Call_Name_kw (iU I hg hm ?_ hdb);refine callWith_K (h₀:=X.base) I.ok.mod.Q6 hk (cX (ha pos pins s σ H _ I h) λus s1 ⟨vs,H1,I1,r,q⟩=>⟨I1.kQ,?_⟩) he hpl;exact DT F hr hb hd hx I1 r q
theorem DU(F:dW X.prog X.w X.K X.mg X.base CX k f fd ps sp)(hr:dU k X.A)(hg:Gl X x)(hm:X.mg x=some (.ref f))(hk:keepIn X.K (.ref f)=true)(hb:Binds X.K fd ps ds)(hd:Vals HU ds)(hx:Passes CX X E)
  (hdb:(x==("__debug__":Str))=false):PE X (.Call (.Name x p) [] [] pos) (LC sp HU E RE):=by
 intro pins s σ H Q I h;refine wpAny_Call_Name_kw (iU I hg hm ?_ hdb);exact callWith_K0 I.kQ hk (DT (us:=[]) F hr hb hd hx I .nil h)
structure Mk (K:Frag) (C f:Addr):Prop where
 makes:PySem.W.makesIn K C=true
 init:findIn K (.ref C) "__init__" = some (some (.ref f))
 fn:isFn K (.ref f)=true
 kp:keepIn K (.ref C)=true
end
structure l8 (N P:List Str) (sc:Scope):Prop where
 kind:sc.kind=.function
 co:sc.isCoroutine=false
 gen:sc.isGenerator=false
 nd:N.Nodup
 pre:N.take P.length=P
 par:∀x∈P,sc.names.lookup x=some .local\/sc.names.lookup x=some .cell
 Nd:∀y∈sc.names,y.2≠.free
theorem sQ{kindOf:Str->Option NameKind}{x:Str}:∀{binds:List (Str×Value)} {m:Str->Option Value},(∀v,(x,v)∉binds)->bindL kindOf binds m x=m x
 |[],_,_=>rfl
 | (n,v)::r,m,h=>by
  unfold bindL;rw[sQ λw hw=>h w (aaf _ hw)]
  split
  ·have:x≠n:=by rintro rfl;exact h v aak
   simp[this]
  ·rfl
theorem sS{kindOf:Str->Option NameKind}{x:Str}:∀{binds:List (Str×Value)} {m:Str->Option Value},(∀v,(x,v)∉binds)->bindC kindOf binds m x=m x
 |[],_,_=>rfl
 | (n,v)::r,m,h=>by
  unfold bindC;rw[sS λw hw=>h w (aaf _ hw)]
  split
  ·rfl
  ·have:x≠n:=by rintro rfl;exact h v aak
   simp[this]
theorem sU{kindOf:Str->Option NameKind}{x:Str}{v:Value}:∀{P:List Str} {vs:List Value} {i:Nat} {m:Str->Option Value},P.Nodup->P[i]?=some x->vs[i]?=some v->kindOf x=some .local ->
  bindL kindOf (P.zip vs) m x=some v
 |[],_,_,_,_,h,_,_=>by simp at h
 |_::_,[],_,_,_,_,h,_=>by simp at h
 | p::P,w::vs,0,m,nd,h1,h2,hk=>by
  simp at h1 h2;subst h1;subst h2;show bindL kindOf ((p,w)::P.zip vs) m p=_;unfold bindL;rw[sQ λv hv=>(aaW.mp nd).1 (of_mem_zip hv).1,aae hk];simp
 | p::P,w::vs,i+1,m,nd,h1,h2,hk=>by
  show bindL kindOf ((p,w)::P.zip vs) m x=_;unfold bindL;exact sU (i:=i) (aaW.mp nd).2 (by simpa using h1) (by simpa using h2) hk
theorem sV{kindOf:Str->Option NameKind}{x:Str}{v:Value}:∀{P:List Str} {vs:List Value} {i:Nat} {m:Str->Option Value},P.Nodup->P[i]?=some x->vs[i]?=some v->kindOf x≠some .local ->
  bindC kindOf (P.zip vs) m x=some v
 |[],_,_,_,_,h,_,_=>by simp at h
 |_::_,[],_,_,_,_,h,_=>by simp at h
 | p::P,w::vs,0,m,nd,h1,h2,hk=>by
  simp at h1 h2;subst h1;subst h2;show bindC kindOf ((p,w)::P.zip vs) m p=_;unfold bindC;rw[sS λv hv=>(aaW.mp nd).1 (of_mem_zip hv).1,aac hk];simp
 | p::P,w::vs,i+1,m,nd,h1,h2,hk=>by
  show bindC kindOf ((p,w)::P.zip vs) m x=_;unfold bindC;exact sV (i:=i) (aaW.mp nd).2 (by simpa using h1) (by simpa using h2) hk
def start(N:List Str)(vs:List V):St:=vs.map some++replicate (N.length-vs.length) none
def ig(CX:yQ)(P:Program)(w:World)(K:Frag)(mg:Str->Option Value)(base:Heap)(N:List Str)(qual:Str)(scope:Scope)(f:Addr)(cd:Value)(A:Around)(outer:List Env)(s:Shared)(H:Hp)(E:XK):Cx where
 prog:=P
 w:=w
 K:=K
 mg:=mg
 base:=base
 A:=A.deeper (envOfC qual scope s.heap.objs.size f cd)
 N:=N
 s₀:=s
 H₀:=H
 env:=envOfC qual scope s.heap.objs.size f cd
 outer:=outer
 stack:=envOfC qual scope s.heap.objs.size f cd::outer
 ex:=[]
 calm:=true
 fn:=λ_=>true
 pn:=[]
 xe:=λe s'=>wpAny (model P w) (A.deeper (envOfC qual scope s.heap.objs.size f cd)) (leaving (envOfC qual scope s.heap.objs.size f cd) e) (λ_ s''=>CX outer H s E e s'') (λe' s''=>CX outer H s E e' s'') s'
theorem vO{sc:Scope}{n:Nat}{x:Str}(h:sc.names.lookup x=some .cell):∃c,(cellsFrom n sc.names []).lookup x=some c:=by
 have q:=cellsFrom_some sc.names n [] (.inl h);exact Option.isSome_iff_exists.mp q
theorem Ce{CX:yQ}{P:Program}{w:World}{K:Frag}{mg:Str->Option Value}{base:Heap}{N ps:List Str}{qual:Str}{scope:Scope}{f:Addr}{cd:Value}{A:Around}{outer:List Env}{s s1:Shared}{H:Hp}{E:XK}{us:List Value}{vs:List V}
  (S:l8 N ps scope) (hd:A.handled=none) (e0:yR P w K mg base A outer s H) (hl:vs.length=ps.length) (r:Vals vs us)
  (x:InCallC s s.heap.objs.size (bindL (envOfC qual scope s.heap.objs.size f cd).kindOf (ps.zip us) λ_=>none) (cellsFrom (s.heap.objs.size+1) scope.names []) (bindC (envOfC qual scope s.heap.objs.size f cd).kindOf (ps.zip us) λ_=>none) s1) :
  Inv (ig CX P w K mg base N qual scope f cd A outer s H E) [] (start N vs) H s1:=by
 have hpl:ps.length<=N.length:=by have:=congrArg length S.pre;rw[length_take]at this;omega
 obtain⟨h1,tk,rfl,hk⟩:=x.done;have noA:∀b:Addr,b∉(ig CX P w K mg base N qual scope f cd A outer s H E).ex:=λb z=>absurd (show b∈([]:List Addr) from z) (by simp);refine⟨⟨e0.mod,S.kind,rfl,rfl,aam _,λy z c h1 h2=>?_,λy hy=>?_,λy c _ h=>?_,λ_=>hd,Around.frames_deeper e0.frames,.inr ⟨rfl,rfl⟩,λb z=>absurd z (noA b),e0.bs,e0.Ii,λb _ _=>noA b,λb z=>absurd z (noA b),e0.nq,e0.Ly⟩,
  rfl,e0.bare,Un.kept hk,⟨_,x.toInCall.ns,λi y v h1 h2 h3=>?_⟩,λy c h=>⟨_,x.cell y c h⟩,e0.hok.fresh (aam _),λy c h=>?_,λp hp=>absurd (show p∈([]:List (Addr×Obj)) from hp) (by simp),e0.hok.kept hk,?_⟩
 ·exact name_of_addr x.apart (PySem.mem_of_lookup h1) (PySem.mem_of_lookup h2)
 ·have hy:scope.names.lookup y=some .cell\/scope.names.lookup y=some .free:=hy
  rcases hy with hy|hy
  ·exact vO hy
  ·exact absurd rfl (S.Nd _ (PySem.mem_of_lookup hy))
 ·exact le_of_lt (x.above y c (PySem.mem_of_lookup h))
 ·have hi:i<vs.length:=by
   unfold start at h2
   by_cases hi:i<vs.length
   ·exact hi
   ·rw[aaL (by simpa using hi)]at h2;rw[List.getElem?_replicate]at h2;split at h2<;>cases h2
  have ha:vs[i]?=some v:=by
   unfold start at h2;rw[aax (by simpa using hi),aaI]at h2;cases e:vs[i]? with
   |none=>rw[e]at h2;cases h2
   |some a=>rw[e]at h2;cases h2;rfl
  obtain⟨u,hu,rv⟩:=r.get ha;have hp:ps[i]?=some y:=by rw[<-S.pre,List.getElem?_take_of_lt (by omega)];exact h1
  have W3:ps.Nodup:=by rw[<-S.pre];exact S.nd.sublist (take_sublist _ _)
  refine⟨u,rv,?_⟩
  rcases S.par y (aaF hp) with k|k
  ·exact .inl ⟨k,sU W3 hp hu k⟩
  ·obtain⟨c,e⟩:=vO (n:=s.heap.objs.size+1) k;refine .inr ⟨.inl k,c,e,?_⟩;have q:=x.cell y c e;rw[sV W3 hp hu (by show scope.names.lookup y≠_;rw[k];decide)]at q;exact q
 ·exact e0.hok.fresh (le_of_lt (x.above y c (PySem.mem_of_lookup h)))
 ·unfold start;show _=N.length;rw[aau,aag,List.length_replicate];omega
theorem DV{CX:yQ}{P:Program}{w:World}{K:Frag}{mg:Str->Option Value}{base:Heap}{k:Nat}{f:Addr}{name qual:Str}{params:Arguments}{body:List Stmt}{scope:Scope}{dV kV doc pm cdv ct oc:Value}{an od:Option Addr}
  {osl:Array (Option Value)} {N ps:List Str} {sp:Sp} (lk:K.lookup f=some ⟨oc,od,.func (fnOf name qual params body scope dV kV doc pm an cdv ct),osl⟩) (hcd:codeIn K cdv qual=true) (S:l8 N ps scope)
  (len:∀vs H Q E,sp vs H Q E->vs.length=ps.length)
  (hbody:∀(A:Around) (outer:List Env) (s:Shared) (H:Hp) (vs:List V) (Q:VK) (E:XK),dU k (A.deeper (envOfC qual scope s.heap.objs.size f cdv))->sp vs H Q E ->
   ∃t,uC (ig CX P w K mg base N qual scope f cdv A outer s H E) body t/\t { nx:=λ_ H'=>Q .non H',rt:=Q } (start N vs) H) :
  dW P w K mg base CX (k+1) f (fnOf name qual params body scope dV kV doc pm an cdv ct) ps sp:=by
 refine⟨len,λA outer s H args us vs Q E hr e0 hb r hsp=>?_⟩;have hl:=len _ _ _ _ hsp;have KX:K.In s.heap:=e0.mod.Q6.keeps λb o e=>(e0.bs b o e).1;have lim:s.heap.NoLimit:=e0.mod.nolimit.keeps λb o e=>(e0.bs b o e).1;have hkind:∀y∈ps.zip us,scope.names.lookup y.1=some .local\/(scope.names.lookup y.1=some .cell/\((cellsFrom (s.heap.objs.size+1) scope.names []).lookup y.1).isSome=true):=λ⟨n,v⟩ hy=>by
  rcases S.par n (of_mem_zip hy).1 with q|q
  ·exact .inl q
  ·exact .inr ⟨q,cellsFrom_some _ _ _ (.inl q)⟩
 refine codeAny_call_function hr.depth (KX _ _ lk) rfl S.co S.gen rfl (PySem.W.codeRec_of KX hcd) (hb _ _ _ _ ?_);refine wpAny_newFunctionEnv_cells S.kind hkind λenv he s1 x=>?_;subst he;refine⟨lim.keeps x.toInCall.keep,codeAny_func ?_⟩;obtain⟨t,ht,hq⟩:=hbody A outer s H vs Q E (hr.deeper _) hsp;have I:Inv (ig CX P w K mg base N qual scope f cdv A outer s H E) [] (start N vs) H s1:=Ce S hr.hd e0 hl r x;refine aaK (ht [] s1 (start N vs) H _ I hq) (λfl s' hs=>?_) λe s' hs=>hs;have fin:∀{σ':St} {H':Hp} {v:V} {u:Value},Inv (ig CX P w K mg base N qual scope f cdv A outer s H E) [] σ' H' s'->RelV v u->Q v H'->CE outer P w H s Q u s' :=
  λ{σ' H' v u} J rv q=>⟨v,H',J.os,J.bare,J.base,J.hok,rv,q⟩
 cases fl with
 |ret u=>obtain⟨v,σ',H',J,rv,q⟩:=hs;exact fin J rv q
 |next=>obtain⟨σ',H',J,q⟩:=hs;exact fin (v:=V.non) (u:=Value.none) J rfl q
 |brk=>obtain⟨_,_,_,q⟩:=hs;exact False.elim q
 |cont=>obtain⟨_,_,_,q⟩:=hs;exact False.elim q
section
variable {X:Cx} {x:Str} {p pos:Pos} {e:Expr} {es:List Expr} {t:TA} {id T:String} {r:List V->Hp->VK->Prop}
def W4(r:List V->Hp->VK->Prop)(t:TA):TE:=λσ H Q=>t σ H λvs H1=>r vs H1 Q
theorem dh(hc:cI X (.builtin id) r)(hg:Gl X x)(hm:X.mg x=none)(hv:bootBuiltins x=some (.builtin id))(ha:PA X (e::es) t)(hn:x ≠ "__name__":=by decide)(hdb:(x==("__debug__":Str))=false:=by decide)
  (he:starEach (e::es) X.env=(false,eval e X.env)::starEach es X.env:=by rfl) (hpl:(backTo pos (starEach es X.env)).any (·.1)=false:=by rfl):PE X (.Call (.Name x p) (e::es) [] pos) (W4 r t):=by
 intro pins s σ H Q I h;refine wpAny_Call_Name_kw (jG I hg hm hv ?_ hn hdb);exact PyProof.Rows.callWith_builtin1 (cX (ha pos pins s σ H _ I h) λus s1 ⟨vs,H1,I1,r1,q1⟩=>hc pins s1 σ H1 vs us Q I1 r1 q1) he hpl
theorem kr(hc:cI X (.type T) r)(hg:Gl X x)(hm:X.mg x=none)(hv:bootBuiltins x=some (.type T))(ha:PA X (e::es) t)(hn:x ≠ "__name__")(hdb:(x==("__debug__":Str))=false)
  (he:starEach (e::es) X.env=(false,eval e X.env)::starEach es X.env) (hpl:(backTo pos (starEach es X.env)).any (·.1)=false):PE X (.Call (.Name x p) (e::es) [] pos) (W4 r t):=by
 intro pins s σ H Q I h;refine wpAny_Call_Name_kw (jG I hg hm hv ?_ hn hdb);exact PyProof.Rows.callWith_type1 (cX (ha pos pins s σ H _ I h) λus s1 ⟨vs,H1,I1,r1,q1⟩=>hc pins s1 σ H1 vs us Q I1 r1 q1) he hpl
end
end L2
namespace HT
open PySem PyProof.Rows
def lexLt:List Int->List Int->Bool
 |[],[]=>false
 |[],_::_=>true
 |_::_,[]=>false
 |x::xs,y::ys=>if x=y then lexLt xs ys else decide (x<y)
theorem gA(x y:Int)(xs ys:List Int):lexLt (x::xs) (y::ys)=if x=y then lexLt xs ys else decide (x<y):=rfl
theorem rZ:lexLt [] []=false:=rfl
theorem gC(y:Int)(ys:List Int):lexLt [] (y::ys)=true:=rfl
theorem dX(x:Int)(xs:List Int):lexLt (x::xs) []=false:=rfl
section
variable {prog:Program} {w:World} {A:Around} {E:Value->Shared->Prop} {s:Shared}
theorem IG(ht:IsTup s.heap t vs.toArray)(hb:IsTup s.heap b ws.toArray)(hv:vs≠[])
  (h1:ws=[]->Q (.ref t) s) (h2:ws≠[]->Q (.ref s.heap.objs.size) { s with heap:=s.heap.push { cls:=.type "tuple",data:=.seq (vs++ws).toArray } })
  (hsz:vs.length+ws.length<=sizeLine):wpAny (model prog w) A (binaryOp .Add (.ref t) (.ref b)) Q E s:=by
 obtain⟨⟨cls,dd,data,sl⟩,ho,hc,n,hd⟩:=id ht;obtain⟨⟨YR,dd2,data2,sl2⟩,ho2,hc2,n2,hd2⟩:=id hb;simp only at hc hd hc2 hd2;subst hc hd hc2 hd2;have e:vs.toArray++ws.toArray=(vs++ws).toArray:=by simp
 by_cases hw:ws=[]
 ·exact concat_meets ⟨_,ho,rfl⟩ ⟨_,ho2,rfl⟩ noFill_tuple_add seq_tuple_add PySem.F.slot_tuple_add PySem.F.entry_tuple_add (PySem.F.args_tuple_add_2 _ _)
   (tuple_addW1 t b vs.toArray ws.toArray n n2 dd dd2 sl sl2 (by simpa using hv) (by simp[hw])) ⟨ho,ho2,h1 hw⟩
 ·refine concat_meets ⟨_,ho,rfl⟩ ⟨_,ho2,rfl⟩ noFill_tuple_add seq_tuple_add PySem.F.slot_tuple_add PySem.F.entry_tuple_add (PySem.F.args_tuple_add_2 _ _)
   (tuple_addW2 t b vs.toArray ws.toArray n n2 dd dd2 sl sl2 (by simpa using hv) (by simpa using hw) (by rw[aap,aap];exact hsz)) ⟨ho,ho2,?_⟩
  rw[e];exact h2 hw
def dQ(n d:Nat):Option Int->Nat
 |none=>d
 |some v=>if v<0 then (v+(n:Int)).toNat else min v.toNat n
theorem DW(n d:Nat):dQ n d none=d:=rfl
theorem II(n d k:Nat):dQ n d (some (k:Int))=min k n:=by
 show (if (k:Int)<0 then ((k:Int)+(n:Int)).toNat else min (k:Int).toNat n)=min k n;rw[aac (by omega),Int.toNat_natCast]
theorem Nf(n d:Nat)(hd:d<=n)(o:Option Int):dQ n d o<=n:=by
 cases o with
 |none=>exact hd
 |some v=>
  show (if v<0 then (v+(n:Int)).toNat else min v.toNat n)<=n
  by_cases hv:v<0
  ·rw[aae hv];omega
  ·rw[aac hv];exact Nat.min_le_right _ _
theorem Ai(v:Int)(n d:Nat):(if v<0 then max (v+(n:Int)) 0 else min v (n:Int))=((dQ n d (some v):Nat):Int):=by
 show (if v<0 then max (v+(n:Int)) 0 else min v (n:Int))=(((if v<0 then (v+(n:Int)).toNat else min v.toNat n):Nat):Int)
 by_cases hv:v<0
 ·simp only[if_pos hv];omega
 ·simp only[if_neg hv];omega
theorem yT(lo hi:Option Int)(n:Nat):Builtin.Slice.sliceAdjust lo hi 1 (n:Int)=(((dQ n 0 lo:Nat):Int),((dQ n n hi:Nat):Int)):=by
 have h1:¬ ((1:Int)<0):=by omega
 unfold Builtin.Slice.sliceAdjust;simp only[h1,if_false];refine Prod.ext ?_ ?_
 ·cases lo with
  |none=>rfl
  |some v=>exact Ai v n 0
 ·cases hi with
  |none=>rfl
  |some v=>exact Ai v n n
theorem yU(i j:Nat):Builtin.Slice.slicePlaces (i:Int) (j:Int) 1=j-i:=by
 unfold Builtin.Slice.slicePlaces;have h1:(1:Int)>0:=by omega
 simp only[h1,if_true,Int.ediv_one]
 split<;>omega
theorem p8{o:Option Int}(p:IsPart v o)(h:Q o s):wpAny (model prog w) A (Builtin.Slice.slicePartIndex v) Q E s:=by
 cases p with
 |none=>exact slicePart_none h
 |int i t=>exact slicePart_int h
theorem nv{lo hi:Option Int}{n:Nat}(hs:s.heap.IsSliceOf sl vl vu .none)(pl:IsPart vl lo)(pu:IsPart vu hi)
  (h:Q (((dQ n 0 lo:Nat):Int),1,dQ n n hi-dQ n 0 lo) s):wpAny (model prog w) A (Builtin.Slice.sliceApplied (.ref sl) (pure (n:Int))) Q E s:=by
 obtain⟨os,hos,hcs,hds⟩:=id hs;unfold Builtin.Slice.sliceApplied Builtin.Slice.sliceFields;refine aaa (aaa (wpAny_field hos hds (x:=vl) rfl (aaa (wpAny_field hos hds (x:=vu) rfl (aaa (wpAny_field hos hds (x:=.none) rfl (aah ?_)))))));refine aaa (slicePart_none ?_);show wpAny _ _ (if ((1:Int)==0)=true then _ else _) _ _ s;rw[aac (by decide)];refine aaa (p8 pl (aaa (p8 pu (aaa (aah ?_)))));show wpAny _ _ (match Builtin.Slice.sliceAdjust lo hi 1 (n:Int) with|(lo,hi)=>pure (lo,(1:Int),Builtin.Slice.slicePlaces lo hi 1)) _ _ s;rw[yT lo hi n];show wpAny _ _ (pure (((dQ n 0 lo:Nat):Int),(1:Int),Builtin.Slice.slicePlaces ((dQ n 0 lo:Nat):Int) ((dQ n n hi:Nat):Int) 1)) _ _ s;rw[yU];exact aah h
theorem DX(xs:Array Value)(i k:Nat):((List.range k).filterMap λ(m:Nat)=>xs[((i:Int)+(m:Int)*1).toNat]?).toArray=((xs.toList.drop i).take k).toArray:=by
 have e:(λ(m:Nat)=>xs[((i:Int)+(m:Int)*1).toNat]?)=λm=>xs[i+m]?:=by
  funext m;have:((i:Int)+(m:Int)*1).toNat=i+m:=by omega
  rw[this]
 rw[e];have:=pick_run xs i k;rw[List.filterMap_map]at this;have e2:((λx=>xs[x]?)∘λx=>i+x)=λm=>xs[i+m]?:=rfl;rw[e2]at this;rw[this]
theorem l9{lo hi:Option Int}(ht:IsTup s.heap t items)(hs:s.heap.IsSliceOf sl vl vu .none)(pl:IsPart vl lo)(pu:IsPart vu hi)
  (hw:¬ (dQ items.size 0 lo=0/\dQ items.size items.size hi=items.size))
  (h:Q (.ref s.heap.objs.size) { s with heap:=s.heap.push { cls:=.type "tuple",data:=.seq ((items.toList.drop (dQ items.size 0 lo)).take (dQ items.size items.size hi-dQ items.size 0 lo)).toArray } })
  (hsz:items.size<=sizeLine):wpAny (model prog w) A (getItem (.ref t) (.ref sl)) Q E s:=by
 have Aj:sizeOk (.seq ((items.toList.drop (dQ items.size 0 lo)).take (dQ items.size items.size hi-dQ items.size 0 lo)).toArray):=by show ((items.toList.drop (dQ items.size 0 lo)).take (dQ items.size items.size hi-dQ items.size 0 lo)).toArray.size<=sizeLine;rw[aap,length_take,length_drop,aaS];omega
 have hj:dQ items.size items.size hi<=items.size:=Nf _ _ (aam _) hi;obtain⟨os,hos,hcs,hds⟩:=id hs;have Vs:s.TypeIs (.ref sl) "slice":=⟨os,hos,hcs⟩;unfold getItem
 try with_reducible refine wpAny_holding ?_
 first|refine aaa (aah ?_)|skip
 refine aaa (wpAny_sequenceKey ht.typeIs (by decide) ?_);refine aaa (wpAny_callSpecial?_slot (name:=Str.ofString "__getitem__") ht.typeIs PyProof.Rows.slot_tuple_getitem
  (wpAny_call_entry PyProof.Rows.slot_tuple_getitem ht.typeIs entry_tuple_getitem ?_ (args_tuple_getitem _ _)))
 show wpAny _ _ (Builtin.Tuple.tupleItemsOf (.ref t) >>= _) _ _ s;refine aaa (tupleItemsOf_ ht ?_);refine aaa (wpAny_typeOf Vs ?_);rw[aae (by decide)];refine aaa (nv hs pl pu ?_);have hno:¬ ((((dQ items.size 0 lo:Nat):Int)==0&&(1:Int)==1&&(dQ items.size items.size hi-dQ items.size 0 lo)==items.size)=true):=by intro q;rw[and_eq_true,and_eq_true]at q;have q1:((dQ items.size 0 lo:Nat):Int)=0:=eq_of_beq q.1.1;have q2:dQ items.size items.size hi-dQ items.size 0 lo=items.size:=eq_of_beq q.2;exact hw ⟨by omega,by omega⟩
 show wpAny _ _ (if (((dQ items.size 0 lo:Nat):Int)==0&&(1:Int)==1&&(dQ items.size items.size hi-dQ items.size 0 lo)==items.size)=true then _ else _) _ _ s;rw[aac hno,DX]
 first
  |exact aaa (m:=Builtin.Tuple.tupleExact _) (aaV (aah ⟨_,rfl,aah h⟩) Aj)
  |exact aaa (m:=Builtin.Tuple.tupleExact _) (aaV (aaa (aah (aah ⟨_,rfl,aah h⟩))) Aj)
  |exact aaa (aaa (m:=Builtin.Tuple.tupleExact _) (aaV (aah (aah ⟨_,rfl,aah h⟩)) Aj))
  |exact aaa (aaa (m:=Builtin.Tuple.tupleExact _) (aaV (aah ⟨_,rfl,aah h⟩) Aj))
end
end HT
namespace L2
open PySem PySem.Spec PyProof.Rows
abbrev TO:=St->Hp->(Option Int->Hp->Prop)->Prop
def PO(X:Cx)(e:Option Expr)(t:TO):Prop :=
 ∀(pins:List (Addr×Obj)) (s:Shared) (σ:St) (H:Hp) (Q:Option Int->Hp->Prop),Inv X pins σ H s->t σ H Q ->
  wpAny (model X.prog X.w) X.A (evalPart e X.env) (λu s'=>∃o H',Inv X pins σ H' s'/\IsPart u o/\Q o H') X.xe s
def IJ:TO:=λ_ H Q=>Q none H
def RH(t:TE):TO:=λσ H Q=>t σ H λx H1=>∃i,x=.int i/\Q (some i) H1
theorem intsAre_of{ns:List Int}:∀{us:List Value},Vals (ns.map V.int) us->IntsAre us ns:=by
 induction ns with
 |nil=>intro us r;rw[map_nil]at r;cases r;exact .nil
 |cons n ns ih=>
  intro us r;rw[aay]at r;cases r with
  |cons r1 r2=>obtain⟨t,e⟩:=r1;subst e;exact .cons n t (ih r2)
section
variable {X:Cx} {e:Expr} {te:TE} {lo hi:Option Expr} {tl th:TO} {pos p2:Pos}
theorem IK:PO X none IJ:=by
 intro pins s σ H Q I h;rw[evalPart_none];exact aah ⟨none,H,I,.none,h⟩
theorem IL(h:PE X e te):PO X (some e) (RH te):=by
 intro pins s σ H Q I hw;rw[evalPart_some];refine cX (h pins s σ H _ I hw) λu s1 aV=>?_;obtain⟨x,H1,I1,r1,q1⟩:=aV;obtain⟨i,rfl,q⟩:=q1;obtain⟨t,rfl⟩:=r1;exact⟨some i,H1,I1,.int i t,q⟩
def UP(X:Cx)(r:V->Option Int->Option Int->Hp->VK->Prop):Prop :=
 ∀(pins:List (Addr×Obj)) (s:Shared) (σ:St) (H:Hp) (x:V) (v vl vu:Value) (lo hi:Option Int) (sl:Addr) (Q:VK),Inv X pins σ H s->RelV x v->s.heap.IsSliceOf sl vl vu .none->IsPart vl lo->IsPart vu hi->r x lo hi H Q ->
  ∃T id,typeLookup (.type T) "__getitem__" = pure (some (.builtin id))/\s.TypeIs v T/\wpAny (model X.prog X.w) X.A (getItem v (.ref sl)) (EP X pins σ Q) X.xe s
def YS(r:V->Option Int->Option Int->Hp->VK->Prop)(te:TE)(tl th:TO):TE:=λσ H Q=>te σ H λx H1=>tl σ H1 λl H2=>th σ H2 λu H3=>r x l u H3 Q
theorem DY(hr:UP X r)(he:PE X e te)(hl:PO X lo tl)(hu:PO X hi th):PE X (.Subscript e (.Slice lo hi none p2) pos) (YS r te tl th):=by
 intro pins s σ H Q I h;refine Subscript_ (cX (he pins s σ H _ I h) λv s1 aV=>?_);obtain⟨x,H1,I1,r1,q1⟩:=aV;refine wpAny_Slice (cX (hl pins s1 σ H1 _ I1 q1) λvl s2 ⟨l,H2,I2,pl,q2⟩=>cX (hu pins s2 σ H2 _ I2 q2) λvu s3 aV=>?_);obtain⟨u,H3,I3,pu,q3⟩:=aV;rw[evalPart_none];refine aah ?_;have I4:Inv X pins σ H3 { s3 with heap:=s3.heap.push { cls:=.type "slice",data:=.fields [vl,vu,.none].toArray } }:=I3.kept (t':=s3.toks) λb ob q=>aad _ q;obtain⟨T,id,hT,ht,hg⟩:=hr pins { s3 with heap:=s3.heap.push { cls:=.type "slice",data:=.fields [vl,vu,.none].toArray } } σ H3 x v vl vu l u s3.heap.objs.size Q I4 r1 (Heap.IsSliceOf.new ..) pl pu q3;show wpAny (model X.prog X.w) X.A (subscriptTail e (.Slice lo hi none p2) v (.ref s3.heap.objs.size)) (EP X pins σ Q) X.xe { s3 with heap:=s3.heap.push { cls:=.type "slice",data:=.fields [vl,vu,.none].toArray } };exact tail_any (ops:=[.ref s3.heap.objs.size,v]) ht hT hg (by with_unfolding_all rfl)
def vP(xs:List V)(lo hi:Option Int):List V:=(xs.drop (HT.dQ xs.length 0 lo)).take (HT.dQ xs.length xs.length hi-HT.dQ xs.length 0 lo)
theorem n8(xs:List V)(lo hi:Option Int):(vP xs lo hi).length<=xs.length:=by
 unfold vP;rw[length_take,length_drop];omega
def Vt(K:Frag):V->Option Int->Option Int->Hp->VK->Prop:=λx lo hi H Q=>∃a xs,x=.ref a/\jx K H a xs /\
 ¬ (HT.dQ xs.length 0 lo=0/\HT.dQ xs.length xs.length hi=xs.length)/\∀p,H p=none->Q (.ref p) (upd H p (.tup (vP xs lo hi)))
theorem Ng:UP X (Vt X.K):=by
 intro pins s σ H x v vl vu lo hi sl Q I rx hs pl pu h;obtain⟨a,xs,rfl,hx,hw,q⟩:=h;cases rx;obtain⟨its,r,ht,hz⟩:=I.tuple hx;have hlen:its.toArray.size=xs.length:=by rw[aap];exact r.length.symm
 refine⟨"tuple",_,PyProof.Rows.slot_tuple_getitem.lookup,ht.typeIs,?_⟩;refine HT.l9 ht hs pl pu (by rw[hlen];exact hw) ?_ (by rw[hlen];exact hz);rw[hlen];refine⟨.ref s.heap.objs.size,_,I.laid (t':=s.toks) (o:=.tup (vP xs lo hi)) (λb ob q=>aad _ q) (aam _) ?_,rfl,q _ (I.hok.fresh (aam _))⟩;exact⟨aaE (n8 xs lo hi) hz,_,(r.drop (HT.dQ xs.length 0 lo)).take (HT.dQ xs.length xs.length hi-HT.dQ xs.length 0 lo),IsTup.new _ _⟩
def RI(K:Frag):R2:=λx y H Q=>∃a b xs ys,x=.ref a/\y=.ref b/\jx K H a xs/\jx K H b ys/\xs≠[]/\xs.length+ys.length<=sizeLine /\
 (ys=[]->Q (.ref a) H)/\(ys≠[]->∀p,H p=none->Q (.ref p) (upd H p (.tup (xs++ys))))
theorem Vals.uE(r:Vals xs us):us=[]↔xs=[]:=by
 cases r with
 |nil=>simp
 |cons _ _=>simp
theorem IM:nh X (binaryOp .Add) (RI X.K):=by
 intro pins s σ H x y v u Q I rx ry h;obtain⟨a,b,xs,ys,rfl,rfl,ha,hb,hx,hz,q1,q2⟩:=h;cases rx;cases ry;obtain⟨its,r1,p1,_⟩:=I.tuple ha;obtain⟨its2,r2,p2,_⟩:=I.tuple hb;refine HT.IG p1 p2 (λz=>hx (r1.uE.mp z)) (λz=>⟨.ref a,H,I,rfl,q1 (r2.uE.mp z)⟩) (λz=>?_) (by rw[<-r1.length,<-r2.length];exact hz);refine⟨.ref s.heap.objs.size,_,I.laid (t':=s.toks) (o:=.tup (xs++ys)) (λb ob q=>aad _ q) (aam _) ?_,rfl,q2 (λw=>z (r2.uE.mpr w)) _ (I.hok.fresh (aam _))⟩;exact⟨by rw[aau];exact hz,_,r1.append r2,IsTup.new _ _⟩
end
def Cf(n:Nat)(i:Int):Option Nat:=if 0<=i then (if i<n then some i.toNat else none) else if -(n:Int)<=i then some (i+n).toNat else none
def fX{α:Type}(xs:List α)(i:Int):Option α:=(Cf xs.length i).bind λj=>xs[j]?
theorem Ak{n:Nat}{i:Int}{j:Nat}(h:Cf n i=some j):seqIndex? i n=some j/\j<n /\ -(n:Int)<=i/\i<n:=by
 unfold Cf at h
 by_cases h0:0<=i
 ·rw[aae h0]at h
  by_cases h1:i<n
  ·rw[aae h1]at h;have e:i.toNat=j:=aaA h;exact⟨by rw[seqIndex_of h0 h1,e],by omega,by omega,h1⟩
  ·rw[aac h1]at h;cases h
 ·rw[aac h0]at h
  by_cases h1:-(n:Int)<=i
  ·rw[aae h1]at h;have e:(i+n).toNat=j:=aaA h;exact⟨by rw[seqIndex_neg (by omega) h1,e],by omega,h1,by omega⟩
  ·rw[aac h1]at h;cases h
theorem uF{α:Type}{xs:List α}{i:Int}{v:α}(h:fX xs i=some v):∃j,seqIndex? i xs.length=some j/\xs[j]?=some v/\j<xs.length /\ -(xs.length:Int)<=i/\i<xs.length:=by
 unfold fX at h;cases e:Cf xs.length i with
 |none=>rw[e]at h;cases h
 |some j=>rw[e]at h;obtain⟨h1,h2,h3,h4⟩:=Ak e;exact⟨j,h1,h,h2,h3,h4⟩
theorem pB{α:Type}{xs:List α}{j:Nat}{v:α}(h:xs[j]?=some v):fX xs (j:Int)=some v:=by
 have hj:j<xs.length:=(aal.mp h).1;have e:Cf xs.length (j:Int)=some j:=by unfold Cf;rw[aae (by omega),aae (by omega)];simp
 unfold fX;rw[e];exact h
def Am(b:Expr):Prop:=∀o i,subscripted b false o i=operate [o,i] (getItem o i)
def QT(X:Cx)(r:R2):Prop :=
 ∀(value slice:Expr) (pins:List (Addr×Obj)) (s:Shared) (σ:St) (H:Hp) (x y:V) (v u:Value) (Q:VK),Inv X pins σ H s->RelV x v->RelV y u->r x y H Q ->
  subscripted slice false v u=operate [v,u] (getItem v u)->wpAny (model X.prog X.w) X.A (subscriptTail value slice v u) (EP X pins σ Q) X.xe s
def QU(X:Cx)(id:String)(r:V->List V->Hp->VK->Prop):Prop :=
 ∀(pins:List (Addr×Obj)) (s:Shared) (σ:St) (H:Hp) (x:V) (xs:List V) (v:Value) (us:List Value) (Q:VK),Inv X pins σ H s->RelV x v->Vals xs us->r x xs H Q ->
  wpAny (model X.prog X.w) X.A (call (.builtin id) (v::us)) (EP X pins σ Q) X.xe s
section
variable {X:Cx} {a b:Expr} {ta tb:TE} {pos:Pos}
theorem RJ(hr:QT X r)(ha:PE X a ta)(hb:PE X b tb)(hs:Am b):PE X (.Subscript a b pos) (UN r ta tb):=by
 intro pins s σ H Q I h;exact Subscript_ (M3 ha hb I h λv u s2 x y H2 I2 rx ry q=>hr a b pins s2 σ H2 x y v u Q I2 rx ry q (hs _ _))
def Vu(K:Frag):R2:=λx y H Q=>∃p xs i v,x=.ref p/\y=.int i/\gU K H p xs/\fX xs i=some v/\Q v H
def Vv(K:Frag):R2:=λx y H Q=>∃p xs i v,x=.ref p/\y=.int i/\jx K H p xs/\fX xs i=some v/\Q v H
def Vw:R2:=λx y H Q=>∃z i c,x=.str z/\y=.int i/\z.length<=sizeLine/\fX z.cps.toList i=some c/\Q (.str ⟨[c].toArray⟩) H
theorem An:QT X (Vu X.K):=by
 intro value slice pins s σ H x y v u Q I rx ry h hs;obtain⟨p,xs,i,z,rfl,rfl,hq,he,q⟩:=h;cases rx;obtain⟨t,rfl⟩:=ry;obtain⟨its,r,pl,hz⟩:=I.list hq;obtain⟨j,h1,h2,h3,h4,h5⟩:=uF he;obtain⟨w,ew,rw'⟩:=r.get h2;have hl:=r.length;have hn:=nu;have fin:EP X pins σ Q w s:=⟨z,H,I,rw',q⟩
 by_cases h0:0<=i
 ·have hj:i.toNat=j:=by
   rw[seqIndex_of h0 h5]at h1;exact aaA h1
  exact item_listR pl.isList h0 (by omega) (by rw[hj];simpa using ew) fin hs
 ·have hj:(i+(its.toArray.size:Int)).toNat=j:=by
   rw[seqIndex_neg (by omega) h4]at h1;rw[aap,<-hl];exact aaA h1
  exact subscriptTail_builtinR (x:=w) pl.isList.typeIs slot_list_getitem.lookup
   (wpAny_getItem_list_neg (Q:=λr s'=>r=w/\EP X pins σ Q r s') pl.isList (by omega) (by rw[aap]<;>omega) (by omega) (by rw[hj];simpa using ew) ⟨rfl,fin⟩) hs
theorem Nh:QT X (Vv X.K):=by
 intro value slice pins s σ H x y v u Q I rx ry h hs;obtain⟨p,xs,i,z,rfl,rfl,hq,he,q⟩:=h;cases rx;obtain⟨t,rfl⟩:=ry;obtain⟨its,r,pl,hz⟩:=I.tuple hq;obtain⟨j,h1,h2,h3,h4,h5⟩:=uF he;obtain⟨w,ew,rw'⟩:=r.get h2;have hl:=r.length;have hn:=nu;have fin:EP X pins σ Q w s:=⟨z,H,I,rw',q⟩;exact subscriptTail_builtinR (x:=w) pl.typeIs slot_tuple_getitem.lookup
  (getItem_tuple (j:=j) (Q:=λr s'=>r=w/\EP X pins σ Q r s') pl (by omega) (by omega) (by rw[aap,<-hl];exact h1) (by simpa using ew) ⟨rfl,fin⟩) hs
theorem Ni:QT X Vw:=by
 intro value slice pins s σ H x y v u Q I rx ry h hs;obtain⟨z,i,c,rfl,rfl,hz,he,q⟩:=h;obtain⟨t,rfl⟩:=rx;obtain⟨t',rfl⟩:=ry;obtain⟨j,h1,h2,h3,h4,h5⟩:=uF he;have hl:z.cps.toList.length=z.length:=by simp[Str.length]
 rw[hl]at h1 h4 h5;have hn:=nu;exact tail_any (typeIs_str s z t) slot_str_getitem.lookup (getItem_str (c:=c) (by
  have e1:decide (i < -(2 ^ 63:Int))=false:=decide_eq_false (by omega);have e2:decide (i≥2 ^ 63)=false:=decide_eq_false (by omega);rw[e1,e2,Bool.or_false]) (by rw[h1];simpa using h2) ⟨.str ⟨[c].toArray⟩,H,I.tok _,⟨_,rfl⟩,q⟩) hs
theorem yV(its:List Value)(n j:Nat)(u:Value):Obj.mapSeq (·.setIfInBounds j u) { cls:=.type "list",data:=.seq its.toArray n }={ cls:=.type "list",data:=.seq (its.set j u).toArray n }:=by
 simp[Obj.mapSeq]
theorem Inv.lst(I:Inv X pins σ H s)(h:H p=some (.lst xs)) :
  ∃(its:List Value) (n:Nat),Vals xs its/\s.heap.get? p=some { cls:=.type "list",data:=.seq its.toArray n }/\xs.length<=sizeLine:=by
 obtain⟨z,its,n,r,e⟩:=I.hok p _ h;exact⟨its,n,r,e,z⟩
theorem Inv.Nj{pins:List (Addr×Obj)}{σ:St}{H:Hp}{s:Shared}{p:Addr}{xs ys:List V}{its its':List Value}{n n':Nat}{f:Obj->Obj}(I:Inv X pins σ H s)(h:H p=some (.lst xs))
  (ho:s.heap.get? p=some { cls:=.type "list",data:=.seq its.toArray n }) (hf:f { cls:=.type "list",data:=.seq its.toArray n }={ cls:=.type "list",data:=.seq its'.toArray n' }) (r:Vals ys its') (hz:ys.length<=sizeLine) (t:Nat) :
  Inv X pins σ (upd H p (.lst ys)) { s with heap:=s.heap.update p f,toks:=t }:=by
 have e:(s.heap.update p f).get? p=some { cls:=.type "list",data:=.seq its'.toArray n' }:=by rw[aaQ f ho (by rw[hf]<;>rfl),hf]
 refine I.write (x:=p) (e:=p) (by rw[h];trivial) (.inl rfl) (λb u hb q=>(get?_update_other _ _ (Ne.symm hb)).trans q) ⟨_,e⟩ ?_;exact⟨hz,its',n',r,e⟩
def RK:V->V->V->Hp->(Hp->Prop)->Prop:=λo i v H Q=>∃p xs k j,o=.ref p/\i=.int k/\H p=some (.lst xs)/\Cf xs.length k=some j/\Q (upd H p (.lst (xs.set j v)))
theorem set_list:MY X RK:=by
 intro pins s σ H o i v ov iv u Q I ro ri rv h;obtain⟨p,xs,k,j,rfl,rfl,hp,hj,q⟩:=h;cases ro;obtain⟨t,rfl⟩:=ri;obtain⟨its,n,r,ho,hz⟩:=I.lst hp;obtain⟨h1,h2,h3,h4⟩:=Ak hj;have hl:=r.length;have hn:=nu;have I':Inv X pins σ (upd H p (.lst (xs.set j v))) { s with heap:=s.heap.update p (Obj.mapSeq (·.setIfInBounds j u)) } :=
  I.Nj hp ho (yV its n j u) (r.set rv j) (by rw[length_set];exact hz) s.toks
 by_cases h0:0<=k
 ·have hk:k.toNat=j:=by
   rw[seqIndex_of h0 h4]at h1;exact aaA h1
  exact PySem.W.ki_setAt ho h0 (by omega) (by rw[aap,<-hl];exact h4) (by rw[hk];exact⟨_,I',q⟩)
 ·have hk:(k+(its.toArray.size:Int)).toNat=j:=by
   rw[seqIndex_neg (by omega) h3]at h1;rw[aap,<-hl];exact aaA h1
  exact PySem.W.ki_setBack ho (by omega) (by rw[aap,<-hl];exact h3) (by omega) (by rw[hk];exact⟨_,I',q⟩)
theorem uG(lo hi:Option Int)(n:Nat):(sliceBounds lo hi none n).1=((HT.dQ n 0 lo:Nat):Int)/\(sliceBounds lo hi none n).2.1=((HT.dQ n n hi:Nat):Int)/\(sliceBounds lo hi none n).2.2=1:=by
 refine⟨?_,?_,rfl⟩
 ·cases lo with
  |none=>simp[sliceBounds,HT.dQ]
  |some i=>
   simp only[sliceBounds,HT.dQ,getD_none,show (1:Int)>0 by decide,if_true]
   by_cases h:i<0
   ·simp only[h,if_true]<;>omega
   ·simp only[h,if_false]<;>omega
 ·cases hi with
  |none=>simp[sliceBounds,HT.dQ]
  |some i=>
   simp only[sliceBounds,HT.dQ,getD_none,show (1:Int)>0 by decide,if_true]
   by_cases h:i<0
   ·simp only[h,if_true]<;>omega
   ·simp only[h,if_false]<;>omega
theorem r9(its:List Value)(lo hi:Option Int):slicePick its.toArray lo hi none=((its.drop (HT.dQ its.length 0 lo)).take (HT.dQ its.length its.length hi-HT.dQ its.length 0 lo)).toArray:=by
 obtain⟨h1,h2,h3⟩:=uG lo hi its.toArray.size;unfold slicePick;rw[h1,h2,h3];simp only[sliceRange_one,pick_run,size_toArray]<;>rfl
def Vx(K:Frag):V->Option Int->Option Int->Hp->VK->Prop:=λx lo hi H Q=>∃a xs,x=.ref a/\gU K H a xs/\∀p,H p=none->Q (.ref p) (upd H p (.lst (vP xs lo hi)))
theorem IP:UP X (Vx X.K):=by
 intro pins s σ H x v vl vu lo hi sl Q I rx hs pl pu h;obtain⟨a,xs,rfl,hx,q⟩:=h;cases rx;obtain⟨its,r,ht,hz⟩:=I.list hx;have hlen:=r.length;refine⟨"list",_,slot_list_getitem.lookup,ht.isList.typeIs,?_⟩;refine wpAny_getItem_list_slice ht.isList hs pl pu .none (by simp) ?_ (by rw[aap]<;>omega);rw[r9,<-hlen];refine⟨.ref s.heap.objs.size,_,I.laid (t':=s.toks) (o:=.lst (vP xs lo hi)) (λb ob q=>aad _ q) (aam _) ?_,rfl,q _ (I.hok.fresh (aam _))⟩;exact⟨aaE (n8 xs lo hi) hz,_,0,(r.drop (HT.dQ xs.length 0 lo)).take (HT.dQ xs.length xs.length hi-HT.dQ xs.length 0 lo),aaw _ rfl⟩
theorem uH:cI X (.type "list") (λxs H Q=>∃p ys,xs=[.ref p]/\(gU X.K H p ys\/jx X.K H p ys)/\∀l,H l=none->Q (.ref l) (upd H l (.lst ys))):=by
 intro pins s σ H xs us Q I r h;obtain⟨p,ys,rfl,hq,q⟩:=h;obtain⟨u,rfl,rx⟩:=vals1 r;cases rx;have fin:∀(its:List Value),Vals ys its->ys.length<=sizeLine->∀(h':Heap) (c':Nat),(∀b o',s.heap.get? b=some o'->h'.get? b=some o') ->
   h'.get? s.heap.objs.size=some { cls:=.type "list",dict:=none,data:=.seq its.toArray c',slots:=#[] }->EP X pins σ Q (.ref s.heap.objs.size) { s with heap:=h' }:=λits r' hz h' c' kp e=>
  ⟨.ref s.heap.objs.size,_,I.laid (t':=s.toks) kp (aam _) (show bL X.prog X.w _ h' _ (.lst ys) from⟨hz,its,c',r',e⟩),rfl,q _ (I.hok.fresh (aam _))⟩
 rcases hq with hq|hq
 ·obtain⟨its,r',pl,hz⟩:=I.list hq;have hlen:=r'.length;obtain⟨o,ho,hc,n,hd⟩:=pl.isList;exact call_list_seq p (.inl rfl) ho hc hd (λh' c' kp e=>fin its r' hz h' c' kp e) (by simp only[size_toArray]<;>omega)
 ·obtain⟨its,r',pl,hz⟩:=I.tuple hq;have hlen:=r'.length;obtain⟨o,ho,hc,n,hd⟩:=pl;exact call_list_seq p (.inr rfl) ho hc hd (λh' c' kp e=>fin its r' hz h' c' kp e) (by simp only[size_toArray]<;>omega)
def Vy(K:Frag)(T:String)(x:V)(H:Hp):Prop:=match x with
 |.str _=>T = "str"
 |.int _=>T = "int"
 | .ref p=>(T = "list" /\ ∃xs,gU K H p xs)\/(T = "tuple" /\ ∃o,K.lookup p=some o/\o.cls=.type "tuple" /\ o.dict=none) \/
   (T = "dict" /\ ((∃kvs,H p=some (.dK kvs))\/∃kvs,H p=some (.dT kvs)))\/(T = "set" /\ ∃S n,H p=some (.set S n))
 |_=>False
theorem Nk{T:String}(I:Inv X pins σ H s)(r:RelV x v)(ty:Vy X.K T x H) :
  s.TypeIs v T/\∀a,v=.ref a->∃ob,s.heap.get? a=some ob/\ob.dict=none:=by
 cases x with
 |str z=>obtain⟨t,rfl⟩:=r;cases (show T = "str" from ty);exact⟨typeIs_str s z t,λ_ e=>nomatch e⟩
 |int i=>obtain⟨t,rfl⟩:=r;cases (show T = "int" from ty);exact⟨typeIs_int s i t,λ_ e=>nomatch e⟩
 |ref p=>
  cases r
  rcases ty with ⟨rfl,xs,hq⟩|⟨rfl,o,hk,hc,hd⟩|⟨rfl,hk⟩|⟨rfl,S,n,hk⟩
  ·obtain⟨its,_,pl,_⟩:=I.list hq;refine⟨pl.isList.typeIs,λa e=>?_⟩;cases e;obtain⟨o,n,e,c,hd,_⟩:=pl;exact⟨o,e,hd⟩
  ·refine⟨⟨o,I.kQ p o hk,hc⟩,λa e=>?_⟩;cases e;exact⟨o,I.kQ _ o hk,hd⟩
  ·have z:∃o,s.heap.get? p=some o/\o.ExactDict:=by
    rcases hk with ⟨kvs,hk⟩|⟨kvs,hk⟩
    ·obtain⟨_,_,_,_,o,_,_,e,ex,_⟩:=I.hok p _ hk;exact⟨o,e,ex⟩
    ·obtain⟨_,_,_,_,o,_,_,e,ex,_⟩:=I.hok p _ hk;exact⟨o,e,ex⟩
   obtain⟨o,e,ex⟩:=z;refine⟨⟨o,e,ex.1⟩,λa e2=>?_⟩;cases e2;exact⟨o,e,ex.2.1⟩
  ·obtain⟨o,_,_,_,e,ex,_⟩:=I.hok p _ hk;refine⟨⟨o,e,ex.1⟩,λa e2=>?_⟩;cases e2;exact⟨o,e,ex.2.1⟩
 |_=>exact False.elim ty
def W5(K:Frag)(T:String)(r:V->List V->Hp->VK->Prop)(to:TE)(t:TA):TE:=λσ H Q=>to σ H λx H1=>Vy K T x H1/\t σ H1 λxs H2=>r x xs H2 Q
variable {o e:Expr} {es:List Expr} {to:TE} {t:TA} {name:Str} {apos cpos:Pos} {T id:String} {r:V->List V->Hp->VK->Prop}
theorem Ao(pa:PlainAttrs T)(slot:Slot T name id)(hty:typeOf (.builtin id)=pure (.type "method_descriptor"))(hm:QU X id r)(ho:PE X o to)(ha:PA X (e::es) t)
  (hbase:attributeBase o name X.env (eval o X.env)=eval o X.env)
  (hfew:((backTo cpos (starEach (e::es) X.env)).all (λx=>!x.1)&&(backToKw cpos (keywordEach [] X.env)).all (λx=>x.1.isSome)
   && decide ((e::es).length+([]:List Keyword).length+(if ([]:List Keyword).isEmpty then 0 else 1)<30))=true)
  (hline:(apos.endLine==cpos.line)=true) (hs:starEach (e::es) X.env=(false,eval e X.env)::starEach es X.env) (hplain:(backTo cpos (starEach es X.env)).any (·.1)=false) :
  PE X (.Call (.Attribute o name apos) (e::es) [] cpos) (W5 X.K T r to t):=by
 intro pins s σ H Q I h;refine wpAny_Call_method_late hbase hfew hline rfl (cX (ho pins s σ H _ I h) λv s1 aV=>?_);obtain⟨x,H1,I1,r1,ty,q1⟩:=aV;obtain⟨h1,h2⟩:=Nk I1 r1 ty;refine⟨T,id,pa,slot,hty,h1,h2,?_⟩;have hA:=ha cpos pins s1 σ H1 _ I1 q1;rw[hs]at hA |-;refine Calls.callWith_builtin (by show (false||(backTo cpos (starEach es X.env)).any (·.1))=false;rw[hplain]<;>rfl) (Calls.evalArgs_plain ?_);exact cX hA λus s2 ⟨vs,H2,I2,r2,q2⟩=>hm pins s2 σ H2 x vs v us Q I2 r1 r2 q2
/- xs.append(e),list.index on a RL tuple .. are QU facts of 06m -/
end
def RM(X:Cx)(id:String)(r:V->List V->Hp->VK->Prop):Prop :=
 ∀(pins:List (Addr×Obj)) (s:Shared) (σ:St) (H:Hp) (x:V) (xs:List V) (v:Value) (us:List Value) (Q:VK),Inv X pins σ H s->RelV x v->Vals xs us->r x xs H Q ->
  wpAny (model X.prog X.w) X.A (call (.builtin id) (v::us)) (EP X pins σ Q) X.xe s
theorem Vals.one:∀{x:V} {us:List Value},Vals [x] us->∃u,us=[u]/\RelV x u
 |_,_,.cons r .nil=>⟨_,rfl,r⟩
theorem Vals.eraseIdx:∀{xs:List V} {us:List Value} (i:Nat),Vals xs us->Vals (xs.eraseIdx i) (us.eraseIdx i)
 |_,_,_,.nil=>.nil
 |_,_,0,.cons _ t=>t
 |_,_,i+1,.cons r t=>.cons r (Vals.eraseIdx i t)
theorem sW{α:Type}:∀(l:List α) (i:Nat),(l.eraseIdx i).length<=l.length
 |[],_=>aam _
 |_::_,0=>le_succ _
 |_::r,i+1=>Nat.succ_le_succ (sW r i)
section
variable {X:Cx} {pins:List (Addr×Obj)} {σ:St} {H:Hp} {s:Shared} {l b:Addr} {xs ys zs:List V}
theorem Inv.DZ{its its':List Value}{n:Nat}{f:Array Value->Array Value}{t':Nat}(I:Inv X pins σ H s)(hH:H l=some (.lst xs))
  (e:s.heap.get? l=some { cls:=.type "list",data:=.seq its.toArray n }) (hf:f its.toArray=its'.toArray) (hv:Vals ys its') (hz:ys.length<=sizeLine) :
  Inv X pins σ (upd H l (.lst ys)) { s with heap:=s.heap.update l (Obj.mapSeq f),toks:=t' }:=by
 have q:=PySem.IsL.update e f;rw[hf]at q;refine I.write (x:=l) (e:=l) (by rw[hH];exact trivial) (.inl rfl) (λb' u hb hu=>(get?_update_other s.heap (Obj.mapSeq f) (Ne.symm hb)).trans hu) ⟨_,q⟩ ?_;exact⟨hz,its',_,hv,q⟩
theorem Inv.Vz{t':Nat}(I:Inv X pins σ H s)(hv:Vals ys its)(hz:ys.length<=sizeLine) :
  Inv X pins σ (upd H s.heap.objs.size (.lst ys)) { s with heap:=s.heap.push { cls:=.type "list",data:=.seq its.toArray },toks:=t' } :=
 I.laid (λ_ _ q=>aad _ q) (aam _) ⟨hz,its,0,hv,aaw _ rfl⟩
theorem Inv.Cg(I:Inv X pins σ H s)(hH:H l=some (.lst xs)):xs.length<=sizeLine/\∃(its:List Value) (n:Nat),Vals xs its/\xs.length=its.length/\s.heap.get? l=some { cls:=.type "list",data:=.seq its.toArray n }:=by
 obtain⟨z,its,n,r,e⟩:=I.hok l _ hH;exact⟨z,its,n,r,r.length,e⟩
theorem p9{n:Nat}(h:n<=sizeLine):Builtin.List.listTooLong n=false:=by
 unfold Builtin.List.listTooLong;exact decide_eq_false (by omega)
end
section
variable {X:Cx}
def IQ:V->List V->Hp->VK->Prop:=λx vs H Q=>∃l xs y,x=.ref l/\vs=[y]/\H l=some (.lst xs)/\xs.length<sizeLine/\Q .non (upd H l (.lst (xs++[y])))
theorem sX:RM X "list.append" IQ:=by
 intro pins s σ H x vs v us Q I rx rv h;obtain⟨l,xs,y,rfl,rfl,hH,hz,q⟩:=h;cases rx;obtain⟨u,rfl,ru⟩:=rv.one;obtain⟨z,its,n,r,hl,e⟩:=I.Cg hH;refine call_meets F.slot_list_append ⟨_,e,rfl⟩ F.entry_list_append (F.args_list_append_2 _ _) (PySem.list_append l its.toArray n u (by rw[aap];omega)) ⟨e,?_⟩;refine⟨.non,_,I.DZ (its':=its++[u]) hH e (by simp) (r.append #[ru]) ?_,rfl,q⟩;rw[aau,length_singleton];omega
def IT:V->List V->Hp->VK->Prop:=λx vs H Q=>∃l b xs zs,x=.ref l/\vs=[.ref b]/\H l=some (.lst xs)/\H b=some (.lst zs)/\xs.length+zs.length<=sizeLine/\Q .non (upd H l (.lst (xs++zs)))
theorem Ci:RM X "list.extend" IT:=by
 intro pins s σ H x vs v us Q I rx rv h;obtain⟨l,b,xs,zs,rfl,rfl,hH,hB,hz,q⟩:=h;cases rx;obtain⟨u,rfl,ru⟩:=rv.one;cases ru;obtain⟨z,its,n,r,hl,e⟩:=I.Cg hH;obtain⟨z2,its2,n2,r2,hl2,e2⟩:=I.Cg hB;have hsz:its.toArray.size+its2.toArray.size<=sizeLine:=by rw[aap,aap];omega
 have vQ:¬ (!its.toArray.isEmpty&&Builtin.List.listTooLong (its.toArray.size+its2.toArray.size))=true:=by rw[p9 hsz,Bool.and_false];exact aab
 refine call_meets F.slot_list_extend ⟨_,e,rfl⟩ F.entry_list_extend (F.args_list_extend_2 _ _)
  (AutoSeq1.list_extend_list_list_0 l its.toArray n b its2.toArray n2 vQ (by rw[aap];omega) (by omega)) ⟨e,e2,?_⟩
 refine⟨.non,_,I.DZ (its':=its++its2) hH e (by simp) (r.append r2) ?_,rfl,q⟩;rw[aau];omega
end
section
variable {κ:Type} [DecidableEq κ]
def iG(kvs:List (κ × V))(k:κ):Option V:=(kvs.find? λkv=>decide (kv.1=k)).map (·.2)
def putK(kvs:List (κ × V))(k:κ)(v:V):List (κ × V) :=
 if (kvs.any λkv=>decide (kv.1=k))=true then kvs.map (λkv=>if kv.1=k then (kv.1,v) else kv) else kvs++[(k,v)]
theorem qa{p:κ × V}{r:List (κ × V)}{k:κ}(e:p.1=k):iG (p::r) k=some p.2:=by simp[iG,find?_cons,e]
theorem qb{p:κ × V}{r:List (κ × V)}{k:κ}(e:¬ p.1=k):iG (p::r) k=iG r k:=by simp[iG,find?_cons,e]
theorem vR(k:κ):∀kvs:List (κ × V),(kvs.any λkv=>decide (kv.1=k))=(iG kvs k).isSome
 |[]=>rfl
 | p::r=>by
  rw[any_cons]
  by_cases e:p.1=k
  ·simp only[qa e,decide_eq_true e,Bool.true_or,isSome_some]
  ·rw[qb e,decide_eq_false e,Bool.false_or];exact vR k r
theorem jH(kvs:List (κ × V))(k:κ)(v:V):(putK kvs k v).length<=kvs.length+1:=by
 unfold putK
 split
 ·rw[aag];omega
 ·rw[aau,length_cons,length_nil];omega
theorem lV.Cj(r:lV o u):o.isSome=u.isSome:=by
 cases o with
 | none=>cases u with
  |none=>rfl
  |some _=>exact(show False from r).elim
 | some _=>cases u with
  |none=>exact(show False from r).elim
  |some _=>rfl
theorem lV.getD(r:lV o u)(rd:RelV d d'):RelV (o.getD d) (u.getD d'):=by
 cases o with
 | none=>cases u with
  |none=>exact rd
  |some _=>exact(show False from r).elim
 | some _=>cases u with
  |none=>exact(show False from r).elim
  |some _=>exact r
theorem KV.val(r:KV kvs vs)(k:κ):lV (iG kvs k) (valueAt vs k):=by
 unfold KV at r
 induction r with
 |nil=>exact True.intro
 |@cons p q ps qs h t ih=>
  obtain⟨h1,h2⟩:=h
  by_cases e:p.1=k
  ·have e':q.1=k:=h1.symm.trans e
   have b:valueAt (q::qs) k=some q.2:=by simp[valueAt,find?_cons,e']
   rw[qa e,b];exact h2
  ·have e':¬ q.1=k:=λz=>e (h1.trans z)
   have b:valueAt (q::qs) k=valueAt qs k:=by simp[valueAt,find?_cons,e']
   rw[qb e,b];exact ih
theorem KV.any(r:KV kvs vs)(k:κ):(kvs.any λkv=>decide (kv.1=k))=vs.any λkv=>decide (kv.1=k):=by
 unfold KV at r
 induction r with
 |nil=>rfl
 |cons h t ih=>rw[any_cons,any_cons,ih,h.1]
theorem KV.repl(r:KV kvs vs)(k:κ)(ry:RelV y u) :
  KV (kvs.map λkv=>if kv.1=k then (kv.1,y) else kv) (vs.map λkv=>if kv.1=k then (kv.1,u) else kv):=by
 unfold KV at r |-
 induction r with
 |nil=>exact .nil
 |@cons p q ps qs h t ih=>
  rw[aay,aay];refine .cons ?_ ih;obtain⟨h1,h2⟩:=h
  by_cases e:p.1=k
  ·rw[aae e,aae (h1.symm.trans e)];exact⟨h1,ry⟩
  ·rw[aac e,aac (λz=>e (h1.trans z))];exact⟨h1,h2⟩
theorem KV.put(r:KV kvs vs)(k:κ)(ry:RelV y u):KV (putK kvs k y) (stored vs k u):=by
 unfold putK stored;rw[r.any k]
 by_cases e:(vs.any λkv=>decide (kv.1=k))=true
 ·rw[aae e,aae e];exact r.repl k ry
 ·rw[aac e,aac e];exact Paired.snoc r ⟨rfl,ry⟩
theorem KV.length(r:KV kvs vs):kvs.length=vs.length:=Paired.length r
end
theorem vS(r:RelV (kV k) u):(bU P w).is k u=true:=by
 cases k with
 |inl i=>obtain⟨t,e⟩:=(show ∃t,u=Value.int i t from r);subst e;exact vH P w i t
 |inr x=>obtain⟨t,e⟩:=(show ∃t,u=Value.str x t from r);subst e;exact vI P w x t
theorem sY:∀{ks:List Key} {us:List Value},Vals (ks.map kV) us->ItemsAre (bU P w) ks us
 |[],_,r=>by rw[map_nil]at r;cases r;exact .nil
 | k::ks,_,r=>by
  rw[aay]at r;cases r with
  |cons h t=>exact .cons (vS h) (sY t)
abbrev KT(H:Hp):List (List Key×V)->List (List Key×Addr×Value)->Prop:=Paired λp q=>p.1=q.1/\H q.2.1=some (.tup (p.1.map kV))/\RelV p.2 q.2.2
theorem KT.val(r:KT H kvs xs)(k:List Key):lV (iG kvs k) ((atKey xs k).map (·.2)):=by
 induction r with
 |nil=>exact True.intro
 |@cons p q ps qs h t ih=>
  obtain⟨h1,_,h2⟩:=h
  by_cases e:p.1=k
  ·have e':q.1=k:=h1.symm.trans e
   have b:atKey (q::qs) k=some q.2:=by simp[atKey,find?_cons,e']
   rw[qa e,b];exact h2
  ·have e':¬ q.1=k:=λz=>e (h1.trans z)
   have b:atKey (q::qs) k=atKey qs k:=by simp[atKey,find?_cons,e']
   rw[qb e,b];exact ih
theorem KT.repl(r:KT H kvs xs)(k:List Key)(ry:RelV y u) :
  KT H (kvs.map λkv=>if kv.1=k then (kv.1,y) else kv) (xs.map (putAt k u)):=by
 induction r with
 |nil=>exact .nil
 |@cons p q ps qs h t ih=>
  rw[aay,aay];refine .cons ?_ ih;obtain⟨h1,h2,h3⟩:=h;unfold putAt
  by_cases e:p.1=k
  ·rw[aae e,aae (h1.symm.trans e)];exact⟨h1,h2,ry⟩
  ·rw[aac e,aac (λz=>e (h1.trans z))];exact⟨h1,h2,h3⟩
theorem KT.put(r:KT H kvs xs)(k:List Key)(hb:H b=some (.tup (k.map kV)))(ry:RelV y u) :
  KT H (putK kvs k y) (storedH xs k b u):=by
 have e:(kvs.any λkv=>decide (kv.1=k))=(atKey xs k).isSome:=by rw[vR,(r.val k).Cj,Option.isSome_map]
 unfold putK storedH;rw[e]
 by_cases q:(atKey xs k).isSome=true
 ·rw[aae q,aae q];exact r.repl k ry
 ·rw[aac q,aac q];exact Paired.snoc r ⟨rfl,hb,ry⟩
theorem KT.keeps(r:KT H kvs xs)(ht:∀b ys,H b=some (.tup ys)->H' b=some (.tup ys)):KT H' kvs xs :=
 Paired.MJ r λ_ _ z=>⟨z.1,ht _ _ z.2.1,z.2.2⟩
section
variable {P:Program} {w:World} {H:Hp} {h:Heap} {a:Addr}
theorem LD(ok:jw P w H h)(e:Rd H a u):bL P w H h a u:=e.ok ok
theorem sZ(ok:jw P w H h)(e:Rd H a (.dK kvs)):kvs.length<=sizeLine/\(a==sysModules)=false/\∃vs,KV kvs vs/\h.DictOf (bU P w) a vs :=
 show bL P w H h a (.dK kvs) from LD ok e
theorem LF(ok:jw P w H h)(e:H a=some (.dK kvs)):kvs.length<=sizeLine/\(a==sysModules)=false/\∃vs,KV kvs vs/\h.DictOf (bU P w) a vs:=sZ ok (.inl e)
theorem uI(ok:jw P w H h)(e:H a=some (.tup (ks.map kV))):(tupleKind (bU P w)).is h ks a:=by
 obtain⟨_,its,r,o,h1,h2,n,h3⟩:=(show bL P w H h a (.tup (ks.map kV)) from ok a _ e);exact⟨o,its.toArray,n,h1,h2,h3,by simpa using sY r⟩
theorem vU(ok:jw P w H h)(e:Rd H a (.dT kvs)):kvs.length<=sizeLine/\(a==sysModules)=false /\
  ∃xs,KT H kvs xs/\h.DictOfH (tupleKind (bU P w)) a xs:=by
 obtain⟨z,y,xs,r,o,es,ep,h1,h2,h3,h4,h5⟩:=(show bL P w H h a (.dT kvs) from LD ok e);refine⟨z,y,xs,r,o,es,ep,h1,h2,h3,h4,λx hx=>?_,h5⟩;have all:∀{l:List (List Key×V)} {m:List (List Key×Addr×Value)},KT H l m->∀x∈m,(tupleKind (bU P w)).is h x.1 x.2.1:=by
  intro l m q
  induction q with
  |nil=>intro x hx;exact nomatch hx
  |@cons p q ps qs hq t ih=>
   intro x hx
   rcases aao.mp hx with e|hx
   ·subst e;exact uI ok (by rw[<-hq.1];exact hq.2.1)
   ·exact ih x hx
 exact all r x hx
theorem RO(ok:jw P w H h)(e:H a=some (.dT kvs)):kvs.length<=sizeLine/\(a==sysModules)=false /\
  ∃xs,KT H kvs xs/\h.DictOfH (tupleKind (bU P w)) a xs:=vU ok (.inl e)
end
def o4(H:Hp)(a:Addr)(y:V)(r:Option V):Prop :=
 (∃kvs k,Rd H a (.dK kvs)/\y=kV k/\r=iG kvs k)\/∃kvs k b,Rd H a (.dT kvs)/\y=.ref b/\H b=some (.tup (k.map kV))/\r=iG kvs k
def IU(H:Hp)(a:Addr)(y v:V)(H':Hp):Prop :=
 (∃kvs k,H a=some (.dK kvs)/\y=kV k/\kvs.length<sizeLine/\H'=upd H a (.dK (putK kvs k v))) \/
 ∃kvs k b,H a=some (.dT kvs)/\y=.ref b/\H b=some (.tup (k.map kV))/\kvs.length<sizeLine/\H'=upd H a (.dT (putK kvs k v))
theorem o4.k{H:Hp}{a:Addr}{kvs:List (Key×V)}{k:Key}(e:H a=some (.dK kvs)):o4 H a (kV k) (iG kvs k):=.inl ⟨kvs,k,.inl e,rfl,rfl⟩
theorem IU.k{H:Hp}{a:Addr}{kvs:List (Key×V)}{k:Key}{v:V}(e:H a=some (.dK kvs))(hl:kvs.length<sizeLine):IU H a (kV k) v (upd H a (.dK (putK kvs k v))):=.inl ⟨kvs,k,e,rfl,hl,rfl⟩
section
variable {X:Cx} {pins:List (Addr×Obj)} {σ:St} {H:Hp} {s:Shared} {a:Addr} {y v:V} {u r:Value} {o:Option V} {A:Around} {E:Value->Shared->Prop}
theorem Inv.big(I:Inv X pins σ H s):sysModules<s.heap.objs.size:=by
 have h:mainGlobals<s.heap.objs.size:=(I.mod.glob.keeps I.bk).lt;exact lt_trans (by decide) h
theorem Ck(hu:A.units+1<cLine)(I:Inv X pins σ H s)(g:o4 H a y (some v))(ry:RelV y u)(h:∀w' s',Inv X pins σ H s'->RelV v w'->Q w' s') :
  wpAny (model X.prog X.w) A (getItem (.ref a) u) Q E s:=by
 rcases g with ⟨kvs,k,e,ey,l⟩|⟨kvs,k,b,e,ey,eb,l⟩
 ·subst ey;obtain⟨z,hd,vs,rel,dd⟩:=sZ I.hok e;obtain⟨w',hw,rw'⟩:=lV.some_of (v:=v) (o:=valueAt vs k) (by rw[l];exact rel.val k);exact wpAny_getItem_of (vS ry) dd.mapOf hw (h w' _ (I.tok _) rw')
 ·subst ey;cases (show u=Value.ref b from ry);obtain⟨z,hd,xs,rel,dd⟩:=vU I.hok e;obtain⟨w',hw,rw'⟩:=lV.some_of (v:=v) (o:=(atKey xs k).map (·.2)) (by rw[l];exact rel.val k);obtain⟨p,hp,hp2⟩:=aaH.mp hw;refine wpAny_getItem_heap (tupleKind_room_in1 hu) (uI I.hok eb) dd hp ?_;rw[hp2];exact h w' _ (I.tok _) rw'
theorem uJ{t':Nat}(I:Inv X pins σ H s)(mu:Q5 (H a))(hs:Heap.SameBut a s.heap h')(he:∃q,h'.get? a=some q)(new:bL X.prog X.w (upd H a ob) h' a ob) :
  Inv X pins σ (upd H a ob) { s with heap:=h',toks:=t' } :=
 I.write (x:=a) (e:=a) mu (.inl rfl) (λb q hb z=>(hs.2 b hb).trans z) he new
theorem D0(z:kvs.length<=sizeLine)(hd:(a==sysModules)=false)(rel:KV kvs vs)(dd:h'.DictOf (bU P w) a vs) :
  bL P w H' h' a (.dK kvs):=⟨z,hd,vs,rel,dd⟩
theorem Cm(hu:A.units+1<cLine)(I:Inv X pins σ H s)(g:IU H a y v H')(ry:RelV y u)(rv:RelV v r)(h:∀s',Inv X pins σ H' s'->Q () s') :
  wpAny (model X.prog X.w) A (setItem (.ref a) u r) Q E s:=by
 rcases g with ⟨kvs,k,e,ey,l,eH⟩|⟨kvs,k,b,e,ey,eb,l,eH⟩
 ·subst ey eH
  obtain⟨z,hd,vs,rel,dd⟩:=LF I.hok e;have hz:vs.length<=sizeLine:=by rw[<-rel.length];exact z
  have hl:(putK kvs k v).length<=sizeLine:=by have:=jH kvs k v;omega
  refine wpAny_setItem_pairs (hsz:=hz) (vS ry) dd λh' DC hs=>h _ ?_;have he:∃q,h'.get? a=some q:=let ⟨q,_,_,hq,_⟩:=DC;⟨q,hq⟩
  exact uJ I (by rw[e];exact True.intro) hs he (D0 hl hd (rel.put k rv) DC)
 ·subst ey eH
  cases (show u=Value.ref b from ry);obtain⟨z,hd,xs,rel,dd⟩:=RO I.hok e;have hz:xs.length<=sizeLine:=by rw[<-Paired.length rel];exact z
  have hl:(putK kvs k v).length<=sizeLine:=by have:=jH kvs k v;omega
  refine wpAny_setItem_heap (hsz:=hz) (tupleKind_room_in1 hu) (uI I.hok eb) dd λh' DC hs=>h _ ?_;obtain⟨q,es,ep,hq,h2,h3,h4,_,h5⟩:=DC;refine uJ I (by rw[e];exact True.intro) hs ⟨q,hq⟩ ⟨hl,hd,_,(rel.put k eb rv).keeps λc ys ec=>?_,q,es,ep,hq,h2,h3,h4,h5⟩;rw[ao (Q4 ec e (λz=>nomatch z))];exact ec
end
section
variable {X:Cx} {pins:List (Addr×Obj)} {σ:St} {H:Hp} {s:Shared} {a:Addr} {kvs:List (Key×V)} {k:Key} {u:Value} {A:Around} {E:Value->Shared->Prop}
theorem RP(I:Inv X pins σ H s)(e:Rd H a (.dK kvs))(h:∀t s',Inv X pins σ H s'->Q (.int kvs.length t) s'):wpAny (model X.prog X.w) A (call (.builtin "len") [.ref a]) Q E s:=by
 obtain⟨z,hd,vs,rel,dd⟩:=sZ I.hok e;refine call_len_dict hd dd (by rw[<-rel.length];rw[sizeLine_eq]at z;omega) ?_;rw[<-rel.length];exact h _ _ (I.tok _)
end
theorem vV(I:Inv X pins σ H s)(g:o4 H a y o):s.TypeIs (.ref a) "dict":=by
 rcases g with ⟨kvs,k,e,_,_⟩|⟨kvs,k,b,e,_,_,_⟩
 ·obtain⟨_,_,vs,_,dd⟩:=sZ I.hok e;exact dd.typeIs
 ·obtain⟨_,_,xs,_,dd⟩:=vU I.hok e;exact dd.typeIs
theorem vW(h:Heap)(hb:sysModules<h.objs.size):bL P w H (h.push { cls:=.type "dict",data:=.dict #[] }) h.objs.size (.dK []) :=
 ⟨aaX _,beq_eq_false_iff_ne.mpr (Ne.symm (aav hb)),[],.nil,Heap.DictOf.new h⟩
def Nl:TE:=λ_ H Q=>∀p,H p=none->Q (.ref p) (upd H p (.dK []))
section
variable {X:Cx} {pos:Pos}
theorem D3:PE X (.Dict [] [] pos) Nl:=λpins s σ H Q I h=>
 wpAny_Dict_empty ⟨.ref s.heap.objs.size,_,I.laid (a:=s.heap.objs.size) (o:=.dK []) (t':=s.toks) (λ_ _ q=>aad _ q) (aam _) (vW s.heap I.big),rfl,h _ (I.hok.fresh (aam _))⟩
end
def yW:List (TE×TE)->St->Hp->(List (V×V)->Hp->Prop)->Prop
 |[],_,H,Q=>Q [] H
 |(tk,tv)::r,σ,H,Q=>tk σ H λx H1=>tv σ H1 λy H2=>yW r σ H2 λps H3=>Q ((x,y)::ps) H3
abbrev VV:List (V×V)->List (Value×Value)->Prop:=Paired λp q=>RelV p.1 q.1/\RelV p.2 q.2
def UQ(X:Cx)(pos:Pos)(keys:List (Option Expr))(values:List Expr)(Nn:List (TE×TE)):Prop :=
 ∀(pins:List (Addr×Obj)) (s:Shared) (σ:St) (H:Hp) (Q:List (V×V)->Hp->Prop),Inv X pins σ H s->yW Nn σ H Q ->
  wpAny (model X.prog X.w) X.A (evalPairs (pairTrees keys values X.env pos)) (λvs s'=>∃ps H',Inv X pins σ H' s'/\VV ps vs/\Q ps H') X.xe s
theorem Aq:UQ X pos [] [] []:=λpins s σ H Q I h=>pairTrees_nil_walk ⟨[],H,I,.nil,h⟩
theorem qc(hk:PE X k tk)(hv:PE X v tv)(hr:UQ X pos ks vs Nn) :
  UQ X pos (some k::ks) (v::vs) ((tk,tv)::Nn):=λpins s σ H Q I h=>
 pairTrees_cons_walk (cX (hk pins s σ H _ I h) λu s1 ⟨x,H1,I1,rx,q1⟩=>cX (hv pins s1 σ H1 _ I1 q1) λw2 s2 ⟨y,H2,I2,ry,q2⟩=>
  cX (hr pins s2 σ H2 _ I2 q2) λws s3 ⟨ps,H3,I3,rel,q3⟩=>⟨(x,y)::ps,H3,I3,.cons ⟨rx,ry⟩ rel,q3⟩)
def jI(kvs more:List (Key×V)):List (Key×V):=more.foldl (λacc kv=>putK acc kv.1 kv.2) kvs
theorem KV.merge:∀{more:List (Key×V)} {rs:List (Key×Value)} {kvs:List (Key×V)} {vs:List (Key×Value)},KV more rs->KV kvs vs->KV (jI kvs more) (merged vs rs):=by
 intro more rs kvs vs r;unfold KV at r
 induction r generalizing kvs vs with
 |nil=>intro q;exact q
 |@cons p q ps qs h t ih=>
  intro r0;have e:KV (putK kvs p.1 p.2) (stored vs q.1 q.2):=by have:=r0.put p.1 h.2;rw[<-h.1];exact this
  exact ih e
theorem kZ:∀(more kvs:List (Key×V)),(jI kvs more).length<=kvs.length+more.length
 |[],kvs=>by show kvs.length<=kvs.length+0;omega
 | p::r,kvs=>by
  have h1:=kZ r (putK kvs p.1 p.2);have h2:=jH kvs p.1 p.2;show (jI (putK kvs p.1 p.2) r).length<=_;rw[length_cons];omega
theorem qd:∀{kvs:List (Key×V)} {ws:List (Value×Value)},VV (kvs.map λkv=>(kV kv.1,kv.2)) ws->∃rs,Carries (bU P w) ws rs/\KV kvs rs
 |[],_,r=>by rw[map_nil]at r;cases r;exact⟨[],True.intro,.nil⟩
 | p::kvs,_,r=>by
  rw[aay]at r;cases r with
  |@cons a b as bs h t=>obtain⟨rs,c,q⟩:=qd (P:=P) (w:=w) t;obtain⟨b1,b2⟩:=b;exact⟨(p.1,b2)::rs,⟨vS h.1,rfl,c⟩,.cons ⟨rfl,h.2⟩ q⟩
def RQ(Nn:List (TE×TE)):TE:=λσ H Q=>∀p,H p=none->yW Nn σ (upd H p (.dK [])) λps H2=>H2 p=some (.dK [])/\∃kvs:List (Key×V),ps=kvs.map (λkv=>(kV kv.1,kv.2))/\kvs.length<=15/\Q (.ref p) (upd H2 p (.dK (jI [] kvs)))
theorem Ar(h:UQ X pos keys values Nn)(hall:keys.all (·.isSome)=true)(hl:keys.length=values.length)(h0:keys≠[])
  (YT:keys.length<=15):PE X (.Dict keys values pos) (RQ Nn):=by
 intro pins s σ H Q I q;have hn:=I.hok.fresh (aam s.heap.objs.size);have I1:=I.laid (a:=s.heap.objs.size) (o:=.dK []) (h':=s.heap.push { cls:=.type "dict",data:=.dict #[] }) (t':=s.toks) (λ_ _ q=>aad _ q) (aam _) (vW s.heap I.big);refine wpAny_Dict_walk (knd:=bU X.prog X.w) hall hl h0 YT (cX (h pins _ σ _ _ I1 (q _ hn)) λws s2 aV=>?_);obtain⟨ps,H2,I2,rel,e,kvs,ep,lk,q2⟩:=aV;subst ep;obtain⟨rs,c,rk⟩:=qd (P:=X.prog) (w:=X.w) rel;obtain⟨z,hd,vs0,r0,dd⟩:=LF I2.hok e;cases r0;refine⟨rs,c,dd,λh' DC hs=>⟨.ref s.heap.objs.size,_,?_,rfl,q2⟩⟩;have hz:(jI [] kvs).length<=sizeLine:=by have h1:=kZ kvs [];rw[length_nil]at h1;rw[sizeLine_eq];omega
 have he:∃q,h'.get? s.heap.objs.size=some q:=let ⟨q,_,_,hq,_⟩:=DC;⟨q,hq⟩
 exact uJ I2 (by rw[e];exact True.intro) hs he (D0 hz hd (rk.merge .nil) DC)
structure M2 (X:Cx) (o:Expr) (m:Str) (apos:Pos) (e f:Expr) (cpos:Pos):Prop where
 base:attributeBase o m X.env (eval o X.env)=eval o X.env
 few:((backTo cpos (starEach [e,f] X.env)).all (λx=>!x.1)&&(backToKw cpos (keywordEach [] X.env)).all (λx=>x.1.isSome)
  && decide (([e,f]:List Expr).length+([]:List Keyword).length+(if ([]:List Keyword).isEmpty then 0 else 1)<30))=true
 line:(apos.endLine==cpos.line)=true
 trees:backTo cpos (starEach [e,f] X.env)=[(false,eval e X.env),(false,eval f X.env)]
def W6(H:Hp)(a:Addr):Prop:=(∃kvs,Rd H a (.dK kvs))\/∃kvs,Rd H a (.dT kvs)
theorem Np(I:Inv X pins σ H s)(d:W6 H a) :
  s.TypeIs (.ref a) "dict" /\ (∀b,Value.ref a=.ref b->∃ob,s.heap.get? b=some ob/\ob.dict=none)/\(a==sysModules)=false:=by
 rcases d with ⟨kvs,e⟩|⟨kvs,e⟩
 ·obtain⟨_,hd,vs,_,dd⟩:=sZ I.hok e;refine⟨dd.typeIs,λb q=>?_,hd⟩;cases q;obtain⟨ob,_,_,h1,h2,_⟩:=dd;exact⟨ob,h1,h2.2.1⟩
 ·obtain⟨_,hd,xs,_,dd⟩:=vU I.hok e;refine⟨dd.typeIs,λb q=>?_,hd⟩;cases q;obtain⟨ob,_,_,h1,h2,_⟩:=dd;exact⟨ob,h1,h2.2.1⟩
section
variable {X:Cx} {pins:List (Addr×Obj)} {σ:St} {H:Hp} {s:Shared} {a:Addr} {y d:V} {u r:Value} {o:Option V} {A:Around} {E:Value->Shared->Prop}
theorem Nq(hu:A.units+1<cLine)(I:Inv X pins σ H s)(g:o4 H a y o)(ry:RelV y u)(rd:RelV d r)(h:∀w' s',Inv X pins σ H s'->RelV (o.getD d) w'->Q w' s') :
  wpAny (model X.prog X.w) A (call (.builtin "dict.get") [.ref a,u,r]) Q E s:=by
 rcases g with ⟨kvs,k,e,ey,l⟩|⟨kvs,k,b,e,ey,eb,l⟩
 ·subst ey;obtain⟨z,hd,vs,rel,dd⟩:=sZ I.hok e;refine call_meetsIn PySem.F.slot_dict_get dd.typeIs PySem.F.entry_dict_get (PySem.F.args_dict_get_3 _ _ _) (meets_dict_get_default (bU X.prog X.w) a (vS ry) hd r) ⟨_,dd.mapOf,h _ _ (I.tok _) ?_⟩;rw[l];exact(rel.val k).getD rd
 ·subst ey;cases (show u=Value.ref b from ry);obtain⟨z,hd,xs,rel,dd⟩:=vU I.hok e;refine call_meetsIn PySem.F.slot_dict_get dd.typeIs PySem.F.entry_dict_get (PySem.F.args_dict_get_3 _ _ _) (meetsH_dict_get_default (tupleKind (bU X.prog X.w)) a b hd r) ⟨tupleKind_room_in1 hu,k,xs,uI I.hok eb,dd,h _ _ (I.tok _) ?_⟩;rw[l];exact(rel.val k).getD rd
end
def Nr(td ty tx:TE):TE:=λσ H Q=>td σ H λx H1=>∃a,x=.ref a/\W6 H1 a/\ty σ H1 λy H2=>tx σ H2 λz H3=>∃o,o4 H3 a y o/\Q (o.getD z) H3
section
variable {X:Cx} {o e f:Expr} {apos cpos:Pos} {td ty tx:TE}
theorem D4(hu:X.A.units+1<cLine)(ho:PE X o td)(he:PE X e ty)(hf:PE X f tx)(m:M2 X o "get" apos e f cpos):PE X (.Call (.Attribute o "get" apos) [e,f] [] cpos) (Nr td ty tx):=by
 intro pins s σ H Q I h;refine wpAny_Call_method m.base m.few m.line PySem.F.plainAttrs_dict PySem.F.slot_dict_get PySem.F.type_dict_get (cX (ho pins s σ H _ I h) λu s1 aV=>?_);obtain⟨x,H1,I1,rx,a,ex,d,q1⟩:=aV;subst ex;obtain rfl:u=Value.ref a:=rx;obtain⟨t1,t2,_⟩:=Np I1 d;refine⟨t1,t2,?_⟩;rw[m.trees];refine Calls.callWith_builtin rfl (Calls.evalArgs_plain (Calls.spliced_cons (cX (he pins s1 σ H1 _ I1 q1) λiv s2 ⟨y,H2,I2,ry,q2⟩=>
  Calls.spliced_cons (cX (hf pins s2 σ H2 _ I2 q2) λfv s3 ⟨z,H3,I3,rz,ov,g,q3⟩=>Calls.spliced_nil ?_))))
 exact Nq hu I3 g ry rz λw' s4 I4 rw'=>⟨_,H3,I4,rw',q3⟩
end
end L2
namespace W7
open PySem PySem.W PySem.Calls PyProof.Rows
theorem o5:∀(ns:List Int) (vs:List Value),WellAll P h vs (ns.map WData.int)->IntsAre vs ns:=by
 intro ns
 induction ns with
 |nil=>intro vs w;rw[map_nil]at w;cases w;exact .nil
 |cons n ns ih=>
  intro vs w;rw[aay]at w;cases w with
  |cons a b=>cases a;exact .cons _ _ (ih _ b)
theorem Cn{l:OpenLaw}{n:Nat}(hn:l.most=some n){P:Params}{h:Heap}{args:List WData}{vals:List Value}
  (hpre:l.row.toRowW.claim.pre args=true) (hwl:WellAll P h vals args) :
  ∃a vs ns,vals=[Value.ref a]/\args=[WData.list (ns.map WData.int)]/\h.get? a=some { cls:=.type "list",data:=.seq vs.toArray }/\IntsAre vs ns/\ns.length<=n:=by
 have hsh:WShape.hasAll [] args [.list .int]=true:=(pre_splitW hpre).1;have hc:l.pre.holds [] { args:=args }=true:=(pre_splitW hpre).2;obtain⟨d,r,rfl,h1,h2⟩:=hasAllW_cons hsh;obtain rfl:=hasAllW_nil h2;obtain⟨xs,rfl,h3⟩:=hasW_list h1;obtain⟨ns,rfl⟩:=items_int h3;have hlen:ns.length<=n:=by
  unfold OpenLaw.pre at hc;have h4:(WTm.not (.lt (.lit (.int (n:Int))) (.len (.arg 0)))).holds [] { args:=[.list (ns.map .int)] }=true:=by have h4:=(holds_andW hc).1;rw[hn]at h4;exact h4
  have h5:=condW_of h4 (w_not (w_lt w_lit (w_len_list (w_arg rfl))));rw[aag]at h5;refine Nat.le_of_not_lt λq=>?_;have q':(n:Int)<((ns.length:Nat):Int):=by omega
  first
   |(rw[decide_eq_true q']at h5;exact absurd h5 (by decide))
   |(simp at h5;omega)
 cases hwl with
 |cons w1 w2=>
  cases w2;cases w1 with
  |list ho hall=>exact⟨_,_,ns,rfl,rfl,ho,o5 ns _ hall,hlen⟩
theorem Co(l:OpenLaw)(args:List WData):l.row.toRowW.claim.post args (.bool true) args=true :=
 postW_of (r:=l.row.toRowW) (X:=(true==true))
  (show WShape.has [] (.bool true) .bool=true by first|rfl|decide|simp[WShape.has,WShape.arms,WShape.armsAll])
  (show (WTm.eq .res (.lit (.bool true))).value [] { args:=args,res:=some (.bool true),after:=args }=some (.bool (true==true)) from w_eq_bool (w_res rfl) w_lit) rfl
theorem vX{l:OpenLaw}{n:Nat}{q:Program}{loose:List Str}{XP:(Str->Option Value)->Heap->Prop}{YP:World->Heap->Prop}{d:DefRec}
  (hn:l.most=some n) (hdf:d.params.defaults=[])
  (call:∀(w:World) (s₀ s₁:Shared) (mg mb:Str->Option Value) (fa:Addr) (o:Obj) (pm cd doc:Value) (a:Addr) (vs:List Value) (ns:List Int),
   Ground q loose [] XP w s₀ mg mb s₁.heap->YP w s₁.heap ->
   s₁.heap.get? fa=some o->o.data=.func (docDef d.name d.params d.body d.scope pm cd doc)->s₁.heap.CodeRec cd d.name->mg d.name=some (.ref fa) ->
   s₁.heap.get? a=some { cls:=.type "list",data:=.seq vs.toArray }->IntsAre vs ns->ns.length<=n->s₁.gens = #[] ->
   codeAny (model l.prog w) callerA (.call (.ref fa) ⟨[.ref a],[]⟩) (λr s'=>r=.ok (.ret (.bool true))/\OldK s₁.heap s'.heap/\s'.os=s₁.os/\AllBare s'.gens) s₁) :
  WalkO q loose XP YP l.row.toRowW d [] (λf vs=>PySem.call f vs):=by
 intro w s₀ s₁ mg mb G Y fa o pm cd doc dV kV ho hd hcd hD hmg hg args vals as hpre hlay hrd hwl hlo;obtain rfl:dV=.none:=Dflts.none hD hdf;obtain rfl:kV=.none:=Dflts.noKw hD;obtain⟨a,vs,ns,rfl,rfl,hobj,hints,hlen⟩:=Cn hn hpre hwl;refine enter_call (codeAny_mono (call w s₀ s₁ mg mb fa o pm cd doc a vs ns G Y ho (fd_plain hd) hcd hmg hobj hints hlen hg) λr s' hq=>?_);obtain⟨rfl,h2,h3,h4⟩:=hq;exact⟨.inl ⟨.bool true,.bool true,[],rfl,λ_=>rfl,.bool true,Co l _,λ_=>⟨List.Pairwise.nil,λ_ hm=>(nomatch hm)⟩⟩,h2,h3,h4⟩
end W7
namespace L2
open PySem PySem.Spec PyProof.Rows
theorem ku:∀{vs:List Value} {ns:List Int},IntsAre vs ns->Vals (ns.map V.int) vs
 |_,_,.nil=>.nil
 |_,_,.cons n t h=>.cons ⟨t,rfl⟩ (ku h)
def D5(H:Hp):Prop:=∀b,H b=none\/∃o xs,H b=some (.sM o (.lst xs))
theorem D6{P:Program}{w:World}{K:Frag}{mg mb:Str->Option Value}{CX:yQ}{k:Nat}{fa a:Addr}{fd:FuncData}{x:Str}{sp:Sp}{s₁:Shared}{vs:List Value}{ns:List Int}
  (KX:K.In s₁.heap) (hns:s₁.heap.Ns mainGlobals mg) (hb:s₁.heap.Ns builtinsNs mb) (UR:∀x:Str,x ≠ "__name__" -> mb x=bootBuiltins x) (hlim:s₁.heap.NoLimit) (hg:s₁.gens = #[])
  (ha:s₁.heap.get? a=some { cls:=.type "list",data:=.seq vs.toArray }) (hi:IntsAre vs ns) (hl:ns.length<=sizeLine) (hr:dU k callerA)
  (F:∀base:Heap,K.In base->base.Ns mainGlobals mg->dW P w K mg base CX k fa fd [x] sp) (hbind:∀(s:Shared) (u:Value),BindsTo s fd ⟨[u],[]⟩ [(x,u)])
  (hsp:∀H:Hp,D5 H->gU K H a (ns.map V.int)->sp [.ref a] H (λv _=>v=.bl true) λ_ _ _=>False)
  (hCX:∀H e s',CX [] H s₁ (λ_ _ _=>False) e s'->False) :
  codeAny (model P w) callerA (.call (.ref fa) ⟨[.ref a],[]⟩) (λr s'=>r=.ok (.ret (.bool true))/\OldK s₁.heap s'.heap/\s'.os=s₁.os/\AllBare s'.gens) s₁:=by
 have rv:=ku hi;have VA:=hi.length;have core:∀H:Hp,D5 H->gU K H a (ns.map V.int)->jw P w H s₁.heap->(∀b,H b≠none->b=a)->(H a≠none->K.lookup a=none) ->
   codeAny (model P w) callerA (.call (.ref fa) ⟨[.ref a],[]⟩) (λr s'=>r=.ok (.ret (.bool true))/\OldK s₁.heap s'.heap/\s'.os=s₁.os/\AllBare s'.gens) s₁:=by
  intro H hO hS hok hA hK;have base_of:∀{b:Addr} {o:Obj},s₁.heap.get? b=some o->H b=none->(uB s₁.heap H).get? b=some o:=λe n=>DH e n;have noA:∀{b:Addr} {o:Obj} {es:Array DictEntry} {ep:Nat},s₁.heap.get? b=some o->o.data=.dict es ep->H b=none:=λ{b o es ep} e d=>by
   cases q:H b with
   |none=>rfl
   |some u=>have e':b=a:=hA b (by rw[q];simp);subst e';rw[ha]at e;cases e;have d':Data.seq vs.toArray _=Data.dict es ep:=d;cases d'
  have nsK:∀{b:Addr} {m:Str->Option Value},s₁.heap.Ns b m->(uB s₁.heap H).Ns b m:=λ{b m} ⟨o,es,ep,e,d,r⟩=>⟨o,es,ep,base_of e (noA e d),d,r⟩;have W8:K.In (uB s₁.heap H):=λb o e=>base_of (KX b o e) (by
   cases q:H b with
   |none=>rfl
   |some u=>have e':b=a:=hA b (by rw[q];simp);subst e';rw[hK (by rw[q];simp)]at e;cases e)
  have hM:Mod K mg (uB s₁.heap H):=⟨W8,nsK hns,⟨mb,nsK hb,UR⟩,let ⟨mc,h1,h2⟩:=hlim;⟨mc,nsK h1,h2⟩⟩;have e0:yR P w K mg (uB s₁.heap H) callerA [] s₁ H:=⟨rfl,hM,λb o e=>Ig e,Nat.le_of_eq (B0 _ _),trivial,λb hb=>absurd (show b∈([]:List Addr) from hb) (by simp),hok,.of_eq hg⟩;refine codeAny_mono ((F _ W8 (nsK hns)).run callerA [] s₁ H ⟨[.ref a],[]⟩ [.ref a] [.ref a] _ _ hr e0 (hbind s₁ (.ref a)) #[rfl] (hsp H hO hS)) λr s' h=>?_;cases r with
  |error e=>exact(hCX H e s' h).elim
  |ok fl=>
   cases fl with
   |next=>exact False.elim h
   |brk=>exact False.elim h
   |cont=>exact False.elim h
   |ret u=>
    obtain⟨v,H',os,bare,un,VC,r',q⟩:=h;have q':v=.bl true:=q;subst q';obtain rfl:u=Value.bool true:=r';refine⟨rfl,OldK.of_keep λb o e=>?_,os,bare⟩;cases q:H b with
    |none=>exact un.keep b o e q (by intro z;exact absurd (show b∈([]:List Addr) from z) (by simp)) (by simp)
    |some u=>
     rcases hO b with z|⟨ob,xs,z⟩
     ·rw[q]at z;cases z
     ·have z2:=un.frzs b ob _ z;obtain⟨e1,_⟩:=hok b _ z;obtain⟨e2,_⟩:=VC b _ z2;rw[e]at e1;cases e1;exact e2
 cases hk:K.lookup a with
 |some o=>have e:=KX a o hk;rw[ha]at e;cases e;refine core (λ_=>none) (λ_=>.inl rfl) (.inr ⟨_,vs.toArray,_,hk,rfl,rfl,rfl,by rw[aap,VA];exact hl,by simpa using rv⟩) (λb u z=>by have z':(none:Option HO)=some u:=z;cases z') (λb z=>absurd rfl z) λz=>absurd rfl z
 |none=>
  refine core (λb=>if b=a then some (.sM { cls:=.type "list",data:=.seq vs.toArray } (.lst (ns.map V.int))) else none) (λb=>?_) (.inl (.inr ⟨{ cls:=.type "list",data:=.seq vs.toArray },aae rfl⟩)) (λb u z=>?_) (λb z=>?_) λ_=>hk
  ·by_cases hb:b=a
   ·exact .inr ⟨_,_,aae hb⟩
   ·exact .inl (aac hb)
  ·by_cases hb:b=a
   ·have z':=(aae hb).symm.trans z;cases z';subst hb;exact⟨ha,by rw[aag];exact hl,vs,_,rv,ha⟩
   ·have z':=(aac hb).symm.trans z;cases z'
  ·by_cases hb:b=a
   ·exact hb
   ·exact absurd (aac hb) z
theorem IV{l:PySem.W.OpenLaw}{n k:Nat}{q:Program}{loose:List Str}{XP:(Str->Option Value)->Heap->Prop}{YP:World->Heap->Prop}{d:DefRec}{K:Params->Frag}{CX:World->yQ}{sp:World->Sp}{x:Str}
  (hn:l.most=some n) (hn2:n<=sizeLine) (hdf:d.params.defaults=[]) (hr:dU k callerA)
  (hY:∀(w:World) (h:Heap),YP w h->(K w.params).In h)
  (F:∀(w:World) (mg:Str->Option Value) (fa:Addr) (h:Heap),(K w.params).In h->h.Ns mainGlobals mg->mg d.name=some (.ref fa) ->
   ∃fd:FuncData,(∀(s:Shared) (u:Value),BindsTo s fd ⟨[u],[]⟩ [(x,u)]) /\
    ∀base:Heap,(K w.params).In base->base.Ns mainGlobals mg->dW l.prog w (K w.params) mg base (CX w) k fa fd [x] (sp w))
  (hsp:∀(w:World) (H:Hp) (a:Addr) (ns:List Int),ns.length<=n->D5 H->gU (K w.params) H a (ns.map V.int)->sp w [.ref a] H (λv _=>v=.bl true) λ_ _ _=>False)
  (hCX:∀(w:World) (H:Hp) (s:Shared) (e:Value) (s':Shared),CX w [] H s (λ_ _ _=>False) e s'->False) :
  PySem.W.WalkO q loose XP YP l.row.toRowW d [] (λf vs=>PySem.call f vs):=by
 refine W7.vX hn hdf λw s₀ s₁ mg mb fa o pm cd doc a vs ns G Y ho hd hcd hmg hobj hints hlen hg=>?_;have KX:=hY w _ Y;obtain⟨fd,hb,hF⟩:=F w mg fa _ KX G.T.g hmg;exact D6 KX G.T.g G.T.b G.T.builtins G.T.nolimit hg hobj hints (aaE hlen hn2) hr hF hb (λH hO hS=>hsp w H a ns hlen hO hS) λH e s'=>hCX w H s₁ e s'
def mh(s:Stmt):Arguments:=match s with
 |.FunctionDef _ a _ _ _ _ _ _ _ _=>a
 |_=>{ posonlyargs:=[],args:=[],vararg:=none,kwonlyargs:=[],kw_defaults:=[],kwarg:=none,defaults:=[] }
def aq(s:Stmt):List Stmt:=match s with
 |.FunctionDef _ _ b _ _ _ _ _ _ _=>b
 |_=>[]
def af(s:Stmt):Scope:=match s with
 |.FunctionDef _ _ _ _ _ _ sc _ _ _=>sc
 |_=>{ kind:=.function,names:=[],isGenerator:=false,isCoroutine:=false }
abbrev HV:yQ:=λ_ _ _ _ _ _=>False
abbrev E0:XK:=λ_ _ _=>False
theorem RS:Passes HV X E0:=λ_ _ _ _ _ _ _ h=>h.elim
structure HW (K:Frag) (x qual:Str) (st:Stmt) (f:Addr) (fd:FuncData):Prop where
 ex:∃(oc:Value) (od:Option Addr) (kV doc pm:Value) (an:Option Addr) (cdv ct:Value) (osl:Array (Option Value)),
  fd=fnOf x qual (mh st) (aq st) (af st) .none kV doc pm an cdv ct/\K.lookup f=some ⟨oc,od,.func fd,osl⟩/\codeIn K cdv qual=true
 kp:keepIn K (.ref f)=true
section
variable {P:Program} {w:World} {K:Frag} {mg:Str->Option Value} {base:Heap}
theorem HW.ok{x qual:Str}{st:Stmt}{f:Addr}{fd:FuncData}{N ps:List Str}{k:Nat}{sp:Sp}(F:HW K x qual st f fd)(S:l8 N ps (af st))(len:∀vs H Q E,sp vs H Q E->vs.length=ps.length)
  (hbody:∀(cdv:Value) (A:Around) (outer:List Env) (s:Shared) (H:Hp) (vs:List V) (Q:VK) (E:XK),dU k (A.deeper (envOfC qual (af st) s.heap.objs.size f cdv))->sp vs H Q E ->
   ∃t,uC (ig HV P w K mg base N qual (af st) f cdv A outer s H E).DA (aq st) t/\t { nx:=λ_ H'=>Q .non H',rt:=Q } (start N vs) H):dW P w K mg base HV (k+1) f fd ps sp:=by
 obtain⟨oc,od,kV,doc,pm,an,cdv,ct,osl,rfl,lk,hcd⟩:=F.ex;refine DV lk hcd S len λA outer s H vs Q E hr hsp=>?_;obtain⟨t,h,q⟩:=hbody cdv A outer s H vs Q E hr hsp;exact⟨t,h.DA,q⟩
theorem HW.binds{x qual:Str}{st:Stmt}{f:Addr}{fd:FuncData}{ps:List Str}(F:HW K x qual st f fd)
  (h:∀(kV doc pm:Value) (an:Option Addr) (cdv ct:Value) (us:List Value),us.length=ps.length->bindArgs (fnOf x qual (mh st) (aq st) (af st) .none kV doc pm an cdv ct) ⟨us,[]⟩=pure (ps.zip us)):Binds K fd ps []:=by
 obtain⟨oc,od,kV,doc,pm,an,cdv,ct,osl,rfl,lk,hcd⟩:=F.ex;exact .all (h kV doc pm an cdv ct)
theorem fun_mk{x qual:Str}{st:Stmt}{f:Addr}{oc:Value}{od an:Option Addr}{osl:Array (Option Value)}{kV doc pm cdv ct:Value}(l:K.lookup f=some ⟨oc,od,.func (fnOf x qual (mh st) (aq st) (af st) .none kV doc pm an cdv ct),osl⟩)
  (c:codeIn K cdv qual=true) (k:keepIn K (.ref f)=true):HW K x qual st f (fnOf x qual (mh st) (aq st) (af st) .none kV doc pm an cdv ct):=⟨⟨oc,od,kV,doc,pm,an,cdv,ct,osl,rfl,l,c⟩,k⟩
end
section
variable {X:Cx}
theorem pv(i:Nat)(hN:X.N[i]?=some x)(hv:Q7 X.env.scope x)(hd:(x==("__debug__":Str))=false)
  (hcd:(x==("__classdict__":Str))=false):PE X (.Name x pos) (B5 i):=jF hN hv hd hcd
theorem Cp:cI X (.builtin "len") (λxs H Q=>∃a kvs,xs=[V.ref a]/\H a=some (.dK kvs)/\Q (.int kvs.length) H):=by
 intro pins s σ H xs us Q I r h;obtain⟨a,kvs,rfl,ha,q⟩:=h;obtain⟨u,rfl,ru⟩:=vals1 r;cases ru;exact RP I (.inl ha) λt s' I'=>⟨.int kvs.length,H,I',⟨t,rfl⟩,q⟩
end
def yX(H H':Hp):Prop:=∀b o,H b=some o->H' b=some o
theorem yX.seq{K:Frag}{H H':Hp}{a:Addr}{xs:List V}(e:yX H H')(h:gU K H a xs):gU K H' a xs:=by
 rcases h with (h|⟨o,h⟩)|h
 ·exact .inl (.inl (e _ _ h))
 ·exact .inl (.inr ⟨o,e _ _ h⟩)
 ·exact .inr h
theorem lD(env:Env):∀(names:List (Str×NameKind)) (acc:List (Str×Addr)),(∀y∈names,y.2=.free->∃c,env.cells.lookup y.1=some c) ->
  (∀x c,acc.lookup x=some c->env.cells.lookup x=some c) ->
  ∃cl,(forIn names acc λx r=>if (x.snd==NameKind.free)=true then do let c <-cellOf env x.fst;pure (ForInStep.yield ((x.fst,c)::r)) else pure (ForInStep.yield r))=(pure cl:Sem (List (Str×Addr))) /\
   (∀x c,cl.lookup x=some c->env.cells.lookup x=some c)/\∀x,((x,NameKind.free)∈names\/∃c,acc.lookup x=some c)->∃c,cl.lookup x=some c
 |[],acc,_,ha=>⟨acc,rfl,ha,λx h=>h.elim (λz=>nomatch z) λz=>z⟩
 | (n,k)::r,acc,hn,ha=>by
  have hr:∀y∈r,y.2=NameKind.free->∃c,env.cells.lookup y.1=some c:=λy hy=>hn y (aaf _ hy)
  by_cases hk:k=.free
  ·subst hk
   obtain⟨c,hc⟩:=hn (n,.free) aak rfl;have ha':∀x d,((n,c)::acc).lookup x=some d->env.cells.lookup x=some d:=λx d h=>by
    rw[lookup_cons]at h;cases e:x==n with
    |true=>rw[e]at h;have e':x=n:=eq_of_beq e;cases h;rw[e'];exact hc
    |false=>rw[e]at h;exact ha x d h
   obtain⟨cl,e1,e2,e3⟩:=lD env r ((n,c)::acc) hr ha';refine⟨cl,?_,e2,λx h=>?_⟩
   ·rw[List.forIn_cons]
    have hco:cellOf env n=pure c:=by unfold cellOf;rw[hc]
    simp only[beq_self_eq_true,if_true,hco];exact e1
   ·by_cases hx:x=n
    ·subst hx;exact e3 x (.inr ⟨c,by simp[lookup_cons]⟩)
    ·rcases h with h|⟨d,h⟩
     ·rcases aao.mp h with z|z
      ·exact absurd (congrArg Prod.fst z) hx
      ·exact e3 x (.inl z)
     ·refine e3 x (.inr ⟨d,?_⟩);rw[lookup_cons];have:(x==n)=false:=beq_eq_false_iff_ne.mpr hx;rw[this];exact h
  ·have hb:(k==NameKind.free)=false:=beq_eq_false_iff_ne.mpr hk
   obtain⟨cl,e1,e2,e3⟩:=lD env r acc hr ha;refine⟨cl,?_,e2,λx h=>e3 x ?_⟩
   ·rw[List.forIn_cons];simp only[hb,false_eq_true,if_false];exact e1
   ·rcases h with h|h
    ·rcases aao.mp h with z|z
     ·cases z;exact absurd rfl hk
     ·exact .inl z
    ·exact .inr h
theorem qf(h:∀y∈scope.names,y.2=.free->∃c,env.cells.lookup y.1=some c) :
  ∃cl,closureFor scope env=pure cl/\(∀x c,cl.lookup x=some c->env.cells.lookup x=some c)/\∀x,(x,NameKind.free)∈scope.names->∃c,cl.lookup x=some c:=by
 obtain⟨cl,e1,e2,e3⟩:=lD env scope.names [] h (λx c z=>by simp at z);refine⟨cl,?_,e2,λx hx=>e3 x (.inl hx)⟩;unfold closureFor;simp only[bind_pure];exact e1
def bT(X:Cx)(scope:Scope)(N':List Str)(cl:List (Str×Addr))(C:Addr)(s:Shared)(H:Hp)(fp:List Addr):Cx :=
 { prog:=X.prog,w:=X.w,K:=X.K,mg:=X.mg,base:=X.base,A:=X.A,N:=N',s₀:=s,H₀:=H,env:=compEnvC scope cl C X.env,outer:=X.stack,stack:=X.stack,ex:=fp,fn:=λx=>scope.names.lookup x==some .cell,calm:=X.calm,pn:=[],xe:=λ_ _=>False }
def iX(js:List (Option Nat))(σ:St):St:=js.map λo=>match o with
 |none=>none
 | some j=>match σ[j]? with
  |some (some v)=>some v
  |_=>none
def uK(sc:Scope)(x:Str):Bool:=sc.names.lookup x==some .cell||sc.names.lookup x==some .free
def kD(XN:List Str)(xsc scope:Scope)(N':List Str)(js:List (Option Nat)):Bool :=
 scope.kind==.function&&(scope.names.all λy=>y.2 != .local||scope.names.lookup y.1==some .local)&&(scope.names.all λy=>y.2 != .cell||scope.names.lookup y.1==some .cell) &&
 (scope.names.all λy=>y.2 != .free||(uK xsc y.1&&scope.names.lookup y.1==some .free))&&js.length==N'.length &&
 ((N'.zip js).all λp=>match p.2 with|none=>true|some j=>XN[j]?==some p.1&&scope.names.lookup p.1==some .free)
structure uL (X:Cx) (scope:Scope) (N':List Str) (js:List (Option Nat)):Prop where
 kind:scope.kind=.function
 names:∀y∈scope.names,y.2=.local->scope.names.lookup y.1=some .local
 cells:∀y∈scope.names,y.2=.cell->scope.names.lookup y.1=some .cell
 free:∀y∈scope.names,y.2=.free->uK X.env.scope y.1=true/\scope.names.lookup y.1=some .free
 len:js.length=N'.length
 src:∀(i:Nat) (x:Str) (j:Nat),N'[i]?=some x->js[i]?=some (some j)->X.N[j]?=some x/\scope.names.lookup x=some .free
theorem tu(h:kD X.N X.env.scope scope N' js=true):uL X scope N' js:=by
 unfold kD at h;simp only[and_eq_true,all_eq_true]at h;obtain⟨⟨⟨⟨⟨h1,h2⟩,h3⟩,h4⟩,h5⟩,h6⟩:=h;refine⟨eq_of_beq h1,λy hy e=>?_,λy hy e=>?_,λy hy e=>?_,eq_of_beq h5,λi x j e1 e2=>?_⟩
 ·have:=h2 y hy;rw[e]at this;simpa using this
 ·have:=h3 y hy;rw[e]at this;simpa using this
 ·have:=h4 y hy;rw[e]at this;simpa using this
 ·have hm:(x,some j)∈N'.zip js:=by
   refine List.mem_iff_getElem?.mpr ⟨i,?_⟩;rw[List.getElem?_zip_eq_some];exact⟨e1,e2⟩
  have:=h6 _ hm;simpa using this
theorem lq(js:List (Option Nat))(σ:St):(iX js σ).length=js.length:=by unfold iX;rw[aag]
def IW(X:Cx)(ifs:List Expr)(t:TT):Prop :=
 ∀(pins:List (Addr×Obj)) (s:Shared) (σ:St) (H:Hp) (Q:Bool->Hp->Prop),Inv X pins σ H s->t σ H Q ->
  wpAny (model X.prog X.w) X.A (forIn ifs true λc r=>if r=true then do let ok <-isTrue c X.env (eval c X.env);pure (ForInStep.yield ok) else pure (ForInStep.yield r)) (TP X pins σ Q) X.xe s
def vY:TT:=λ_ H Q=>Q true H
theorem IX:IW X [] vY:=λ_ _ _ H _ I h=>wpAny_tests_nil ⟨H,I,h⟩
theorem IY(h:PT X c t):IW X [c] t:=λpins s σ H Q I hw=>wpAny_tests_one (h pins s σ H Q I hw)
def D7(wi:TI)(js:List (Option Nat))(g:TG)(tt:TT)(te:TE):TE:=λσ H Q=>wi σ H λJ H1=>∀D,H1 D=none->∃W:Nat->Nat->St->Hp->Prop,(∃m,W 0 m (iX js σ) (upd H1 D (.lst []))) /\
 ∀i m σ' H,W i m σ' H->(J.stop i H/\Q (.ref D) H)\/(J.go i H/\∃N:St->Hp->Prop,(∀DE H',N DE H'->∃m',m'<m/\W (i+1) m' DE H') /\
  ∀x H',J.yJ i H x H'->g x σ' H' λσ2 H2=>tt σ2 H2 λb H3=>if b=true then te σ2 H3 λy H4=>∃ys,H4 D=some (.lst ys)/\ys.length<sizeLine/\N σ2 (upd H4 D (.lst (ys++[y]))) else N σ2 H3)
theorem sd
  (h:(relabel scope env).names.lookup x=some .cell\/(relabel scope env).names.lookup x=some .free):(x,NameKind.free)∈scope.names\/(x,NameKind.cell)∈scope.names:=by
 unfold relabel at h;simp only at h;generalize scope.names=ns at h
 induction ns with
 |nil=>simp at h
 |cons p r ih=>
  obtain⟨n,k⟩:=p;simp only[map_cons]at h;cases hx:x==n with
  |true=>
   have e':x=n:=eq_of_beq hx;subst e'
   by_cases hk:k=.free
   ·subst hk;exact .inl aak
   ·have hb:(k==NameKind.free)=false:=beq_eq_false_iff_ne.mpr hk
    rw[hb]at h;simp only[Bool.false_and,false_eq_true,if_false,lookup_cons,beq_self_eq_true]at h
    rcases h with h|h
    ·have:=aaA h;subst this;exact .inr aak
    ·exact absurd (aaA h) hk
  |false=>
   refine(ih ?_).imp (aaf _) (aaf _)
   by_cases hk:(k==NameKind.free&&env.scope.kind==.function&&env.kindOf n==some .cell)=true
   ·rw[aae hk]at h;simp only[lookup_cons,hx]at h;exact h
   ·rw[aac hk]at h;simp only[lookup_cons,hx]at h;exact h
theorem fH:∀(names:List (Str×NameKind)) (n:Nat) (acc:List (Str×Addr)),cellsFrom n names acc=cellsFrom n names []++acc
 |[],n,acc=>rfl
 | (name,kind)::r,n,acc=>by
  unfold cellsFrom
  split
  ·rw[fH r (n+1) ((name,n)::acc),fH r (n+1) [(name,n)],List.append_assoc];rfl
  ·exact fH r n acc
theorem gD:∀(names:List (Str×NameKind)) (n:Nat) (acc:List (Str×Addr)) (x:Str) (c:Addr),(x,c)∈cellsFrom n names acc->(x,c)∈acc\/(x,NameKind.cell)∈names
 |[],n,acc,x,c,h=>.inl h
 | (name,kind)::r,n,acc,x,c,h=>by
  unfold cellsFrom at h;split at h
  ·rename_i hk
   have hk:kind=.cell:=eq_of_beq hk
   rcases gD r (n+1) _ x c h with z|z
   ·rcases aao.mp z with z|z
    ·cases z;subst hk;exact .inr aak
    ·exact .inl z
   ·exact .inr (aaf _ z)
  ·exact(gD r n acc x c h).imp id (aaf _)
theorem vZ
  (hq:∀h',h'.Ns s.heap.objs.size (λ_=>none)->(∀b o,s.heap.get? b=some o->h'.get? b=some o)->CellsOk h' (s.heap.objs.size+1) (cellsFrom (s.heap.objs.size+1) scope.names []) ->
   Q (newEnv scope s.heap.objs.size globals (cellsFrom (s.heap.objs.size+1) scope.names []++cl) qual none Value.none (some env) builtinsNs) { s with heap:=h' }) :
  wpAny M A (newFunctionEnv scope globals cl [] qual none .none (some env)) Q E s:=by
 simp only[newFunctionEnv,isSome_some,if_true];refine aaa (wpAny_alloc ?_);refine aaa (wpAny_layCells _ (λname kind cells=>by cases hkc:kind==NameKind.cell<;>simp[hkc]) _ _ _ _ ?_);have ok:=cellsFrom_ok scope.names (s.heap.push { cls:=.type "dict",data:=.dict #[] }) (s.heap.objs.size+1) [] ⟨λ_ _ hm=>(nomatch hm),List.Pairwise.nil⟩ (by rw[size_push];exact aam _);rw[size_push]at ok;rw[show ({ s with heap:=s.heap.push { cls:=.type "dict",data:=.dict #[] } }:Shared).heap.objs.size=s.heap.objs.size+1 from size_push ..,fH];have:=hq _ ((Heap.Ns.new s.heap (.type "dict")).keeps (pushCells_keeps scope.names _)) (λb o e=>pushCells_keeps _ _ b o (aad _ e)) ok;simp only[List.forIn_nil];exact aaa (aah (aah this))
theorem uM(h:scope.names.lookup x=some .free) :
  (relabel scope env).names.lookup x=some .cell\/(relabel scope env).names.lookup x=some .free:=by
 unfold relabel;simp only;generalize scope.names=ns at h
 induction ns with
 |nil=>simp at h
 |cons p r ih=>
  obtain⟨n,k⟩:=p;simp only[map_cons];cases hx:x==n with
  |true=>
   simp only[lookup_cons,hx]at h;have hk:=aaA h;subst hk
   by_cases hk:(NameKind.free==NameKind.free&&env.scope.kind==.function&&env.kindOf n==some .cell)=true
   ·rw[aae hk];simp[lookup_cons,hx]
   ·rw[aac hk];simp[lookup_cons,hx]
  |false=>
   simp only[lookup_cons,hx]at h
   by_cases hk:(k==NameKind.free&&env.scope.kind==.function&&env.kindOf n==some .cell)=true
   ·rw[aae hk];simp only[lookup_cons,hx];exact ih h
   ·rw[aac hk];simp only[lookup_cons,hx];exact ih h
section
variable {X:Cx} {pins:List (Addr×Obj)} {σ:St} {scope:Scope} {N':List Str} {js:List (Option Nat)}
theorem qg(ok:uL X scope N' js)(xo:X.Ok):∀y∈scope.names,y.2=.free->∃c,X.env.cells.lookup y.1=some c:=λy hy e=>by
 have:=(ok.free y hy e).1;unfold uK at this;rw[or_eq_true]at this;refine xo.has y.1 ?_
 rcases this with z|z
 ·exact .inl (eq_of_beq z)
 ·exact .inr (eq_of_beq z)
theorem yY{tk:Nat}(ok:uL X scope N' js)(I:Inv X pins σ H s)
  (nC:∀x c,cl.lookup x=some c->(X.env.cells.lookup x=some c/\scope.names.lookup x≠some .cell)\/(s.heap.objs.size<c/\h'.IsCell c none/\scope.names.lookup x=some .cell)) (hap:∀x y c,cl.lookup x=some c->cl.lookup y=some c->s.heap.objs.size<c->x=y) (hcl2:∀x,(x,NameKind.free)∈scope.names\/(x,NameKind.cell)∈scope.names->∃c,cl.lookup x=some c)
  (hfp:∀b∈fp,oZ X pins H b) (hlt:∀b∈fp,b<s.heap.objs.size)
  (hns:h'.Ns s.heap.objs.size (λ_=>none)) (hk:∀b o,s.heap.get? b=some o->h'.get? b=some o) :
  Inv (bT X scope N' cl s.heap.objs.size s H fp) [] (iX js σ) H { s with heap:=h',toks:=tk }:=by
 have hCf:H s.heap.objs.size=none:=I.hok.fresh (aam _);refine⟨⟨I.ok.mod,ok.kind,I.ok.glob,I.ok.blt,aam _,λx y c e1 e2=>?_,λx hx=>hcl2 x (sd hx),λx c hf e=>?_,I.ok.hd,I.ok.frames,.inl rfl,
   λb hb=>⟨aav (hlt b hb),λx c e z=>?_⟩,I.bs,aaE I.ok.Ii I.sz,λb o e hb=>?_,λb hb hs=>?_,I.stack,I.lX⟩,rfl,I.bare,Un.kept hk,⟨_,hns,λi x v e1 e2 e3=>?_⟩,λx c e=>?_,hCf,λx c e=>?_,
   λp hp=>absurd (show p∈([]:List (Addr×Obj)) from hp) (by simp),I.hok.kept hk,?_⟩
 ·rcases nC x c e1 with z|z
  ·rcases nC y c e2 with w|w
   ·exact I.ok.inj x y c z.1 w.1
   ·obtain⟨v,q⟩:=I.cell x c z.1;exact absurd (lt_trans q.lt w.1) (aaZ _)
  ·exact hap x y c e1 e2 z.1
 ·rcases nC x c e with z|z
  ·exact absurd (eq_of_beq hf) z.2
  ·exact le_of_lt z.1
 ·rcases nC x c e with w|w
  ·exact(hfp b hb).2.2.2.2.1 x c w.1 z
  ·have:=hlt b hb;rw[<-z]at this;exact absurd (lt_trans this w.1) (aaZ _)
 ·rcases(hfp b hb).2.2.2.1 with z|z
  ·exact I.ok.B3 b o e z
  ·exact absurd (aas (aan (I.ok.bs b o e).1) z) (aaZ _)
 ·rcases aao.mp (I.yH b hs) with z|z
  ·exact(hfp b hb).2.1 z
  ·exact(hfp b hb).2.2.1 z
 ·-- a name YU has a value: one of the def around
  have HX:(iX js σ)[i]?=some (some v):=e2;unfold iX at HX;rw[aaI] at HX;cases hj:js[i]? with
  |none=>rw[hj] at HX;cases HX
  |some o=>
   rw[hj] at HX;cases o with
   |none=>simp at HX
   |some j=>
    obtain⟨hN,hf⟩:=ok.src i x j e1 hj;cases hs:σ[j]? with
    |none=>simp[hs] at HX
    |some ov=>
     cases ov with
     |none=>simp[hs] at HX
     |some v'=>
      simp[hs] at HX;subst HX;have hfr:=(ok.free (x,.free) (PySem.mem_of_lookup hf) rfl).1;unfold uK at hfr;rw[or_eq_true]at hfr;have RT:X.env.scope.names.lookup x=some .cell\/X.env.scope.names.lookup x=some .free:=hfr.imp eq_of_beq eq_of_beq;obtain⟨m,_,hl⟩:=I.loc;obtain⟨u,r,l⟩:=hl j x v' hN hs (.inr RT);refine⟨u,r,.inr ⟨uM hf,?_⟩⟩
      rcases l with ⟨k,_⟩|⟨_,c,e,z⟩
      ·have k':X.env.scope.names.lookup x=some .local:=k
       rcases RT with q|q<;>(rw[q]at k';cases k')
      ·obtain⟨d,hd⟩:=hcl2 x (.inl (PySem.mem_of_lookup hf))
       rcases nC x d hd with e'|e'
       ·have e':=e'.1;rw[e]at e';cases e';obtain⟨oc,hoc,DI⟩:=z;exact⟨c,hd,oc,hk _ _ hoc,DI⟩
       ·rw[hf]at e';cases e'.2.2
 ·rcases nC x c e with z|z
  ·obtain⟨v,oc,hoc,DI⟩:=I.cell x c z.1;exact⟨v,oc,hk _ _ hoc,DI⟩
  ·exact⟨_,z.2.1⟩
 ·rcases nC x c e with z|z
  ·exact I.gy x c z.1
  ·exact I.hok.fresh (le_of_lt z.1)
 ·rw[lq];exact ok.len
theorem Cq(I:Inv X pins σ H s)(hfp:∀b∈fp,oZ X pins H b)
  (J:Inv (bT X scope N' cl C s H fp) [] σ' H' s'):Inv X pins σ H' s' :=
 I.Lz (ch:=fp) J.os J.base J.hok J.bare λb hb=>⟨(hfp b hb).2.2.2.1,(hfp b hb).2.1,(hfp b hb).2.2.2.2.1,(hfp b hb).2.2.2.2.2⟩
end
section
variable {X:Cx} {scope:Scope} {N':List Str} {js:List (Option Nat)} {tg elt iter:Expr} {ifs:List Expr} {pos:Pos} {wi:TI} {g:TG} {tt:TT} {te:TE}
theorem v5{pins:List (Addr×Obj)}{σ:St}{H2:Hp}{s2:Shared}{it:Addr}{fp:List Addr}{tn:Nat->Heap->Prop}{J:It}{cl:List (Str×Addr)}{E:Value->Shared->Prop}{RR:Value->Addr->Result->Shared->Prop}{Q:VK}
  (ok:uL X scope N' js) (hc:X.calm=true) (I2:Inv X pins σ H2 s2) (T:Turn X.prog X.w X.K tg J fp it tn) (st2:tn 0 s2.heap) (f2:∀b∈fp,oZ X pins H2 b)
  (nC:∀x c,cl.lookup x=some c->X.env.cells.lookup x=some c) (hcl2:∀x,(x,NameKind.free)∈scope.names->∃c,cl.lookup x=some c)
  (hg:∀cl C s H fp,PG (bT X scope N' cl C s H fp) tg g) (ht:∀cl C s H fp,IW (bT X scope N' cl C s H fp) ifs tt) (he:∀cl C s H fp,PE (bT X scope N' cl C s H fp) elt te)
  (rd:∀D,H2 D=none->∃W:Nat->Nat->St->Hp->Prop,(∃m,W 0 m (iX js σ) (upd H2 D (.lst []))) /\
   ∀i m σ' H,W i m σ' H->(J.stop i H/\Q (.ref D) H)\/(J.go i H/\∃N:St->Hp->Prop,(∀DE H',N DE H'->∃m',m'<m/\W (i+1) m' DE H') /\
    ∀x H',J.yJ i H x H'->g x σ' H' λσ2 H2=>tt σ2 H2 λb H3=>if b=true then te σ2 H3 λy H4=>∃ys,H4 D=some (.lst ys)/\ys.length<sizeLine/\N σ2 (upd H4 D (.lst (ys++[y]))) else N σ2 H3))
  (hRR:∀(D C:Addr) (s':Shared) (H':Hp) (m:Str->Option Value),s2.heap.objs.size<=C->Inv X pins σ H' s'->H' C=none->s'.heap.Ns C m->Q (.ref D) H'->RR (.ref D) C (.ok .next) s') :
  wpAny (model X.prog X.w) X.A (newList []) (λacc s₃=>wpAny (model X.prog X.w) X.A (newFunctionEnv scope X.env.globals cl [] X.env.qual none .none (some X.env)) (λcenv s₄=>
   codeAny (model X.prog X.w) X.A (.compStart (.ListComp elt [⟨tg,iter,ifs,0⟩] scope pos) 0 (.ref it) acc { cenv with scope:=relabel scope X.env }) (RR acc cenv.locals) s₄) E s₃) E s2:=by
 have hD:H2 s2.heap.objs.size=none:=I2.hok.fresh (aam _);refine aaV (vZ λh₁ RU W9 IZ=>?_);dsimp only at RU W9 IZ |-;have I3:Inv X pins σ (upd H2 s2.heap.objs.size (.lst [])) { s2 with heap:=s2.heap.push { cls:=.type "list",dict:=none,data:=.seq ([]:List Value).toArray },toks:=s2.toks } :=
  I2.laid (t':=s2.toks) (λb u e=>aad _ e) (aam _) ⟨by simp,[],0,.nil,aaw _ rfl⟩
 generalize RW:({ s2 with heap:=s2.heap.push { cls:=.type "list",dict:=none,data:=.seq ([]:List Value).toArray },toks:=s2.toks }:Shared)=s3 at I3;have hsz:s3.heap.objs.size=s2.heap.objs.size+1:=by rw[<-RW];exact size_push ..
 have eC:(s2.heap.push { cls:=.type "list",dict:=none,data:=.seq ([]:List Value).toArray }).objs.size=s3.heap.objs.size:=by rw[<-RW]
 have f3:∀b∈fp,oZ X pins (upd H2 s2.heap.objs.size (.lst [])) b:=λb hb=>by
  obtain⟨o,e,_⟩:=T.obj _ _ st2 b hb;refine⟨?_,(f2 b hb).2⟩;rw[ao (aav (aan e))];exact(f2 b hb).1
 have hlt:∀b∈fp,b<s3.heap.objs.size:=λb hb=>by
  obtain⟨o,e,_⟩:=T.obj _ _ st2 b hb;have hb2:b<s2.heap.objs.size:=aan e;rw[hsz];exact lt_succ_of_lt hb2
 have keep:∀b o,s3.heap.get? b=some o->h₁.get? b=some o:=λb o e=>by
  have e':(s2.heap.push { cls:=.type "list",dict:=none,data:=.seq ([]:List Value).toArray }).get? b=some o:=by rw[<-RW]at e;exact e
  exact W9 b o e'
 rw[eC] at IZ |-;obtain⟨cc,hcc⟩:∃cc,cc=cellsFrom (s3.heap.objs.size+1) scope.names []++cl:=⟨_,rfl⟩;rw[<-hcc];have lk:∀x c,cc.lookup x=some c->(X.env.cells.lookup x=some c/\scope.names.lookup x≠some .cell)\/(s3.heap.objs.size<c/\h₁.IsCell c none/\scope.names.lookup x=some .cell/\(x,c)∈cellsFrom (s3.heap.objs.size+1) scope.names []):=λx c e=>by
  rw[hcc,List.lookup_append]at e;cases ho:(cellsFrom (s3.heap.objs.size+1) scope.names []).lookup x with
  |some c'=>
   rw[ho]at e;have e:c'=c:=aaA e;subst e;have hm:=PySem.mem_of_lookup ho;obtain⟨z1,z2⟩:=IZ.empty x c' hm;refine .inr ⟨z2,z1,?_,hm⟩
   rcases gD _ _ _ x c' hm with z|z
   ·cases z
   ·exact ok.cells _ z rfl
  |none=>rw[ho]at e;refine .inl ⟨nC x c e,λz=>?_⟩;have:=cellsFrom_some scope.names (s3.heap.objs.size+1) [] (.inl z);rw[ho]at this;cases this
 have I4:=yY (tk:=s2.toks) ok I3 (λx c e=>(lk x c e).imp id λz=>⟨z.1,z.2.1,z.2.2.1⟩) (λx y c e1 e2 hlt'=>by
  have own:∀x,cc.lookup x=some c->(x,c)∈cellsFrom (s3.heap.objs.size+1) scope.names []:=λx e=>by
   rcases lk x c e with z|z
   ·obtain⟨v,q⟩:=I3.cell x c z.1;exact absurd (lt_trans q.lt hlt') (aaZ _)
   ·exact z.2.2.2
  exact PySem.name_of_addr IZ.apart (own x e1) (own y e2)) (λx hx=>by
  rw[hcc,List.lookup_append];cases ho:(cellsFrom (s3.heap.objs.size+1) scope.names []).lookup x with
  |some c'=>exact⟨c',rfl⟩
  |none=>
   rcases hx with hx|hx
   ·exact hcl2 x hx
   ·have:=cellsFrom_some scope.names (s3.heap.objs.size+1) [] (.inl (ok.cells _ hx rfl));rw[ho]at this;cases this) f3 hlt (h':=h₁) (by rw[<-eC];exact RU) keep
 have Xa:tn 0 h₁:=T.keep _ _ _ st2 λb hb o e=>keep b o (by rw[<-RW];exact aad _ e);obtain⟨W,⟨m0,w0⟩,turn⟩:=rd _ hD;have stat:∀{H':Hp},(∀b∈fp,H' b=none)->∀b∈fp,oZ (bT X scope N' cc s3.heap.objs.size s3 (upd H2 s2.heap.objs.size (.lst [])) fp) [] H' b:=λ{H'} hn b hb=>
  ⟨hn b hb,aav (hlt b hb),I4.ok.B4 b hb,.inl hb,(I4.ok.UI b hb).2,λp hp=>absurd (show p∈([]:List (Addr×Obj)) from hp) (by simp)⟩
 have YV:∀tk,({ s2 with heap:=h₁,toks:=tk }:Shared)={ s3 with heap:=h₁,toks:=tk }:=λtk=>by rw[<-RW]
 have loop:codeAny (model X.prog X.w) X.A (.compLoop (.ListComp elt [⟨tg,iter,ifs,0⟩] scope pos) 0 (.ref it) (.ref s2.heap.objs.size) (compEnvC scope cc s3.heap.objs.size X.env)) (RR (.ref s2.heap.objs.size) s3.heap.objs.size)
   { s3 with heap:=h₁,toks:=s2.toks }:=by
  refine codeAny_loop rfl (λn s'=>∃i σ' H',Inv (bT X scope N' cc s3.heap.objs.size s3 (upd H2 s2.heap.objs.size (.lst [])) fp) [] σ' H' s'/\tn i s'.heap/\(∀b∈fp,H' b=none)/\W i n σ' H') ?_ m0 ⟨0,_,_,I4,Xa,λb hb=>(f3 b hb).1,w0⟩;rintro n s5 ⟨i,σ5,H5,I5,QS,UM,w5⟩;show wpAny _ X.A ((compTurn (.ListComp elt [⟨tg,iter,ifs,0⟩] scope pos) 0 (.ref it) (.ref s2.heap.objs.size) (compEnvC scope cc s3.heap.objs.size X.env)).onRaise (λx=>do noteFrame x (compEnvC scope cc s3.heap.objs.size X.env);theTreesLotGoes x)) _ _ s5;refine wpAny_noted ?_;rw[compTurn_list];refine aaa (wpAny_standAt (aaa ?_))
  rcases turn i n σ5 H5 w5 with ⟨stop,qn⟩|⟨go,N,hN,step⟩
  ·refine aaK (T.done (bT X scope N' cc s3.heap.objs.size s3 (upd H2 s2.heap.objs.size (.lst [])) fp) rfl rfl rfl hc i [] s5 σ5 H5 (λ_ _=>False) I5 (stat UM) QS stop) (λr s6 ⟨hr,I6⟩=>?_) λ_ _ z=>z.elim;subst hr;refine aah ?_;obtain⟨m,hm,_⟩:=id I6.loc;exact hRR _ _ s6 H5 m (by rw[hsz];exact le_succ _) (Cq I3 f3 I6) I6.free hm qn
  ·refine aaK (T.item (bT X scope N' cc s3.heap.objs.size s3 (upd H2 s2.heap.objs.size (.lst [])) fp) rfl rfl rfl hc i [] s5 σ5 H5 (λ_ _=>False) I5 (stat UM) QS go) (λr s6 ⟨u,hr,h6⟩=>?_) λ_ _ z=>z.elim
   subst hr;refine aaa (aaK h6 (λ_ s7 ⟨x,H7,I7,r7,y7,VD,YW⟩=>?_) λ_ _ z=>z.elim);have YX:=I7.pinned (stat YW) (T.obj _ _ VD);refine aaa (aaK (hg _ _ _ _ _ _ s7 σ5 H7 x u _ YX r7 (step x H7 y7)) (λ_ s8 ⟨σ8,H8,I8,q8⟩=>?_) λ_ _ z=>z.elim);refine aaa (aaK (ht _ _ _ _ _ _ s8 σ8 H8 _ I8 q8) (λb s9 ⟨H9,I9,q9⟩=>?_) λ_ _ z=>z.elim);have D8:∀{sA:Shared} {σA:St} {HA:Hp},Inv (bT X scope N' cc s3.heap.objs.size s3 (upd H2 s2.heap.objs.size (.lst [])) fp) ([]++pZ fp s7.heap) σA HA sA->N σA HA ->
     ∃m,m<n/\∃i σ' H',Inv (bT X scope N' cc s3.heap.objs.size s3 (upd H2 s2.heap.objs.size (.lst [])) fp) [] σ' H' sA/\tn i sA.heap/\(∀b∈fp,H' b=none)/\W i m σ' H':=λ{sA σA HA} IA nA=>by
    obtain⟨m',hm,wA⟩:=hN σA HA nA;refine⟨m',hm,i+1,σA,HA,IA.l6,T.keep _ _ _ VD λb hb o e=>(IA.pin (b,o) (aaG _ (aaG _ (iV hb e)))).1,λb hb=>?_,wA⟩;obtain⟨o,e,d⟩:=T.obj _ _ VD b hb;exact(IA.pin (b,o) (aaG _ (aaG _ (iV hb e)))).2.1
   cases b with
   |false=>exact aah ⟨rfl,D8 I9 (by simpa using q9)⟩
   |true=>rw[aae rfl]at q9;refine aaa (aaa (aaK (he _ _ _ _ _ _ s9 σ8 H9 _ I9 q9) (λv sB ⟨y,HB,IB,rB,ys,hys,hlen,nB⟩=>?_) λ_ _ z=>z.elim));refine aaa (aaK (sX (X:=bT X scope N' cc s3.heap.objs.size s3 (upd H2 s2.heap.objs.size (.lst [])) fp) _ sB σ8 HB (.ref s2.heap.objs.size) [y] _ [v] (λ_ HC=>HC=upd HB s2.heap.objs.size (.lst (ys++[y]))) IB rfl #[rB] ⟨_,ys,y,rfl,rfl,hys,hlen,rfl⟩) (λv' sC ⟨_,HC,IC,_,YY⟩=>?_) λ_ _ z=>z.elim);subst YY;exact aah (aah ⟨rfl,D8 IC nB⟩)
 rw[YV];have VE:({ newEnv scope s3.heap.objs.size X.env.globals cc X.env.qual none Value.none (some X.env) builtinsNs with scope:=relabel scope X.env }:Env)=compEnvC scope cc s3.heap.objs.size X.env:=by rfl
 have VF:(newEnv scope s3.heap.objs.size X.env.globals cc X.env.qual none Value.none (some X.env) builtinsNs).locals=s3.heap.objs.size:=by rfl
 rw[VE,VF];exact codeAny_compStart_list loop (T.self _ _ _ _ _ Xa loop)
theorem I0(hok:kD X.N X.env.scope scope N' js=true)(hc:X.calm=true)(hi:PI X tg iter wi)(hg:∀cl C s H fp,PG (bT X scope N' cl C s H fp) tg g)
  (ht:∀cl C s H fp,IW (bT X scope N' cl C s H fp) ifs tt) (he:∀cl C s H fp,PE (bT X scope N' cl C s H fp) elt te)
  (hs:∀x,foldedSetIterable iter X.env x=pure x):PE X (.ListComp elt [⟨tg,iter,ifs,0⟩] scope pos) (D7 wi js g tt te):=by
 intro pins s σ H Q I h;have ok:=tu hok;obtain⟨cl,VG,nC,hcl2⟩:=qf (qg ok I.ok);rw[eval_ListComp];refine wpAny_comprehension_free (use:=none) rfl hs VG ok.kind ok.names (cX (hi pins s σ H _ I h) λxv s1 h1=>cX h1 λitv s2 h2=>?_);obtain⟨it,fp,tn,J,H2,rfl,I2,T,st2,f2,rd⟩:=h2;refine v5 (RR:=λacc C=>compPost (model X.prog X.w) X.A X.xe none (EP X pins σ Q) acc C) ok hc I2 T st2 f2 nC hcl2 hg ht he rd ?_;intro D C s' H' m hC J' fC hm q;refine⟨m,hm,λh' hs'=>⟨.ref D,H',?_,rfl,q⟩⟩;refine J'.turned (t':=s'.toks) (λb o hb e=>hs'.extBut b o hb e) fC (ne_of_gt (aas I2.lt hC)) (.inr (aaE I2.sz hC)) (λx c e z=>?_) λp hp z=>?_
 ·obtain⟨v,q'⟩:=I2.cell x c e;exact absurd (aas q'.lt (by rw[z];exact hC)) (aaZ _)
 ·exact absurd (aas (aan (I2.pin p hp).1) (by rw[z];exact hC)) (aaZ _)
theorem Ja{i:Nat}(hN:X.N.Nodup)(hx:X.N[i]?=some x)(hl:Loc X.env.scope x)(hok:kD X.N X.env.scope scope N' js=true)(hc:X.calm=true)(hi:PI X tg iter wi)(hg:∀cl C s H fp,PG (bT X scope N' cl C s H fp) tg g)
  (ht:∀cl C s H fp,IW (bT X scope N' cl C s H fp) ifs tt) (he:∀cl C s H fp,PE (bT X scope N' cl C s H fp) elt te)
  (hsw:swapsWith (.ListComp elt [⟨tg,iter,ifs,0⟩] scope pos) (some (.Name x pos')) spos.line X.env=pure true)
  (hf:X.fn x=true\/X.env.scope.names.lookup x=some .local)
  (hs:∀x,foldedSetIterable iter X.env x=pure x):PS X (.Assign [.Name x pos'] (.ListComp elt [⟨tg,iter,ifs,0⟩] scope pos) spos) (Iq (D7 wi js g tt te) (sO i)):=by
 intro pins s σ H D I h;have ok:=tu hok;obtain⟨cl,VG,nC,hcl2⟩:=qf (qg ok I.ok);rw[exec_Assign_Name_used _ _ _ _ hsw];refine aaa (wpAny_standAt (aaa ?_));show wpAny _ X.A (do let _ <-comprehension (.ListComp elt [⟨tg,iter,ifs,0⟩] scope pos) scope X.env _ (newList []) false (eval iter X.env) (some (assign (.Name x pos') X.env))) _ _ s;refine aaa (aaK (wpAny_comprehension_free (use:=some (assign (.Name x pos') X.env)) (Q:=λ_ s'=>SP X pins D .next s') rfl hs VG ok.kind ok.names
  (cX (hi pins s σ H _ I h) λxv s1 h1=>cX h1 λitv s2 h2=>?_)) (λ_ s' hq=>aah (aah hq)) λ_ _ e=>e)
 obtain⟨it,fp,tn,J,H2,rfl,I2,T,st2,f2,rd⟩:=h2;refine v5 (RR:=λacc C=>compPost (model X.prog X.w) X.A X.xe (some (assign (.Name x pos') X.env)) (λ_ s'=>SP X pins D .next s') acc C) (Q:=λx H1=>sO i x σ H1 D.nx) ok hc I2 T st2 f2 nC hcl2 hg ht he rd ?_;intro E C s' H' m hC J' fC hm q;have Xb:C≠X.env.locals:=ne_of_gt (aas I2.lt hC);have hCc:∀x c,X.env.cells.lookup x=some c->c≠C:=λx c e z=>by
  obtain⟨v,q'⟩:=I2.cell x c e;exact absurd (aas q'.lt (by rw[z];exact hC)) (aaZ _)
 refine cX (show wpAny _ X.A (assign (.Name x pos') X.env (.ref E)) (λ_ s''=>(∃DE Nt,Inv X pins DE Nt s''/\D.nx DE Nt/\Nt C=none)/\∃m,s''.heap.Ns C m) X.xe s' from ?_) λ_ s'' ⟨⟨DE,Nt,VH,YZ,VI⟩,Y0,Nu⟩=>?_
 ·refine wpAny_assign_Name (sN J' hN hx hl (show RelV (.ref E) (.ref E) from rfl) (λs'' VH ⟨a,Y3,ha⟩=>⟨⟨_,H',VH,q,fC⟩,m,?_⟩) hf)
  refine hm.sameBut Y3 ?_
  rcases ha with z|z
  ·rw[z];exact Xb
  ·exact λw=>hCc _ _ z w.symm
 ·refine⟨Y0,Nu,λh' hs'=>⟨DE,Nt,?_,YZ⟩⟩;refine VH.turned (t':=s''.toks) (λb o hb e=>hs'.extBut b o hb e) VI Xb (.inr (aaE I2.sz hC)) hCc λp hp z=>?_;exact absurd (aas (aan (I2.pin p hp).1) (by rw[z];exact hC)) (aaZ _)
end
theorem Inv.As{X:Cx}{pins:List (Addr×Obj)}{σ:St}{H:Hp}{s:Shared}{h':Heap}{t':Nat}{ch:List Addr}(I:Inv X pins σ H s)(hf:∀b∈ch,oZ X pins H b)
  (k:∀b o,b∉ch->s.heap.get? b=some o->h'.get? b=some o):Inv X pins σ H { s with heap:=h',toks:=t' }:=by
 have Ra:∀b u,H b=some u->b∉ch:=λb u e z=>by rw[(hf b z).1]at e;cases e
 refine I.step (g':=s.gens) (d':=s.drawn) (ch:=ch) (λb hb=>?_) (λb o _ _ hc e _=>k b o hc e) (λb o _ _ hc e _=>⟨o.slots,k b o hc e⟩) (λ_ _ _ _ n=>n)
  (λb o hc e=>⟨o,k b o hc e⟩) (λ_ _ e=>e) (λ_ _ _ e=>e) (λb ps e=>⟨#[],by rw[e];simp⟩) (λm hm=>?_) (λb u e=>?_) I.bare
 ·exact⟨(hf b hb).2.2.2.1,(hf b hb).2.1,(hf b hb).2.2.2.2.1,(hf b hb).2.2.2.2.2⟩
 ·obtain⟨o,es,ep,ho,r⟩:=hm;exact⟨o,es,ep,k _ o (λz=>(hf _ z).2.1 rfl) ho,r⟩
 ·refine(I.hok b u e).stay (λc v hc q=>k c v ?_ q) (λ_ q=>q) λ_ _ q=>q
  rcases hc with z|z
  ·rw[z];exact Ra b u e
  ·exact Ra c _ z
def RX(K:Frag)(a:Addr):It :=
 ⟨λi H=>∃xs x,gU K H a xs/\xs[i]?=some x,λi H x H'=>∃p v,H p=none/\x=.ref p/\H'=upd H p (.tup [.int i,v])/\∀xs,gU K H a xs->xs[i]?=some v,λi H=>∃xs,gU K H a xs/\xs.length<=i⟩
theorem Cr{P:Program}{w:World}{K:Frag}{es:List Expr}{k:Nat}{pos:Pos}(a e it:Addr)(hne:e≠it) :
  Turn P w K (.Tuple es k pos) (RX K a) [e,it] e (λi h=>(∃old,IsEnum h e it i old)/\h.IsListIter it a i) where
 mem:=by simp
 obj:=λi h st b hb=>by
  obtain⟨⟨old,he⟩,⟨o,e2,c,d⟩⟩:=st
  rcases aao.mp hb with z|z
  ·subst z;exact⟨_,he,λv z=>nomatch z⟩
  ·rw[aaq.mp z];exact⟨o,e2,λv z=>by rw[d]at z;cases z⟩
 keep:=λi h h' st k=>⟨let ⟨old,he⟩:=st.1;⟨old,k e (by simp) _ he⟩,st.2.at λo e=>k it (by simp) o e⟩
 item:=by
  intro X hP hw hK hc i pins s σ H E I hf st hg;subst hP hw hK;obtain⟨xs,x,hq,hx⟩:=hg;obtain⟨its,rv,p,hz⟩:=I.list hq;obtain⟨u,hu,ru⟩:=rv.get hx;obtain⟨⟨old,he⟩,hit⟩:=st;have hei:e<s.heap.objs.size:=aan he;have Y4:it<s.heap.objs.size:=by obtain⟨_,y,_⟩:=hit;exact aan y
  refine wpAny_pyNext_enum_item he hit p.isList (x:=u) (by simpa using hu) hne λh' ho VJ hT hsz hk=>?_;refine⟨_,rfl,?_⟩;refine wpAny_letOwnedTupleGo_enum ho λh2 Y5 hs2=>?_;have hT2:h2.get? s.heap.objs.size=some { cls:=.type "tuple",data:=.seq [.int i s.toks,u].toArray }:=hs2.extBut _ _ (ne_of_gt hei) hT;have I1:Inv X pins σ H { s with heap:=h2,toks:=s.toks+1 }:=I.As (ch:=[e,it]) hf λb o hb q=>by
   have h1:b≠e:=λz=>hb (by simp[z]);have h2:b≠it:=λz=>hb (by simp[z]);exact hs2.extBut b o h1 (hk b o h1 h2 q)
  have hn:H s.heap.objs.size=none:=I.hok.fresh (aam _);have I2:Inv X pins σ (upd H s.heap.objs.size (.tup [.int i,x])) { s with heap:=h2,toks:=s.toks+1 }:=by
   have un:Un X.fs [] H (upd H s.heap.objs.size (.tup [.int i,x])) s.heap s.heap:=Un.laid (λb u q=>q) (aam _) hn;refine⟨I1.ok,I1.os,I1.bare,?_,I1.loc,I1.cell,?_,λy c q=>?_,λp hp=>?_,λb o q=>?_,I1.len⟩
   ·refine⟨I1.base.keep,I1.base.slot,λb o q n hx=>?_,I1.base.there,λb ys q=>?_,λb o ys q=>?_,λb ps q=>?_⟩
    ·have hlt:b<s.heap.objs.size:=aas (aan q) I.sz;rw[ao (aav hlt)];exact I1.base.free b o q n hx
    ·rw[ao (aF (I1.base.tups b ys q) hn)];exact I1.base.tups b ys q
    ·rw[ao (aF (I1.base.frzs b o ys q) hn)];exact I1.base.frzs b o ys q
    ·obtain⟨more,z⟩:=I1.base.lW b ps q;exact⟨more,by rw[ao (aF z hn)];exact z⟩
   ·rw[ao (aav I.lt)];exact I1.free
   ·obtain⟨v,z⟩:=I.cell y c q;rw[ao (aav z.lt)];exact I1.gy y c q
   ·obtain⟨q1,q2,q3⟩:=I1.pin p hp;refine⟨q1,?_,q3⟩;rw[ao (aav (aan (I.pin p hp).1))];exact q2
   ·by_cases hb:b=s.heap.objs.size
    ·subst hb;rw[aD]at q;cases q;exact⟨by show 2<=sizeLine;decide,[.int i s.toks,u],.cons ⟨_,rfl⟩ #[ru],_,hT2,rfl,_,rfl⟩
    ·rw[ao hb]at q;exact(I1.hok b o q).stay (λc v _ z=>z) (λc z=>by rw[ao (aF z hn)];exact z) λc ys z=>by rw[ao (aF z hn)];exact z
  refine⟨.ref s.heap.objs.size,_,I2,rfl,⟨s.heap.objs.size,x,hn,rfl,rfl,λys hy=>by rw[I.vJ hy hq];exact hx⟩,⟨⟨_,by simpa using Y5⟩,?_⟩,λb hb=>?_⟩
  ·exact VJ.at λo y=>(hs2.2 it hne.symm).trans y
  ·have hlt:b<s.heap.objs.size:=by
    rcases aao.mp hb with z|z
    ·rw[z];exact hei
    ·rw[aaq.mp z];exact Y4
   rw[ao (aav hlt)];exact(hf b hb).1
 done:=by intro X hP hw hK hc i pins s σ H E I hf st hg;subst hP hw hK;obtain⟨xs,hq,hx⟩:=hg;obtain⟨its,rv,p,hz⟩:=I.list hq;obtain⟨⟨old,he⟩,hit⟩:=st;have hl:=rv.length;exact wpAny_pyNext_enum_end (I.ok.hd hc) he hit p.isList (by simp;omega) λh' eb=>⟨rfl,I.As (t':=s.toks) (ch:=[e,it]) hf λb o hb q=>eb b o (λz=>hb (by simp[z])) q⟩
 self:=λ_ _ _ _ _ st h=>let ⟨_,he⟩:=st.1;wpAny_pyIter_enum he h
def RY(K:Frag)(ta:TA):TI:=λσ H R=>ta σ H λvs H1=>∃a,vs=[.ref a]/\(∃xs,gU K H1 a xs)/\R (RX K a) H1
theorem Jb{k:Nat}(hg:Gl X "enumerate")(hm:X.mg "enumerate" = none)(ha:PA X [a] ta)(hs:starEach [a] X.env=[(false,eval a X.env)]) :
  PI X (.Tuple es k tpos) (.Call (.Name "enumerate" p) [a] [] pos) (RY X.K ta):=by
 intro pins s σ H R I h;refine Call_ (jG I hg hm boot_enumerate (PyProof.Rows.callWith_type1 (cX (ha pos pins s σ H _ I h) λus s1 aV=>?_) hs rfl));obtain⟨vs,H1,I1,r1,q1⟩:=aV;obtain⟨l,e,⟨xs,hq⟩,q⟩:=q1;subst e;cases r1 with
 |cons r rr=>
  cases rr;cases r;obtain⟨its,rv,pl,hz⟩:=I1.list hq;refine call_enumerate_list pl.isList λh' he hit hsz hk=>?_;have I2:Inv X pins σ H1 { s1 with heap:=h' }:=I1.kept (t':=s1.toks) hk;refine wpAny_pyIter_enum (s:={ s1 with heap:=h' }) he ?_;refine⟨_,[s1.heap.objs.size+1,s1.heap.objs.size],_,_,H1,rfl,I2,Cr l _ _ (ne_of_gt (lt_succ_self _)),⟨⟨_,by simpa using he⟩,hit⟩,λb hb=>?_,q⟩;have hb':s1.heap.objs.size<=b:=by
   rcases aao.mp hb with z|z
   ·rw[z];exact le_succ _
   ·rw[aaq.mp z];exact aam _
  exact I1.Ir hb' (I1.hok.fresh hb')
end L2
end
section
namespace L2
open PySem PySem.W PyProof.Rows
namespace uN
section
variable {O:KeyOrd} {key:Nat->O.α} {N:Nat} {cmp:Nat->Nat->(Bool->Shared->Prop)->Shared->Prop} {s:Shared}
def K(O:KeyOrd)(key:Nat->O.α)(p:Array Nat)(i:Nat):O.α:=key (p.getD i 0)
def Up(O:KeyOrd)(key:Nat->O.α)(p:Array Nat)(k:Nat):Prop:=∀i j,i<=j->j<k->O.kle (K O key p i) (K O key p j)
def Down(O:KeyOrd)(key:Nat->O.α)(p:Array Nat)(k:Nat):Prop:=∀i j,i<=j->j<k->O.kle (K O key p j) (K O key p i)
def Jc(O:KeyOrd)(key:Nat->O.α)(N:Nat)(cmp:Nat->Nat->(Bool->Shared->Prop)->Shared->Prop)(s:Shared):Prop :=
 ∀i j (C:Bool->Shared->Prop),i<N->j<N->C (O.blt (key i) (key j)) s->cmp i j C s
def Ent(N:Nat)(p:Array Nat):Prop:=p.size=N/\0<N/\∀x∈p.toList,x<N
theorem Ent.at{p:Array Nat}(h:Ent N p)(i:Nat):p.getD i 0<N:=by
 by_cases hi:i<p.size
 ·have e:p.getD i 0=p[i]:=by simp[Array.getD,hi]
  rw[e];exact h.2.2 _ (by simp)
 ·have e:p.getD i 0=0:=by simp[Array.getD,hi]
  rw[e];exact h.2.1
theorem Ent.perm{p q:Array Nat}(h:Ent N p)(e:q.Perm p):Ent N q :=
 ⟨e.size_eq.trans h.1,h.2.1,λx hx=>h.2.2 x ((Array.perm_iff_toList_perm.mp e).mem_iff.mp hx)⟩
theorem K_congr{p q:Array Nat}{i j:Nat}(h:p[i]?=q[j]?):K O key p i=K O key q j:=by
 unfold K;rw[Array.getD_eq_getD_getElem?,Array.getD_eq_getD_getElem?,h]
theorem K_bubble{p:Array Nat}{src d:Nat}(hs:src<p.size)(hd:d<=src)(k:Nat) :
  K O key (bubble p src d) k=if k=src-d then K O key p src else if src-d<k/\k<=src then K O key p (k-1) else K O key p k:=by
 have e:=getElem?_bubble hs d hd k
 by_cases h1:k=src-d
 ·rw[aae h1]at e |-;exact K_congr e
 ·rw[aac h1]at e |-
  by_cases h2:src-d<k/\k<=src
  ·rw[aae h2]at e |-;exact K_congr e
  ·rw[aac h2]at e |-;exact K_congr e
theorem D9{p:Array Nat}{i j:Nat}(hj:j<=p.size)(k:Nat):K O key (kas_rev p i j) k=if i<=k/\k<j then K O key p (i+j-1-k) else K O key p k:=by
 have e:=getElem?_mirror_all (i:=i) hj k
 by_cases h1:i<=k/\k<j
 ·rw[aae h1]at e |-;exact K_congr e
 ·rw[aac h1]at e |-;exact K_congr e
theorem qh{p:Array Nat}{i j:Nat}(hj:j<=p.size)(h:∀k,i<=k->k<j->K O key p k=K O key p (j-1))(k:Nat):K O key (kas_rev p i j) k=K O key p k:=by
 rw[D9 hj]
 split
 ·rw[h _ (by omega) (by omega),h k (by omega) (by omega)]
 ·rfl
theorem v7{p:Array Nat}{m:Nat}(h:∀t,1<=t->t<m->O.kle (K O key p (t-1)) (K O key p t)):Up O key p m:=by
 intro i j hij hj
 induction j with
 |zero=>
  have:i=0:=by omega
  subst this;exact KeyOrd.kle_refl _
 |succ j ih=>
  by_cases e:i=j+1
  ·subst e;exact KeyOrd.kle_refl _
  ·exact KeyOrd.kle_trans (ih (by omega) (by omega)) (h (j+1) (by omega) hj)
theorem Nv(hA:Jc O key N cmp s){p:Array Nat}(he:Ent N p):∀(f n:Nat) {Q:Nat->Shared->Prop},1<=n ->
  (∀m,n<=m->m<=n+f->(∀t,n<=t->t<m->O.kle (K O key p (t-1)) (K O key p t))->(m<n+f->O.klt (K O key p m) (K O key p (m-1)))->Q m s)->(kas_asc p f n).kasWp cmp Q s
 |0,n,Q,hn,h=>h n (aam _) (aam _) (λt h1 h2=>by omega) λq=>by omega
 | f+1,n,Q,hn,h=>by
  show cmp _ _ _ s;refine hA _ _ _ (he.at _) (he.at _) ?_;cases hb:O.blt (key (p.getD n 0)) (key (p.getD (n-1) 0)) with
  |true=>exact h n (aam _) (by omega) (λt h1 h2=>by omega) λ_=>hb
  |false=>
   show (kas_asc p f (n+1)).kasWp cmp Q s;refine Nv hA he f (n+1) (by omega) λm h1 h2 h3 h4=>h m (by omega) (by omega) (λt t1 t2=>?_) λq=>h4 (by omega)
   by_cases e:t=n
   ·subst e;exact hb
   ·exact h3 t (by omega) t2
theorem Au(hA:Jc O key N cmp s):∀(f:Nat) (p:Array Nat) (n q:Nat) {Q:Array Nat×Nat×Nat->Shared->Prop},Ent N p->1<=n->n+f<=N->q+1<=n->Down O key p n->(∀i,n-(q+1)<=i->i<n->K O key p i=K O key p (n-1)) ->
  (∀p' n' q',p'.Perm p->Ent N p'->1<=n'->n<=n'->n'<=n+f->q'+1<=n'->Down O key p' n'->(∀i,n'-(q'+1)<=i->i<n'->K O key p' i=K O key p' (n'-1))->Q (p',n',q') s)->(kas_desc f p n q).kasWp cmp Q s
 |0,p,n,q,Q,he,hn,hN,hq,hd,hl,h=>h p n q (Array.Perm.refl _) he hn (aam _) (aam _) hq hd hl
 | f+1,p,n,q,Q,he,hn,hN,hq,hd,hl,h=>by
  show cmp _ _ _ s;refine hA _ _ _ (he.at _) (he.at _) ?_;cases hb:O.blt (key (p.getD n 0)) (key (p.getD (n-1) 0)) with
  |true=>
   have hlt:O.klt (K O key p n) (K O key p (n-1)):=hb;have hd1:Down O key p (n+1):=λi j hij hj=>by
    by_cases e:j=n
    ·subst e
     by_cases e2:i=j
     ·subst e2;exact KeyOrd.kle_refl _
     ·exact KeyOrd.kle_trans (KeyOrd.kle_of_klt hlt) (hd i (j-1) (by omega) (by omega))
    ·exact hd i j hij (by omega)
   show (if q>0 then kas_desc f (kas_rev p (n-(q+1)) n) (n+1) 0 else kas_desc f p (n+1) 0).kasWp cmp Q s
   by_cases Xc:q>0
   ·rw[aae Xc]
    have ep:(kas_rev p (n-(q+1)) n).Perm p:=mirror_perm _ _ _ _;have eK:∀k,K O key (kas_rev p (n-(q+1)) n) k=K O key p k:=λk=>qh (by rw[he.1];omega) hl k;refine Au hA f _ (n+1) 0 (he.perm ep) (by omega) (by omega) (by omega) (λi j hij hj=>by rw[eK,eK];exact hd1 i j hij hj) (λi h1 h2=>?_) λp' n' q' g1 g2 g3 g4 g5 g6 g7 g8=>h p' n' q' (g1.trans ep) g2 g3 (by omega) (by omega) g6 g7 g8;have:i=n:=by omega
    subst this;rfl
   ·rw[aac Xc]
    refine Au hA f p (n+1) 0 he (by omega) (by omega) (by omega) hd1 (λi h1 h2=>?_) λp' n' q' g1 g2 g3 g4 g5 g6 g7 g8=>h p' n' q' g1 g2 g3 (by omega) (by omega) g6 g7 g8;have:i=n:=by omega
    subst this;rfl
  |false=>
   show cmp _ _ _ s;refine hA _ _ _ (he.at _) (he.at _) ?_;cases hc:O.blt (key (p.getD (n-1) 0)) (key (p.getD n 0)) with
   |true=>exact h p n q (Array.Perm.refl _) he hn (aam _) (by omega) hq hd hl
   |false=>
    have heq:K O key p n=K O key p (n-1):=O.total _ _ hb hc;show (kas_desc f p (n+1) (q+1)).kasWp cmp Q s;refine Au hA f p (n+1) (q+1) he (by omega) (by omega) (by omega) (λi j hij hj=>?_) (λi h1 h2=>?_) λp' n' q' g1 g2 g3 g4 g5 g6 g7 g8=>h p' n' q' g1 g2 g3 (by omega) (by omega) g6 g7 g8
    ·by_cases e:j=n
     ·subst e
      by_cases e2:i=j
      ·subst e2;exact KeyOrd.kle_refl _
      ·rw[heq];exact hd i (j-1) (by omega) (by omega)
     ·exact hd i j hij (by omega)
    ·show K O key p i=K O key p (n+1-1)
     rw[Nat.add_sub_cancel]
     by_cases e:i=n
     ·subst e;rfl
     ·rw[heq];exact hl i (by omega) (by omega)
theorem Ea(hA:Jc O key N cmp s){p:Array Nat}{n nrem:Nat}(he:Ent N p)(h1:1<=n)(hn:n<=nrem)(hr:nrem<=N)(hd:Down O key p n)
  (h:∀m p',p'.Perm p->Ent N p'->1<=m->m<=nrem->Up O key p' m->Q (m,p') s):(kas_tail3 n nrem p).kasWp cmp Q s:=by
 unfold kas_tail3;rw[KasT.kasWp_bind];have ep:(kas_rev p 0 n).Perm p:=mirror_perm _ _ _ _;have hz:n<=p.size:=by rw[he.1];omega
 refine Nv hA (he.perm ep) _ _ h1 λm a1 a2 a3 _=>h m _ ep (he.perm ep) (by omega) (by omega) (v7 λt t1 t2=>?_)
 by_cases e:t<n
 ·rw[D9 hz,D9 hz,aae (by omega),aae (by omega)];exact hd _ _ (by omega) (by omega)
 ·exact a3 t (by omega) t2
theorem tw(hA:Jc O key N cmp s){p:Array Nat}{n nrem:Nat}(he:Ent N p)(hn:n+1<=nrem)(hr:nrem<=N)(hd:Down O key p (n+1))
  (h:∀m p',p'.Perm p->Ent N p'->1<=m->m<=nrem->Up O key p' m->Q (m,p') s):(kas_descPart n nrem p).kasWp cmp Q s:=by
 unfold kas_descPart;rw[KasT.kasWp_bind];have RZ:∀i,n+1-(0+1)<=i->i<n+1->K O key p i=K O key p (n+1-1):=λi h1 h2=>by
  have e:i=n:=by omega
  subst e;rfl
 refine Au hA (nrem-(n+1)) p (n+1) 0 he (by omega) (by omega) (by omega) hd RZ λp' n' q' g1 g2 g3 g4 g5 g6 g7 g8=>?_;show (if q'>0 then kas_tail3 n' nrem (kas_rev p' (n'-(q'+1)) n') else kas_tail3 n' nrem p').kasWp cmp Q s
 by_cases hq:q'>0
 ·rw[aae hq];have ep:(kas_rev p' (n'-(q'+1)) n').Perm p':=mirror_perm _ _ _ _;have eK:∀k,K O key (kas_rev p' (n'-(q'+1)) n') k=K O key p' k:=λk=>qh (by rw[g2.1];omega) g8 k;exact Ea hA (g2.perm ep) g3 (by omega) hr (λi j hij hj=>by rw[eK,eK];exact g7 i j hij hj) λm p'' a1 a2 a3 a4 a5=>h m p'' ((a1.trans ep).trans g1) a2 a3 a4 a5
 ·rw[aac hq];exact Ea hA g2 g3 (by omega) hr g7 λm p'' a1 a2 a3 a4 a5=>h m p'' (a1.trans g1) a2 a3 a4 a5
theorem Nx(hA:Jc O key N cmp s){p:Array Nat}{nrem:Nat}(he:Ent N p)(h1:1<=nrem)(hr:nrem<=N)
  (h:∀m p',p'.Perm p->Ent N p'->1<=m->m<=nrem->Up O key p' m->Q (m,p') s):(kas_count nrem p).kasWp cmp Q s:=by
 unfold kas_count;rw[KasT.kasWp_bind];refine Nv hA he _ _ (aam _) λn a1 a2 a3 a4=>?_;have hup:Up O key p n:=v7 λt t1 t2=>a3 t t1 t2
 by_cases e1:(n==nrem)=true
 ·rw[aae e1];exact h n p (Array.Perm.refl _) he a1 (by omega) hup
 ·rw[aac e1]
  have e1':n≠nrem:=λz=>e1 (by simp[z]);have hlt:O.klt (K O key p n) (K O key p (n-1)):=a4 (by omega)
  by_cases e2:n>1
  ·rw[aae e2]
   show cmp _ _ _ s;refine hA _ _ _ (he.at _) (he.at _) ?_;cases hc:O.blt (key (p.getD 0 0)) (key (p.getD (n-1) 0)) with
   |true=>exact h n p (Array.Perm.refl _) he a1 (by omega) hup
   |false=>
    have hle:O.kle (K O key p (n-1)) (K O key p 0):=hc;have ep:(kas_rev p 0 n).Perm p:=mirror_perm _ _ _ _;have hall:∀k,0<=k->k<n->K O key p k=K O key p (n-1):=λk _ hk=>
     KeyOrd.kle_antisymm (hup k (n-1) (by omega) (by omega)) (KeyOrd.kle_trans hle (hup 0 k (by omega) hk))
    have eK:∀k,K O key (kas_rev p 0 n) k=K O key p k:=λk=>qh (by rw[he.1];omega) hall k;show (kas_descPart n nrem (kas_rev p 0 n)).kasWp cmp Q s;refine tw hA (he.perm ep) (by omega) hr (λi j hij hj=>?_) λm p' b1 b2 b3 b4 b5=>h m p' (b1.trans ep) b2 b3 b4 b5;rw[eK,eK]
    by_cases ej:j=n
    ·subst ej
     by_cases ei:i=j
     ·subst ei;exact KeyOrd.kle_refl _
     ·rw[hall i (by omega) (by omega)];exact KeyOrd.kle_of_klt hlt
    ·rw[hall i (by omega) (by omega),hall j (by omega) (by omega)];exact KeyOrd.kle_refl _
  ·rw[aac e2]
   have en:n=1:=by omega
   subst en;refine tw hA he (by omega) hr (λi j hij hj=>?_) λm p' b1 b2 b3 b4 b5=>h m p' b1 b2 b3 b4 b5
   by_cases ei:i=j
   ·subst ei;exact KeyOrd.kle_refl _
   ·have:i=0/\j=1:=by omega
    obtain⟨rfl,rfl⟩:=this;exact KeyOrd.kle_of_klt hlt
theorem yZ(hA:Jc O key N cmp s){p:Array Nat}{k:Nat}(he:Ent N p)(hs:Up O key p k):∀(f l r:Nat) {Q:Nat->Shared->Prop},l<=r->r<=k->r-l<=f ->
  (∀i,i<l->O.kle (K O key p i) (K O key p k))->(∀i,r<=i->i<k->O.klt (K O key p k) (K O key p i)) ->
  (∀l',l'<=k->(∀i,i<l'->O.kle (K O key p i) (K O key p k))->(∀i,l'<=i->i<k->O.klt (K O key p k) (K O key p i))->Q l' s)->(kas_place p k f l r).kasWp cmp Q s
 | 0,l,r,Q,hlr,hrk,hf,hlo,hhi,h=>by
  have:l=r:=by omega
  subst this;exact h l hrk hlo hhi
 | f+1,l,r,Q,hlr,hrk,hf,hlo,hhi,h=>by
  show (if l≥r then KasT.ret l else _).kasWp cmp Q s
  by_cases hge:l≥r
  ·rw[aae hge]
   have:l=r:=by omega
   subst this;exact h l hrk hlo hhi
  ·rw[aac hge]
   show cmp _ _ _ s;refine hA _ _ _ (he.at _) (he.at _) ?_;cases hb:O.blt (key (p.getD k 0)) (key (p.getD ((l+r)/2) 0)) with
   |true=>show (kas_place p k f l ((l+r)/2)).kasWp cmp Q s;exact yZ hA he hs f l ((l+r)/2) (by omega) (by omega) (by omega) hlo (λi h1 h2=>KeyOrd.klt_of_klt_of_kle hb (hs _ _ h1 h2)) h
   |false=>show (kas_place p k f ((l+r)/2+1) r).kasWp cmp Q s;exact yZ hA he hs f ((l+r)/2+1) r (by omega) (by omega) (by omega) (λi h1=>KeyOrd.kle_trans (hs i ((l+r)/2) (by omega) (by omega)) hb) hhi h
theorem R0(hA:Jc O key N cmp s):∀(f:Nat) (p:Array Nat) (k:Nat) {Q:Array Nat->Shared->Prop},Ent N p->k+f<=N->Up O key p k->(∀p',p'.Perm p->Up O key p' (k+f)->Q p' s)->(kas_bin f p k).kasWp cmp Q s
 |0,p,k,Q,he,hk,hs,h=>h p (Array.Perm.refl _) hs
 | f+1,p,k,Q,he,hk,hs,h=>by
  show ((kas_place p k k 0 k).bind λl=>kas_bin f (bubble p k (k-l)) (k+1)).kasWp cmp Q s;rw[KasT.kasWp_bind];refine yZ hA he hs k 0 k (by omega) (by omega) (by omega) (λi hi=>by omega) (λi h1 h2=>by omega) λl hl hlo hhi=>?_;have ep:(bubble p k (k-l)).Perm p:=bubble_perm _ _ _;have hks:k<p.size:=by rw[he.1];omega
  refine R0 hA f _ (k+1) (he.perm ep) (by omega) (λi j hij hj=>?_) λp' a1 a2=>h p' (a1.trans ep) (by rwa [show k+(f+1)=k+1+f by omega]);rw[K_bubble hks (by omega),K_bubble hks (by omega),show k-(k-l)=l by omega]
  repeat' split
  all_goals first
   |(exfalso;omega)
   |exact KeyOrd.kle_refl _
   |exact hlo _ (by omega)
   |exact KeyOrd.kle_of_klt (hhi _ (by omega) (by omega))
   |exact hs _ _ (by omega) (by omega)
theorem R1(hA:Jc O key N cmp s)(h1:1<=N)(h:∀p,p.Perm (toArray (List.range N))->Up O key p N->Q p s):(kas_sort N).kasWp cmp Q s:=by
 unfold kas_sort;rw[KasT.kasWp_bind];have he:Ent N (toArray (List.range N)):=⟨by simp,h1,λx hx=>by simpa using hx⟩;refine Nx hA he h1 (aam _) λm p a1 a2 a3 a4 a5=>?_;show (if m<N then kas_bin (N-max m 1) p (max m 1) else KasT.ret p).kasWp cmp Q s;have em:max m 1=m:=by omega
 by_cases hlt:m<N
 ·rw[aae hlt,em];exact R0 hA _ p m a2 (by omega) a5 λp' b1 b2=>h p' (b1.trans a1) (by rwa [show m+(N-m)=N by omega]at b2)
 ·rw[aac hlt]
  have:m=N:=by omega
  subst this;exact h p a1 a5
end
end uN
namespace uN
theorem gE{α:Type}(l:List α)(d:α):(List.range l.length).map (λi=>l.getD i d)=l:=by
 refine ext_getElem (by simp) λi h1 h2=>?_;simp[h2]
section
variable {prog:Program} {w:World} {A:Around} {E:Value->Shared->Prop} {s:Shared}
def tD(prog:Program)(w:World)(A:Around)(O:KeyOrd)(key:Nat->O.α)(vs:List Value)(s6:Shared):Prop :=
 wpAny (model prog w) A (keyKind' vs.toArray) (λκ s'=>s'=s6/\Jc O key vs.length (kas_ask prog w A κ vs) s6) (λ_ _=>False) s6
structure Eb (O:KeyOrd) (key:Nat->O.α) (n:Nat) (p:List Nat):Prop where
 perm:p.Perm (List.range n)
 up:(p.map key).Pairwise O.kle
theorem Jd{n:Nat}{p:Array Nat}(h1:p.Perm (toArray (List.range n)))(h2:Up O key p n):Eb O key n p.toList:=by
 have hp:p.toList.Perm (List.range n):=by simpa using Array.perm_iff_toList_perm.mp h1
 refine⟨hp,List.pairwise_iff_getElem.mpr λi j hi hj hij=>?_⟩;have hz:p.toList.length=n:=by rw[hp.length_eq,aa2]
 rw[aag]at hi hj;have q:=h2 i j (le_of_lt hij) (by omega);have ei:p.getD i 0=p.toList[i]:=by simp at hi;simp[Array.getD,hi]
 have ej:p.getD j 0=p.toList[j]:=by simp at hj;simp[Array.getD,hj]
 unfold K at q;rw[ei,ej]at q;rw[aa1,aa1];exact q
theorem Ec{n:Nat}(ho:s.heap.get? a=some (seqObj "list" vs.toArray n))(h64:vs.length<64)
  (hk:2<=vs.length->∀h6:Heap,(∀b o,b≠a->s.heap.get? b=some o->h6.get? b=some o)->tD prog w A O key vs { s with heap:=h6 })
  (h:∀p,Eb O key vs.length p->P (.done (.ret .none)) { s with heap:=sortedHeap s.heap a vs (p.map λi=>vs.getD i Value.none).toArray }) :
  wpAny (model prog w) A (Builtin.«list.sort» ⟨[.ref a],[]⟩) P E s:=by
 have alt:a<s.heap.objs.size:=aan ho;have big:vs.length<=sizeLine:=by rw[sizeLine_eq];omega
 rw[list_sort_plain];apply aaa;apply listItems_at ho rfl;apply aaa;refine listUpdate_at ho rfl ?_ (by rw[aap];exact big) (aaX _);have q1:=get?_update_seq ho (λ_=>(#[]:Array Value));apply aaa;apply seqEpoch_at q1 rfl;apply aaa;refine wpAny_newTuple ?_ (by show vs.length<=sizeLine;exact big);apply aaa;refine wpAny_newList ?_ (aaX _);apply wpAny_holding;generalize hN:((s.heap.update a (Obj.mapSeq λ_=>(#[]:Array Value))).push (seqObj "tuple" vs.toArray 0)).push (seqObj "list" #[] 0)=h6;have R3:∀b o,b≠a->s.heap.get? b=some o->h6.get? b=some o:=λb o hb e=>by
  rw[<-hN];refine aad _ (aad _ ?_);rw[get?_update_ne _ _ _ _ hb];exact e
 have q6:h6.get? a=some (seqObj "list" #[] (if (#[]:Array Value).size==vs.toArray.size then n else n+1)):=by rw[<-hN];exact aad _ (aad _ q1)
 have eS:∀out,h6.update a (Obj.mapSeq λ_=>out)=sortedHeap s.heap a vs out:=λout=>by rw[<-hN];rfl
 show wpAny (model prog w) A _ P E { s with heap:=h6 };dsimp only
 by_cases h2:vs.toArray.size<2
 ·rw[aae h2,aae h2]
  apply aaa;apply aah;rw[StateT.run_pure];apply aaa;apply aah;dsimp only;have eo:(arrOf (SortSt.mk' general' (vs.toArray.zip vs.toArray) #[] 7 none)).map (·.2)=vs.toArray:=by show (vs.toArray.zip vs.toArray).map (·.2)=vs.toArray;apply Array.toList_inj.mp;simp[List.map_snd_zip]
  rw[eo];apply aaa;apply seqEpoch_at q6 rfl;apply aaa;refine listUpdate_at q6 rfl ?_ (aaX _) (by show vs.toArray.size<=_;rw[aap];omega);have hb:((if (#[]:Array Value).size==vs.toArray.size then n else n+1) != (if (#[]:Array Value).size==vs.toArray.size then n else n+1))=false:=by simp
  rw[eS];simp only[hb,false_eq_true,if_false];apply aah;have g:=h (List.range vs.length) ⟨List.Perm.refl _,?_⟩
  ·rw[gE]at g;exact g
  ·rw[aap]at h2;refine List.pairwise_iff_getElem.mpr λi j hi hj hij=>?_;simp at hi hj;omega
 ·rw[aac h2,aac h2]
  rw[aap]at h2;have ask:=hk (by omega) h6 R3;apply aaa;refine aaK ask (λκ s0 hκ=>?_) λ_ _ x=>x.elim;obtain⟨rfl,VL⟩:=hκ;apply aaa;refine aaK (kat_run (Q:=λst' s'=>s'={ s with heap:=h6 }/\∃p:Array Nat,Eb O key vs.length p.toList/\p.size=vs.length/\(arrOf st').map (·.2)=(p.toList.map λi=>vs.getD i Value.none).toArray/\failedOf st'=none)
   (G:=λp s'=>s'={ s with heap:=h6 }/\Eb O key vs.length p.toList) rfl (by omega) h64 (λp st' s' a1 a2 a3 a4=>⟨a4.1,p,a4.2,a1,kat_snds rfl a2,a3⟩)
   (R1 VL (by omega) λp b1 b2=>⟨rfl,Jd b1 b2⟩)) ?_ λ_ _ x=>x
  rintro⟨⟨⟩,st'⟩ s' ⟨rfl,p,op,pz,er,ef⟩;dsimp only;rw[er];apply aaa;apply seqEpoch_at q6 rfl;apply aaa;refine listUpdate_at q6 rfl ?_ (aaX _) (by show (toArray _).size<=_;rw[aap,aag,aaS,pz];omega);have hb:((if (#[]:Array Value).size==vs.toArray.size then n else n+1) != (if (#[]:Array Value).size==vs.toArray.size then n else n+1))=false:=by simp
  rw[eS,ef];simp only[hb,false_eq_true,if_false];exact aah (h p.toList op)
theorem jJ
  (h:wpAny (model prog w) A.in1 (collect x) (λvs s1=>vs.length<64/\∃key:Nat->O.α,(2<=vs.length->∀h6:Heap,(∀b o,s1.heap.get? b=some o->h6.get? b=some o)->tD prog w A.in1.in1 O key vs { s1 with heap:=h6 }) /\
   ∀p h',Eb O key vs.length p->(∀b o,s1.heap.get? b=some o->h'.get? b=some o)->(∃e,h'.get? s1.heap.objs.size=some (seqObj "list" (p.map λi=>vs.getD i Value.none).toArray e))->Q (.ref s1.heap.objs.size) { s1 with heap:=h' }) E s) :
  wpAny (model prog w) A (call (.builtin "sorted") [x]) Q E s:=by
 refine Calls.call_function_entry kind_sorted plain_sorted entry_sorted (args_sorted1 _) ?_;unfold Builtin.«sorted»;refine aaa (m:=checkCount "sorted" 1 1 _) (aah ?_);apply aaa;refine aaK h (λvs s1 ⟨h64,key,hk,hq⟩=>?_) λ_ _ z=>z;have big:vs.length<=sizeLine:=by rw[sizeLine_eq];omega
 apply aaa;refine wpAny_newList ?_ big;have q:(s1.heap.push (seqObj "list" vs.toArray 0)).get? s1.heap.objs.size=some (seqObj "list" vs.toArray 0):=aaw _ rfl;apply aaa;apply wpAny_holding;refine wpAny_call_entry (s:={ s1 with heap:=s1.heap.push (seqObj "list" vs.toArray 0) }) slot_list_sort ⟨_,q,rfl⟩ entry_list_sort ?_ (args_list_sort _);refine Ec (key:=key) (s:={ s1 with heap:=s1.heap.push (seqObj "list" vs.toArray 0) }) q h64 (λh2 h6 k6=>?_) λp op=>⟨_,rfl,aah ⟨_,rfl,?_⟩⟩
 ·exact hk h2 h6 λb o e=>k6 b o (aav (aan e)) (aad _ e)
 ·refine hq p _ op (λb o e=>?_) (sortedHeap_at q);rw[sortedHeap_old (aav (aan e)) (by rw[size_push'];exact lt_succ_of_lt (aan e))];exact aad _ e
end
def za:KeyOrd where
 α:=Int
 blt:=λa b=>decide (a<b)
 irrefl:=λa=>by simp
 trans:=λa b c h1 h2=>by simp at *;omega
 negTrans:=λa b c h=>by simp at *;omega
 total:=λa b h1 h2=>by simp at *;omega
theorem zb{s6:Shared}{ns:List Int}(hI:IntsAre vs ns)(h2:2<=vs.length):tD prog w A za (λi=>ns.getD i 0) vs s6:=by
 have at_:∀i,i<vs.length->∃t,vs.getD i Value.none=.int (ns.getD i 0) t:=by
  intro i hi
  induction hI generalizing i with
  |nil=>simp at hi
  |cons z t r ih=>
   cases i with
   |zero=>exact⟨t,by simp⟩
   |succ i=>
    by_cases hr:2<=1
    ·omega
    ·simp only[length_cons]at hi
     have aux:∀{vs:List Value} {ns:List Int},IntsAre vs ns->∀i,i<vs.length->∃t,vs.getD i Value.none=.int (ns.getD i 0) t:=by
      intro vs ns q
      induction q with
      |nil=>intro i hi;simp at hi
      |cons z t r ih=>
       intro i hi;cases i with
       |zero=>exact⟨t,by simp⟩
       |succ i=>simp only[length_cons]at hi;obtain⟨u,e⟩:=ih i (by omega);exact⟨u,by simpa using e⟩
     obtain⟨u,e⟩:=aux r i (by omega);exact⟨u,by simpa using e⟩
 obtain⟨v₁,v₂,rest,rfl⟩:∃v₁ v₂ rest,vs=v₁::v₂::rest:=by
  match vs,h2 with
  |v₁::v₂::rest,_=>exact⟨v₁,v₂,rest,rfl⟩
 unfold tD;rw[keyKind_ints hI];refine aah ⟨rfl,λi j C hi hj hc=>?_⟩;obtain⟨t,e1⟩:=at_ i hi;obtain⟨u,e2⟩:=at_ j hj;unfold kas_ask;rw[e1,e2,keyLt'_oneType];exact oneLt_int hc
theorem iY:∀a,HT.lexLt a a=false
 |[]=>rfl
 |x::xs=>by rw[HT.gA,aae rfl];exact iY xs
theorem gW:∀a b,HT.lexLt a b=false->HT.lexLt b a=false->a=b
 |[],[],_,_=>rfl
 |[],_::_,h,_=>by rw[HT.gC]at h;cases h
 |_::_,[],_,h=>by rw[HT.gC]at h;cases h
 | x::xs,y::ys,h1,h2=>by
  rw[HT.gA]at h1 h2
  by_cases e:x=y
  ·subst e;rw[aae rfl]at h1 h2;rw[gW xs ys h1 h2]
  ·rw[aac e]at h1;rw[aac (λz=>e z.symm)]at h2;simp at h1 h2;omega
theorem gX:∀a b c,HT.lexLt a b=true->HT.lexLt b c=true->HT.lexLt a c=true
 |[],[],c,h,_=>by rw[HT.rZ]at h;cases h
 |[],_::_,[],_,h=>by rw[HT.dX]at h;cases h
 |[],_::_,_::_,_,_=>rfl
 |_::_,[],_,h,_=>by rw[HT.dX]at h;cases h
 |_::_,_::_,[],_,h=>by rw[HT.dX]at h;cases h
 | x::xs,y::ys,z::zs,h1,h2=>by
  rw[HT.gA]at h1 h2 |-
  by_cases e1:x=y
  ·subst e1
   rw[aae rfl]at h1
   by_cases e2:x=z
   ·subst e2;rw[aae rfl]at h2 |-;exact gX xs ys zs h1 h2
   ·rw[aac e2]at h2 |-;exact h2
  ·rw[aac e1]at h1
   by_cases e2:y=z
   ·subst e2;rw[aac e1];exact h1
   ·rw[aac e2]at h2;simp at h1 h2;rw[aac (by omega)];simp;omega
theorem tE(a b c:List Int)(h:HT.lexLt a c=true):HT.lexLt a b=true\/HT.lexLt b c=true:=by
 cases h1:HT.lexLt a b with
 |true=>exact .inl rfl
 |false=>
  cases h2:HT.lexLt b c with
  |true=>exact .inr rfl
  |false=>
   cases h3:HT.lexLt b a with
   |true=>have:=gX _ _ _ h3 h;rw[h2]at this;cases this
   |false=>rw[gW _ _ h1 h3]at h;rw[h2]at h;cases h
def lexOrd:KeyOrd where
 α:=List Int
 blt:=HT.lexLt
 irrefl:=iY
 trans:=gX
 negTrans:=tE
 total:=gW
section
variable {prog:Program} {w:World} {A:Around} {s:Shared}
theorem n9{b fin:Bool}:∀{us vs:List Value} {ns ms:List Int} (i:Nat),IntsAre us ns->IntsAre vs ms->(ns.length<ms.length↔fin=true)->us.length=ns.length ->
  Q (HT.lexLt ns ms) s->(ns.length=ms.length\/i=i)->(∀k,k<ns.length->k<ms.length->True)->(ns.length≠ms.length->True)->(fin=decide (ns.length<ms.length))->KatLex prog w A b fin Q (us.zip vs) i s
 | _,_,_,_,i,.nil,.nil,_,_,hq,_,_,_,hf=>by
  refine kat_nil ?_;rw[hf];exact hq
 | _,_,_,_,i,.nil,.cons _ _ _,_,_,hq,_,_,_,hf=>by
  refine kat_nil ?_;rw[hf];simpa [HT.gC] using hq
 | _,_,_,_,i,.cons _ _ _,.nil,_,_,hq,_,_,_,hf=>by
  refine kat_nil ?_;rw[hf];simpa [HT.dX] using hq
 | _,_,_,_,i,.cons x t r,.cons y u r',h1,h2,hq,_,_,_,hf=>by
  refine kat_cons (wpAny_eqBool_int ?_);rw[HT.gA]at hq
  by_cases e:x=y
  ·subst e
   rw[aae rfl]at hq;rw[beq_self_eq_true];refine kat_yes (n9 (i+1) r r' ?_ ?_ hq (.inr rfl) (λ_ _ _=>trivial) (λ_=>trivial) ?_)
   ·simpa using h1
   ·simpa using h2
   ·rw[hf];simp
  ·rw[aac e]at hq
   rw[show (x==y)=false from beq_eq_false_iff_ne.mpr e];refine kat_no ?_;cases hb:(b&&i==0) with
   |true=>exact oneLt_int hq
   |false=>exact kat_one _ _ (PyProof.Rows.lt_int hq)
end
end uN
end L2
end
section
namespace L2
open PySem PySem.Spec PyProof.Rows
def VM:Key->PyData
 |.inl i=>.int i
 |.inr x=>.str x
mutual
noncomputable def Den(K:Frag)(H:Hp):PyData->V->Prop
 |.none,v=>v=.non
 |.bool b,v=>v=.bl b
 |.int i,v=>v=.int i
 |.str x,v=>v=.str x
 |.list ds,v=>∃a xs,v=.ref a/\gU K H a xs/\dR K H ds xs
 |.tuple ds,v=>∃a xs,v=.ref a/\jx K H a xs/\dR K H ds xs
 |.dict kvs,v=>∃a ks,v=.ref a/\H a=some (.dK ks)/\mj K H kvs ks
noncomputable def dR(K:Frag)(H:Hp):List PyData->List V->Prop
 |[],xs=>xs=[]
 |d::ds,xs=>∃x r,xs=x::r/\Den K H d x/\dR K H ds r
noncomputable def mj(K:Frag)(H:Hp):List (PyData×PyData)->List (Key×V)->Prop
 |[],ks=>ks=[]
 |(k,d)::r,ks=>∃key x rest,ks=(key,x)::rest/\k=VM key/\Den K H d x/\mj K H r rest
end
theorem yX.tup{K:Frag}{H H':Hp}{a:Addr}{xs:List V}(e:yX H H')(h:jx K H a xs):jx K H' a xs:=by
 rcases h with (h|⟨o,h⟩)|h
 ·exact .inl (.inl (e _ _ h))
 ·exact .inl (.inr ⟨o,e _ _ h⟩)
 ·exact .inr h
section
variable {K:Frag} {H H':Hp}
mutual
theorem Den.same(e:yX H H'):∀(d:PyData) (v:V),Den K H d v->Den K H' d v
 |.none,_,h=>by rw[Den]at h |-;exact h
 |.bool _,_,h=>by rw[Den]at h |-;exact h
 |.int _,_,h=>by rw[Den]at h |-;exact h
 |.str _,_,h=>by rw[Den]at h |-;exact h
 | .list ds,v,h=>by
  rw[Den]at h |-;obtain⟨a,xs,q1,q2,q3⟩:=h;exact⟨a,xs,q1,e.seq q2,dR.same e ds xs q3⟩
 | .tuple ds,v,h=>by
  rw[Den]at h |-;obtain⟨a,xs,q1,q2,q3⟩:=h;exact⟨a,xs,q1,e.tup q2,dR.same e ds xs q3⟩
 | .dict kvs,v,h=>by
  rw[Den]at h |-;obtain⟨a,ks,q1,q2,q3⟩:=h;exact⟨a,ks,q1,e _ _ q2,mj.same e kvs ks q3⟩
theorem dR.same(e:yX H H'):∀(ds:List PyData) (xs:List V),dR K H ds xs->dR K H' ds xs
 |[],_,h=>by rw[dR]at h |-;exact h
 | d::ds,xs,h=>by
  rw[dR]at h |-;obtain⟨x,r,q1,q2,q3⟩:=h;exact⟨x,r,q1,Den.same e d x q2,dR.same e ds r q3⟩
theorem mj.same(e:yX H H'):∀(kvs:List (PyData×PyData)) (ks:List (Key×V)),mj K H kvs ks->mj K H' kvs ks
 |[],_,h=>by rw[mj]at h |-;exact h
 | (k,d)::r,ks,h=>by
  rw[mj]at h |-;obtain⟨key,x,rest,q1,q2,q3,q4⟩:=h;exact⟨key,x,rest,q1,q2,Den.same e d x q3,mj.same e r rest q4⟩
end
theorem dR.nil:dR K H [] []:=by rw[dR]
theorem dR.cons{d:PyData}{ds:List PyData}{x:V}{r:List V}(h1:Den K H d x)(h2:dR K H ds r):dR K H (d::ds) (x::r):=by rw[dR];exact⟨x,r,rfl,h1,h2⟩
theorem Den.int{i:Int}:Den K H (.int i) (.int i):=by rw[Den]
theorem Den.str:Den K H (.str x) (.str x):=by rw[Den]
theorem Den.bool{b:Bool}:Den K H (.bool b) (.bl b):=by rw[Den]
theorem Den.none:Den K H .none .non:=by rw[Den]
theorem Den.list(h:gU K H a xs)(q:dR K H ds xs):Den K H (.list ds) (.ref a):=by rw[Den];exact⟨a,xs,rfl,h,q⟩
theorem Den.tuple(h:jx K H a xs)(q:dR K H ds xs):Den K H (.tuple ds) (.ref a):=by rw[Den];exact⟨a,xs,rfl,h,q⟩
end
section
variable {X:Cx} {pins:List (Addr×Obj)} {σ:St} {H:Hp} {s:Shared}
mutual
theorem Den.reads(I:Inv X pins σ H s):∀(d:PyData) (v:V) (u:Value),d.canLay0=true->Den X.K H d v->RelV v u->∃as,Reads s.heap u d as
 |.none,v,u,_,h,r=>by rw[Den]at h;subst h;cases r;exact⟨_,.none⟩
 |.bool b,v,u,_,h,r=>by rw[Den]at h;subst h;cases r;exact⟨_,.bool b⟩
 |.int i,v,u,_,h,r=>by rw[Den]at h;subst h;obtain⟨t,rfl⟩:=r;exact⟨_,.int i t⟩
 |.str x,v,u,_,h,r=>by rw[Den]at h;subst h;obtain⟨t,rfl⟩:=r;exact⟨_,.str x t⟩
 | .list ds,v,u,c,h,r=>by
  rw[Den]at h;obtain⟨a,xs,rfl,q1,q2⟩:=h;cases r;obtain⟨its,rv,⟨o,n,e1,e2,_,e3⟩,_⟩:=I.list q1;obtain⟨as,ra⟩:=dR.reads I ds xs its (by simpa [PyData.canLay0] using c) q2 rv;exact⟨_,.list e1 e2 e3 (by simpa using ra)⟩
 | .tuple ds,v,u,c,h,r=>by
  rw[Den]at h;obtain⟨a,xs,rfl,q1,q2⟩:=h;cases r;obtain⟨its,rv,⟨o,e1,e2,n,e3⟩,_⟩:=I.tuple q1;obtain⟨as,ra⟩:=dR.reads I ds xs its (by simpa [PyData.canLay0] using c) q2 rv;exact⟨_,.tuple e1 e2 e3 (by simpa using ra)⟩
 |.dict _,_,_,c,_,_=>by simp[PyData.canLay0]at c
theorem dR.reads(I:Inv X pins σ H s):∀(ds:List PyData) (xs:List V) (us:List Value),PyData.canLayAll0 ds=true->dR X.K H ds xs->Vals xs us->∃as,ReadsAll s.heap us ds as
 |[],xs,us,_,h,r=>by rw[dR]at h;subst h;cases r;exact⟨_,.nil⟩
 | d::ds,xs,us,c,h,r=>by
  have c':d.canLay0=true/\PyData.canLayAll0 ds=true:=by simpa [PyData.canLayAll0] using c
  rw[dR]at h;obtain⟨x,rest,rfl,q1,q2⟩:=h;cases r with
  |cons r1 r2=>obtain⟨as,ra⟩:=Den.reads I d x _ c'.1 q1 r1;obtain⟨bs,rb⟩:=dR.reads I ds rest _ c'.2 q2 r2;exact⟨_,.cons ra rb⟩
end
end
section
variable {X:Cx}
def VN(K:Frag):R2:=λx y H Q=>∃d e,Den K H d x/\Den K H e y/\d.canLay0=true/\e.canLay0=true/\d.depth<=60/\Q (.bl (PyData.eqv d e)) H
def VO(K:Frag):R2:=λx y H Q=>∃d e,Den K H d x/\Den K H e y/\d.canLay0=true/\e.canLay0=true/\d.depth<=60/\Q (.bl (!PyData.eqv d e)) H
theorem Ny(hu:X.A.units+64<cLine):nh X (compareOp .Eq) (VN X.K):=by
 intro pins s σ H x y v u Q I rx ry h;obtain⟨d,e,hd,he,c1,c2,hz,q⟩:=h;obtain⟨as,ra⟩:=Den.reads I d x v c1 hd rx;obtain⟨bs,rb⟩:=Den.reads I e y u c2 he ry;exact SeqAt.compareEq_reads ra rb c1 c2 (by have:=Nat.min_le_left d.depth e.depth;omega) ⟨.bl _,H,I,rfl,q⟩
theorem Nz(hu:X.A.units+64<cLine):nh X (compareOp .NotEq) (VO X.K):=by
 intro pins s σ H x y v u Q I rx ry h;obtain⟨d,e,hd,he,c1,c2,hz,q⟩:=h;obtain⟨as,ra⟩:=Den.reads I d x v c1 hd rx;obtain⟨bs,rb⟩:=Den.reads I e y u c2 he ry;exact SeqAt.compareNe_reads ra rb c1 c2 (by have:=Nat.min_le_left d.depth e.depth;omega) ⟨.bl _,H,I,rfl,q⟩
theorem qi{ns:List Int}(I:Inv X pins σ H s)(hq:gU X.K H p (ns.map V.int))(h64:ns.length<64)
  (q:∀l,H l=none->Q (.ref l) (upd H l (.lst ((sortI ns).map V.int)))):wpAny (model X.prog X.w) X.A (call (.builtin "sorted") [.ref p]) (EP X pins σ Q) X.xe s:=by
 obtain⟨its,rv,pl,hz⟩:=I.list hq;have hi:=intsAre_of rv;have hl:=hi.length;refine sorted_ints pl.isList hi (by omega) λout ns' a1 a2 a3=>?_;obtain⟨e,he⟩:=sortedAll_at s.heap its out;have es:ns'=sortI ns:=eq_sortI a2 a3;subst es;have hn:H (s.heap.objs.size+1)=none:=I.hok.fresh (le_succ _);refine⟨.ref (s.heap.objs.size+1),_,I.laid (t':=s.toks) (λb o z=>sortedAll_old z) (le_succ _) (show bL X.prog X.w _ _ _ (.lst ((sortI ns).map V.int)) from⟨?_,out.toList,e,ku a1,by simpa using he⟩),rfl,q _ hn⟩;rw[aag,(sortI_perm ns).length_eq,sizeLine_eq];omega
theorem nD:cI X (.builtin "sorted") (λxs H Q=>∃p ns,xs=[.ref p]/\gU X.K H p (ns.map V.int)/\ns.length<64/\∀l,H l=none->Q (.ref l) (upd H l (.lst ((sortI ns).map V.int)))):=by
 intro pins s σ H xs us Q I r h;obtain⟨p,ns,rfl,hq,h64,q⟩:=h;obtain⟨u,rfl,ru⟩:=vals1 r;cases ru;exact qi I hq h64 q
def R4(K:Frag)(H:Hp)(r:Addr×List Int):Prop:=jx K H r.1 (r.2.map V.int)/\r.2≠[]
theorem zc{pins:List (Addr×Obj)}{σ:St}{H:Hp}{s:Shared}{A:Around}{rs:List (Addr×List Int)}{h6:Heap}{s6:Shared}(I:Inv X pins σ H s)(ht:∀r∈rs,R4 X.K H r)(h2:2<=rs.length)(k:∀b o,s.heap.get? b=some o->s6.heap.get? b=some o) :
  uN.tD X.prog X.w A uN.lexOrd (λi=>(rs.getD i (0,[])).2) (rs.map λr=>Value.ref r.1) s6:=by
 have tup:∀r∈rs,∃its o n,s6.heap.get? r.1=some o/\o.cls=.type "tuple" /\ o.data=.seq (toArray its) n/\IntsAre its r.2:=λr hr=>by
  obtain⟨its,rv,⟨o,e1,e2,n,e3⟩,_⟩:=I.tuple (ht r hr).1;exact⟨its,o,n,k _ _ e1,e2,e3,intsAre_of rv⟩
 have kt:∀rs:List (Addr×List Int),(∀r∈rs,∃its o n,s6.heap.get? r.1=some o/\o.cls=.type "tuple" /\ o.data=.seq (toArray its) n/\IntsAre its r.2)->(∀r∈rs,r.2≠[]) ->
   ∃fs,PySem.W.KatTups s6.heap (rs.map λr=>Value.ref r.1) fs/\fs.length=rs.length/\∀v∈fs,∃i t,v=Value.int i t:=by
  intro rs
  induction rs with
  |nil=>intro _ _;exact⟨[],PySem.W.KatTups.nil,rfl,λv hv=>nomatch hv⟩
  |cons r rs ih=>
   intro g1 g2;obtain⟨fs,q1,q2,q3⟩:=ih (λr' hr'=>g1 r' (aaf _ hr')) λr' hr'=>g2 r' (aaf _ hr');obtain⟨its,o,n,e1,e2,e3,hi⟩:=g1 r aak;have hne:=g2 r aak;cases hr:r.2 with
   |nil=>exact absurd hr hne
   |cons i is=>
    rw[hr]at hi;cases hi with
    |cons _ t hi'=>
     refine⟨.int i t::fs,PySem.W.KatTups.cons e1 e2 e3 (by simp) q1,by simp[q2],λv hv=>?_⟩
     rcases aao.mp hv with z|z
     ·exact⟨i,t,z⟩
     ·exact q3 v z
 obtain⟨fs,q1,q2,q3⟩:=kt rs tup λr hr=>(ht r hr).2;unfold uN.tD;refine PySem.W.kat_kind q1 (by omega) (T:=Value.type "int") (λv hv=>?_) rfl ⟨rfl,λi j C hi hj hc=>?_⟩
 ·obtain⟨i,t,rfl⟩:=q3 v hv;exact PySem.W.Looks.of_pure rfl
 ·rw[aag]at hi hj
  unfold PySem.W.kas_ask;have e1:(rs.map λr=>Value.ref r.1).getD i Value.none=Value.ref rs[i].1:=by simp[hi]
  have e2:(rs.map λr=>Value.ref r.1).getD j Value.none=Value.ref rs[j].1:=by simp[hj]
  have e3:rs.getD i (0,[])=rs[i]:=by simp[hi]
  have e4:rs.getD j (0,[])=rs[j]:=by simp[hj]
  rw[e1,e2];simp only[e3,e4]at hc;obtain⟨its,o,n,a1,a2,a3,a4⟩:=tup rs[i] (aaJ hi);obtain⟨its',o',n',b1,b2,b3,b4⟩:=tup rs[j] (aaJ hj);have l1:=a4.length;have l2:=b4.length;refine kat_lt a1 a3 b1 b3 (uN.n9 0 a4 b4 ?_ l1 hc (.inr rfl) (λ_ _ _=>trivial) (λ_=>trivial) ?_)
  ·rw[aap,aap,l1,l2];simp
  ·rw[aap,aap,l1,l2]
theorem Cs{rs:List (Addr×List Int)}:∀{us:List Value},Vals (rs.map λr=>V.ref r.1) us->us=rs.map λr=>Value.ref r.1:=by
 induction rs with
 |nil=>intro us r;cases r;rfl
 |cons a rs ih=>
  intro us r;cases r with
  |cons r1 r2=>cases r1;rw[ih r2];rfl
theorem nE:cI X (.builtin "sorted") (λxs H Q=>∃(p:Addr) (rs:List (Addr×List Int)),xs=[.ref p]/\gU X.K H p (rs.map λr=>V.ref r.1)/\rs.length<64/\(∀r∈rs,R4 X.K H r) /\
  ∀(l:Addr) (qs:List (Addr×List Int)),H l=none->qs.Perm rs->qs.Pairwise (λa b=>HT.lexLt b.2 a.2=false)->Q (.ref l) (upd H l (.lst (qs.map λr=>V.ref r.1)))):=by
 intro pins s σ H xs us Q I r h;obtain⟨p,rs,rfl,hq,h64,ht,q⟩:=h;obtain⟨u,rfl,ru⟩:=vals1 r;cases ru;obtain⟨its,rv,pl,hz⟩:=I.list hq;have ev:=Cs rv;subst ev;refine uN.jJ (O:=uN.lexOrd) (collect_list pl.isList ?_ (by rw[aag,sizeLine_eq];omega));have k1:∀b o,s.heap.get? b=some o->((s.heap.push (seqObj "list" #[] 0)).update s.heap.objs.size (Obj.mapSeq (· ++ (rs.map λr=>Value.ref r.1).toArray))).get? b=some o:=λb o e=>by
  rw[get?_update_ne _ _ _ _ (aav (aan e))];exact aad _ e
 have Y6:((s.heap.push (seqObj "list" #[] 0)).update s.heap.objs.size (Obj.mapSeq (· ++ (rs.map λr=>Value.ref r.1).toArray))).objs.size=s.heap.objs.size+1:=by rw[Heap.size_update,size_push']
 refine⟨by rw[aag];exact h64,λi=>(rs.getD i (0,[])).2,λh2 h6 k6=>?_,λpp h' op k' he=>?_⟩
 ·rw[aag]at h2;exact zc (h6:=h6) I ht h2 λb o e=>k6 b o (k1 b o e)
 ·rw[aag]at op
  dsimp only at k' he |-;rw[Y6]at he |-;obtain⟨e,he⟩:=he;have hn:H (s.heap.objs.size+1)=none:=I.hok.fresh (le_succ _);have lp:pp.length=rs.length:=by rw[op.perm.length_eq,aa2]
  have mem:∀i∈pp,i<rs.length:=λi hi=>by simpa using op.perm.mem_iff.mp hi
  have VP:(pp.map λi=>(rs.map λr=>Value.ref r.1).getD i Value.none)=(pp.map λi=>rs.getD i (0,[])).map λr=>Value.ref r.1:=by rw[aaN];refine aaT λi hi=>?_;simp[mem i hi]
  have qp:(pp.map λi=>rs.getD i (0,[])).Perm rs:=by have:=op.perm.map λi=>rs.getD i (0,[]);rwa [uN.gE]at this
  have qs:(pp.map λi=>rs.getD i (0,[])).Pairwise (λa b=>HT.lexLt b.2 a.2=false):=by have up1:=pairwise_map.mp op.up;exact pairwise_map.mpr up1
  refine⟨.ref (s.heap.objs.size+1),_,I.laid (t':=s.toks) (λb o z=>k' b o (k1 b o z)) (le_succ _) (show bL X.prog X.w _ _ _ (.lst ((pp.map λi=>rs.getD i (0,[])).map λr=>V.ref r.1)) from⟨?_,_,e,?_,he⟩),rfl,q _ _ hn qp qs⟩
  ·rw[aag,aag,lp,sizeLine_eq];omega
  ·rw[VP]
   generalize (pp.map λi=>rs.getD i (0,[]))=zs
   induction zs with
   |nil=>exact .nil
   |cons z zs ih=>exact .cons rfl ih
theorem Av{ns:List Int}(h:IntsAre us ns):∀(i:Nat) (v:Value),us[i]?=some v->∃t,v=.int (ns.getD i 0) t:=by
 induction h with
 |nil=>intro i v e;simp at e
 |cons z t r ih=>
  intro i v e;cases i with
  |zero=>simp at e;exact⟨t,by simp[<-e]⟩
  |succ i=>obtain⟨u,q⟩:=ih i v (by simpa using e);exact⟨u,by simpa using q⟩
theorem tF{pins:List (Addr×Obj)}{σ:St}{H:Hp}{s:Shared}{p:Addr}{ns:List Int}(I:Inv X pins σ H s)(hc:X.calm=true)(hq:gU X.K H p (ns.map V.int)\/jx X.K H p (ns.map V.int))(hne:0<ns.length){Q:Value->Shared->Prop}{f:String}{bt:Int->Int->Bool}{op:CmpOp}
  (hf:∀{Q:Value->Shared->Prop},wpAny (model X.prog X.w) X.A.in1 (pyIter (.ref p)) (λit s₂=>∃I fp wr n P St bt,it=.ref I/\Walks X.prog X.w X.A.in1 I fp wr n P St/\St 0 s₂.heap/\(∀b∈fp,b<s₂.heap.objs.size)/\0<n/\CmpOf X.prog X.w X.A.in1 op P bt /\
   ∀v h' tk,P (argBest bt (n-1)) v->(∀b o,b∉wr->s₂.heap.get? b=some o->h'.get? b=some o)->Q v { s₂ with heap:=h',toks:=tk }) X.xe s->wpAny (model X.prog X.w) X.A (call (.builtin f) [.ref p]) Q X.xe s)
  (hcmp:∀(P:Nat->Value->Prop),(∀i v,P i v->∃t,v=.int (ns.getD i 0) t)->CmpOf X.prog X.w X.A.in1 op P λi j=>bt (ns.getD i 0) (ns.getD j 0))
  (h:∀t h' tk,(∀b o,s.heap.get? b=some o->h'.get? b=some o)->argBest (λi j=>bt (ns.getD i 0) (ns.getD j 0)) (ns.length-1)<ns.length->Q (.int (ns.getD (argBest (λi j=>bt (ns.getD i 0) (ns.getD j 0)) (ns.length-1)) 0) t) { s with heap:=h',toks:=tk }) :
  wpAny (model X.prog X.w) X.A (call (.builtin f) [.ref p]) Q X.xe s:=by
 have hh:X.A.in1.handled=none:=I.ok.hd hc;have up:∀{us:List Value} (P:Nat->Value->Prop) (hi:IntsAre us ns),(∀i v,P i v->us.toArray[i]?=some v)->∀i v,P i v->∃t,v=.int (ns.getD i 0) t:=λP hi hP i v q=>Av hi i v (by simpa using hP i v q);have best:∀{us:List Value} (hi:IntsAre us ns) (v:Value) (h':Heap) (tk:Nat),us.toArray[argBest (λi j=>bt (ns.getD i 0) (ns.getD j 0)) (us.toArray.size-1)]?=some v->(∀b o,s.heap.get? b=some o->h'.get? b=some o)->Q v { s with heap:=h',toks:=tk }:=λ{us} hi v h' tk e k=>by
  have hl:=hi.length;rw[aap,hl]at e;have e':us[argBest (λi j=>bt (ns.getD i 0) (ns.getD j 0)) (ns.length-1)]?=some v:=by simpa using e
  obtain⟨t,rfl⟩:=Av hi _ v e';exact h t h' tk k (by have:=(aal.mp e').1;omega)
 rcases hq with hq|hq
 ·obtain⟨its,rv,pl,hz⟩:=I.list hq
  have hi:=intsAre_of rv;have hl:=hi.length;have hpl:=pl.isList;have hlt:p<s.heap.objs.size:=by obtain⟨_,e,_⟩:=hpl;exact aan e
  refine hf (wpAny_pyIter_list hpl ⟨s.heap.objs.size,[s.heap.objs.size,p],[s.heap.objs.size],its.toArray.size,_,_,λi j=>bt (ns.getD i 0) (ns.getD j 0),rfl,Walks.list hh _ p (aav hlt) its.toArray,⟨⟨_,aaw _ rfl,rfl,rfl⟩,hpl.push _⟩,λb hb=>?_,by rw[aap];omega,
   hcmp _ (up _ hi λi v q=>q),λv h' tk e k=>?_⟩)
  ·simp only[size_push']
   rcases aao.mp hb with z|z
   ·rw[z];exact lt_succ_self _
   ·rw[aaq.mp z];exact lt_succ_of_lt hlt
  ·exact best hi v h' tk e λb o z=>k b o (by simp;exact aav (aan z)) (aad _ z)
 ·obtain⟨its,rv,pl,hz⟩:=I.tuple hq
  have hi:=intsAre_of rv;have hl:=hi.length;have hpl:s.heap.IsTuple p its.toArray:=pl;have hlt:p<s.heap.objs.size:=by obtain⟨_,e,_⟩:=hpl;exact aan e
  refine hf (wpAny_pyIter_tuple hpl ⟨s.heap.objs.size,[s.heap.objs.size,p],[s.heap.objs.size],its.toArray.size,_,_,λi j=>bt (ns.getD i 0) (ns.getD j 0),rfl,Walks.tuple hh _ p (aav hlt) its.toArray,⟨⟨_,aaw _ rfl,rfl,rfl⟩,?_⟩,λb hb=>?_,by rw[aap];omega,
   hcmp _ (up _ hi λi v q=>q),λv h' tk e k=>?_⟩)
  ·obtain⟨o,e,c⟩:=hpl;exact⟨o,aad _ e,c⟩
  ·simp only[size_push']
   rcases aao.mp hb with z|z
   ·rw[z];exact lt_succ_self _
   ·rw[aaq.mp z];exact lt_succ_of_lt hlt
  ·exact best hi v h' tk e λb o z=>k b o (by simp;exact aav (aan z)) (aad _ z)
theorem uO(hc:X.calm=true):cI X (.builtin "min") (λxs H Q=>∃(p:Addr) (ns:List Int),xs=[.ref p]/\(gU X.K H p (ns.map V.int)\/jx X.K H p (ns.map V.int))/\0<ns.length/\∀m,m∈ns->(∀a∈ns,m<=a)->Q (.int m) H):=by
 intro pins s σ H xs us Q I r h;obtain⟨p,ns,rfl,hq,hne,q⟩:=h;obtain⟨u,rfl,ru⟩:=vals1 r;cases ru;refine tF (bt:=λa b=>decide (a<b)) (op:=.Lt) I hc hq hne (λ{Q} h=>call_min_walk h) (λP hP=>?_) λt h' tk k hb=>⟨.int _,H,I.kept k,⟨t,rfl⟩,q _ ?_ λa ha=>?_⟩
 ·intro i j x y s' Q' E' hx hy hQ;obtain⟨t,rfl⟩:=hP i x hx;obtain⟨t',rfl⟩:=hP j y hy;exact lt_int (by simpa using hQ)
 ·exact getD_mem hb
 ·obtain⟨j,hj,rfl⟩:=mem_getD ha;exact(argBest_lt (λi=>ns.getD i 0) (ns.length-1)).2 j (by omega)
theorem uR(hc:X.calm=true):cI X (.builtin "max") (λxs H Q=>∃(p:Addr) (ns:List Int),xs=[.ref p]/\(gU X.K H p (ns.map V.int)\/jx X.K H p (ns.map V.int))/\0<ns.length/\∀m,m∈ns->(∀a∈ns,a<=m)->Q (.int m) H):=by
 intro pins s σ H xs us Q I r h;obtain⟨p,ns,rfl,hq,hne,q⟩:=h;obtain⟨u,rfl,ru⟩:=vals1 r;cases ru;refine tF (bt:=λa b=>decide (a>b)) (op:=.Gt) I hc hq hne (λ{Q} h=>call_max_walk h) (λP hP=>?_) λt h' tk k hb=>⟨.int _,H,I.kept k,⟨t,rfl⟩,q _ ?_ λa ha=>?_⟩
 ·intro i j x y s' Q' E' hx hy hQ;obtain⟨t,rfl⟩:=hP i x hx;obtain⟨t',rfl⟩:=hP j y hy;exact gt_int (by simpa using hQ)
 ·exact getD_mem hb
 ·obtain⟨j,hj,rfl⟩:=mem_getD ha;exact(argBest_gt (λi=>ns.getD i 0) (ns.length-1)).2 j (by omega)
end
section
variable {X:Cx}
section
open PySem.AutoSeq1 (wpAny_loadPart')
theorem uS(l b:Addr)(items items2:Array Value)(n n2:Nat)(dd2:Option Addr)(sl2:Array (Option Value))(hs0:¬(!items.isEmpty&&Builtin.List.listTooLong (items.size+items2.size))=true)(hs1:items.size<=sizeLine)(hs2:items.size+items2.size<=sizeLine+1) :
  Meets (Builtin.«list.extend» ⟨[.ref l,.ref b],[]⟩) (λ_ R s=>s.heap.get? l=some { cls:=.type "list",data:=.seq items n }/\s.heap.get? b=some { cls:=.type "tuple",dict:=dd2,data:=.seq items2 n2,slots:=sl2 } /\
   R (.ok (.ret Value.none)) { s with heap:=s.heap.update l (Obj.mapSeq λx=>x++items2) }) :=
 .of_wp λprog w A R s h=>by
  obtain⟨hp,g,d,tk,os⟩:=s;obtain⟨hl,hb,h⟩:=h;have f2:=AutoSeq1.sub_tuple_tuple;have f3:=AutoSeq1.sub_list_list;have f4:=AutoSeq1.sub_tuple_list;have f5:=AutoSeq1.sub_list_tuple;have hz':(items++items2).size<=sizeLine+1:=by rw[Array.size_append];exact hs2
  wp_walk using (wpAny_updateSeq hl rfl (hz:=hs1) (_hz':=hz')),wpAny_loadPart' hl,wpAny_loadPart' hb
  exact⟨_,rfl,h⟩
end
def Ed(K:Frag):V->List V->Hp->VK->Prop:=λx vs H Q=>∃l b xs zs,x=.ref l/\vs=[.ref b]/\H l=some (.lst xs)/\jx K H b zs/\xs.length+zs.length<=sizeLine/\Q .non (upd H l (.lst (xs++zs)))
theorem zd:RM X "list.extend" (Ed X.K):=by
 intro pins s σ H x vs v us Q I rx rv h;obtain⟨l,b,xs,zs,rfl,rfl,hH,hB,hz,q⟩:=h;cases rx;obtain⟨u,rfl,ru⟩:=rv.one;cases ru;obtain⟨z,its,n,r,hl,e⟩:=I.Cg hH;obtain⟨its2,r2,⟨⟨oc,od,R5,osl⟩,e2,ec,n2,ed⟩,z2⟩:=I.tuple hB;cases ec;cases ed;have l2:=r2.length;have hsz:its.toArray.size+its2.toArray.size<=sizeLine:=by rw[aap,aap];omega
 have vQ:¬ (!its.toArray.isEmpty&&Builtin.List.listTooLong (its.toArray.size+its2.toArray.size))=true:=by rw[p9 hsz,Bool.and_false];exact aab
 refine call_meets F.slot_list_extend ⟨_,e,rfl⟩ F.entry_list_extend (F.args_list_extend_2 _ _)
  (uS l b its.toArray its2.toArray n n2 od osl vQ (by rw[aap];omega) (by omega)) ⟨e,e2,?_⟩
 refine⟨.non,_,I.DZ (its':=its++its2) hH e (by simp) (r.append r2) ?_,rfl,q⟩;rw[aau];omega
end
end L2
end
section
namespace L2
open PySem
def tG(xs:Array Nat):Prop:=xs.toList.Pairwise (· < ·)
structure Cut (xs:Array Nat) (j p:Nat):Prop where
 le:p<=xs.size
 lo:∀(i:Nat) (hi:i<xs.size),i<p->xs[i]<j
 hi:∀(i:Nat) (hi:i<xs.size),p<=i->j<=xs[i]
theorem Cut.one{xs:Array Nat}{j p q:Nat}(a:Cut xs j p)(b:Cut xs j q):p=q:=by
 rcases Nat.lt_trichotomy p q with h|h|h
 ·have hp:p<xs.size:=aas h b.le;have:=a.hi p hp (aam _);have:=b.lo p hp h;omega
 ·exact h
 ·have hq:q<xs.size:=aas h a.le;have:=b.hi q hq (aam _);have:=a.lo q hq h;omega
theorem tG.get{xs:Array Nat}(r:tG xs){a b:Nat}(ha:a<xs.size)(hb:b<xs.size)(h:a<b):xs[a]<xs[b]:=by
 have:=List.pairwise_iff_getElem.mp r a b (by simpa using ha) (by simpa using hb) h;simpa using this
theorem ze{xs:Array Nat}(r:tG xs)(j:Nat):∀(fuel lo hi:Nat),lo<=hi->hi<=xs.size->hi-lo<=fuel->(∀(i:Nat) (hi:i<xs.size),i<lo->xs[i]<j)->(∀(i:Nat) (h:i<xs.size),hi<=i->j<=xs[i])->Cut xs j (SetTable.below.go xs j fuel lo hi)
 | 0,lo,hi,h1,h2,h3,a,b=>by
  have:lo=hi:=by omega
  subst this;exact⟨h2,a,b⟩
 | fuel+1,lo,hi,h1,h2,h3,a,b=>by
  unfold SetTable.below.go
  by_cases hlt:lo<hi
  ·rw[aae hlt]
   dsimp only;have hm:(lo+hi)/2<xs.size:=by omega
   have eg:xs.getD ((lo+hi)/2) j=xs[(lo+hi)/2]:=by simp[Array.getD,hm]
   rw[eg]
   by_cases hc:xs[(lo+hi)/2]<j
   ·rw[aae hc]
    refine ze r j fuel _ hi (by omega) h2 (by omega) (λi hi' hl=>?_) b
    by_cases e:i=(lo+hi)/2
    ·subst e;exact hc
    ·exact lt_trans (r.get hi' hm (by omega)) hc
   ·rw[aac hc]
    refine ze r j fuel lo _ (by omega) (by omega) (by omega) a (λi hi' hl=>?_)
    by_cases e:i=(lo+hi)/2
    ·subst e;omega
    ·have:=r.get hm hi' (by omega);omega
  ·rw[aac hlt]
   have:lo=hi:=by omega
   subst this;exact⟨h2,a,b⟩
theorem kE{xs:Array Nat}(r:tG xs)(j:Nat):Cut xs j (SetTable.below xs j) :=
 ze r j xs.size 0 xs.size (aaX _) (aam _) (by omega) (λi _ h=>by omega) (λi h hl=>by omega)
theorem zf{xs:Array Nat}(r:tG xs):SetTable.below xs 0=0:=(kE r 0).one ⟨aaX _,λi _ h=>by omega,λi _ _=>aaX _⟩
theorem zh{xs:Array Nat}(r:tG xs){i:Nat}(hi:i<xs.size):SetTable.below xs (xs[i]+1)=i+1:=by
 refine(kE r _).one ⟨hi,λk hk h=>?_,λk hk h=>?_⟩
 ·by_cases e:k=i
  ·subst e;omega
  ·have:=r.get hk hi (by omega);omega
 ·have:=r.get hi hk (by omega);omega
theorem Ct{xs:Array Nat}(r:tG xs){j:Nat}(h:j∈xs):xs[SetTable.below xs j]?=some j:=by
 obtain⟨k,hk,e⟩:=Array.mem_iff_getElem.mp h;have:SetTable.below xs j=k:=by
  refine(kE r j).one ⟨le_of_lt hk,λi hi h=>?_,λi hi h=>?_⟩
  ·have:=r.get hi hk h;omega
  ·by_cases e':i=k
   ·subst e';omega
   ·have:=r.get hk hi (by omega);omega
 rw[this,Array.getElem?_eq_getElem hk,e]
theorem Cu{xs:Array Nat}(r:tG xs){j:Nat}(h:j∉xs):tG (SetTable.insertAt xs (SetTable.below xs j) j):=by
 have c:=kE r j;unfold tG;rw[SetTable.toList_insertAt];have rl:xs.toList.Pairwise (· < ·):=r;have lo:∀a∈xs.toList.take (SetTable.below xs j),a<j:=λa ha=>by
  obtain⟨i,hi,e⟩:=List.mem_iff_getElem.mp ha;rw[length_take,aaS]at hi;rw[List.getElem_take]at e;have:=c.lo i (by omega) (by omega);rw[<-e];simpa using this
 have up:∀a∈xs.toList.drop (SetTable.below xs j),j<a:=λa ha=>by
  obtain⟨i,hi,e⟩:=List.mem_iff_getElem.mp ha;rw[length_drop,aaS]at hi;rw[List.getElem_drop]at e;have h1:=c.hi (SetTable.below xs j+i) (by omega) (by omega);have e':xs[SetTable.below xs j+i]'(by omega)=a:=by rw[<-e];simp
  rw[e']at h1;have:a≠j:=λz=>h (by rw[<-z,<-e'];exact Array.getElem_mem _);omega
 rw[List.pairwise_append];refine⟨rl.sublist (take_sublist _ _),pairwise_cons.mpr ⟨up,rl.sublist (List.drop_sublist _ _)⟩,λa ha b hb=>?_⟩
 rcases aao.mp hb with e|hb
 ·rw[e];exact lo a ha
 ·exact lt_trans (lo a ha) (up b hb)
theorem mq(n:Nat):tG (Array.range n):=by
 unfold tG;rw[Array.toList_range];exact List.pairwise_lt_range
theorem tH{t:SetTable}(r:tG t.place){j:Nat}(h:t.slot j=.empty\/t.slot j=.dummy):j∉t.place:=λhm=>by
 have e:=Ct r hm;unfold SetTable.slot at h;dsimp only at h;rw[e]at h;simp at h
theorem lE{h:Int}:∀(fuel:Nat) (p:SetTable.Probe) (j:Nat) (d:Option Nat),(∀k,p.dummy=some k->t.slot k=.dummy)->SetTable.probe.go t f h fuel p=some (.empty j d)->t.slot j=.empty/\∀k,d=some k->t.slot k=.dummy
 |0,p,j,d,hd,e=>by simp[SetTable.probe.go]at e
 | fuel+1,p,j,d,hd,e=>by
  have ad:∀q:SetTable.Probe,(t.advance q).dummy=q.dummy:=λq=>by unfold SetTable.advance;split<;>rfl
  unfold SetTable.probe.go at e;split at e
  ·rename_i hs;cases e;exact⟨hs,hd⟩
  ·rename_i hs;refine lE fuel _ j d (λk hk=>?_) e;rw[ad]at hk;cases hk;exact hs
  ·split at e
   ·cases e
   ·exact lE fuel _ j d (λk hk=>hd k (by rw[<-ad];exact hk)) e
theorem Ef{t:SetTable}(r:tG t.place){h:Int}{s:Nat}{b:Bool}(e:t.freeSlot h=some (s,b)):s∉t.place:=by
 unfold SetTable.freeSlot at e;split at e
 ·rename_i j d hp
  cases e;obtain⟨h1,h2⟩:=lE _ _ _ _ (λk hk=>by simp[SetTable.probeStart]at hk) hp;cases d with
  |none=>exact tH r (.inl h1)
  |some k=>exact tH r (.inr (h2 k rfl))
 ·cases e
theorem Cv(r:tG t.place)(es:Array (Int×Value))(h:Int)(x:Value):tG (layNew t es h x).2.1.place/\(layNew t es h x).2.1.led=t.led:=by
 unfold layNew
 split
 ·rename_i s b e
  have fr:=Ef r e;dsimp only;unfold SetTable.orStandIn
  split
  ·exact⟨Cu r fr,rfl⟩
  ·exact⟨mq _,rfl⟩
 ·exact⟨mq _,rfl⟩
theorem Eg(r:tG t.place)(es:Array (Int×Value))(n:Nat):tG (relayAll t es n).2.1.place/\(relayAll t es n).2.1.led=t.led:=by
 unfold relayAll
 split
 ·rename_i t' order e
  dsimp only
  split
  ·unfold SetTable.relaid SetTable.laid at e;obtain⟨ow,e1,e⟩:=aai.mp e;cases e;refine⟨?_,rfl⟩;show List.Pairwise _ (List.map _ _).toArray.toList;rw[List.toList_toArray,pairwise_map];refine List.Pairwise.filterMap _ (R:=(· < ·)) (λa a' hl b hb b' hb'=>?_) List.pairwise_lt_range;obtain⟨x,_,rfl⟩:=aaH.mp hb;obtain⟨y,_,rfl⟩:=aaH.mp hb';exact hl
  ·exact⟨mq _,rfl⟩
 ·exact⟨mq _,rfl⟩
end L2
end
section
namespace L2
open PySem PyProof.Rows
def se(w:World):Bool:=w.params.followText "set-order"
structure LG (w:World) (es:Array (Int×Value)) (t:SetTable):Prop where
 few:es.size<scanBound
 fit:t.fits es.size=true
 rs:tG t.place
 led:t.led = !se w
structure dY (prog:Program) (w:World) (h:Heap) (a:Addr) (o:Obj) (es:Array (Int×Value)) (ep:Nat) (t:SetTable) (ks:List Int):Prop where
 at_:h.get? a=some o
 ex:o.ExactSet
 dat:o.data=.set es ep t
 el:ElemsOf (intKind prog w) es.toList
 tab:LG w es t
 Xd:ks.Nodup
 mem:∀k,k∈ks↔∃e∈es.toList,(intKind prog w).is k e.2=true
 num:es.size=ks.length
def o6(prog:Program)(w:World)(h:Heap)(a:Addr)(ks:List Int):Prop:=∃o es ep t,dY prog w h a o es ep t ks
def qj(ks:List Int)(k:Int):List Int:=if k∈ks then ks else ks++[k]
section
variable {prog:Program} {w:World} {A:Around} {E:Value->Shared->Prop} {s:Shared}
theorem Eh{h:Heap}{a:Addr}{o:Obj}{es es':Array (Int×Value)}{ep:Nat}{t t':SetTable}(ho:h.get? a=some o)(hd:o.data=.set es ep t):(h.update a (Obj.putSet es' t')).get? a=some { o with data:=.set es' (ep+1) t' }:=by
 have q:=aaQ (Obj.putSet es' t') ho (by rw[putSet_of es' t' hd];rfl);rw[putSet_of es' t' hd]at q;exact q
theorem o6.frame{ks:List Int}(S:o6 prog w h a ks)(k:∀o,h.get? a=some o->h'.get? a=some o):o6 prog w h' a ks:=by
 obtain⟨o,es,ep,t,i⟩:=S;exact⟨o,es,ep,t,{ i with at_:=k o i.at_ }⟩
theorem mem_push{es es1:List (Int×Value)}{ks:List Int}{k:Int}(hx:(intKind prog w).is k x=true)(hm:∀j,j∈ks↔∃e∈es,(intKind prog w).is j e.2=true)(p:es1.Perm (es++[((intKind prog w).hash k,x)]))(j:Int) :
  j∈ks++[k]↔∃e∈es1,(intKind prog w).is j e.2=true:=by
 rw[aaD,aaq,hm];constructor
 ·rintro(⟨e,he,q⟩|rfl)
  ·exact⟨e,p.mem_iff.mpr (aaO _ he),q⟩
  ·exact⟨_,p.mem_iff.mpr (aaG _ aak),hx⟩
 ·rintro⟨e,he,q⟩
  rcases aaD.mp (p.mem_iff.mp he) with z|z
  ·exact .inl ⟨e,z,q⟩
  ·rw[aaq]at z;subst z;exact .inr ((intKind prog w).inj x j k q hx)
theorem v8{g:Bool->Sem Unit}(hg:∀(b:Bool) (s₁:Shared) (Q':Unit->Shared->Prop),Q' () s₁->wpAny (model prog w) A (g b) Q' E s₁)
  {a:Addr} {o:Obj} {es es1:Array (Int×Value)} {ep:Nat} {t t2:SetTable} {ks:List Int} (ho:s.heap.get? a=some o) (hex:o.ExactSet) (hd:o.data=.set es ep t)
  (hel:ElemsOf (intKind prog w) es1.toList) (hm:∀k,k∈ks↔∃e∈es1.toList,(intKind prog w).is k e.2=true) (hnd:ks.Nodup) (hn:es1.size=ks.length) (ht:LG w es1 t2) {b:Bool} {R:Option Bool->Shared->Prop}
  (h:∀h',Heap.SameBut a s.heap h'->o6 prog w h' a ks->R (some true) { s with heap:=h' }) :
  wpAny (model prog w) A (do
    storeSet a es1 t2
    if (!b&&t2.tooFull)=true then do
      g (relayAll t2 es1 (SetTable.grown es1.size)).2.2
      storeSet a (relayAll t2 es1 (SetTable.grown es1.size)).1 (relayAll t2 es1 (SetTable.grown es1.size)).2.1
      pure (some true)
     else pure (some true)) R E s:=by
 refine aaa (wpAny_storeSet_of ho hd ?_ (fits_of_scanBound ht.few));have h1:=Eh (es':=es1) (t':=t2) ho hd;have b1:=Heap.SameBut.update s.heap a (Obj.putSet es1 t2)
 split
 ·have p:=relayAll_perm t2 es1 (SetTable.grown es1.size)
  have f:=relayAll_fits t2 es1 (SetTable.grown es1.size);have rr:=Eg ht.rs es1 (SetTable.grown es1.size);generalize relayAll t2 es1 (SetTable.grown es1.size)=Rl at p f rr |-;obtain⟨VQ,t3,gv⟩:=Rl;dsimp only at p f rr |-;have z:VQ.size=es1.size:=by rw[<-aaS,p.length_eq,aaS]
  have few:VQ.size<scanBound:=by rw[z];exact ht.few
  refine aaa (hg _ _ _ ?_);refine aaa (wpAny_storeSet_of h1 rfl ?_ (fits_of_scanBound few));refine aah (h _ (b1.trans (Heap.SameBut.update _ a _)) ⟨_,VQ,_,t3,Eh h1 rfl,hex,rfl,hel.perm p,⟨few,f,rr.1,rr.2.trans ht.led⟩,hnd,λk=>(hm k).trans ⟨λ⟨e,he,q⟩=>⟨e,p.mem_iff.mpr he,q⟩,λ⟨e,he,q⟩=>⟨e,p.mem_iff.mp he,q⟩⟩,z.trans hn⟩)
 ·exact aah (h _ b1 ⟨_,es1,_,t2,h1,hex,rfl,hel,ht,hnd,hm,hn⟩)
theorem add_int{ks:List Int}{k:Int}(S:o6 prog w s.heap a ks)(room:ks.length+1<scanBound)
  (h:∀h' b,Heap.SameBut a s.heap h'->o6 prog w h' a (qj ks k)->Q b { s with heap:=h' }) :
  wpAny (model prog w) A (setAddHashed a (.int k tk) ((intKind prog w).hash k)) Q E s:=by
 obtain⟨o,es,ep,t,I⟩:=S;have hx:(intKind prog w).is k (.int k tk)=true:=intKind_is _ _ _ _;have sc:(Value.int k tk).scannable=true:=rfl;unfold setAddHashed setAddHashedIn;refine wpAny_holding (aaa (wpAny_setState_of I.at_ I.dat I.tab.fit ?_));dsimp only;rw[byScan_of sc I.tab.few I.el];simp only[↓reduceIte];unfold setAddByScan;refine aaa (aaa (wpAny_rule (aaa (wpAny_setScan_of hx I.at_ I.dat I.tab.fit I.el ?_))));cases hr:List.findIdx? (λe=>(intKind prog w).is k e.2) es.toList with
 |some j=>
  dsimp only;obtain⟨hj,pj,_⟩:=List.findIdx?_eq_some_iff_getElem.mp hr;have hk:k∈ks:=(I.mem k).mpr ⟨es.toList[j],aaJ hj,pj⟩;refine aah (aah ?_);have e:s={ s with heap:=s.heap }:=by cases s;rfl
  rw[e];exact h s.heap _ (Heap.SameBut.refl a s.heap) (by unfold qj;rw[aae hk];exact⟨o,es,ep,t,I⟩)
 |none=>
  dsimp only;have hk:k∉ks:=λz=>by
   obtain⟨e,he,p⟩:=(I.mem k).mp z;have:=List.findIdx?_eq_none_iff.mp hr e he;rw[p]at this;cases this
  have gw:∀(b:Bool) (s₁:Shared) (Q':Unit->Shared->Prop),Q' () s₁->wpAny (model prog w) A (match b with|true=>rule "set.scan.the-table-gave-way" | false=>pure ()) Q' E s₁:=λb s₁ Q' q=>by
   cases b
   ·exact aah q
   ·exact wpAny_rule q
  have p:=layNew_perm t es ((intKind prog w).hash k) (.int k tk);have f:=layNew_fits t es ((intKind prog w).hash k) (.int k tk);have rr:=Cv I.tab.rs es ((intKind prog w).hash k) (.int k tk);generalize layNew t es ((intKind prog w).hash k) (.int k tk)=Ln at p f rr |-;obtain⟨es1,t1,wd,gv⟩:=Ln;dsimp only at p f rr |-;rw[Array.toList_push]at p;have z:es1.size=(ks++[k]).length:=by rw[<-aaS,p.length_eq,aau,aau,aaS,I.num];rfl
  have few:es1.size<scanBound:=by rw[z,aau];simpa using room
  have nd:(ks++[k]).Nodup:=by rw[aaY];exact⟨I.Xd,by simp,λx hx' y hy e=>hk (by rw[aaq]at hy;rw[<-hy,<-e];exact hx')⟩
  have Xe:ElemsOf (intKind prog w) es1.toList:=(I.el.push hx sc).perm p;have m1:=mem_push hx I.mem p;have fin:∀h',Heap.SameBut a s.heap h'->o6 prog w h' a (ks++[k])->Q true { s with heap:=h' }:=λh' sb S'=>h h' true sb (by unfold qj;rw[aac hk];exact S');refine aaa (gw _ _ _ ?_)
  split
  ·refine aaa ?_
   rw[hashByValue_scannable 8 sc];refine aah ?_;refine v8 gw I.at_ I.ex I.dat Xe m1 nd z ⟨few,?_,?_,?_⟩ λh' sb S'=>aah (fin h' sb S')
   ·split
    ·exact f
    ·exact SetTable.fits_plain_off f
   ·split
    ·exact rr.1
    ·exact rr.1
   ·split
    ·exact rr.2.trans I.tab.led
    ·exact rr.2.trans I.tab.led
  ·refine aaa (aah ?_);simp only[↓reduceIte];exact v8 gw I.at_ I.ex I.dat Xe m1 nd z ⟨few,f,rr.1,rr.2.trans I.tab.led⟩ λh' sb S'=>aah (fin h' sb S')
end
def iu:List Int->List Int->List Int
 |ks,[]=>ks
 |ks,k::r=>iu (qj ks k) r
theorem qk(ks:List Int)(k:Int):(qj ks k).length<=ks.length+1:=by unfold qj;split<;>simp
section
variable {prog:Program} {w:World} {A:Around} {E:Value->Shared->Prop} {s:Shared}
theorem Ei{R:Result->Shared->Prop}{I:Addr}{fp wr:List Addr}{G:Array GenState->Array GenState->Prop}{n:Nat}{P:Nat->Value->Prop}{St:Nat->Shared->Prop}(W:WalksS prog w A.in1 I fp wr G n P St)(S:Addr)(hSf:S∉fp)(val:Nat->Int)(hval:∀i v,P i v->∃t,v=.int (val i) t) :
  ∀(k i:Nat) (s:Shared) (ks:List Int),n-i=k->i<=n->ks.length+k+1<scanBound->St i s->o6 prog w s.heap S ks ->
   (∀s',Moved (S::wr) G s s'->o6 prog w s'.heap S (iu ks ((range' i k).map val))->R (.ok (.ret .none)) s') ->
   codeAny (model prog w) A (.builtin "set.update.loop" ⟨[.ref S,.ref I],[]⟩) R s:=by
 have Xf:S∉wr:=λh=>hSf (W.sub _ h);have sub:∀b∈wr,b∈S::wr:=λb hb=>aaf _ hb;intro k
 induction k with
 |zero=>
  intro i s ks hk hi _ hst hS hR;have:i=n:=by omega
  subst this;refine codeAny_builtin PyProof.Rows.F.entry_set_update_loop ?_;rw[Around.under_plainId PyProof.Rows.F.plain_set_update_loop _];show wpAny _ A.in1 (pyNext (.ref I) >>= _) _ _ s;refine aaa (W.done s _ _ hst λs' hm=>?_);show wpAny _ A.in1 (ret Value.none) _ _ s';exact aah (hR s' (hm.mono sub) (hS.frame λo e=>hm.heap S _ Xf e))
 |succ k ih=>
  intro i s ks hk hi hl hst hS hR;have hlt:i<n:=by omega
  refine codeAny_builtin PyProof.Rows.F.entry_set_update_loop ?_;rw[Around.under_plainId PyProof.Rows.F.plain_set_update_loop _];show wpAny _ A.in1 (pyNext (.ref I) >>= _) _ _ s;refine aaa (W.item i s _ _ hlt hst λv s' hP VS hm=>?_);obtain⟨t,rfl⟩:=hval i v hP;have hS':=hS.frame (h':=s'.heap) λo e=>hm.heap S _ Xf e;show wpAny _ A.in1 (holding [Value.int (val i) t] (setAdd S (.int (val i) t)) >>= _) _ _ s';refine aaa (wpAny_holding ?_);unfold setAdd;refine wpAny_holding (aaa ((intKind prog w).pyHash (k:=val i) (intKind_is _ _ _ _) ?_));refine add_int (s:={ s' with toks:=s'.toks+1 }) hS' (by omega) λh' b sb S2=>?_;have hl2:=qk ks (val i);refine aah ⟨plainId_quiet PyProof.Rows.F.plain_set_update_loop _,ih (i+1) _ (qj ks (val i)) (by omega) hlt (by omega) (W.frame _ s' _ _ VS (le_succ _) λb hb o e=>?_) S2 λs'' Nu S3=>?_⟩
  ·rw[sb.2 b λz=>hSf (by rw[<-z];exact hb)];exact e
  ·refine hR s'' (Moved.trans W.gtrans ((hm.mono sub).then_heap (le_succ _) λb o hb e=>?_) Nu) ?_
   ·rw[sb.2 b λz=>hb (by rw[z];exact aak)];exact e
   ·rw[List.range'_succ,aay,iu];exact S3
abbrev ql(w:World):Obj:={ cls:=.type "set",dict:=none,data:=.set #[] 0 (.fresh 0 0 (!se w)) }
theorem Je(e:h.get? a=some (ql w)):o6 prog w h a [] :=
 ⟨_,#[],0,_,e,⟨rfl,rfl,rfl⟩,rfl,λx hx=>by simp at hx,⟨by show 0<4096;decide,rfl,List.Pairwise.nil,rfl⟩,nodup_nil,λk=>by simp,rfl⟩
theorem Ej(a:Value)(h:Q₁ (.ref s.heap.objs.size) { s with heap:=s.heap.push (ql w) }) :
  codeAny (model prog w) A (.call (.builtin "set.__new__") ⟨[.type "set",a],[]⟩) (wants Q₁ E) s:=by
 refine codeAny_of_tree ?_;show wpAny _ A.in1 (do checkBuiltinCall "set.__new__" ⟨[.type "set",a],[]⟩;again (.builtin "set.__new__" ⟨[.type "set",a],[]⟩)) _ _ s;refine aaa (wpAny_of_eq (PySem.F.newCall_set_1 a) (aah ⟨plainId_quiet PySem.F.plain_set_new _,codeAny_builtin PySem.F.entry_set_new ?_⟩));rw[Around.under_plainId PySem.F.plain_set_new _];unfold Builtin.«set.__new__» Builtin.Frozenset.newClass;have hsub:=sub_set_self;obtain⟨hp,g,d,tk,os⟩:=s;dsimp only
 wp_walk
 refine wpAny_askSetting (aah ?_);dsimp only;simp only[newObj];refine aaa (wpAny_alloc (aah ?_));exact aah h
end
section
variable {prog:Program} {w:World} {A:Around} {E:Value->Shared->Prop} {s:Shared}
theorem zj{ns:List Int}(hi:IntsAre vs ns):(range' 0 vs.length).map (λi=>ns.getD i 0)=ns:=by
 have hl:=IntsAre.length hi;apply ext_getElem
 ·rw[aag,List.length_range',hl]
 ·intro i h1 h2;simp[List.getD,h2]
theorem v9{ns:List Int}(hh:A.handled=none)(hl:s.heap.IsList l items)(hi:IntsAre items.toList ns)(hb:items.size+1<scanBound)
  (h:∀(h':Heap) (tk:Nat),o6 prog w h' s.heap.objs.size (iu [] ns)->(∀b o,b<s.heap.objs.size->s.heap.get? b=some o->h'.get? b=some o)->Q (.ref s.heap.objs.size) { s with heap:=h',toks:=tk }) :
  wpAny (model prog w) A (call (.type "set") [.ref l]) Q E s:=by
 obtain⟨c,tl,mro⟩:=PySem.F.called_set.mro;have made:=PySem.F.called_set.made;have sub:=PySem.F.called_set.sub;refine wpAny_call (codeAny_of_tree ?_);show wpAny _ _ (callAny (.type "set") _) _ _ _;refine aah ⟨Code.quiet_builtin _ (by decide +kernel),codeAny_builtin PySem.F.entry_type_call ?_⟩;rw[Around.under_plain (weight_type_call_type "set" [.ref l] []) rfl];have n1:=PySem.F.called_set.notType;have n2:=PySem.F.called_set.canCreate;have n3:=PySem.F.typeCall_set_1 (.ref l)
 repeat (any_goals (first|assumption|wp_step))
 refine codeAny_mono (Ej (.ref l) (E:=E) (Q₁:=λobj s₁=>obj=.ref s.heap.objs.size/\s₁={ s with heap:=s.heap.push (ql w) }) ⟨rfl,rfl⟩) λr s₁ hr=>?_;cases r with
 |error e=>exact hr
 |ok fl=>
  cases fl with
  |ret obj=>
   obtain⟨rfl,rfl⟩:=hr;have Xg:(s.heap.push (ql w)).get? s.heap.objs.size=some (ql w):=aaw _ rfl;have hT:Shared.TypeIs { s with heap:=s.heap.push (ql w) } (.ref s.heap.objs.size) "set":=⟨_,Xg,rfl⟩;have look:=PySem.F.called_set.init.lookup;have bind:=PySem.F.called_set.init.bind (.ref s.heap.objs.size)
   repeat (any_goals (first|assumption|wp_step))
   refine codeAny_mono (codeAny_call_builtin (R:=wants (λr s₂=>r=.none/\∃h' tk,s₂={ s with heap:=h',toks:=tk }/\o6 prog w h' s.heap.objs.size (iu [] ns) /\
     (∀b o,b<s.heap.objs.size->s.heap.get? b=some o->h'.get? b=some o)) E) PySem.F.called_set.init.plain PySem.F.entry_set_init (check_set_init_1 hT ?_)) λr₂ s₂ VT=>?_
   ·obtain⟨ol,Xh,cl,nl,dl⟩:=hl
    obtain⟨oc,od,oda,os⟩:=ol;simp only at cl dl;subst cl;subst dl;have VU:(s.heap.push (ql w)).get? l=some { cls:=.type "list",dict:=od,data:=.seq items nl,slots:=os }:=aad _ Xh;have q1:=PySem.F.sub_list_set;have q2:=PySem.F.sub_list_frozenset;have q3:(Value.type "list" == Value.type "dict")=false:=by decide
    have hl1:(s.heap.push (ql w)).IsList l items:=⟨_,VU,rfl,nl,rfl⟩;unfold Builtin.«set.__init__» noKeywords Builtin.Frozenset.updateFrom;generalize Y7:pyIter=PI
    wp_walk
    subst Y7;refine wpAny_pyIter_list hl1 (aaa (wpAny_runValue ?_));have lS:l<s.heap.objs.size:=aan Xh;have h3:A.in1.in1.in1.handled=none:=by simp[hh]
    have Y8:l≠(s.heap.push (ql w)).objs.size:=by rw[size_push];exact aav (lt_succ_of_lt lS)
    have sF:s.heap.objs.size∉[(s.heap.push (ql w)).objs.size,l]:=by rw[size_push];simp only[mem_cons,not_mem_nil,or_false,not_or];exact⟨aav (lt_succ_self _),ne_of_gt lS⟩
    have val:∀(i:Nat) (v:Value),items[i]?=some v->∃t,v=.int ((λi=>ns.getD i 0) i) t:=λi v hv=>IntsAre.int_at hi i v (by rw[Array.getElem?_toList];exact hv);refine Ei ((Walks.list h3 _ l Y8 items).toS) s.heap.objs.size sF (λi=>ns.getD i 0) val (items.size-0) 0 _ [] (by omega) (aaX _) (by simpa using hb) ⟨⟨_,aaw _ rfl,rfl,rfl⟩,hl1.push _⟩ ?s0 ?sR
    case s0=>exact Je (aad _ Xg)
    case sR=>
     intro s' hm S';obtain⟨h',g',d',tk',os'⟩:=s';have eg:g'=s.gens:=hm.gens;have ed:d'=s.drawn:=hm.drawn;have eo:os'=s.os:=hm.os;subst eg;subst ed;subst eo;refine aah ?_;show wpAny _ _ (ret Value.none) _ _ _;have e0:(range' 0 (items.size-0)).map (λi=>ns.getD i 0)=ns:=by have:=zj hi;rw[aaS]at this;exact this
     rw[e0] at S';refine aah ⟨rfl,h',tk',rfl,S',λb o hb e=>?_⟩;have b1:b≠s.heap.objs.size:=aav hb;have b2:b≠(s.heap.push (ql w)).objs.size:=by rw[size_push];exact aav (lt_succ_of_lt hb)
     exact hm.heap b o (by simp only[mem_cons,not_mem_nil,or_false,not_or];exact⟨b1,b2⟩) (aad _ (aad _ e))
   ·cases r₂ with
    |error e=>exact VT
    |ok Y9=>
     cases Y9 with
     |ret r=>
      obtain⟨rfl,h',tk,rfl,S',hk⟩:=VT
      repeat (any_goals (first|assumption|wp_step))
      exact h _ _ S' hk
     |_=>exact VT.elim
  |_=>exact hr.elim
end
namespace SI
theorem zk:entryFor table "set.__iter__" = some Builtin.«frozenset.__iter__» :=
 entryFor_alias (id':="frozenset.__iter__") (by kernel_rfl) rfl (by decide +kernel) (by kernel_rfl)
theorem owner:Manifest.owners.lookup (String.ofList ['r','o','t','a','r','e','t','i','_','t','e','s'].reverse)=some Manifest.sig_set_iterator:=by kernel_rfl
theorem slot_next:Slot "set_iterator" "__next__" "set_iterator.__next__" :=
 .of (owner:="set_iterator") (n:="__next__") (by rw[typeLookup_type,builtinLookup_eq_fast];kernel_rfl) (by decide +kernel) (by decide +kernel) (by decide +kernel) (by first|exact .inl (by decide +kernel)|exact .inr (by decide +kernel)) (by rw[isSubtype_type];kernel_rfl)
theorem entry_next:entryFor table "set_iterator.__next__" = some Builtin.«set_iterator.__next__»:=entryFor_of_tree (by kernel_rfl)
theorem args_next(a:Value):argsOk "set_iterator.__next__" ⟨[a],[]⟩:=by
 unfold argsOk;rw[signature?_of (id:="set_iterator.__next__") (n:=['_','_','t','x','e','n','_','_']) (o:=['r','o','t','a','r','e','t','i','_','t','e','s']) (by kernel_rfl) owner];kernel_rfl
theorem tK:Slot "set_iterator" "__iter__" "set_iterator.__iter__" :=
 .of (owner:="set_iterator") (n:="__iter__") (by rw[typeLookup_type,builtinLookup_eq_fast];kernel_rfl) (by decide +kernel) (by decide +kernel) (by decide +kernel) (by first|exact .inl (by decide +kernel)|exact .inr (by decide +kernel)) (by rw[isSubtype_type];kernel_rfl)
theorem entry_self:entryFor table "set_iterator.__iter__" = some Builtin.«dict_keyiterator.__iter__» :=
 entryFor_alias (id':="dict_keyiterator.__iter__") (by kernel_rfl) rfl (by decide +kernel) (by kernel_rfl)
theorem Cw(a:Value):argsOk "set_iterator.__iter__" ⟨[a],[]⟩:=by
 unfold argsOk;rw[signature?_of (id:="set_iterator.__iter__") (n:=['_','_','r','e','t','i','_','_']) (o:=['r','o','t','a','r','e','t','i','_','t','e','s']) (by kernel_rfl) owner];kernel_rfl
end SI
section
variable {prog:Program} {w:World} {A:Around} {E:Value->Shared->Prop} {s:Shared}
def fu(h:Heap)(it:Addr)(f:Value)(i:Nat)(a:Addr)(n ep:Nat):Prop:=∃o,h.get? it=some o/\o.cls=.type "set_iterator" /\ o.data=.fields [f,.int i 0,.ref a,.int n 0,.int ep 0].toArray
theorem fu.typeIs{i:Nat}{n ep:Nat}(x:fu s.heap it f i a n ep):s.TypeIs (.ref it) "set_iterator":=let ⟨o,ho,hc,_⟩:=x;⟨o,ho,hc⟩
theorem nF{i:Nat}{n ep:Nat}(x:fu s.heap it f i a n ep)(h:Q (.ref it) s):wpAny (model prog w) A (pyIter (.ref it)) Q E s:=by
 refine wpAny_pyIter_slot x.typeIs SI.tK (wpAny_call_entry SI.tK x.typeIs SI.entry_self ?_ (SI.Cw _));exact aah ⟨_,rfl,"set_iterator",_,x.typeIs,SI.slot_next.lookup,h⟩
end
section
variable {prog:Program} {w:World} {A:Around} {E:Value->Shared->Prop} {s:Shared}
theorem iw{ep:Nat}(ho:s.heap.get? a=some o)(hd:o.data=.set es ep t)(hf:t.fits es.size=true)(h:Q es s):wpAny (model prog w) A (setEntries a) Q E s:=by
 unfold setEntries;exact aaa (wpAny_setState_of ho hd hf (aah h))
theorem kF(h:Q (se w) s):wpAny (model prog w) A setsByText Q E s:=by
 unfold setsByText;exact aaa (wpAny_askSetting (aah h))
theorem tL{ep sl g:Nat}{ks:List Int}(S:dY prog w s.heap a o es ep t ks)(hb:se w=false)(hp:(!t.plain&&decide (es.size>1))=false)
  (hQ:Q (match es[SetTable.below t.place sl]?,t.place[SetTable.below t.place sl]? with|some (_,x),some j=>some (x,j+1)|_,_=>none) s):wpAny (model prog w) A (setNext a sl g ep) Q E s:=by
 have led:t.led=true:=by rw[S.tab.led,hb];rfl
 unfold setNext;refine aaa (wpAny_setState_of S.at_ S.dat S.tab.fit ?_);dsimp only;refine aaa (kF ?_);rw[hb];simp only[false_eq_true,↓reduceIte];rw[aac (λz=>by
  have z':(!t.plain&&decide (es.size>1))=true:=z;rw[hp]at z';cases z')]
 refine aaa ?_;show wpAny _ _ (if (!t.led && !es.isEmpty)=true then Sem.unsupported "set:maker-not-led" else pure ()) _ _ _;rw[aac (by rw[led];simp)];exact aah (aah hQ)
theorem tM{ep sl g:Nat}{ks:List Int}(S:dY prog w s.heap a o es ep t ks)(hb:se w=true)
  (hQ:Q (((pickOrder (w.params.setOrder a ep) es)[g]?).map λe=>(e.2,sl)) s):wpAny (model prog w) A (setNext a sl g ep) Q E s:=by
 unfold setNext;refine aaa (wpAny_setState_of S.at_ S.dat S.tab.fit ?_);dsimp only;refine aaa (kF ?_);rw[hb];simp only[bne_self_eq_false,false_eq_true,↓reduceIte];unfold setWalk;refine aaa (aaa (wpAny_setState_of S.at_ S.dat S.tab.fit ?_));dsimp only;refine aaa (kF ?_);rw[hb];simp only[↓reduceIte];exact aaa (wpAny_askSetting (aah (aah hQ)))
theorem mw{ep:Nat}{ks:List Int}{i sl:Nat}(hh:A.handled=none)(x:fu s.heap it (.int sl 0) i a es.size ep)(S:dY prog w s.heap a o es ep t ks)
  (hn:∀(A:Around) (E:Value->Shared->Prop) (Q:Option (Value×Nat)->Shared->Prop),Q r s->wpAny (model prog w) A (setNext a sl i ep) Q E s)
  (hQ:∀v nx,r=some (v,nx)->∀h',fu h' it (.int (nx:Nat) 0) (i+1) a es.size ep->Heap.SameBut it s.heap h'->Q (some v) { s with heap:=h' })
  (hE:r=none->∀h',Heap.ExtBut it s.heap h'->Q none { s with heap:=h' }):wpAny (model prog w) A (pyNext (.ref it)) Q E s:=by
 obtain⟨oi,HY,VW,hdi⟩:=id x;unfold pyNext;refine aaa (wpAny_attempt (wpAny_callSpecial?_slot (name:=Str.ofString "__next__") x.typeIs SI.slot_next (wpAny_call_entry SI.slot_next x.typeIs SI.entry_next ?_ (SI.args_next _))));unfold Builtin.«set_iterator.__next__»;refine aaa (aah ?_);refine aaa (wpAny_fieldsOf HY hdi ?_);dsimp only;refine aaa (iw S.at_ S.dat S.tab.fit ?_);rw[aac (by simp)];refine aaa (hn _ _ _ ?_);cases r with
 |some p=>
  obtain⟨v,nx⟩:=p;dsimp only;refine aaa (wpAny_setField HY hdi (by simp) ?_);have h1:=aaQ (Obj.mapFields (·.setIfInBounds 0 (rawInt nx))) HY (Obj.isFreed_of_fields (Obj.data_mapFields hdi _));have d1:=Obj.data_mapFields hdi (·.setIfInBounds 0 (rawInt nx));refine aaa (wpAny_setField h1 d1 (by simp) ?_);have h2:=aaQ (Obj.mapFields (·.setIfInBounds 1 (rawInt ((i:Int)+1)))) h1 (Obj.isFreed_of_fields (Obj.data_mapFields d1 _));refine aah ⟨_,rfl,aah (hQ v nx rfl _ ⟨_,h2,?_,?_⟩ ((Heap.SameBut.update ..).trans (Heap.SameBut.update ..)))⟩
  ·rw[Obj.cls_mapFields,Obj.cls_mapFields];exact VW
  ·rw[Obj.data_mapFields d1];simp[rawInt]
 |none=>dsimp only;refine aaa (wpAny_setField HY hdi (by simp) ?_);refine aaa ?_;simp only[newExc,newTuple];refine aaa (aaV ?_ (by size_fits));refine aaa (m:=firstArgMember _ _) (wpAny_of_eq (a:=Value.none) (by first|rfl|(simp only[firstArgMember];rfl)) ?_);refine aaV ?_ (by size_fits);simp only[raiseNew];refine aaa (wpAny_handled ?_);rw[show A.in1.handled=none from hh];refine aaa (aah (wpAny_throw ?_));refine aaa (wpAny_isInstance (T:="StopIteration") (b:=true) ⟨_,aaw _ rfl,rfl⟩ isSubtype_stop ?_);exact aah (hE rfl _ (((Heap.SameBut.update ..).extBut.push _).push _))
end
theorem lF{α:Type}:∀(l:List α) (i:Nat) (h:i<l.length),(l[i]::l.eraseIdx i).Perm l
 |x::l,0,_=>List.Perm.refl _
 | x::l,i+1,h=>by
  simp only[List.getElem_cons_succ,List.eraseIdx_cons_succ];exact(List.Perm.swap _ _ _).trans (List.Perm.cons x (lF l i (by simpa using h)))
section
variable {prog:Program} {w:World} {A:Around} {E:Value->Shared->Prop} {s:Shared}
theorem Cy{n:Nat}(hn:n≠0)(h:∀i d,i<n->Q i { s with drawn:=d }):wpAny (model prog w) A (choose src n) Q E s:=fun Γ p hΓ=>by
 show Sem.wp _ _ (Sem.choose src n Sem.pure) _ _ _ _;rw[Sem.wp];exact⟨hn,h _ _ (mod_lt _ (Nat.pos_of_ne_zero hn))⟩
theorem Aw{α:Type}:∀(n:Nat) (xs:List α) (s:Shared) (Q:List α -> Shared->Prop),xs.length=n->(∀ys d,ys.Perm xs->Q ys { s with drawn:=d })->wpAny (model prog w) A (drawOrder n xs) Q E s
 | 0,xs,s,Q,hl,h=>by
  have:xs=[]:=List.eq_nil_of_length_eq_zero hl;subst this;unfold drawOrder;exact aah (h [] s.drawn (List.Perm.refl _))
 |n+1,[],s,Q,hl,h=>by simp at hl
 | n+1,x::xs,s,Q,hl,h=>by
  unfold drawOrder;refine aaa (Cy (by simp) λi d hi=>?_);have hx:(x::xs)[i]?=some ((x::xs)[i]):=aaz hi;rw[hx];dsimp only;refine aaa (Aw n ((x::xs).eraseIdx i) _ _ (by rw[List.length_eraseIdx,aae hi];simp at hl |-;omega) λys d' p=>aah ?_);exact h _ d' (((List.Perm.cons _ p).trans (lF _ i hi)))
theorem qm{ep c:Nat}{ks:List Int}{i:Nat}{ps:List Nat}(hh:A.handled=none)(x:fu s.heap it (.ref td) i a es.size ep)(S:dY prog w s.heap a o es ep t ks)
  (hT:s.heap.get? td=some oT) (US:oT.data=.seq (ps.map λ(j:Nat)=>rawInt j).toArray c) (hlt:∀j∈ps,j<es.size)
  (hQ:∀j e,ps[i]?=some j->es[j]?=some e->∀h',fu h' it (.ref td) (i+1) a es.size ep->Heap.SameBut it s.heap h'->Q (some e.2) { s with heap:=h' })
  (hE:ps[i]?=none->∀h',Heap.ExtBut it s.heap h'->Q none { s with heap:=h' }):wpAny (model prog w) A (pyNext (.ref it)) Q E s:=by
 obtain⟨oi,HY,VW,hdi⟩:=id x;unfold pyNext;refine aaa (wpAny_attempt (wpAny_callSpecial?_slot (name:=Str.ofString "__next__") x.typeIs SI.slot_next (wpAny_call_entry SI.slot_next x.typeIs SI.entry_next ?_ (SI.args_next _))));unfold Builtin.«set_iterator.__next__»;refine aaa (aah ?_);refine aaa (wpAny_fieldsOf HY hdi ?_);dsimp only;refine aaa (iw S.at_ S.dat S.tab.fit ?_);rw[aac (by simp)];refine aaa (wpAny_seqItems hT US ?_);dsimp only;have hg:((ps.map λ(j:Nat)=>rawInt j).toArray)[((i:Nat):Int).toNat]?=(ps[i]?).map λ(j:Nat)=>rawInt j:=by simp
 rw[hg];cases hp:ps[i]? with
 |some j=>
  have hj:j<es.size:=hlt j (aaF hp);simp only[map_some,rawInt];refine aaa ?_;unfold setNextDrawn;refine aaa (wpAny_setState_of S.at_ S.dat S.tab.fit ?_);dsimp only;rw[aac (by simp)];have Za:es[((j:Nat):Int).toNat]?=some es[j]:=by simp[hj]
  rw[Za];refine aah ?_;refine aaa (wpAny_setField HY hdi (by simp) ?_);have h2:=aaQ (Obj.mapFields (·.setIfInBounds 1 (.int ((i:Int)+1) 0))) HY (Obj.isFreed_of_fields (Obj.data_mapFields hdi _));refine aah ⟨_,rfl,aah (hQ j _ hp (Array.getElem?_eq_getElem hj) _ ⟨_,h2,?_,?_⟩ (Heap.SameBut.update ..))⟩
  ·rw[Obj.cls_mapFields];exact VW
  ·rw[Obj.data_mapFields hdi];simp
 |none=>simp only[Option.map_none];refine aaa (wpAny_setField HY hdi (by simp) ?_);have h1:=aaQ (Obj.mapFields (·.setIfInBounds 0 (rawInt 0))) HY (Obj.isFreed_of_fields (Obj.data_mapFields hdi _));have d1:=Obj.data_mapFields hdi (·.setIfInBounds 0 (rawInt 0));refine aaa (wpAny_setField h1 d1 (by simp) ?_);refine aaa ?_;simp only[newExc,newTuple];refine aaa (aaV ?_ (by size_fits));refine aaa (m:=firstArgMember _ _) (wpAny_of_eq (a:=Value.none) (by first|rfl|(simp only[firstArgMember];rfl)) ?_);refine aaV ?_ (by size_fits);simp only[raiseNew];refine aaa (wpAny_handled ?_);rw[show A.in1.handled=none from hh];refine aaa (aah (wpAny_throw ?_));refine aaa (wpAny_isInstance (T:="StopIteration") (b:=true) ⟨_,aaw _ rfl,rfl⟩ isSubtype_stop ?_);exact aah (hE hp _ ((((Heap.SameBut.update ..).trans (Heap.SameBut.update ..)).extBut.push _).push _))
end
theorem tN{α:Type}(f:Nat->Nat):∀(n k:Nat) (l:List α) (out:Array α),l.length=n->(pickOrder.go f n k l out).toList.Perm (out.toList++l)
 | 0,k,l,out,h=>by
  have:l=[]:=List.eq_nil_of_length_eq_zero h;subst this;unfold pickOrder.go;simp
 | n+1,k,l,out,h=>by
  unfold pickOrder.go;have hl:0<l.length:=by omega
  have hi:f k%l.length<l.length:=mod_lt _ hl;rw[aaz hi];dsimp only;refine(tN f n (k+1) _ _ (by rw[List.length_eraseIdx,aae hi];omega)).trans ?_;rw[Array.toList_push,List.append_assoc];exact List.Perm.append_left _ (lF l _ hi)
theorem tO{t:SetTable}{n:Nat}(h:t.fits n=true):t.place.size=n:=by
 simp only[SetTable.fits,and_eq_true,beq_iff_eq]at h;exact h.1
def UT(t:SetTable):Nat->Nat
 |0=>0
 |i+1=>t.place.getD i 0+1
theorem tQ(r:tG t.place):∀i,i<=t.place.size->SetTable.below t.place (UT t i)=i
 |0,_=>zf r
 | i+1,h=>by
  have hi:i<t.place.size:=h;have e:UT t (i+1)=t.place[i]+1:=by simp[UT,Array.getD,hi]
  rw[e];exact zh r hi
section
variable {prog:Program} {w:World} {A:Around} {E:Value->Shared->Prop} {s:Shared}
theorem dY.keep{ep:Nat}{ks:List Int}(S:dY prog w h a o es ep t ks)(k:∀o,h.get? a=some o->h'.get? a=some o):dY prog w h' a o es ep t ks:={ S with at_:=k o S.at_ }
theorem fu.keep{i:Nat}{n ep:Nat}(x:fu h it f i a n ep)(k:∀o,h.get? it=some o->h'.get? it=some o):fu h' it f i a n ep:=by
 obtain⟨o,ho,r⟩:=x;exact⟨o,k o ho,r⟩
def PL(L:List (Int×Value))(i:Nat)(v:Value):Prop:=∃e,L[i]?=some e/\v=e.2
theorem Cz(hh:A.handled=none){ep:Nat}{ks:List Int}(hne:a≠I)(hb:se w=false)(hp:(!t.plain&&decide (es.size>1))=false) :
  Walks prog w A I [I,a] [I] es.toList.length (PL es.toList) (λi h=>dY prog w h a o es ep t ks/\fu h I (.int (UT t i) 0) i a es.size ep) where
 sub:=λb hb=>by simp at hb;simp[hb]
 frame:=λ_ _ _ st hk=>⟨st.1.keep λo e=>hk a (by simp) o e,st.2.keep λo e=>hk I (by simp) o e⟩
 item:=λi s Q E hi st hQ=>by
  have hi:i<es.size:=by simpa using hi
  have hz:=tO st.1.tab.fit;have hb':=tQ st.1.tab.rs i (by rw[hz];exact le_of_lt hi);refine mw (r:=some (es[i].2,t.place.getD i 0+1)) hh st.2 st.1 (λA E Q q=>tL st.1 hb hp ?_) (λv nx e h' x' sb=>?_) (λe=>nomatch e)
  ·rw[hb',Array.getElem?_eq_getElem hi,Array.getElem?_eq_getElem (by rw[hz];exact hi)]
   have e1:t.place[i]'(by rw[hz];exact hi)=t.place.getD i 0:=by simp[Array.getD,hz,hi]
   dsimp only;rw[e1];exact q
  ·cases e;exact hQ _ h' s.toks ⟨es[i],by simp[hi],rfl⟩ ⟨st.1.keep λo e=>sb.extBut a o hne e,x'⟩ λb o hb e=>sb.extBut b o (λz=>hb (by simp[z])) e
 done:=λs Q E st hQ=>by
  have hz:=tO st.1.tab.fit;have hb':=tQ st.1.tab.rs es.toList.length (by rw[hz];simp);refine mw (r:=none) hh st.2 st.1 (λA E Q q=>tL st.1 hb hp ?_) (λv nx e=>nomatch e) (λ_ h' sb=>hQ h' s.toks λb o hb e=>sb b o (λz=>hb (by simp[z])) e);rw[hb',Array.getElem?_eq_none (by simp)];exact q
 self:=λ_ _ _ _ st hQ=>nF st.2 hQ
theorem CA(hh:A.handled=none){ep:Nat}{ks:List Int}(hne:a≠I)(hb:se w=true) :
  Walks prog w A I [I,a] [I] (pickOrder (w.params.setOrder a ep) es).toList.length (PL (pickOrder (w.params.setOrder a ep) es).toList) (λi h=>dY prog w h a o es ep t ks/\fu h I (.int (0:Nat) 0) i a es.size ep) where
 sub:=λb hb=>by simp at hb;simp[hb]
 frame:=λ_ _ _ st hk=>⟨st.1.keep λo e=>hk a (by simp) o e,st.2.keep λo e=>hk I (by simp) o e⟩
 item:=λi s Q E hi st hQ=>by
  have hi:i<(pickOrder (w.params.setOrder a ep) es).size:=by simpa using hi
  refine mw (r:=some ((pickOrder (w.params.setOrder a ep) es)[i].2,0)) hh st.2 st.1 (λA E Q q=>tM st.1 hb ?_) (λv nx e h' x' sb=>?_) (λe=>nomatch e)
  ·rw[Array.getElem?_eq_getElem hi];exact q
  ·cases e;exact hQ _ h' s.toks ⟨(pickOrder (w.params.setOrder a ep) es)[i],by simp[hi],rfl⟩ ⟨st.1.keep λo e=>sb.extBut a o hne e,x'⟩ λb o hb e=>sb.extBut b o (λz=>hb (by simp[z])) e
 done:=λs Q E st hQ=>by
  refine mw (r:=none) hh st.2 st.1 (λA E Q q=>tM st.1 hb ?_) (λv nx e=>nomatch e) (λ_ h' sb=>hQ h' s.toks λb o hb e=>sb b o (λz=>hb (by simp[z])) e);rw[Array.getElem?_eq_none (by simp)];exact q
 self:=λ_ _ _ _ st hQ=>nF st.2 hQ
theorem zl(hh:A.handled=none){ep c:Nat}{ks:List Int}{ps:List Nat}(hne:a≠I)(hnt:td≠I)(hlt:∀j∈ps,j<es.size)(US:oT.data=.seq (ps.map λ(j:Nat)=>rawInt j).toArray c) :
  Walks prog w A I [I,a,td] [I] ps.length (PL (ps.map λj=>es.getD j (0,.none))) (λi h=>dY prog w h a o es ep t ks/\fu h I (.ref td) i a es.size ep/\h.get? td=some oT) where
 sub:=λb hb=>by simp at hb;simp[hb]
 frame:=λ_ _ _ st hk=>⟨st.1.keep λo e=>hk a (by simp) o e,st.2.1.keep λo e=>hk I (by simp) o e,hk td (by simp) _ st.2.2⟩
 item:=λi s Q E hi st hQ=>by
  refine qm hh st.2.1 st.1 st.2.2 US hlt (λj e hj he h' x' sb=>?_) (λhn=>absurd hn (by rw[aaz hi];simp));refine hQ _ h' s.toks ⟨e,?_,rfl⟩ ⟨st.1.keep λo e=>sb.extBut a o hne e,x',sb.extBut td _ hnt st.2.2⟩ λb o hb e=>sb.extBut b o (λz=>hb (by simp[z])) e;rw[aaI,hj];have hjl:j<es.size:=(Array.getElem?_eq_some_iff.mp he).1;have:=(Array.getElem?_eq_some_iff.mp he).2;simp[Array.getD,hjl,this]
 done:=λs Q E st hQ=>qm hh st.2.1 st.1 st.2.2 US hlt (λj e hj=>absurd hj (by simp)) (λ_ h' sb=>hQ h' s.toks λb o hb e=>sb b o (λz=>hb (by simp[z])) e)
 self:=λ_ _ _ _ st hQ=>nF st.2.1 hQ
end
section
variable {prog:Program} {w:World} {A:Around} {E:Value->Shared->Prop} {s:Shared}
theorem Ek{ep:Nat}{ks:List Int}(S:dY prog w s.heap a o es ep t ks)(h:Q (!se w&&(!t.plain&&decide (es.size>1))) s):wpAny (model prog w) A (setDrawn a) Q E s:=by
 unfold setDrawn;refine aaa (wpAny_setState_of S.at_ S.dat S.tab.fit ?_);dsimp only;exact aaa (kF (aah h))
theorem wc{ep:Nat}{ks:List Int}(S:dY prog w s.heap a o es ep t ks)(h:Q ep s):wpAny (model prog w) A (setEpoch a) Q E s:=wpAny_setEpoch_of S.at_ S.dat S.tab.fit h
theorem El(hh:A.handled=none){ep:Nat}{ks:List Int}(S:dY prog w s.heap a o es ep t ks)
  (hQ:∀(h':Heap) d (I:Addr) (fp:List Addr) (L:List (Int×Value)) (St:Nat->Heap->Prop),L.Perm es.toList->Walks prog w A I fp [I] L.length (PL L) St->St 0 h'->s.heap.objs.size<=I->I<h'.objs.size->(∀b∈fp,b=a\/s.heap.objs.size<=b)->(∀b o,s.heap.get? b=some o->h'.get? b=some o)->Q (.ref I) { s with heap:=h',drawn:=d }) :
  wpAny (model prog w) A (pyIter (.ref a)) Q E s:=by
 have hT:s.TypeIs (.ref a) "set":=⟨o,S.at_,S.ex.1⟩;have hlt:a<s.heap.objs.size:=aan S.at_;refine wpAny_pyIter_slot hT PySem.F.slot_set_iter (wpAny_call_entry PySem.F.slot_set_iter hT SI.zk ?_ (PySem.F.args_set_iter_1 _));unfold Builtin.«frozenset.__iter__» Builtin.Frozenset.slot0 Builtin.Frozenset.sizeOf;refine aaa (aaa (aah (aah ?_)));refine aaa (aaa (iw S.at_ S.dat S.tab.fit (aah ?_)));refine aaa (Ek S ?_);cases hd:(!se w&&(!t.plain&&decide (es.size>1))) with
 |false=>
  simp only[false_eq_true,↓reduceIte];refine aaa (aah ?_);refine aaa (wc S ?_);refine aaa (aaV (aah ⟨_,rfl,"set_iterator",_,⟨_,aaw _ rfl,rfl⟩,SI.slot_next.lookup,?_⟩));have e:s={ s with drawn:=s.drawn }:=by cases s;rfl
  have Xi:∀b∈[s.heap.objs.size,a],b=a\/s.heap.objs.size<=b:=λb hb=>by
   simp only[mem_cons,not_mem_nil,or_false]at hb
   rcases hb with rfl|rfl
   ·exact .inr (aam _)
   ·exact .inl rfl
  have sz:s.heap.objs.size<(s.heap.push { cls:=.type "set_iterator",data:=.fields ([rawInt 0,rawInt 0,.ref a,rawInt es.size,rawInt ep]:List Value).toArray }).objs.size:=by rw[size_push];exact lt_succ_self _
  cases hb:se w with
  |true=>exact hQ _ s.drawn _ _ _ _ (tN _ _ 0 es.toList #[] (by simp)) (CA hh (aav hlt) hb) ⟨S.keep λo e=>aad _ e,⟨_,aaw _ rfl,rfl,rfl⟩⟩ (aam _) sz Xi λb o e=>aad _ e
  |false=>rw[hb]at hd;exact hQ _ s.drawn _ _ _ _ (List.Perm.refl _) (Cz hh (aav hlt) hb (by simpa using hd)) ⟨S.keep λo e=>aad _ e,⟨_,aaw _ rfl,rfl,rfl⟩⟩ (aam _) sz Xi λb o e=>aad _ e
 |true=>
  simp only[↓reduceIte];refine aaa (Aw es.size (List.range es.size) s _ (by simp) λps d pp=>?_);refine aaa ?_;simp only[newTuple];refine aaV ?_ (by show (toArray _).size<=sizeLine;rw[aap,aag,pp.length_eq,aa2];exact fits_of_scanBound S.tab.few);have S1:dY prog w (s.heap.push { cls:=.type "tuple",data:=.seq (ps.map λ(i:Nat)=>rawInt i).toArray }) a o es ep t ks:=S.keep λo e=>aad _ e;refine aaa (wc S1 ?_);refine aaa (aaV (aah ⟨_,rfl,"set_iterator",_,⟨_,aaw _ rfl,rfl⟩,SI.slot_next.lookup,?_⟩));have hpl:∀j∈ps,j<es.size:=λj hj=>by simpa using pp.mem_iff.mp hj
  have perm:(ps.map λj=>es.getD j (0,Value.none)).Perm es.toList:=by
   have e2:(List.range es.size).map (λj=>es.getD j (0,Value.none))=es.toList:=by
    apply ext_getElem
    ·simp
    ·intro i h1 h2
     have hi:i<es.size:=by simpa using h2
     simp[Array.getD,hi]
   rw[<-e2];exact pp.map _
  have z1:(s.heap.push { cls:=.type "tuple",data:=.seq (ps.map λ(i:Nat)=>rawInt i).toArray }).objs.size=s.heap.objs.size+1:=size_push _ _;have W:=zl (prog:=prog) (w:=w) (A:=A) (o:=o) (ep:=ep) (t:=t) (ks:=ks) hh (I:=s.heap.objs.size+1) (a:=a) (td:=s.heap.objs.size) (oT:={ cls:=.type "tuple",data:=.seq (ps.map λ(i:Nat)=>rawInt i).toArray }) (es:=es) (c:=0) (ps:=ps) (aav (lt_succ_of_lt hlt)) (aav (lt_succ_self _)) hpl rfl;rw[show ps.length=(ps.map λj=>es.getD j (0,Value.none)).length by simp] at W;rw[z1];refine hQ _ d _ _ _ _ perm W ⟨S1.keep λo e=>aad _ e,⟨{ cls:=.type "set_iterator",data:=.fields ([.ref s.heap.objs.size,rawInt 0,.ref a,rawInt es.size,rawInt ep]:List Value).toArray },?_,rfl,rfl⟩,aad _ (aaw _ rfl)⟩ (le_succ _) ?_ ?_ λb o e=>aad _ (aad _ e)
  ·rw[<-z1];exact aaw _ rfl
  ·rw[size_push,z1];exact lt_succ_self _
  ·intro b hb
   simp only[mem_cons,not_mem_nil,or_false]at hb
   rcases hb with rfl|rfl|rfl
   ·exact .inr (le_succ _)
   ·exact .inl rfl
   ·exact .inr (aam _)
end
section
variable {prog:Program} {w:World} {A:Around} {E:Value->Shared->Prop} {s:Shared}
theorem Em(hT:s.TypeIs (.ref r) "set")(h:Q false s):wpAny (model prog w) A (Builtin.List.listLengthHint (.ref r)) Q E s:=by
 unfold Builtin.List.listLengthHint;refine aaa (wpAny_specialOf hT PySem.F.slot_set_len.lookup ?_);generalize hid:("set.__len__":String)=Zb
 wp_delta
 rw[show splitId Zb=some ("set","__len__") from by subst hid;decide +kernel];subst hid;refine aaa (wpAny_isInstance (T:="set") (b:=true) hT sub_set_self ?_);refine wpAny_ite_split (λz=>absurd z (by decide)) (λ_=>?_);refine wpAny_ite_split (λ_=>?_) (λz=>absurd (by decide +kernel) z);exact aaa (wpAny_typeOf hT (aah h))
theorem we(hh:A.handled=none){ep:Nat}{ks:List Int}(S:dY prog w s.heap a o es ep t ks)
  (h:∀(h':Heap) (tk:Nat) d (L:List (Int×Value)),(∀b o,s.heap.get? b=some o->h'.get? b=some o)->s.heap.objs.size<h'.objs.size->L.Perm es.toList->R (L.map (·.2)) { s with heap:=h',toks:=tk,drawn:=d }) :
  wpAny (model prog w) A (collect (.ref a)) R E s:=by
 have hlt:a<s.heap.objs.size:=aan S.at_;unfold collect;refine aaa (wpAny_runValue (codeAny_builtin entry_proto_collect' ?_));rw[Around.under_plainId PySem.F.plain_proto_collect _];show wpAny _ A.in1 (newList [] >>= λl=>again (.builtin "list.__iadd__" ⟨[l,.ref a],[]⟩)) _ _ s;refine aaa (aaV ?_);refine aah ⟨plainId_quiet PySem.F.plain_list_iadd _,codeAny_builtin entry_list_iadd' ?_⟩;rw[Around.under_plainId PySem.F.plain_list_iadd _]
 let s1:Shared:={ s with heap:=s.heap.push { cls:=.type "list",data:=.seq ([]:List Value).toArray } }
 have l1:s1.heap.get? s.heap.objs.size=some { cls:=.type "list",data:=.seq #[] }:=aaw _ rfl;have S1:dY prog w s1.heap a o es ep t ks:=S.keep λo e=>aad _ e;have z1:s1.heap.objs.size=s.heap.objs.size+1:=size_push _ _;have hT:s1.TypeIs (.ref a) "set":=⟨o,S1.at_,S1.ex.1⟩;show wpAny _ A.in1 (Builtin.List.listExtendWith (.ref s.heap.objs.size) (.ref a) (.ref s.heap.objs.size)) _ _ s1;unfold Builtin.List.listExtendWith;refine aaa (wpAny_typeOf hT ?_);have n1:Builtin.List.listSameRef (.ref s.heap.objs.size) (.ref a)=false:=by simp[Builtin.List.listSameRef,ne_of_gt hlt]
 simp only[n1,show (Value.type "set" == Value.type "list")=false by decide,show (Value.type "set" == Value.type "tuple")=false by decide,Bool.or_false,false_eq_true,if_false];refine aaa (El (A:=A.in1) (by simp[hh]) S1 λh2 d I fp L St perm W st zI zI2 hfp k2=>?_);have l2:h2.get? s.heap.objs.size=some { cls:=.type "list",data:=.seq #[] }:=k2 _ _ l1;have nfp:s.heap.objs.size∉fp:=λz=>by
  rcases hfp _ z with e|e
  ·exact absurd e (ne_of_gt hlt)
  ·rw[z1]at e;exact absurd e (Nat.not_succ_le_self _)
 have hl:L.length<=sizeLine:=by rw[perm.length_eq,aaS];exact fits_of_scanBound S.tab.few
 have key:∀(hp:Heap) (c₁:Nat) (Rr:Result->Shared->Prop),St 0 hp->(∀b o,b≠s.heap.objs.size->h2.get? b=some o->hp.get? b=some o)->hp.get? s.heap.objs.size=some { cls:=.type "list",data:=.seq #[] c₁ } ->
   (∀(s':Shared) (acc:Array Value) (c:Nat),s'.heap.get? s.heap.objs.size=some { cls:=.type "list",dict:=none,data:=.seq acc c,slots:=#[] }->R acc.toList s'->Rr (.ok (.ret (.ref s.heap.objs.size))) s') ->
   codeAny (model prog w) A (.builtin "list.extend.loop" ⟨[.ref s.heap.objs.size,.ref I,.ref s.heap.objs.size],[]⟩) Rr { s1 with heap:=hp,drawn:=d }:=by
  intro hp c₁ Rr hst hk hS hR;refine codeAny_extend_loopS W.toS hl s.heap.objs.size nfp (.ref s.heap.objs.size) L.length 0 _ #[] c₁ rfl (aaX _) hst hS (ItemsOf.nil _) λs' acc c hm hS' hacc=>?_;refine hR s' acc c hS' ?_;have ea:acc.toList=L.map (·.2):=by
   apply ext_getElem
   ·rw[aaS,hacc.1,aag]
   ·intro j h1 h2
    have hj:j<acc.size:=by simpa using h1
    obtain⟨e,he,hv⟩:=hacc.2 j acc[j] (Array.getElem?_eq_getElem hj);rw[Array.getElem_toList,hv,aa1];obtain⟨hj2,e2⟩:=aal.mp he;rw[e2]
  rw[ea,Moved.eq_with hm];refine h s'.heap s'.toks d L (λb o e=>?_) (aan hS') perm;have hb:b<s.heap.objs.size:=aan e;refine hm.heap b o (λz=>?_) (hk b o (aav hb) (k2 b o (aad _ e)))
  rcases aao.mp z with z|z
  ·exact absurd z (aav hb)
  ·rw[aaq]at z;rw[z]at hb;rw[z1]at zI;exact absurd (aas hb (Nat.le_of_succ_le zI)) (aaZ _)
 have fin:∀(s':Shared) (acc:Array Value) (c:Nat),s'.heap.get? s.heap.objs.size=some { cls:=.type "list",dict:=none,data:=.seq acc c,slots:=#[] }->R acc.toList s'->wpAny (model prog w) A (load s.heap.objs.size >>= λob=>(match ob.data with|.seq xs _=>pure xs.toList|_=>unsupported "internal:collect")) R E s':=λs' acc c e q=>aaa (wpAny_load e (aah q));refine aaa (wpAny_holding (Em ⟨o,k2 _ _ S1.at_,S1.ex.1⟩ ?_));refine wpAny_ite_split (λ_=>?_) (λ_=>aah ⟨plainId_quiet PySem.F.plain_extend_loop _,key _ 0 _ st (λb o _ e=>e) l2 fin⟩);refine aaa (wpAny_rule ?_);refine aaa ?_;show wpAny _ _ (updateSeq s.heap.objs.size (·.push .none) >>= λ_=>updateSeq s.heap.objs.size (·.pop)) _ _ _;refine aaa (wpAny_updateSeq l2 rfl ?_);have l3:=aaQ (Obj.mapSeq (·.push Value.none)) l2 rfl;refine wpAny_updateSeq (hz:=by seq_fits) l3 rfl ?_;have l4:=aaQ (Obj.mapSeq (·.pop)) l3 rfl;have oth:∀b o,b≠s.heap.objs.size->h2.get? b=some o->((h2.update s.heap.objs.size (Obj.mapSeq (·.push Value.none))).update s.heap.objs.size (Obj.mapSeq (·.pop))).get? b=some o:=λb o hb e=>(get?_update_other _ _ (Ne.symm hb)).trans ((get?_update_other _ _ (Ne.symm hb)).trans e);exact aah ⟨plainId_quiet PySem.F.plain_extend_loop _,key _ _ _ (W.frame 0 _ _ st λb hb o e=>oth b o (λz=>nfp (z▸hb)) e) oth l4 fin⟩
end
theorem wg:∀(ks ns:List Int),ks.Nodup->(∀k∈ks,k∈ns)->ks.length=ns.length->ks.Perm ns
 | [],ns,_,_,h=>by
  have:ns=[]:=List.eq_nil_of_length_eq_zero h.symm;subst this;exact List.Perm.refl _
 | k::ks,ns,nd,hs,hl=>by
  have hk:=hs k aak;have Xj:=aaW.mp nd;have p:=List.perm_cons_erase hk;refine(List.Perm.cons k (wg ks (ns.erase k) Xj.2 (λx hx=>?_) ?_)).trans p.symm
  ·exact(List.mem_erase_of_ne λz=>Xj.1 (by rw[<-z];exact hx)).mpr (hs x (aaf _ hx))
  ·rw[List.length_erase_of_mem hk];simp only[length_cons]at hl;omega
def wj:Value->Int
 |.int i _=>i
 |_=>0
section
variable {prog:Program} {w:World} {A:Around} {E:Value->Shared->Prop} {s:Shared}
theorem qo:∀{L:List (Int×Value)},ElemsOf (intKind prog w) L->IntsAre (L.map (·.2)) (L.map λe=>wj e.2)
 |[],_=>.nil
 | (h,v)::L,el=>by
  obtain⟨⟨k,hk,_⟩,_⟩:=el _ aak;obtain⟨t,e⟩:=Value.isInt_shape (k:=k) (v:=v) hk;subst e;exact .cons k t (qo λx hx=>el x (aaf _ hx))
theorem Eo{h:Heap}{a:Addr}{o:Obj}{es:Array (Int×Value)}{ep:Nat}{t:SetTable}{ks:List Int}(S:dY prog w h a o es ep t ks){L:List (Int×Value)}(p:L.Perm es.toList):(L.map λe=>wj e.2).Perm ks:=by
 refine(wg ks _ S.Xd (λk hk=>?_) ?_).symm
 ·obtain⟨e,he,q⟩:=(S.mem k).mp hk;obtain⟨t',ev⟩:=Value.isInt_shape (k:=k) (v:=e.2) q;exact aaP.mpr ⟨e,p.mem_iff.mpr he,by rw[ev];rfl⟩
 ·have:=S.num;rw[aag,p.length_eq,aaS];exact this.symm
theorem zm(hh:A.handled=none){ep:Nat}{ks:List Int}(S:dY prog w s.heap a o es ep t ks)(h64:ks.length<64)
  (hQ:∀(h':Heap) (tk:Nat) d (D:Addr) (out:List Value) (e:Nat),(∀b o,s.heap.get? b=some o->h'.get? b=some o)->s.heap.objs.size<=D->h'.get? D=some (seqObj "list" out.toArray e)->IntsAre out (sortI ks)->Q (.ref D) { s with heap:=h',toks:=tk,drawn:=d }) :
  wpAny (model prog w) A (call (.builtin "sorted") [.ref a]) Q E s:=by
 refine uN.jJ (O:=uN.za) (we (A:=A.in1) (by simp[hh]) S λh' tk d L hk hz perm=>?_);have el:ElemsOf (intKind prog w) L:=S.el.perm perm;have hI:=qo el;have pk:=Eo S perm;have hl:(L.map (·.2)).length<64:=by rw[aag];have:=pk.length_eq;rw[aag]at this;omega
 refine⟨hl,λi=>(L.map λe=>wj e.2).getD i 0,λh2 h6 _=>uN.zb hI h2,λp h'' outs k2 he=>?_⟩;obtain⟨e,he⟩:=he;have lv:(L.map (·.2)).length=(L.map λe=>wj e.2).length:=by rw[aag,aag]
 have mem:∀i∈p,i<L.length:=λi hi=>by have:=outs.perm.mem_iff.mp hi;simpa using this
 have pn:(p.map λi=>(L.map λe=>wj e.2).getD i 0).Perm ks:=by have:=outs.perm.map λi=>(L.map λe=>wj e.2).getD i 0;rw[lv,uN.gE]at this;exact this.trans pk
 have up:(p.map λi=>(L.map λe=>wj e.2).getD i 0).Pairwise (· <= ·):=by refine List.Pairwise.imp (R:=uN.za.kle) (λ{x y:Int} hxy=>?_) outs.up;have hxy:(decide (y<x):Bool)=false:=hxy;exact Int.not_lt.mp (of_decide_eq_false hxy)
 have es:=eq_sortI pn up;refine hQ h'' tk d h'.objs.size _ e (λb o z=>k2 b o (hk b o z)) (le_of_lt hz) he ?_;rw[<-es];clear he es up pn outs
 induction p with
 |nil=>exact .nil
 |cons i r ih=>
  have hi:=mem i aak;have hi2:i<(L.map (·.2)).length:=by simpa using hi
  obtain⟨t',ev⟩:=IntsAre.int_at hI i _ (aaz hi2);rw[aay,aay];have e1:(L.map (·.2)).getD i Value.none=.int ((L.map λe=>wj e.2).getD i 0) t':=by rw[<-ev];simp[List.getD,List.getElem?_eq_getElem hi]
  rw[e1];exact .cons _ t' (ih λj hj=>mem j (aaf _ hj))
end
end L2
end
section
namespace L2
open PySem PySem.Spec PyProof.Rows
section
variable {X:Cx}
theorem Inv.draws(I:Inv X pins σ H s)(d:Drawn):Inv X pins σ H { s with drawn:=d }:=⟨I.ok,I.os,I.bare,I.base,I.loc,I.cell,I.free,I.gy,I.pin,I.hok,I.len⟩
def Zc(K:Frag)(te:TE):TE:=λσ H Q=>te σ H λx H1=>∃p ns,x=.ref p/\gU K H1 p (ns.map V.int)/\ns.length<64/\∀l,H1 l=none->Q (.ref l) (upd H1 l (.lst ((sortI (iu [] ns)).map V.int)))
theorem wm:∀(ns ks:List Int),(iu ks ns).length<=ks.length+ns.length
 |[],ks=>by simp[iu]
 | n::ns,ks=>by
  rw[iu,length_cons];have:=wm ns (qj ks n);have:=qk ks n;omega
theorem Jf{p1 p2 pos1 pos2:Pos}(hh:X.A.handled=none)(hg:Gl X "sorted")(hm:X.mg "sorted" = none)(Zd:Gl X "set")(hm2:X.mg "set" = none)(hv:bootBuiltins "sorted" = some (.builtin "sorted"))(hv2:bootBuiltins "set" = some (.type "set"))(he:PE X e te)
  (hs:starEach [e] X.env=[(false,eval e X.env)]):PE X (.Call (.Name "sorted" p1) [.Call (.Name "set" p2) [e] [] pos2] [] pos1) (Zc X.K te):=by
 intro pins s σ H Q I h;refine wpAny_Call_Name_kw (jG I hg hm hv ?_ (by decide) (by decide));refine PyProof.Rows.callWith_builtin1 ?_ rfl rfl;show wpAny _ _ (spliced [(false,eval (.Call (.Name "set" p2) [e] [] pos2) X.env)]) _ _ s;refine Calls.spliced_cons ?_;refine wpAny_Call_Name_kw (jG I Zd hm2 hv2 ?_ (by decide) (by decide));refine PyProof.Rows.callWith_type1 ?_ hs rfl;show wpAny _ _ (spliced (backTo pos2 (starEach [e] X.env))) _ _ s;rw[hs];show wpAny _ _ (spliced [(false,eval e X.env)]) _ _ s;refine Calls.spliced_cons (cX (he pins s σ H _ I h) λu s1 ⟨x,H1,I1,r1,p,ns,ex,hq,h64,q⟩=>Calls.spliced_nil ?_);subst ex;cases r1;obtain⟨its,rv,pl,hz⟩:=I1.list hq;have hi:=intsAre_of rv;have hl:=hi.length;refine v9 hh pl.isList (by simpa using hi) (by show its.toArray.size+1<4096;rw[aap,hl];omega) λh2 tk S k2=>?_;obtain⟨o,es,ep,t,S⟩:=S;refine Calls.spliced_nil ?_;have hk:=wm ns [];have VX:(iu [] ns).length<64:=by simp at hk;omega
 refine zm (s:={ s1 with heap:=h2,toks:=tk }) hh S VX λh3 Ze d D out e k3 zD eD hout=>?_;have hD:s1.heap.objs.size<=D:=aaE (le_of_lt (aan S.at_)) zD;have hn:H1 D=none:=I1.hok.fresh hD;refine⟨.ref D,_,(I1.draws d).laid (t':=Ze) (λb o z=>k3 b o (k2 b o (aan z) z)) hD (show bL X.prog X.w _ _ _ (.lst ((sortI (iu [] ns)).map V.int)) from⟨?_,out,e,ku hout,eD⟩),rfl,q _ hn⟩;rw[aag,(sortI_perm _).length_eq,sizeLine_eq];omega
end
end L2
end
section
namespace L2
open PySem PySem.Spec PyProof.Rows PySem.W
end L2
end
section
namespace L2
open PySem PySem.Spec PyProof.Rows
end L2
end
section
namespace L2
open PySem PySem.Spec PyProof.Rows PySem.W
end L2
end
section
namespace L2
open PySem PySem.Spec PyProof.Rows
section
variable {X:Cx}
theorem NB:nh X (compareOp .Is) (λx y H Q=>∃b c,x=.bl b/\y=.bl c/\Q (.bl (b==c)) H):=by
 intro pins s σ H x y v u Q I rx ry h;obtain⟨b,c,rfl,rfl,q⟩:=h;cases rx;cases ry;refine wpAny_is_plain rfl (uD I q ?_);cases b<;>cases c<;>rfl
theorem Jg:nh X (compareOp .IsNot) (λx y H Q=>∃b c,x=.bl b/\y=.bl c/\Q (.bl (!(b==c))) H):=by
 intro pins s σ H x y v u Q I rx ry h;obtain⟨b,c,rfl,rfl,q⟩:=h;cases rx;cases ry;refine wpAny_isNot_plain rfl (uD I q ?_);cases b<;>cases c<;>rfl
end
end L2
end
section
namespace L2
open PySem PySem.Spec PyProof.Rows PySem.W
section
variable {X:Cx}
structure R6 (K:Frag) (C:Addr) (m:Str) (f:Addr):Prop where
 ga:specialIn K (.ref C) "__getattribute__" = some (some (.builtin "type.__getattribute__"))
 rd:PySem.W.readsIn K C (.type "type")=true
 at_:PySem.W.findCls K (.ref C) (.type "type") m=some (.val (.ref f))
 kp:keepIn K (.ref f)=true
structure Xk (K:Frag) (C:Addr):Prop where
 ha:findIn K (.ref C) "__class__" = some (some (.builtin "object.__class__"))
 hn:specialIn K (.builtin "object.__class__") "__get__" = some (some (.builtin "getset_descriptor.__get__"))
 htk:takesIn K (.builtin "object.__class__")=some true
 hm:PySem.W.mroIn K C (.type "object")=some true
end
end L2
end
section
namespace L2
open PySem PySem.Spec PyProof.Rows
section
variable {X:Cx}
def Xl(k:Int):Value->Bool
 |.int a _=>a==k
 |_=>false
def Jh:V->List V->Hp->VK->Prop:=λx vs H Q=>∃(l:Addr) (ks:List Int) (i:Int),x=.ref l/\vs=[.int i]/\H l=some (.lst (ks.map V.int))/\i∈ks/\Q .non (upd H l (.lst ((ks.map V.int).eraseIdx (ks.idxOf i))))
theorem CC:RM X "list.remove" Jh:=by
 intro pins s σ H x vs v us Q I rx rv h;obtain⟨l,ks,i,rfl,rfl,hH,hi,q⟩:=h;cases rx;obtain⟨u,rfl,ru⟩:=rv.one;obtain⟨t,rfl⟩:=ru;obtain⟨z,its,n,r,hl,e⟩:=I.Cg hH;have hk:ks.length=its.length:=by rw[<-hl,aag]
 have at':∀m (hm:m<ks.length),∃t,its[m]?=some (.int ks[m] t):=λm hm=>by
  obtain⟨w,hw,t,rfl⟩:=r.get (i:=m) (x:=V.int ks[m]) (by rw[aaI,aaz hm];rfl);exact⟨t,hw⟩
 have hj:ks.idxOf i<ks.length:=List.idxOf_lt_length_of_mem hi;have sz:its.toArray.size=ks.length:=by rw[aap,hk]
 have val:∀m (hm:m<its.toArray.size),Xl i its.toArray[m]=(ks[m]'(sz▸hm)==i):=λm hm=>by
  obtain⟨t,q⟩:=at' m (sz▸hm);have q2:its.toArray[m]=.int (ks[m]'(sz▸hm)) t:=by have:=Array.getElem?_eq_getElem hm;rw[List.getElem?_toArray,q]at this;exact(aaA this).symm
  rw[q2];rfl
 refine call_meets F.slot_list_remove ⟨_,e,rfl⟩ F.entry_list_remove (F.args_list_remove_2 _ _)
  (MeetsSeq.list_remove l its.toArray n (.int i t) (Xl i) (λy hy=>?_) (ks.idxOf i) (by rw[sz];exact hj) ?_ ?_ (by rw[aap];omega)) ⟨e,?_⟩
 ·obtain⟨m,hm,rfl⟩:=List.mem_iff_getElem.mp (List.mem_toArray.mp hy);obtain⟨t',q⟩:=at' m (by omega);rw[aaz hm]at q;rw[aaA q];exact MeetsSeq.EqGives.int _ _ _ _
 ·rw[val];exact beq_iff_eq.mpr (List.getElem_idxOf hj)
 ·intro m hm h2
  rw[val];exact beq_eq_false_iff_ne.mpr λe=>by
   have:=List.not_of_lt_findIdx (p:=(· == i)) (xs:=ks) (i:=m) h2;exact nomatch this.symm.trans (beq_iff_eq.mpr e)
 refine⟨.non,_,I.DZ (its':=its.eraseIdx (ks.idxOf i)) hH e ?_ (r.eraseIdx _) ?_,rfl,q⟩
 ·show its.toArray.eraseIdxIfInBounds _=(its.eraseIdx _).toArray;rw[List.eraseIdxIfInBounds_toArray]
 ·have:=sW (ks.map V.int) (ks.idxOf i);omega
end
def KD(h h':Heap):Prop:=∀b o,h.get? b=some o->∃o',h'.get? b=some o'/\o'.dict=o.dict
theorem KD.refl:KD h h:=λ_ o e=>⟨o,e,rfl⟩
theorem KD.trans{h h1 h2:Heap}(a:KD h h1)(b:KD h1 h2):KD h h2:=λx o e=>by
 obtain⟨o1,e1,d1⟩:=a x o e;obtain⟨o2,e2,d2⟩:=b x o1 e1;exact⟨o2,e2,d2.trans d1⟩
theorem KD.push(o:Obj):KD h (h.push o):=λb ob e=>⟨ob,aad _ e,rfl⟩
def KF(f:Obj->Obj):Prop:=∀o,o.isFreed=false->(f o).dict=o.dict/\(f o).isFreed=false
theorem KD.update(hf:KF f):KD h (h.update a f):=λb o e=>by
 by_cases c:a=b
 ·subst c;have fr:=(Heap.get?_some_iff.mp e).2;exact⟨f o,aaQ f e (hf o fr).2,(hf o fr).1⟩
 ·exact⟨o,(get?_update_other _ _ c).trans e,rfl⟩
def Tame{α:Type}:Sem α -> Prop
 |.pure _=>True
 |.raise _=>True
 |.unsupported _=>True
 |.finish _=>True
 |.rule _ k=>Tame (k ())
 |.at _ k=>Tame (k ())
 |.load _ _ k=>∀o,Tame (k o)
 |.update _ _ f k=>KF f/\Tame (k ())
 |.loadIfAlive _ k=>∀o,Tame (k o)
 |.point _ k=>Tame (k ())
 |.register _ k=>Tame (k ())
 |.alloc _ k=>∀a,Tame (k a)
 |.fresh k=>∀a,Tame (k a)
 |.ask k=>∀a,Tame (k a)
 |.stack k=>∀a,Tame (k a)
 |.handled _ k=>∀a,Tame (k a)
 |_=>False
theorem Ji{α:Type}{Q:α -> Pos->Shared->Prop}(h0:Heap):∀(t:Sem α) (p:Pos) (s:Shared),Tame t->KD h0 s.heap->Sem.wp M Γ t Q E p s->Sem.wp M Γ t (λa p' s'=>Q a p' s'/\KD h0 s'.heap) (λe p' s'=>E e p' s'/\KD h0 s'.heap) p s:=by
 intro t
 induction t with
 |pure a=>intro p s _ k h;rw[Sem.wp]at h |-;exact⟨h,k⟩
 |raise e=>intro p s _ k h;rw[Sem.wp]at h |-;exact⟨h,k⟩
 |unsupported w=>intro p s _ k h;rw[Sem.wp]at h;exact h.elim
 |finish w=>intro p s _ k h;rw[Sem.wp]at h;exact h.elim
 |rule _ k ih=>intro p s t kd h;rw[Sem.wp]at h |-;exact ih () p s t kd h
 |«at» _ k ih=>intro p s t kd h;rw[Sem.wp]at h |-;exact ih () _ s t kd h
 |load a _ k ih=>intro p s t kd h;rw[Sem.wp]at h |-;obtain⟨o,e,h⟩:=h;exact⟨o,e,ih o p s (t o) kd h⟩
 |update a _ f k ih=>intro p s t kd h;rw[Sem.wp]at h |-;exact⟨h.1,ih () p _ t.2 (kd.trans (KD.update t.1)) h.2⟩
 |loadIfAlive a k ih=>intro p s t kd h;rw[Sem.wp]at h |-;exact ih _ p s (t _) kd h
 |point _ k ih=>intro p s t kd h;rw[Sem.wp]at h |-;exact ih () p s t kd h
 |register _ k ih=>intro p s t kd h;rw[Sem.wp]at h;exact h.elim
 |alloc o k ih=>intro p s t kd h;rw[Sem.wp]at h |-;exact ih _ p _ (t _) (kd.trans (KD.push o)) h
 |fresh k ih=>intro p s t kd h;rw[Sem.wp]at h |-;exact ih _ p _ (t _) kd h
 |ask k ih=>intro p s t kd h;rw[Sem.wp]at h |-;exact ih _ p s (t _) kd h
 |stack k ih=>intro p s t kd h;rw[Sem.wp]at h |-;exact ih _ p s (t _) kd h
 |handled _ k ih=>intro p s t kd h;rw[Sem.wp]at h |-;exact ih _ p s (t _) kd h
 |choose|os|call|genState|newGen|resume|yield|fork|thread|await=>intro p s t;exact t.elim
theorem Tame.bind{α β:Type}{m:Sem α}{f:α -> Sem β}(hm:Tame m)(hf:∀a,Tame (f a)):Tame (m.bind f):=by
 induction m with
 |pure a=>exact hf a
 |raise e=>trivial
 |unsupported w=>trivial
 |finish w=>trivial
 |rule _ k ih=>exact ih () hm
 |«at» _ k ih=>exact ih () hm
 |load a _ k ih=>exact λo=>ih o (hm o)
 |update a _ f k ih=>exact⟨hm.1,ih () hm.2⟩
 |loadIfAlive a k ih=>exact λo=>ih o (hm o)
 |point _ k ih=>exact ih () hm
 |register _ k ih=>exact ih () hm
 |alloc o k ih=>exact λa=>ih a (hm a)
 |fresh k ih=>exact λa=>ih a (hm a)
 |ask k ih=>exact λa=>ih a (hm a)
 |stack k ih=>exact λa=>ih a (hm a)
 |handled _ k ih=>exact λa=>ih a (hm a)
 |choose|os|call|genState|newGen|resume|yield|fork|thread|await=>exact hm.elim
theorem pC{α:Type}{t:Sem α}{Q:α -> Shared->Prop}(ht:Tame t)(h:wpAny M A t Q E s):wpAny M A t (λa s'=>Q a s'/\KD s.heap s'.heap) (λe s'=>E e s'/\KD s.heap s'.heap) s :=
 fun Γ p hΓ=>Ji s.heap t p s ht KD.refl (h Γ p hΓ)
theorem Tame.bind'{α β:Type}{m:Sem α}{f:α -> Sem β}(hm:Tame m)(hf:∀a,Tame (f a)):Tame (m >>= f):=Tame.bind hm hf
theorem nG(a:Addr):Tame (load a):=by
 unfold load
 first|exact λo=>trivial|trivial
theorem sf(v:Value):Tame (fieldsOf v):=by
 unfold fieldsOf
 split
 ·refine Tame.bind' (nG _) λo=>?_
  split<;>trivial
 ·trivial
theorem iZ(v:Value)(i:Nat):Tame (field v i):=by
 unfold field;refine Tame.bind' (sf v) λvs=>?_
 split<;>trivial
theorem oh(hf:KF f):Tame (update a f):=⟨hf,trivial⟩
theorem NC(g:Array Value->Array Value):KF (Obj.mapFields g):=λo ho=>by
 obtain⟨c,d,dt,sl⟩:=o;cases dt<;>first|exact⟨rfl,rfl⟩|exact⟨rfl,ho⟩
theorem iy(v:Value)(i:Nat)(x:Value):Tame (setField v i x):=by
 unfold setField
 split
 ·unfold updateField
  refine Tame.bind' (nG _) λo=>?_
  split
  ·split
   ·exact oh (NC _)
   ·trivial
  ·trivial
 ·trivial
theorem jK(e:Value)(f:Option Addr):Tame (setFlight e f):=by
 unfold setFlight;refine Tame.bind' (iZ _ _) λtb=>?_
 split
 ·exact iy _ _ _
 ·trivial
theorem o7(f:Addr)(b:Bool):Tame (entryPlaceOf f b):=by
 unfold entryPlaceOf;refine Tame.bind' (by unfold stack;exact λ_=>trivial) λacts=>?_
 split<;>trivial
theorem wo(n:String)(d:Data)(x:Option Addr):Tame (newObj (.type n) d x):=by
 have as:Tame (newObjAsIs (.type n) d x):=by unfold newObjAsIs;exact Tame.bind' (by unfold alloc;exact λ_=>trivial) λ_=>trivial
 unfold newObj;dsimp only
 split<;>first
  |exact as
  |(split<;>first|exact as|trivial)
theorem sj(a b c d e:Value)(pl:List Value):Tame (EntryCells.newEntry a b c d e pl):=by
 unfold EntryCells.newEntry newFields;exact wo _ _ _
theorem qt:∀l:List Env,Tame (readyFrames l)
 |[]=>trivial
 | env::outer=>by
  unfold readyFrames
  split
  ·refine Tame.bind' (nG _) λo=>?_
   split
   ·trivial
   ·refine Tame.bind' ?_ λim=>Tame.bind' ?_ λback=>Tame.bind' (oh λo ho=>?_) λ_=>qt outer
    ·unfold behindIsImport
     split
     ·trivial
     ·split
      ·trivial
      ·exact Tame.bind' (iZ _ _) λ_=>trivial
    ·unfold keptBack
     split
     ·split
      ·trivial
      ·refine Tame.bind' ?_ λ_=>trivial;unfold underTheClaimsCaller;exact Tame.bind' (by unfold stack;exact λ_=>trivial) λ_=>trivial
     ·trivial
    ·obtain⟨c,d,dt,sl⟩:=o;cases dt<;>exact⟨rfl,ho⟩
  ·trivial
theorem uT(env:Env):Tame (PySem.frameOf env):=by
 unfold PySem.frameOf;refine Tame.bind' ?_ λenvs=>Tame.bind' ?_ λf=>?_
 ·unfold frameEnvs;exact Tame.bind' (by unfold stack;exact λ_=>trivial) λ_=>trivial
 ·unfold frameObject
  split
  ·trivial
  ·exact Tame.bind' (qt _) λ_=>trivial
 ·split<;>trivial
theorem tR(e:Value)(env:Env):Tame (noteFrame e env):=by
 unfold noteFrame
 split
 ·refine Tame.bind' (iZ _ _) λhead=>?_
  have jp:∀f:Addr,Tame (do
    let a <-PySem.frameOf env
    let pl <-entryPlaceOf f (head != Value.none)
    let b <-EntryCells.newEntry head a Value.none (rawInt f) Value.none pl
    setField e 1 b):=λf=>Tame.bind' (uT env) λ_=>Tame.bind' (o7 _ _) λ_=>Tame.bind' (sj _ _ _ _ _ _) λ_=>iy _ _ _
  dsimp only
  split
  ·refine Tame.bind' (iZ _ _) λx=>?_
   split
   ·trivial
   ·exact Tame.bind' (iy _ _ _) λ_=>jp _
  ·exact jp _
 ·trivial
theorem mz(env:Env)(e:Value):Tame (leaving env e):=by
 unfold leaving;exact Tame.bind' (tR _ _) λ_=>jK _ _
section
variable {K:Frag} {prog:Program} {w:World} {A:Around} {E:Value->Shared->Prop} {h:Heap} {g:Array GenState} {d:Drawn} {t:Nat} {os:OsState}
variable {nm q:Str} {C N:Addr} {bs bm bmB:List Value} {hdct:Bool} {sn:List Str} {sub:List Value} {ab:Bool} {col:Option Bool} {dd:Option Addr} {k0 k1 k2 k3 k5:Option Value} {B newId initId:String}
theorem qu(F:ExcBaseFacts B newId initId bmB)(T:OwnTail h bmB bm){rest:List Value}{fI:Addr}{Q:Fin->Shared->Prop}
  (hC:h.get? C=some (excClassObj nm q C N bs bm hdct sn sub ab col dd k0 k1 k2 k3 k5 newId)) (X:K.In h) (hi:findIn K (.ref C) "__init__" = some (some (.ref fI))) (hf:typeIn K (.ref fI)=some (.type "function"))
  (hq:∀h' e,Heap.MadeExcOf h h' e (.ref C) rest->h.objs.size<=e->wpAny (model prog w) A (call (.ref fI) (.ref e::rest)) (λr s'=>r=.none/\Q (.done (.ret (.ref e))) s') E ⟨h',g,d,t,os⟩) (hrest:rest.length<=sizeLine) :
  wpAny (model prog w) A (Builtin.«type.__call__» ⟨.ref C::rest,[]⟩) Q E ⟨h,g,d,t,os⟩:=by
 repeat (first|with_reducible refine wpAny_loadPart_at hC ?_|with_reducible refine wpAny_madeBy_exc hC ?_|wp_step)
 refine codeAny_call_builtin_code (Code.quiet_builtin _ F.quiet) (wpAny_check_new_subT F T hC ?_);refine codeAny_exc_new_subT F T hC ?_ hrest;show wpAny _ _ _ _ _ _;have kp:∀b o,h.get? b=some o->((h.push { cls:=.type "tuple",data:=.seq rest.toArray }).push { cls:=.ref C,data:=.fields [.ref h.objs.size,.none,.none,.none,.bool false,.none].toArray }).get? b=some o:=λb o e=>aad _ (aad _ e);have hget:((h.push { cls:=.type "tuple",data:=.seq rest.toArray }).push { cls:=.ref C,data:=.fields [.ref h.objs.size,.none,.none,.none,.bool false,.none].toArray }).get? (h.objs.size+1)=some { cls:=.ref C,data:=.fields [.ref h.objs.size,.none,.none,.none,.bool false,.none].toArray }:=by heap_get
 have hcC:(Value.ref C::bm).contains (.ref C)=true:=by simp
 have Zf:=kp _ _ hC;unfold isInstance
 repeat (first|with_reducible refine wpAny_loadPart_at hget ?_|(with_reducible refine wpAny_isSubtype_exc Zf ?_;rw[hcC])|wp_step)
 show wpAny _ _ (typeLookup (.ref C) _) _ _ _;refine looks_findIn (X.keeps kp) hi _ _ _ _ (λ_ _ e=>e) ?_;refine wpAny_holding (aaa ?_);refine PySem.W.bind_fn (X.keeps kp) (.ref (h.objs.size+1)) hf _ _ _ _ (λ_ _ e=>e) ?_;refine aaa (aaK (hq _ (h.objs.size+1) ⟨kp,Heap.get?_none_of_le (le_succ _),h.objs.size,hget,Heap.get?_none_of_le (aam _),?_⟩ (le_succ _)) (λr s' hr=>?_) λ_ _ x=>x)
 ·exact aad _ (Heap.get?_push_at rfl rfl)
 ·obtain⟨rfl,hQ⟩:=hr
  wp_walk
  exact hQ
theorem CD(F:ExcBaseFacts B newId initId bmB)(T:OwnTail h bmB bm){rest:List Value}{fI:Addr}{Q:Value->Shared->Prop}
  (hC:h.get? C=some (excClassObj nm q C N bs bm hdct sn sub ab col dd k0 k1 k2 k3 k5 newId)) (X:K.In h) (hi:findIn K (.ref C) "__init__" = some (some (.ref fI))) (hf:typeIn K (.ref fI)=some (.type "function"))
  (hq:∀h' e,Heap.MadeExcOf h h' e (.ref C) rest->h.objs.size<=e->wpAny (model prog w) (A.under (.builtin "type.__call__" ⟨.ref C::rest,[]⟩)) (call (.ref fI) (.ref e::rest)) (λr s'=>r=.none/\Q (.ref e) s') E ⟨h',g,d,t,os⟩) (hrest:rest.length<=sizeLine) :
  wpAny (model prog w) A (call (.ref C) rest) Q E ⟨h,g,d,t,os⟩:=by
 have f1:=tc_lookup;have f2:=tc_bind (.ref C);have hT:(⟨h,g,d,t,os⟩:Shared).TypeIs (.ref C) "type":=⟨_,hC,rfl⟩;refine wpAny_call (codeAny_of_tree ?_);show wpAny _ _ (callAny (.ref C) _) _ _ _
 repeat (any_goals (first|assumption|with_reducible refine wpAny_loadPart_at hC ?_|wp_step))
 refine⟨rfl,?_⟩;exact codeAny_call_builtin_at (Code.quiet_builtin _ (by decide +kernel)) entry_typeCall (wpAny_check_type_call_sub hC (qu F T hC X hi hf hq hrest))
end
structure Ep (K:Frag) (C D:Addr) (cd:ClassData):Prop where
 cls:PySem.W.clsIn K C=some cd
 mro:cd.mro=[.ref C,.ref D,.type "ValueError",.type "Exception",.type "BaseException",.type "object"]
 hd:cd.hasDict=true
 sa:findIn K (.ref C) "__setattr__" = some (some (.builtin "object.__setattr__"))
 ob:PySem.W.mroIn K C (.type "object")=some true
section
variable {prog:Program} {w:World} {A:Around} {E:Value->Shared->Prop} {s:Shared} {K:Frag} {C D x:Addr} {cd:ClassData} {ox:Obj} {name:Str} {v:Value}
theorem Jj(X:K.In s.heap)(c:Ep K C D cd)(hn:findIn K (.ref C) name=some none)(hx:s.heap.get? x=some ox)(hcl:ox.cls=.ref C)(hdn:ox.dict=none)(hdat:∃vs,ox.data=.fields vs)
  (h:∀h' tk,h'.get? x=some { ox with dict:=some s.heap.objs.size }->h'.Ns1 s.heap.objs.size (λy=>if y=name then some v else none)->(∀b o,b≠x->s.heap.get? b=some o->h'.get? b=some o)->Q () { s with heap:=h',toks:=tk }) :
  wpAny (model prog w) A (setAttr (.ref x) name v) Q E s:=by
 obtain⟨vs,hdat⟩:=hdat
 have I:PySem.W.InstAt s.heap x ox C none:=⟨hx,hcl,by unfold notCls;rw[hdat],by rw[hdn];trivial⟩;have SF:=PySem.F.store_ValueError;have sub:PySem.W.Looks (model prog w) s.heap (isInstance (.ref x) (.type "object")) true:=I.type.andThen (looks_mroIn X c.ob);have hmL:PySem.W.Looks (model prog w) s.heap (mroOf (.ref C)) cd.mro:=(looks_clsIn X c.cls).andThen .now;refine PySem.W.set_plain X I c.sa ?_;refine codeAny_call_builtin SF.slot.plain SF.entry (@PySem.W.check_slot (model prog w) _ _ _ "object.__setattr__" "object" "__setattr__" (.ref x) [.str name s.toks,v] [] _ SF.kind SF.split sub (SF.args (.ref x) (.str name s.toks) v) ?_);rw[osa_eq,refuse_eq];refine aaa (aaa (I.type _ _ _ _ (λ_ _ e=>e) (aaa (hmL _ _ _ _ (λ_ _ e=>e) ?_))));rw[c.mro,refuseLoop_ref,refuseLoop_ref,SF.passes];refine aah (aaa (I.type _ _ _ _ (λ_ _ e=>e) (aaa (looks_findIn X hn _ _ _ _ (λ_ _ e=>e) (aaa ?_)))));refine aah ?_;dsimp only;have hxs:x≠s.heap.objs.size:=aav (aan hx);have hx1:(s.heap.push { cls:=.type "dict",data:=.dict #[] }).get? x=some ox:=aad _ hx;refine aaa (aah (aaa (aaa (wpAny_loadPart hx ?_))));rw[hcl];refine aaa (looks_clsIn X c.cls _ _ _ _ (λ_ _ e=>e) ?_);rw[c.hd,hdn,hdat];refine aaa (wpAny_alloc' ?_);refine aaa (wpAny_update' hx1 ?_);refine aah ?_;have hgd:((s.heap.push { cls:=.type "dict",data:=.dict #[] }).update x λo=>{ o with dict:=some s.heap.objs.size }).get? s.heap.objs.size=some { cls:=.type "dict",data:=.dict #[] } :=
  (get?_update_ne _ _ _ _ hxs.symm).trans (Heap.get?_push_at rfl rfl)
 have hnd:((s.heap.push { cls:=.type "dict",data:=.dict #[] }).update x λo=>{ o with dict:=some s.heap.objs.size }).Ns s.heap.objs.size (λ_=>none) :=
  ⟨_,#[],_,hgd,rfl,λe he=>absurd he (by simp),λ_=>rfl⟩
 show wpAny _ _ (Builtin.ObjectAttr.storeInDict s.heap.objs.size (.str name _) name v) _ _ _;refine aaa (aah (aaa (wpAny_nsSet1 (Heap.Ns1.of_empty hnd) λh' hn' hs=>?_)));obtain⟨oD,esD,epD,Zg,Zh,Jk⟩:=hn'.count (Within.cons name v Within.nil);refine aaa (wpAny_lookBehind Zg (by rw[Zh];exact pastItsLine_dict (aaE Jk (by rw[length_cons,length_nil,sizeLine_eq];omega))) ?_);refine aah ?_;have hx':h'.get? x=some { ox with dict:=some s.heap.objs.size }:=by refine(hs.2 x hxs).trans (aaQ _ hx1 ?_);obtain⟨oc,od,R5,osl⟩:=ox;cases hdat;rfl
 refine h h' _ hx' hn' λb o hb e=>?_;exact(hs.2 b (aav (aan e))).trans ((get?_update_ne _ _ _ _ hb).trans (aad _ e))
end
abbrev Er(C t:Addr)(d:Option Addr):Obj:={ cls:=.ref C,dict:=d,data:=.fields [.ref t,.none,.none,.none,.bool false,.none].toArray }
def ExcAt(e C t:Addr)(d:Option Addr):Heap->Prop:=λh=>h.get? e=some (Er C t d)
theorem zo(q:ExcAt e C t d h):bL P w H h e (.ext (ExcAt e C t d)) :=
 ⟨q,⟨_,q⟩,λh1 h2 a k=>k _ a⟩
section
variable {X:Cx} {o value:Expr} {f:Str} {pos pos':Pos} {ta tv:TE} {pins:List (Addr×Obj)} {σ:St} {H:Hp} {s:Shared} {e C D t dx:Addr} {cd:ClassData} {y:V} {u:Value}
def VY(K:Frag)(ta tv:TE)(f:Str):TS:=λEn σ H=>tv σ H λy H1=>ta σ H1 λx H2=>∃e C D t cd,x=.ref e/\H2 e=some (.ext (ExcAt e C t none))/\Ep K C D cd/\findIn K (.ref C) f=some none /\
 ∀dx,H2 dx=none->dx≠e->En.nx σ (upd (upd H2 dx (.xd [(f,y)])) e (.ext (ExcAt e C t (some dx))))
theorem Jl(I:Inv X pins σ H s)(he:H e=some (.ext (ExcAt e C t none)))(c:Ep X.K C D cd)(hn:findIn X.K (.ref C) f=some none)(ry:RelV y u)
  (h:∀dx s',H dx=none->dx≠e->Inv X pins σ (upd (upd H dx (.xd [(f,y)])) e (.ext (ExcAt e C t (some dx)))) s'->Q () s'):wpAny (model X.prog X.w) A (setAttr (.ref e) f u) Q E s:=by
 have q:s.heap.get? e=some (Er C t none):=(I.hok e _ he).1;refine Jj I.kQ c hn q rfl rfl ⟨_,rfl⟩ λh' tk hx hns hk=>?_;have nd:H s.heap.objs.size=none:=I.hok.fresh (aam _);have ne:s.heap.objs.size≠e:=ne_of_gt (aan q);obtain⟨od,es,ep,hod,r⟩:=id hns;have fr:od.isFreed=false:=(Heap.get?_some_iff.mp hod).2;have p1:(s.heap.push od).get? s.heap.objs.size=some od:=aaw s.heap fr;have I1:=I.laid (a:=s.heap.objs.size) (o:=.xd [(f,y)]) (h':=s.heap.push od) (t':=s.toks) (λb ob z=>aad _ z) (aam _) (by
  refine⟨_,hns.at λo z=>?_,λg=>?_⟩
  ·rw[hod]at z;cases z;exact p1
  ·show lV (List.lookup g [(f,y)]) (if g=f then some u else none)
   by_cases c:g=f
   ·subst c;rw[aae rfl];simp only[List.lookup,beq_self_eq_true];exact ry
   ·rw[aac c]
    have:(g==f)=false:=by simpa using c
    simp only[List.lookup,this];trivial)
 have I2:=I1.write (x:=e) (e:=e) (o:=.ext (ExcAt e C t (some s.heap.objs.size))) (h':=h') (t':=tk) (by rw[ao (Ne.symm ne),he];exact True.intro) (.inl rfl) (λb ob hb z=>by
  by_cases cb:b=s.heap.objs.size
  ·subst cb;have z:(s.heap.push od).get? s.heap.objs.size=some ob:=z;rw[p1]at z;cases z;exact hod
  ·exact hk b ob hb (by
    have z:(s.heap.push od).get? b=some ob:=z;exact(Heap.get?_push_cases z).resolve_left λw=>cb w.1)) ⟨_,hx⟩ (zo hx)
 exact h _ _ nd ne I2
theorem ND(ha:PE X o ta)(hv:PE X value tv)(hs:swapsWith value (some (.Attribute o f pos')) pos.line X.env=pure false):PS X (.Assign [.Attribute o f pos'] value pos) (VY X.K ta tv f):=by
 intro pins s σ H D I h;refine plainObj_wpAny_Assign_Attribute (cX (hv pins s σ H _ I h) λu s1 ⟨y,H1,I1,ry,q⟩=>cX (ha pins s1 σ H1 _ I1 q) λov s2 ⟨x,H2,I2,rx,e,C,D',t,cd,ex,ee,c,n,q2⟩=>?_) hs;subst ex;obtain rfl:ov=Value.ref e:=rx;exact Jl I2 ee c n ry λdx s3 nd ne I3=>⟨σ,_,I3,q2 dx nd ne⟩
end
theorem bL.there(x:bL P w H h a o):∃ob,h.get? a=some ob:=by
 cases o with
 |lst xs=>obtain⟨_,_,_,_,e⟩:=x;exact⟨_,e⟩
 |tup xs=>obtain⟨_,_,_,_,e,_⟩:=x;exact⟨_,e⟩
 |dK kvs=>obtain⟨_,_,_,_,o,_,_,e,_⟩:=x;exact⟨_,e⟩
 |dT kvs=>obtain⟨_,_,_,_,o,_,_,e,_⟩:=x;exact⟨_,e⟩
 |set S n=>obtain⟨o,_,_,_,e,_⟩:=x;exact⟨_,e⟩
 |ins C dx fs=>obtain⟨_,_,_,e,_⟩:=x;exact⟨_,e⟩
 |own y=>obtain⟨_,e⟩:=x;exact⟨_,e⟩
 |xd fs=>obtain⟨_,⟨_,_,_,e,_⟩,_⟩:=x;exact⟨_,e⟩
 |rng lo hi=>obtain⟨_,_,_,e⟩:=x;exact⟨_,e⟩
 |sM ob u=>obtain⟨e,_⟩:=x;exact⟨_,e⟩
 |tbl ps=>exact⟨_,(show h.get? a=some _ from x)⟩
 |met f y=>exact⟨_,(show h.get? a=some _ from x)⟩
 |ext φ=>obtain⟨_,⟨_,e⟩,_⟩:=x;exact⟨_,e⟩
theorem qv(x:jw P w H h)(e:h.get? a=none):H a=none:=by
 cases q:H a with
 |none=>rfl
 |some u=>obtain⟨o,z⟩:=bL.there (x a u q);rw[e]at z;cases z
structure QV (H:Hp) (h:Heap) (a:Addr) (dx:Option Addr) (C T:Addr):Prop where
 ob:∃oe vs a0,h.get? a=some oe/\oe.cls=.ref C/\oe.dict=dx/\oe.data=.fields vs/\vs[0]?=some a0/\vs[1]?=some (.ref T)
 tb:∃oT ts,h.get? T=some oT/\oT.data=.fields ts/\ts[3]?=some .none
 ne:T≠a
 fa:H a=none
 fT:H T=none
structure Lv (fs:List Addr) (a:Addr) (h h':Heap):Prop where
 keep:∀b o,b≠a->b∉fs->h.get? b=some o->h'.get? b=some o
 slot:∀b o,b∈fs->h.get? b=some o->∃sl,h'.get? b=some { o with slots:=sl }
 there:∀b o,h.get? b=some o->∃o',h'.get? b=some o'
section
variable {P:Program} {w:World} {M:Model} {A:Around} {E:Value->Shared->Prop} {s:Shared} {H:Hp} {base:Heap} {env:Env} {outer:List Env} {L a C T:Addr} {dx:Option Addr}
theorem cE{h:Heap}:∀{l:List Env},h.FunFrames base l->∀b∈frs l,∃o,h.get? b=some o/\∀vs,o.data≠.fields vs
 |[],_,b,hb=>by simp[frs]at hb
 | env::r,⟨_,⟨L,o,hf,_,ho,hd⟩,hr⟩,b,hb=>by
  unfold frs at hb;rw[filterMap_cons,hf]at hb
  rcases aao.mp hb with rfl|hb
  ·exact⟨o,ho,hd⟩
  ·exact cE hr b hb
theorem gY{h:Heap}{as:List Addr}:∀{l:List Env},h.FunFrames base l->(∀b∈frs l,b∈as)->h.FunFrames (hideAll h as) l
 |[],_,_=>trivial
 | env::r,⟨hk,⟨L,o,hf,_,ho,hd⟩,hr⟩,hin=>by
  have e:frs (env::r)=L::frs r:=by unfold frs;rw[filterMap_cons,hf]
  exact⟨hk,⟨L,o,hf,hideAll_none _ (hin L (by rw[e];exact aak)),ho,hd⟩,gY hr λb hb=>hin b (by rw[e];exact aaf _ hb)⟩
theorem CF(hok:jw P w H s.heap)(hfr:A.frames=some (env::outer))(hl:s.heap.FunFrames base (env::outer))(hf:env.frame=some L){a0:Value}(he:s.heap.get? a=some oe)(hc:oe.cls=.ref C)(hdx:oe.dict=dx)(hd:oe.data=.fields vs)(h0:vs[0]?=some a0)(h1:vs[1]?=some .none)(ha:H a=none)
  (h:∀h' T,QV H h' a dx C T->s.heap.get? T=none->Lv (frs (env::outer)) a s.heap h'->Q () { s with heap:=h' }):wpAny M A (leaving env (.ref a)) Q E s:=by
 have hin:∀b∈frs (env::outer),b∈a::frs (env::outer):=λb hb=>aaf _ hb;have key:=wpAny_leaving_firstW (M:=M) (A:=A) (E:=E) (base:=hideAll s.heap (a::frs (env::outer))) (Q:=λ_ s'=>∃h',s'={ s with heap:=h' }/\Heap.LeftW (hideAll s.heap (a::frs (env::outer))) (env::outer) a oe.cls a0 s.heap h') hfr (gY hl hin) hf he (λb o e=>of_hideAll _ e) (hideAll_none _ aak) hd h1 h0 λh' z=>⟨h',rfl,z⟩;refine aaK (pC (mz env (.ref a)) key) (λ_ s' zz=>?_) λ_ _ zz=>zz.1;obtain⟨⟨h',rfl,st,ff,⟨R7,vs',T,oT,ts,e1,⟨e2,e3⟩,e4,e5,e6,e7,e8,e9,R8⟩,up⟩,kd⟩:=zz;have LH:s.heap.get? T=none:=by
  cases q:s.heap.get? T with
  |none=>rfl
  |some o=>
   by_cases c:T∈a::frs (env::outer)
   ·rcases aao.mp c with c|c
    ·exact absurd c e7
    ·obtain⟨o',su,h2'⟩:=cE hl T c;rw[q]at su;cases su;obtain⟨sl,hs⟩:=up T o q h2';rw[e8]at hs;cases hs;exact absurd e9 (h2' ts)
   ·have:=hideAll_get _ q c;rw[e6]at this;cases this
 have hT:H T=none:=qv hok LH;refine h h' T ⟨⟨R7,vs',a0,e1,e2.trans hc,?_,e4,e3,e5⟩,⟨oT,ts,e8,e9,R8⟩,e7,ha,hT⟩ LH ⟨λb o hb hn e=>?_,λb o hb e=>?_,λb o e=>?_⟩
 ·obtain⟨o',z1,z2⟩:=kd a oe he;have z1:h'.get? a=some o':=z1;rw[e1]at z1;cases z1;rw[z2,hdx]
 ·exact st b o (hideAll_get _ e λz=>(aao.mp z).elim hb hn)
 ·obtain⟨o',su,h2'⟩:=cE hl b hb;rw[e]at su;cases su;exact up b o e h2'
 ·obtain⟨o',z,_⟩:=kd b o e;exact⟨o',z⟩
theorem Es(hok:jw P w H s.heap)(hfr:A.frames=some (env::outer))(hl:s.heap.FunFrames base (env::outer))(hf:env.frame=some L)(F:QV H s.heap a dx C T)
  (h:∀h' T',QV H h' a dx C T'->(T'=T\/s.heap.get? T'=none)->(∀b o,b≠T->b≠a->b∉frs (env::outer)->s.heap.get? b=some o->h'.get? b=some o)->(∀b o,b∈frs (env::outer)->s.heap.get? b=some o->∃sl,h'.get? b=some { o with slots:=sl })->(∀b o,s.heap.get? b=some o->∃o',h'.get? b=some o')->Q () { s with heap:=h' }):wpAny M A (leaving env (.ref a)) Q E s:=by
 obtain⟨⟨oe,vs,a0,he,hc,hdx,hd,h0,h1⟩,⟨oT,ts,g1,g2,g3⟩,ne,fa,fT⟩:=F;have hin:∀b∈frs (env::outer),b∈T::a::frs (env::outer):=λb hb=>aaf _ (aaf _ hb);have key:=wpAny_leaving_nextW (M:=M) (A:=A) (E:=E) (base:=hideAll s.heap (T::a::frs (env::outer))) (cls:=.ref C) (a0:=a0) (Q:=λ_ s'=>∃h',s'={ s with heap:=h' }/\Heap.LeftW (hideAll s.heap (T::a::frs (env::outer))) (env::outer) a (.ref C) a0 s.heap h') hfr (gY hl hin) hf
  ⟨oe,vs,T,oT,ts,he,⟨hc,h0⟩,hd,h1,hideAll_none _ aak,ne,g1,g2,g3⟩ (λb o e=>of_hideAll _ e) (hideAll_none _ (aaf _ aak)) λh' z=>⟨h',rfl,z⟩
 refine aaK (pC (mz env (.ref a)) key) (λ_ s' zz=>?_) λ_ _ zz=>zz.1;obtain⟨⟨h',rfl,st,ff,⟨R7,vs',T',VZ,ts',e1,⟨e2,e3⟩,e4,e5,e6,e7,e8,e9,R8⟩,up⟩,kd⟩:=zz;have LH:T'=T\/s.heap.get? T'=none:=by
  cases q:s.heap.get? T' with
  |none=>exact .inr rfl
  |some o=>
   by_cases c:T'∈T::a::frs (env::outer)
   ·rcases aao.mp c with c|c
    ·exact .inl c
    rcases aao.mp c with c|c
    ·exact absurd c e7
    ·obtain⟨o',su,h2'⟩:=cE hl T' c;rw[q]at su;cases su;obtain⟨sl,hs⟩:=up T' o q h2';rw[e8]at hs;cases hs;exact absurd e9 (h2' ts')
   ·have:=hideAll_get _ q c;rw[e6]at this;cases this
 have hT:H T'=none:=by
  rcases LH with z|z
  ·rw[z];exact fT
  ·exact qv hok z
 refine h h' T' ⟨⟨R7,vs',a0,e1,e2,?_,e4,e3,e5⟩,⟨VZ,ts',e8,e9,R8⟩,e7,fa,hT⟩ LH (λb o V1 hb hn e=>?_) (λb o hb e=>?_) λb o e=>?_
 ·obtain⟨o',z1,z2⟩:=kd a oe he;have z1:h'.get? a=some o':=z1;rw[e1]at z1;cases z1;rw[z2,hdx]
 ·exact st b o (hideAll_get _ e λz=>(aao.mp z).elim V1 λz=>(aao.mp z).elim hb hn)
 ·obtain⟨o',su,h2'⟩:=cE hl b hb;rw[e]at su;cases su;exact up b o e h2'
 ·obtain⟨o',z,_⟩:=kd b o e;exact⟨o',z⟩
end
abbrev VB:List Value:=[.type "ValueError",.type "Exception",.type "BaseException",.type "object"]
structure CG (K:Frag) (C D f:Addr) (cd:ClassData):Prop where
 c:Ep K C D cd
 ob:∃nm q N bs hdct sn sub ab col dd k0 k1 k2 k3 k5,K.lookup C=some (excClassObj nm q C N bs (.ref D::VB) hdct sn sub ab col dd k0 k1 k2 k3 k5 "ValueError.__new__")
 up:∃c0 dd cdD sl c1 d1 es ep sy,K.lookup D=some ⟨c0,dd,.cls cdD,sl⟩/\K.lookup cdD.ns=some ⟨c1,d1,.dict es ep,sy⟩/\StrKeys es/\nsFind es "__init__" = none
 init:findIn K (.ref C) "__init__" = some (some (.ref f))
 fn:typeIn K (.ref f)=some (.type "function")
 kp:keepIn K (.ref C)=true
theorem CG.tail{K:Frag}{C D f:Addr}{cd:ClassData}{h:Heap}(M:CG K C D f cd)(X:K.In h):OwnTail h VB (.ref D::VB):=by
 obtain⟨c0,dd,cdD,sl,c1,d1,es,ep,sy,l1,l2,sk,ni⟩:=M.up;exact .own (X _ _ l1) ⟨_,es,ep,X _ _ l2,rfl,sk,λ_=>rfl⟩ ni .base
def Ax(K:Frag)(f:Str):Sp:=λvs H Q _=>∃e y C D t cd,vs=[.ref e,y]/\H e=some (.ext (ExcAt e C t none))/\Ep K C D cd/\findIn K (.ref C) f=some none /\
 ∀dx,H dx=none->dx≠e->Q .non (upd (upd H dx (.xd [(f,y)])) e (.ext (ExcAt e C t (some dx))))
section
variable {X:Cx} {CX:yQ} {k:Nat} {f C D:Addr} {fd:FuncData} {ps:List Str} {cd:ClassData} {E:XK} {x g:Str} {pins:List (Addr×Obj)} {σ:St} {H:Hp} {s:Shared}
theorem Jm(M:CG X.K C D f cd)(F:dW X.prog X.w X.K X.mg X.base CX k f fd ps (Ax X.K g))(hr:dU (k+1) X.A)(hb:Binds X.K fd ps [])(hl:ps.length=2)(hx:Passes CX X E)(hn:findIn X.K (.ref C) g=some none)
  (I:Inv X pins σ H s) (ry:RelV y u)
  (h:∀e t dx s',H e=none->H dx=none->dx≠e->s.heap.get? e=none->Inv X pins σ (upd (upd (upd H e (.ext (ExcAt e C t none))) dx (.xd [(g,y)])) e (.ext (ExcAt e C t (some dx)))) s'->Q (.ref e) s') :
  wpAny (model X.prog X.w) X.A (call (.ref C) [u]) Q X.xe s:=by
 obtain⟨nm,q,N,bs,hdct,sn,sub,ab,col,dd,k0,k1,k2,k3,k5,lc⟩:=M.ob;obtain⟨hh,gn,dr,tk,os⟩:=s;refine CD (K:=X.K) PySem.F.excBase_ValueError (M.tail I.kQ) (I.kQ _ _ lc) I.kQ M.init M.fn (λh' e me le=>?_) (by show 1<=sizeLine;decide);obtain⟨t,ht,_,_⟩:=me.there;have I2:Inv X pins σ (upd H e (.ext (ExcAt e C t none))) ⟨h',gn,dr,tk,os⟩:=I.laid (a:=e) (o:=.ext (ExcAt e C t none)) (h':=h') (t':=tk) me.keeps le (zo ht);have ne:H e=none:=I.hok.fresh le;refine wpAny_call (codeAny_mono (F.run _ X.stack _ _ ⟨[.ref e,u],[]⟩ [.ref e,u] [.ref e,y] (λv H2=>v=.non/\∃dx,H dx=none/\dx≠e/\H2=upd (upd (upd H e (.ext (ExcAt e C t none))) dx (.xd [(g,y)])) e (.ext (ExcAt e C t (some dx)))) E (hr.make C [u] []) (I2.yS.make C [u] []) ?_ #[rfl,ry] ?_) λr s' hq=>?_)
 ·have:=hb _ [.ref e,u] I2.kQ (by rw[hl];rfl);rw[append_nil]at this;exact this
 ·refine⟨e,y,C,D,t,cd,rfl,aD,M.c,hn,λdx nd nx=>⟨rfl,dx,?_,nx,rfl⟩⟩;rw[ao nx]at nd;exact nd
 ·cases r with
  |error e'=>exact hx pins σ _ _ e' s' I2 hq
  |ok fl=>
   cases fl with
   |ret u'=>obtain⟨v,H',I3,rv,ev,dx,nd,nx,eH⟩:=I2.after hq;subst ev;subst eH;exact⟨rv,h e t dx s' ne nd nx me.new I3⟩
   |next=>exact False.elim hq
   |brk=>exact False.elim hq
   |cont=>exact False.elim hq
end
section
variable {M:Model} {A:Around} {E:Value->Shared->Prop} {env:Env} {nm q:Str} {C N:Addr} {bs bm:List Value} {hdct:Bool} {sn:List Str} {sub:List Value} {ab:Bool} {col:Option Bool} {dd:Option Addr} {k0 k1 k2 k3 k5:Option Value} {newId:String}
theorem zp(hbase:bm.contains (.type "BaseException")=true)(hh:A.handled=none)
  (h:wpAny M A x (λv s₁=>∃e t d,v=.ref e/\s₁.heap.get? C=some (excClassObj nm q C N bs bm hdct sn sub ab col dd k0 k1 k2 k3 k5 newId)/\s₁.heap.get? e=some (Er C t d)/\E (.ref e) s₁) E s) :
  wpAny M A (raiseStmt env (some x) none) Q E s:=by
 have V3:(Value.ref C::bm).contains (.type "BaseException")=true:=by rw[contains_cons,hbase,Bool.or_true]
 unfold raiseStmt;refine aaa (aaK h (λv s₁ h₁=>?_) λ_ _ x=>x);obtain⟨e,t,d,rfl,hC,he,hE⟩:=h₁;obtain⟨hp,g,dr,tk,os⟩:=s₁
 repeat (first|with_reducible refine wpAny_loadPart_at he ?_|with_reducible refine wpAny_loadPart_at hC ?_|(with_reducible refine wpAny_isSubtype_exc hC ?_;rw[V3])|wp_step)
 exact wpAny_raiseNew_none hh hE
theorem Et(hbase:bm.contains (.type "BaseException")=true)(hh:A.handled=none)
  (h:wpAny M A (eval x env) (λv s₁=>∃e t d,v=.ref e/\s₁.heap.get? C=some (excClassObj nm q C N bs bm hdct sn sub ab col dd k0 k1 k2 k3 k5 newId)/\s₁.heap.get? e=some (Er C t d)/\E (.ref e) s₁) E s) :
  wpAny M A (exec (.Raise (some x) none pos) env) Q E s:=by
 rw[arm_exec_Raise]
 first
  |exact aaa (wpAny_standAt (zp hbase hh (aaa (aaK h (λv s₁ h₁=>aaa (wpAny_standAt (aah h₁))) λ_ _ x=>x))))
  |(simp only[evalOpt,Option.map];exact aaa (wpAny_standAt (zp hbase hh (aaa (aaK h (λv s₁ h₁=>aaa (wpAny_standAt (aah h₁))) λ_ _ x=>x)))))
  |(show wpAny M A (do standAt pos;raiseStmt env (some (do let v <-eval x env;standAt pos;pure v)) none) Q E s;exact aaa (wpAny_standAt (zp hbase hh (aaa (aaK h (λv s₁ h₁=>aaa (wpAny_standAt (aah h₁))) λ_ _ x=>x)))))
end
def Eu(H:Hp)(a:Addr):Hp:=λb=>if b=a then none else H b
theorem iz(h:b≠a):Eu H a b=H b:=by unfold Eu;rw[aac h]
theorem jL:Eu H a a=none:=by unfold Eu;rw[aae rfl]
theorem Ay(x:jw P w H h)(e:H a=some (.ext φ)):jw P w (Eu H a) h:=λb o q=>by
 have nb:b≠a:=λz=>by rw[z,jL]at q;cases q
 rw[iz nb]at q;refine(x b o q).stay (λ_ _ _ z=>z) (λc z=>?_) λc xs z=>?_
 ·rw[iz λy=>by rw[y,e]at z;cases z];exact z
 ·rw[iz λy=>by rw[y,e]at z;cases z];exact z
def nj(P:Program)(w:World):yQ:=λouter H s E e s'=>∃a dx C T H',e=.ref a/\s'.os=s.os/\AllBare s'.gens/\Un (frs outer) [] H H' s.heap s'.heap/\jw P w H' s'.heap/\QV H' s'.heap a dx C T/\s.heap.get? a=none/\s.heap.get? T=none/\E (.ref C) dx H'
section
variable {P:Program} {w:World} {K:Frag} {mg:Str->Option Value} {base:Heap} {N:List Str} {qual:Str} {scope:Scope} {f:Addr} {cd:Value} {A:Around} {outer:List Env} {s:Shared} {H:Hp} {E:XK} {pins:List (Addr×Obj)} {σ:St} {H3:Hp} {s3:Shared} {e C t:Addr} {dx:Option Addr}
theorem Az(I:Inv (ig (nj P w) P w K mg base N qual scope f cd A outer s H E) pins σ H3 s3)(he:H3 e=some (.ext (ExcAt e C t dx)))(hn:s.heap.get? e=none)(q:E (.ref C) dx (Eu H3 e)) :
  (ig (nj P w) P w K mg base N qual scope f cd A outer s H E).xe (.ref e) s3:=by
 have ho:s3.heap.get? e=some (Er C t dx):=(I.hok e _ he).1;have st:s3.heap.FunFrames base (envOfC qual scope s.heap.objs.size f cd::outer):=I.stack;refine CF (P:=P) (w:=w) (H:=Eu H3 e) (a0:=.ref t) (Ay I.hok he) I.ok.frames st rfl ho rfl rfl rfl rfl rfl jL λh' T F nT L=>?_;have un:Un (frs outer) [] H H3 s.heap s3.heap:=I.base;have ne:∀b o,s.heap.get? b=some o->b≠e:=λb o z y=>by rw[y,hn]at z;cases z
 have nl:∀b o,s.heap.get? b=some o->b∉frs outer->b∉frs (envOfC qual scope s.heap.objs.size f cd::outer):=λb o z nb y=>by
  have y:b∈s.heap.objs.size::frs outer:=y
  rcases aao.mp y with y|y
  ·have:=aan z;rw[y]at this;exact absurd this (aaZ _)
  ·exact nb y
 have sT:s.heap.get? T=none:=by
  cases q:s.heap.get? T with
  |none=>rfl
  |some o=>obtain⟨o',z⟩:=un.there T o q (by simp);rw[nT]at z;cases z
 refine⟨e,dx,C,T,Eu H3 e,rfl,I.os,I.bare,⟨λb o z nb nf _=>?_,λb o z nb nf _=>?_,λb o z nb _=>?_,λb o z _=>?_,λb xs z=>?_,λb o u z=>?_,λb ps z=>?_⟩,?_,F,hn,sT,q⟩
 ·exact L.keep b o (ne b o z) (nl b o z nf) (un.keep b o z nb nf (by simp))
 ·obtain⟨sl,z2⟩:=un.slot b o z nb nf (by simp);obtain⟨Q9,z3⟩:=L.slot b _ (aaf _ nf) z2;exact⟨Q9,z3⟩
 ·rw[iz (ne b o z)];exact un.free b o z nb (by simp)
 ·obtain⟨o',z2⟩:=un.there b o z (by simp);exact L.there b o' z2
 ·have:=un.tups b xs z;rw[iz λy=>by rw[y,he]at this;cases this];exact this
 ·have:=un.frzs b o u z;rw[iz λy=>by rw[y,he]at this;cases this];exact this
 ·obtain⟨more,this⟩:=un.lW b ps z;exact⟨more,by rw[iz λy=>by rw[y,he]at this;cases this];exact this⟩
 ·have kp:∀c u ob,Eu H3 e c=some u->s3.heap.get? c=some ob->h'.get? c=some ob:=λc u ob z z2=>by
   have nc:c≠e:=λy=>by rw[y,jL]at z;cases z
   rw[iz nc]at z;refine L.keep c ob nc (λy=>?_) z2;have:=I.lX c y;rw[this]at z;cases z
  exact λb o z=>(Ay I.hok he b o z).stay (λc u y z2=>by
   rcases y with rfl|y
   ·exact kp _ _ _ z z2
   ·exact kp _ _ _ y z2) (λ_ y=>y) λ_ _ y=>y
theorem jM(un:Un fs [] H H' h h'):∀{l:List Env},(∀b∈frs l,H b=none)->h.FunFrames base l->h'.FunFrames base l
 |[],_,_=>trivial
 | env::r,hf,⟨hk,⟨L,o,e1,e2,e3,e4⟩,hr⟩=>by
  have e:frs (env::r)=L::frs r:=by unfold frs;rw[filterMap_cons,e1]
  obtain⟨sl,z⟩:=un.any e3 (hf L (by rw[e];exact aak)) (by simp);exact⟨hk,⟨L,_,e1,e2,z,e4⟩,jM un (λb hb=>hf b (by rw[e];exact aaf _ hb)) hr⟩
theorem Jo:Passes (nj P w) (ig (nj P w) P w K mg base N qual scope f cd A outer s H E) E:=by
 rintro pins σ H1 s1 e' s' I ⟨a,dx,C,T,H',rfl,hos,hbare,un,hok,F,na,nT,q⟩;have st:s1.heap.FunFrames base (envOfC qual scope s.heap.objs.size f cd::outer):=I.stack;have un:Un (frs (envOfC qual scope s.heap.objs.size f cd::outer)) [] H1 H' s1.heap s'.heap:=un;have fre:∀b∈frs (envOfC qual scope s.heap.objs.size f cd::outer),H1 b=none:=I.lX;have u0:Un (frs outer) [] H H1 s.heap s1.heap:=I.base;have ne:∀b o,s1.heap.get? b=some o->b≠a/\b≠T:=λb o z=>⟨(λy=>by rw[y,na]at z;cases z),(λy=>by rw[y,nT]at z;cases z)⟩;have nl:∀b o,s.heap.get? b=some o->b∉frs outer->b∉frs (envOfC qual scope s.heap.objs.size f cd::outer):=λb o z nb y=>by
  have y:b∈s.heap.objs.size::frs outer:=y
  rcases aao.mp y with y|y
  ·have:=aan z;rw[y]at this;exact absurd this (aaZ _)
  ·exact nb y
 refine Es (P:=P) (w:=w) (H:=H') hok I.ok.frames (jM un fre st) rfl F λh' T' F' V4 kp sl th=>?_;have sn:∀b,s1.heap.get? b=none->s.heap.get? b=none:=λb z=>by
  cases q:s.heap.get? b with
  |none=>rfl
  |some o=>obtain⟨o',y⟩:=u0.there b o q (by simp);rw[z]at y;cases y
 have sT:s.heap.get? T'=none:=by
  rcases V4 with y|y
  ·rw[y];exact sn T nT
  ·refine sn T' ?_
   cases q:s1.heap.get? T' with
   |none=>rfl
   |some o=>obtain⟨o',z⟩:=un.there T' o q (by simp);rw[y]at z;cases z
 refine⟨a,dx,C,T',H',rfl,hos.trans I.os,hbare,⟨λb o z nb nf _=>?_,λb o z nb nf _=>?_,λb o z nb _=>?_,λb o z _=>?_,λb xs z=>un.tups b xs (u0.tups b xs z),λb o u z=>un.frzs b o u (u0.frzs b o u z),λb ps z=>?_⟩,?_,F',sn a na,sT,q⟩
 ·have z1:=u0.keep b o z nb nf (by simp);have z2:=un.keep b o z1 (u0.free b o z nb (by simp)) (nl b o z nf) (by simp);exact kp b o (ne b o z1).2 (ne b o z1).1 (nl b o z nf) z2
 ·obtain⟨sy,z1⟩:=u0.slot b o z nb nf (by simp);obtain⟨sl2,z2⟩:=un.slot b _ z1 (u0.free b o z nb (by simp)) (aaf _ nf) (by simp);obtain⟨Zi,z3⟩:=sl b _ (aaf _ nf) z2;exact⟨Zi,z3⟩
 ·obtain⟨o1,z1⟩:=u0.there b o z (by simp);exact un.free b o1 z1 (u0.free b o z nb (by simp)) (by simp)
 ·obtain⟨o1,z1⟩:=u0.there b o z (by simp);obtain⟨o2,z2⟩:=un.there b o1 z1 (by simp);exact th b o2 z2
 ·obtain⟨m1,z1⟩:=u0.lW b ps z;obtain⟨m2,z2⟩:=un.lW b _ z1;exact⟨m1++m2,by rw[z2,Array.append_assoc]⟩
 ·have nf:∀b u,H' b=some u->b∉frs (envOfC qual scope s.heap.objs.size f cd::outer):=λb u z y=>by
   obtain⟨o,z1,_⟩:=cE st b y;have:=un.free b o z1 (fre b y) (by simp);rw[this]at z;cases z
  have kk:∀c u ob,H' c=some u->s'.heap.get? c=some ob->h'.get? c=some ob:=λc u ob z z2=>
   kp c ob (λy=>by rw[y,F.fT]at z;cases z) (λy=>by rw[y,F.fa]at z;cases z) (nf c u z) z2
  exact λb o z=>(hok b o z).stay (λc u y z2=>by
   rcases y with rfl|y
   ·exact kk _ _ _ z z2
   ·exact kk _ _ _ y z2) (λ_ y=>y) λ_ _ y=>y
end
def NF(E:XK)(C:Addr)(g:Str)(t:TA):TS:=λ_ σ H=>t σ H λvs H1=>∃y,vs=[y]/\∀dx,H1 dx=none->E (.ref C) (some dx) (upd H1 dx (.xd [(g,y)]))
section
variable {P:Program} {w:World} {K:Frag} {mg:Str->Option Value} {base:Heap} {N:List Str} {qual:Str} {scope:Scope} {f:Addr} {cdv:Value} {A:Around} {outer:List Env} {s:Shared} {H:Hp} {E:XK} {k:Nat} {fI C D:Addr} {fd:FuncData} {ps:List Str} {cd:ClassData} {x g:Str} {arg:Expr} {p cpos pos:Pos} {t:TA}
theorem Ew(M:CG K C D fI cd)(F:dW P w K mg base HV k fI fd ps (Ax K g))(hr:dU (k+1) (A.deeper (envOfC qual scope s.heap.objs.size f cdv)))(hb:Binds K fd ps [])(hl:ps.length=2)(hn:findIn K (.ref C) g=some none)
  (hg:Gl (ig (nj P w) P w K mg base N qual scope f cdv A outer s H E) x) (hm:mg x=some (.ref C)) (ha:PA (ig (nj P w) P w K mg base N qual scope f cdv A outer s H E) [arg] t) (hdb:(x==("__debug__":Str))=false)
  (he:starEach [arg] (ig (nj P w) P w K mg base N qual scope f cdv A outer s H E).env=(false,eval arg (ig (nj P w) P w K mg base N qual scope f cdv A outer s H E).env)::starEach [] (ig (nj P w) P w K mg base N qual scope f cdv A outer s H E).env) :
  PS (ig (nj P w) P w K mg base N qual scope f cdv A outer s H E) (.Raise (some (.Call (.Name x p) [arg] [] cpos)) none pos) (NF E C g t):=by
 intro pins s1 σ H1 En I h;obtain⟨nm,q,N',bs,hdct,sn,sub,ab,col,dd,k0,k1,k2,k3,k5,lc⟩:=M.ob;refine Et (C:=C) (nm:=nm) (q:=q) (N:=N') (bs:=bs) (bm:=.ref D::VB) (hdct:=hdct) (sn:=sn) (sub:=sub) (ab:=ab) (col:=col) (dd:=dd) (k0:=k0) (k1:=k1) (k2:=k2) (k3:=k3) (k5:=k5) (newId:="ValueError.__new__") rfl (I.ok.hd rfl) ?_;refine wpAny_Call_Name_kw (iU I hg hm ?_ hdb);refine callWith_K (h₀:=base) I.ok.mod.Q6 M.kp (cX (ha cpos pins s1 σ H1 _ I h) λus s2 ⟨vs,H2,I2,r,y,ev,qq⟩=>⟨I2.kQ,?_⟩) he rfl;subst ev;obtain⟨u,rfl,ru⟩:=vals1 r;refine Jm (X:=ig (nj P w) P w K mg base N qual scope f cdv A outer s H E) M F hr hb hl RS hn I2 ru λe t dx s3 ne nd nx V5 I3=>?_;have eH:Eu (upd (upd (upd H2 e (.ext (ExcAt e C t none))) dx (.xd [(g,y)])) e (.ext (ExcAt e C t (some dx)))) e=upd H2 dx (.xd [(g,y)]):=by
  funext b
  by_cases c:b=e
  ·subst c;rw[jL,ao (Ne.symm nx),ne]
  ·rw[iz c,ao c]
   by_cases c2:b=dx
   ·subst c2;rw[aD,aD]
   ·rw[ao c2,ao c2,ao c]
 have sn:s.heap.get? e=none:=by
  cases z:s.heap.get? e with
  |none=>rfl
  |some o=>have un:Un (frs outer) [] H H2 s.heap s2.heap:=I2.base;obtain⟨o',z2⟩:=un.there e o z (by simp);rw[V5]at z2;cases z2
 exact⟨e,t,some dx,rfl,I3.kQ _ _ lc,(I3.hok e _ aD).1,Az I3 aD sn (by rw[eH];exact qq dx nd)⟩
end
structure tU (K:Frag) (C D:Addr):Prop where
 ob:∃nm q N bs hdct sn sub ab col dd k0 k1 k2 k3 k5 c1 d1 es ep sy,K.lookup C=some (excClassObj nm q C N bs (.ref D::VB) hdct sn sub ab col dd k0 k1 k2 k3 k5 "ValueError.__new__")/\K.lookup N=some ⟨c1,d1,.dict es ep,sy⟩/\StrKeys es/\nsFind es "__init__" = none
 up:∃c0 dd cdD sl c1 d1 es ep sy,K.lookup D=some ⟨c0,dd,.cls cdD,sl⟩/\K.lookup cdD.ns=some ⟨c1,d1,.dict es ep,sy⟩/\StrKeys es/\nsFind es "__init__" = none
 kp:keepIn K (.ref C)=true
theorem tU.tail{K:Frag}{C D:Addr}{h:Heap}(M:tU K C D)(X:K.In h):OwnTail h VB (.ref D::VB):=by
 obtain⟨c0,dd,cdD,sl,c1,d1,es,ep,sy,l1,l2,sk,ni⟩:=M.up;exact .own (X _ _ l1) ⟨_,es,ep,X _ _ l2,rfl,sk,λ_=>rfl⟩ ni .base
theorem Inv.R9{t':Nat}(I:Inv X pins σ H s)(k:∀b u,s.heap.get? b=some u->h'.get? b=some u)(na:s.heap.get? a=none)(new:bL X.prog X.w (upd H a o) h' a o) :
  Inv X pins σ (upd H a o) { s with heap:=h',toks:=t' }:=by
 have hn:H a=none:=qv I.hok na;have ne:∀b u,s.heap.get? b=some u->b≠a:=λb u q z=>by rw[z,na]at q;cases q
 refine I.un ⟨λb u q _ _ _=>k b u q,λb u q _ _ _=>⟨u.slots,k b u q⟩,λb u q n _=>by rw[ao (ne b u q)];exact n,λb u q _=>⟨u,k b u q⟩,λb xs q=>by rw[ao (aF q hn)];exact q,λb u xs q=>by rw[ao (aF q hn)];exact q,λb ps q=>⟨#[],by rw[ao (aF q hn),q];simp⟩⟩ λb u e=>?_
 by_cases hb:b=a
 ·subst hb;rw[aD]at e;cases e;exact new
 ·rw[ao hb]at e;exact(I.hok b u e).stay (λc v _ q=>k c v q) (λc q=>by rw[ao (aF q hn)];exact q) λc xs q=>by rw[ao (aF q hn)];exact q
theorem Ey(M:tU X.K C D)(I:Inv X pins σ H s)
  (h:∀e t s',H e=none->s.heap.get? e=none->Inv X pins σ (upd H e (.ext (ExcAt e C t none))) s'->Q (.ref e) s'):wpAny (model X.prog X.w) X.A (call (.ref C) []) Q X.xe s:=by
 obtain⟨nm,q,N,bs,hdct,sn,sub,ab,col,dd,k0,k1,k2,k3,k5,c1,d1,es,ep,sy,lc,ln,sk,ni⟩:=M.ob;obtain⟨hh,gn,dr,tk,os⟩:=s;refine wpAny_call_exc_subT (mN:=λx=>nsFind es x) PySem.F.excBase_ValueError (M.tail I.kQ) (I.kQ _ _ lc) ⟨_,es,ep,I.kQ _ _ ln,rfl,sk,λ_=>rfl⟩ ni (λh' e me=>?_) (by show 0<=sizeLine;exact aaX _);obtain⟨t,ht,_,_⟩:=me.there;exact h e t _ (qv I.hok me.new) me.new (I.R9 (a:=e) (o:=.ext (ExcAt e C t none)) (h':=h') (t':=tk) me.keeps me.new (zo ht))
def Jp(E:XK)(C:Addr):TS:=λ_ _ H=>E (.ref C) none H
section
variable {P:Program} {w:World} {K:Frag} {mg:Str->Option Value} {base:Heap} {N:List Str} {qual:Str} {scope:Scope} {f:Addr} {cdv:Value} {A:Around} {outer:List Env} {s:Shared} {H:Hp} {E:XK} {C D:Addr} {x:Str} {p cpos pos:Pos}
theorem CH(M:tU K C D)(hg:Gl (ig (nj P w) P w K mg base N qual scope f cdv A outer s H E) x)(hm:mg x=some (.ref C))(hdb:(x==("__debug__":Str))=false) :
  PS (ig (nj P w) P w K mg base N qual scope f cdv A outer s H E) (.Raise (some (.Call (.Name x p) [] [] cpos)) none pos) (Jp E C):=by
 intro pins s1 σ H1 En I h;obtain⟨nm,q,N',bs,hdct,sn,sub,ab,col,dd,k0,k1,k2,k3,k5,c1,d1,es,ep,sy,lc,ln,sk,ni⟩:=M.ob;refine Et (C:=C) (nm:=nm) (q:=q) (N:=N') (bs:=bs) (bm:=.ref D::VB) (hdct:=hdct) (sn:=sn) (sub:=sub) (ab:=ab) (col:=col) (dd:=dd) (k0:=k0) (k1:=k1) (k2:=k2) (k3:=k3) (k5:=k5) (newId:="ValueError.__new__") rfl (I.ok.hd rfl) ?_;refine wpAny_Call_Name_kw (iU I hg hm ?_ hdb);refine callWith_K0 I.kQ M.kp ?_;refine Ey (X:=ig (nj P w) P w K mg base N qual scope f cdv A outer s H E) M I λe t s3 ne V5 I3=>?_;have eH:Eu (upd H1 e (.ext (ExcAt e C t none))) e=H1:=by
  funext b
  by_cases c:b=e
  ·subst c;rw[jL,ne]
  ·rw[iz c,ao c]
 have sn:s.heap.get? e=none:=by
  cases z:s.heap.get? e with
  |none=>rfl
  |some o=>have un:Un (frs outer) [] H H1 s.heap s1.heap:=I.base;obtain⟨o',z2⟩:=un.there e o z (by simp);rw[V5]at z2;cases z2
 exact⟨e,t,none,rfl,I3.kQ _ _ lc,(I3.hok e _ aD).1,Az I3 aD sn (by rw[eH];exact h)⟩
end
section
variable {P:Program} {w:World} {M:Model} {A:Around} {E:Value->Shared->Prop} {s:Shared} {H:Hp} {base:Heap} {env:Env} {outer:List Env} {L a C T:Addr} {dx:Option Addr}
theorem Ez(hok:jw P w H s.heap)(hfr:A.frames=some (env::outer))(hl:s.heap.FunFrames base (env::outer))(hf:env.frame=some L)(F:QV H s.heap a dx C T)
  (h:∀h' T',QV H h' a dx C T'->(T'=T\/s.heap.get? T'=none)->(∀b o,b≠T->b≠a->b∉frs (env::outer)->s.heap.get? b=some o->h'.get? b=some o)->(∀b o,b∈frs (env::outer)->s.heap.get? b=some o->∃sl,h'.get? b=some { o with slots:=sl })->(∀b o,s.heap.get? b=some o->∃o',h'.get? b=some o')->Q () { s with heap:=h' }) :
  wpAny M A (noteFrame (.ref a) env) (λ_ s2=>wpAny M A (setFlight (.ref a) none) Q E s2) E s:=by
 obtain⟨⟨oe,vs,a0,he,hc,hdx,hd,h0,h1⟩,⟨oT,ts,g1,g2,g3⟩,ne,fa,fT⟩:=F;have hin:∀b∈frs (env::outer),b∈T::a::frs (env::outer):=λb hb=>aaf _ (aaf _ hb);have hB:hideAll s.heap (T::a::frs (env::outer)) |>.StaysIn s.heap:=λb o e=>of_hideAll _ e;have key:=wpAny_noteFrame_onW (M:=M) (A:=A) (E:=E) (base:=hideAll s.heap (T::a::frs (env::outer))) (cls:=.ref C) (a0:=a0) (Q:=λ_ s'=>∃h',s'={ s with heap:=h' }/\Heap.NotedW (hideAll s.heap (T::a::frs (env::outer))) (env::outer) a (.ref C) a0 (rawInt L) s.heap h') hfr (gY hl hin) hf
  ⟨oe,vs,T,oT,ts,he,⟨hc,h0⟩,hd,h1,hideAll_none _ aak,ne,g1,g2,g3⟩ hB (hideAll_none _ (aaf _ aak)) λh' z=>⟨h',rfl,z⟩
 refine aaK (pC (tR (.ref a) env) key) (λ_ s' zz=>?_) λ_ _ zz=>zz.1;obtain⟨⟨su,rfl,st,ff,tr,up⟩,kd⟩:=zz;have V6:=wpAny_setFlight_noneW (M:=M) (A:=A) (E:=E) (s:={ s with heap:=su }) (base:=hideAll s.heap (T::a::frs (env::outer))) (cls:=.ref C) (a0:=a0) (Q:=λ_ s'=>∃h',s'={ s with heap:=h' }/\Heap.LeftW (hideAll s.heap (T::a::frs (env::outer))) (env::outer) a (.ref C) a0 s.heap h') st ff tr λh' z1 z2 z3 z4=>⟨h',rfl,z1,z2,z3,λb o e hn=>by
  obtain⟨sl,e1⟩:=up b o e hn;exact⟨sl,z4 b _ e1 hn⟩⟩
 refine aaK (pC (jK (.ref a) none) V6) (λ_ s' zz=>?_) λ_ _ zz=>zz.1;obtain⟨⟨h',rfl,st,ff,⟨R7,vs',T',VZ,ts',e1,⟨e2,e3⟩,e4,e5,e6,e7,e8,e9,R8⟩,up⟩,Zj⟩:=zz;have kd:KD s.heap h':=KD.trans kd Zj;have LH:T'=T\/s.heap.get? T'=none:=by
  cases q:s.heap.get? T' with
  |none=>exact .inr rfl
  |some o=>
   by_cases c:T'∈T::a::frs (env::outer)
   ·rcases aao.mp c with c|c
    ·exact .inl c
    rcases aao.mp c with c|c
    ·exact absurd c e7
    ·obtain⟨o',su,h2'⟩:=cE hl T' c;rw[q]at su;cases su;obtain⟨sl,hs⟩:=up T' o q h2';rw[e8]at hs;cases hs;exact absurd e9 (h2' ts')
   ·have:=hideAll_get _ q c;rw[e6]at this;cases this
 have hT:H T'=none:=by
  rcases LH with z|z
  ·rw[z];exact fT
  ·exact qv hok z
 refine h h' T' ⟨⟨R7,vs',a0,e1,e2,?_,e4,e3,e5⟩,⟨VZ,ts',e8,e9,R8⟩,e7,fa,hT⟩ LH (λb o V1 hb hn e=>?_) (λb o hb e=>?_) λb o e=>?_
 ·obtain⟨o',z1,z2⟩:=kd a oe he;rw[e1]at z1;cases z1;rw[z2,hdx]
 ·exact st b o (hideAll_get _ e λz=>(aao.mp z).elim V1 λz=>(aao.mp z).elim hb hn)
 ·obtain⟨o',su,h2'⟩:=cE hl b hb;rw[e]at su;cases su;exact up b o e h2'
 ·obtain⟨o',z,_⟩:=kd b o e;exact⟨o',z⟩
end
def EA(a C T:Addr)(dx:Option Addr):Heap->Prop:=λh=>∃oe vs,h.get? a=some oe/\oe.cls=.ref C/\oe.dict=dx/\oe.data=.fields vs/\vs[1]?=some (.ref T)
def CI(T:Addr):Heap->Prop:=λh=>∃oT ts,h.get? T=some oT/\oT.data=.fields ts/\3<ts.size
theorem Sa(q:EA a C T dx h):bL P w H h a (.ext (EA a C T dx)) :=
 ⟨q,(let ⟨oe,_,e,_⟩:=q;⟨oe,e⟩),λh1 h2 ⟨oe,vs,e,r⟩ k=>⟨oe,vs,k _ e,r⟩⟩
theorem LI(q:CI T h):bL P w H h T (.ext (CI T)) :=
 ⟨q,(let ⟨oe,_,e,_⟩:=q;⟨oe,e⟩),λh1 h2 ⟨oe,vs,e,r⟩ k=>⟨oe,vs,k _ e,r⟩⟩
def oj(H:Hp)(a C T:Addr)(dx:Option Addr):Hp:=upd (upd H a (.ext (EA a C T dx))) T (.ext (CI T))
abbrev Cx.held(X:Cx)(v:Value):Cx:={ X with A:=X.A.mark (some v),calm:=false }
theorem Cx.Ok.held{X:Cx}(ok:X.Ok)(v:Value):(X.held v).Ok :=
 ⟨ok.mod,ok.kind,ok.glob,ok.blt,ok.above,ok.inj,ok.has,ok.QM,(λz=>by cases z),ok.frames,ok.stk,ok.UI,ok.bs,ok.Ii,ok.B3,ok.B4,ok.nq,ok.Ly⟩
section
variable {X:Cx} {pins:List (Addr×Obj)} {σ:St} {H:Hp} {s:Shared} {v:Value}
theorem Inv.held(I:Inv X pins σ H s)(v:Value):Inv (X.held v) pins σ H s:=⟨I.ok.held v,I.os,I.bare,I.base,I.loc,I.cell,I.free,I.gy,I.pin,I.hok,I.len⟩
theorem Inv.NG(ok:X.Ok)(I:Inv (X.held v) pins σ H s):Inv X pins σ H s:=⟨ok,I.os,I.bare,I.base,I.loc,I.cell,I.free,I.gy,I.pin,I.hok,I.len⟩
end
theorem uU(h1:b≠a)(h2:b≠T):oj H a C T dx b=H b:=by unfold oj;rw[ao h2,ao h1]
theorem AA:oj H a C T dx T=some (.ext (CI T)):=by unfold oj;exact aD
theorem AB(h:T≠a):oj H a C T dx a=some (.ext (EA a C T dx)):=by unfold oj;rw[ao (Ne.symm h),aD]
section
variable {X:Cx} {pins:List (Addr×Obj)} {σ:St} {H:Hp} {s s':Shared} {E:XK} {M:Model} {Ex:Value->Shared->Prop}
theorem zq{e:Value}{Q:Value->Shared->Prop}(hst:X.stack=X.env::X.outer)(hfm:X.env.frame=some X.env.locals)(I:Inv X pins σ H s)(c:nj X.prog X.w X.stack H s E e s')
  (h:∀a C T dx H' s3,E (.ref C) dx H'->H' a=none->H' T=none->T≠a->Inv X pins σ (oj H' a C T dx) s3->Q (.ref a) s3) :
  wpAny M X.A (noteFrame e X.env) (λ_ s2=>wpAny M X.A (setFlight e none) (λ_ s3=>Q e s3) Ex s2) Ex s':=by
 obtain⟨a,dx,C,T,H',rfl,hos,hbare,un,hok,F,na,nT,q⟩:=c;have st:s.heap.FunFrames X.base (X.env::X.outer):=by rw[<-hst];exact I.stack
 have un':Un (frs (X.env::X.outer)) [] H H' s.heap s'.heap:=by rw[<-hst];exact un
 have fre:∀b∈frs (X.env::X.outer),H b=none:=by rw[<-hst];exact I.lX
 have ne:∀b o,s.heap.get? b=some o->b≠a/\b≠T:=λb o z=>⟨(λy=>by rw[y,na]at z;cases z),(λy=>by rw[y,nT]at z;cases z)⟩;refine Ez (P:=X.prog) (w:=X.w) (H:=H') hok (by rw[I.ok.frames,hst]) (jM un' fre st) hfm F λh' T' F' V4 kp sl th=>?_;have neT:∀b o,s.heap.get? b=some o->b≠T':=λb o z y=>by
  rcases V4 with w|w
  ·exact(ne b o z).2 (y.trans w)
  ·obtain⟨o',z2⟩:=un'.there b o z (by simp);rw[y,w]at z2;cases z2
 have out:∀b u,H' b=some u->oj H' a C T' dx b=some u:=λb u z=>by
  rw[uU (λy=>by rw[y,F'.fa]at z;cases z) λy=>by rw[y,F'.fT]at z;cases z];exact z
 have nf:∀b u,H' b=some u->b∉frs (X.env::X.outer):=λb u z y=>by
  obtain⟨o,z1,_⟩:=cE st b y;have:=un'.free b o z1 (fre b y) (by simp);rw[this]at z;cases z
 have kk:∀c u ob,H' c=some u->s'.heap.get? c=some ob->h'.get? c=some ob:=λc u ob z z2=>
  kp c ob (λy=>by rw[y,F.fT]at z;cases z) (λy=>by rw[y,F.fa]at z;cases z) (nf c u z) z2
 have V7:jw X.prog X.w (oj H' a C T' dx) h':=λb o z=>by
  by_cases cT:b=T'
  ·subst cT;rw[AA]at z;cases z;obtain⟨oT,ts,g1,g2,g3⟩:=F'.tb;exact LI ⟨oT,ts,g1,g2,(Array.getElem?_eq_some_iff.mp g3).1⟩
  by_cases ca:b=a
  ·subst ca;rw[AB F'.ne]at z;cases z;obtain⟨oe,vs,a0,e1,e2,e3,e4,e5,e6⟩:=F'.ob;exact Sa ⟨oe,vs,e1,e2,e3,e4,e6⟩
  rw[uU ca cT]at z;exact(hok b o z).stay (λc u y z2=>by
   rcases y with rfl|y
   ·exact kk _ _ _ z z2
   ·exact kk _ _ _ y z2) (λ_ y=>out _ _ y) λ_ _ y=>out _ _ y
 refine h a C T' dx H' _ q F'.fa F'.fT F'.ne (I.Lz (ch:=[]) (s':={ s' with heap:=h' }) hos ?_ V7 hbare λb z=>absurd z (by simp));rw[hst];refine⟨λb o z nb nf _=>?_,λb o z nb nf _=>?_,λb o z nb _=>?_,λb o z _=>?_,λb xs z=>out _ _ (un'.tups b xs z),λb o u z=>out _ _ (un'.frzs b o u z),λb ps z=>?_⟩
 ·exact kp b o (ne b o z).2 (ne b o z).1 nf (un'.keep b o z nb nf (by simp))
 ·obtain⟨sy,z1⟩:=un'.slot b o z nb nf (by simp);obtain⟨sl2,z2⟩:=sl b _ nf z1;exact⟨sl2,z2⟩
 ·rw[uU (ne b o z).1 (neT b o z)];exact un'.free b o z nb (by simp)
 ·obtain⟨o1,z1⟩:=un'.there b o z (by simp);exact th b o1 z1
 ·obtain⟨m1,z1⟩:=un'.lW b ps z;exact⟨m1,out _ _ z1⟩
theorem again(ne:T≠a)(I:Inv X pins σ (oj H a C T dx) s)(h:∀s',Inv X pins σ (oj H a C T dx) s'->Q () s'):wpAny M A (setFlight (.ref a) none) Q Ex s:=by
 obtain⟨⟨oe,vs,e1,e2,e3,e4,e5⟩,_⟩:=I.hok a _ (AB ne);obtain⟨⟨oT,ts,g1,g2,g3⟩,_⟩:=I.hok T _ AA;refine wpAny_setFlight_none e1 e4 e5 g1 g2 g3 (h _ ?_);have gT:=aaQ (Obj.mapFields (·.setIfInBounds 3 Value.none)) g1 (Obj.isFreed_of_fields (Obj.data_mapFields g2 (·.setIfInBounds 3 Value.none)));have same:upd (oj H a C T dx) T (.ext (CI T))=oj H a C T dx:=by
  funext b
  by_cases c:b=T
  ·subst c;rw[aD,AA]
  ·rw[ao c]
 have:=I.write (x:=T) (e:=T) (o:=.ext (CI T)) (h':=s.heap.update T (Obj.mapFields (·.setIfInBounds 3 Value.none))) (t':=s.toks) (by rw[AA];exact True.intro) (.inl rfl) (λb u hb z=>(get?_update_other _ _ (Ne.symm hb)).trans z) ⟨_,gT⟩
  (LI ⟨_,_,gT,Obj.data_mapFields g2 _,by rw[Array.size_setIfInBounds];exact g3⟩)
 rw[same]at this;exact this
theorem goes{i:Nat}(hN:X.N.Nodup)(hi:X.N[i]?=some n)(hk:X.env.scope.names.lookup n=some .local)(I:Inv X pins σ H s)(h:∀s',Inv X pins (σ.set i none) H s'->Q () s') :
  wpAny M A (do bindName X.env n .none;unbindBehindTheSuite X.env n pos) Q Ex s:=by
 obtain⟨m,hn,hl⟩:=id I.loc;have hcls:(X.env.scope.kind==.class||(X.env.scope.kind==.module&&X.env.locals != X.env.globals))=false:=by rw[I.ok.kind];rfl
 have UJ:i < σ.length:=by rw[I.len];exact(aal.mp hi).1
 have cne:=I.cne;refine wpAny_nameGoes_keeps hk hn hcls λh' v hn' hs=>?_;obtain⟨oL,_,_,WX,_⟩:=id hn;have tracked:jw X.prog X.w H h':=λb ob e=>by
  refine(I.hok b ob e).stay (λc w' hc q=>(hs.2 c ?_).trans q) (λ_ q=>q) λ_ _ q=>q;rintro rfl
  rcases hc with hc|hc
  ·rw[<-hc,I.free]at e;cases e
  ·rw[I.free]at hc;cases hc
 refine h _ ⟨I.ok,I.os,I.bare,⟨λb o e n hb hx=>?_,λb o e n hb hx=>?_,I.base.free,λb o e hx=>?_,I.base.tups,I.base.frzs,I.base.lW⟩,⟨_,hn',λj y v' e1 e2 e3=>?_⟩,λy c e=>?_,I.free,I.gy,λp hp=>?_,tracked,by simpa using I.len⟩
 ·exact(hs.2 b (aav (aas (aan e) I.ok.above))).trans (I.base.keep b o e n hb hx)
 ·obtain⟨sl,e1⟩:=I.base.slot b o e n hb hx;exact⟨sl,(hs.2 b (aav (aas (aan e) I.ok.above))).trans e1⟩
 ·obtain⟨o',e1⟩:=I.base.there b o e hx;exact⟨o',(hs.2 b (aav (aas (aan e) I.ok.above))).trans e1⟩
 ·by_cases hj:j=i
  ·subst hj;rw[aar UJ]at e2;cases e2
  ·rw[aaj (Ne.symm hj)]at e2
   obtain⟨u',r',q⟩:=hl j y v' e1 e2 e3;refine⟨u',r',?_⟩
   rcases q with ⟨k,e⟩|⟨k,c,e,z⟩
   ·refine .inl ⟨k,?_⟩;have:y≠n:=λe=>hj (pY hN e1 (e▸hi));simp[this,e]
   ·exact .inr ⟨k,c,e,z.sameBut hs (cne y c e)⟩
 ·obtain⟨w',z⟩:=I.cell y c e;exact⟨w',z.sameBut hs (cne y c e)⟩
 ·obtain⟨e,n,ne,nf,d⟩:=I.pin p hp;exact⟨(hs.2 p.1 ne).trans e,n,ne,nf,d⟩
end
section
variable {M:Model} {A:Around} {E:Value->Shared->Prop}
variable {nm q:Str} {C N:Addr} {bs bm:List Value} {hdct:Bool} {sn:List Str} {sub:List Value} {ab:Bool} {col:Option Bool} {dd:Option Addr} {k0 k1 k2 k3 k5:Option Value} {newId:String}
variable {UU q':Str} {C' N':Addr} {bs' bm':List Value} {wu:Bool} {sn':List Str} {sub':List Value} {Sb:Bool} {col':Option Bool} {DC:Option Addr} {j0 j1 j2 j3 j5:Option Value} {newId':String}
theorem wz{h:Heap}{g:Array GenState}{d:Drawn}{t:Nat}{os:OsState}{e:Addr}{oe:Obj}{b:Bool}{Q:Bool->Shared->Prop}
  (hC:h.get? C=some (excClassObj nm q C N bs bm hdct sn sub ab col dd k0 k1 k2 k3 k5 newId)) (Xm:h.get? C'=some (excClassObj UU q' C' N' bs' bm' wu sn' sub' Sb col' DC j0 j1 j2 j3 j5 newId')) (he:h.get? e=some oe) (hcls:oe.cls=.ref C)
  (hbase:bm'.contains (.type "BaseException")=true) (hb:(Value.ref C::bm).contains (.ref C')=b)
  (hq:Q b ⟨h,g,d,t,os⟩):wpAny M A (excMatches (.ref e) (.ref C')) Q E ⟨h,g,d,t,os⟩:=by
 have V3:(Value.ref C'::bm').contains (.type "BaseException")=true:=by rw[contains_cons,hbase,Bool.or_true]
 have f:=tc_notTuple;unfold excMatches
 repeat (first|(with_reducible refine wpAny_loadPart_at he ?_;rw[hcls])|with_reducible refine wpAny_loadPart_at Xm ?_|(with_reducible refine wpAny_isSubtype_exc Xm ?_;rw[V3])|(with_reducible refine wpAny_isSubtype_exc hC ?_;rw[hb])|wp_step)
 cases b<;>(wp_walk;exact hq)
end
def Jq(K:Frag)(C C':Addr)(b:Bool):Prop:=(∃nm q N bs bm hdct sn sub ab col dd k0 k1 k2 k3 k5 newId,K.lookup C=some (excClassObj nm q C N bs bm hdct sn sub ab col dd k0 k1 k2 k3 k5 newId)/\(Value.ref C::bm).contains (.ref C')=b) /\
 ∃nm q N bs bm hdct sn sub ab col dd k0 k1 k2 k3 k5 newId,K.lookup C'=some (excClassObj nm q C' N bs bm hdct sn sub ab col dd k0 k1 k2 k3 k5 newId)/\bm.contains (.type "BaseException")=true
def V8(X:Cx)(C:Addr)(hs:List ExceptHandler)(u:Ends->St->Addr->Hp->Prop):Prop:=∀pins s σ H a T dx D,Inv X pins σ (oj H a C T dx) s->T≠a->u D σ a (oj H a C T dx)->wpAny (model X.prog X.w) X.A (handleBy (.ref a) X.env hs) (SP X pins D) X.xe s
def NH(i:Nat)(u:TS):Ends->St->Addr->Hp->Prop:=λD σ a H=>u { nx:=λσ' H2=>D.nx (σ'.set i none) H2,rt:=λ_ _=>False } (σ.set i (some (.ref a))) H
section
variable {X:Cx} {C C':Addr} {cx n:Str} {cp hp:Pos} {u:TS} {i:Nat} {b0:Stmt} {suite:List Stmt} {rest:List ExceptHandler}
theorem NI(Zk:Gl X cx)(Zl:X.mg cx=some (.ref C'))(hdc:(cx==("__debug__":Str))=false)(hC:Jq X.K C C' true)(hN:X.N.Nodup)(hi:X.N[i]?=some n)(hn:X.env.scope.names.lookup n=some .local)
  (hu:∀a,uC (X.held (.ref a)).DA (b0::suite) u):V8 X C (.ExceptHandler (some (.Name cx cp)) (some n) (b0::suite) hp::rest) (NH i u):=by
 intro pins s3 σ H a T dx D I3 ne q3;obtain⟨⟨nm,q,N,bs,bm,hdct,sn,sub,ab,col,dd,k0,k1,k2,k3,k5,newId,lc,hsub⟩,UU,q',N',bs',bm',wu,sn',sub',Sb,col',DC,j0,j1,j2,j3,j5,newId',Zm,hbase⟩:=hC;have J3:=I3.held (.ref a);refine wpAny_handleBy_cons (codeAny_handlers_test (iU J3 Zk Zl ?_ hdc)) (by intro q;cases q);obtain⟨⟨oe,vs',e1,e2,e3,e4,e5⟩,_⟩:=I3.hok a _ (AB ne);obtain⟨hh,g,d,tk,os⟩:=s3;refine wz (I3.kQ _ _ lc) (I3.kQ _ _ Zm) e1 e2 hbase hsub (codeAny_handlers_suite_as ?_);refine again ne J3 λs4 J4=>?_;refine lY (X:=X.held (.ref a)) J4 hN hi (.inl hn) (show RelV (.ref a) (.ref a) from rfl) (λs5 J5=>?_) (.inr hn);refine aaK (hu a pins s5 _ _ _ (J5.nt _) q3) (λfl s6 z=>?_) λ_ _ z=>False.elim z;cases fl with
 |next=>obtain⟨σ',H2,I6,q6⟩:=z;have I6:Inv X pins σ' H2 s6:=Inv.NG I3.ok I6.gz;exact goes hN hi hn I6 λs7 I7=>⟨_,H2,I7,q6⟩
 |ret v=>obtain⟨_,_,_,_,_,z⟩:=z;exact False.elim z
 |brk=>obtain⟨_,_,_,z⟩:=z;exact False.elim z
 |cont=>obtain⟨_,_,_,z⟩:=z;exact False.elim z
end
def gaOf(x:Addr)(name:Str)(tk:Tok):Sem Fin:=PySem.Builtin.«object.__getattribute__» (Args.mk [.ref x,.str name tk] [])
def EB(P:Value->Shared->Prop)(fin:Fin)(s:Shared):Prop:=match fin with|.done (.ret v)=>P v s|_=>False
section
variable {prog:Program} {w:World} {A:Around} {E:Value->Shared->Prop} {s:Shared} {K:Frag} {x C:Addr} {ox:Obj} {od:Option Obj} {name:Str}
theorem getx_by{fill expr:Bool}(X:K.In s.heap)(I:PySem.W.InstAt s.heap x ox C od)(hga:findIn K (.ref C) "__getattribute__" = some (some (.builtin "BaseException.__getattribute__")))
  (Zn:findIn K (.ref C) "__getattr__" = some none) (hm:PySem.W.mroIn K C (.type "BaseException")=some true)
  (h:∀A',wpAny (model prog w) A' (gaOf x name tk) (EB λv s'=>wpAny (model prog w) A (handedOut v) Q E s') (λ_ _=>False) s) :
  wpAny (model prog w) A (getAttrBy (.ref x) (.str name tk) fill expr) Q E s:=by
 obtain⟨hh,g,d,t,os⟩:=s;have L0:=I.type (M:=model prog w);have L1:=looks_findIn (M:=model prog w) X hga;have L2:=looks_findIn (M:=model prog w) X Zn;have sub:PySem.W.Looks (model prog w) hh (isInstance (.ref x) (.type "BaseException")) true:=I.type.andThen (looks_mroIn X hm);have hx2:(Value.builtin "BaseException.__getattribute__" == Value.builtin "object.__getattribute__")=false:=by decide +kernel
 have hx1:¬ ((onTheHeap (Value.ref C)&&Value.builtin "BaseException.__getattribute__" == Value.builtin "object.__getattribute__")=true):=by rw[hx2];simp
 have hx0:¬ ((expr&&onTheHeap (Value.builtin "BaseException.__getattribute__"))=true):=by cases expr<;>simp[onTheHeap]
 have f3:=(PySem.F.attr_ValueError).ga.bind (.ref x);unfold getAttrBy;refine wpAny_holding (aaa (L0.at (aaa (L1.at ?_))));dsimp only;rw[aac hx1];unfold getAttrByItsOwn hookBefore;refine aaa ?_;show wpAny _ _ (typeLookup (.ref C) "__getattr__") _ _ _;refine L2.at (aaa (wpAny_attempt (wpAny_holding ?_)));unfold callGetattribute;rw[aac hx0];unfold boundAndCalled;rw[f3];refine aaa (aah (wpAny_call ?_));have hk:builtinKind "BaseException.__getattribute__" = some .slot:=by decide +kernel
 have hsp:splitId "BaseException.__getattribute__" = some ("BaseException","__getattribute__"):=by decide +kernel
 refine codeAny_call_builtin (PySem.F.attr_ValueError).ga.plain F.entry_bexc_ga (@PySem.W.check_slot (model prog w) _ _ _ "BaseException.__getattribute__" "BaseException" "__getattribute__" (.ref x) [.str name tk] [] _ hk hsp sub (F.args_bexc_ga _ _) ?_);refine aaK (show wpAny _ _ (PySem.Builtin.«object.__getattribute__» (Args.mk [.ref x,.str name tk] [])) _ _ _ from h _) (λfin s' z=>?_) λ_ _ z=>z.elim;unfold EB at z
 rcases fin with (_|_|_|_)|_<;>first|exact z|exact z.elim
theorem Jr{g0 a0:Value}(X:K.In s.heap)(I:PySem.W.InstAt s.heap x ox C od)(hf:findObj K C od name=some (.bind g0 a0))(h:wpAny (model prog w) A' (call g0 [a0,.ref x,.ref C]) P E s):wpAny (model prog w) A' (gaOf x name tk) (EB P) E s:=by
 obtain⟨hh,g,d,t,os⟩:=s;have L0:=I.type (M:=model prog w);have L1:=PySem.W.looks_find (M:=model prog w) X I hf;unfold gaOf Builtin.«object.__getattribute__»;refine aaa (aah ?_);refine aaa (aah ?_);refine aaa (L0.at (aaa (L1.at ?_)));show wpAny _ _ (holding [a0] (call g0 [a0,.ref x,.ref C]) >>= ret) _ _ _;exact aaa (wpAny_holding (aaK h (λv s' z=>aah z) λ_ _ z=>z))
end
structure EC (K:Frag) (C:Addr):Prop where
 ga:findIn K (.ref C) "__getattribute__" = some (some (.builtin "BaseException.__getattribute__"))
 gn:findIn K (.ref C) "__getattr__" = some none
 mb:PySem.W.mroIn K C (.type "BaseException")=some true
 hd:hasDictIn K C=true
 ha:findIn K (.ref C) "__class__" = some (some (.builtin "object.__class__"))
 hn:specialIn K (.builtin "object.__class__") "__get__" = some (some (.builtin "getset_descriptor.__get__"))
 htk:takesIn K (.builtin "object.__class__")=some true
 hm:PySem.W.mroIn K C (.type "object")=some true
section
variable {prog:Program} {w:World} {A:Around} {E:Value->Shared->Prop} {s:Shared} {K:Frag} {x C:Addr} {ox od:Obj} {name:Str}
theorem CJ{od:Option Obj}{a g:Value}(hc:(PySem.W.clsIn K C).isSome=true)(ha:findIn K (.ref C) name=some (some a))(hg:specialIn K a "__get__" = some (some g))(ht:takesIn K a=some true):findObj K C od name=some (.bind g a):=by
 obtain⟨cd,hc⟩:=Option.isSome_iff_exists.mp hc;unfold findObj;rw[hc,bind_some,ha,bind_some];simp[hg,ht]
theorem ED{od:Option Obj}{Q:Option Value->Shared->Prop}(X:K.In s.heap)(I:PySem.W.InstAt s.heap x ox C od)(G:EC K C)(h:Q (some (.ref C)) { s with toks:=s.toks+1 }) :
  wpAny (model prog w) A (getAttr? (.ref x) "__class__") Q E s:=by
 have hf:findObj K C od "__class__" = some (.bind (.builtin "getset_descriptor.__get__") (.builtin "object.__class__")):=CJ (by obtain⟨cd,hc,_⟩:=any_some G.hd;rw[hc];rfl) G.ha G.hn G.htk;obtain⟨hh,g,d,t,os⟩:=s;unfold getAttr? getAttrBy?;refine aaa (wpAny_mkText (aaa (wpAny_attempt (getx_by (K:=K) X I G.ga G.gn G.mb λA'=>Jr X I hf ?_))));refine wpAny_call (PySem.W.class_get (ox:=ox) (od:=od) X I G.hm ?_);refine aah ?_;exact aah h
theorem wB(G:EC K C):PySem.W.KitX K (.ref x) (.ref C) (λh=>∃ox od,PySem.W.InstAt h x ox C od) where
 ty:=λ_ _ _ ⟨_,_,I⟩=>I.type
 it:=λ_ _ X _=>by
  obtain⟨cdD,Jk,_⟩:=any_some G.hd;unfold PySem.W.clsIn at Jk;split at Jk
  ·rename_i c' d' Zo Q9 ho;intro A' Q' E' s' k q;unfold isType loadHead;exact aaa (wpAny_loadPart (k _ _ (X _ _ ho)) (aah q))
  ·cases Jk
 ne:=λh tp dd its n sl X htp=>by
  obtain⟨cdD,Jk,_⟩:=any_some G.hd;refine Bool.eq_false_iff.mpr λq=>?_;have e:C=tp:=Value.ref.inj (beq_iff_eq.mp q);subst e;unfold PySem.W.clsIn at Jk;split at Jk
  ·rename_i c' d' Zo Q9 ho;have z:=(X _ _ ho).symm.trans htp;cases z
  ·cases Jk
 ca:=λX ⟨_,_,I⟩ k=>ED X I G k
end
section
variable {X:Cx} {pins:List (Addr×Obj)} {σ:St} {H:Hp} {s:Shared} {A:Around} {E:Value->Shared->Prop} {e:Expr} {f:Str} {pos:Pos} {ta:TE}
def Zp(a C:Addr)(dx:Option Addr)(h:Heap):Prop:=∃oe vs,h.get? a=some oe/\oe.cls=.ref C/\oe.dict=dx/\oe.data=.fields vs
def Sd(H:Hp)(a C:Addr)(dx:Option Addr):Prop:=∃φ,H a=some (.ext φ)/\∀h,φ h->Zp a C dx h
theorem Sd.zq(e:H a=some (.ext (EA a C T dx))):Sd H a C dx:=⟨_,e,λh ⟨oe,vs,e1,e2,e3,e4,_⟩=>⟨oe,vs,e1,e2,e3,e4⟩⟩
theorem Js(I:Inv X pins σ H s)(ha:Sd H a C (some dx))(hd:H dx=some (.xd fs)) :
  ∃ox od,PySem.W.InstAt s.heap a ox C (some od)/\∀f v,fs.lookup f=some v->∃u,RelV v u/\lookIn f od=some (some u):=by
 obtain⟨φ,ha,hx⟩:=ha;obtain⟨oe,vs,e1,e2,e3,e4⟩:=hx _ (I.hok a _ ha).1;obtain⟨mA,n,r⟩:=I.hok dx _ hd;obtain⟨od,ho,hl⟩:=Cd n;refine⟨oe,od,⟨e1,e2,by unfold notCls;rw[e4],by rw[e3];exact ho⟩,λf v z=>?_⟩;obtain⟨u,hu,ru⟩:=lV.some_of (v:=v) (o:=mA f) (by rw[<-z];exact r f);exact⟨u,ru,by rw[hl,hu]⟩
theorem wC:∀{cs:List Addr} {its:List Value},Vals (cs.map V.ref) its->its=cs.map Value.ref
 |[],_,.nil=>rfl
 |_::_,_,.cons a b=>by rw[wC b];cases (show _=Value.ref _ from a);rfl
def Xn(H:Hp):Option Addr->Prop
 |none=>True
 |some d=>∃fs,H d=some (.xd fs)
theorem AD(I:Inv X pins σ H s)(ha:Sd H a C dx)(hd:Xn H dx):∃ox od,PySem.W.InstAt s.heap a ox C od:=by
 cases dx with
 |some d=>obtain⟨fs,hd⟩:=hd;obtain⟨ox,od,J,_⟩:=Js I ha hd;exact⟨ox,_,J⟩
 |none=>obtain⟨φ,ha,hx⟩:=ha;obtain⟨oe,vs,e1,e2,e3,e4⟩:=hx _ (I.hok a _ ha).1;exact⟨oe,none,⟨e1,e2,by unfold notCls;rw[e4],by rw[e3];trivial⟩⟩
def Se(K:Frag)(H:Hp)(x:V)(C:Addr):Prop:=∃a dx,x=.ref a/\Sd H a C dx/\Xn H dx/\EC K C
theorem wD:cI X (.builtin "isinstance") (λxs H Q=>∃(x c:V) (cv:Value) (C:Addr) (b:Bool),xs=[x,c]/\(∀u,RelV c u->u=cv)/\Se X.K H x C/\kitOne X.K (.ref C) cv=some b/\Q (.bl b) H):=by
 intro pins s σ H xs us Q I r h;obtain⟨x,c,cv,C,b,rfl,hc,⟨a,dx,rfl,ea,ed,G⟩,e,q⟩:=h;obtain⟨u,w',rfl,r1,r2⟩:=vals2 r;obtain rfl:u=Value.ref a:=r1;obtain rfl:=hc _ r2;obtain⟨ox,od,J⟩:=AD I ea ed;exact kia_one (wB G) I.kQ ⟨ox,od,J⟩ e (λz=>nomatch z) λtk=>⟨.bl b,H,I.tok _,rfl,q⟩
theorem EE:cI X (.builtin "isinstance") (λxs H Q=>∃(x:V) (tp:Addr) (cs:List Addr) (C:Addr) (b:Bool),xs=[x,.ref tp]/\H tp=some (.tup (cs.map V.ref))/\Se X.K H x C/\kitAny X.K (.ref C) (cs.map Value.ref)=some b/\Q (.bl b) H):=by
 intro pins s σ H xs us Q I r h;obtain⟨x,tp,cs,C,b,rfl,et,⟨a,dx,rfl,ea,ed,G⟩,e,q⟩:=h;obtain⟨u,w',rfl,r1,r2⟩:=vals2 r;obtain rfl:u=Value.ref a:=r1;obtain rfl:w'=Value.ref tp:=r2;obtain⟨ox,od,J⟩:=AD I ea ed;obtain⟨_,its,hi,o,h1,h2,n,h3⟩:=(show bL X.prog X.w H s.heap tp (.tup (cs.map V.ref)) from I.hok tp _ et);have ei:=wC hi;subst ei;obtain⟨oc,odd,R5,osl⟩:=o;obtain rfl:oc=_:=h2;obtain rfl:R5=_:=h3;exact PySem.W.kia_tup (wB G) I.kQ ⟨ox,od,J⟩ h1 e (λz=>nomatch z) λtk=>⟨.bl b,H,I.tok _,rfl,q⟩
end
section
variable {K:Frag} {C D:Addr} {o:Obj} {nm q:Str} {N:Addr} {bs bm:List Value} {hdct:Bool} {sn:List Str} {sub:List Value} {ab:Bool} {col:Option Bool} {dd:Option Addr} {k0 k1 k2 k3 k5:Option Value} {newId:String}
theorem excOb(h:K.lookup C=some o)(e:o=excClassObj nm q C N bs (.ref D::VB) hdct sn sub ab col dd k0 k1 k2 k3 k5 "ValueError.__new__"):∃nm q N bs hdct sn sub ab col dd k0 k1 k2 k3 k5,K.lookup C=some (excClassObj nm q C N bs (.ref D::VB) hdct sn sub ab col dd k0 k1 k2 k3 k5 "ValueError.__new__") :=
 ⟨nm,q,N,bs,hdct,sn,sub,ab,col,dd,k0,k1,k2,k3,k5,by rw[h,e]⟩
def EF(es:Array DictEntry):Bool:=es.toList.all λe=>match e.key with|.str _ _=>true|_=>false
theorem excUp{c0 c1:Value}{d0 d1:Option Addr}{sl sy:Array (Option Value)}{ep:Nat}{o1 o2:Obj}(h1:K.lookup D=some o1)(e1:o1=⟨c0,d0,.cls cdD,sl⟩)(h2:K.lookup cdD.ns=some o2)(e2:o2=⟨c1,d1,.dict es ep,sy⟩)(h3:EF es=true)(h4:nsFind es "__init__" = none) :
  ∃c0 dd cdD sl c1 d1 es ep sy,K.lookup D=some ⟨c0,dd,.cls cdD,sl⟩/\K.lookup cdD.ns=some ⟨c1,d1,.dict es ep,sy⟩/\StrKeys es/\nsFind es "__init__" = none:=by
 refine⟨c0,d0,cdD,sl,c1,d1,es,ep,sy,by rw[h1,e1],by rw[h2,e2],λe he=>?_,h4⟩;unfold EF at h3;rw[all_eq_true]at h3;have:=h3 e (by simpa using he);split at this
 ·rename_i x t hk;first|exact⟨x,t,hk⟩|exact⟨x,hk⟩|(rw[hk];rfl)|simp[hk]
 ·cases this
theorem excS{wu:Bool}{Sb:Bool}{j0 j1 j2 j3 j5:Option Value}{newId':String}{b:Bool}(h:K.lookup C=some o)(e:o=excClassObj nm q C N bs bm hdct sn sub ab col dd k0 k1 k2 k3 k5 newId)(hb:(Value.ref C::bm).contains (.ref C')=b)
  (h':K.lookup C'=some o') (e':o'=excClassObj UU q' C' N' bs' bm' wu sn' sub' Sb col' DC j0 j1 j2 j3 j5 newId') (b':bm'.contains (.type "BaseException")=true):Jq K C C' b :=
 ⟨⟨nm,q,N,bs,bm,hdct,sn,sub,ab,col,dd,k0,k1,k2,k3,k5,newId,by rw[h,e],hb⟩,UU,q',N',bs',bm',wu,sn',sub',Sb,col',DC,j0,j1,j2,j3,j5,newId',by rw[h',e'],b'⟩
theorem CK(h3:EF es=true):StrKeys es:=λe he=>by
 unfold EF at h3;rw[all_eq_true]at h3;have:=h3 e (by simpa using he);split at this
 ·rename_i x t hk;first|exact⟨x,t,hk⟩|exact⟨x,hk⟩|(rw[hk];rfl)|simp[hk]
 ·cases this
theorem excOb0{c1:Value}{d1:Option Addr}{ep:Nat}{sy:Array (Option Value)}{o2:Obj}(h:K.lookup C=some o)(e:o=excClassObj nm q C N bs (.ref D::VB) hdct sn sub ab col dd k0 k1 k2 k3 k5 "ValueError.__new__")(h2:K.lookup N=some o2)(e2:o2=⟨c1,d1,.dict es ep,sy⟩)(h3:EF es=true)(h4:nsFind es "__init__" = none) :
  ∃nm q N bs hdct sn sub ab col dd k0 k1 k2 k3 k5 c1 d1 es ep sy,K.lookup C=some (excClassObj nm q C N bs (.ref D::VB) hdct sn sub ab col dd k0 k1 k2 k3 k5 "ValueError.__new__")/\K.lookup N=some ⟨c1,d1,.dict es ep,sy⟩/\StrKeys es/\nsFind es "__init__" = none :=
 ⟨nm,q,N,bs,hdct,sn,sub,ab,col,dd,k0,k1,k2,k3,k5,c1,d1,es,ep,sy,by rw[h,e],by rw[h2,e2],CK h3,h4⟩
end
end L2
end
section
namespace Hv
open PySem L2 PyProof.Rows
inductive Val
 |non|bl (b:Bool)|int (i:Int)|str (x:Str)|tup (vs:List Val)|rl (vs:List Val)|dc (ks:List Key) (vs:List Val)|ob (c:Nat) (xs:List Str) (vs:List Val)|ref (i:Nat)
inductive Ob
 |lst (xs:List Val)|dct (kvs:List (Key×Val))|ins (c:Nat) (fs:List (Str×Val))
abbrev Hs:=List Ob
inductive Out (α:Type)
 |ok (a:α) (h:Hs)|exc (c:Nat) (vs:List Val) (h:Hs)|no
abbrev M(α:Type):=Hs->Out α
def ret{α:Type}(a:α):M α:=λh=>.ok a h
def bnd{α β:Type}(m:M α)(f:α -> M β):M β:=λh=>match m h with
 |.ok a h'=>f a h'
 |.exc c vs h'=>.exc c vs h'
 |.no=>.no
def bA{α:Type}(o:Option α):M α:=λh=>match o with
 |some a=>.ok a h
 |none=>.no
def ask{α:Type}(f:Hs->Option α):M α:=λh=>bA (f h) h
def new(o:Ob):M Val:=λh=>.ok (.ref h.length) (h++[o])
def put(i:Nat)(o:Ob):M Unit:=λh=>.ok () (h.set i o)
def cZ{α β:Type}(f:α -> Option β):List α -> Option (List β)
 |[]=>some []
 |a::r=>(f a).bind λb=>(cZ f r).bind λbs=>some (b::bs)
inductive LJ|add|sub|mul|fdiv|mod|pow
 deriving DecidableEq
inductive NJ|eq|ne|lt|le|gt|ge|isn|ntn|EG|nin
 deriving DecidableEq
inductive Bl|len|min|max|sorted|list|tuple|str|int|all|any|isin (T:String)
 deriving DecidableEq
inductive Me|join|append|extend|remove
 deriving DecidableEq
inductive AE|one (i:Nat)|tup (is:List Nat)
 deriving DecidableEq
inductive Ik|seq|range|enum|zip
 deriving DecidableEq
mutual
inductive IE
 |var (i:Nat)|cst (d:Val)|con (x:Str) (d:Val)|no
 |bin (o:LJ) (a b:IE)|neg (a:IE)|cmp (o:NJ) (a b:IE)|chn (o p:NJ) (a b c:IE)
 |and (a b:IE)|or (a b:IE)|not (a:IE)|ite (c a b:IE)
 |tup (es:lT)|lst (es:lT)|idx (a b:IE)|slc (a lo hi:IE)
 |call (j:Nat) (es:lT)|blt (b:Bl) (es:lT)|met (m:Me) (a:IE) (es:lT)
 |comp (N:List Str) (js:List (Option Nat)) (pat:AE) (k:Ik) (it:lT) (c elt:IE)
 |dct0
 |sset (a:IE)
 |dget (d k x:IE)
 |dct1 (k v:IE)
 |lkeys (d:IE)
 |sdef (d k x:IE)
 |svals (d:IE)
 |skeys (d:IE)
 |fld (n:Nat) (a:IE) (x:Str)
 |mth (a:IE) (m:Str) (js:List (Nat×Nat)) (es:lT)
 |rev (a s:IE)
 |dflt (N:List Str) (js:List (Option Nat)) (p q:Nat) (d w:IE)
 |isc (a:IE) (x:Str) (bs:List Bool)
inductive lT|nil|cons (e:IE) (es:lT)
end
abbrev Env:=List (Option Val)
mutual
inductive IS
 |expr (e:IE)|asg (p:AE) (e:IE)|aug (i:Nat) (o:LJ) (e:IE)|kR (o i v:IE)
 |iff (c:IE) (a b:dF)|for (p:AE) (k:Ik) (it:lT) (body:dF)|whl (n:Nat) (c:IE) (body:dF)
 |ret (e:IE)|Jt|brk|cnt|pass|never|setF (n:Nat) (a:IE) (x:Str) (v:IE)
inductive dF|nil|cons (s:IS) (r:dF)
end
def aI(h:Hs):Val->Option (List Val)
 |.rl vs=>some vs
 | .ref i=>match h[i]? with
  |some (.lst xs)=>some xs
  |_=>none
 |_=>none
def cY(h:Hs):Val->Option (List Val)
 |.tup vs=>some vs
 |v=>aI h v
def qw(h:Hs):Val->Option (List Val)
 |.tup vs=>some vs
 |.rl vs=>some vs
 |.ref i=>aI h (.ref i)
 |_=>none
def bw:List Val->Option (List Int):=cZ λv=>match v with
 |.int i=>some i
 |_=>none
def lu:List Val->Option (List (List Int)):=cZ λv=>match v with
 |.tup vs=>if vs.isEmpty then none else bw vs
 |_=>none
def toD:Nat->Hs->Val->Option PyData
 |0,_,_=>none
 |_+1,_,.non=>some .none
 |_+1,_,.bl b=>some (.bool b)
 |_+1,_,.int i=>some (.int i)
 |_+1,_,.str x=>if PyData.strOk x=true then some (.str x) else none
 |n+1,h,.tup vs=>(cZ (toD n h) vs).bind λds=>some (.tuple ds)
 |n+1,h,.rl vs=>(cZ (toD n h) vs).bind λds=>some (.list ds)
 |_+1,_,.dc _ _=>none
 |_+1,_,.ob _ _ _=>none
 |n+1,h,.ref i=>(aI h (.ref i)).bind λxs=>(cZ (toD n h) xs).bind λds=>some (.list ds)
def zu(h:Hs)(v w:Val):Option Bool:=(toD 16 h v).bind λd=>(toD 16 h w).bind λe=>some (PyData.eqv d e)
def uV(x:List Int):List (List Int)->List (List Int)
 |[]=>[x]
 |y::r=>if HT.lexLt y x=true then y::uV x r else x::y::r
def mC:List (List Int)->List (List Int)
 |[]=>[]
 |x::r=>uV x (mC r)
def lG(ks:List Int):Val:=.tup (ks.map .int)
def fh(xs:List Val):Option (List Val) :=
 if xs.length<64 then
  match bw xs with
  |some ns=>some ((sortI ns).map .int)
  |none=>(lu xs).bind λpD=>some ((mC pD).map lG)
 else none
def uW:List Int->Option Val
 |[]=>none
 |a::r=>some (.int (r.foldl min a))
def uX:List Int->Option Val
 |[]=>none
 |a::r=>some (.int (r.foldl max a))
def ly(i j:Int):Bool:=(decide (-(2 ^ 64)<i)&&decide (i<2 ^ 64))||(decide (-(2 ^ 64)<j)&&decide (j<2 ^ 64))
def aO{α:Type}(c:Bool)(m:M α):M α:=λh=>if c=true then m h else .no
def kT(b:Int):Bool:=decide (0<b/\b<1606938044258990275541962092341162602522202993782792835301376)
def QW:LJ->Val->Val->M Val
 |.add,.int a,.int b=>ret (.int (a+b))
 |.add,.str a,.str b=>aO (decide (a.length+b.length<=sizeLine)) (ret (.str (a++b)))
 |.add,.tup a,.tup b=>aO (!a.isEmpty&&decide (a.length+b.length<=sizeLine)) (ret (.tup (a++b)))
 |.add,v,w=>bnd (ask λh=>aI h v) λa=>bnd (ask λh=>aI h w) λb=>aO (decide (a.length+b.length<=sizeLine)) (new (.lst (a++b)))
 |.sub,.int a,.int b=>ret (.int (a-b))
 |.mul,.int a,.int b=>aO (ly a b) (ret (.int (a*b)))
 |.fdiv,.int a,.int b=>aO (kT b) (ret (.int (a/b)))
 |.mod,.int a,.int b=>aO (decide (0<b)) (ret (.int (a%b)))
 |.pow,.int a,.int b=>aO (decide (0<=b/\b<=1000000/\a.natAbs<2 ^ 64)) (ret (.int (a ^ b.toNat)))
 |_,_,_=>bA none
def mE:Val->Bool
 |.non=>true
 |_=>false
def cJ(kvs:List (Key×Val))(k:Key):Option Val:=(kvs.find? λkv=>decide (kv.1=k)).map (·.2)
def kU(kvs:List (Key×Val))(k:Key)(v:Val):List (Key×Val) :=
 if (kvs.any λkv=>decide (kv.1=k))=true then kvs.map (λkv=>if kv.1=k then (kv.1,v) else kv) else kvs++[(k,v)]
def keyOf:Val->Option Key
 |.int i=>some (.inl i)
 |.str x=>some (.inr x)
 |_=>none
def Sf(f d:PyData):Option Bool:=match f with
 |.list ds=>some (ds.any λy=>PyData.eqv y d)
 |.tuple ds=>some (ds.any λy=>PyData.eqv y d)
 |_=>none
def memD(h:Hs)(v w:Val):Option Bool:=(toD 16 h w).bind λf=>(toD 16 h v).bind λd=>Sf f d
def wF(h:Hs)(v w:Val):Option Bool:=memD h v w
def LK(v w:Val):Option Bool:=match w with
 |.non=>some (mE v)
 | .bl b=>(match v with
  |.bl a=>some (a==b)
  |_=>none)
 |_=>none
def cop(h:Hs):NJ->Val->Val->Option Bool
 |.eq,v,w=>zu h v w
 |.ne,v,w=>(zu h v w).map (!·)
 |.lt,.int a,.int b=>some (decide (a<b))
 |.le,.int a,.int b=>some (decide (a<=b))
 |.gt,.int a,.int b=>some (decide (b<a))
 |.ge,.int a,.int b=>some (decide (b<=a))
 |.isn,v,w=>LK v w
 |.ntn,v,w=>(LK v w).map (!·)
 |.EG,v,w=>wF h v w
 |.nin,v,w=>(wF h v w).map (!·)
 |_,_,_=>none
def cR(h:Hs):Val->Option Bool
 |.non=>some false
 |.bl b=>some b
 |.int i=>some (i != 0)
 |.str x=>if x.length<=sizeLine then some ((x.length:Int) != 0) else none
 |.tup vs=>some (!vs.isEmpty)
 |.rl vs=>some (!vs.isEmpty)
 |.dc ks _=>some (!ks.isEmpty)
 |.ob _ _ _=>none
 | .ref i=>match h[i]? with
  |some (.lst xs)=>some (!xs.isEmpty)
  |some (.dct xs)=>some (!xs.isEmpty)
  |_=>none
def mF(h:Hs):Val->Val->Option Val
 |.str x,.int i=>if x.length<=sizeLine then (fX x.cps.toList i).map λc=>.str ⟨[c].toArray⟩ else none
 |.tup vs,.int i=>fX vs i
 |.rl vs,.int i=>fX vs i
 | .ref j,.int i=>match h[j]? with
  |some (.dct kvs)=>cJ kvs (.inl i)
  |_=>(aI h (.ref j)).bind λxs=>fX xs i
 | .ref j,.str x=>match h[j]? with
  |some (.dct kvs)=>cJ kvs (.inr x)
  |_=>none
 |.dc ks vs,.int i=>cJ (ks.zip vs) (.inl i)
 |.dc ks vs,.str x=>cJ (ks.zip vs) (.inr x)
 |_,_=>none
def EH(h:Hs)(o:Val):Option Unit:=match o with
 | .ref i=>(match h[i]? with
  |some (.dct _)=>some ()
  |_=>none)
 |.dc _ _=>some ()
 |_=>none
def CL(h:Hs)(o:Val)(k:Key):Option (Option Val):=match o with
 | .ref i=>(match h[i]? with
  |some (.dct kvs)=>some (cJ kvs k)
  |_=>none)
 |.dc ks vs=>some (cJ (ks.zip vs) k)
 |_=>none
def di{α:Type}(ds:List α)(lo hi:Option Int):List α:=(ds.drop (HT.dQ ds.length 0 lo)).take (HT.dQ ds.length ds.length hi-HT.dQ ds.length 0 lo)
def sD(v:Val)(lo hi:Option Int):M Val:=match v with
 |.tup vs=>aO (!(decide (HT.dQ vs.length 0 lo=0)&&decide (HT.dQ vs.length vs.length hi=vs.length))) (ret (.tup (di vs lo hi)))
 |v=>bnd (ask λh=>aI h v) λxs=>new (.lst (di xs lo hi))
def CN(h:Hs):Val->Option String
 |.non=>some "NoneType" | .bl _=>some "bool" | .int _=>some "int" | .str _=>some "str" | .tup _=>some "tuple" | .rl _=>some "list" | .dc _ _=>some "dict" | .ob _ _ _=>none
 | .ref i=>match h[i]? with
  |some (.lst _)=>some "list"
  |some (.dct _)=>some "dict"
  |_=>none
def EI(T:String)(t:String):Option Bool :=
 if ["list","tuple","str","bool","int","dict"].contains T=true then some (decide (T=t\/(T = "int" /\ t = "bool"))) else none
def mG(h:Hs):Val->Option Nat
 |.str x=>if x.length<=sizeLine then some x.length else none
 |.tup vs=>some vs.length
 |.rl vs=>some vs.length
 |.dc ks _=>some ks.length
 | .ref i=>match h[i]? with
  |some (.lst xs)=>some xs.length
  |some (.dct xs)=>some xs.length
  |_=>none
 |_=>none
def blt:Bl->List Val->M Val
 |.len,[v]=>bnd (ask λh=>mG h v) λn=>ret (.int n)
 |.min,[.int a,.int b]=>ret (.int (if b<a then b else a))
 |.max,[.int a,.int b]=>ret (.int (if b>a then b else a))
 |.min,[v]=>bnd (ask λh=>cY h v) λxs=>bA ((bw xs).bind uW)
 |.max,[v]=>bnd (ask λh=>cY h v) λxs=>bA ((bw xs).bind uX)
 |.sorted,[v]=>bnd (ask λh=>aI h v) λxs=>bnd (bA (fh xs)) λys=>new (.lst ys)
 |.list,[v]=>bnd (ask λh=>cY h v) λxs=>new (.lst xs)
 |.int,[.bl b]=>ret (.int (if b=true then 1 else 0))
 |.int,[.int i]=>ret (.int i)
 |.isin T,[v]=>bnd (ask λh=>CN h v) λt=>bnd (bA (EI T t)) λb=>ret (.bl b)
 |_,_=>bA none
def met:Me->Val->List Val->M Val
 |.append,.ref i,[v]=>bnd (ask λh=>match h[i]? with|some (.lst xs)=>some xs|_=>none) λxs=>aO (decide (xs.length<sizeLine)) (bnd (put i (.lst (xs++[v]))) λ_=>ret .non)
 |.extend,.ref i,[v]=>bnd (ask λh=>match h[i]? with|some (.lst xs)=>some xs|_=>none) λxs=>bnd (ask λh=>qw h v) λys=>aO (decide (xs.length+ys.length<=sizeLine)) (bnd (put i (.lst (xs++ys))) λ_=>ret .non)
 |.remove,.ref i,[.int k]=>bnd (ask λh=>match h[i]? with|some (.lst xs)=>some xs|_=>none) λxs=>bnd (bA (bw xs)) λks=>aO (decide (k∈ks)) (bnd (put i (.lst (xs.eraseIdx (ks.idxOf k)))) λ_=>ret .non)
 |_,_,_=>bA none
def recv(h:Hs):Me->Val->Option Unit
 |.join,.str _=>some ()
 |.append,.ref i=>match h[i]? with|some (.lst _)=>some ()|_=>none
 |.extend,.ref i=>match h[i]? with|some (.lst _)=>some ()|_=>none
 |.remove,.ref i=>match h[i]? with|some (.lst _)=>some ()|_=>none
 |_,_=>none
inductive Src
 |fix (xs:List Val)|live (i:Nat)|enum (i:Nat)|zip (v w:Val)
def gF:Nat->List Val->List Val
 |_,[]=>[]
 |i,d::r=>.tup [.int i,d]::gF (i+1) r
def Sg:List Val->List Val->List Val
 |a::r,b::t=>.tup [a,b]::Sg r t
 |_,_=>[]
def cu(lo:Int)(n:Nat):List Val:=(List.range n).map λ(i:Nat)=>Val.int (lo+(i:Int))
def inR(i:Int):Bool:=decide (-(2 ^ 62)<=i)&&decide (i<2 ^ 62)
def srcOf:Ik->List Val->Option Src
 |.seq,[.tup vs]=>some (.fix vs)
 |.seq,[.rl vs]=>some (.fix vs)
 |.seq,[.ref i]=>some (.live i)
 |.range,[.int n]=>if inR n then some (.fix (cu 0 n.toNat)) else none
 |.range,[.int a,.int b]=>if inR a&&inR b then some (.fix (cu a (b-a).toNat)) else none
 |.enum,[.rl vs]=>some (.fix (gF 0 vs))
 |.enum,[.ref i]=>some (.enum i)
 |.zip,[v,w]=>some (.zip v w)
 |_,_=>none
def Src.items(h:Hs):Src->Option (List Val)
 |.fix xs=>some xs
 |.live i=>aI h (.ref i)
 |.enum i=>(aI h (.ref i)).map (gF 0)
 |.zip v w=>(aI h v).bind λxs=>(aI h w).map λys=>Sg xs ys
def bindAll:List Nat->List Val->Env->Option Env
 |[],[],env=>some env
 |i::is,d::ds,env=>bindAll is ds (env.set i (some d))
 |_,_,_=>none
def gZ:AE->Val->Env->Option Env
 |.one i,d,env=>some (env.set i (some d))
 |.tup is,.tup ds,env=>bindAll is ds env
 |_,_,_=>none
def jN(js:List (Option Nat))(env:Env):Env:=js.map λo=>match o with
 |none=>none
 | some j=>match env[j]? with
  |some (some d)=>some d
  |_=>none
def fJ(src:Src)(f:Val->M (Option Val)):Nat->Nat->List Val->M (List Val)
 |0,i,acc=>bnd (ask λh=>src.items h) λxs=>aO (decide (xs.length<=i)) (ret acc)
 | n+1,i,acc=>bnd (ask λh=>src.items h) λxs=>match xs[i]? with
  |none=>ret acc
  |some x=>bnd (f x) λo=>fJ src f n (i+1) (match o with|some e=>acc++[e]|none=>acc)
def dj:IE->Bool
 |.no=>true
 |_=>false
def lz:Val->Option Int
 |.int i=>some i
 |_=>none
def qy:Val->M Bool
 |.bl b=>ret b
 |_=>bA none
def calm{α:Type}(m:M α):M α:=λh=>match m h with
 |.ok a h'=>.ok a h'
 |.exc _ _ _=>.no
 |.no=>.no
def zv(c:Nat)(g:Str)(vs:List Val):M Val:=λh=>match vs with
 |[.int i]=>.exc c [.str g,.int i] h
 |_=>.no
def wG(c:Nat)(vs:List Val):M Val:=λh=>match vs with
 |[]=>.exc c [] h
 |_=>.no
def CP(env:Env)(p:Nat):Option Key:=match env[p]? with
 |some (some v)=>keyOf v
 |_=>none
mutual
noncomputable def aZ(Φ:Nat->List Val->M Val):IE->Env->M Val
 | .var i,env=>bA (match env[i]? with
  |some (some d)=>some d
  |_=>none)
 |.cst d,_=>ret d
 |.con _ d,_=>ret d
 |.no,_=>bA none
 |.bin o a b,env=>bnd (aZ Φ a env) λx=>bnd (aZ Φ b env) λy=>QW o x y
 |.neg _,_=>bA none
 |.cmp o a b,env=>bnd (aZ Φ a env) λx=>bnd (aZ Φ b env) λy=>bnd (ask λh=>cop h o x y) λt=>ret (.bl t)
 |.chn _ _ _ _ _,_=>bA none
 |.and a b,env=>bnd (aZ Φ a env) λx=>bnd (qy x) λt=>if t=true then bnd (aZ Φ b env) λy=>bnd (qy y) λu=>ret (.bl u) else ret (.bl false)
 |.or a b,env=>bnd (aZ Φ a env) λx=>bnd (qy x) λt=>if t=true then ret (.bl true) else bnd (aZ Φ b env) λy=>bnd (qy y) λu=>ret (.bl u)
 |.not a,env=>bnd (aZ Φ a env) λx=>bnd (qy x) λt=>ret (.bl (!t))
 |.ite _ _ _,_=>bA none
 |.tup es,env=>bnd (bN Φ es env) λds=>aO (decide (ds.length<=sizeLine)) (ret (.tup ds))
 |.lst es,env=>bnd (bN Φ es env) λds=>aO (decide (ds.length<=sizeLine)) (new (.lst ds))
 |.idx a b,env=>bnd (aZ Φ a env) λx=>bnd (aZ Φ b env) λy=>ask λh=>mF h x y
 |.slc a lo hi,env=>bnd (aZ Φ a env) λx=>bnd (if dj lo=true then ret none else bnd (aZ Φ lo env) λv=>bnd (bA (lz v)) λi=>ret (some i)) λl=>
   bnd (if dj hi=true then ret none else bnd (aZ Φ hi env) λv=>bnd (bA (lz v)) λi=>ret (some i)) λu=>sD x l u
 |.call j es,env=>bnd (bN Φ es env) λds=>Φ j ds
 |.blt b es,env=>bnd (bN Φ es env) λds=>blt b ds
 |.met m a es,env=>bnd (aZ Φ a env) λx=>bnd (ask λh=>recv h m x) λ_=>bnd (bN Φ es env) λds=>met m x ds
 | .comp _ js pat k it c elt,env=>calm (bnd (bN Φ it env) λits=>bnd (bA (srcOf k its)) λsrc=>bnd (ask λh=>src.items h) λxs=>aO (decide (xs.length<=100000))
   (bnd (fJ src (λd=>bnd (bA (gZ pat d (jN js env))) λenv'=>bnd (if dj c=true then ret true else bnd (aZ Φ c env') λv=>ask λh=>cR h v) λt=>
    if t=true then bnd (aZ Φ elt env') λe=>ret (some e) else ret none) xs.length 0 []) λys=>new (.lst ys)))
 |.dct0,_=>new (.dct [])
 |.sset a,env=>bnd (aZ Φ a env) λv=>bnd (ask λh=>aI h v) λxs=>bnd (bA (bw xs)) λns=>aO (decide (ns.length<64)) (new (.lst ((sortI (L2.iu [] ns)).map .int)))
 |.dget d k x,env=>bnd (aZ Φ d env) λo=>bnd (ask λh=>EH h o) λ_=>bnd (aZ Φ k env) λi=>bnd (bA (keyOf i)) λkk=>bnd (aZ Φ x env) λz=>bnd (ask λh=>CL h o kk) λr=>ret (r.getD z)
 |.dct1 k v,env=>bnd (aZ Φ k env) λx=>bnd (bA (keyOf x)) λkk=>bnd (aZ Φ v env) λy=>new (.dct [(kk,y)])
 |.lkeys _,_=>bA none
 |.sdef _ _ _,_=>bA none
 |.svals _,_=>bA none
 |.skeys _,_=>bA none
 |.fld _ _ _,_=>bA none
 |.mth _ _ _ _,_=>bA none
 |.rev _ _,_=>bA none
 |.dflt _ _ p q d w,env=>bnd (bA (CP env p)) λkp=>bnd (aZ Φ d env) λx=>bnd (bA (CP env q)) λkq=>bnd (aZ Φ w env) λy=>aO (decide (kp≠kq)) (new (.dct [(kp,x),(kq,y)]))
 |.isc _ _ _,_=>bA none
noncomputable def bN(Φ:Nat->List Val->M Val):lT->Env->M (List Val)
 |.nil,_=>ret []
 |.cons e es,env=>bnd (aZ Φ e env) λd=>bnd (bN Φ es env) λds=>ret (d::ds)
end
inductive Fl
 |nx (env:Env)|rt (v:Val)|bk (env:Env)|ct (env:Env)
def forM(src:Src)(body:Val->Env->M Fl):Nat->Nat->Env->M Fl
 |0,i,env=>bnd (ask λh=>src.items h) λxs=>aO (decide (xs.length<=i)) (ret (.nx env))
 | n+1,i,env=>bnd (ask λh=>src.items h) λxs=>match xs[i]? with
  |none=>ret (.nx env)
  | some x=>bnd (body x env) λf=>match f with
   |.nx env'=>forM src body n (i+1) env'
   |.ct env'=>forM src body n (i+1) env'
   |.bk env'=>ret (.nx env')
   |.rt v=>ret (.rt v)
def wH(o i v:Val):M Unit:=match o with
 | .ref j=>bnd (ask λh=>h[j]?) λob=>match ob,i with
  |.lst xs,.int k=>bnd (bA (Cf xs.length k)) λn=>put j (.lst (xs.set n v))
  |.dct kvs,i=>bnd (bA (keyOf i)) λk=>aO (decide (kvs.length<sizeLine)) (put j (.dct (kU kvs k v)))
  |_,_=>bA none
 |_=>bA none
mutual
noncomputable def iA(Φ:Nat->List Val->M Val):IS->Env->M Fl
 |.expr e,env=>bnd (aZ Φ e env) λ_=>ret (.nx env)
 |.asg p e,env=>bnd (aZ Φ e env) λv=>bnd (bA (gZ p v env)) λenv'=>ret (.nx env')
 |.aug _ _ _,_=>bA none
 |.kR o i v,env=>bnd (aZ Φ v env) λx=>bnd (aZ Φ o env) λy=>bnd (aZ Φ i env) λz=>bnd (wH y z x) λ_=>ret (.nx env)
 |.iff c a b,env=>bnd (aZ Φ c env) λx=>bnd (ask λh=>cR h x) λt=>if t=true then lH Φ a env else lH Φ b env
 |.for p k it body,env=>bnd (bN Φ it env) λits=>bnd (bA (srcOf k its)) λsrc=>bnd (ask λh=>src.items h) λxs=>
   forM src (λx env=>bnd (bA (gZ p x env)) λenv'=>lH Φ body env') xs.length 0 env
 |.whl _ _ _,_=>bA none
 |.ret e,env=>bnd (aZ Φ e env) λv=>ret (.rt v)
 |.Jt,_=>ret (.rt .non)
 |.brk,env=>ret (.bk env)
 |.cnt,env=>ret (.ct env)
 |.pass,env=>ret (.nx env)
 |.never,_=>bA none
 |.setF _ a _ _,env=>bnd (aZ Φ a env) λ_=>bA none
noncomputable def lH(Φ:Nat->List Val->M Val):dF->Env->M Fl
 |.nil,env=>ret (.nx env)
 | .cons s r,env=>bnd (iA Φ s env) λf=>match f with
  |.nx env'=>lH Φ r env'
  |f=>ret f
end
def jA(Φ:Nat->List Val->M Val)(n:Nat)(body:dF)(vs:List Val):M Val :=
 bnd (lH Φ body (vs.map some++replicate (n-vs.length) none)) λf=>match f with
  |.nx _=>ret .non
  |.rt v=>ret v
  |_=>bA none
theorem jO{b:Bool}(ho:o=.lt\/o=.le\/o=.gt\/o=.ge)(e:cop h o v w=some b):∃i j,v=.int i/\w=.int j:=by
 cases v with
 |int i=>
  cases w with
  |int j=>exact⟨i,j,rfl,rfl⟩
  |_=>rcases ho with rfl|rfl|rfl|rfl<;>cases e
 |_=>rcases ho with rfl|rfl|rfl|rfl<;>cases e
structure Bd where
 K:Frag
 cl:Nat->Addr
def LL(K:Frag)(H:Hp)(a:Addr)(xs:List V):Prop :=
 (∃o,H a=some (.sM o (.lst xs)))\/gU K (λ_=>none) a xs
theorem LL.sq{K:Frag}{H:Hp}{a:Addr}{xs:List V}(h:LL K H a xs):gU K H a xs:=by
 rcases h with ⟨o,h⟩|(h|⟨o,h⟩)|h
 ·exact .inl (.inr ⟨o,h⟩)
 ·cases h
 ·cases h
 ·exact .inr h
mutual
noncomputable def VR(K:Frag)(ρ:List Addr)(H:Hp):Val->V->Prop
 |.non,x=>x=.non
 |.bl b,x=>x=.bl b
 |.int i,x=>x=.int i
 |.str s,x=>x=.str s
 |.tup vs,x=>∃a xs,x=.ref a/\jx K H a xs/\aB K ρ H vs xs
 |.rl vs,x=>∃a xs,x=.ref a/\LL K H a xs/\aB K ρ H vs xs
 |.dc _ _,_=>False
 |.ob _ _ _,_=>False
 |.ref i,x=>∃a,x=.ref a /\ ρ[i]?=some a
noncomputable def aB(K:Frag)(ρ:List Addr)(H:Hp):List Val->List V->Prop
 |[],xs=>xs=[]
 |v::vs,xs=>∃x r,xs=x::r/\VR K ρ H v x/\aB K ρ H vs r
end
def iF(K:Frag)(ρ:List Addr)(H:Hp):List (Key×Val)->List (Key×V)->Prop
 |[],xs=>xs=[]
 |(k,v)::vs,xs=>∃x r,xs=(k,x)::r/\VR K ρ H v x/\iF K ρ H vs r
def NK(K:Frag)(ρ:List Addr)(H:Hp):List (Str×Val)->List (Str×V)->Prop
 |[],xs=>xs=[]
 |(k,v)::vs,xs=>∃x r,xs=(k,x)::r/\VR K ρ H v x/\NK K ρ H vs r
def OR(B:Bd)(ρ:List Addr)(H:Hp)(a:Addr):Ob->Prop
 |.lst xs=>∃ys,H a=some (.lst ys)/\aB B.K ρ H xs ys
 |.dct kvs=>∃ks,H a=some (.dK ks)/\iF B.K ρ H kvs ks
 |.ins c fs=>∃dx gs,H a=some (.ins (B.cl c) dx gs)/\NK B.K ρ H fs gs
structure HR (B:Bd) (ρ:List Addr) (h:Hs) (H:Hp):Prop where
 len:ρ.length=h.length
 nd:ρ.Nodup
 ob:∀(i:Nat) (o:Ob) (a:Addr),h[i]?=some o -> ρ[i]?=some a->OR B ρ H a o
def Mu:HO->Bool
 |.lst _=>true|.dK _=>true|.ins ..=>true
 |_=>false
structure Gw (ρ:List Addr) (H:Hp) (ρ':List Addr) (H':Hp):Prop where
 pre:ρ <+: ρ'
 firm:∀a o,H a=some o->Mu o=false->H' a=some o
structure Gr (ρ:List Addr) (H:Hp) (ρ':List Addr) (H':Hp):Prop where
 pre:ρ <+: ρ'
 keep:∀a o,H a=some o->a ∉ ρ -> H' a=some o
 firm:∀a o,H a=some o->Mu o=false->H' a=some o
 fresh:∀a,a ∈ ρ'->a ∉ ρ -> H a=none
section
variable {K:Frag} {B:Bd} {ρ ρ' ρ1 ρ2:List Addr} {H H' H1 H2:Hp} {h h':Hs}
theorem Gr.w(g:Gr ρ H ρ' H'):Gw ρ H ρ' H':=⟨g.pre,g.firm⟩
theorem Gr.refl:Gr ρ H ρ H:=⟨aaB _,λ_ _ e _=>e,λ_ _ e _=>e,λ_ e n=>absurd e n⟩
theorem Gr.trans(g:Gr ρ H ρ1 H1)(k:Gr ρ1 H1 ρ2 H2):Gr ρ H ρ2 H2 where
 pre:=g.pre.trans k.pre
 keep a o e n:=k.keep a o (g.keep a o e n) λz=>by rw[g.fresh a z n]at e;cases e
 firm a o e n:=k.firm a o (g.firm a o e n) n
 fresh a z n:=by
  by_cases hb:a ∈ ρ1
  ·exact g.fresh a hb n
  ·cases e:H a with
   |none=>rfl
   |some o=>have e1:=g.keep a o e n;rw[k.fresh a z hb]at e1;cases e1
theorem uY{i:Nat}(p:ρ <+: ρ')(e:ρ[i]?=some a):ρ'[i]?=some a:=by
 obtain⟨t,rfl⟩:=p;have hi:i < ρ.length:=(aal.mp e).1;rw[aax hi];exact e
theorem Gw.UW(g:Gw ρ H ρ' H')(e:jx K H a xs):jx K H' a xs:=by
 rcases e with (e|⟨o,e⟩)|e
 ·exact .inl (.inl (g.firm _ _ e rfl))
 ·exact .inl (.inr ⟨o,g.firm _ _ e rfl⟩)
 ·exact .inr e
theorem Gw.NL(g:Gw ρ H ρ' H')(e:LL K H a xs):LL K H' a xs:=by
 rcases e with ⟨o,e⟩|e
 ·exact .inl ⟨o,g.firm _ _ e rfl⟩
 ·exact .inr e
mutual
theorem VR.jP(g:Gw ρ H ρ' H'):∀(v:Val) (x:V),VR K ρ H v x->VR K ρ' H' v x
 |.non,x,e=>by rw[VR]at e |-;exact e
 |.bl b,x,e=>by rw[VR]at e |-;exact e
 |.int b,x,e=>by rw[VR]at e |-;exact e
 |.str b,x,e=>by rw[VR]at e |-;exact e
 | .tup vs,x,e=>by
  rw[VR]at e |-;obtain⟨a,xs,rfl,q1,q2⟩:=e;exact⟨a,xs,rfl,g.UW q1,aB.jP g vs xs q2⟩
 | .rl vs,x,e=>by
  rw[VR]at e |-;obtain⟨a,xs,rfl,q1,q2⟩:=e;exact⟨a,xs,rfl,g.NL q1,aB.jP g vs xs q2⟩
 |.dc _ _,x,e=>by rw[VR]at e;exact e.elim
 |.ob _ _ _,x,e=>by rw[VR]at e;exact e.elim
 | .ref i,x,e=>by
  rw[VR]at e |-;obtain⟨a,rfl,q⟩:=e;exact⟨a,rfl,uY g.pre q⟩
theorem aB.jP(g:Gw ρ H ρ' H'):∀(vs:List Val) (xs:List V),aB K ρ H vs xs->aB K ρ' H' vs xs
 |[],xs,e=>by rw[aB]at e |-;exact e
 | v::vs,xs,e=>by
  rw[aB]at e |-;obtain⟨x,r,rfl,q1,q2⟩:=e;exact⟨x,r,rfl,VR.jP g v x q1,aB.jP g vs r q2⟩
end
theorem iF.jP(g:Gw ρ H ρ' H'):∀(vs:List (Key×Val)) (xs:List (Key×V)),iF K ρ H vs xs->iF K ρ' H' vs xs
 |[],xs,e=>e
 |(k,v)::vs,xs,⟨x,r,e,q1,q2⟩=>⟨x,r,e,VR.jP g v x q1,iF.jP g vs r q2⟩
theorem NK.jP(g:Gw ρ H ρ' H'):∀(vs:List (Str×Val)) (xs:List (Str×V)),NK K ρ H vs xs->NK K ρ' H' vs xs
 |[],xs,e=>e
 |(k,v)::vs,xs,⟨x,r,e,q1,q2⟩=>⟨x,r,e,VR.jP g v x q1,NK.jP g vs r q2⟩
theorem VR.up(g:Gr ρ H ρ' H')(v:Val)(x:V)(e:VR K ρ H v x):VR K ρ' H' v x:=VR.jP g.w v x e
theorem aB.up(g:Gr ρ H ρ' H')(v:List Val)(x:List V)(e:aB K ρ H v x):aB K ρ' H' v x:=aB.jP g.w v x e
theorem iF.up(g:Gr ρ H ρ' H')(v:List (Key×Val))(x:List (Key×V))(e:iF K ρ H v x):iF K ρ' H' v x:=iF.jP g.w v x e
theorem aB.nil:aB K ρ H [] []:=by rw[aB]
theorem aB.cons{v:Val}{vs:List Val}{x:V}{xs:List V}(a:VR K ρ H v x)(b:aB K ρ H vs xs):aB K ρ H (v::vs) (x::xs):=by rw[aB];exact⟨x,xs,rfl,a,b⟩
theorem aB.length:∀{vs:List Val} {xs:List V},aB K ρ H vs xs->vs.length=xs.length
 |[],xs,e=>by rw[aB]at e;subst e;rfl
 |v::vs,xs,e=>by rw[aB]at e;obtain⟨x,r,rfl,_,q⟩:=e;simp[aB.length q]
theorem aB.get:∀{vs:List Val} {xs:List V} {i:Nat} {v:Val},aB K ρ H vs xs->vs[i]?=some v->∃x,xs[i]?=some x/\VR K ρ H v x
 |[],xs,i,v,e,q=>by simp at q
 | w::vs,xs,0,v,e,q=>by
  rw[aB]at e;obtain⟨x,r,rfl,a,_⟩:=e;simp at q;subst q;exact⟨x,rfl,a⟩
 | w::vs,xs,i+1,v,e,q=>by
  rw[aB]at e;obtain⟨x,r,rfl,_,b⟩:=e;simp at q;obtain⟨y,q1,q2⟩:=aB.get b q;exact⟨y,by simpa using q1,q2⟩
theorem aB.append:∀{vs ws:List Val} {xs ys:List V},aB K ρ H vs xs->aB K ρ H ws ys->aB K ρ H (vs++ws) (xs++ys)
 |[],ws,xs,ys,e,q=>by rw[aB]at e;subst e;exact q
 | w::vs,ws,xs,ys,e,q=>by
  rw[aB]at e;obtain⟨x,r,rfl,a,b⟩:=e;exact aB.cons a (aB.append b q)
theorem aB.take:∀{vs:List Val} {xs:List V} (n:Nat),aB K ρ H vs xs->aB K ρ H (vs.take n) (xs.take n)
 |_,_,0,_=>by simp;exact aB.nil
 |[],xs,n+1,e=>by rw[aB]at e;subst e;simp;exact aB.nil
 | w::vs,xs,n+1,e=>by
  rw[aB]at e;obtain⟨x,r,rfl,a,b⟩:=e;exact aB.cons a (aB.take n b)
theorem aB.drop:∀{vs:List Val} {xs:List V} (n:Nat),aB K ρ H vs xs->aB K ρ H (vs.drop n) (xs.drop n)
 |_,_,0,e=>by simpa using e
 |[],xs,n+1,e=>by rw[aB]at e;subst e;simp;exact aB.nil
 | w::vs,xs,n+1,e=>by
  rw[aB]at e;obtain⟨x,r,rfl,a,b⟩:=e;exact aB.drop n b
theorem aB.cut(lo hi:Option Int)(e:aB K ρ H vs xs):aB K ρ H (di vs lo hi) (vP xs lo hi):=by
 unfold di vP;rw[e.length];exact aB.take _ (aB.drop _ e)
theorem aB.fX{i:Int}(e:aB K ρ H vs xs)(q:L2.fX vs i=some v):∃x,L2.fX xs i=some x/\VR K ρ H v x:=by
 unfold L2.fX at q |-;rw[e.length]at q;cases hi:L2.Cf xs.length i with
 |none=>rw[hi]at q;cases q
 |some n=>rw[hi]at q;exact aB.get e q
theorem aB.set:∀{vs:List Val} {xs:List V} (n:Nat) {v:Val} {x:V},aB K ρ H vs xs->VR K ρ H v x->aB K ρ H (vs.set n v) (xs.set n x)
 |[],xs,n,v,x,e,q=>by rw[aB]at e;subst e;simp;exact aB.nil
 | w::vs,xs,0,v,x,e,q=>by
  rw[aB]at e;obtain⟨y,r,rfl,a,b⟩:=e;exact aB.cons q b
 | w::vs,xs,n+1,v,x,e,q=>by
  rw[aB]at e;obtain⟨y,r,rfl,a,b⟩:=e;exact aB.cons a (aB.set n b q)
theorem aB.one(e:aB K ρ H [v] xs):∃x,xs=[x]/\VR K ρ H v x:=by
 rw[aB]at e;obtain⟨x,r,rfl,a,b⟩:=e;rw[aB]at b;subst b;exact⟨x,rfl,a⟩
theorem aB.two(e:aB K ρ H [v,w] xs):∃x y,xs=[x,y]/\VR K ρ H v x/\VR K ρ H w y:=by
 rw[aB]at e;obtain⟨x,r,rfl,a,b⟩:=e;obtain⟨y,rfl,c⟩:=aB.one b;exact⟨x,y,rfl,a,c⟩
theorem VR.int{i:Int}:VR K ρ H (.int i) (.int i):=by rw[VR]
theorem VR.str:VR K ρ H (.str i) (.str i):=by rw[VR]
theorem VR.bl{i:Bool}:VR K ρ H (.bl i) (.bl i):=by rw[VR]
theorem VR.non:VR K ρ H .non .non:=by rw[VR]
theorem VR.tup(q:jx K H a xs)(e:aB K ρ H vs xs):VR K ρ H (.tup vs) (.ref a):=by rw[VR];exact⟨a,xs,rfl,q,e⟩
theorem VR.ref{i:Nat}(q:ρ[i]?=some a):VR K ρ H (.ref i) (.ref a):=by rw[VR];exact⟨a,rfl,q⟩
theorem aB.ints:∀{ns:List Int} {xs:List V},aB K ρ H (ns.map Val.int) xs↔xs=ns.map V.int
 |[],xs=>by simp[aB]
 | n::ns,xs=>by
  simp only[map_cons];rw[aB];constructor
  ·rintro⟨x,r,rfl,a,b⟩;rw[VR]at a;subst a;rw[(aB.ints (ns:=ns)).mp b]
  ·rintro rfl;exact⟨_,_,rfl,VR.int,(aB.ints (ns:=ns)).mpr rfl⟩
theorem aB.tups:∀{pD:List (List Int)} {xs:List V},aB K ρ H (pD.map lG) xs->∃rs:List (Addr×List Int),xs=rs.map (λr=>V.ref r.1)/\pD=rs.map (·.2)/\∀r∈rs,jx K H r.1 (r.2.map V.int)
 |[],xs,e=>by simp only[map_nil]at e;rw[aB]at e;exact⟨[],e,rfl,λ_ z=>nomatch z⟩
 | ks::pD,xs,e=>by
  simp only[map_cons]at e;rw[aB]at e;obtain⟨x,r,rfl,a,b⟩:=e;obtain⟨rs,e1,e2,e3⟩:=aB.tups b;unfold lG at a;rw[VR]at a;obtain⟨p,ys,rfl,g1,g2⟩:=a;rw[aB.ints.mp g2]at g1;refine⟨(p,ks)::rs,by rw[e1];rfl,by rw[e2];rfl,λr hr=>?_⟩
  rcases aao.mp hr with z|z
  ·rw[z];exact g1
  ·exact e3 r z
theorem aB.AF:∀{rs:List (Addr×List Int)},(∀r∈rs,jx K H r.1 (r.2.map V.int))->aB K ρ H ((rs.map (·.2)).map lG) (rs.map λr=>V.ref r.1)
 |[],_=>aB.nil
 |r::rs,e=>aB.cons (VR.tup (e r aak) (aB.ints.mpr rfl)) (aB.AF λq hq=>e q (aaf _ hq))
theorem OR.mu(q:OR B ρ H a o):∃u,H a=some u/\Mu u=true:=by
 cases o with
 |lst xs=>obtain⟨ys,e,_⟩:=q;exact⟨_,e,rfl⟩
 |dct xs=>obtain⟨ys,e,_⟩:=q;exact⟨_,e,rfl⟩
 |ins c fs=>obtain⟨dx,ys,e,_⟩:=q;exact⟨_,e,rfl⟩
theorem HR.mu(r:HR B ρ h H)(e:a ∈ ρ):∃u,H a=some u/\Mu u=true:=by
 obtain⟨i,hi,rfl⟩:=getElem_of_mem e;have hi':i<h.length:=by rw[<-r.len];exact hi
 exact(r.ob i _ _ (aaz hi') (aaz hi)).mu
theorem HR.out(r:HR B ρ h H)(e:H p=none):p ∉ ρ:=λz=>by
 obtain⟨u,q,_⟩:=r.mu z;rw[e]at q;cases q
theorem OR.jP(g:Gw ρ H ρ' H')(e:H' a=H a)(q:OR B ρ H a o):OR B ρ' H' a o:=by
 cases o with
 |lst xs=>obtain⟨ys,e1,e2⟩:=q;exact⟨ys,e.trans e1,aB.jP g _ _ e2⟩
 |dct xs=>obtain⟨ys,e1,e2⟩:=q;exact⟨ys,e.trans e1,iF.jP g _ _ e2⟩
 |ins c fs=>obtain⟨dx,ys,e1,e2⟩:=q;exact⟨dx,ys,e.trans e1,NK.jP g _ _ e2⟩
theorem OR.up(g:Gr ρ H ρ' H')(e:H' a=H a)(q:OR B ρ H a o):OR B ρ' H' a o:=OR.jP g.w e q
theorem Gr.side(e:H p=none):Gr ρ H ρ (upd H p o) where
 pre:=aaB _
 keep a u q _:=by rw[ao (aF q e)];exact q
 firm a u q _:=by rw[ao (aF q e)];exact q
 fresh a z n:=absurd z n
theorem HR.side(r:HR B ρ h H)(e:H p=none):HR B ρ h (upd H p o) where
 len:=r.len
 nd:=r.nd
 ob i u a q1 q2:=by refine OR.up (Gr.side e) ?_ (r.ob i u a q1 q2);refine ao λz=>?_;subst z;exact r.out e (aaF q2)
theorem Gw.other(e:H p=some u)(hm:Mu u=true):Gw ρ H ρ (upd H p o) where
 pre:=aaB _
 firm a w q n:=by
  have:a≠p:=λz=>by subst z;rw[e]at q;cases q;rw[hm]at n;cases n
  rw[ao this];exact q
theorem HR.other(r:HR B ρ h H)(hp:p ∉ ρ)(e:H p=some u)(hm:Mu u=true):HR B ρ h (upd H p o) where
 len:=r.len
 nd:=r.nd
 ob i w a q1 q2:=OR.jP (Gw.other e hm) (ao λz=>by subst z;exact hp (aaF q2)) (r.ob i w a q1 q2)
theorem Gr.new(e:H p=none):Gr ρ H (ρ ++ [p]) (upd H p o) where
 pre:=aa0 _ _
 keep a u q _:=by rw[ao (aF q e)];exact q
 firm a u q _:=by rw[ao (aF q e)];exact q
 fresh a z n:=by
  rcases aaD.mp z with z|z
  ·exact absurd z n
  ·rw[aaq.mp z];exact e
theorem HR.new(r:HR B ρ h H)(e:H p=none)(q:OR B (ρ ++ [p]) (upd H p o) p u):HR B (ρ ++ [p]) (h++[u]) (upd H p o) where
 len:=by simp[r.len]
 nd:=by rw[aaY];refine⟨r.nd,by simp,λa ha b hb=>?_⟩;rw[aaq.mp hb];rintro rfl;exact r.out e ha
 ob i v a q1 q2:=by
  by_cases hi:i<h.length
  ·rw[aax hi]at q1;rw[aax (by rw[r.len];exact hi)]at q2;refine OR.up (Gr.new e) (ao λz=>?_) (r.ob i v a q1 q2);subst z;exact r.out e (aaF q2)
  ·rw[aaL (by omega)]at q1
   rw[aaL (by rw[r.len];omega)]at q2;have hi0:i-h.length=0:=by have:=(aal.mp q1).1;simp at this;omega
   rw[hi0]at q1;rw[r.len,hi0]at q2;simp at q1 q2;subst q1;subst q2;exact q
theorem pF(r:HR B ρ h H):VR K (ρ ++ [p]) H' (.ref h.length) (.ref p):=VR.ref (by rw[<-r.len];simp)
theorem LM{α:Type}:∀{l:List α} {i j:Nat} {a:α},l.Nodup->l[i]?=some a->l[j]?=some a->i=j
 |[],i,j,a,_,e,_=>by simp at e
 |b::l,0,0,a,_,_,_=>rfl
 | b::l,0,j+1,a,n,e,f=>by
  simp at e f;subst e;exact absurd (aaF f) (aaW.mp n).1
 | b::l,i+1,0,a,n,e,f=>by
  simp at e f;subst f;exact absurd (aaF e) (aaW.mp n).1
 | b::l,i+1,j+1,a,n,e,f=>by
  simp at e f;rw[LM (aaW.mp n).2 e f]
theorem Gr.put(hp:p ∈ ρ)(e:H p=some u)(hm:Mu u=true):Gr ρ H ρ (upd H p o) where
 pre:=aaB _
 keep a w q n:=by rw[ao λz=>n (by rw[z];exact hp)];exact q
 firm a w q n:=by
  have:a≠p:=λz=>by subst z;rw[e]at q;cases q;rw[hm]at n;cases n
  rw[ao this];exact q
 fresh a z n:=absurd z n
theorem HR.put{i:Nat}(r:HR B ρ h H)(hi:ρ[i]?=some p)(e:h[i]?=some w)(q:OR B ρ (upd H p o) p u):HR B ρ (h.set i u) (upd H p o) where
 len:=by simp[r.len]
 nd:=r.nd
 ob j v a q1 q2:=by
  obtain⟨z,k1,k2⟩:=(r.ob i w p e hi).mu
  by_cases hj:j=i
  ·subst hj;rw[hi]at q2;cases q2;have hlt:j<h.length:=(aal.mp e).1;rw[aar hlt]at q1;cases q1;exact q
  ·rw[aaj (λz=>hj z.symm)]at q1;refine OR.up (Gr.put (aaF hi) k1 k2) (ao λz=>?_) (r.ob j v a q1 q2);subst z;exact hj (LM r.nd q2 hi)
theorem fS(r:HR B ρ h H)(q:VR B.K ρ H v x)(e:aI h v=some xs):∃a ys,x=.ref a/\gU B.K H a ys/\aB B.K ρ H xs ys:=by
 cases v with
 |rl vs=>simp only[aI]at e;cases e;rw[VR]at q;obtain⟨a,ys,rfl,k1,k2⟩:=q;exact⟨a,ys,rfl,k1.sq,k2⟩
 |ref i=>
  simp only[aI]at e;split at e
  ·rename_i zs e1;cases e;rw[VR]at q;obtain⟨a,rfl,k1⟩:=q;obtain⟨ys,k2,k3⟩:=r.ob i _ a e1 k1;exact⟨a,ys,rfl,.inl (.inl k2),k3⟩
  ·cases e
 |_=>cases e
theorem kG{i:Nat}(r:HR B ρ h H)(q:VR B.K ρ H (.ref i) x)(e:h[i]?=some (.lst xs)):∃a ys,x=.ref a /\ ρ[i]?=some a/\H a=some (.lst ys)/\aB B.K ρ H xs ys:=by
 rw[VR]at q;obtain⟨a,rfl,k1⟩:=q;obtain⟨ys,k2,k3⟩:=r.ob i _ a e k1;exact⟨a,ys,rfl,k1,k2,k3⟩
theorem zw(r:HR B ρ h H)(q:VR B.K ρ H v x)(e:cY h v=some xs):∃a ys,x=.ref a/\(gU B.K H a ys\/jx B.K H a ys)/\aB B.K ρ H xs ys:=by
 cases v with
 |tup vs=>simp only[cY]at e;cases e;rw[VR]at q;obtain⟨a,ys,rfl,k1,k2⟩:=q;exact⟨a,ys,rfl,.inr k1,k2⟩
 |rl vs=>obtain⟨a,ys,e1,k1,k2⟩:=fS r q (show aI h (.rl vs)=some xs from e);exact⟨a,ys,e1,.inl k1,k2⟩
 |ref vs=>obtain⟨a,ys,e1,k1,k2⟩:=fS r q (show aI h (.ref vs)=some xs from e);exact⟨a,ys,e1,.inl k1,k2⟩
 |_=>cases e
theorem nH(r:HR B ρ h H):∀(n:Nat) (v:Val) (x:V) (d:PyData),VR B.K ρ H v x->toD n h v=some d->Den B.K H d x/\d.canLay0=true/\d.depth<=n:=by
 intro n
 induction n with
 |zero=>intro v x d _ e;simp only[toD]at e;cases e
 |succ n ih=>
  have all:∀(vs:List Val) (xs:List V) (ds:List PyData),aB B.K ρ H vs xs->cZ (toD n h) vs=some ds->dR B.K H ds xs/\PyData.canLayAll0 ds=true/\PyData.depthAll ds<=n:=by
   intro vs
   induction vs with
   |nil=>intro xs ds q e;simp only[cZ]at e;cases e;rw[aB]at q;subst q;exact⟨dR.nil,rfl,by simp[PyData.depthAll]⟩
   |cons v vs Zq=>intro xs ds q e;simp only[cZ]at e;obtain⟨d,e1,e⟩:=aai.mp e;obtain⟨ds',e2,e⟩:=aai.mp e;cases e;rw[aB]at q;obtain⟨x,r,rfl,q1,q2⟩:=q;obtain⟨a1,a2,a3⟩:=ih v x d q1 e1;obtain⟨b1,b2,b3⟩:=Zq r ds' q2 e2;refine⟨dR.cons a1 b1,by simp[PyData.canLayAll0,a2,b2],?_⟩;simp only[PyData.depthAll];omega
  intro v x d q e;cases v with
  |non=>simp only[toD]at e;cases e;rw[VR]at q;subst q;exact⟨Den.none,rfl,by simp[PyData.depth]⟩
  |bl b=>simp only[toD]at e;cases e;rw[VR]at q;subst q;exact⟨Den.bool,rfl,by simp[PyData.depth]⟩
  |int b=>simp only[toD]at e;cases e;rw[VR]at q;subst q;exact⟨Den.int,rfl,by simp[PyData.depth]⟩
  |str b=>
   simp only[toD]at e;split at e
   ·rename_i hs;cases e;rw[VR]at q;subst q;exact⟨Den.str,by simp[PyData.canLay0,hs],by simp[PyData.depth]⟩
   ·cases e
  |tup vs=>simp only[toD]at e;obtain⟨ds,e1,e⟩:=aai.mp e;cases e;rw[VR]at q;obtain⟨a,xs,rfl,q1,q2⟩:=q;obtain⟨b1,b2,b3⟩:=all vs xs ds q2 e1;exact⟨Den.tuple q1 b1,by simp[PyData.canLay0,b2],by simp only[PyData.depth];omega⟩
  |rl vs=>simp only[toD]at e;obtain⟨ds,e1,e⟩:=aai.mp e;cases e;rw[VR]at q;obtain⟨a,xs,rfl,q1,q2⟩:=q;obtain⟨b1,b2,b3⟩:=all vs xs ds q2 e1;exact⟨Den.list q1.sq b1,by simp[PyData.canLay0,b2],by simp only[PyData.depth];omega⟩
  |dc _ _=>rw[VR]at q;exact q.elim
  |ob _ _ _=>rw[VR]at q;exact q.elim
  |ref i=>simp only[toD]at e;obtain⟨vs,e0,e⟩:=aai.mp e;obtain⟨ds,e1,e⟩:=aai.mp e;cases e;obtain⟨a,xs,rfl,q1,q2⟩:=fS r q e0;obtain⟨b1,b2,b3⟩:=all vs xs ds q2 e1;exact⟨Den.list q1 b1,by simp[PyData.canLay0,b2],by simp only[PyData.depth];omega⟩
end
theorem nI(x:List Int):∀l,(uV x l).Perm (x::l)
 |[]=>.refl _
 | y::r=>by
  unfold uV;split
  ·exact((nI x r).cons y).trans (.swap _ _ _)
  ·exact .refl _
theorem qz:∀l,(mC l).Perm l
 |[]=>.refl _
 |x::r=>(nI x _).trans ((qz r).cons x)
theorem wI{a b c:List Int}(h1:HT.lexLt b a=false)(h2:HT.lexLt c b=false):HT.lexLt c a=false:=by
 cases e:HT.lexLt c a with
 |false=>rfl
 |true=>
  rcases uN.tE c b a e with z|z
  ·rw[h2]at z;cases z
  ·rw[h1]at z;cases z
theorem wJ{a b:List Int}(h:HT.lexLt a b=true):HT.lexLt b a=false:=by
 cases e:HT.lexLt b a with
 |false=>rfl
 |true=>have:=uN.gX _ _ _ h e;rw[uN.iY]at this;cases this
theorem AG(x:List Int):∀l:List (List Int),l.Pairwise (λa b=>HT.lexLt b a=false)->(uV x l).Pairwise (λa b=>HT.lexLt b a=false)
 |[],_=>by simp[uV]
 | y::r,h=>by
  obtain⟨h1,h2⟩:=pairwise_cons.mp h;unfold uV
  split
  ·rename_i hlt
   refine pairwise_cons.mpr ⟨λz hz=>?_,AG x r h2⟩
   rcases aao.mp ((nI x r).mem_iff.mp hz) with rfl|hz
   ·exact wJ hlt
   ·exact h1 z hz
  ·rename_i hlt
   refine pairwise_cons.mpr ⟨λz hz=>?_,h⟩;have hxy:HT.lexLt y x=false:=by simpa using hlt
   rcases aao.mp hz with rfl|hz
   ·exact hxy
   ·exact wI hxy (h1 z hz)
theorem wK:∀l,(mC l).Pairwise (λa b=>HT.lexLt b a=false)
 |[]=>.nil
 |x::r=>AG x _ (wK r)
theorem EJ(hp:l.Perm pD)(hs:l.Pairwise (λa b=>HT.lexLt b a=false)):l=mC pD :=
 List.Perm.eq_of_pairwise (λa b _ _ h1 h2=>uN.gW a b h2 h1) hs (wK pD) (hp.trans (qz pD).symm)
theorem CQ{ns:List Int}{m:Int}(h:m∈ns)(h2:∀a∈ns,m<=a):uW ns=some (.int m):=by
 cases ns with
 |nil=>cases h
 |cons a r=>
  have key:∀(r:List Int) (a:Int),(r.foldl min a)∈a::r/\∀b∈a::r,r.foldl min a<=b:=by
   intro r
   induction r with
   |nil=>intro a;simp
   |cons c r ih=>
    intro a;obtain⟨q1,q2⟩:=ih (min a c);refine⟨?_,λb hb=>?_⟩
    ·show List.foldl min (min a c) r∈_
     rcases aao.mp q1 with z|z
     ·rw[z]
      rcases Int.le_total a c with hc|hc
      ·rw[Int.min_eq_left hc];exact aak
      ·rw[Int.min_eq_right hc];exact aaf _ aak
     ·exact aaf _ (aaf _ z)
    ·show List.foldl min (min a c) r<=b
     have q3:=q2 (min a c) aak
     rcases aao.mp hb with z|z
     ·subst z;omega
     ·rcases aao.mp z with z|z
      ·subst z;omega
      ·exact q2 b (aaf _ z)
  obtain⟨q1,q2⟩:=key r a;show some (Val.int (r.foldl min a))=_;rw[Int.le_antisymm (q2 m h) (h2 _ q1)]
theorem CS{ns:List Int}{m:Int}(h:m∈ns)(h2:∀a∈ns,a<=m):uX ns=some (.int m):=by
 cases ns with
 |nil=>cases h
 |cons a r=>
  have key:∀(r:List Int) (a:Int),(r.foldl max a)∈a::r/\∀b∈a::r,b<=r.foldl max a:=by
   intro r
   induction r with
   |nil=>intro a;simp
   |cons c r ih=>
    intro a;obtain⟨q1,q2⟩:=ih (max a c);refine⟨?_,λb hb=>?_⟩
    ·show List.foldl max (max a c) r∈_
     rcases aao.mp q1 with z|z
     ·rw[z]
      rcases Int.le_total a c with hc|hc
      ·rw[Int.max_eq_right hc];exact aaf _ aak
      ·rw[Int.max_eq_left hc];exact aak
     ·exact aaf _ (aaf _ z)
    ·show b<=List.foldl max (max a c) r
     have q3:=q2 (max a c) aak
     rcases aao.mp hb with z|z
     ·subst z;omega
     ·rcases aao.mp z with z|z
      ·subst z;omega
      ·exact q2 b (aaf _ z)
  obtain⟨q1,q2⟩:=key r a;show some (Val.int (r.foldl max a))=_;rw[Int.le_antisymm (h2 _ q1) (q2 m h)]
def Post(B:Bd)(EX:Nat->List V->Hp->Prop)(ρ:List Addr)(H:Hp){α:Type}(W:α -> Hs->List Addr->Hp->Prop):Out α -> Prop
 |.ok a h'=>∀ρ' H',Gr ρ H ρ' H'->HR B ρ' h' H'->W a h' ρ' H'
 |.exc c vs h'=>∀ρ' H' xs,Gr ρ H ρ' H'->HR B ρ' h' H'->aB B.K ρ' H' vs xs->EX c xs H'
 |.no=>False
def WV(K:Frag)(Q:VK):Val->Hs->List Addr->Hp->Prop:=λv _ ρ' H'=>∀x,VR K ρ' H' v x->Q x H'
section
variable {B:Bd} {EX:Nat->List V->Hp->Prop} {ρ ρ':List Addr} {H H':Hp} {α β:Type} {W:β -> Hs->List Addr->Hp->Prop} {h h':Hs} {Q:VK}
theorem Post.up(g:Gr ρ H ρ' H')(p:Post B EX ρ H W o):Post B EX ρ' H' W o:=by
 cases o with
 |ok a h'=>exact λρ2 H2 g2 r=>p ρ2 H2 (g.trans g2) r
 |exc c vs h'=>exact λρ2 H2 xs g2 r=>p ρ2 H2 xs (g.trans g2) r
 |no=>exact p
theorem aS{c:Bool}(p:Post B EX ρ H W (aO c m h)):c=true/\Post B EX ρ H W (m h):=by
 unfold aO at p;split at p
 ·rename_i e;exact⟨e,p⟩
 ·exact p.elim
theorem aK(p:Post B EX ρ H W (bnd (ask f) g h)):∃a,f h=some a/\Post B EX ρ H W (g a h):=by
 unfold bnd ask bA at p;cases e:f h with
 |none=>rw[e]at p;exact p.elim
 |some a=>rw[e]at p;exact⟨a,rfl,p⟩
theorem dM(r:HR B ρ h H)(p:Post B EX ρ H W (ask f h)):∃a,f h=some a/\W a h ρ H:=by
 unfold ask bA at p;cases e:f h with
 |none=>rw[e]at p;exact p.elim
 |some a=>rw[e]at p;exact⟨a,rfl,p ρ H Gr.refl r⟩
theorem b7(p:Post B EX ρ H W (bnd (bA o) g h)):∃a,o=some a/\Post B EX ρ H W (g a h):=by
 unfold bnd bA at p;cases e:o with
 |none=>rw[e]at p;exact p.elim
 |some a=>rw[e]at p;exact⟨a,rfl,p⟩
theorem cN(r:HR B ρ h H)(p:Post B EX ρ H W (bA o h)):∃a,o=some a/\W a h ρ H:=by
 unfold bA at p;cases e:o with
 |none=>rw[e]at p;exact p.elim
 |some a=>rw[e]at p;exact⟨a,rfl,p ρ H Gr.refl r⟩
theorem aj(r:HR B ρ h H)(p:Post B EX ρ H W (ret a h)):W a h ρ H:=p ρ H Gr.refl r
theorem wL(r:HR B ρ h H)(hp:H p=none)(q:OR B (ρ ++ [p]) (upd H p O) p o)(w:Post B EX ρ H (WV B.K Q) (new o h)):Q (.ref p) (upd H p O) :=
 w (ρ ++ [p]) (upd H p O) (Gr.new hp) (r.new hp q) _ (pF r)
theorem fy(r:HR B ρ h H)(hp:H p=none)(q:aB B.K ρ H xs ys)(w:Post B EX ρ H (WV B.K Q) (new (.lst xs) h)):Q (.ref p) (upd H p (.lst ys)) :=
 wL (o:=.lst xs) (O:=.lst ys) r hp ⟨ys,aD,aB.up (Gr.new hp) _ _ q⟩ w
theorem qA(r:HR B ρ h H)(hp:H p=none)(q:aB B.K ρ H xs ys)(w:Post B EX ρ H (WV B.K Q) (ret (Val.tup xs) h)):Q (.ref p) (upd H p (.tup ys)) :=
 w ρ (upd H p (.tup ys)) (Gr.side hp) (r.side hp) _ (VR.tup (jx.of aD) (aB.up (Gr.side hp) _ _ q))
theorem aH(p:Post B EX ρ H W (bnd m f h))(k:∀v h1 ρ1 x H1,Gr ρ H ρ1 H1->HR B ρ1 h1 H1->VR B.K ρ1 H1 v x->Post B EX ρ1 H1 W (f v h1)->Q x H1):Post B EX ρ H (WV B.K Q) (m h):=by
 unfold bnd at p;cases e:m h with
 |ok v h1=>rw[e]at p;exact λρ1 H1 g r x q=>k v h1 ρ1 x H1 g r q (Post.up g p)
 |exc c vs h1=>rw[e]at p;exact p
 |no=>rw[e]at p;exact p
theorem bP(p:Post B EX ρ H W (bnd m f h))(k:∀v h1 ρ1 H1,Gr ρ H ρ1 H1->HR B ρ1 h1 H1->Post B EX ρ1 H1 W (f v h1)->W' v h1 ρ1 H1):Post B EX ρ H W' (m h):=by
 unfold bnd at p;cases e:m h with
 |ok v h1=>rw[e]at p;exact λρ1 H1 g r=>k v h1 ρ1 H1 g r (Post.up g p)
 |exc c vs h1=>rw[e]at p;exact p
 |no=>rw[e]at p;exact p
end
theorem fz:∀{ds:List Val} {ns:List Int},bw ds=some ns->ds=ns.map .int
 |[],ns,e=>by simp only[bw,cZ]at e;cases e;rfl
 | v::r,ns,e=>by
  simp only[bw,cZ]at e;obtain⟨i,e1,e⟩:=aai.mp e;obtain⟨is,e2,e⟩:=aai.mp e;cases e;cases v<;>first|cases e1|skip
  rw[fz (show bw r=some is from e2)];rfl
theorem tW:∀{ds:List Val} {pD:List (List Int)},lu ds=some pD->ds=pD.map lG/\∀ks∈pD,ks≠[]
 |[],ns,e=>by simp only[lu,cZ]at e;cases e;exact⟨rfl,λ_ z=>nomatch z⟩
 | v::r,ns,e=>by
  simp only[lu,cZ]at e;obtain⟨i,e1,e⟩:=aai.mp e;obtain⟨is,e2,e⟩:=aai.mp e;cases e;cases v<;>first|cases e1|skip
  rename_i vs;dsimp only at e1;split at e1
  ·cases e1
  ·rename_i hne
   obtain⟨q1,q2⟩:=tW (show lu r=some is from e2);have e3:=fz e1;subst e3;refine⟨by rw[q1];rfl,λks hk=>?_⟩
   rcases aao.mp hk with z|z
   ·subst z;intro z;subst z;exact hne rfl
   ·exact q2 ks z
section
variable {X:Cx} {cl:Nat->Addr} {EX:Nat->List V->Hp->Prop}
abbrev bd(X:Cx)(cl:Nat->Addr):Bd:=⟨X.K,cl⟩
theorem Ju:nh X (binaryOp .Add) (λx y H Q=>∃a b xs ys,x=.ref a/\y=.ref b/\gU X.K H a xs/\gU X.K H b ys/\xs.length+ys.length<=sizeLine/\∀p,H p=none->Q (.ref p) (upd H p (.lst (xs++ys)))):=by
 intro pins s σ H x y v u Q I rx ry h;obtain⟨l,l',xs,ys,rfl,rfl,q1,q3,hl,q⟩:=h;cases rx;cases ry;obtain⟨its,r1,Zr,z1⟩:=I.list q1;obtain⟨its',r2,Zs,z2⟩:=I.list q3;have l1:=r1.length;have l2:=r2.length;obtain⟨⟨oc,od,R5,osl⟩,n1,e1,e2,_,e4⟩:=Zr;obtain⟨⟨oc',od',Zt,V9⟩,n2,f1,f2,_,f4⟩:=Zs;cases e2;cases e4;cases f2;cases f4;refine concat_meets ⟨_,e1,rfl⟩ ⟨_,f1,rfl⟩ noFill_list_add seq_list_add PySem.F.slot_list_add PySem.F.entry_list_add (PySem.F.args_list_add_2 _ _) (list_addW l l' its.toArray its'.toArray n1 n2 od od' osl V9 (by simp only[size_toArray];omega)) ⟨e1,f1,?_⟩;have ea:its.toArray++its'.toArray=(its++its').toArray:=by simp
 rw[ea];have hn:H s.heap.objs.size=none:=I.hok.fresh (aam _);exact⟨.ref s.heap.objs.size,_,I.Vz (t':=s.toks) (its:=its++its') (r1.append r2) (by rw[aau];omega),rfl,q _ hn⟩
def EK:LJ->Operator
 |.add=>.Add|.sub=>.Sub|.mul=>.Mult|.fdiv=>.FloorDiv|.mod=>.Mod|.pow=>.Pow
def AH:NJ->CmpOp
 |.eq=>.Eq|.ne=>.NotEq|.lt=>.Lt|.le=>.LtE|.gt=>.Gt|.ge=>.GtE|.isn=>.Is|.ntn=>.IsNot|.EG=>.In|.nin=>.NotIn
def rB(B:Bd)(EX:Nat->List V->Hp->Prop)(o:LJ):R2:=λx y H Q=>∃ρ h v w,HR B ρ h H/\VR B.K ρ H v x/\VR B.K ρ H w y/\Post B EX ρ H (WV B.K Q) (QW o v w h)
theorem kT.log{j:Int}(h:kT j=true):0<j/\j.natAbs.log2<9000:=by
 have h:=aaC h;refine⟨h.1,(Nat.log2_lt (by omega)).mpr ?_⟩;have e:j.natAbs<2 ^ 200:=by
  have:(2:Nat) ^ 200=1606938044258990275541962092341162602522202993782792835301376:=by decide
  omega
 exact aas e (Nat.pow_le_pow_right (by decide) (by decide))
theorem EL:nh X (binaryOp .FloorDiv) (rI (λ_ j=>kT j=true) λi j=>.int (i/j)):=UO λi j _ _ _ _ _ hc q=>by
 obtain⟨h1,h2⟩:=kT.log hc;exact PyProof.Rows.floordiv_int (by omega) (by rw[Int.fdiv_eq_ediv_of_nonneg i (by omega)];exact q) (.inl (PyProof.noPylong_of_log2 h2))
theorem qB(ho:o≠.add)(v w:Val)(h:Hs):(∃i j,v=.int i/\w=.int j)\/QW o v w h=.no:=by
 cases v with
 |int i=>
  cases w with
  |int j=>exact .inl ⟨i,j,rfl,rfl⟩
  |_=>right;cases o<;>first|rfl|exact absurd rfl ho
 |_=>right;cases o<;>first|rfl|exact absurd rfl ho
theorem NN(o:LJ):nh X (binaryOp (EK o)) (rB (bd X cl) EX o):=by
 intro pins s σ H x y v' u' Q I rx ry hh;obtain⟨ρ,h,v,w,r,hv,hw,p⟩:=hh;have lists:Post (bd X cl) EX ρ H (WV X.K Q) (bnd (ask λh=>aI h v) (λa=>bnd (ask λh=>aI h w) λb=>aO (decide (a.length+b.length<=sizeLine)) (new (.lst (a++b)))) h)->wpAny (model X.prog X.w) X.A (binaryOp .Add v' u') (EP X pins σ Q) X.xe s:=by intro p;obtain⟨a,e1,p⟩:=aK p;obtain⟨b,e2,p⟩:=aK p;obtain⟨e3,p⟩:=aS p;have e3:=aaC e3;obtain⟨a1,Sh,rfl,k1,k2⟩:=fS r hv e1;obtain⟨a2,Wa,rfl,k3,k4⟩:=fS r hw e2;exact Ju pins s σ H _ _ v' u' Q I rx ry ⟨a1,a2,Sh,Wa,rfl,rfl,k1,k3,by rw[<-k2.length,<-k4.length];exact e3,λq hq=>fy r hq (aB.append k2 k4) p⟩
 cases o with
 |add=>
  cases v<;>cases w<;>first
   |exact lists p
   |skip
  ·rename_i a b;rw[VR]at hv hw;subst hv;subst hw;exact M5 pins s σ H _ _ _ _ Q I rx ry ⟨a,b,rfl,rfl,aj r p _ VR.int⟩
  ·rename_i a b;rw[VR]at hv hw;subst hv;subst hw;obtain⟨e,p⟩:=aS p;exact yN pins s σ H _ _ _ _ Q I rx ry ⟨a,b,rfl,rfl,aaC e,aj r p _ VR.str⟩
  ·rename_i a b
   rw[VR]at hv hw;obtain⟨a1,Sh,rfl,k1,k2⟩:=hv;obtain⟨a2,Wa,rfl,k3,k4⟩:=hw;obtain⟨e,p⟩:=aS p;simp only[and_eq_true,not_eq_true',decide_eq_true_eq]at e;refine IM pins s σ H _ _ _ _ Q I rx ry ⟨a1,a2,Sh,Wa,rfl,rfl,k1,k3,?_,by rw[<-k2.length,<-k4.length];exact e.2,λz=>?_,λ_ q hq=>qA r hq (aB.append k2 k4) p⟩
   ·intro z;subst z
    have:=k2.length;cases a with
    |nil=>simp at e
    |cons _ _=>simp at this
   ·subst z
    have hb:b=[]:=by cases b with|nil=>rfl|cons _ _=>have:=k4.length;simp at this
    subst hb;rw[append_nil]at p;exact aj r p _ (VR.tup k1 k2)
 |sub=>
  rcases qB (o:=.sub) (by intro z;cases z) v w h with ⟨i,j,rfl,rfl⟩|z
  case inr=>rw[z]at p;exact p.elim
  rw[VR]at hv hw;subst hv;subst hw;exact M6 pins s σ H _ _ _ _ Q I rx ry ⟨_,_,rfl,rfl,aj r p _ VR.int⟩
 |mul=>
  rcases qB (o:=.mul) (by intro z;cases z) v w h with ⟨i,j,rfl,rfl⟩|z
  case inr=>rw[z]at p;exact p.elim
  rw[VR]at hv hw;subst hv;subst hw;obtain⟨hm,p⟩:=aS p;refine M7 pins s σ H _ _ _ _ Q I rx ry ⟨_,_,rfl,rfl,?_,aj r p _ VR.int⟩;unfold ly at hm;simp only[or_eq_true,and_eq_true,decide_eq_true_eq]at hm;exact hm
 |fdiv=>
  rcases qB (o:=.fdiv) (by intro z;cases z) v w h with ⟨i,j,rfl,rfl⟩|z
  case inr=>rw[z]at p;exact p.elim
  rw[VR]at hv hw;subst hv;subst hw;obtain⟨hm,p⟩:=aS p;exact EL pins s σ H _ _ _ _ Q I rx ry ⟨_,_,rfl,rfl,hm,aj r p _ VR.int⟩
 |mod=>
  rcases qB (o:=.mod) (by intro z;cases z) v w h with ⟨i,j,rfl,rfl⟩|z
  case inr=>rw[z]at p;exact p.elim
  rw[VR]at hv hw;subst hv;subst hw;obtain⟨hm,p⟩:=aS p;exact M8 pins s σ H _ _ _ _ Q I rx ry ⟨_,_,rfl,rfl,aaC hm,aj r p _ VR.int⟩
 |pow=>
  rcases qB (o:=.pow) (by intro z;cases z) v w h with ⟨i,j,rfl,rfl⟩|z
  case inr=>rw[z]at p;exact p.elim
  rw[VR]at hv hw;subst hv;subst hw;obtain⟨hm,p⟩:=aS p;have hm:=aaC hm;exact M9 pins s σ H _ _ _ _ Q I rx ry ⟨_,_,rfl,rfl,hm,aj r p _ VR.int⟩
end
section
variable {X:Cx} {cl:Nat->Addr} {EX:Nat->List V->Hp->Prop}
theorem wM{b:Bool}(e:zu h v w=some b):∃d f,toD 16 h v=some d/\toD 16 h w=some f/\b=PyData.eqv d f:=by
 unfold zu at e;obtain⟨d,e1,e⟩:=aai.mp e;obtain⟨f,e2,e⟩:=aai.mp e;exact⟨d,f,e1,e2,(aaA e).symm⟩
theorem AI{K:Frag}{ρ:List Addr}{H:Hp}{v:Val}{x:V}(q:VR K ρ H v x):decide (x=.non)=mE v:=by
 cases v<;>rw[VR]at q
 ·subst q;rfl
 ·subst q;rfl
 ·subst q;rfl
 ·subst q;rfl
 ·obtain⟨a,xs,rfl,_⟩:=q;rfl
 ·obtain⟨a,xs,rfl,_⟩:=q;rfl
 ·exact q.elim
 ·exact q.elim
 ·obtain⟨a,rfl,_⟩:=q;rfl
theorem NO(hu:X.A.units+64<cLine)(neg:Bool):nh X (compareOp (if neg=true then .NotIn else .In)) (λx y H Q=>∃d f ds,Den X.K H d x/\Den X.K H f y/\d.canLay0=true/\f.canLay0=true/\d.depth<=16/\(f=.list ds\/f=.tuple ds)/\Q (.bl (if neg=true then !(ds.any λy=>PyData.eqv y d) else ds.any λy=>PyData.eqv y d)) H):=by
 intro pins s σ H x y v u Q I rx ry hh;obtain⟨d,f,ds,hd,hf,c1,c2,hz,e,q⟩:=hh;obtain⟨as,ra⟩:=Den.reads I d x v c1 hd rx;obtain⟨bs,rb⟩:=Den.reads I f y u c2 hf ry;have UX:X.A.units+1+min (PyData.depthAll ds) d.depth<cLine:=by have:=Nat.min_le_right (PyData.depthAll ds) d.depth;omega
 rcases e with rfl|rfl
 ·have c3:PyData.canLayAll0 ds=true:=by simpa [PyData.canLay0] using c2
  cases neg with
  |true=>exact SeqAt.notIn_list_reads rb ra c3 c1 UX ⟨.bl _,H,I,rfl,q⟩
  |false=>exact SeqAt.in_list_reads rb ra c3 c1 UX ⟨.bl _,H,I,rfl,q⟩
 ·have c3:PyData.canLayAll0 ds=true:=by simpa [PyData.canLay0] using c2
  cases neg with
  |true=>exact SeqAt.notIn_tuple_reads rb ra c3 c1 UX ⟨.bl _,H,I,rfl,q⟩
  |false=>exact SeqAt.in_tuple_reads rb ra c3 c1 UX ⟨.bl _,H,I,rfl,q⟩
theorem iF.val{K:Frag}{ρ:List Addr}{H:Hp}(k:Key):∀{kvs:List (Key×Val)} {ks:List (Key×V)},iF K ρ H kvs ks->(cJ kvs k=none->iG ks k=none)/\∀v,cJ kvs k=some v->∃x,iG ks k=some x/\VR K ρ H v x
 | [],ks,e=>by
  have:ks=[]:=e;subst this;exact⟨λ_=>rfl,λv z=>by simp[cJ]at z⟩
 | (k',v')::kvs,ks,⟨x,r,e,q1,q2⟩=>by
  subst e;obtain⟨a,b⟩:=iF.val k q2
  by_cases hk:k'=k
  ·subst hk;refine⟨λz=>by simp[cJ]at z,λv z=>⟨x,by simp[iG],?_⟩⟩;simp[cJ]at z;subst z;exact q1
  ·have e1:cJ ((k',v')::kvs) k=cJ kvs k:=by simp[cJ,hk]
   have e2:iG ((k',x)::r) k=iG r k:=by simp[iG,hk]
   rw[e1,e2];exact⟨a,b⟩
theorem iF.length{K:Frag}{ρ:List Addr}{H:Hp}:∀{kvs:List (Key×Val)} {ks:List (Key×V)},iF K ρ H kvs ks->kvs.length=ks.length
 |[],ks,e=>by have:ks=[]:=e;subst this;rfl
 |(k',v')::kvs,ks,⟨x,r,e,q1,q2⟩=>by subst e;simp[iF.length q2]
theorem iF.any{K:Frag}{ρ:List Addr}{H:Hp}(k:Key):∀{kvs:List (Key×Val)} {ks:List (Key×V)},iF K ρ H kvs ks->(kvs.any λkv=>decide (kv.1=k))=(ks.any λkv=>decide (kv.1=k))
 |[],ks,e=>by have:ks=[]:=e;subst this;rfl
 |(k',v')::kvs,ks,⟨x,r,e,q1,q2⟩=>by subst e;simp only[any_cons];rw[iF.any k q2]
theorem iF.repl{K:Frag}{ρ:List Addr}{H:Hp}(k:Key){v:Val}{y:V}(q:VR K ρ H v y):∀{kvs:List (Key×Val)} {ks:List (Key×V)},iF K ρ H kvs ks->iF K ρ H (kvs.map λkv=>if kv.1=k then (kv.1,v) else kv) (ks.map λkv=>if kv.1=k then (kv.1,y) else kv)
 |[],ks,e=>by have:ks=[]:=e;subst this;rfl
 | (k',v')::kvs,ks,⟨x,r,e,q1,q2⟩=>by
  subst e;simp only[map_cons]
  by_cases hk:k'=k
  ·rw[aae hk,aae hk];exact⟨y,_,rfl,q,iF.repl k q q2⟩
  ·rw[aac hk,aac hk];exact⟨x,_,rfl,q1,iF.repl k q q2⟩
theorem iF.snoc{K:Frag}{ρ:List Addr}{H:Hp}(k:Key){v:Val}{y:V}(q:VR K ρ H v y):∀{kvs:List (Key×Val)} {ks:List (Key×V)},iF K ρ H kvs ks->iF K ρ H (kvs++[(k,v)]) (ks++[(k,y)])
 |[],ks,e=>by have:ks=[]:=e;subst this;exact⟨y,[],rfl,q,rfl⟩
 |(k',v')::kvs,ks,⟨x,r,e,q1,q2⟩=>by subst e;exact⟨x,_,rfl,q1,iF.snoc k q q2⟩
theorem iF.put{K:Frag}{ρ:List Addr}{H:Hp}(k:Key){v:Val}{y:V}(q:VR K ρ H v y){kvs:List (Key×Val)}{ks:List (Key×V)}(e:iF K ρ H kvs ks):iF K ρ H (kU kvs k v) (putK ks k y):=by
 unfold kU putK;rw[iF.any k e]
 split
 ·exact iF.repl k q e
 ·exact iF.snoc k q e
theorem NP{K:Frag}{ρ:List Addr}{H:Hp}{v:Val}{x:V}{k:Key}(q:VR K ρ H v x)(e:keyOf v=some k):x=kV k:=by
 cases v<;>simp only[keyOf]at e<;>first|cases e|skip
 ·rw[VR]at q;exact q
 ·rw[VR]at q;exact q
theorem AJ(hu:X.A.units+64<cLine):QT X (λx y H Q=>∃a v,x=.ref a/\o4 H a y (some v)/\Q v H):=by
 intro value slice pins s σ H x y v u Q I rx ry h hs;obtain⟨a,z,rfl,g,q⟩:=h;cases rx;have hT:=vV I g;unfold subscriptTail;refine aaa ?_;rw[getitemInPython_of_ne hT.not_modules];refine aaa (wpAny_specialOf hT PySem.F.slot_dict_getitem.lookup ?_);have fin:wpAny (model X.prog X.w) X.A (subscripted slice false (.ref a) u) (λr s₃=>wpAny (model X.prog X.w) X.A (letTemporaryGo value (.ref a) r >>= λ_=>pure r) (EP X pins σ Q) X.xe s₃) X.xe s:=by rw[hs];exact wpAny_operating (Ck (by omega) I g ry λw' s' I' r'=>aaa (wpAny_letTemporaryGo (aah ⟨z,H,I',r',q⟩)))
 first
  |exact aah (aaa fin)
  |exact aaa (aah (aaa fin))
  |exact aaa fin
def rC(B:Bd)(o:NJ):R2:=λx y H Q=>∃ρ h v w b,HR B ρ h H/\VR B.K ρ H v x/\VR B.K ρ H w y/\cop h o v w=some b/\Q (.bl b) H
theorem EM{b:Bool}(e:memD h v w=some b):∃d f ds,toD 16 h v=some d/\toD 16 h w=some f/\(f=.list ds\/f=.tuple ds)/\b=ds.any λy=>PyData.eqv y d:=by
 unfold memD at e;obtain⟨f,e1,e⟩:=aai.mp e;obtain⟨d,e2,e⟩:=aai.mp e;cases f<;>simp only[Sf]at e<;>first|cases e|skip
 ·exact⟨d,_,_,e2,e1,.inl rfl,rfl⟩
 ·exact⟨d,_,_,e2,e1,.inr rfl,rfl⟩
theorem EN(hu:X.A.units+64<cLine)(o:NJ):nh X (compareOp (AH o)) (rC (bd X cl) o):=by
 intro pins s σ H x y v' u' Q I rx ry hh;obtain⟨ρ,h,v,w,b,r,hv,hw,e,q⟩:=hh;have mem:∀(neg:Bool),wF h v w=some (if neg=true then !b else b)->wpAny (model X.prog X.w) X.A (compareOp (if neg=true then .NotIn else .In) v' u') (EP X pins σ Q) X.xe s:=by
  intro neg e;obtain⟨d,f,ds,e1,e2,e3,eb⟩:=EM e
  ·obtain⟨a1,a2,a3⟩:=nH r 16 v x d hv e1
   obtain⟨b1,b2,b3⟩:=nH r 16 w y f hw e2;refine NO hu neg pins s σ H x y v' u' Q I rx ry ⟨d,f,ds,a1,b1,a2,b2,a3,e3,?_⟩;cases neg with
   |true=>rw[aae rfl]at eb |-;rw[<-eb,Bool.not_not];exact q
   |false=>rw[aac aab]at eb |-;rw[<-eb];exact q
 cases o with
 |eq=>obtain⟨d,f,e1,e2,rfl⟩:=wM (show zu h v w=some b by exact e);obtain⟨a1,a2,a3⟩:=nH r 16 v x d hv e1;obtain⟨b1,b2,b3⟩:=nH r 16 w y f hw e2;exact Ny hu pins s σ H x y v' u' Q I rx ry ⟨d,f,a1,b1,a2,b2,by omega,q⟩
 |ne=>have e':(zu h v w).map (!·)=some b:=e;obtain⟨c,e3,rfl⟩:=aaH.mp e';obtain⟨d,f,e1,e2,rfl⟩:=wM e3;obtain⟨a1,a2,a3⟩:=nH r 16 v x d hv e1;obtain⟨b1,b2,b3⟩:=nH r 16 w y f hw e2;exact Nz hu pins s σ H x y v' u' Q I rx ry ⟨d,f,a1,b1,a2,b2,by omega,q⟩
 |lt=>obtain⟨i,j,rfl,rfl⟩:=jO (.inl rfl) e;cases e;rw[VR]at hv;rw[VR]at hw;subst hv;subst hw;exact Rz pins s σ H _ _ v' u' Q I rx ry ⟨_,_,rfl,rfl,q⟩
 |le=>obtain⟨i,j,rfl,rfl⟩:=jO (.inr (.inl rfl)) e;cases e;rw[VR]at hv;rw[VR]at hw;subst hv;subst hw;exact RA pins s σ H _ _ v' u' Q I rx ry ⟨_,_,rfl,rfl,q⟩
 |gt=>obtain⟨i,j,rfl,rfl⟩:=jO (.inr (.inr (.inl rfl))) e;cases e;rw[VR]at hv;rw[VR]at hw;subst hv;subst hw;exact RB pins s σ H _ _ v' u' Q I rx ry ⟨_,_,rfl,rfl,q⟩
 |ge=>obtain⟨i,j,rfl,rfl⟩:=jO (.inr (.inr (.inr rfl))) e;cases e;rw[VR]at hv;rw[VR]at hw;subst hv;subst hw;exact RC pins s σ H _ _ v' u' Q I rx ry ⟨_,_,rfl,rfl,q⟩
 |isn=>
  have e:LK v w=some b:=e;cases w<;>first|(cases e;done)|skip
  ·cases e;rw[VR]at hw;subst hw;refine Na pins s σ H x _ v' u' Q I rx ry ⟨rfl,?_⟩;rw[AI hv];exact q
  ·cases v<;>first|(cases e;done)|skip
   cases e;rw[VR]at hv;rw[VR]at hw;subst hv;subst hw;exact NB pins s σ H _ _ v' u' Q I rx ry ⟨_,_,rfl,rfl,q⟩
 |ntn=>
  have e:(LK v w).map (!·)=some b:=e;cases w<;>first|(cases e;done)|skip
  ·cases e;rw[VR]at hw;subst hw;refine Iw pins s σ H x _ v' u' Q I rx ry ⟨rfl,?_⟩;rw[AI hv];exact q
  ·cases v<;>first|(cases e;done)|skip
   cases e;rw[VR]at hv;rw[VR]at hw;subst hv;subst hw;exact Jg pins s σ H _ _ v' u' Q I rx ry ⟨_,_,rfl,rfl,q⟩
 |EG=>exact mem false (by rw[aac aab];exact e)
 |nin=>have e':(wF h v w).map (!·)=some b:=e;obtain⟨c,e3,rfl⟩:=aaH.mp e';exact mem true (by rw[e3];simp)
theorem NQ{b:Bool}(r:HR B ρ h H)(q:VR B.K ρ H v x)(e:cR h v=some b):Nb B.K x H b:=by
 cases v with
 |non=>rw[VR]at q;subst q;exact(aaA e).symm
 |bl c=>rw[VR]at q;subst q;exact(aaA e).symm
 |int i=>rw[VR]at q;subst q;exact(aaA e).symm
 |str z=>
  rw[VR]at q;subst q;simp only[cR]at e;split at e
  ·rename_i hl;exact⟨hl,(aaA e).symm⟩
  ·cases e
 |tup vs=>rw[VR]at q;obtain⟨a,xs,rfl,q1,q2⟩:=q;refine .inr (.inl ⟨xs,q1,?_⟩);rw[<-aaA e];have:=q2.length;cases vs<;>cases xs<;>simp_all
 |rl vs=>rw[VR]at q;obtain⟨a,xs,rfl,q1,q2⟩:=q;refine .inl ⟨xs,q1.sq,?_⟩;rw[<-aaA e];have:=q2.length;cases vs<;>cases xs<;>simp_all
 |dc _ _=>rw[VR]at q;exact q.elim
 |ob _ _ _=>rw[VR]at q;exact q.elim
 |ref i=>
  rw[VR]at q;obtain⟨a,rfl,q1⟩:=q;simp only[cR]at e;split at e
  ·rename_i vs e1;obtain⟨xs,k1,k2⟩:=r.ob i _ a e1 q1;refine .inl ⟨xs,.inl (.inl k1),?_⟩;rw[<-aaA e];have:=k2.length;cases vs<;>cases xs<;>simp_all
  ·rename_i vs e1;obtain⟨xs,k1,k2⟩:=r.ob i _ a e1 q1;refine .inr (.inr ⟨xs,k1,?_⟩);rw[<-aaA e];have:=k2.length;cases vs<;>cases xs<;>simp_all
  ·cases e
def Wb(B:Bd):R2:=λx y H Q=>∃ρ h v w z,HR B ρ h H/\VR B.K ρ H v x/\VR B.K ρ H w y/\mF h v w=some z/\∀u,VR B.K ρ H z u->Q u H
theorem NR(hu:X.A.units+64<cLine):QT X (Wb (bd X cl)):=by
 intro value slice pins s σ H x y v' u' Q I rx ry hh hs;obtain⟨ρ,h,v,w,z,r,hv,hw,e,q⟩:=hh;cases v with
 |str t=>
  cases w<;>first|cases e|skip
  rename_i i;change (if t.length<=sizeLine then (fX t.cps.toList i).map (λc=>Val.str ⟨[c].toArray⟩) else none)=some z at e;split at e
  ·rename_i hl;obtain⟨c,e1,rfl⟩:=aaH.mp e;rw[VR]at hv;rw[VR]at hw;subst hv;subst hw;exact Ni value slice pins s σ H _ _ v' u' Q I rx ry ⟨t,i,c,rfl,rfl,hl,e1,q _ VR.str⟩ hs
  ·cases e
 |tup vs=>
  cases w<;>first|cases e|skip
  rename_i i;rw[VR]at hv;rw[VR]at hw;subst hw;obtain⟨a,xs,rfl,q1,q2⟩:=hv;obtain⟨t,e2,q3⟩:=aB.fX q2 e;exact Nh value slice pins s σ H _ _ v' u' Q I rx ry ⟨a,xs,i,t,rfl,rfl,q1,e2,q _ q3⟩ hs
 |rl vs=>
  cases w<;>first|cases e|skip
  rename_i i;rw[VR]at hv;rw[VR]at hw;subst hw;obtain⟨a,xs,rfl,q1,q2⟩:=hv;obtain⟨t,e2,q3⟩:=aB.fX q2 e;exact An value slice pins s σ H _ _ v' u' Q I rx ry ⟨a,xs,i,t,rfl,rfl,q1.sq,e2,q _ q3⟩ hs
 |ref j=>
  cases w with
  |int i=>
   change (match h[j]? with|some (.dct kvs)=>cJ kvs (.inl i)|_=>(aI h (.ref j)).bind λxs=>fX xs i)=some z at e;split at e
   ·rename_i kvs e1;rw[VR]at hv;obtain⟨a,rfl,q1⟩:=hv;obtain⟨ks,k1,k2⟩:=r.ob j _ a e1 q1;obtain⟨t,e2,q3⟩:=(iF.val (.inl i) k2).2 z e;have g:o4 H a (kV (.inl i)) (iG ks (.inl i)):=o4.k k1;rw[e2]at g;rw[VR]at hw;subst hw;exact AJ hu value slice pins s σ H _ _ v' u' Q I rx ry ⟨a,t,rfl,g,q _ q3⟩ hs
   ·obtain⟨vs,e1,e⟩:=aai.mp e;obtain⟨a,xs,rfl,q1,q2⟩:=fS r hv e1;rw[VR]at hw;subst hw;obtain⟨t,e2,q3⟩:=aB.fX q2 e;exact An value slice pins s σ H _ _ v' u' Q I rx ry ⟨a,xs,i,t,rfl,rfl,q1,e2,q _ q3⟩ hs
  |str y=>
   change (match h[j]? with|some (.dct kvs)=>cJ kvs (.inr y)|_=>none)=some z at e;split at e
   ·rename_i kvs e1;rw[VR]at hv;obtain⟨a,rfl,q1⟩:=hv;obtain⟨ks,k1,k2⟩:=r.ob j _ a e1 q1;obtain⟨t,e2,q3⟩:=(iF.val (.inr y) k2).2 z e;have g:o4 H a (kV (.inr y)) (iG ks (.inr y)):=o4.k k1;rw[e2]at g;rw[VR]at hw;subst hw;exact AJ hu value slice pins s σ H _ _ v' u' Q I rx ry ⟨a,t,rfl,g,q _ q3⟩ hs
   ·cases e
  |_=>cases e
 |dc _ _=>rw[VR]at hv;exact hv.elim
 |_=>cases w<;>cases e
def Zu(B:Bd)(EX:Nat->List V->Hp->Prop):V->Option Int->Option Int->Hp->VK->Prop:=λx lo hi H Q=>∃ρ h v,HR B ρ h H/\VR B.K ρ H v x/\Post B EX ρ H (WV B.K Q) (sD v lo hi h)
theorem NS:UP X (Zu (bd X cl) EX):=by
 intro pins s σ H x v' vl vu lo hi sl Q I rx hs pl pu hh;obtain⟨ρ,h,v,r,hv,p⟩:=hh;have lists:Post (bd X cl) EX ρ H (WV X.K Q) (bnd (ask λh=>aI h v) (λxs=>new (.lst (di xs lo hi))) h)->∃T id,typeLookup (.type T) "__getitem__" = pure (some (.builtin id))/\s.TypeIs v' T/\wpAny (model X.prog X.w) X.A (getItem v' (.ref sl)) (EP X pins σ Q) X.xe s:=by intro p;obtain⟨a,e1,p⟩:=aK p;obtain⟨a1,Sh,rfl,k1,k2⟩:=fS r hv e1;exact IP pins s σ H _ v' vl vu lo hi sl Q I rx hs pl pu ⟨a1,Sh,rfl,k1,λq hq=>fy r hq (aB.cut lo hi k2) p⟩
 cases v with
 |tup vs=>simp only[sD]at p;rw[VR]at hv;obtain⟨a,xs,rfl,q1,q2⟩:=hv;obtain⟨e,p⟩:=aS p;refine Ng pins s σ H _ v' vl vu lo hi sl Q I rx hs pl pu ⟨a,xs,rfl,q1,?_,λq hq=>qA r hq (aB.cut lo hi q2) p⟩;rw[<-q2.length];simp only[not_eq_true',Bool.and_eq_false_iff,decide_eq_false_iff_not]at e;rintro⟨z1,z2⟩;exact e.elim (λk=>k z1) λk=>k z2
 |_=>exact lists p
end
end Hv
end
section
set_option backward.match.sparseCases false
namespace Hv
open PySem L2 PyProof.Rows
section
variable {X:Cx} {cl:Nat->Addr} {EX:Nat->List V->Hp->Prop}
def HZ(B:Bd)(EX:Nat->List V->Hp->Prop)(b:Bl):List V->Hp->VK->Prop:=λxs H Q=>∃ρ h vs,HR B ρ h H/\aB B.K ρ H vs xs/\Post B EX ρ H (WV B.K Q) (blt b vs h)
theorem NT:cI X (.builtin "len") (HZ (bd X cl) EX .len):=by
 intro pins s σ H xs us Q I rr hh;obtain⟨ρ,h,vs,r,hv,p⟩:=hh
 match vs,p with
 |[v],p=>
  obtain⟨n,e,p⟩:=aK p;obtain⟨x,rfl,hx⟩:=aB.one hv;have fin:=aj r p _ VR.int;cases v with
  |str z=>
   simp only[mG]at e;split at e
   ·rename_i hl;cases e;rw[VR]at hx;subst hx;exact L2.l7 pins s σ H _ us Q I rr ⟨_,z.length,rfl,⟨hl,rfl⟩,fin⟩
   ·cases e
  |tup vs=>simp only[mG]at e;cases e;rw[VR]at hx;obtain⟨a,ys,rfl,q1,q2⟩:=hx;refine L2.l7 pins s σ H _ us Q I rr ⟨_,ys.length,rfl,.inr ⟨ys,q1,rfl⟩,?_⟩;rw[<-q2.length];exact fin
  |rl vs=>simp only[mG]at e;cases e;rw[VR]at hx;obtain⟨a,ys,rfl,q1,q2⟩:=hx;refine L2.l7 pins s σ H _ us Q I rr ⟨_,ys.length,rfl,.inl ⟨ys,q1.sq,rfl⟩,?_⟩;rw[<-q2.length];exact fin
  |dc _ _=>rw[VR]at hx;exact hx.elim
  |ob _ _ _=>rw[VR]at hx;exact hx.elim
  |ref i=>
   rw[VR]at hx;obtain⟨a,rfl,q1⟩:=hx;simp only[mG]at e;split at e
   ·rename_i vs e1;cases e;obtain⟨ys,k1,k2⟩:=r.ob i _ a e1 q1;refine L2.l7 pins s σ H _ us Q I rr ⟨_,ys.length,rfl,.inl ⟨ys,.inl (.inl k1),rfl⟩,?_⟩;rw[<-k2.length];exact fin
   ·rename_i vs e1;cases e;obtain⟨ks,k1,k2⟩:=r.ob i _ a e1 q1;refine Cp pins s σ H _ us Q I rr ⟨a,ks,rfl,k1,?_⟩;rw[<-k2.length];exact fin
   ·cases e
  |_=>simp only[mG]at e;cases e
theorem NU(hc:X.calm=true):cI X (.builtin "min") (HZ (bd X cl) EX .min):=by
 intro pins s σ H xs us Q I rr hh;obtain⟨ρ,h,vs,r,hv,p⟩:=hh;have seq:∀v,vs=[v]->Post (bd X cl) EX ρ H (WV X.K Q) (bnd (ask λh=>cY h v) (λxs=>bA ((bw xs).bind uW)) h)->wpAny (model X.prog X.w) X.A (call (.builtin "min") us) (EP X pins σ Q) X.xe s:=by
  rintro v rfl p;obtain⟨zs,e,p⟩:=aK p;obtain⟨x,rfl,hx⟩:=aB.one hv;obtain⟨a,ys,rfl,q1,q2⟩:=zw r hx e;obtain⟨m,e1,p⟩:=cN r p;obtain⟨ns,e2,e3⟩:=aai.mp e1;rw[fz e2]at q2;rw[aB.ints.mp q2]at q1;have hne:0<ns.length:=by cases ns with|nil=>cases e3|cons _ _=>simp
  refine uO hc pins s σ H _ us Q I rr ⟨a,ns,rfl,q1,hne,λm hm hmin=>?_⟩;rw[CQ hm hmin]at e3;cases e3;exact p _ VR.int
 match vs,p with
 |[.int a,.int b],p=>obtain⟨x,y,rfl,hx,hy⟩:=aB.two hv;rw[VR]at hx;rw[VR]at hy;subst hx;subst hy;exact Cc hc pins s σ H _ us Q I rr ⟨a,b,rfl,aj r p _ VR.int⟩
 |[v],p=>exact seq v rfl (by cases v<;>exact p)
theorem NV(hc:X.calm=true):cI X (.builtin "max") (HZ (bd X cl) EX .max):=by
 intro pins s σ H xs us Q I rr hh;obtain⟨ρ,h,vs,r,hv,p⟩:=hh;have seq:∀v,vs=[v]->Post (bd X cl) EX ρ H (WV X.K Q) (bnd (ask λh=>cY h v) (λxs=>bA ((bw xs).bind uX)) h)->wpAny (model X.prog X.w) X.A (call (.builtin "max") us) (EP X pins σ Q) X.xe s:=by
  rintro v rfl p;obtain⟨zs,e,p⟩:=aK p;obtain⟨x,rfl,hx⟩:=aB.one hv;obtain⟨a,ys,rfl,q1,q2⟩:=zw r hx e;obtain⟨m,e1,p⟩:=cN r p;obtain⟨ns,e2,e3⟩:=aai.mp e1;rw[fz e2]at q2;rw[aB.ints.mp q2]at q1;have hne:0<ns.length:=by cases ns with|nil=>cases e3|cons _ _=>simp
  refine uR hc pins s σ H _ us Q I rr ⟨a,ns,rfl,q1,hne,λm hm hmin=>?_⟩;rw[CS hm hmin]at e3;cases e3;exact p _ VR.int
 match vs,p with
 |[.int a,.int b],p=>obtain⟨x,y,rfl,hx,hy⟩:=aB.two hv;rw[VR]at hx;rw[VR]at hy;subst hx;subst hy;exact Cb hc pins s σ H _ us Q I rr ⟨a,b,rfl,aj r p _ VR.int⟩
 |[v],p=>exact seq v rfl (by cases v<;>exact p)
theorem CT:cI X (.builtin "sorted") (HZ (bd X cl) EX .sorted):=by
 intro pins s σ H xs us Q I rr hh;obtain⟨ρ,h,vs,r,hv,p⟩:=hh
 match vs,p with
 |[v],p=>
  obtain⟨zs,e,p⟩:=aK p;obtain⟨out,e1,p⟩:=b7 p;obtain⟨x,rfl,hx⟩:=aB.one hv;obtain⟨a,ys,rfl,q1,q2⟩:=fS r hx e;unfold fh at e1;split at e1
  ·rename_i h64
   cases e2:bw zs with
   |some ns=>rw[e2]at e1;cases e1;rw[fz e2]at q2 h64;rw[aB.ints.mp q2]at q1;rw[aag]at h64;exact nD pins s σ H _ us Q I rr ⟨a,ns,rfl,q1,h64,λl hl=>fy r hl (aB.ints.mpr rfl) p⟩
   |none=>rw[e2]at e1;obtain⟨pD,e3,e4⟩:=aai.mp e1;cases e4;obtain⟨g1,g2⟩:=tW e3;rw[g1]at q2 h64;obtain⟨rs,r1,r2,r3⟩:=aB.tups q2;rw[r1]at q1;rw[aag,r2,aag]at h64;refine nE pins s σ H _ us Q I rr ⟨a,rs,rfl,q1,h64,λp hp=>⟨r3 p hp,g2 _ (by rw[r2];exact aaU hp)⟩,λl qs hl hp hs=>?_⟩;have e4:qs.map (·.2)=mC pD:=EJ (by rw[r2];exact hp.map _) (pairwise_map.mpr hs);rw[<-e4]at p;exact fy r hl (aB.AF λz hz=>r3 z (hp.mem_iff.mp hz)) p
  ·cases e1
theorem Jv:cI X (.type "list") (HZ (bd X cl) EX .list):=by
 intro pins s σ H xs us Q I rr hh;obtain⟨ρ,h,vs,r,hv,p⟩:=hh
 match vs,p with
 |[v],p=>obtain⟨zs,e,p⟩:=aK p;obtain⟨x,rfl,hx⟩:=aB.one hv;obtain⟨a,ys,rfl,q1,q2⟩:=zw r hx e;exact uH pins s σ H _ us Q I rr ⟨a,ys,rfl,q1,λl hl=>fy r hl q2 p⟩
theorem EO:cI X (.type "tuple") (HZ (bd X cl) EX .tuple):=by
 intro pins s σ H xs us Q I rr hh;obtain⟨ρ,h,vs,r,hv,p⟩:=hh;exact(show False from p).elim
theorem NW:cI X (.type "str") (HZ (bd X cl) EX .str):=by
 intro pins s σ H xs us Q I rr hh;obtain⟨ρ,h,vs,r,hv,p⟩:=hh;exact(show False from p).elim
theorem NY:cI X (.type "int") (HZ (bd X cl) EX .int):=by
 intro pins s σ H xs us Q I rr hh;obtain⟨ρ,h,vs,r,hv,p⟩:=hh
 match vs,p with
 |[.int i],p=>obtain⟨x,rfl,hx⟩:=aB.one hv;rw[VR]at hx;subst hx;exact sP pins s σ H _ us Q I rr (.inl ⟨i,rfl,aj r p _ VR.int⟩)
 |[.bl i],p=>obtain⟨x,rfl,hx⟩:=aB.one hv;rw[VR]at hx;subst hx;exact sP pins s σ H _ us Q I rr (.inr ⟨i,rfl,aj r p _ VR.int⟩)
theorem NZ(hc:X.calm=true):cI X (.builtin "all") (HZ (bd X cl) EX .all):=by
 intro pins s σ H xs us Q I rr hh;obtain⟨ρ,h,vs,r,hv,p⟩:=hh;exact(show False from p).elim
theorem N1(hc:X.calm=true):cI X (.builtin "any") (HZ (bd X cl) EX .any):=by
 intro pins s σ H xs us Q I rr hh;obtain⟨ρ,h,vs,r,hv,p⟩:=hh;exact(show False from p).elim
def Zv(B:Bd)(EX:Nat->List V->Hp->Prop)(T:String):List V->Hp->VK->Prop:=λxs H Q=>∃ρ h v x,xs=[x,.ty T]/\HR B ρ h H/\VR B.K ρ H v x/\Post B EX ρ H (WV B.K Q) (blt (.isin T) [v] h)
theorem Jw(K:Frag)(t T:String)(ht:t∈["NoneType","bool","int","str","list","tuple","dict"])(hT:T∈["list","tuple","str","bool","int","dict"]) :
  kitOne K (.type t) (.type T)=some (decide (T=t\/(T = "int" /\ t = "bool"))):=by
 simp only[mem_cons,not_mem_nil,or_false]at ht hT
 rcases ht with rfl|rfl|rfl|rfl|rfl|rfl|rfl<;>rcases hT with rfl|rfl|rfl|rfl|rfl|rfl<;>rfl
theorem Jx{T:String}:cI X (.builtin "isinstance") (Zv (bd X cl) EX T):=by
 intro pins s σ H xs us Q I rr hh;obtain⟨ρ,h,v,x,rfl,r,hx,p⟩:=hh;obtain⟨u,w',rfl,r1,r2⟩:=vals2 rr;cases r2;obtain⟨t,e,p⟩:=aK p;obtain⟨b,e1,p⟩:=b7 p;have q:=aj r p _ VR.bl;unfold EI at e1;split at e1
 ·rename_i Zw
  have hT:T∈["list","tuple","str","bool","int","dict"]:=by simpa using Zw
  cases e1;have fin:∀tk,EP X pins σ Q (.bool (decide (T=t\/(T = "int" /\ t = "bool")))) { s with toks:=tk }:=λtk=>⟨.bl _,H,I.tok _,rfl,q⟩;have tab:=λht=>Jw X.K t T ht hT;cases v with
  |non=>rw[VR]at hx;subst hx;cases r1;simp only[CN]at e;cases e;exact kia_one PySem.W.kitx_none I.kQ True.intro (tab (by simp)) (λz=>nomatch z) fin
  |bl c=>rw[VR]at hx;subst hx;cases r1;simp only[CN]at e;cases e;exact kia_one PySem.W.kitx_bool I.kQ True.intro (tab (by simp)) (λz=>nomatch z) fin
  |int i=>rw[VR]at hx;subst hx;obtain⟨t',rfl⟩:=r1;simp only[CN]at e;cases e;exact kia_one PySem.W.kitx_int I.kQ True.intro (tab (by simp)) (λz=>nomatch z) fin
  |str i=>rw[VR]at hx;subst hx;obtain⟨t',rfl⟩:=r1;simp only[CN]at e;cases e;exact kia_one PySem.W.kitx_str I.kQ True.intro (tab (by simp)) (λz=>nomatch z) fin
  |tup vs=>rw[VR]at hx;obtain⟨a,ys,rfl,q1,_⟩:=hx;cases r1;simp only[CN]at e;cases e;obtain⟨_,_,⟨o,e1,e2,_⟩,_⟩:=I.tuple q1;exact kia_one PySem.W.kitx_tuple I.kQ ⟨o,e1,e2⟩ (tab (by simp)) (λz=>nomatch z) fin
  |rl vs=>rw[VR]at hx;obtain⟨a,ys,rfl,q1,_⟩:=hx;cases r1;simp only[CN]at e;cases e;obtain⟨_,_,⟨o,n,e1,e2,_⟩,_⟩:=I.list q1.sq;exact kia_one kitx_list I.kQ ⟨o,e1,e2⟩ (tab (by simp)) (λz=>nomatch z) fin
  |dc _ _=>rw[VR]at hx;exact hx.elim
  |ob _ _ _=>rw[VR]at hx;exact hx.elim
  |ref i=>
   rw[VR]at hx;obtain⟨a,rfl,q1⟩:=hx;cases r1;simp only[CN]at e;split at e
   ·rename_i vs e1;cases e;obtain⟨ys,k1,k2⟩:=r.ob i _ a e1 q1;obtain⟨_,_,⟨o,n,e1,e2,_⟩,_⟩:=I.list (xs:=ys) (.inl (.inl k1));exact kia_one kitx_list I.kQ ⟨o,e1,e2⟩ (tab (by simp)) (λz=>nomatch z) fin
   ·rename_i vs e1;cases e;obtain⟨ks,k1,k2⟩:=r.ob i _ a e1 q1;obtain⟨_,_,vs,_,p⟩:=(show bL X.prog X.w H s.heap a (.dK ks) from I.hok a _ k1);obtain⟨o,es,ep,h1,h2,_⟩:=p;exact kia_one PySem.W.kitx_dict I.kQ ⟨o,h1,h2.1⟩ (tab (by simp)) (λz=>nomatch z) fin
   ·cases e
 ·cases e1
def Si(B:Bd)(EX:Nat->List V->Hp->Prop)(m:Me):V->List V->Hp->VK->Prop:=λx xs H Q=>∃ρ h v vs,HR B ρ h H/\VR B.K ρ H v x/\aB B.K ρ H vs xs/\Post B EX ρ H (WV B.K Q) (met m v vs h)
theorem Jy:QU X "str.join" (Si (bd X cl) EX .join):=by
 intro pins s σ H x xs u us Q I ru rr hh;obtain⟨ρ,h,v,vs,r,hv,hvs,p⟩:=hh;exact(show False from p).elim
theorem qC{i:Nat}(r:HR B ρ h H)(hi:ρ[i]?=some a)(e:h[i]?=some u)(eU:H a=some U)(hm:Mu U=true)(q:OR B ρ (upd H a O) a o)
  (p:Post B EX ρ H (WV B.K Q) (bnd (put i o) (λ_=>ret Val.non) h)):Q .non (upd H a O) :=
 p ρ (upd H a O) (Gr.put (aaF hi) eU hm) (r.put hi e q) _ VR.non
theorem CU:QU X "list.append" (Si (bd X cl) EX .append):=by
 intro pins s σ H x xs v' us Q I rx rv hh;obtain⟨ρ,h,v,vs,r,hv,hvs,p⟩:=hh
 match v,vs,p with
 |.ref i,[w],p=>
  obtain⟨zs,e,p⟩:=aK p;split at e
  ·rename_i zs' e1;cases e;obtain⟨e2,p⟩:=aS p;obtain⟨a,ys,rfl,q0,q1,q2⟩:=kG r hv e1;obtain⟨y,rfl,hy⟩:=aB.one hvs;refine sX pins s σ H _ _ v' us Q I rx rv ⟨a,ys,y,rfl,rfl,q1,by rw[<-q2.length];exact aaC e2,?_⟩;have g:Gr ρ H ρ (upd H a (.lst (ys++[y]))):=Gr.put (aaF q0) q1 rfl;exact qC (o:=.lst (zs++[w])) r q0 e1 q1 rfl ⟨_,aD,aB.append (aB.up g _ _ q2) (aB.up g _ _ (aB.cons hy aB.nil))⟩ p
  ·cases e
theorem extend_list(l b:Addr)(items items2:Array Value)(n n2:Nat)(dd2:Option Addr)(sl2:Array (Option Value))(hs0:¬(!items.isEmpty&&Builtin.List.listTooLong (items.size+items2.size))=true)(hs1:items.size<=sizeLine)(hs2:items.size+items2.size<=sizeLine+1) :
  Meets (Builtin.«list.extend» ⟨[.ref l,.ref b],[]⟩) (λ_ R s=>s.heap.get? l=some { cls:=.type "list",data:=.seq items n }/\s.heap.get? b=some { cls:=.type "list",dict:=dd2,data:=.seq items2 n2,slots:=sl2 } /\
   R (.ok (.ret Value.none)) { s with heap:=s.heap.update l (Obj.mapSeq λx=>x++items2) }) :=
 .of_wp λprog w A R s h=>by
  obtain⟨hp,g,d,tk,os⟩:=s;obtain⟨hl,hb,h⟩:=h;have f2:=AutoSeq1.sub_tuple_tuple;have f3:=AutoSeq1.sub_list_list;have f4:=AutoSeq1.sub_tuple_list;have f5:=AutoSeq1.sub_list_tuple;have hz':(items++items2).size<=sizeLine+1:=by rw[Array.size_append];exact hs2
  wp_walk using (wpAny_updateSeq hl rfl (hz:=hs1) (_hz':=hz')),wpAny_loadPart' hl,wpAny_loadPart' hb
  exact⟨_,rfl,h⟩
theorem zx:RM X "list.extend" (λx vs H Q=>∃l b xs zs,x=.ref l/\vs=[.ref b]/\H l=some (.lst xs)/\gU X.K H b zs/\xs.length+zs.length<=sizeLine/\Q .non (upd H l (.lst (xs++zs)))):=by
 intro pins s σ H x vs v us Q I rx rv h;obtain⟨l,b,xs,zs,rfl,rfl,hH,hB,hz,q⟩:=h;cases rx;obtain⟨u,rfl,ru⟩:=rv.one;cases ru;obtain⟨z,its,n,r,hl,e⟩:=I.Cg hH;obtain⟨its2,r2,⟨⟨oc,od,R5,osl⟩,n2,e2,ec,edd,ed⟩,z2⟩:=I.list hB;cases ec;cases ed;have l2:=r2.length;have hsz:its.toArray.size+its2.toArray.size<=sizeLine:=by rw[aap,aap];omega
 have vQ:¬ (!its.toArray.isEmpty&&Builtin.List.listTooLong (its.toArray.size+its2.toArray.size))=true:=by rw[p9 hsz,Bool.and_false];exact aab
 refine call_meets F.slot_list_extend ⟨_,e,rfl⟩ F.entry_list_extend (F.args_list_extend_2 _ _)
  (extend_list l b its.toArray its2.toArray n n2 od osl vQ (by rw[aap];omega) (by omega)) ⟨e,e2,?_⟩
 refine⟨.non,_,I.DZ (its':=its++its2) hH e (by simp) (r.append r2) ?_,rfl,q⟩;rw[aau];omega
theorem CV:QU X "list.extend" (Si (bd X cl) EX .extend):=by
 intro pins s σ H x xs v' us Q I rx rv hh;obtain⟨ρ,h,v,vs,r,hv,hvs,p⟩:=hh
 match v,vs,p with
 |.ref i,[w],p=>
  obtain⟨zs,e,p⟩:=aK p;split at e
  ·rename_i zs' e1;cases e
   obtain⟨ws,e3,p⟩:=aK p;obtain⟨e2,p⟩:=aS p;have e2:=aaC e2;obtain⟨a,ys,rfl,q0,q1,q2⟩:=kG r hv e1;obtain⟨y,rfl,hy⟩:=aB.one hvs;have fin:∀(bs:List V),aB X.K ρ H ws bs->Q .non (upd H a (.lst (ys++bs))):=λbs hb=>by
    have g:Gr ρ H ρ (upd H a (.lst (ys++bs))):=Gr.put (aaF q0) q1 rfl;exact qC (o:=.lst (zs++ws)) r q0 e1 q1 rfl ⟨_,aD,aB.append (aB.up g _ _ q2) (aB.up g _ _ hb)⟩ p
   cases w with
   |tup ts=>simp only[qw]at e3;cases e3;rw[VR]at hy;obtain⟨b,bs,rfl,k1,k2⟩:=hy;exact zd pins s σ H _ _ v' us Q I rx rv ⟨a,b,ys,bs,rfl,rfl,q1,k1,by rw[<-q2.length,<-k2.length];exact e2,fin bs k2⟩
   |rl ts=>simp only[qw]at e3;cases e3;rw[VR]at hy;obtain⟨b,bs,rfl,k1,k2⟩:=hy;exact zx pins s σ H _ _ v' us Q I rx rv ⟨a,b,ys,bs,rfl,rfl,q1,k1.sq,by rw[<-q2.length,<-k2.length];exact e2,fin bs k2⟩
   |ref j=>
    simp only[qw,aI]at e3;split at e3
    ·rename_i ts e4;cases e3;obtain⟨b,bs,rfl,k0,k1,k2⟩:=kG r hy e4;exact Ci pins s σ H _ _ v' us Q I rx rv ⟨a,b,ys,bs,rfl,rfl,q1,k1,by rw[<-q2.length,<-k2.length];exact e2,fin bs k2⟩
    ·cases e3
   |_=>simp only[qw]at e3;cases e3
  ·cases e
theorem aB.era{K:Frag}{ρ:List Addr}{H:Hp}:∀{vs:List Val} {xs:List V} (n:Nat),aB K ρ H vs xs->aB K ρ H (vs.eraseIdx n) (xs.eraseIdx n)
 |[],_,n,e=>by rw[aB]at e;subst e;exact aB.nil
 | _::_,_,n,e=>by
  rw[aB]at e;obtain⟨x,r,rfl,e1,e2⟩:=e;cases n with
  |zero=>exact e2
  |succ n=>exact aB.cons e1 (aB.era n e2)
theorem CW:QU X "list.remove" (Si (bd X cl) EX .remove):=by
 intro pins s σ H x xs v' us Q I rx rv hh;obtain⟨ρ,h,v,vs,r,hv,hvs,p⟩:=hh
 match v,vs,p with
 |.ref i,[.int k],p=>
  obtain⟨zs,e,p⟩:=aK p;split at e
  ·rename_i zs' e1;cases e;obtain⟨ks,e3,p⟩:=b7 p;obtain⟨e2,p⟩:=aS p;have e3:=fz e3;subst e3;obtain⟨a,ys,rfl,q0,q1,q2⟩:=kG r hv e1;have hys:=aB.ints.mp q2;subst hys;obtain⟨y,rfl,hy⟩:=aB.one hvs;rw[VR]at hy;subst hy;refine CC pins s σ H _ _ v' us Q I rx rv ⟨a,ks,k,rfl,rfl,q1,aaC e2,?_⟩;have g:Gr ρ H ρ (upd H a (.lst ((ks.map V.int).eraseIdx (ks.idxOf k)))):=Gr.put (aaF q0) q1 rfl;exact qC (o:=.lst ((ks.map Val.int).eraseIdx (ks.idxOf k))) r q0 e1 q1 rfl ⟨_,aD,aB.era _ (aB.up g _ _ q2)⟩ p
  ·cases e
end
def lA(f:Str->Pos->Bool):Expr->Bool
 |.Name a b=>f a b
 |_=>false
theorem pG{f:Str->Pos->Bool}{P:Expr->Prop}{e:Expr}(h:lA f e=true)(H:∀a b,f a b=true->P (.Name a b)):P e:=by
 cases e<;>first|exact H _ _ h|exact(aab h).elim
def zy(f:Const->Nat->Pos->Bool):Expr->Bool
 |.Constant a b c=>f a b c
 |_=>false
theorem wN{f:Const->Nat->Pos->Bool}{P:Expr->Prop}{e:Expr}(h:zy f e=true)(H:∀a b c,f a b c=true->P (.Constant a b c)):P e:=by
 cases e<;>first|exact H _ _ _ h|exact(aab h).elim
def Sj(f:Expr->Operator->Expr->Pos->Bool):Expr->Bool
 |.BinOp a b c d=>f a b c d
 |_=>false
theorem N2{f:Expr->Operator->Expr->Pos->Bool}{P:Expr->Prop}{e:Expr}(h:Sj f e=true)(H:∀a b c d,f a b c d=true->P (.BinOp a b c d)):P e:=by
 cases e<;>first|exact H _ _ _ _ h|exact(aab h).elim
def Wc(f:UnaryOp->Expr->Pos->Bool):Expr->Bool
 |.UnaryOp a b c=>f a b c
 |_=>false
theorem Sk{f:UnaryOp->Expr->Pos->Bool}{P:Expr->Prop}{e:Expr}(h:Wc f e=true)(H:∀a b c,f a b c=true->P (.UnaryOp a b c)):P e:=by
 cases e<;>first|exact H _ _ _ h|exact(aab h).elim
def Sl(f:Expr->List CmpOp->List Expr->Pos->Bool):Expr->Bool
 |.Compare a b c d=>f a b c d
 |_=>false
theorem N3{f:Expr->List CmpOp->List Expr->Pos->Bool}{P:Expr->Prop}{e:Expr}(h:Sl f e=true)(H:∀a b c d,f a b c d=true->P (.Compare a b c d)):P e:=by
 cases e<;>first|exact H _ _ _ _ h|exact(aab h).elim
def uZ(f:BoolOp->List Expr->Pos->Bool):Expr->Bool
 |.BoolOp a b c=>f a b c
 |_=>false
theorem tX{f:BoolOp->List Expr->Pos->Bool}{P:Expr->Prop}{e:Expr}(h:uZ f e=true)(H:∀a b c,f a b c=true->P (.BoolOp a b c)):P e:=by
 cases e<;>first|exact H _ _ _ h|exact(aab h).elim
def Sm(f:List Expr->Nat->Pos->Bool):Expr->Bool
 |.Tuple a b c=>f a b c
 |_=>false
theorem N4{f:List Expr->Nat->Pos->Bool}{P:Expr->Prop}{e:Expr}(h:Sm f e=true)(H:∀a b c,f a b c=true->P (.Tuple a b c)):P e:=by
 cases e<;>first|exact H _ _ _ h|exact(aab h).elim
def Sn(f:List Expr->Pos->Bool):Expr->Bool
 |.List a b=>f a b
 |_=>false
theorem N5{f:List Expr->Pos->Bool}{P:Expr->Prop}{e:Expr}(h:Sn f e=true)(H:∀a b,f a b=true->P (.List a b)):P e:=by
 cases e<;>first|exact H _ _ h|exact(aab h).elim
def Jz(f:Expr->Expr->Pos->Bool):Expr->Bool
 |.Subscript a b c=>f a b c
 |_=>false
theorem zA{f:Expr->Expr->Pos->Bool}{P:Expr->Prop}{e:Expr}(h:Jz f e=true)(H:∀a b c,f a b c=true->P (.Subscript a b c)):P e:=by
 cases e<;>first|exact H _ _ _ h|exact(aab h).elim
def So(f:Option Expr->Option Expr->Option Expr->Pos->Bool):Expr->Bool
 |.Slice a b c d=>f a b c d
 |_=>false
theorem N6{f:Option Expr->Option Expr->Option Expr->Pos->Bool}{P:Expr->Prop}{e:Expr}(h:So f e=true)(H:∀a b c d,f a b c d=true->P (.Slice a b c d)):P e:=by
 cases e<;>first|exact H _ _ _ _ h|exact(aab h).elim
def ES(f:Expr->List Expr->List Keyword->Pos->Bool):Expr->Bool
 |.Call a b c d=>f a b c d
 |_=>false
theorem AK{f:Expr->List Expr->List Keyword->Pos->Bool}{P:Expr->Prop}{e:Expr}(h:ES f e=true)(H:∀a b c d,f a b c d=true->P (.Call a b c d)):P e:=by
 cases e<;>first|exact H _ _ _ _ h|exact(aab h).elim
def LN(f:Expr->Str->Pos->Bool):Expr->Bool
 |.Attribute a b c=>f a b c
 |_=>false
theorem JA{f:Expr->Str->Pos->Bool}{P:Expr->Prop}{e:Expr}(h:LN f e=true)(H:∀a b c,f a b c=true->P (.Attribute a b c)):P e:=by
 cases e<;>first|exact H _ _ _ h|exact(aab h).elim
def LO(f:Expr->List Comprehension->Scope->Pos->Bool):Expr->Bool
 |.ListComp a b c d=>f a b c d
 |_=>false
theorem JB{f:Expr->List Comprehension->Scope->Pos->Bool}{P:Expr->Prop}{e:Expr}(h:LO f e=true)(H:∀a b c d,f a b c d=true->P (.ListComp a b c d)):P e:=by
 cases e<;>first|exact H _ _ _ _ h|exact(aab h).elim
def AL(f:List (Option Expr)->List Expr->Pos->Bool):Expr->Bool
 |.Dict a b c=>f a b c
 |_=>false
theorem u5{f:List (Option Expr)->List Expr->Pos->Bool}{P:Expr->Prop}{e:Expr}(h:AL f e=true)(H:∀a b c,f a b c=true->P (.Dict a b c)):P e:=by
 cases e<;>first|exact H _ _ _ h|exact(aab h).elim
section
variable {α:Type} {f:α -> Bool} {g:α -> List α -> Bool} {P:List α -> Prop} {Q:Option α -> Prop} {l:List α} {b:Bool} {o:Option α}
def o8(l:List α)(b:Bool):Bool:=l.isEmpty&&b
theorem lI(h:o8 l b=true)(H:b=true->P []):P l:=by
 cases l with
 |nil=>exact H h
 |cons _ _=>cases h
def kC(f:α -> List α -> Bool):List α -> Bool
 |a::r=>f a r
 |[]=>false
theorem zB(h:kC g l=true)(H:∀a r,g a r=true->P (a::r)):P l:=by
 cases l with
 |nil=>cases h
 |cons a r=>exact H a r h
def k1(f:α -> Bool):List α -> Bool:=kC λa r=>o8 r (f a)
theorem o9(h:k1 f l=true)(H:∀a,f a=true->P [a]):P l:=by
 apply zB h;intro a r h;apply lI h;intro h;exact H a h
def k2(f:α -> α -> Bool):List α -> Bool:=kC λa r=>k1 (f a) r
theorem N7{f:α -> α -> Bool}(h:k2 f l=true)(H:∀a b,f a b=true->P [a,b]):P l:=by
 apply zB h;intro a r h;apply o9 h;intro b h;exact H a b h
def ET(l:Option α)(b:Bool):Bool:=l.isNone&&b
theorem AM(h:ET o b=true)(H:b=true->Q none):Q o:=by
 cases o with
 |none=>exact H h
 |some _=>cases h
def wO(f:α -> Bool)(l:Option α):Bool:=l.any f
theorem pH(h:wO f o=true)(H:∀a,f a=true->Q (some a)):Q o:=by
 cases o with
 |none=>cases h
 |some a=>exact H a h
def N8[DecidableEq α](a b:α)(c:Bool):Bool:=decide (a=b)&&c
theorem AN[DecidableEq α]{P:α -> Prop}{a d:α}(h:N8 a d b=true)(H:b=true->P d):P a:=by
 rw[N8,and_eq_true,aa3]at h;rw[h.1];exact H h.2
end
def EU(f:Str->Pos->List Expr->Pos->Bool):Expr->Bool:=ES λg l k p=>lA (λx q=>o8 k (f x q l p)) g
theorem qD{f:Str->Pos->List Expr->Pos->Bool}{P:Expr->Prop}{e:Expr}(h:EU f e=true)(H:∀x q l p,f x q l p=true->P (.Call (.Name x q) l [] p)):P e:=by
 apply AK h;intro g l k p h;apply pG h;intro x q h;apply lI h;intro h;exact H x q l p h
def Sq(f:Expr->Str->Pos->List Expr->Pos->Bool):Expr->Bool:=ES λg l k p=>LN (λo x q=>o8 k (f o x q l p)) g
theorem LP{f:Expr->Str->Pos->List Expr->Pos->Bool}{P:Expr->Prop}{e:Expr}(h:Sq f e=true)(H:∀o x q l p,f o x q l p=true->P (.Call (.Attribute o x q) l [] p)):P e:=by
 apply AK h;intro g l k p h;apply JA h;intro o x q h;apply lI h;intro h;exact H o x q l p h
def Ss(f:Expr->Expr->List Expr->Int->Bool)(c:Comprehension):Bool:=f c.target c.iter c.ifs c.is_async
theorem N9{f:Expr->Expr->List Expr->Int->Bool}{P:Comprehension->Prop}{c:Comprehension}(h:Ss f c=true)(H:∀a b d i,f a b d i=true->P ⟨a,b,d,i⟩):P c:=by
 cases c;exact H _ _ _ _ h
def Su(f:Str->Bool):Const->Bool
 |.str s=>f s
 |_=>false
theorem Oa{f:Str->Bool}{P:Const->Prop}{e:Const}(h:Su f e=true)(H:∀s,f s=true->P (.str s)):P e:=by
 cases e<;>first|exact H _ h|exact(aab h).elim
theorem Xo{a b:Bool}(h:(a||b)=true):a=true\/b=true:=by
 cases a with
 |true=>exact .inl rfl
 |false=>exact .inr h
def EW(f:Expr->Pos->Bool):Stmt->Bool
 |.Expr a b=>f a b
 |_=>false
theorem AO{f:Expr->Pos->Bool}{P:Stmt->Prop}{e:Stmt}(h:EW f e=true)(H:∀a b,f a b=true->P (.Expr a b)):P e:=by
 cases e<;>first|exact H _ _ h|exact(aab h).elim
def Oc(f:List Expr->Expr->Pos->Bool):Stmt->Bool
 |.Assign a b c=>f a b c
 |_=>false
theorem EY{f:List Expr->Expr->Pos->Bool}{P:Stmt->Prop}{e:Stmt}(h:Oc f e=true)(H:∀a b c,f a b c=true->P (.Assign a b c)):P e:=by
 cases e<;>first|exact H _ _ _ h|exact(aab h).elim
def Wd(f:Expr->Operator->Expr->Pos->Bool):Stmt->Bool
 |.AugAssign a b c d=>f a b c d
 |_=>false
def Xp(f:Expr->List Stmt->List Stmt->Pos->Bool):Stmt->Bool
 |.If a b c d=>f a b c d
 |_=>false
theorem Sv{f:Expr->List Stmt->List Stmt->Pos->Bool}{P:Stmt->Prop}{e:Stmt}(h:Xp f e=true)(H:∀a b c d,f a b c d=true->P (.If a b c d)):P e:=by
 cases e<;>first|exact H _ _ _ _ h|exact(aab h).elim
def Sx(f:Expr->Expr->List Stmt->List Stmt->Pos->Bool):Stmt->Bool
 |.For a b c d i=>f a b c d i
 |_=>false
theorem Od{f:Expr->Expr->List Stmt->List Stmt->Pos->Bool}{P:Stmt->Prop}{e:Stmt}(h:Sx f e=true)(H:∀a b c d i,f a b c d i=true->P (.For a b c d i)):P e:=by
 cases e<;>first|exact H _ _ _ _ _ h|exact(aab h).elim
def Oe(f:Expr->List Stmt->List Stmt->Pos->Bool):Stmt->Bool
 |.While a b c d=>f a b c d
 |_=>false
def Of(f:Option Expr->Pos->Bool):Stmt->Bool
 |.Return a b=>f a b
 |_=>false
theorem EZ{f:Option Expr->Pos->Bool}{P:Stmt->Prop}{e:Stmt}(h:Of f e=true)(H:∀a b,f a b=true->P (.Return a b)):P e:=by
 cases e<;>first|exact H _ _ h|exact(aab h).elim
def JC(f:Str->List Expr->Bool):Stmt->Bool
 |.Raise (some (.Call (.Name x _) es [] _)) none _=>f x es
 |_=>false
theorem Og{f:Str->List Expr->Bool}{P:Stmt->Prop}{e:Stmt}(h:JC f e=true)(H:∀x p es cp pos,f x es=true->P (.Raise (some (.Call (.Name x p) es [] cp)) none pos)):P e:=by
 unfold JC at h;split at h
 ·exact H _ _ _ _ _ h
 ·cases h
def We(f:Nat->lT->Bool):IE->Bool
 |.call j es=>f j es
 |_=>false
def Sy(f:Pos->Bool):Stmt->Bool
 |.Break a=>f a
 |_=>false
theorem Oh{f:Pos->Bool}{P:Stmt->Prop}{e:Stmt}(h:Sy f e=true)(H:∀a,f a=true->P (.Break a)):P e:=by
 cases e<;>first|exact H _ h|exact(aab h).elim
def Sz(f:Pos->Bool):Stmt->Bool
 |.Continue a=>f a
 |_=>false
theorem Oi{f:Pos->Bool}{P:Stmt->Prop}{e:Stmt}(h:Sz f e=true)(H:∀a,f a=true->P (.Continue a)):P e:=by
 cases e<;>first|exact H _ h|exact(aab h).elim
def LQ(f:Pos->Bool):Stmt->Bool
 |.Pass a=>f a
 |_=>false
theorem JD{f:Pos->Bool}{P:Stmt->Prop}{e:Stmt}(h:LQ f e=true)(H:∀a,f a=true->P (.Pass a)):P e:=by
 cases e<;>first|exact H _ h|exact(aab h).elim
end Hv
end
section
namespace Hv
open PySem L2 PyProof.Rows
structure Tb where
 nc:Nat
 SA:List Str
 E1:List (Nat×Str×Nat)
 E2:List (Str×Str×Nat)
 isc:List (Str×List Bool)
structure rW where
 N:List Str
 sc:Scope
 fns:List (Str×Nat)
 cons:List (Str×Val)
 tb:Tb
def CY(sc:Scope)(x:Str):Bool:=(sc.names.lookup x==some .local||sc.names.lookup x==some .cell||sc.names.lookup x==some .free) && !(x==("__debug__":Str)) && !(x==("__classdict__":Str))
def u6(sc:Scope)(x:Str):Bool:=sc.names.lookup x==some .globalImplicit && !(x==("__debug__":Str)) && !(x==("__name__":Str))
def E4:Const->Val->Bool
 |.none,.non=>true
 |.bool a,.bl b=>a==b
 |.int a,.int b=>a==b
 |.str a,.str b=>a==b
 |_,_=>false
def Oj(o:LJ)(op:Operator):Bool:=decide (op=EK o)
def SD(o:NJ)(op:CmpOp):Bool:=decide (op=AH o)
def SE:Bl->Str
 |.len=>"len" | .min=>"min" | .max=>"max" | .sorted=>"sorted" | .list=>"list" | .tuple=>"tuple" | .str=>"str" | .int=>"int" | .all=>"all" | .any=>"any" | .isin _=>"isinstance"
def noStar:Expr->Bool
 |.Starred ..=>false
 |_=>true
def pI:Expr->Bool
 |.Slice ..=>false
 |_=>true
def JE:Expr->Bool
 |.Name ..=>true|.Call ..=>true|.Subscript ..=>true|.List ..=>true|.Tuple ..=>true|.ListComp ..=>true|.Attribute ..=>true|.BinOp ..=>true
 |_=>false
def superB:Expr->Bool
 |.Call (.Name _ _) [] [] _=>false
 |_=>true
def LR(scope xsc:Scope):Scope :=
 { scope with names:=scope.names.map λ(n,k)=>if (k==.free&&xsc.kind==.function&&xsc.names.lookup n==some .cell) then (n,.cell) else (n,k) }
def rW.LS(Γ:rW)(scope:Scope)(N':List Str):rW:={ Γ with N:=N',sc:=LR scope Γ.sc }
def CZ(Γ:rW):AE->Expr->Bool
 |.one i,.Name x _=>Γ.N[i]?==some x && Γ.sc.names.lookup x==some .local
 | .tup is,.Tuple es _ _=>es.length==is.length&&(is.zip es).all λp=>match p.2 with
  |.Name x _=>Γ.N[p.1]?==some x && Γ.sc.names.lookup x==some .local
  |_=>false
 |_,_=>false
def wR:AE->List Nat
 |.one i=>[i]
 |.tup is=>is
def Zx:Me->Str
 |.join=>"join" | .append=>"append" | .extend=>"extend" | .remove=>"remove"
def zC:Val->Val->Bool
 |.non,.non=>true
 |.bl a,.bl b=>a==b
 |.int a,.int b=>a==b
 |.str a,.str b=>a==b
 |_,_=>false
def Ol:lT->Bool
 |.nil=>true
 |.cons ..=>false
theorem E5{b:Bool}(h:(Ol es&&b)=true):es=.nil/\b=true:=by
 cases es with
 |nil=>exact⟨rfl,h⟩
 |cons _ _=>cases h
mutual
noncomputable def bC(Γ:rW):IE->Expr->Bool
 |.var i,e=>lA (λx _=>Γ.N[i]?==some x&&CY Γ.sc x) e
 |.cst d,e=>zy (λc _ _=>E4 c d) e
 |.con x d,e=>lA (λy _=>x==y&&u6 Γ.sc x && Γ.cons.any λp=>p.1==x&&zC p.2 d) e
 |.no,_=>false
 |.bin o a b,e=>Sj (λl op r _=>Oj o op&&bC Γ a l&&bC Γ b r) e
 |.neg a,e=>Wc (λq1 l _=>N8 q1 .USub (bC Γ a l)) e
 |.cmp o a b,e=>Sl (λl q1 q2 _=>k1 (λop=>k1 (λr=>SD o op && !behindInMarks op r&&bC Γ a l&&bC Γ b r) q2) q1) e
 |.chn _ _ _ _ _,_=>false
 |.and a b,e=>uZ (λq1 q2 pos=>N8 q1 .And (kC (λl q3=>kC (λm r=>bC Γ a l&&(match r with|[]=>bC Γ b m|n::r'=>bC Γ b (.BoolOp .And (m::n::r') pos))) q3) q2)) e
 |.or a b,e=>uZ (λq1 q2 pos=>N8 q1 .Or (kC (λl q3=>kC (λm r=>bC Γ a l&&(match r with|[]=>bC Γ b m|n::r'=>bC Γ b (.BoolOp .Or (m::n::r') pos))) q3) q2)) e
 |.not a,e=>Wc (λq1 l _=>N8 q1 .Not (bC Γ a l)) e
 |.ite _ _ _,_=>false
 |.tup es,e=>Sm (λls _ _=>aX Γ es ls) e
 |.lst es,e=>Sn (λls _=>aX Γ es ls) e
 |.idx a b,e=>Jz (λl r _=>pI r&&bC Γ a l&&bC Γ b r) e
 |.slc a lo hi,e=>Jz (λl q1 _=>So (λl' h' q2 _=>ET q2 (bC Γ a l&&(match l' with|none=>dj lo|some e=>!dj lo&&bC Γ lo e)&&(match h' with|none=>dj hi|some e=>!dj hi&&bC Γ hi e))) q1) e
 |.call j es,e=>EU (λx _ args _=>u6 Γ.sc x && Γ.fns[j]?==some (x,args.length)&&decide (args.length<1000)&&aX Γ es args) e
 | .blt b es,e=>EU (λx _ args _=>u6 Γ.sc x&&x==SE b&&(match b with
   |.isin T=>(match args with|[a,.Name y _]=>u6 Γ.sc y&&y==(T:Str)&&["list","tuple","str","bool","int","dict"].contains T&&aX Γ es [a]|_=>false)
   |_=>!args.isEmpty&&aX Γ es args)) e
 |.met m a es,e=>Sq (λo x ap args cp=>x==Zx m&&superB o && !args.isEmpty&&decide (args.length<29)&&ap.endLine==cp.line&&bC Γ a o&&aX Γ es args) e
 | .comp N' js pat k it c elt,e=>LO (λe q1 scope _=>k1 (λq2=>Ss (λtg iter ifs q3=>N8 q3 0 (kD Γ.N Γ.sc scope N' js&&AQ Γ k it iter&&decide (N'.Nodup)&&CZ (Γ.LS scope N') pat tg&&((wR pat).all λi=>js[i]?==some none)&&(match k,pat with|.enum,.one _=>false|.zip,.one _=>false|_,_=>true) &&
   (match ifs with|[]=>dj c|[t]=>!dj c&&bC (Γ.LS scope N') c t|_=>false)&&bC (Γ.LS scope N') elt e)) q2) q1) e
 |.dct0,e=>AL (λq1 q2 _=>o8 q1 (o8 q2 (true))) e
 |.sset a,e=>EU (λx _ q1 _=>k1 (λq2=>EU (λy _ q3 _=>k1 (λl=>x==("sorted":Str)&&y==("set":Str)&&u6 Γ.sc x&&u6 Γ.sc y&&noStar l&&bC Γ a l) q3) q2) q1) e
 |.dget d k x,e=>Sq (λo m ap q1 cp=>k2 (λa b=>m==("get":Str)&&superB o&&noStar a&&noStar b&&ap.endLine==cp.line&&bC Γ d o&&bC Γ k a&&bC Γ x b) q1) e
 |.dct1 k v,e=>AL (λq1 q2 _=>k1 (λq3=>wO (λa=>k1 (λb=>bC Γ k a&&bC Γ v b) q2) q3) q1) e
 |.lkeys d,e=>EU (λx _ q1 _=>k1 (λq2=>Sq (λo m ap q3 cp=>o8 q3 (x==("list":Str)&&m==("keys":Str)&&u6 Γ.sc x&&superB o&&ap.endLine==cp.line&&bC Γ d o)) q2) q1) e||EU (λx _ q1 _=>k1 (λq2=>lA (λy q=>x==("list":Str)&&u6 Γ.sc x&&bC Γ d (.Name y q)) q2) q1) e
 |.sdef _ _ _,_=>false
 |.svals _,_=>false
 |.skeys d,e=>EU (λx _ q1 _=>k1 (λq2=>Sq (λo m ap q3 cp=>o8 q3 (x==("sorted":Str)&&m==("keys":Str)&&u6 Γ.sc x&&superB o&&ap.endLine==cp.line&&bC Γ d o)) q2) q1) e||EU (λx _ q1 _=>k1 (λq2=>lA (λy q=>x==("sorted":Str)&&u6 Γ.sc x&&bC Γ d (.Name y q)) q2) q1) e
 |.fld _ _ _,_=>false
 |.rev _ _,_=>false
 |.dflt _ _ p q d w,e=>AL (λq1 q2 _=>k2 (λq3 q4=>wO (λa=>wO (λb=>k2 (λva vb=>lA (λx _=>Γ.N[p]?==some x&&CY Γ.sc x) a&&lA (λx _=>Γ.N[q]?==some x&&CY Γ.sc x) b&&bC Γ d va&&bC Γ w vb) q2) q4) q3) q1) e
 |.isc _ _ _,_=>false
 |.mth _ _ _ _,_=>false
noncomputable def aX(Γ:rW):lT->List Expr->Bool
 |.nil,ls=>ls.isEmpty
 | .cons e es,ls=>match ls with
  |l::ls=>noStar l&&bC Γ e l&&aX Γ es ls
  |[]=>false
noncomputable def AQ(Γ:rW)(k:Ik):lT->Expr->Bool
 |.nil,_=>false
 | .cons e es,l=>match k with
  |.seq=>Ol es&&(JE l&&bC Γ e l)
  |.range=>EU (λx _ as _=>kC (λa args=>x==("range":Str)&&u6 Γ.sc x&&noStar a&&bC Γ e a&&aX Γ es args&&decide (args.length<2)) as) l
  |.enum=>Ol es&&EU (λx _ as _=>k1 (λa=>x==("enumerate":Str)&&u6 Γ.sc x&&noStar a&&bC Γ e a) as) l
  |.zip=>false
end
abbrev Fn:=Nat->List Val->M Val
def cy(K:Frag)(ρ:List Addr)(env:Env)(σ:L2.St)(H:Hp):Prop:=∀(i:Nat) (v:Val),env[i]?=some (some v)->∃x,σ[i]?=some (some x)/\VR K ρ H v x
theorem cy.jP{K:Frag}{ρ ρ':List Addr}{env:Env}{σ:L2.St}{H H':Hp}(e:cy K ρ env σ H)(g:Gw ρ H ρ' H'):cy K ρ' env σ H':=λi v q=>by
 obtain⟨x,q1,q2⟩:=e i v q;exact⟨x,q1,VR.jP g v x q2⟩
theorem cy.up{K:Frag}{ρ ρ':List Addr}{env:Env}{σ:L2.St}{H H':Hp}(e:cy K ρ env σ H)(g:Gr ρ H ρ' H'):cy K ρ' env σ H':=e.jP g.w
def Zy(K:Frag)(Q:List V->Hp->Prop):List Val->Hs->List Addr->Hp->Prop:=λvs _ ρ' H'=>∀xs,aB K ρ' H' vs xs->Q xs H'
def WT(Q:Bool->Hp->Prop):Bool->Hs->List Addr->Hp->Prop:=λb _ _ H'=>Q b H'
def Ia(Φ:Fn)(ir:IE)(env:Env):M Bool:=bnd (aZ Φ ir env) λx=>ask λh=>cR h x
def tV(Φ:Fn)(B:Bd)(EX:Nat->List V->Hp->Prop)(ir:IE):TE:=λσ H Q=>∃ρ env h,cy B.K ρ env σ H/\HR B ρ h H/\Post B EX ρ H (WV B.K Q) (aZ Φ ir env h)
def Xq(Φ:Fn)(B:Bd)(EX:Nat->List V->Hp->Prop)(fj:lT):TA:=λσ H Q=>∃ρ env h,cy B.K ρ env σ H/\HR B ρ h H/\Post B EX ρ H (Zy B.K Q) (bN Φ fj env h)
def tT(Φ:Fn)(B:Bd)(EX:Nat->List V->Hp->Prop)(ir:IE):TT:=λσ H Q=>∃ρ env h,cy B.K ρ env σ H/\HR B ρ h H/\Post B EX ρ H (WT Q) (Ia Φ ir env h)
theorem _root_.L2.PE.imp(h:PE X e t)(i:∀σ H Q,t' σ H Q->t σ H Q):PE X e t':=λpins s σ H Q I hw=>h pins s σ H Q I (i σ H Q hw)
theorem _root_.L2.PT.imp(h:PT X e t)(i:∀σ H Q,t' σ H Q->t σ H Q):PT X e t':=λpins s σ H Q I hw=>h pins s σ H Q I (i σ H Q hw)
theorem _root_.L2.PA.imp(h:PA X es t)(i:∀σ H Q,t' σ H Q->t σ H Q):PA X es t':=λpos pins s σ H Q I hw=>h pos pins s σ H Q I (i σ H Q hw)
theorem _root_.L2.PO.imp(h:PO X e t)(i:∀σ H Q,t' σ H Q->t σ H Q):PO X e t':=λpins s σ H Q I hw=>h pins s σ H Q I (i σ H Q hw)
theorem _root_.L2.PI.imp(h:PI X tg iter t)(i:∀σ H R,t' σ H R->t σ H R):PI X tg iter t':=λpins s σ H R I hw=>h pins s σ H R I (i σ H R hw)
theorem bf{α β γ:Type}(m:M α)(f:α -> M β)(g:β -> M γ):bnd (bnd m f) g=bnd m λx=>bnd (f x) g:=by
 funext h;show (match (match m h with|.ok a h'=>f a h'|.exc c vs h'=>.exc c vs h'|.no=>.no) with|.ok a h'=>g a h'|.exc c vs h'=>.exc c vs h'|.no=>.no)=(match m h with|.ok a h'=>bnd (f a) g h'|.exc c vs h'=>.exc c vs h'|.no=>.no);cases m h<;>rfl
theorem dm{α β:Type}(a:α)(f:α -> M β):bnd (ret a) f=f a:=rfl
def NX:Nat->List V->Hp->Prop:=λ_ _ _=>False
def nJ(cl:Nat->Addr)(E:XK):Nat->List V->Hp->Prop:=λc xs H=>(∃g y,xs=[.str g,y]/\∀dx,H dx=none->E (.ref (cl (1000+c))) (some dx) (upd H dx (.xd [(g,y)])))\/(xs=[]/\E (.ref (cl (1000+c))) none H)
def zE(B:Bd)(n:Nat)(φ:List Val->M Val):Sp:=λxs H Q E=>∃ρ h vs,vs.length=n/\HR B ρ h H/\aB B.K ρ H vs xs/\Post B (nJ B.cl E) ρ H (WV B.K Q) (φ vs h)
def Om(P:Program)(w:World)(B:Bd)(mg:Str->Option Value)(base:Heap)(k:Nat)(x:Str)(C:Addr)(g:Str):Prop:=mg x=some (.ref C)/\∃(D fI:Addr) (cd:ClassData) (fd:FuncData) (ps:List Str),CG B.K C D fI cd/\dW P w B.K mg base HV k fI fd ps (Ax B.K g)/\Binds B.K fd ps []/\ps.length=2/\findIn B.K (.ref C) g=some none
def E6(B:Bd)(mg:Str->Option Value)(x:Str)(C:Addr):Prop:=mg x=some (.ref C)/\∃D,tU B.K C D
def QX(P:Program)(w:World)(B:Bd)(mg:Str->Option Value)(base:Heap)(k:Nat)(j:Nat)(x:Str)(n:Nat)(φ:List Val->M Val):Prop :=
 (n<1000/\∃(f:Addr) (fd:FuncData) (ps:List Str),ps.length=n/\mg x=some (.ref f)/\keepIn B.K (.ref f)=true/\Binds B.K fd ps []/\dW P w B.K mg base (nj P w) k f fd ps (zE B n φ)) \/
 (n=2001/\∃g,φ = zv j g/\Om P w B mg base k x (B.cl (1000+j)) g)\/(n=2000 /\ φ = wG j/\E6 B mg x (B.cl (1000+j)))
def bltNames:List Str:=["len","min","max","sorted","list","tuple","str","all","any","isinstance","range","enumerate","int","bool","dict","set","zip"]
structure Ctx (Φ:Fn) (Γ:rW) (k:Nat) (X:Cx) (cl:Nat->Addr) (EX:Nat->List V->Hp->Prop):Prop where
 N:X.N = Γ.N
 sc:X.env.scope = Γ.sc
 calm:X.calm=true
 room:dU (k+1) X.A
 UY:∃E:XK,Passes (nj X.prog X.w) X E/\∀c xs H,EX c xs H->nJ cl E c xs H
 fns:∀j x n,Γ.fns[j]?=some (x,n)->QX X.prog X.w (bd X cl) X.mg X.base k j x n (Φ j)
 cls:∀c,c < Γ.tb.nc->W0 X.K (cl c)/\∀x ∈ Γ.tb.SA,DQ X.K (cl c) x
 E1:∀p ∈ Γ.tb.E1,Meth X.K (cl p.1) p.2.1 (cl (1000+p.2.2))
 E2:∀p ∈ Γ.tb.E2,∃C,X.mg p.1=some (.ref C)/\R6 X.K C p.2.1 (cl (1000+p.2.2))
 isc:∀p ∈ Γ.tb.isc,∃C,X.mg p.1=some (.ref C)/\∀c b,p.2[c]?=some b->Xk X.K (cl c)/\kitOne X.K (.ref (cl c)) (.ref C)=some b
 cons:∀p ∈ Γ.cons,∃v u,X.mg p.1=some u/\RelV v u/\∀K ρ H,VR K ρ H p.2 v
 blt:∀x∈bltNames,X.mg x=none
section
variable {Φ:Fn} {Γ:rW} {k:Nat} {X:Cx} {cl:Nat->Addr} {EX:Nat->List V->Hp->Prop}
theorem Ctx.units(c:Ctx Φ Γ k X cl EX):X.A.units+64<cLine:=c.room.units
theorem Ctx.vis(c:Ctx Φ Γ k X cl EX)(h:CY Γ.sc x=true):Q7 X.env.scope x/\(x==("__debug__":Str))=false/\(x==("__classdict__":Str))=false:=by
 unfold CY at h;simp only[and_eq_true,or_eq_true,beq_iff_eq,not_eq_true']at h;obtain⟨⟨h1,h2⟩,h3⟩:=h;refine⟨?_,h2,h3⟩;unfold Q7;rw[c.sc]
 rcases h1 with (z|z)|z
 ·exact .inl z
 ·exact .inr (.inl z)
 ·exact .inr (.inr z)
theorem Ctx.gl(c:Ctx Φ Γ k X cl EX)(h:u6 Γ.sc x=true):Gl X x/\(x==("__debug__":Str))=false/\x ≠ "__name__":=by
 unfold u6 at h;simp only[and_eq_true,beq_iff_eq,not_eq_true']at h;obtain⟨⟨h1,h2⟩,h3⟩:=h;refine⟨?_,h2,λz=>by rw[z]at h3;simp at h3⟩;show X.env.scope.names.lookup x=_;rw[c.sc];exact h1
theorem u7:Passes (nj X.prog X.w) X (λ_ _ _=>False):=λpins σ H s e s' I h=>by
 obtain⟨_,_,_,_,_,_,_,_,_,_,_,_,_,z⟩:=h;exact z.elim
theorem Ctx.no(c:Ctx Φ Γ k X cl EX):Ctx Φ Γ k X cl NX :=
 { N:=c.N,sc:=c.sc,calm:=c.calm,room:=c.room,UY:=⟨_,u7,λ_ _ _ z=>False.elim z⟩,fns:=c.fns,cls:=c.cls,E1:=c.E1,E2:=c.E2,isc:=c.isc,cons:=c.cons,blt:=c.blt }
theorem Ctx.LS(c:Ctx Φ Γ k X cl EX)(scope:Scope)(N':List Str)(cls:List (Str×Addr))(C:Addr)(s:Shared)(H:Hp)(fp:List Addr):Ctx Φ (Γ.LS scope N') k (bT X scope N' cls C s H fp) cl NX:=by
 refine⟨rfl,?_,c.calm,c.room,⟨_,u7,λ_ _ _ z=>False.elim z⟩,c.fns,c.cls,c.E1,c.E2,c.isc,c.cons,c.blt⟩;show relabel scope X.env=LR scope Γ.sc;rw[<-c.sc];rfl
theorem au(h:noStar e=true):starEach (e::es) env=(false,eval e env)::starEach es env:=by
 cases e<;>first|rfl|(simp[noStar]at h)
theorem jQ:∀{es:List Expr} {fj:lT},aX Γ fj es=true->(backTo pos (starEach es env)).any (·.1)=false
 |[],_,_=>rfl
 |e::es,.nil,h=>by simp[aX]at h
 | e::es,.cons i fj,h=>by
  simp only[aX,and_eq_true]at h;rw[au h.1.1];show (false||(backTo pos (starEach es env)).any (·.1))=false;rw[jQ (fj:=fj) h.2];rfl
theorem E7(h:aX Γ fj es=true):(backTo pos (starEach es env)).all (λx=>!x.1)=true:=by
 have q:=jQ (pos:=pos) (env:=env) h;rw[all_eq_true];intro x hx;have:=List.any_eq_false.mp q x hx;simpa using this
theorem zF(h:pI e=true):Am e:=by
 intro o i;cases e<;>first|rfl|(simp[pI]at h)
theorem super_ok(h:superB e=true):attributeBase e x env whole=whole:=by
 cases e<;>first
  |rfl
  |skip
 rename_i f args kws pos;cases f<;>first
  |rfl
  |skip
 cases args with
 |cons a r=>rfl
 |nil=>
  cases kws with
  |cons a r=>rfl
  |nil=>simp[superB]at h
theorem fk(q:PE X e (tV Φ (bd X cl) EX ir))(he:∀whole,isTrue e X.env whole=(do let v <-whole;standAt e.pos;holding [v] (truthy v))):PT X e (tT Φ (bd X cl) EX ir) :=
 (DP q he).imp λσ H Q ⟨ρ,env,h,hE,r,p⟩=>⟨ρ,env,h,hE,r,aH p λv h1 ρ1 x H1 g1 r1 q1 p1=>by
  obtain⟨b,e,w⟩:=dM r1 p1;exact⟨b,NQ r1 q1 e,w⟩⟩
theorem LU(h:PT X (.BoolOp op vs pos) t):PW X (.BoolOp op vs pos) t:=λwhole pins s σ H Q I hw=>h pins s σ H Q I hw
def cg(Φ:Fn)(ir:IE):Prop:=∀(Γ:rW) (k:Nat) (X:Cx) (cl:Nat->Addr) (EX:Nat->List V->Hp->Prop) (e:Expr),Ctx Φ Γ k X cl EX->bC Γ ir e=true->PE X e (tV Φ (bd X cl) EX ir)/\PT X e (tT Φ (bd X cl) EX ir)
def kW(Φ:Fn)(fj:lT):Prop:=(∀(Γ:rW) (k:Nat) (X:Cx) (cl:Nat->Addr) (EX:Nat->List V->Hp->Prop) (es:List Expr),Ctx Φ Γ k X cl EX->aX Γ fj es=true->PA X es (Xq Φ (bd X cl) EX fj))/\match fj with
 |.nil=>True
 | .cons e r=>cg Φ e/\match r with
  |.nil=>True
  |.cons e' _=>cg Φ e'
theorem JF(h:Oj o op=true):op=EK o:=aaC h
theorem JG(h:SD o op=true):op=AH o:=aaC h
theorem AR(hs:∀env h,aZ Φ ir env h=.no):cg Φ ir:=by
 intro Γ k X cl EX e c h;exact⟨λpins s σ H Q I ⟨ρ,env,h,hE,r,p⟩=>by rw[hs]at p;exact p.elim,λpins s σ H Q I ⟨ρ,env,h,hE,r,p⟩=>by unfold Ia bnd at p;rw[hs]at p;exact p.elim⟩
theorem ja(hs:∀env h,aZ Φ ir env h=.no):cg Φ ir:=by
 intro Γ k X cl EX e c h;exact⟨λpins s σ H Q I ⟨ρ,env,h,hE,r,p⟩=>by rw[hs]at p;exact p.elim,λpins s σ H Q I ⟨ρ,env,h,hE,r,p⟩=>by unfold Ia bnd at p;rw[hs]at p;exact p.elim⟩
theorem Oo{i:Nat}:cg Φ (.var i):=by
 intro Γ k X cl EX e c h;apply pG h;intro x pos h;simp only[and_eq_true,beq_iff_eq]at h;obtain⟨v1,v2,v3⟩:=c.vis h.2;have q:PE X (.Name x pos) (tV Φ (bd X cl) EX (.var i)):=by refine(jF (by rw[c.N];exact h.1) v1 v2 v3).imp λσ H Q aV=>?_;obtain⟨ρ,env,h,hE,r,p⟩:=aV;rw[aZ.eq_def]at p;dsimp only at p;obtain⟨d,e1,w⟩:=cN r p;split at e1<;>cases e1;rename_i e1;obtain⟨x,e2,e3⟩:=hE i d e1;exact⟨x,e2,w x e3⟩
 exact⟨q,fk q λ_=>rfl⟩
theorem Oq:cg Φ (.cst d):=by
 intro Γ k X cl EX e c h;apply wN h;intro cc j pos h;have q:PE X (.Constant cc j pos) (tV Φ (bd X cl) EX (.cst d)):=by
  unfold E4 at h;split at h<;>first|cases h|skip
  ·refine MM.imp λσ H Q aV=>?_;obtain⟨ρ,env,h,hE,r,p⟩:=aV;simp only[aZ]at p;exact aj r p _ VR.non
  ·cases eq_of_beq h;refine Rc.imp λσ H Q aV=>?_;obtain⟨ρ,env,h,hE,r,p⟩:=aV;simp only[aZ]at p;exact aj r p _ VR.bl
  ·cases eq_of_beq h;refine ML.imp λσ H Q aV=>?_;obtain⟨ρ,env,h,hE,r,p⟩:=aV;simp only[aZ]at p;exact aj r p _ VR.int
  ·cases eq_of_beq h;refine MN.imp λσ H Q aV=>?_;obtain⟨ρ,env,h,hE,r,p⟩:=aV;simp only[aZ]at p;exact aj r p _ VR.str
 exact⟨q,fk q λ_=>rfl⟩
theorem C0(h:zC a b=true):a=b:=by
 unfold zC at h;split at h<;>first|rfl|(cases eq_of_beq h;rfl)|cases h
theorem Ot:cg Φ (.con x d):=by
 intro Γ k X cl EX e c h;apply pG h;intro y pos h;simp only[and_eq_true,beq_iff_eq]at h;obtain⟨⟨h1,h2⟩,h3⟩:=h;subst h1;obtain⟨g1,g2,g3⟩:=c.gl h2;obtain⟨p,hp,h4⟩:=List.any_eq_true.mp h3;simp only[and_eq_true,beq_iff_eq]at h4;obtain⟨v,u,m1,m2,m3⟩:=c.cons p hp;rw[h4.1]at m1;have q:PE X (.Name x pos) (tV Φ (bd X cl) EX (.con x d)):=by refine(pq g1 m1 m2 g2).imp λσ H Q aV=>?_;obtain⟨ρ,env,h,hE,r,p⟩:=aV;simp only[aZ]at p;exact aj r p _ (by rw[<-C0 h4.2];exact m3 _ _ _)
 exact⟨q,fk q λ_=>rfl⟩
theorem SG:cg Φ .no:=by
 intro Γ k X cl EX e c h
 (conv at h=>lhs;whnf);cases h
theorem E8:kW Φ .nil:=by
 refine⟨fun Γ k X cl EX es c h=>?_,trivial⟩;rw[aX]at h;cases es with
 |cons a r=>cases h
 |nil=>refine iW.imp λσ H Q aV=>?_;obtain⟨ρ,env,h,hE,r,p⟩:=aV;simp only[bN]at p;exact aj r p _ aB.nil
theorem AS(h1:cg Φ e)(h2:kW Φ es):kW Φ (.cons e es):=by
 refine⟨fun Γ k X cl EX ls c h=>?_,h1,?_⟩
 ·rw[aX.eq_def]at h;dsimp only at h
  cases ls with
  |nil=>cases h
  |cons l ls=>simp only[and_eq_true]at h;refine(bZ (h1 Γ k X cl EX l c h.1.2).1 (h2.1 Γ k X cl EX ls c h.2) (au h.1.1)).imp λσ H Q aV=>?_;obtain⟨ρ,env,h,hE,r,p⟩:=aV;simp only[bN]at p;refine⟨ρ,env,h,hE,r,aH p λv h1 ρ1 x H1 g1 r1 q1 p1=>⟨ρ1,env,h1,hE.up g1,r1,bP p1 λvs h2 ρ2 H2 g2 r2 p2 xs q2=>?_⟩⟩;exact aj r2 p2 _ (aB.cons (VR.up g2 _ _ q1) q2)
 ·cases es with
  |nil=>trivial
  |cons e' r=>exact h2.2.1
theorem Ou(ha:cg Φ a)(hb:cg Φ b):cg Φ (.bin o a b):=by
 intro Γ k X cl EX e c h;apply N2 h;intro l op r pos h;simp only[and_eq_true]at h;obtain⟨⟨h1,h2⟩,h3⟩:=h;have eo:op=EK o:=JF h1;subst eo;have q:PE X (.BinOp l (EK o) r pos) (tV Φ (bd X cl) EX (.bin o a b)):=by refine(Rx (NN (cl:=cl) (EX:=EX) o) (ha Γ k X cl EX l c h2).1 (hb Γ k X cl EX r c h3).1).imp λσ H Q aV=>?_;obtain⟨ρ,env,h,hE,r,p⟩:=aV;simp only[aZ]at p;exact⟨ρ,env,h,hE,r,aH p λv h1 ρ1 x H1 g1 r1 q1 p1=>⟨ρ1,env,h1,hE.up g1,r1,aH p1 λw h2 ρ2 y H2 g2 r2 q2 p2=>⟨ρ2,h2,v,w,r2,VR.up g2 _ _ q1,q2,p2⟩⟩⟩
 exact⟨q,fk q λ_=>rfl⟩
theorem Ov(ha:cg Φ a):cg Φ (.neg a):=ja λ_ _=>rfl
theorem Ow(ha:cg Φ a)(hb:cg Φ b):cg Φ (.cmp o a b):=by
 intro Γ k X cl EX e c h;apply N3 h;intro l q1 q2 pos h;apply o9 h;intro op h;apply o9 h;intro r h;simp only[and_eq_true,not_eq_true']at h;obtain⟨⟨⟨h1,h4⟩,h2⟩,h3⟩:=h;have eo:op=AH o:=JG h1;subst eo;refine⟨(Iz (EN (cl:=cl) c.units o) (ha Γ k X cl EX l c h2).1 (hb Γ k X cl EX r c h3).1 h4).imp λσ H Q ⟨ρ,env,h,hE,r,p⟩=>?_,(ID (EN (cl:=cl) c.units o) (ha Γ k X cl EX l c h2).1 (hb Γ k X cl EX r c h3).1 h4).imp λσ H Q ⟨ρ,env,h,hE,r,p⟩=>?_⟩
 ·simp only[aZ]at p;refine⟨ρ,env,h,hE,r,aH p λv h1 ρ1 x H1 g1 r1 q1 p1=>⟨ρ1,env,h1,hE.up g1,r1,aH p1 λw h2 ρ2 y H2 g2 r2 q2 p2=>?_⟩⟩;obtain⟨t,e,p3⟩:=aK p2;exact⟨ρ2,h2,v,w,t,r2,VR.up g2 _ _ q1,q2,e,aj r2 p3 _ VR.bl⟩
 ·simp only[Ia,aZ,bf,dm]at p;refine⟨ρ,env,h,hE,r,aH p λv h1 ρ1 x H1 g1 r1 q1 p1=>⟨ρ1,env,h1,hE.up g1,r1,aH p1 λw h2 ρ2 y H2 g2 r2 q2 p2=>?_⟩⟩;obtain⟨t,e,p3⟩:=aK p2;obtain⟨t',e',w'⟩:=dM r2 p3;cases (show some t=some t' from e');exact⟨ρ2,h2,v,w,t,r2,VR.up g2 _ _ q1,q2,e,t,rfl,w'⟩
theorem Ox(ha:cg Φ a)(hb:cg Φ b)(hd:cg Φ d):cg Φ (.chn o o' a b d):=ja λ_ _=>rfl
end
section
variable {B:Bd} {EX:Nat->List V->Hp->Prop} {ρ:List Addr} {H:Hp} {β:Type} {W:β -> Hs->List Addr->Hp->Prop} {h:Hs}
theorem post_bool(p:Post B EX ρ H W (bnd (qy v) f h)):∃t,v=.bl t/\Post B EX ρ H W (f t h):=by
 cases v with
 |bl t=>exact⟨t,rfl,p⟩
 |_=>exact p.elim
theorem nK(p:Post B EX ρ H W (bnd m F h))(k:∀v h1,Post B EX ρ H W (F v h1)->∃t,cR h1 v=some t/\∀ρ1 H1,Gr ρ H ρ1 H1->HR B ρ1 h1 H1->Q t H1) :
  Post B EX ρ H (WT Q) (bnd m (λx=>ask λh=>cR h x) h):=by
 unfold bnd at p |-;cases e:m h with
 |ok v h1=>
  rw[e]at p;obtain⟨t,e1,q⟩:=k v h1 p;show Post B EX ρ H (WT Q) (ask (λh=>cR h v) h1);have e2:ask (λh=>cR h v) h1=.ok t h1:=by unfold ask bA;dsimp only;rw[e1]
  rw[e2];exact λρ1 H1 g r=>q ρ1 H1 g r
 |exc c vs h1=>rw[e]at p;exact p
 |no=>rw[e]at p;exact p
end
section
variable {Φ:Fn} {Γ:rW} {k:Nat} {X:Cx} {cl:Nat->Addr} {EX:Nat->List V->Hp->Prop}
theorem Oz(ha:cg Φ a)(hb:cg Φ b):cg Φ (.and a b):=by
 intro Γ k X cl EX e c h;apply tX h;intro q1 q2 pos h;apply AN h;intro h;apply zB h;intro l q3 h;apply zB h;intro m r h;simp only[and_eq_true]at h;obtain⟨h1,h2⟩:=h;have hB:PE X (.BoolOp .And (m::r) pos) (tV Φ (bd X cl) EX b)/\PW X (.BoolOp .And (m::r) pos) (tT Φ (bd X cl) EX b):=by
  cases r with
  |nil=>exact⟨DJ (hb Γ k X cl EX m c h2).1,Ij (hb Γ k X cl EX m c h2).2⟩
  |cons n r'=>exact⟨(hb Γ k X cl EX _ c h2).1,LU (hb Γ k X cl EX _ c h2).2⟩
 refine⟨(MR (ha Γ k X cl EX l c h1).1 hB.1).imp λσ H Q ⟨ρ,env,h,hE,r,p⟩=>?_,(MP (ha Γ k X cl EX l c h1).2 hB.2).pt.imp λσ H Q ⟨ρ,env,h,hE,r,p⟩=>?_⟩
 ·simp only[aZ]at p
  refine⟨ρ,env,h,hE,r,aH p λv h1 ρ1 x H1 g1 r1 q1 p1=>?_⟩;obtain⟨t,rfl,p2⟩:=post_bool p1;rw[VR]at q1;refine⟨t,q1,?_⟩;cases t with
  |true=>rw[aae rfl]at p2 |-;refine⟨ρ1,env,h1,hE.up g1,r1,aH p2 λw h2 ρ2 y H2 g2 r2 q2 p3=>?_⟩;obtain⟨u,rfl,p4⟩:=post_bool p3;exact aj r2 p4 _ q2
  |false=>rw[aac aab]at p2 |-;exact aj r1 p2 _ VR.bl
 ·simp only[Ia,aZ,bf]at p
  refine⟨ρ,env,h,hE,r,nK p λv h1 p1=>?_⟩;obtain⟨t,rfl,p2⟩:=post_bool p1;refine⟨t,rfl,λρ1 H1 g1 r1=>?_⟩;have p2:=Post.up g1 p2;cases t with
  |true=>rw[aae rfl]at p2 |-;simp only[bf,dm]at p2;refine⟨ρ1,env,h1,hE.up g1,r1,nK p2 λw h2 p3=>?_⟩;obtain⟨u,rfl,p4⟩:=post_bool p3;exact⟨u,rfl,λρ2 H2 g2 r2=>by obtain⟨t',e',w'⟩:=dM r2 (Post.up g2 p4);cases (show some u=some t' from e');exact w'⟩
  |false=>rw[aac aab]at p2 |-;obtain⟨t',e',w'⟩:=dM r1 (show Post _ _ ρ1 H1 _ (ask (λh=>cR h (.bl false)) h1) from p2);cases (show some false=some t' from e');exact w'
theorem SH(ha:cg Φ a)(hb:cg Φ b):cg Φ (.or a b):=by
 intro Γ k X cl EX e c h;apply tX h;intro q1 q2 pos h;apply AN h;intro h;apply zB h;intro l q3 h;apply zB h;intro m r h;simp only[and_eq_true]at h;obtain⟨h1,h2⟩:=h;have hB:PE X (.BoolOp .Or (m::r) pos) (tV Φ (bd X cl) EX b)/\PW X (.BoolOp .Or (m::r) pos) (tT Φ (bd X cl) EX b):=by
  cases r with
  |nil=>exact⟨DJ (hb Γ k X cl EX m c h2).1,MO (hb Γ k X cl EX m c h2).2⟩
  |cons n r'=>exact⟨(hb Γ k X cl EX _ c h2).1,LU (hb Γ k X cl EX _ c h2).2⟩
 refine⟨(Ri (ha Γ k X cl EX l c h1).1 hB.1).imp λσ H Q ⟨ρ,env,h,hE,r,p⟩=>?_,(Rf (ha Γ k X cl EX l c h1).2 hB.2).pt.imp λσ H Q ⟨ρ,env,h,hE,r,p⟩=>?_⟩
 ·simp only[aZ]at p
  refine⟨ρ,env,h,hE,r,aH p λv h1 ρ1 x H1 g1 r1 q1 p1=>?_⟩;obtain⟨t,rfl,p2⟩:=post_bool p1;rw[VR]at q1;refine⟨t,q1,?_⟩;cases t with
  |false=>rw[aac aab]at p2 |-;refine⟨ρ1,env,h1,hE.up g1,r1,aH p2 λw h2 ρ2 y H2 g2 r2 q2 p3=>?_⟩;obtain⟨u,rfl,p4⟩:=post_bool p3;exact aj r2 p4 _ q2
  |true=>rw[aae rfl]at p2 |-;exact aj r1 p2 _ VR.bl
 ·simp only[Ia,aZ,bf]at p
  refine⟨ρ,env,h,hE,r,nK p λv h1 p1=>?_⟩;obtain⟨t,rfl,p2⟩:=post_bool p1;refine⟨t,rfl,λρ1 H1 g1 r1=>?_⟩;have p2:=Post.up g1 p2;cases t with
  |false=>rw[aac aab]at p2 |-;simp only[bf,dm]at p2;refine⟨ρ1,env,h1,hE.up g1,r1,nK p2 λw h2 p3=>?_⟩;obtain⟨u,rfl,p4⟩:=post_bool p3;exact⟨u,rfl,λρ2 H2 g2 r2=>by obtain⟨t',e',w'⟩:=dM r2 (Post.up g2 p4);cases (show some u=some t' from e');exact w'⟩
  |true=>rw[aae rfl]at p2 |-;obtain⟨t',e',w'⟩:=dM r1 (show Post _ _ ρ1 H1 _ (ask (λh=>cR h (.bl true)) h1) from p2);cases (show some true=some t' from e');exact w'
theorem OA(ha:cg Φ a):cg Φ (.not a):=by
 intro Γ k X cl EX e c h;apply Sk h;intro q1 l pos h;apply AN h;intro h;refine⟨(MS (ha Γ k X cl EX l c h).1).imp λσ H Q ⟨ρ,env,h,hE,r,p⟩=>?_,(MQ (ha Γ k X cl EX l c h).2).imp λσ H Q ⟨ρ,env,h,hE,r,p⟩=>?_⟩
 ·simp only[aZ]at p;refine⟨ρ,env,h,hE,r,aH p λv h1 ρ1 x H1 g1 r1 q1 p1=>?_⟩;obtain⟨t,rfl,p2⟩:=post_bool p1;rw[VR]at q1;exact⟨t,q1,aj r1 p2 _ VR.bl⟩
 ·simp only[Ia,aZ,bf]at p;refine⟨ρ,env,h,hE,r,nK p λv h1 p1=>?_⟩;obtain⟨t,rfl,p2⟩:=post_bool p1;refine⟨t,rfl,λρ1 H1 g1 r1=>?_⟩;obtain⟨t',e',w'⟩:=dM r1 (show Post _ _ ρ1 H1 _ (ask (λh=>cR h (.bl (!t))) h1) from Post.up g1 p2);cases (show some (!t)=some t' from e');exact w'
theorem OC(ht:cg Φ t)(ha:cg Φ a)(hb:cg Φ b):cg Φ (.ite t a b):=ja λ_ _=>rfl
theorem OE(hs:kW Φ es):cg Φ (.tup es):=by
 intro Γ k X cl EX e c h;apply N4 h;intro ls x1 pos h;have q:PE X (.Tuple ls x1 pos) (tV Φ (bd X cl) EX (.tup es)):=by refine(DR (hs.1 Γ k X cl EX ls c h)).imp λσ H Q aV=>?_;obtain⟨ρ,env,h,hE,r,p⟩:=aV;simp only[aZ]at p;refine⟨ρ,env,h,hE,r,bP p λvs h1 ρ1 H1 g1 r1 p1 xs q1=>?_⟩;obtain⟨e1,p2⟩:=aS p1;exact⟨by rw[<-q1.length];exact aaC e1,λq hq=>qA r1 hq q1 p2⟩
 exact⟨q,fk q λ_=>rfl⟩
theorem OF(hs:kW Φ es):cg Φ (.lst es):=by
 intro Γ k X cl EX e c h;apply N5 h;intro ls pos h;have q:PE X (.List ls pos) (tV Φ (bd X cl) EX (.lst es)):=by refine(DS (hs.1 Γ k X cl EX ls c h)).imp λσ H Q aV=>?_;obtain⟨ρ,env,h,hE,r,p⟩:=aV;simp only[aZ]at p;refine⟨ρ,env,h,hE,r,bP p λvs h1 ρ1 H1 g1 r1 p1 xs q1=>?_⟩;obtain⟨e1,p2⟩:=aS p1;exact⟨by rw[<-q1.length];exact aaC e1,λq hq=>fy r1 hq q1 p2⟩
 exact⟨q,fk q λ_=>rfl⟩
theorem JH:cg Φ .dct0:=by
 intro Γ k X cl EX e c h;apply u5 h;intro q1 q2 pos h;apply lI h;intro h;apply lI h;intro h;have q:PE X (.Dict [] [] pos) (tV Φ (bd X cl) EX .dct0):=by refine(D3 (X:=X) (pos:=pos)).imp λσ H Q aV=>?_;obtain⟨ρ,env,h,hE,r,p⟩:=aV;simp only[aZ]at p;exact λa ha=>wL (o:=.dct []) (O:=.dK []) r ha ⟨[],aD,(by rw[iF])⟩ p
 exact⟨q,fk q λ_=>rfl⟩
theorem OG(ha:cg Φ a)(hb:cg Φ b):cg Φ (.idx a b):=by
 intro Γ k X cl EX e c h;apply zA h;intro l r pos h;simp only[and_eq_true]at h;have q:PE X (.Subscript l r pos) (tV Φ (bd X cl) EX (.idx a b)):=by refine(RJ (NR (cl:=cl) c.units) (ha Γ k X cl EX l c h.1.2).1 (hb Γ k X cl EX r c h.2).1 (zF h.1.1)).imp λσ H Q aV=>?_;obtain⟨ρ,env,h,hE,r,p⟩:=aV;simp only[aZ]at p;refine⟨ρ,env,h,hE,r,aH p λv h1 ρ1 x H1 g1 r1 q1 p1=>⟨ρ1,env,h1,hE.up g1,r1,aH p1 λw h2 ρ2 y H2 g2 r2 q2 p2=>?_⟩⟩;obtain⟨z,e,w'⟩:=dM r2 p2;exact⟨ρ2,h2,v,w,z,r2,VR.up g2 _ _ q1,q2,e,w'⟩
 exact⟨q,fk q λ_=>rfl⟩
def SJ(Φ:Fn)(ir:IE)(env:Env):M (Option Int):=if dj ir=true then ret none else bnd (aZ Φ ir env) λv=>bnd (bA (lz v)) λi=>ret (some i)
def tP(Φ:Fn)(B:Bd)(EX:Nat->List V->Hp->Prop)(ir:IE):TO:=λσ H Q=>∃ρ env h,cy B.K ρ env σ H/\HR B ρ h H/\Post B EX ρ H (λo _ _ H'=>Q o H') (SJ Φ ir env h)
theorem C1{i:Int}(h:lz d=some i):d=.int i:=by cases d<;>cases h;rfl
theorem AU(hi:cg Φ ir)(c:Ctx Φ Γ k X cl EX)(h:(match o with|none=>dj ir|some e=>!dj ir&&bC Γ ir e)=true):PO X o (tP Φ (bd X cl) EX ir):=by
 cases o with
 |none=>refine IK.imp λσ H Q aV=>?_;obtain⟨ρ,env,h',hE,r,p⟩:=aV;unfold SJ at p;rw[aae h]at p;exact aj r p
 |some e=>simp only[and_eq_true,not_eq_true']at h;refine(IL (hi Γ k X cl EX e c h.2).1).imp λσ H Q aV=>?_;obtain⟨ρ,env,h',hE,r,p⟩:=aV;unfold SJ at p;rw[aac (by rw[h.1];exact aab)]at p;refine⟨ρ,env,h',hE,r,aH p λv h1 ρ1 x H1 g1 r1 q1 p1=>?_⟩;obtain⟨i,e1,p2⟩:=b7 p1;cases C1 e1;rw[VR]at q1;exact⟨i,q1,aj r1 p2⟩
theorem OH{a lo hi:IE}(ha:cg Φ a)(hl:cg Φ lo)(hh:cg Φ hi):cg Φ (.slc a lo hi):=by
 intro Γ k X cl EX e c h;apply zA h;intro l q1 pos h;apply N6 h;intro l' h' q2 p2 h;apply AM h;intro h;simp only[and_eq_true]at h;have q:PE X (.Subscript l (.Slice l' h' none p2) pos) (tV Φ (bd X cl) EX (.slc a lo hi)):=by refine(DY (NS (cl:=cl) (EX:=EX)) (ha Γ k X cl EX l c h.1.1).1 (AU hl c h.1.2) (AU hh c h.2)).imp λσ H Q aV=>?_;obtain⟨ρ,env,h,hE,r,p⟩:=aV;simp only[aZ]at p;refine⟨ρ,env,h,hE,r,aH p λv h1 ρ1 x H1 g1 r1 q1 p1=>⟨ρ1,env,h1,hE.up g1,r1,bP (m:=SJ Φ lo env) p1 λlo' h2 ρ2 H2 g2 r2 p3=>⟨ρ2,env,h2,(hE.up g1).up g2,r2,bP (m:=SJ Φ hi env) p3 λhi' h3 ρ3 H3 g3 r3 p4=>?_⟩⟩⟩;exact⟨ρ3,h3,v,r3,VR.up (g2.trans g3) _ _ q1,p4⟩
 exact⟨q,fk q λ_=>rfl⟩
theorem OI(ha:cg Φ a)(hs:cg Φ sx):cg Φ (.rev a sx):=ja λ_ _=>rfl
theorem qE:∀{fj:lT} {ls:List Expr} {vs:List Val} {h h':Hs},aX Γ fj ls=true->bN Φ fj env h=.ok vs h'->vs.length=ls.length:=by
 intro fj
 induction fj using lT.rec (motive_1:=λ_=>True) with
 |nil=>
  intro ls ds h h' a b;rw[aX]at a;simp only[bN,ret]at b;cases b;cases ls with
  |nil=>rfl
  |cons _ _=>cases a
 |cons e es _ ih=>
  intro ls ds h h' a b;rw[aX.eq_def]at a;dsimp only at a;cases ls with
  |nil=>cases a
  |cons l ls=>
   simp only[and_eq_true]at a;simp only[bN,bnd]at b;cases e1:aZ Φ e env h with
   |ok v h1=>
    rw[e1]at b;dsimp only at b;cases e2:bN Φ es env h1 with
    |ok vs h2=>rw[e2]at b;cases b;simp[ih a.2 e2]
    |exc _ _ _=>rw[e2]at b;cases b
    |no=>rw[e2]at b;cases b
   |exc _ _ _=>rw[e1]at b;cases b
   |no=>rw[e1]at b;cases b
 |_=>trivial
theorem gm{α β:Type}{W:β -> Hs->List Addr->Hp->Prop}{W':α -> Hs->List Addr->Hp->Prop}{m:M α}{f:α -> M β}(p:Post B EX ρ H W (bnd m f h))(k:∀v h1 ρ1 H1,m h=.ok v h1->Gr ρ H ρ1 H1->HR B ρ1 h1 H1->Post B EX ρ1 H1 W (f v h1)->W' v h1 ρ1 H1):Post B EX ρ H W' (m h):=by
 unfold bnd at p;cases e:m h with
 |ok v h1=>rw[e]at p;exact λρ1 H1 g r=>k v h1 ρ1 H1 e g r (Post.up g p)
 |exc c vs h1=>rw[e]at p;exact p
 |no=>rw[e]at p;exact p
theorem tY{α:Type}{W:α -> Hs->List Addr->Hp->Prop}{o:Out α}(n:∀c xs H,EX c xs H->Zz c xs H)(p:Post B EX ρ H W o):Post B Zz ρ H W o:=by
 cases o with
 |ok a h'=>exact p
 |exc c vs h'=>exact λρ' H' xs g r q=>n _ _ _ (p ρ' H' xs g r q)
 |no=>exact p
theorem C2{α:Type}{W:α -> Hs->List Addr->Hp->Prop}{m:M α}(p:Post B EX ρ H W (calm m h)):Post B NX ρ H W (m h):=by
 unfold calm at p;cases e:m h with
 |ok a h'=>rw[e]at p;exact p
 |exc c vs h'=>rw[e]at p;exact p.elim
 |no=>rw[e]at p;exact p.elim
theorem JI{j:Nat}{k:Nat}(hs:kW Φ es)(c:Ctx Φ Γ k X cl EX)
  (h:(u6 Γ.sc x && Γ.fns[j]?==some (x,args.length)&&decide (args.length<1000)&&aX Γ es args)=true):PE X (.Call (.Name x p) args [] pos) (tV Φ (bd X cl) EX (.call j es))/\PT X (.Call (.Name x p) args [] pos) (tT Φ (bd X cl) EX (.call j es)):=by
 simp only[and_eq_true,beq_iff_eq,decide_eq_true_eq]at h;obtain⟨⟨⟨h1,h2⟩,h3⟩,h4⟩:=h;obtain⟨g1,g2,g3⟩:=c.gl h1;have room:dU k X.A:=c.room.mono (le_succ k);have q:PE X (.Call (.Name x p) args [] pos) (tV Φ (bd X cl) EX (.call j es)):=by
  obtain⟨E,hx,hX⟩:=c.UY
  rcases c.fns j x _ h2 with ⟨_,f,fd,ps,f1,f2,f3,f4,f5⟩|⟨z,_⟩|⟨z,_⟩
  ·cases args with
   |nil=>
    cases es with
    |cons i fj=>rw[aX.eq_def]at h4;cases h4
    |nil=>refine(DU f5 room g1 f2 f3 f4 .nil hx g2).imp λσ H Q aV=>?_;obtain⟨ρ,env,h,hE,r,p⟩:=aV;simp only[aZ,bN,dm]at p;exact⟨ρ,h,[],rfl,r,aB.nil,tY hX p⟩
   |cons l ls=>
    cases es with
    |nil=>rw[aX]at h4;cases h4
    |cons i fj=>have h5:=h4;rw[aX.eq_def]at h5;dsimp only at h5;simp only[and_eq_true]at h5;refine(IF f5 room g1 f2 f3 f4 .nil hx (hs.1 Γ k X cl EX _ c h4) g2 (au h5.1.1) (jQ h5.2)).imp λσ H Q aV=>?_;obtain⟨ρ,env,h,hE,r,p⟩:=aV;simp only[aZ]at p;refine⟨ρ,env,h,hE,r,gm p λvs h1 ρ1 H1 e1 g1 r1 p1 xs q1=>⟨ρ1,h1,vs,qE h4 e1,r1,by rw[append_nil];exact q1,tY hX p1⟩⟩
  ·omega
  ·omega
 exact⟨q,fk q λ_=>rfl⟩
theorem JJ{j:Nat}(hs:kW Φ es):cg Φ (.call j es):=by
 intro Γ k X cl EX e c h;apply qD h;intro x _ args _ h;exact JI hs c h
theorem OJ{n:Nat}(ha:cg Φ a):cg Φ (.fld n a x):=AR λ_ _=>rfl
theorem OL(ha:cg Φ a)(hs:kW Φ es):cg Φ (.mth a m js es):=AR λ_ _=>rfl
end
section
variable {Φ:Fn} {Γ:rW} {k:Nat} {X:Cx} {cl:Nat->Addr} {EX:Nat->List V->Hp->Prop}
theorem OM:bootBuiltins "all" = some (.builtin "all"):=by decide +kernel
theorem ON:bootBuiltins "any" = some (.builtin "any"):=by decide +kernel
theorem tZ:bootBuiltins "sorted" = some (.builtin "sorted"):=by decide +kernel
theorem OO:bootBuiltins "min" = some (.builtin "min"):=by decide +kernel
theorem OP:bootBuiltins "max" = some (.builtin "max"):=by decide +kernel
theorem AV:bootBuiltins "list" = some (.type "list"):=by decide +kernel
theorem wU:bootBuiltins "tuple" = some (.type "tuple"):=by decide +kernel
theorem E9:bootBuiltins "str" = some (.type "str"):=by decide +kernel
theorem Fb:bootBuiltins "int" = some (.type "int"):=by decide +kernel
theorem JK:bootBuiltins "bool" = some (.type "bool"):=by decide +kernel
theorem JL:bootBuiltins "dict" = some (.type "dict"):=by decide +kernel
theorem JM:bootBuiltins "isinstance" = some (.builtin "isinstance"):=by decide +kernel
theorem wV:bN Φ #[e] env=bnd (aZ Φ e env) λd=>ret [d]:=by
 simp only[bN,dm]
theorem six{T:String}(h:["list","tuple","str","bool","int","dict"].contains T=true):T = "list" \/ T = "tuple" \/ T = "str" \/ T = "bool" \/ T = "int" \/ T = "dict":=by simpa using h
theorem JN{T:String}(h:["list","tuple","str","bool","int","dict"].contains T=true):(T:Str)∈bltNames/\bootBuiltins (T:Str)=some (.type T)/\(T:Str) ≠ "__name__" /\ ((T:Str)==("__debug__":Str))=false:=by
 rcases six h with rfl|rfl|rfl|rfl|rfl|rfl
 ·exact⟨by decide,AV,by decide,by decide⟩
 ·exact⟨by decide,wU,by decide,by decide⟩
 ·exact⟨by decide,E9,by decide,by decide⟩
 ·exact⟨by decide,JK,by decide,by decide⟩
 ·exact⟨by decide,Fb,by decide,by decide⟩
 ·exact⟨by decide,JL,by decide,by decide⟩
theorem JO{T:String}(hs:kW Φ es):cg Φ (.blt (.isin T) es):=by
 intro Γ k X cl EX e c h;apply qD h;intro x p args pos h;simp only[and_eq_true,beq_iff_eq]at h;obtain⟨⟨h1,h2⟩,h3⟩:=h;subst h2;obtain⟨g1,g2,g3⟩:=c.gl h1;split at h3<;>first|cases h3|skip
 rename_i a y yp;simp only[and_eq_true,beq_iff_eq]at h3;obtain⟨⟨⟨k1,k2⟩,k3⟩,k4⟩:=h3;obtain⟨b1,b2,b3,b4⟩:=JN k3;obtain⟨y1,y2,y3⟩:=c.gl k1;subst k2;cases es with
 |nil=>rw[aX]at k4;cases k4
 |cons i fj=>
  rw[aX.eq_def]at k4;dsimp only at k4;simp only[and_eq_true]at k4;cases fj with
  |cons j fj=>have:=k4.2;rw[aX.eq_def]at this;cases this
  |nil=>
   have q:PE X (.Call (.Name (SE (.isin T)) p) [a,.Name (T:Str) yp] [] pos) (tV Φ (bd X cl) EX (.blt (.isin T) #[i])):=by refine(dh (Jx (cl:=cl) (EX:=EX) (T:=T)) g1 (c.blt _ (show ("isinstance":Str)∈bltNames by decide)) JM (bZ (hs.2.1 Γ k X cl EX a c k4.1.2).1 (bZ (Af (v:=.ty T) y1 (c.blt _ b1) b2 rfl b3 b4) iW) (au k4.1.1)) g3 g2 (au k4.1.1)).imp λσ H Q aV=>?_;obtain⟨ρ,env,h,hE,r,p⟩:=aV;simp only[aZ,wV,bf,dm]at p;exact⟨ρ,env,h,hE,r,aH p λv h1 ρ1 x H1 g1 r1 q1 p1=>⟨ρ1,h1,v,x,rfl,r1,q1,p1⟩⟩
   exact⟨q,fk q λ_=>rfl⟩
theorem OQ:bootBuiltins "set" = some (.type "set"):=by decide +kernel
theorem JP(ha:cg Φ a):cg Φ (.sset a):=by
 intro Γ k X cl EX e c h;apply qD h;intro x p1 q1 pos1 h;apply o9 h;intro q2 h;apply qD h;intro y p2 q3 pos2 h;apply o9 h;intro l h;simp only[and_eq_true,beq_iff_eq]at h;obtain⟨⟨⟨⟨⟨h1,h2⟩,h3⟩,h4⟩,h5⟩,h6⟩:=h;subst h1;subst h2;have q:PE X (.Call (.Name "sorted" p1) [.Call (.Name "set" p2) [l] [] pos2] [] pos1) (tV Φ (bd X cl) EX (.sset a)):=by have qe:=(ha Γ k X cl EX l c h6).1;intro pins s σ H Q I hh;have hd:X.A.handled=none:=I.ok.hd c.calm;refine((Jf hd (c.gl h3).1 (c.blt _ (by decide)) (c.gl h4).1 (c.blt _ (by decide)) tZ OQ qe (au (env:=X.env) (es:=[]) h5)).imp λσ H Q ⟨ρ,env,h,hE,r,p⟩=>?_) pins s σ H Q I hh;simp only[aZ]at p;refine⟨ρ,env,h,hE,r,aH p λv h1 ρ1 x H1 g1 r1 q1 p1=>?_⟩;obtain⟨zs,e,p1⟩:=aK p1;obtain⟨ns,e1,p1⟩:=b7 p1;obtain⟨e2,p1⟩:=aS p1;obtain⟨b,ys,rfl,q2,q3⟩:=fS r1 q1 e;rw[fz e1]at q3;rw[aB.ints.mp q3]at q2;exact⟨b,ns,rfl,q2,aaC e2,λl hl=>fy r1 hl (aB.ints.mpr rfl) p1⟩
 exact⟨q,fk q λ_=>rfl⟩
theorem JQ{d k x:IE}(hd:cg Φ d)(hk:cg Φ k)(hx:cg Φ x):cg Φ (.dget d k x):=by
 intro Γ n X cl EX e c h;apply LP h;intro o m ap q1 cp h;apply N7 h;intro a b h;simp only[and_eq_true,beq_iff_eq]at h;obtain⟨⟨⟨⟨⟨⟨⟨h1,h2⟩,h3⟩,h4⟩,h5⟩,h6⟩,h7⟩,h8⟩:=h;subst h1;have st:starEach [a,b] X.env=[(false,eval a X.env),(false,eval b X.env)]:=by rw[au h3,au h4];rfl
 have m2:M2 X o "get" ap a b cp:=⟨super_ok h2,by rw[st];rfl,by rw[h5];exact beq_self_eq_true _,by rw[st];rfl⟩;have q:PE X (.Call (.Attribute o "get" ap) [a,b] [] cp) (tV Φ (bd X cl) EX (.dget d k x)):=by
  refine(D4 (by have:=c.units;omega) (hd Γ n X cl EX o c h6).1 (hk Γ n X cl EX a c h7).1 (hx Γ n X cl EX b c h8).1 m2).imp λσ H Q aV=>?_;obtain⟨ρ,env,h,hE,r,p⟩:=aV;simp only[aZ]at p;refine⟨ρ,env,h,hE,r,aH p λv h1 ρ1 y H1 g1 r1 q1 p1=>?_⟩;obtain⟨u0,e1,pA⟩:=aK p1;clear p1;cases v<;>first|(cases e1;done)|(rw[VR]at q1;exact q1.elim)|skip
  rename_i i;rw[VR]at q1;obtain⟨ad,rfl,q1⟩:=q1;have hdc:∃kvs,h1[i]?=some (.dct kvs):=by
   change (match h1[i]? with|some (.dct _)=>some ()|_=>none)=some _ at e1;split at e1
   ·rename_i kvs e2;exact⟨kvs,e2⟩
   ·cases e1
  obtain⟨kvs,e2⟩:=hdc;obtain⟨ks,k1,k2⟩:=r1.ob i _ ad e2 q1;refine⟨ad,rfl,.inl ⟨ks,.inl k1⟩,ρ1,env,h1,hE.up g1,r1,aH pA λw h2 ρ2 y2 H2 g2 r2 q2 p2=>?_⟩;obtain⟨kk,e3,p2⟩:=b7 p2;refine⟨ρ2,env,h2,(hE.up g1).up g2,r2,aH p2 λz h3 ρ3 y3 H3 g3 r3 q3 p3=>?_⟩;obtain⟨rr,e4,p3⟩:=aK p3;have q4:ρ3[i]?=some ad:=uY (g2.trans g3).pre q1;have ZA:∃kvs,h3[i]?=some (.dct kvs)/\rr=cJ kvs kk:=by
   change (match h3[i]? with|some (.dct kvs)=>some (cJ kvs kk)|_=>none)=some rr at e4;split at e4
   ·rename_i kvs e2;cases e4;exact⟨kvs,e2,rfl⟩
   ·cases e4
  obtain⟨Wf,e5,rfl⟩:=ZA;obtain⟨ZC,k3,k4⟩:=r3.ob i _ ad e5 q4;have ek:y2=kV kk:=by
   cases w<;>first|(cases e3;done)|skip
   ·cases e3;rw[VR]at q2;exact q2
   ·cases e3;rw[VR]at q2;exact q2
  refine⟨iG ZC kk,by rw[ek];exact o4.k k3,?_⟩;cases ev:cJ Wf kk with
  |none=>rw[ev]at p3;rw[(iF.val kk k4).1 ev];exact aj r3 p3 _ q3
  |some z'=>obtain⟨t,e6,q6⟩:=(iF.val kk k4).2 z' ev;rw[ev]at p3;rw[e6];exact aj r3 p3 _ q6
 exact⟨q,fk q λ_=>rfl⟩
theorem Fc(hd:cg Φ d):cg Φ (.lkeys d):=ja λ_ _=>rfl
theorem JR{d k x:IE}(hd:cg Φ d)(hk:cg Φ k)(hx:cg Φ x):cg Φ (.sdef d k x):=ja λ_ _=>rfl
theorem AW{α β:Type}{f:α -> β}:∀{l:List α},(l.map f).Nodup->∀a∈l,∀b∈l,f a=f b->a=b
 | x::l,h,a,ha,b,hb,e=>by
  rw[aay,aaW]at h
  rcases aao.mp ha with e1|ha2
  ·rcases aao.mp hb with e2|hb2
   ·rw[e1,e2]
   ·rw[e1]at e;exact(h.1 (e▸aaU hb2)).elim
  ·rcases aao.mp hb with e2|hb2
   ·rw[e2]at e;exact(h.1 (e▸aaU ha2)).elim
   ·exact AW h.2 a ha2 b hb2 e
theorem Fd(hd:cg Φ d):cg Φ (.skeys d):=ja λ_ _=>rfl
theorem Fe(hd:cg Φ d):cg Φ (.svals d):=ja λ_ _=>rfl
theorem OS(hs:kW Φ es):cg Φ (.blt b es):=by
 cases b with
 |isin T=>exact JO hs
 |_=>
  intro Γ k X cl EX e c h;apply qD h;intro x p args pos h;simp only[and_eq_true,beq_iff_eq]at h;obtain⟨⟨h1,h2⟩,h3⟩:=h;subst h2;obtain⟨g1,g2,g3⟩:=c.gl h1;cases args with
  |nil=>cases h3.1
  |cons l ls=>
   cases es with
   |nil=>have:=h3.2;rw[aX]at this;cases this
   |cons i fj=>
    have h5:=h3.2;rw[aX.eq_def]at h5;dsimp only at h5;simp only[and_eq_true]at h5;have hA:=hs.1 Γ k X cl EX _ c h3.2;have st:=au (env:=X.env) (es:=ls) h5.1.1;have an:=jQ (pos:=pos) (env:=X.env) h5.2;refine(λq=>⟨q,fk q λ_=>rfl⟩) ?_
    first
     |refine(dh (NT (cl:=cl) (EX:=EX)) g1 (c.blt _ (by decide)) PySem.boot_len hA g3 g2 st an).imp λσ H Q ⟨ρ,env,h,hE,r,p⟩=>?_
     |refine(dh (NU (cl:=cl) (EX:=EX) c.calm) g1 (c.blt _ (by decide)) OO hA g3 g2 st an).imp λσ H Q ⟨ρ,env,h,hE,r,p⟩=>?_
     |refine(dh (NV (cl:=cl) (EX:=EX) c.calm) g1 (c.blt _ (by decide)) OP hA g3 g2 st an).imp λσ H Q ⟨ρ,env,h,hE,r,p⟩=>?_
     |refine(dh (CT (cl:=cl) (EX:=EX)) g1 (c.blt _ (by decide)) tZ hA g3 g2 st an).imp λσ H Q ⟨ρ,env,h,hE,r,p⟩=>?_
     |refine(dh (NZ (cl:=cl) (EX:=EX) c.calm) g1 (c.blt _ (by decide)) OM hA g3 g2 st an).imp λσ H Q ⟨ρ,env,h,hE,r,p⟩=>?_
     |refine(dh (N1 (cl:=cl) (EX:=EX) c.calm) g1 (c.blt _ (by decide)) ON hA g3 g2 st an).imp λσ H Q ⟨ρ,env,h,hE,r,p⟩=>?_
     |refine(kr (Jv (cl:=cl) (EX:=EX)) g1 (c.blt _ (by decide)) AV hA g3 g2 st an).imp λσ H Q ⟨ρ,env,h,hE,r,p⟩=>?_
     |refine(kr (EO (cl:=cl) (EX:=EX)) g1 (c.blt _ (by decide)) wU hA g3 g2 st an).imp λσ H Q ⟨ρ,env,h,hE,r,p⟩=>?_
     |refine(kr (NW (cl:=cl) (EX:=EX)) g1 (c.blt _ (by decide)) E9 hA g3 g2 st an).imp λσ H Q ⟨ρ,env,h,hE,r,p⟩=>?_
     |refine(kr (NY (cl:=cl) (EX:=EX)) g1 (c.blt _ (by decide)) Fb hA g3 g2 st an).imp λσ H Q ⟨ρ,env,h,hE,r,p⟩=>?_
    simp only[aZ]at p;exact⟨ρ,env,h,hE,r,bP p λvs h1 ρ1 H1 g1 r1 p1 xs q1=>⟨ρ1,h1,vs,r1,q1,p1⟩⟩
def Xr:Me->String
 |.join=>"str" | .append=>"list" | .extend=>"list" | .remove=>"list"
theorem JS(r:HR B ρ h H)(q:VR B.K ρ H v x)(e:recv h m v=some ()):Vy B.K (Xr m) x H:=by
 cases m<;>cases v<;>simp only[recv]at e<;>first|cases e|skip
 ·rw[VR]at q;subst q;rfl
 all_goals
  split at e
  ·rename_i xs e1;obtain⟨a,ys,rfl,q0,q1,q2⟩:=kG r q e1;exact .inl ⟨rfl,ys,.inl (.inl q1)⟩
  ·cases e
theorem OT(ha:cg Φ a)(hs:kW Φ es):cg Φ (.met m a es):=by
 intro Γ k X cl EX e c h;apply LP h;intro o x ap args cp h;simp only[and_eq_true,beq_iff_eq]at h;obtain⟨⟨⟨⟨⟨⟨h1,h2⟩,h3⟩,h4⟩,h5⟩,h6⟩,h7⟩:=h;subst h1;cases args with
 |nil=>cases h3
 |cons l ls=>
  have hA:=hs.1 Γ k X cl EX _ c h7;have h8:noStar l=true/\∃fj,aX Γ fj ls=true:=by
   cases es with
   |nil=>rw[aX]at h7;cases h7
   |cons i fj=>rw[aX.eq_def]at h7;dsimp only at h7;simp only[and_eq_true]at h7;exact⟨h7.1.1,fj,h7.2⟩
  obtain⟨n1,fj,n2⟩:=h8;have st:=au (env:=X.env) (es:=ls) n1;have an:=jQ (pos:=cp) (env:=X.env) n2;have few:((backTo cp (starEach (l::ls) X.env)).all (λx=>!x.1)&&(backToKw cp (keywordEach [] X.env)).all (λx=>x.1.isSome)
   && decide ((l::ls).length+([]:List Keyword).length+(if ([]:List Keyword).isEmpty then 0 else 1)<30))=true:=by
   rw[E7 h7];have:(l::ls).length<29:=aaC h4;simp only[Bool.true_and,and_eq_true];exact⟨rfl,decide_eq_true (by simp at this |-;omega)⟩
  have hl:(ap.endLine==cp.line)=true:=by rw[h5];exact beq_self_eq_true _
  refine(λq=>⟨q,fk q λ_=>rfl⟩) ?_;have fin:∀(T:String) (r:V->List V->Hp->VK->Prop),(∀x xs H Q,Si (bd X cl) EX m x xs H Q->r x xs H Q)->T=Xr m->∀σ H Q,tV Φ (bd X cl) EX (.met m a es) σ H Q->W5 X.K T r (tV Φ (bd X cl) EX a) (Xq Φ (bd X cl) EX es) σ H Q:=by rintro T rr hr rfl σ H Q ⟨ρ,env,h,hE,r,p⟩;simp only[aZ]at p;refine⟨ρ,env,h,hE,r,aH p λv h1 ρ1 x H1 g1 r1 q1 p1=>?_⟩;obtain⟨_,e1,p2⟩:=aK p1;refine⟨JS r1 q1 e1,ρ1,env,h1,hE.up g1,r1,bP p2 λvs h2 ρ2 H2 g2 r2 p3 xs q2=>hr _ _ _ _ ⟨ρ2,h2,v,vs,r2,VR.up g2 _ _ q1,q2,p3⟩⟩
  cases m with
  |join=>exact(Ao PySem.F.plainAttrs_str PySem.F.slot_str_join PySem.F.type_str_join (Jy (cl:=cl) (EX:=EX)) (ha Γ k X cl EX o c h6).1 hA (super_ok h2) few hl st an).imp (fin _ _ (λ_ _ _ _ z=>z) rfl)
  |append=>exact(Ao PySem.F.plainAttrs_list PySem.F.slot_list_append PySem.F.type_list_append (CU (cl:=cl) (EX:=EX)) (ha Γ k X cl EX o c h6).1 hA (super_ok h2) few hl st an).imp (fin _ _ (λ_ _ _ _ z=>z) rfl)
  |extend=>exact(Ao PySem.F.plainAttrs_list PySem.F.slot_list_extend PySem.F.type_list_extend (CV (cl:=cl) (EX:=EX)) (ha Γ k X cl EX o c h6).1 hA (super_ok h2) few hl st an).imp (fin _ _ (λ_ _ _ _ z=>z) rfl)
  |remove=>exact(Ao PySem.F.plainAttrs_list PySem.F.slot_list_remove PySem.F.type_list_remove (CW (cl:=cl) (EX:=EX)) (ha Γ k X cl EX o c h6).1 hA (super_ok h2) few hl st an).imp (fin _ _ (λ_ _ _ _ z=>z) rfl)
end
theorem _root_.L2.PI.or(h:PI X tg iter t)(h':PI X tg iter t'):PI X tg iter (λσ H R=>t σ H R\/t' σ H R):=λpins s σ H R I hw=>hw.elim (h pins s σ H R I) (h' pins s σ H R I)
structure Walks (B:Bd) (src:Src) (J:It) (ρ1:List Addr) (H1:Hp):Prop where
 stop:∀{ρ h H i xs},Gw ρ1 H1 ρ H->HR B ρ h H->src.items h=some xs->xs.length<=i->J.stop i H
 go:∀{ρ h H i xs v},Gw ρ1 H1 ρ H->HR B ρ h H->src.items h=some xs->xs[i]?=some v->J.go i H
 yJ:∀{ρ h H i xs v y H'},Gw ρ1 H1 ρ H->HR B ρ h H->src.items h=some xs->xs[i]?=some v->J.yJ i H y H'->Gr ρ H ρ H'/\HR B ρ h H'/\VR B.K ρ H' v y
section
variable {B:Bd} {ρ1:List Addr} {H1:Hp} {a:Addr}
theorem C3(q:jx B.K H1 a xs)(e:aB B.K ρ1 H1 vs xs):Walks B (.fix vs) (Vk B.K a) ρ1 H1 where
 stop:=λg r hi hl=>by
  cases hi;exact⟨xs,g.UW q,by rw[<-e.length];exact hl⟩
 go:=λg r hi hv=>by
  cases hi;obtain⟨x,k1,_⟩:=e.get hv;exact⟨xs,x,g.UW q,k1⟩
 yJ:=λg r hi hv y=>by
  cases hi;obtain⟨rfl,y⟩:=y;obtain⟨x,k1,k2⟩:=e.get hv;have:=y xs (g.UW q);rw[k1]at this;cases this;exact⟨Gr.refl,r,VR.jP g _ _ k2⟩
theorem Ff(q:LL B.K H1 a xs)(e:aB B.K ρ1 H1 vs xs):Walks B (.fix vs) (UL B.K a) ρ1 H1 where
 stop:=λg r hi hl=>by
  cases hi;exact⟨xs,(g.NL q).sq,by rw[<-e.length];exact hl⟩
 go:=λg r hi hv=>by
  cases hi;obtain⟨x,k1,_⟩:=e.get hv;exact⟨xs,x,(g.NL q).sq,k1⟩
 yJ:=λg r hi hv y=>by
  cases hi;obtain⟨rfl,y⟩:=y;obtain⟨x,k1,k2⟩:=e.get hv;have:=y xs (g.NL q).sq;rw[k1]at this;cases this;exact⟨Gr.refl,r,VR.jP g _ _ k2⟩
theorem kH{i:Nat}(q:ρ1[i]?=some a)(g:Gw ρ1 H1 ρ H)(r:HR B ρ h H)(hi:(Src.live i).items h=some xs):∃ys,gU B.K H a ys/\aB B.K ρ H xs ys:=by
 obtain⟨b,ys,e,k1,k2⟩:=fS r (VR.ref (uY g.pre q)) (show aI h (.ref i)=some xs from hi);cases e;exact⟨ys,k1,k2⟩
theorem zG{i:Nat}(q:ρ1[i]?=some a):Walks B (.live i) (UL B.K a) ρ1 H1 where
 stop:=λg r hi hl=>by
  obtain⟨ys,k1,k2⟩:=kH q g r hi;exact⟨ys,k1,by rw[<-k2.length];exact hl⟩
 go:=λg r hi hv=>by
  obtain⟨ys,k1,k2⟩:=kH q g r hi;obtain⟨x,k3,_⟩:=k2.get hv;exact⟨ys,x,k1,k3⟩
 yJ:=λg r hi hv y=>by
  obtain⟨ys,k1,k2⟩:=kH q g r hi;obtain⟨rfl,y⟩:=y;obtain⟨x,k3,k4⟩:=k2.get hv;have:=y ys k1;rw[k3]at this;cases this;exact⟨Gr.refl,r,k4⟩
theorem iB(lo:Int)(n:Nat):(cu lo n).length=n:=by unfold cu;simp
theorem om{lo:Int}{n:Nat}:Walks B (.fix (cu lo n)) (Rt lo n) ρ1 H1 where
 stop:=λg r hi hl=>by
  cases hi;rw[iB]at hl;exact hl
 go:=λg r hi hv=>by
  cases hi;have:=(aal.mp hv).1;rw[iB]at this;exact this
 yJ:=λ{ρ h H i xs v y H'} g r hi hv y'=>by
  cases hi;obtain⟨rfl,rfl⟩:=y';have hl:=(aal.mp hv).1;rw[iB]at hl;have e:(cu lo n)[i]?=some (.int (lo+i)):=by unfold cu;simp[hl]
  rw[e]at hv;cases hv;exact⟨Gr.refl,r,VR.int⟩
theorem fY:∀(i:Nat) (ds:List Val),(gF i ds).length=ds.length
 |_,[]=>rfl
 |i,d::r=>by simp[gF,fY (i+1) r]
theorem t6:∀(k:Nat) (ds:List Val) (i:Nat) (d:Val),ds[i]?=some d->(gF k ds)[i]?=some (.tup [.int ((k+i:Nat):Int),d])
 |_,[],_,_,h=>by simp at h
 |k,e::r,0,d,h=>by simp at h;subst h;simp[gF]
 | k,e::r,i+1,d,h=>by
  have:=t6 (k+1) r i d (by simpa using h);simp only[gF,List.getElem?_cons_succ];rw[this];have e1:k+1+i=k+(i+1):=by omega
  rw[e1]
theorem nL{i:Nat}(e:(gF 0 ds)[i]?=some v):∃d,ds[i]?=some d/\v=.tup [.int (i:Int),d]:=by
 have hl:=(aal.mp e).1;rw[fY]at hl;have e1:=t6 0 ds i ds[i] (aaz hl);rw[e]at e1;cases e1;exact⟨ds[i],aaz hl,by rw[Nat.zero_add]⟩
theorem wW{i:Nat}(r:HR B ρ h H)(k1:gU B.K H a ys)(k2:aB B.K ρ H xs ys)(hv:(gF 0 xs)[i]?=some v)(hy:(RX B.K a).yJ i H y H'):Gr ρ H ρ H'/\HR B ρ h H'/\VR B.K ρ H' v y:=by
 obtain⟨p,w,hn,rfl,rfl,hy⟩:=hy;obtain⟨d,e1,rfl⟩:=nL hv;obtain⟨x,k3,k4⟩:=k2.get e1;have:=hy ys k1;rw[k3]at this;cases this;exact⟨Gr.side hn,r.side hn,VR.tup (jx.of aD) (aB.cons VR.int (aB.cons (VR.up (Gr.side hn) _ _ k4) aB.nil))⟩
theorem wX(q:LL B.K H1 a xs)(e:aB B.K ρ1 H1 vs xs):Walks B (.fix (gF 0 vs)) (RX B.K a) ρ1 H1 where
 stop:=λg r hi hl=>by
  cases hi;rw[fY]at hl;exact⟨xs,(g.NL q).sq,by rw[<-e.length];exact hl⟩
 go:=λg r hi hv=>by
  cases hi;obtain⟨d,e1,_⟩:=nL hv;obtain⟨x,k1,_⟩:=e.get e1;exact⟨xs,x,(g.NL q).sq,k1⟩
 yJ:=λg r hi hv y=>by
  cases hi;exact wW r (g.NL q).sq (aB.jP g _ _ e) hv y
theorem wY{i:Nat}(q:ρ1[i]?=some a):Walks B (.enum i) (RX B.K a) ρ1 H1 where
 stop:=λg r hi hl=>by
  obtain⟨zs,e1,rfl⟩:=aaH.mp hi;obtain⟨ys,k1,k2⟩:=kH q g r e1;rw[fY]at hl;exact⟨ys,k1,by rw[<-k2.length];exact hl⟩
 go:=λg r hi hv=>by
  obtain⟨zs,e1,rfl⟩:=aaH.mp hi;obtain⟨ys,k1,k2⟩:=kH q g r e1;obtain⟨d,e2,_⟩:=nL hv;obtain⟨x,k3,_⟩:=k2.get e2;exact⟨ys,x,k1,k3⟩
 yJ:=λg r hi hv y=>by
  obtain⟨zs,e1,rfl⟩:=aaH.mp hi;obtain⟨ys,k1,k2⟩:=kH q g r e1;exact wW r k1 k2 hv y
end
section
variable {Φ:Fn} {Γ:rW} {k:Nat} {X:Cx} {cl:Nat->Addr} {EX:Nat->List V->Hp->Prop}
def QY(Φ:Fn)(ik:Ik)(it:lT)(env:Env):M Src:=bnd (bN Φ it env) λits=>bA (srcOf ik its)
def tI(Φ:Fn)(B:Bd)(EX:Nat->List V->Hp->Prop)(ik:Ik)(it:lT):TI:=λσ H R=>∃ρ env h,cy B.K ρ env σ H/\HR B ρ h H /\
 Post B EX ρ H (λsrc h' ρ' H'=>(∃xs,src.items h'=some xs)/\∀J,Walks B src J ρ' H'->R J H') (QY Φ ik it env h)
theorem LV(hs:kW Φ it)(c:Ctx Φ Γ k X cl EX)(h:AQ Γ ik it iter=true)(ht:ik=.enum\/ik=.zip->∃es kk pos,tg=.Tuple es kk pos):PI X tg iter (tI Φ (bd X cl) EX ik it)/\∀x,foldedSetIterable iter X.env x=pure x:=by
 cases it with
 |nil=>rw[AQ]at h;cases h
 |cons e es=>
  cases ik with
  |seq=>
   replace h:=E5 h;obtain⟨rfl,h⟩:=h;simp only[and_eq_true]at h;have q:=(hs.2.1 Γ k X cl EX iter c h.2).1;refine⟨((Iu q).or (M0 q)).imp λσ H R ⟨ρ,env,h,hE,r,p⟩=>?_,λx=>?_⟩
   ·simp only[QY,wV,bf,dm]at p
    have key:∀(Q:VK),(∀v h1 ρ1 x H1,aZ Φ e env h=.ok v h1->Gr ρ H ρ1 H1->HR (bd X cl) ρ1 h1 H1->VR X.K ρ1 H1 v x->Post (bd X cl) EX ρ1 H1 (λsrc h' ρ' H'=>(∃xs,src.items h'=some xs)/\∀J,Walks (bd X cl) src J ρ' H'->R J H') (bA (srcOf .seq [v]) h1)->Q x H1)->tV Φ (bd X cl) EX e σ H Q:=λQ kk=>
     ⟨ρ,env,h,hE,r,gm p λv h1 ρ1 H1 e1 g1 r1 p1 x q1=>kk v h1 ρ1 x H1 e1 g1 r1 q1 p1⟩
    cases ev:aZ Φ e env h with
    |ok v h1=>
     cases v with
     |tup vs=>refine .inr (key _ λv h1 ρ1 x H1 e1 g1 r1 q1 p1=>?_);rw[ev]at e1;cases e1;obtain⟨src,e2,w1,w2⟩:=cN r1 p1;cases e2;rw[VR]at q1;obtain⟨a,xs,rfl,k1,k2⟩:=q1;exact⟨a,rfl,⟨xs,k1⟩,w2 _ (C3 k1 k2)⟩
     |rl vs=>refine .inl (key _ λv h1 ρ1 x H1 e1 g1 r1 q1 p1=>?_);rw[ev]at e1;cases e1;obtain⟨src,e2,w1,w2⟩:=cN r1 p1;cases e2;rw[VR]at q1;obtain⟨a,xs,rfl,k1,k2⟩:=q1;exact⟨a,rfl,⟨xs,k1.sq⟩,w2 _ (Ff k1 k2)⟩
     |ref i=>refine .inl (key _ λv h1 ρ1 x H1 e1 g1 r1 q1 p1=>?_);rw[ev]at e1;cases e1;obtain⟨src,e2,⟨zs,w1⟩,w2⟩:=cN r1 p1;cases e2;have q0:=q1;rw[VR]at q1;obtain⟨a,rfl,k1⟩:=q1;obtain⟨b,ys,e3,k2,k3⟩:=fS r1 q0 (show aI h1 (.ref i)=some zs from w1);cases e3;exact⟨a,rfl,⟨ys,k2⟩,w2 _ (zG k1)⟩
     |_=>refine .inl (key _ λv h1 ρ1 x H1 e1 g1 r1 q1 p1=>?_);rw[ev]at e1;cases e1;obtain⟨src,e2,_⟩:=cN r1 p1;cases e2
    |exc _ _ _=>exact .inl (key _ λv h1 ρ1 x H1 e1=>by rw[ev]at e1;cases e1)
    |no=>exact .inl (key _ λv h1 ρ1 x H1 e1=>by rw[ev]at e1;cases e1)
   ·cases iter<;>first|rfl|(exact absurd h.1 aab)
  |range=>
   apply qD h;intro x xp q1 pos h;apply zB h;intro a args h;simp only[and_eq_true,beq_iff_eq]at h;obtain⟨⟨⟨⟨⟨h1,h2⟩,h3⟩,h4⟩,h5⟩,h6⟩:=h;subst h1;obtain⟨g1,g2,g3⟩:=c.gl h2;have hm:=c.blt _ (show ("range":Str)∈bltNames by decide);refine⟨?_,λx=>rfl⟩;have hA:=hs.1 Γ k X cl EX (a::args) c (by rw[aX.eq_def];simp[h3,h4,h5]);cases args with
   |nil=>
    cases es with
    |cons i fj=>rw[aX.eq_def]at h5;cases h5
    |nil=>
     refine(B8 g1 hm hA (au h3)).imp λσ H R aV=>?_;obtain⟨ρ,env,h,hE,r,p⟩:=aV;refine⟨ρ,env,h,hE,r,gm p λvs h1 ρ1 H1 e1 Xs r1 p1 xs q1=>?_⟩;obtain⟨src,e2,w1,w2⟩:=cN r1 p1
     match vs,e2 with
     |[.int n],e2=>
      change (if inR n=true then some (Src.fix (cu 0 n.toNat)) else none)=some src at e2;split at e2
      ·rename_i hn;cases e2;simp only[inR,and_eq_true,decide_eq_true_eq]at hn;obtain⟨x,rfl,hx⟩:=aB.one q1;rw[VR]at hx;subst hx;exact⟨n,rfl,hn.1,hn.2,w2 _ om⟩
      ·cases e2
     |[.int _,.int _],e2=>have:=qE (Γ:=Γ) (ls:=[a]) (by rw[aX.eq_def];simp[h3,h4,aX]) e1;simp at this
   |cons b args=>
    cases args with
    |cons _ _=>have:=aaC h6;simp only[length_cons]at this;omega
    |nil=>
     have hb:noStar b=true:=by
      cases es with
      |nil=>rw[aX]at h5;cases h5
      |cons i fj=>rw[aX.eq_def]at h5;dsimp only at h5;simp only[and_eq_true]at h5;exact h5.1.1
     refine(B9 g1 hm hA (by rw[au h3,au hb];rfl) (by rw[au hb];rfl)).imp λσ H R aV=>?_;obtain⟨ρ,env,h,hE,r,p⟩:=aV;refine⟨ρ,env,h,hE,r,gm p λvs h1 ρ1 H1 e1 Xs r1 p1 xs q1=>?_⟩;obtain⟨src,e2,w1,w2⟩:=cN r1 p1
     match vs,e2 with
     |[.int _],e2=>have:=qE (Γ:=Γ) (ls:=[a,b]) (by rw[aX.eq_def];simp[h3,h4,h5]) e1;simp at this
     |[.int lo,.int hi],e2=>
      change (if (inR lo&&inR hi)=true then some (Src.fix (cu lo (hi-lo).toNat)) else none)=some src at e2;split at e2
      ·rename_i hn;cases e2;simp only[inR,and_eq_true,decide_eq_true_eq]at hn;obtain⟨x,y,rfl,hx,hy⟩:=aB.two q1;rw[VR]at hx;rw[VR]at hy;subst hx;subst hy;exact⟨lo,hi,rfl,⟨hn.1.1,hn.1.2,hn.2.1,hn.2.2⟩,w2 _ om⟩
      ·cases e2
  |enum=>
   replace h:=E5 h;obtain⟨rfl,h⟩:=h;apply qD h;intro x xp q1 pos h;apply o9 h;intro a h;simp only[and_eq_true,beq_iff_eq]at h;obtain⟨⟨⟨h1,h2⟩,h3⟩,h4⟩:=h;subst h1;obtain⟨g1,g2,g3⟩:=c.gl h2;have hm:=c.blt _ (show ("enumerate":Str)∈bltNames by decide);obtain⟨tes,tk,tp,rfl⟩:=ht (.inl rfl);refine⟨?_,λx=>rfl⟩;have hA:=hs.1 Γ k X cl EX [a] c (by rw[aX.eq_def];simp[h3,h4,aX]);refine(Jb g1 hm hA (au h3)).imp λσ H R aV=>?_;obtain⟨ρ,env,h,hE,r,p⟩:=aV;refine⟨ρ,env,h,hE,r,gm p λvs h1 ρ1 H1 e1 Xs r1 p1 xs q1=>?_⟩;obtain⟨src,e2,⟨zs,w1⟩,w2⟩:=cN r1 p1
   match vs,e2 with
   |[.rl ws],e2=>cases e2;obtain⟨x,rfl,hx⟩:=aB.one q1;rw[VR]at hx;obtain⟨b,ys,rfl,k1,k2⟩:=hx;exact⟨b,rfl,⟨ys,k1.sq⟩,w2 _ (wX k1 k2)⟩
   |[.ref i],e2=>cases e2;obtain⟨x,rfl,hx⟩:=aB.one q1;obtain⟨us,w3,_⟩:=aaH.mp w1;obtain⟨b,ys,rfl,k2,k3⟩:=fS r1 hx w3;rw[VR]at hx;obtain⟨b',e3,k1⟩:=hx;cases e3;exact⟨b,rfl,⟨ys,k2⟩,w2 _ (wY k1)⟩
  |zip=>cases h
end
section
variable {Φ:Fn} {Γ:rW} {k:Nat} {X:Cx} {cl:Nat->Addr} {EX:Nat->List V->Hp->Prop}
def qF:List Nat->QN
 |[]=>Ro
 |i::is=>LA (sO i) (qF is)
def C4(K:Frag):AE->TG
 |.one i=>sO i
 |.tup is=>Rp K is.length (qF is)
def iC:List Nat->List V->L2.St->L2.St
 |i::is,v::vs,σ=>iC is vs (σ.set i (some v))
 |_,_,σ=>σ
theorem nM:∀{is:List Nat} {vs:List V} {σ:L2.St} {H:Hp} {Q:L2.St->Hp->Prop},vs.length=is.length->Q (iC is vs σ) H->qF is vs σ H Q
 |[],[],_,_,_,_,h=>⟨rfl,h⟩
 |i::is,v::vs,σ,H,Q,hl,h=>⟨v,vs,rfl,nM (by simpa using hl) h⟩
theorem t7(hnd:X.N.Nodup):∀{is:List Nat} {es:List Expr},es.length=is.length->(∀p∈is.zip es,∃x pos,p.2=.Name x pos/\X.N[p.1]?=some x/\X.env.scope.names.lookup x=some .local)->QO X es (qF is)
 |[],[],_,_=>Ah
 | i::is,e::es,hl,h=>by
  obtain⟨x,pos,rfl,h1,h2⟩:=h (i,e) (by simp);exact vM (l0 hnd h1 (.inl h2) (.inr h2)) (t7 hnd (by simpa using hl) λp hp=>h p (by simp[hp]))
theorem gH:∀{es:List Expr},(∀e∈es,∃x pos,e=.Name x pos)->(assignEach es env).length=es.length/\(assignEach es env).findIdx? (·.1)=none
 |[],_=>⟨rfl,rfl⟩
 | e::es,h=>by
  obtain⟨x,pos,rfl⟩:=h e aak;obtain⟨h1,h2⟩:=gH (env:=env) (es:=es) λe he=>h e (aaf _ he);have e1:assignEach (Expr.Name x pos::es) env=(false,assign (Expr.Name x pos) env)::assignEach es env:=rfl;rw[e1];refine⟨by simp[h1],?_⟩;rw[List.findIdx?_cons,h2];rfl
theorem Fg{i:Nat}(h:CZ Γ (.one i) tg=true):∃x p,tg=.Name x p:=by
 cases tg<;>first|exact⟨_,_,rfl⟩|exact absurd h aab
theorem wZ{is:List Nat}(h:CZ Γ (.tup is) tg=true):∃es k p,tg=.Tuple es k p:=by
 cases tg<;>first|exact⟨_,_,_,rfl⟩|exact absurd h aab
theorem OU(c:Ctx Φ Γ k X cl EX)(hnd:X.N.Nodup)(h:CZ Γ pat tg=true):PG X tg (C4 X.K pat):=by
 cases pat with
 |one i=>obtain⟨x,xp,rfl⟩:=Fg h;simp only[CZ,and_eq_true,beq_iff_eq]at h;obtain⟨h1,h2⟩:=h;exact l0 hnd (by rw[c.N];exact h1) (.inl (by rw[c.sc];exact h2)) (.inr (by rw[c.sc];exact h2))
 |tup is=>
  obtain⟨es,kk,pos,rfl⟩:=wZ h
  ·
   simp only[CZ,and_eq_true,beq_iff_eq,all_eq_true]at h;obtain⟨h1,h2⟩:=h;have names:∀p∈is.zip es,∃x pos,p.2=.Name x pos/\X.N[p.1]?=some x/\X.env.scope.names.lookup x=some .local:=λp hp=>by
    have q:=h2 p hp;cases ep:p.2<;>rw[ep]at q<;>simp at q;rename_i x pos';exact⟨x,pos',rfl,by rw[c.N];exact q.1,by rw[c.sc];exact q.2⟩
   have all:∀e∈es,∃x pos,e=.Name x pos:=λe he=>by
    obtain⟨n,hn,rfl⟩:=getElem_of_mem he;have hm:(is[n]'(by omega),es[n])∈is.zip es:=List.mem_iff_getElem?.mpr ⟨n,by rw[List.getElem?_zip_eq_some];simp[hn]⟩;obtain⟨x,pos,q,_⟩:=names _ hm;exact⟨x,pos,q⟩
   obtain⟨l1,l2⟩:=gH (env:=X.env) all;exact DM c.calm (t7 hnd h1 names) (by rw[l1,h1]) l2
def xg(Γ:rW):AE->Expr->Bool
 |.one i,.Name x _=>Γ.N[i]?==some x&&(Γ.sc.names.lookup x==some .local || Γ.sc.names.lookup x==some .cell)
 | .tup is,.Tuple es _ _=>es.length==is.length&&(is.zip es).all λp=>match p.2 with
  |.Name x _=>Γ.N[p.1]?==some x&&(Γ.sc.names.lookup x==some .local || Γ.sc.names.lookup x==some .cell)
  |_=>false
 |_,_=>false
theorem qG(hfn:∀x,X.fn x=true)(hnd:X.N.Nodup):∀{is:List Nat} {es:List Expr},es.length=is.length->(∀p∈is.zip es,∃x pos,p.2=.Name x pos/\X.N[p.1]?=some x/\Loc X.env.scope x)->QO X es (qF is)
 |[],[],_,_=>Ah
 | i::is,e::es,hl,h=>by
  obtain⟨x,pos,rfl,h1,h2⟩:=h (i,e) (by simp);exact vM (l0 hnd h1 h2 (.inl (hfn x))) (qG hfn hnd (by simpa using hl) λp hp=>h p (by simp[hp]))
theorem qH{i:Nat}(h:xg Γ (.one i) tg=true):∃x p,tg=.Name x p:=by
 cases tg<;>first|exact⟨_,_,rfl⟩|exact absurd h aab
theorem mH{is:List Nat}(h:xg Γ (.tup is) tg=true):∃es k p,tg=.Tuple es k p:=by
 cases tg<;>first|exact⟨_,_,_,rfl⟩|exact absurd h aab
theorem AX(c:Ctx Φ Γ k X cl EX)(hfn:∀x,X.fn x=true)(hnd:X.N.Nodup)(h:xg Γ pat tg=true):PG X tg (C4 X.K pat):=by
 have loc:∀x,(Γ.sc.names.lookup x==some .local || Γ.sc.names.lookup x==some .cell)=true->Loc X.env.scope x:=λx e=>by
  unfold L2.Loc;rw[c.sc];simpa using e
 cases pat with
 |one i=>obtain⟨x,pos,rfl⟩:=qH h;simp only[xg,and_eq_true,beq_iff_eq]at h;obtain⟨h1,h2⟩:=h;exact l0 hnd (by rw[c.N];exact h1) (loc _ h2) (.inl (hfn _))
 |tup is=>
  obtain⟨es,kk,pos,rfl⟩:=mH h
  ·
   simp only[xg,and_eq_true,beq_iff_eq,all_eq_true]at h;obtain⟨h1,h2⟩:=h;have names:∀p∈is.zip es,∃x pos,p.2=.Name x pos/\X.N[p.1]?=some x/\Loc X.env.scope x:=λp hp=>by
    have q:=h2 p hp;cases ep:p.2<;>rw[ep]at q<;>first|cases q|skip
    rename_i x pos';simp only[and_eq_true,beq_iff_eq]at q;exact⟨x,pos',rfl,by rw[c.N];exact q.1,loc _ q.2⟩
   have all:∀e∈es,∃x pos,e=.Name x pos:=λe he=>by
    obtain⟨n,hn,rfl⟩:=getElem_of_mem he;have hm:(is[n]'(by omega),es[n])∈is.zip es:=List.mem_iff_getElem?.mpr ⟨n,by rw[List.getElem?_zip_eq_some];simp[hn]⟩;obtain⟨x,pos,q,_⟩:=names _ hm;exact⟨x,pos,q⟩
   obtain⟨l1,l2⟩:=gH (env:=X.env) all;exact DM c.calm (qG hfn hnd h1 names) (by rw[l1,h1]) l2
theorem cy.set{K:Frag}{ρ:List Addr}{env:Env}{σ:L2.St}{H:Hp}{i:Nat}{v:Val}{x:V}(e:cy K ρ env σ H)(hl:env.length = σ.length)(q:VR K ρ H v x):cy K ρ (env.set i (some v)) (σ.set i (some x)) H:=λj w hj=>by
 by_cases hij:i=j
 ·subst hij
  have hi:i<env.length:=by have:=(aal.mp hj).1;simpa using this
  rw[aar hi]at hj;cases hj;exact⟨x,by rw[aar (by rw[<-hl];exact hi)],q⟩
 ·rw[aaj hij]at hj;rw[aaj hij];exact e j w hj
theorem lJ{K:Frag}{ρ:List Addr}{H:Hp}:∀{is:List Nat} {ds:List Val} {xs:List V} {env env':Env} {σ:L2.St},bindAll is ds env=some env'->aB K ρ H ds xs->cy K ρ env σ H->env.length = σ.length->cy K ρ env' (iC is xs σ) H/\env'.length=(iC is xs σ).length/\(iC is xs σ).length = σ.length/\xs.length=is.length
 | [],[],xs,env,env',σ,e,q,hE,hl=>by
  rw[aB]at q;subst q;simp only[bindAll]at e;cases e;exact⟨hE,hl,rfl,rfl⟩
 | i::is,d::ds,xs,env,env',σ,e,q,hE,hl=>by
  rw[aB]at q;obtain⟨x,r,rfl,q1,q2⟩:=q;simp only[bindAll]at e;obtain⟨a1,a2,a3,a4⟩:=lJ e q2 (hE.set hl q1) (by simp[hl]);exact⟨a1,a2,by rw[show iC (i::is) (x::r) σ = iC is r (σ.set i (some x)) from rfl,a3];simp,by simp[a4]⟩
 |[],_::_,_,_,_,_,e,_,_,_=>by simp[bindAll]at e
 |_::_,[],_,_,_,_,e,_,_,_=>by simp[bindAll]at e
theorem AY{K:Frag}{ρ:List Addr}{H:Hp}{pat:AE}{v:Val}{x:V}{env env':Env}{σ:L2.St}{Q:L2.St->Hp->Prop}(e:gZ pat v env=some env')(q:VR K ρ H v x)(hE:cy K ρ env σ H)(hl:env.length = σ.length)
  (kk:∀σ',cy K ρ env' σ' H->env'.length = σ'.length -> σ'.length = σ.length->Q σ' H):C4 K pat x σ H Q:=by
 cases pat with
 |one i=>simp only[gZ]at e;cases e;exact kk _ (hE.set hl q) (by simp[hl]) (by simp)
 |tup is=>
  cases v<;>simp only[gZ]at e<;>first|cases e|skip
  rw[VR]at q;obtain⟨a,xs,rfl,q1,q2⟩:=q;obtain⟨a1,a2,a3,a4⟩:=lJ e q2 hE hl;exact⟨a,xs,rfl,q1,a4,nM a4 (kk _ a1 a2 a3)⟩
theorem gp{α β:Type}{W:β -> Hs->List Addr->Hp->Prop}{W':α -> Hs->List Addr->Hp->Prop}{m:M α}{f:α -> M β}(g:Gr ρ H ρ' H')(p:Post B EX ρ H W (bnd m f h))
  (kk:∀v h1 ρ2 H2,m h=.ok v h1->Post B EX ρ H W (f v h1)->Gr ρ' H' ρ2 H2->HR B ρ2 h1 H2->W' v h1 ρ2 H2):Post B EX ρ' H' W' (m h):=by
 unfold bnd at p;cases e:m h with
 |ok v h1=>rw[e]at p;exact λρ2 H2 g2 r2=>kk v h1 ρ2 H2 e p g2 r2
 |exc c vs h1=>rw[e]at p;exact λρ2 H2 xs g2 r2 q=>p ρ2 H2 xs (g.trans g2) r2 q
 |no=>rw[e]at p;exact p
theorem HR.adopt(r:HR B ρ h H)(hD:D ∉ ρ)(q:OR B (ρ ++ [D]) H D u):HR B (ρ ++ [D]) (h++[u]) H where
 len:=by simp[r.len]
 nd:=by rw[aaY];refine⟨r.nd,by simp,λa ha b hb=>?_⟩;rw[aaq.mp hb];rintro rfl;exact hD ha
 ob i v a q1 q2:=by
  by_cases hi:i<h.length
  ·rw[aax hi]at q1;rw[aax (by rw[r.len];exact hi)]at q2;exact OR.jP ⟨aa0 _ _,λ_ _ e _=>e⟩ rfl (r.ob i v a q1 q2)
  ·rw[aaL (by omega)]at q1
   rw[aaL (by rw[r.len];omega)]at q2;have hi0:i-h.length=0:=by have:=(aal.mp q1).1;simp at this;omega
   rw[hi0]at q1;rw[r.len,hi0]at q2;simp at q1 q2;subst q1;subst q2;exact q
theorem Gr.over(g:Gr ρ H ρ' H')(hD:H D=none):Gr ρ H ρ' (upd H' D o) where
 pre:=g.pre
 keep a u e n:=by rw[ao (aF e hD)];exact g.keep a u e n
 firm a u e n:=by rw[ao (aF e hD)];exact g.firm a u e n
 fresh:=g.fresh
theorem Gr.adopt(g:Gr ρ H ρ' H')(hD:H D=none):Gr ρ H (ρ'++[D]) H' where
 pre:=g.pre.trans (aa0 _ _)
 keep:=g.keep
 firm:=g.firm
 fresh a z n:=by
  rcases aaD.mp z with z|z
  ·exact g.fresh a z n
  ·rw[aaq.mp z];exact hD
theorem JT{K:Frag}{ρ:List Addr}{env:Env}{σ:L2.St}{H:Hp}{js:List (Option Nat)}(e:cy K ρ env σ H):cy K ρ (jN js env) (iX js σ) H:=λi v q=>by
 unfold jN at q;rw[aaI]at q;cases hj:js[i]? with
 |none=>rw[hj]at q;cases q
 |some o=>
  rw[hj]at q;simp only[map_some]at q;cases o with
  |none=>cases q
  |some j=>
   dsimp only at q;cases ej:env[j]? with
   |none=>rw[ej]at q;cases q
   |some w=>
    cases w with
    |none=>rw[ej]at q;cases q
    |some d=>rw[ej]at q;cases q;obtain⟨x,q1,q2⟩:=e j _ ej;refine⟨x,?_,q2⟩;unfold iX;rw[aaI,hj];simp only[map_some];rw[q1]
theorem Fi{K:Frag}{ρ:List Addr}{env:Env}{σ σ':L2.St}{H:Hp}{js:List (Option Nat)}{pat:AE}(hp:(wR pat).all (λi=>js[i]?==some none)=true)(e:cy K ρ (jN js env) σ H)(hs:∀i,i∉wR pat -> σ'[i]? = σ[i]?):cy K ρ (jN js env) σ' H:=λi v q=>by
 have hi:i∉wR pat:=λz=>by
  have h1:=all_eq_true.mp hp i z;have h2:js[i]?=some none:=eq_of_beq h1;unfold jN at q;rw[aaI,h2]at q;cases q
 obtain⟨x,q1,q2⟩:=e i v q;exact⟨x,(hs i hi).trans q1,q2⟩
theorem qI:∀{is:List Nat} {xs:List V} {σ:L2.St} {i:Nat},i∉is->(iC is xs σ)[i]? = σ[i]?
 |[],xs,σ,i,_=>by cases xs<;>rfl
 |j::is,[],σ,i,_=>rfl
 | j::is,x::xs,σ,i,h=>by
  rw[show iC (j::is) (x::xs) σ = iC is xs (σ.set j (some x)) from rfl,qI λz=>h (aaf _ z),aaj λz=>h (by rw[z];exact aak)]
theorem Fj{K:Frag}{ρ:List Addr}{H:Hp}{pat:AE}{v:Val}{x:V}{env env':Env}{σ:L2.St}{Q:L2.St->Hp->Prop}(e:gZ pat v env=some env')(q:VR K ρ H v x)(hE:cy K ρ env σ H)(hl:env.length = σ.length)
  (kk:∀σ',cy K ρ env' σ' H -> σ'.length = σ.length->(∀i,i∉wR pat -> σ'[i]? = σ[i]?)->Q σ' H):C4 K pat x σ H Q:=by
 cases pat with
 |one i=>simp only[gZ]at e;cases e;exact kk _ (hE.set hl q) (by simp) λj hj=>aaj λz=>hj (by rw[z];exact aaq.mpr rfl)
 |tup is=>
  cases v<;>simp only[gZ]at e<;>first|cases e|skip
  rw[VR]at q;obtain⟨a,xs,rfl,q1,q2⟩:=q;obtain⟨a1,a2,a3,a4⟩:=lJ e q2 hE hl;exact⟨a,xs,rfl,q1,a4,nM a4 (kk _ a1 a3 λj hj=>qI hj)⟩
theorem qJ(hs:kW Φ it)(hc:cg Φ t)(he:cg Φ elt)(c:Ctx Φ Γ k X cl EX)(h:bC Γ (.comp N' js pat ik it t elt) e=true) :
  ∃e' tg iter ifs scope pos wi g tt te,e=.ListComp e' [⟨tg,iter,ifs,0⟩] scope pos/\kD X.N X.env.scope scope N' js=true/\PI X tg iter wi/\(∀cls C s H fp,PG (bT X scope N' cls C s H fp) tg g)/\(∀cls C s H fp,IW (bT X scope N' cls C s H fp) ifs tt) /\
   (∀cls C s H fp,PE (bT X scope N' cls C s H fp) e' te)/\(∀x,foldedSetIterable iter X.env x=pure x)/\∀σ H Q,tV Φ (bd X cl) EX (.comp N' js pat ik it t elt) σ H Q->D7 wi js g tt te σ H Q:=by
 apply JB h;intro e' q1 scope pos h;apply o9 h;intro q2 h;apply N9 h;intro tg iter ifs q3 h;apply AN h;intro h;simp only[and_eq_true]at h;obtain⟨⟨⟨⟨⟨⟨⟨h1,h2⟩,h3⟩,h4⟩,h5⟩,h6⟩,h7⟩,h8⟩:=h;have hnd:N'.Nodup:=aaC h3;have hen:ik=.enum\/ik=.zip->∃es kk pos,tg=.Tuple es kk pos:=by
  intro hz;cases pat with
  |one i=>rcases hz with rfl|rfl<;>cases h6
  |tup is=>exact wZ h4
 obtain⟨hi,hf⟩:=LV hs c.no h2 hen
 let tt:TT:=if dj t=true then vY else tT Φ (bd X cl) NX t
 have Vs:∀cls C s H fp,IW (bT X scope N' cls C s H fp) ifs tt:=λcls C s H fp=>by
  have c':=c.LS scope N' cls C s H fp;cases ifs with
  |nil=>have:dj t=true:=h7;show IW _ [] (if dj t=true then vY else tT Φ (bd X cl) NX t);rw[aae this];exact IX
  |cons a r=>
   cases r with
   |cons _ _=>cases h7
   |nil=>simp only[and_eq_true,not_eq_true']at h7;show IW _ [a] (if dj t=true then vY else tT Φ (bd X cl) NX t);rw[aac (by rw[h7.1];exact aab)];exact IY (hc _ _ _ _ _ _ c' h7.2).2
 refine⟨e',tg,iter,ifs,scope,pos,_,C4 X.K pat,tt,tV Φ (bd X cl) NX elt,rfl,by rw[c.N,c.sc];exact h1,hi,λcls C s H fp=>OU (c.LS scope N' cls C s H fp) hnd h4,Vs,λcls C s H fp=>(he _ _ _ _ _ _ (c.LS scope N' cls C s H fp) h8).1,hf,λσ H Q ⟨ρ,env,h,hE,r,p⟩=>?_⟩
 ·skip
  simp only[aZ]at p;have p:=C2 p
  let f:Val->M (Option Val):=λd=>bnd (bA (gZ pat d (jN js env))) λenv'=>bnd (if dj t=true then ret true else bnd (aZ Φ t env') λv=>ask λh=>cR h v) λt=>
    if t=true then bnd (aZ Φ elt env') λe=>ret (some e) else ret none
  have p':Post (bd X cl) NX ρ H (WV X.K Q) (bnd (QY Φ ik it env) (λsrc=>bnd (ask λh=>src.items h) λxs=>aO (decide (xs.length<=100000)) (bnd (fJ src f xs.length 0 []) λys=>new (.lst ys))) h):=by unfold QY;rw[bf];exact p
  refine⟨ρ,env,h,hE,r,bP p' λsrc h1 ρ1 H1 g1 r1 p1=>?_⟩;obtain⟨xs,e1,p2⟩:=aK p1;obtain⟨e2,p3⟩:=aS p2;have e2:=aaC e2;refine⟨⟨xs,e1⟩,λJ wk D hD=>?_⟩;have hDl:(100000:Nat)<sizeLine:=by rw[sizeLine_eq];decide
  refine⟨λi m σ' H'=>∃ρ' h' acc ys,Gr ρ1 H1 ρ' H'/\HR (bd X cl) ρ' h' H'/\D ∉ ρ'/\H' D=some (.lst ys)/\aB X.K ρ' H' acc ys/\cy X.K ρ' (jN js env) σ' H' /\ σ'.length=js.length/\acc.length<=i/\i+m=xs.length /\
   Post (bd X cl) NX ρ1 H1 (WV X.K Q) (bnd (fJ src f m i acc) (λys=>new (.lst ys)) h'),⟨xs.length,ρ1,h1,[],[],Gr.side hD,r1.side hD,r1.out hD,aD,aB.nil,(JT (hE.up g1)).up (Gr.side hD),lq js σ,aam _,by omega,p3⟩,?_⟩
  rintro i m σ' H' ⟨ρ',h',acc,ys,w1,w2,w3,w4,w5,w6,w7,w8,w9,sE⟩;have fin:∀p:Post (bd X cl) NX ρ1 H1 (WV X.K Q) (new (.lst acc) h'),Q (.ref D) H':=λp=>by
   refine p (ρ'++[D]) H' (w1.adopt hD) (w2.adopt w3 ⟨ys,w4,aB.jP ⟨aa0 _ _,λ_ _ e _=>e⟩ _ _ w5⟩) _ (VR.ref (by rw[<-w2.len];simp))
  cases m with
  |zero=>
   simp only[fJ,bf]at sE;obtain⟨xs',k1,sE⟩:=aK sE;have OV:Post (bd X cl) NX ρ1 H1 (WV X.K Q) (bnd (aO (decide (xs'.length<=i)) (ret acc)) (λys=>new (.lst ys)) h'):=sE;unfold aO at OV
   by_cases hl:xs'.length<=i
   ·have:bnd (λh=>if decide (xs'.length<=i)=true then ret acc h else Out.no) (λys=>new (.lst ys)) h'=new (.lst acc) h':=by
     unfold bnd;dsimp only;rw[aae (decide_eq_true hl)];rfl
    rw[this] at OV;exact .inl ⟨wk.stop w1.w w2 k1 hl,fin OV⟩
   ·have:bnd (λh=>if decide (xs'.length<=i)=true then ret acc h else Out.no) (λys=>new (.lst ys)) h'=Out.no:=by
     unfold bnd;dsimp only;rw[aac (by rw[decide_eq_false hl];exact aab)]
    rw[this] at OV;exact OV.elim
  |succ m=>
   simp only[fJ,bf]at sE;obtain⟨xs',k1,sE⟩:=aK sE;cases hx:xs'[i]? with
   |none=>rw[hx]at sE;exact .inl ⟨wk.stop w1.w w2 k1 (List.getElem?_eq_none_iff.mp hx),fin sE⟩
   |some v=>
    rw[hx]at sE;dsimp only at sE;refine .inr ⟨wk.go w1.w w2 k1 hx,_,λDE Nt w=>⟨m,lt_succ_self _,w⟩,λy H2 hy=>?_⟩;obtain⟨z1,z2,z3⟩:=wk.yJ w1.w w2 k1 hx hy;simp only[bf]at sE;simp only[f,bf]at sE;obtain⟨env',k2,sE⟩:=b7 sE;refine Fj k2 z3 (w6.up z1) (by rw[w7];simp[jN]) λσ2 QZ hl2 hout=>?_;have LW:H2 D=some (.lst ys):=z1.keep _ _ w4 w3;have G2:Gr ρ1 H1 ρ' H2:=w1.trans z1;have body:∀(b:Bool) (h3:Hs) (ρ3:List Addr) (H3:Hp),Gr ρ' H2 ρ3 H3->HR (bd X cl) ρ3 h3 H3->Post (bd X cl) NX ρ1 H1 (WV X.K Q) (bnd (if b=true then bnd (aZ Φ elt env') λe=>ret (some e) else ret none) (λo=>bnd (fJ src f m (i+1) (match o with|some e=>acc++[e]|none=>acc)) λys=>new (.lst ys)) h3) ->
      (if b=true then tV Φ (bd X cl) NX elt σ2 H3 (λy H4=>∃ys,H4 D=some (.lst ys)/\ys.length<sizeLine/\(λσ' H'=>∃ρ' h' acc ys,Gr ρ1 H1 ρ' H'/\HR (bd X cl) ρ' h' H'/\D ∉ ρ'/\H' D=some (.lst ys)/\aB X.K ρ' H' acc ys/\cy X.K ρ' (jN js env) σ' H' /\ σ'.length=js.length/\acc.length<=i+1/\i+1+m=xs.length /\
       Post (bd X cl) NX ρ1 H1 (WV X.K Q) (bnd (fJ src f m (i+1) acc) (λys=>new (.lst ys)) h')) σ2 (upd H4 D (.lst (ys++[y]))))
      else (λσ' H'=>∃ρ' h' acc ys,Gr ρ1 H1 ρ' H'/\HR (bd X cl) ρ' h' H'/\D ∉ ρ'/\H' D=some (.lst ys)/\aB X.K ρ' H' acc ys/\cy X.K ρ' (jN js env) σ' H' /\ σ'.length=js.length/\acc.length<=i+1/\i+1+m=xs.length /\
       Post (bd X cl) NX ρ1 H1 (WV X.K Q) (bnd (fJ src f m (i+1) acc) (λys=>new (.lst ys)) h')) σ2 H3):=by
     intro b h3 ρ3 H3 g3 r3 p5;have Wg:D ∉ ρ3:=λz=>by have:=g3.fresh D z w3;rw[LW]at this;cases this
     have Wh:H3 D=some (.lst ys):=g3.keep _ _ LW w3;have E3:cy X.K ρ3 (jN js env) σ2 H3:=(Fi h5 (w6.up z1) hout).up g3;cases b with
     |true=>
      rw[aae rfl]at p5 |-;simp only[bf,dm]at p5;refine⟨ρ3,env',h3,QZ.up g3,r3,gp (G2.trans g3) p5 λv4 h4 ρ4 H4 _ p6 g4 r4 y4 q4=>?_⟩;have Xu:D ∉ ρ4:=λz=>by have:=g4.fresh D z Wg;rw[Wh]at this;cases this
      have Wi:H4 D=some (.lst ys):=g4.keep _ _ Wh Wg;have gw:Gw ρ4 H4 ρ4 (upd H4 D (.lst (ys++[y4]))):=Gw.other Wi rfl;have la:=w5.length;refine⟨ys,Wi,by omega,ρ4,h4,acc++[v4],ys++[y4],((G2.trans g3).trans g4).over hD,r4.other Xu Wi rfl,Xu,aD,aB.append (aB.jP gw _ _ (aB.up ((z1.trans g3).trans g4) _ _ w5)) (aB.jP gw _ _ (aB.cons q4 aB.nil)),(E3.up g4).jP gw,by rw[hl2,w7],by simp;omega,by omega,p6⟩
     |false=>rw[aac aab]at p5 |-;exact⟨ρ3,h3,acc,ys,G2.trans g3,r3,Wg,Wh,aB.up (z1.trans g3) _ _ w5,E3,by rw[hl2,w7],by omega,by omega,p5⟩
    show (if dj t=true then vY else tT Φ (bd X cl) NX t) σ2 H2 _
    by_cases hn:dj t=true
    ·rw[aae hn];rw[aae hn,dm]at sE;exact body true h' ρ' H2 Gr.refl z2 sE
    ·rw[aac hn];rw[aac hn]at sE;exact⟨ρ',env',h',QZ,z2,gp G2 sE λb h3 ρ3 H3 _ p5 g3 r3=>body b h3 ρ3 H3 g3 r3 p5⟩
theorem JU(hs:kW Φ it)(hc:cg Φ t)(he:cg Φ elt):cg Φ (.comp N' js pat ik it t elt):=by
 intro Γ k X cl EX e c h;obtain⟨e',tg,iter,ifs,scope,pos,wi,g,tt,te,rfl,h1,h2,h3,h4,h5,h6,h7⟩:=qJ hs hc he c h;have q:=(I0 (pos:=pos) h1 c.calm h2 h3 h4 h5 h6).imp h7;exact⟨q,fk q λ_=>rfl⟩
theorem JV{k v:IE}(hk:cg Φ k)(hv:cg Φ v):cg Φ (.dct1 k v):=by
 intro Γ n X cl EX e c h;apply u5 h;intro q1 q2 pos h;apply o9 h;intro q3 h;apply pH h;intro a h;apply o9 h;intro b h;simp only[and_eq_true]at h;have q:PE X (.Dict [some a] [b] pos) (tV Φ (bd X cl) EX (.dct1 k v)):=by
  refine(Ar (qc (hk Γ n X cl EX a c h.1).1 (hv Γ n X cl EX b c h.2).1 Aq) rfl rfl (by simp) (by simp)).imp λσ H Q aV=>?_;obtain⟨ρ,env,h,hE,r,p⟩:=aV;intro D hD;have g0:Gr ρ H ρ (upd H D (.dK [])):=Gr.side hD;simp only[aZ]at p;refine⟨ρ,env,h,hE.up g0,r.side hD,gp g0 p λx h1 ρ1 H1 _ p1 g1 r1 y1 q1=>?_⟩;obtain⟨kk,e1,p1⟩:=b7 p1;refine⟨ρ1,env,h1,(hE.up g0).up g1,r1,gp (g0.trans g1) p1 λy h2 ρ2 H2 _ p2 g2 r2 y2 q2=>?_⟩;have SK:D ∉ ρ:=r.out hD;have LW:D ∉ ρ2:=λz=>by have:=(g1.trans g2).fresh D z SK;rw[aD]at this;cases this
  have e2:H2 D=some (.dK []):=(g1.trans g2).keep D _ aD SK;have ek:y1=kV kk:=by
   cases x<;>first|(cases e1;done)|skip
   ·cases e1;rw[VR]at q1;exact q1
   ·cases e1;rw[VR]at q1;exact q1
  refine⟨e2,[(kk,y2)],by rw[ek];rfl,by simp,?_⟩;have gw:Gw ρ2 H2 (ρ2++[D]) (upd H2 D (.dK (jI [] [(kk,y2)]))):=⟨aa0 _ _,(Gw.other (ρ:=ρ2) e2 rfl).firm⟩;exact p2 (ρ2++[D]) _ ((((g0.trans g1).trans g2).over hD).adopt hD) ((r2.other LW e2 rfl).adopt LW ⟨[(kk,y2)],aD,y2,[],rfl,VR.jP gw _ _ q2,rfl⟩) _ (pF r2)
 exact⟨q,fk q λ_=>rfl⟩
theorem AZ{K:Frag}{ρ:List Addr}{env:Env}{σ:L2.St}{H:Hp}{p:Nat}{kk:Key}(hE:cy K ρ env σ H)(e:CP env p=some kk):σ[p]?=some (some (kV kk)):=by
 unfold CP at e;split at e
 ·rename_i v ev
  obtain⟨y,q1,q2⟩:=hE p v ev;cases v<;>first|(cases e;done)|skip
  ·cases e;rw[VR]at q2;rw[q1,q2];rfl
  ·cases e;rw[VR]at q2;rw[q1,q2];rfl
 ·cases e
theorem JW{k l:Key}{x y:V}(h:k≠l):jI [] [(k,x),(l,y)]=[(k,x),(l,y)]:=by simp[jI,putK,h]
theorem JX{p q:Nat}(hd:cg Φ d)(hw:cg Φ w):cg Φ (.dflt N' js p q d w):=by
 intro Γ n X cl EX e c h;apply u5 h;intro q1 q2 pos h;apply N7 h;intro q3 q4 h;apply pH h;intro a h;apply pH h;intro b h;apply N7 h;intro va vb h;simp only[and_eq_true]at h;obtain⟨⟨⟨h1,h2⟩,h3⟩,h4⟩:=h;have nm:∀{i:Nat} {a:Expr},lA (λx _=>Γ.N[i]?==some x&&CY Γ.sc x) a=true->PE X a (B5 i):=λ{i a} h=>by
  apply pG h;intro x px h;simp only[and_eq_true,beq_iff_eq]at h;obtain⟨v1,v2,v3⟩:=c.vis h.2;exact jF (by rw[c.N];exact h.1) v1 v2 v3
 have q:PE X (.Dict [some a,some b] [va,vb] pos) (tV Φ (bd X cl) EX (.dflt N' js p q d w)):=by
  refine(Ar (qc (nm h1) (hd Γ n X cl EX va c h3).1 (qc (nm h2) (hw Γ n X cl EX vb c h4).1 Aq)) rfl rfl (by simp) (by simp)).imp λσ H Q aV=>?_;obtain⟨ρ,env,h,hE,r,p⟩:=aV;intro D hD;have g0:Gr ρ H ρ (upd H D (.dK [])):=Gr.side hD;simp only[aZ]at p;obtain⟨kp,e1,p⟩:=b7 p;refine⟨_,AZ hE e1,?_⟩;refine⟨ρ,env,h,hE.up g0,r.side hD,gp g0 p λx h1 ρ1 H1 _ p1 g1 r1 y1 q1=>?_⟩;obtain⟨kq,e3,p1⟩:=b7 p1;refine⟨_,AZ hE e3,?_⟩;refine⟨ρ1,env,h1,(hE.up g0).up g1,r1,gp (g0.trans g1) p1 λy h2 ρ2 H2 _ p2 g2 r2 y2 q2=>?_⟩;obtain⟨hne,p2⟩:=aS p2;have hne:kp≠kq:=aaC hne;have SK:D ∉ ρ:=r.out hD;have LW:D ∉ ρ2:=λz=>by have:=(g1.trans g2).fresh D z SK;rw[aD]at this;cases this
  have e2:H2 D=some (.dK []):=(g1.trans g2).keep D _ aD SK;refine⟨e2,[(kp,y1),(kq,y2)],rfl,by simp,?_⟩;rw[JW hne];have gw:Gw ρ2 H2 (ρ2++[D]) (upd H2 D (.dK [(kp,y1),(kq,y2)])):=⟨aa0 _ _,(Gw.other (ρ:=ρ2) e2 rfl).firm⟩;exact p2 (ρ2++[D]) _ ((((g0.trans g1).trans g2).over hD).adopt hD) ((r2.other LW e2 rfl).adopt LW ⟨[(kp,y1),(kq,y2)],aD,y1,[(kq,y2)],rfl,VR.jP gw _ _ (VR.up g2 _ _ q1),y2,[],rfl,VR.jP gw _ _ q2,rfl⟩) _ (pF r2)
 exact⟨q,fk q λ_=>rfl⟩
theorem OW(ha:cg Φ a):cg Φ (.isc a x bs):=ja λ_ _=>rfl
theorem lK:(∀ir,cg Φ ir)/\∀fj,kW Φ fj:=by
 have one:∀ir,cg Φ ir:=by
  intro ir;exact IE.rec (motive_1:=λir=>cg Φ ir) (motive_2:=λfj=>kW Φ fj) (λ_=>Oo) (λ_=>Oq) (λ_ _=>Ot) SG (λ_ _ _ a b=>Ou a b) (λ_ a=>Ov a) (λ_ _ _ a b=>Ow a b) (λ_ _ _ _ _ a b c=>Ox a b c)
   (λ_ _ a b=>Oz a b) (λ_ _ a b=>SH a b) (λ_ a=>OA a) (λ_ _ _ a b c=>OC a b c) (λ_ a=>OE a) (λ_ a=>OF a) (λ_ _ a b=>OG a b) (λ_ _ _ a b c=>OH a b c) (λ_ _ a=>JJ a) (λ_ _ a=>OS a)
   (λ_ _ _ a b=>OT a b) (λ_ _ _ _ _ _ _ a b c=>JU a b c) JH (λ_ a=>JP a) (λ_ _ _ a b c=>JQ a b c) (λ_ _ a b=>JV a b) (λ_ a=>Fc a) (λ_ _ _ a b c=>JR a b c) (λ_ a=>Fe a) (λ_ a=>Fd a) (λ_ _ _ a=>OJ a) (λ_ _ _ _ a b=>OL a b) (λ_ _ a b=>OI a b) (λ_ _ _ _ _ _ a b=>JX a b) (λ_ _ _ a=>OW a) E8 (λ_ _ a b=>AS a b) ir
 refine⟨one,λfj=>?_⟩
 induction fj using lT.rec (motive_1:=λ_=>True) with
 |nil=>exact E8
 |cons e es _ ih=>exact AS (one e) ih
 |_=>trivial
end
def qK:Expr->Bool
 |.ListComp ..=>false|.SetComp ..=>false|.DictComp ..=>false
 |_=>true
def SM:Expr->Bool
 |.Tuple ..=>false
 |_=>true
def Wj:Expr->Bool
 |.SetComp ..=>false|.DictComp ..=>false
 |_=>true
mutual
noncomputable def xh(Γ:rW):IS->Stmt->Bool
 |.expr e,s=>EW (λx _=>qK x&&bC Γ e x) s
 |.asg p e,s=>Oc (λq1 x _=>k1 (λtg=>xg Γ p tg&&bC Γ e x&&(match p with|.one _=>Wj x|.tup _=>qK x&&SM x)) q1) s
 |.aug i o e,s=>Wd (λq1 op v _=>lA (λx _=>Γ.N[i]?==some x&&(Γ.sc.names.lookup x==some .local || Γ.sc.names.lookup x==some .cell)&&Oj o op&&(match o with|.pow=>false|_=>true)&&bC Γ e v) q1) s
 |.kR o i v,s=>Oc (λq1 x _=>k1 (λq2=>Jz (λa b _=>pI b&&qK x&&bC Γ o a&&bC Γ i b&&bC Γ v x) q2) q1) s
 |.iff c a b,s=>Xp (λt x y _=>bC Γ c t&&aY Γ a x&&aY Γ b y) s
 |.for p k it body,s=>Sx (λtg iter x q1 _=>o8 q1 (xg Γ p tg&&AQ Γ k it iter&&(match k,p with|.enum,.one _=>false|.zip,.one _=>false|_,_=>true)&&aY Γ body x)) s
 |.whl _ c body,s=>Oe (λt x q1 _=>o8 q1 (bC Γ c t&&aY Γ body x)) s
 |.ret e,s=>Of (λq1 _=>wO (λx=>bC Γ e x) q1) s
 |.Jt,s=>Of (λq1 _=>ET q1 (true)) s
 |.brk,s=>Sy (λ_=>true) s
 |.cnt,s=>Sz (λ_=>true) s
 |.pass,s=>LQ (λ_=>true) s||EW (λq1 _=>zy (λq2 _ _=>Su (λ_=>true) q2) q1) s
 |.never,_=>true
 |.setF _ a _ _,s=>We (λj es=>JC (λx ls=>k1 (λl=>u6 Γ.sc x && Γ.fns[j]?==some (x,2001)&&noStar l&&aX Γ es [l]) ls||o8 ls (u6 Γ.sc x && Γ.fns[j]?==some (x,2000)&&aX Γ es [])) s) a
noncomputable def aY(Γ:rW):dF->List Stmt->Bool
 |.nil,ls=>ls.isEmpty
 | .cons s r,ls=>match ls with
  |l::ls=>xh Γ s l&&aY Γ r ls
  |[]=>false
end
structure Fo (Φ:Fn) (Γ:rW) (k:Nat) (X:Cx) (cl:Nat->Addr) (EX:Nat->List V->Hp->Prop):Prop extends Ctx Φ Γ k X cl EX where
 fn:∀x,X.fn x=true
 nd:X.N.Nodup
 kind:X.env.scope.kind=.function
 xe:PassesOwn (model X.prog X.w) X.A X.env X.xe
 rs:∀(j:Nat) (x g:Str) (arg:Expr) (p cp pos:Pos) (t:TA),Om X.prog X.w (bd X cl) X.mg X.base k x (cl (1000+j)) g->Gl X x->(x==("__debug__":Str))=false->PA X [arg] t->starEach [arg] X.env=(false,eval arg X.env)::starEach [] X.env ->
  PS X (.Raise (some (.Call (.Name x p) [arg] [] cp)) none pos) λ_ σ H=>t σ H λvs H1=>∃y,vs=[y]/\EX j [.str g,y] H1
 Xv:∀(j:Nat) (x:Str) (p cp pos:Pos),E6 (bd X cl) X.mg x (cl (1000+j))->Gl X x->(x==("__debug__":Str))=false->PS X (.Raise (some (.Call (.Name x p) [] [] cp)) none pos) λ_ σ H=>EX j [] H
def WF(K:Frag)(D:Ends):Fl->Hs->List Addr->Hp->Prop
 |.nx env',_,ρ',H'=>∀σ',cy K ρ' env' σ' H'->env'.length = σ'.length->D.nx σ' H'
 |.rt v,_,ρ',H'=>∀x,VR K ρ' H' v x->D.rt x H'
 |.bk env',_,ρ',H'=>∀σ',cy K ρ' env' σ' H'->env'.length = σ'.length->D.bk σ' H'
 |.ct env',_,ρ',H'=>∀σ',cy K ρ' env' σ' H'->env'.length = σ'.length->D.ct σ' H'
def tS(Φ:Fn)(B:Bd)(EX:Nat->List V->Hp->Prop)(ir:IS):TS:=λD σ H=>∃ρ env h,cy B.K ρ env σ H/\env.length = σ.length/\HR B ρ h H/\Post B EX ρ H (WF B.K D) (iA Φ ir env h)
def UZ(Φ:Fn)(B:Bd)(EX:Nat->List V->Hp->Prop)(ir:dF):TS:=λD σ H=>∃ρ env h,cy B.K ρ env σ H/\env.length = σ.length/\HR B ρ h H/\Post B EX ρ H (WF B.K D) (lH Φ ir env h)
theorem _root_.L2.PS.imp(h:PS X e t)(i:∀D σ H,t' D σ H->t D σ H):PS X e t':=λpins s σ H D I hw=>h pins s σ H D I (i D σ H hw)
theorem _root_.L2.uC.imp(h:uC X e t)(i:∀D σ H,t' D σ H->t D σ H):uC X e t':=λpins s σ H D I hw=>h pins s σ H D I (i D σ H hw)
section
variable {Φ:Fn} {Γ:rW} {k:Nat} {X:Cx} {cl:Nat->Addr} {EX:Nat->List V->Hp->Prop}
def u9(Φ:Fn)(ir:IS):Prop:=∀(Γ:rW) (k:Nat) (X:Cx) (cl:Nat->Addr) (EX:Nat->List V->Hp->Prop) (st:Stmt),Fo Φ Γ k X cl EX->xh Γ ir st=true->PS X st (tS Φ (bd X cl) EX ir)
def sG(Φ:Fn)(fj:dF):Prop:=∀(Γ:rW) (k:Nat) (X:Cx) (cl:Nat->Addr) (EX:Nat->List V->Hp->Prop) (st:List Stmt),Fo Φ Γ k X cl EX->aY Γ fj st=true->uC X st (UZ Φ (bd X cl) EX fj)
theorem iH{n:Nat}(h:qK e=true):swapsWith e t n env=pure false:=by
 cases e<;>first|rfl|(exact absurd h aab)
theorem JY(ir:IE)(c:Ctx Φ Γ k X cl EX)(h:bC Γ ir e=true):PE X e (tV Φ (bd X cl) EX ir):=(lK.1 ir Γ k X cl EX e c h).1
theorem Xw(ir:IE)(c:Ctx Φ Γ k X cl EX)(h:bC Γ ir e=true):PT X e (tT Φ (bd X cl) EX ir):=(lK.1 ir Γ k X cl EX e c h).2
theorem LX(hs:∀env h,iA Φ ir env h=.no):u9 Φ ir:=by
 intro Γ k X cl EX st c h;refine vL.imp λD σ H ⟨ρ,env,h,hE,hl,r,p⟩=>?_;rw[hs]at p;exact p.elim
theorem Fp:u9 Φ (.expr e):=by
 intro Γ k X cl EX st c h;apply AO h;intro x _ h;simp only[and_eq_true]at h;refine(Io (JY e c.toCtx h.2) (iH h.1)).imp λD σ H aV=>?_;obtain⟨ρ,env,h,hE,hl,r,p⟩:=aV;simp only[iA]at p;exact⟨ρ,env,h,hE,r,aH p λv h1 ρ1 x H1 g1 r1 q1 p1=>aj r1 p1 σ (hE.up g1) hl⟩
theorem LY:u9 Φ (.asg p e):=by
 intro Γ k X cl EX st c h;apply EY h;intro q1 x pos h;apply o9 h;intro tg h;simp only[and_eq_true]at h;obtain⟨⟨h1,h2⟩,h3⟩:=h;have hg:=AX c.toCtx c.fn c.nd h1;have he:=JY e c.toCtx h2;have fin:∀D σ H,tS Φ (bd X cl) EX (.asg p e) D σ H->Iq (tV Φ (bd X cl) EX e) (C4 X.K p) D σ H:=λD σ H ⟨ρ,env,h,hE,hl,r,pp⟩=>by
  simp only[iA]at pp;refine⟨ρ,env,h,hE,r,aH pp λv h1 ρ1 x H1 g1 r1 q1 p1=>?_⟩;obtain⟨env',e1,p2⟩:=b7 p1;exact AY e1 q1 (hE.up g1) hl λσ' Wk hl' _=>aj r1 p2 σ' Wk hl'
 have su:(assignEach [tg] X.env).map (·.2)=[assign tg X.env]:=by
  cases p with
  |one i=>obtain⟨t,tp,rfl⟩:=qH h1;rfl
  |tup is=>obtain⟨es,kk,tp,rfl⟩:=mH h1;rfl
 cases p with
 |tup is=>
  simp only[and_eq_true]at h3;refine(yI he hg ?_ ?_ su).imp fin
  ·show swapsWith x (some tg) _ _=_;exact iH h3.1
  ·obtain⟨es,kk,tp,rfl⟩:=mH h1;cases x<;>first|rfl|(exact absurd h3.2 aab)
 |one i=>
  obtain⟨t,tp,rfl⟩:=qH h1
  ·
   simp only[xg,and_eq_true,beq_iff_eq]at h1;have loc:L2.Loc X.env.scope t:=by unfold L2.Loc;rw[c.sc];simpa using h1.2
   have pl:qK x=true->PS X (.Assign [.Name t tp] x pos) (tS Φ (bd X cl) EX (.asg (.one i) e)):=λhx=>(DN c.nd (by rw[c.N];exact h1.1) loc he (iH hx) (.inl (c.fn t))).imp fin;cases x with
   |ListComp e' gens scope p2=>
    cases hb:(X.env.kindOf t==some .local&&tp.line==p2.line && !(scope.names.any λ(n,k)=>n==t&&(k==.local||k==.cell))) with
    |false=>
     refine(DN c.nd (by rw[c.N];exact h1.1) loc he ?_ (.inl (c.fn t))).imp fin;have bk:(X.env.blockKind==.function)=true:=by unfold Env.blockKind;rw[c.kind];rfl
     show (pure (X.env.blockKind==.function&&X.env.kindOf t==some .local&&tp.line==p2.line && !(scope.names.any λ(n,k)=>n==t&&(k==.local||k==.cell))):Sem Bool)=pure false;rw[bk,Bool.true_and,hb]
    |true=>
     have bk:(X.env.blockKind==.function)=true:=by unfold Env.blockKind;rw[c.kind];rfl
     have hsw:swapsWith (.ListComp e' gens scope p2) (some (.Name t tp)) pos.line X.env=pure true:=by show (pure (X.env.blockKind==.function&&X.env.kindOf t==some .local&&tp.line==p2.line && !(scope.names.any λ(n,k)=>n==t&&(k==.local||k==.cell))):Sem Bool)=pure true;rw[bk,Bool.true_and,hb]
     cases e with
     |comp N' js pat ik it SN elt=>obtain⟨e2,tg2,iter,ifs,Wl,pos2,wi,g,tt,te,q0,q1,q2,q3,q4,q5,q6,q7⟩:=qJ (lK.2 it) (lK.1 SN) (lK.1 elt) c.toCtx h2;cases q0;refine(Ja c.nd (by rw[c.N];exact h1.1) loc q1 c.calm q2 q3 q4 q5 hsw (.inl (c.fn t)) q6).imp λD σ H hh=>?_;exact q7 σ H _ (fin D σ H hh)
     |_=>first|exact absurd h2 aab|(rw[bC.eq_def]at h2;cases h2)
   |SetComp _ _ _ _=>exact absurd h3 aab
   |DictComp _ _ _ _ _=>exact absurd h3 aab
   |_=>exact pl rfl
theorem LZ{i:Nat}:u9 Φ (.aug i o e):=LX λ_ _=>rfl
def SO(B:Bd)(EX:Nat->List V->Hp->Prop):MX:=λo i v H Q=>∃ρ h a b w,HR B ρ h H/\VR B.K ρ H a o/\VR B.K ρ H b i/\VR B.K ρ H w v/\Post B EX ρ H (λ_ _ _ H'=>Q H') (wH a b w h)
theorem OX(hu:X.A.units+64<cLine):MY X (SO (bd X cl) EX):=by
 intro pins s σ H o i v ov iv u Q I ro ri rv hh;obtain⟨ρ,h,a,b,w,r,ha,hb,hw,p⟩:=hh;cases a with
 |ref j=>
  simp only[wH]at p;obtain⟨ob,e1,p⟩:=aK p;have dict:∀kvs,ob=.dct kvs->Post (bd X cl) EX ρ H (λ_ _ _ H'=>Q H') (bnd (bA (keyOf b)) (λk=>aO (decide (kvs.length<sizeLine)) (put j (.dct (kU kvs k w)))) h)->wpAny (model X.prog X.w) X.A (setItem ov iv u) (λ_ s'=>∃H',L2.Inv X pins σ H' s'/\Q H') X.xe s:=by rintro kvs rfl p;obtain⟨kk,e2,p⟩:=b7 p;obtain⟨e3,p⟩:=aS p;have e3:=aaC e3;rw[VR]at ha;obtain⟨A,rfl,k1⟩:=ha;obtain⟨ks,k2,k3⟩:=r.ob j _ A e1 k1;cases ro;have ek:=NP hb e2;subst ek;refine Cm (by omega) I (IU.k (v:=v) k2 (by rw[<-k3.length];exact e3)) ri rv λs' I'=>⟨_,I',?_⟩;have g:Gr ρ H ρ (upd H A (.dK (putK ks kk v))):=Gr.put (aaF k1) k2 rfl;exact p ρ _ g (r.put k1 e1 (u:=.dct (kU kvs kk w)) ⟨_,aD,iF.put kk (VR.up g _ _ hw) (iF.up g _ _ k3)⟩)
  cases ob with
  |lst xs=>
   cases b<;>first|(exact p.elim)|skip
   rename_i n _;obtain⟨jj,e2,p⟩:=b7 p;obtain⟨A,ys,rfl,k1,k2,k3⟩:=kG r ha e1;rw[VR]at hb;subst hb;refine set_list pins s σ H _ _ v ov iv u Q I ro ri rv ⟨A,ys,n,jj,rfl,rfl,k2,by rw[<-k3.length];exact e2,?_⟩;have g:Gr ρ H ρ (upd H A (.lst (ys.set jj v))):=Gr.put (aaF k1) k2 rfl;exact p ρ _ g (r.put k1 e1 (u:=.lst (xs.set jj w)) ⟨_,aD,aB.set jj (aB.up g _ _ k3) (VR.up g _ _ hw)⟩)
  |dct kvs=>exact dict kvs rfl (by cases b<;>exact p)
  |ins c fs=>cases b<;>exact p.elim
 |_=>exact p.elim
theorem Fq:u9 Φ (.kR o i v):=by
 intro Γ k X cl EX st c h;apply EY h;intro q1 x pos h;apply o9 h;intro q2 h;apply zA h;intro a b sp h;simp only[and_eq_true]at h;obtain⟨⟨⟨⟨h1,h2⟩,h3⟩,h4⟩,h5⟩:=h;have ZD:PG X (.Subscript a b sp) (Rq (tV Φ (bd X cl) EX o) (tV Φ (bd X cl) EX i) (SO (bd X cl) EX)):=MZ (JY o c.toCtx h3) (JY i c.toCtx h4) (OX c.units) (by
  intro v;cases b<;>first|rfl|(exact absurd h1 aab))
 refine(yI (JY v c.toCtx h5) ZD (iH (t:=some (.Subscript a b sp)) (n:=pos.line) (env:=X.env) h2) (by cases x<;>rfl) rfl).imp λD σ H aV=>?_;obtain⟨ρ,env,h,hE,hl,r,p⟩:=aV;simp only[iA]at p;refine⟨ρ,env,h,hE,r,aH p λw h1 ρ1 x1 H1 g1 r1 q1 p1=>⟨ρ1,env,h1,hE.up g1,r1,aH p1 λw2 h2 ρ2 x2 H2 g2 r2 q2 p2=>⟨ρ2,env,h2,(hE.up g1).up g2,r2,aH p2 λw3 h3 ρ3 x3 H3 g3 r3 q3 p3=>?_⟩⟩⟩;refine⟨ρ3,h3,w2,w3,w,r3,VR.up g3 _ _ q2,q3,VR.up (g2.trans g3) _ _ q1,bP p3 λ_ h4 ρ4 H4 g4 r4 p4=>?_⟩;exact aj r4 p4 σ (((hE.up g1).up g2).up g3 |>.up g4) hl
theorem L3(ha:sG Φ a)(hb:sG Φ b):u9 Φ (.iff t a b):=by
 intro Γ k X cl EX st c h;apply Sv h;intro tt x y pos h;simp only[and_eq_true]at h;refine(Rn (Xw t c.toCtx h.1.1) (ha Γ k X cl EX x c h.1.2) (hb Γ k X cl EX y c h.2)).imp λD σ H aV=>?_;obtain⟨ρ,env,h,hE,hl,r,p⟩:=aV;simp only[iA]at p;refine⟨ρ,env,h,hE,r,nK p λv h1 p1=>?_⟩;obtain⟨s,e1,p2⟩:=aK p1;refine⟨s,e1,λρ1 H1 g1 r1=>?_⟩;have p2:=Post.up g1 p2;cases s with
 |true=>rw[aae rfl]at p2 |-;exact⟨ρ1,env,h1,hE.up g1,hl,r1,p2⟩
 |false=>rw[aac aab]at p2 |-;exact⟨ρ1,env,h1,hE.up g1,hl,r1,p2⟩
theorem L4(hb:sG Φ body):u9 Φ (.for p ik it body):=by
 intro Γ k X cl EX st c h;apply Od h;intro tg iter x q1 pos h;apply lI h;intro h;simp only[and_eq_true]at h;obtain⟨⟨⟨h1,h2⟩,h3⟩,h4⟩:=h;have hen:ik=.enum\/ik=.zip->∃es kk pos,tg=.Tuple es kk pos:=by
  intro hz;cases p with
  |one i=>rcases hz with rfl|rfl<;>cases h3
  |tup is=>exact mH h1
 obtain⟨hi,hf⟩:=LV (lK.2 it) c.toCtx h2 hen;refine(M1 c.xe c.calm hi (AX c.toCtx c.fn c.nd h1) (hb Γ k X cl EX x c h4) hf).imp λD σ H aV=>?_;obtain⟨ρ,env,h,hE,hl,r,pp⟩:=aV;simp only[iA]at pp;have p':Post (bd X cl) EX ρ H (WF X.K D) (bnd (QY Φ ik it env) (λsrc=>bnd (ask λh=>src.items h) λxs=>forM src (λx env=>bnd (bA (gZ p x env)) λenv'=>lH Φ body env') xs.length 0 env) h):=by unfold QY;rw[bf];exact pp
 refine⟨ρ,env,h,hE,r,bP p' λsrc h1 ρ1 H1 g1 r1 p1=>?_⟩;obtain⟨xs,e1,p2⟩:=aK p1;refine⟨⟨xs,e1⟩,λJ wk=>?_⟩;refine⟨λi m σ' H'=>∃ρ' env' h',Gr ρ1 H1 ρ' H'/\cy X.K ρ' env' σ' H'/\env'.length = σ'.length/\HR (bd X cl) ρ' h' H'/\Post (bd X cl) EX ρ' H' (WF X.K D) (forM src (λx env=>bnd (bA (gZ p x env)) λenv'=>lH Φ body env') m i env' h'),
  ⟨xs.length,ρ1,env,h1,Gr.refl,hE.up g1,hl,r1,p2⟩,?_⟩
 rintro i m σ' H' ⟨ρ',env',h',w1,w2,w3,w4,w5⟩;cases m with
 |zero=>simp only[forM]at w5;obtain⟨xs',k1,w5⟩:=aK w5;obtain⟨k2,w5⟩:=aS w5;exact .inl ⟨wk.stop w1.w w4 k1 (aaC k2),aj w4 w5 σ' w2 w3⟩
 |succ m=>
  simp only[forM]at w5;obtain⟨xs',k1,w5⟩:=aK w5;cases hx:xs'[i]? with
  |none=>rw[hx]at w5;exact .inl ⟨wk.stop w1.w w4 k1 (List.getElem?_eq_none_iff.mp hx),aj w4 w5 σ' w2 w3⟩
  |some v=>
   rw[hx]at w5;dsimp only at w5;refine .inr ⟨wk.go w1.w w4 k1 hx,_,λDE Nt w=>⟨m,lt_succ_self _,w⟩,λy H2 hy=>?_⟩;obtain⟨z1,z2,z3⟩:=wk.yJ w1.w w4 k1 hx hy;rw[bf]at w5;obtain⟨nN,k2,w5⟩:=b7 w5;refine AY k2 z3 (w2.up z1) w3 λσ2 QZ hl2 _=>⟨ρ',nN,h',QZ,hl2,z2,bP (Post.up z1 w5) λf h3 ρ3 H3 g3 r3 p3=>?_⟩;cases f with
   |nx JZ=>exact λσ3 C5 hl3=>⟨ρ3,JZ,h3,(w1.trans z1).trans g3,C5,hl3,r3,p3⟩
   |ct JZ=>exact λσ3 C5 hl3=>⟨ρ3,JZ,h3,(w1.trans z1).trans g3,C5,hl3,r3,p3⟩
   |bk JZ=>exact λσ3 C5 hl3=>aj r3 p3 σ3 C5 hl3
   |rt v=>exact(aj r3 p3:WF X.K D (.rt v) h3 ρ3 H3)
theorem L5{n:Nat}(hb:sG Φ body):u9 Φ (.whl n t body):=LX λ_ _=>rfl
theorem L6:u9 Φ (.ret e):=by
 intro Γ k X cl EX st c h;apply EZ h;intro q1 _ h;apply pH h;intro x h;refine(MV (JY e c.toCtx h)).imp λD σ H aV=>?_;obtain⟨ρ,env,h,hE,hl,r,p⟩:=aV;simp only[iA]at p;exact⟨ρ,env,h,hE,r,aH p λv h1 ρ1 x H1 g1 r1 q1 p1=>aj r1 p1 x q1⟩
theorem Ft:u9 Φ .Jt:=by
 intro Γ k X cl EX st c h;apply EZ h;intro q1 _ h;apply AM h;intro h;refine Ip.imp λD σ H aV=>?_;obtain⟨ρ,env,h,hE,hl,r,p⟩:=aV;simp only[iA]at p;exact aj r p _ VR.non
theorem L7:u9 Φ .brk:=by
 intro Γ k X cl EX st c h;apply Oh h;intro _ h;refine DL.imp λD σ H aV=>?_;obtain⟨ρ,env,h,hE,hl,r,p⟩:=aV;simp only[iA]at p;exact aj r p σ hE hl
theorem L8:u9 Φ .cnt:=by
 intro Γ k X cl EX st c h;apply Oi h;intro _ h;refine vK.imp λD σ H aV=>?_;obtain⟨ρ,env,h,hE,hl,r,p⟩:=aV;simp only[iA]at p;exact aj r p σ hE hl
theorem Fv:u9 Φ .pass:=by
 intro Γ k X cl EX st c h
 rcases Xo h with h|h
 ·apply JD h;intro _ h;refine Im.imp λD σ H aV=>?_;obtain⟨ρ,env,h,hE,hl,r,p⟩:=aV;simp only[iA]at p;exact aj r p σ hE hl
 ·apply AO h;intro q1 _ h;apply wN h;intro q2 _ _ h;apply Oa h;intro _ h;refine MU.imp λD σ H aV=>?_;obtain⟨ρ,env,h,hE,hl,r,p⟩:=aV;simp only[iA]at p;exact aj r p σ hE hl
theorem Ba:u9 Φ .never:=by
 intro Γ k X cl EX st c h;refine vL.imp λD σ H aV=>?_;obtain⟨ρ,env,h,hE,hl,r,p⟩:=aV;simp only[iA]at p;exact p.elim
theorem Fw{n:Nat}:u9 Φ (.setF n a x v):=by
 intro Γ k X cl EX st c h;revert h;change xh Γ (.setF n a x v) st=true->PS X st λD σ H=>∃ρ env h,cy X.K ρ env σ H/\env.length = σ.length/\HR (bd X cl) ρ h H/\Post (bd X cl) EX ρ H (WF X.K D) (iA Φ (.setF n a x v) env h);intro h;rw[xh.eq_def]at h;dsimp only at h;revert h;cases a<;>first|(intro h;exact(aab h).elim)|skip
 rename_i j es;intro h;apply Og (show JC (λx ls=>k1 (λl=>u6 Γ.sc x && Γ.fns[j]?==some (x,2001)&&noStar l&&aX Γ es [l]) ls||o8 ls (u6 Γ.sc x && Γ.fns[j]?==some (x,2000)&&aX Γ es [])) st=true from h);intro x p ls cp pos h
 rcases Xo h with h|h
 rotate_left
 ·apply lI h;intro h
  simp only[and_eq_true,beq_iff_eq]at h;obtain⟨⟨h1,h2⟩,h4⟩:=h;obtain⟨g1,g2,g3⟩:=c.gl h1
  rcases c.fns j x _ h2 with ⟨z,_⟩|⟨z,_⟩|⟨_,e0,R⟩
  ·omega
  ·omega
  refine(c.Xv j x p cp pos R g1 g2).imp λD σ H aV=>?_;obtain⟨ρ,env,h9,hE,hl,r,p⟩:=aV;cases es with
  |cons i fj=>rw[aX.eq_def]at h4;cases h4
  |nil=>simp only[iA,aZ,bN,bf,dm]at p;rw[e0]at p;exact(show Post (bd X cl) EX ρ H (WF X.K D) (.exc j [] h9) from p) ρ H [] Gr.refl r aB.nil
 apply o9 h;intro l h;simp only[and_eq_true,beq_iff_eq]at h;obtain⟨⟨⟨h1,h2⟩,h3⟩,h4⟩:=h;obtain⟨g1,g2,g3⟩:=c.gl h1
 rcases c.fns j x _ h2 with ⟨z,_⟩|⟨_,g,e0,R⟩|⟨z,_⟩
 ·omega
 rotate_left
 ·omega
 refine(c.rs j x g l p cp pos _ R g1 g2 ((lK.2 es).1 Γ k X cl EX _ c.toCtx h4) (au h3)).imp λD σ H aV=>?_;obtain⟨ρ,env,h,hE,hl,r,p⟩:=aV;simp only[iA,aZ,bf]at p;refine⟨ρ,env,h,hE,r,gm p λvs h1 ρ1 H1 e1 g1 r1 p1 xs q1=>?_⟩;rw[e0]at p1;have p2:Post (bd X cl) EX ρ1 H1 (WF X.K D) (bnd (zv j g vs) (λ_=>bA none) h1):=p1
 match vs,q1,p2 with
 |[.int i],q1,p2=>have ex:xs=[V.int i]:=(aB.ints (ns:=[i])).mp q1;exact⟨_,ex,p2 ρ1 H1 [.str g,.int i] Gr.refl r1 (aB.cons VR.str (aB.cons (by rw[VR]) aB.nil))⟩
 |[],_,p2=>exact p2.elim
 |[.bl _],_,p2=>exact p2.elim
 |[.str _],_,p2=>exact p2.elim
 |[.non],_,p2=>exact p2.elim
 |[.tup _],_,p2=>exact p2.elim
 |[.rl _],_,p2=>exact p2.elim
 |[.ref _],_,p2=>exact p2.elim
 |[.dc _ _],_,p2=>exact p2.elim
 |[.ob _ _ _],_,p2=>exact p2.elim
 |a::b::r,_,p2=>
  have e:bnd (zv j g (a::b::r)) (λ_=>bA (none:Option Fl)) h1=.no:=by cases a<;>rfl
  rw[e]at p2;exact p2.elim
theorem Fx:sG Φ .nil:=by
 intro Γ k X cl EX st c h;rw[aY]at h;cases st with
 |cons _ _=>cases h
 |nil=>refine Il.imp λD σ H aV=>?_;obtain⟨ρ,env,h,hE,hl,r,p⟩:=aV;simp only[lH]at p;exact aj r p σ hE hl
theorem Bb(h1:u9 Φ s)(h2:sG Φ ss):sG Φ (.cons s ss):=by
 intro Γ k X cl EX st c h;rw[aY.eq_def]at h;dsimp only at h;cases st with
 |nil=>cases h
 |cons l ls=>
  simp only[and_eq_true]at h;refine(lZ (h1 Γ k X cl EX l c h.1) (h2 Γ k X cl EX ls c h.2)).imp λD σ H aV=>?_;obtain⟨ρ,env,h,hE,hl,r,p⟩:=aV;simp only[lH]at p;refine⟨ρ,env,h,hE,hl,r,bP p λf h1 ρ1 H1 g1 r1 p1=>?_⟩;cases f with
  |nx env'=>exact λσ' Wk hl'=>⟨ρ1,env',h1,Wk,hl',r1,p1⟩
  |rt v=>exact(aj r1 p1:WF X.K D (.rt v) h1 ρ1 H1)
  |bk env'=>exact(aj r1 p1:WF X.K D (.bk env') h1 ρ1 H1)
  |ct env'=>exact(aj r1 p1:WF X.K D (.ct env') h1 ρ1 H1)
theorem xj:∀fj,sG Φ fj:=by
 intro fj;exact dF.rec (motive_1:=λs=>u9 Φ s) (motive_2:=λss=>sG Φ ss) (λ_=>Fp) (λ_ _=>LY) (λ_ _ _=>LZ) (λ_ _ _=>Fq) (λ_ _ _ a b=>L3 a b) (λ_ _ _ _ a=>L4 a) (λ_ _ _ a=>L5 a) (λ_=>L6) Ft L7 L8 Fv Ba (λ_ _ _ _=>Fw)
  Fx (λ_ _ a b=>Bb a b) fj
end
abbrev Row:=Str×Nat×(List Val->M Val)
def look(fs:List Row)(j:Nat):List Val->M Val:=match fs[j]? with
 |some r=>r.2.2
 |none=>λ_=>bA none
def bQ(P:Program)(w:World)(B:Bd)(mg:Str->Option Value)(base:Heap)(k:Nat)(fs:List Row):Prop:=∀(j:Nat) (r:Row),fs[j]?=some r->QX P w B mg base k j r.1 r.2.1 r.2.2
def aM(N P:List Str)(sc:Scope):Bool :=
 sc.kind==.function && !sc.isCoroutine && !sc.isGenerator&&decide N.Nodup&&N.take P.length==P&&(P.all λx=>sc.names.lookup x==some .local||sc.names.lookup x==some .cell)&&(sc.names.all λy=>y.2 != .free)
theorem qL(h:aM N P sc=true):l8 N P sc:=by
 unfold aM at h;simp only[and_eq_true,beq_iff_eq,not_eq_true',decide_eq_true_eq,all_eq_true,or_eq_true,bne_iff_ne]at h;obtain⟨⟨⟨⟨⟨⟨h1,h2⟩,h3⟩,h4⟩,h5⟩,h6⟩,h7⟩:=h;exact⟨h1,h2,h3,h4,h5,h6,h7⟩
structure Base (K:Frag) (cl:Nat->Addr) (mg:Str->Option Value) (cons:List (Str×Val)) (tb:Tb):Prop where
 blt:∀x∈bltNames,mg x=none
 cons:∀p∈cons,∃v u,mg p.1=some u/\RelV v u/\∀K ρ H,VR K ρ H p.2 v
 cls:∀c,c<tb.nc->W0 K (cl c)/\∀x∈tb.SA,DQ K (cl c) x
 E1:∀p∈tb.E1,Meth K (cl p.1) p.2.1 (cl (1000+p.2.2))
 E2:∀p∈tb.E2,∃C,mg p.1=some (.ref C)/\R6 K C p.2.1 (cl (1000+p.2.2))
 isc:∀p∈tb.isc,∃C,mg p.1=some (.ref C)/\∀c b,p.2[c]?=some b->Xk K (cl c)/\kitOne K (.ref (cl c)) (.ref C)=some b
section
variable {P:Program} {w:World} {K:Frag} {cl:Nat->Addr} {mg:Str->Option Value} {base:Heap} {k:Nat} {fs:List Row} {cons:List (Str×Val)} {tb:Tb}
theorem Bc(T:Base K cl mg cons tb)(A:bQ P w ⟨K,cl⟩ mg base k fs)(S:l8 N ps sc)(hr:dU (k+1) (A'.deeper (envOfC qual sc s.heap.objs.size f cdv))) :
  Fo (look fs) ⟨N,sc,fs.map (λr=>(r.1,r.2.1)),cons,tb⟩ k (ig (nj P w) P w K mg base N qual sc f cdv A' outer s H E) cl (nJ cl E):=by
 refine { N:=rfl,sc:=rfl,calm:=rfl,room:=hr,UY:=⟨E,Jo,λ_ _ _ z=>z⟩,fns:=λj x n e=>?_,cls:=T.cls,E1:=T.E1,E2:=T.E2,isc:=T.isc,cons:=T.cons,blt:=T.blt,fn:=λ_=>rfl,nd:=S.nd,kind:=S.kind,xe:=PassesOwn.leaving,rs:=λj x g arg p cp pos t R hg hd ha he=>?_,Xv:=λj x p cp pos R hg hd=>?_ }
 ·have e':(fs.map (λr=>(r.1,r.2.1)))[j]?=some (x,n):=e
  rw[aaI]at e';cases er:fs[j]? with
  |none=>rw[er]at e';cases e'
  |some r=>rw[er]at e';cases e';have:=A j r er;unfold look;rw[er];exact this
 ·obtain⟨hm,D,fI,cd,fd,ps,M,F,hb,hl,hn⟩:=R
  refine(Ew (g:=g) M F hr hb hl hn hg hm ha hd he).imp λD σ H q=>?_;have e:(λvs H1=>∃y,vs=[y]/\nJ cl E j [.str g,y] H1)=λ(vs:List V) H1=>∃y,vs=[y]/\∀dx,H1 dx=none->E (.ref (cl (1000+j))) (some dx) (upd H1 dx (.xd [(g,y)])):=by
   funext vs H1;refine propext ⟨λ⟨y,e1,z⟩=>?_,λ⟨y,e1,z⟩=>⟨y,e1,.inl ⟨g,y,rfl,z⟩⟩⟩
   rcases z with ⟨g',y',e2,z⟩|⟨e2,_⟩
   ·cases e2;exact⟨y,e1,z⟩
   ·cases e2
  rw[e]at q;exact q
 ·obtain⟨hm,D,M⟩:=R
  refine(CH M hg hm hd).imp λD' σ H q=>?_
  rcases q with ⟨g',y',e2,z⟩|⟨_,z⟩
  ·cases e2
  ·exact z
theorem Be{x qual:Str}{st:Stmt}{f:Addr}{fd:FuncData}{N ps:List Str}{body:dF}(T:Base K cl mg cons tb)(A:bQ P w ⟨K,cl⟩ mg base k fs)(F:HW K x qual st f fd)(hS:aM N ps (af st)=true)
  (hc:aY ⟨N,af st,fs.map (λr=>(r.1,r.2.1)),cons,tb⟩ body (aq st)=true):dW P w K mg base (nj P w) (k+2) f fd ps (zE ⟨K,cl⟩ ps.length (jA (look fs) N.length body)):=by
 have S:=qL hS;obtain⟨oc,od,kV,doc,pm,an,cdv,ct,osl,rfl,lk,hcd⟩:=F.ex;refine DV lk hcd S (λvs H Q E h=>?_) λA' outer s H vs Q E hr h=>?_
 ·obtain⟨ρ,h,ws,h1,_,h2,_⟩:=h;rw[<-h2.length,h1]
 ·obtain⟨ρ,h,ws,hl,r,hv,p⟩:=h
  have lv:=hv.length
  let X:Cx:=ig (nj P w) P w K mg base N qual (af st) f cdv A' outer s H E
  have c:Fo (look fs) ⟨N,af st,fs.map (λr=>(r.1,r.2.1)),cons,tb⟩ k X cl (nJ cl E):=Bc T A S hr;refine⟨_,xj body _ k X cl _ (aq st) c hc,ρ,ws.map some++replicate (N.length-ws.length) none,h,λi v e=>?_,?_,r,bP p λfl h1 ρ1 H1 g1 r1 p1=>?_⟩
  ·by_cases hi:i<ws.length
   ·rw[aax (by simpa using hi)]at e
    rw[aaI]at e;cases ei:ws[i]? with
    |none=>rw[ei]at e;cases e
    |some w'=>rw[ei]at e;cases e;obtain⟨y,q1,q2⟩:=hv.get ei;refine⟨y,?_,q2⟩;show (vs.map some++_)[i]?=_;rw[aax (by rw[aag,<-lv];exact hi),aaI,q1];rfl
   ·rw[aaL (by simp;omega)]at e;have:=aaF e;rw[List.mem_replicate]at this;exact absurd this.2 (by simp)
  ·show _=(vs.map some++_).length;simp[lv]
  ·cases fl with
   |nx env'=>exact λσ' _ _=>aj r1 p1 _ VR.non
   |rt v=>exact(aj r1 p1:WV K Q v h1 ρ1 H1)
   |bk env'=>exact p1.elim
   |ct env'=>exact p1.elim
theorem _root_.Hv.QX.mono{j:Nat}{n:Nat}(g:QX P w B mg base k j x n φ):QX P w B mg base (k+2) j x n φ:=by
 have le:k<=k+2:=Nat.le_add_right _ _
 rcases g with ⟨h,f,fd,ps,q1,q2,q3,q4,q5⟩|⟨h,g,e,m,D,fI,cd,fd,ps,q1,q2,q3⟩|g
 ·exact .inl ⟨h,f,fd,ps,q1,q2,q3,q4,q5.mono le⟩
 ·exact .inr (.inl ⟨h,g,e,m,D,fI,cd,fd,ps,q1,q2.mono le,q3⟩)
 ·exact .inr (.inr g)
theorem all_nil:bQ P w ⟨K,cl⟩ mg base k []:=λj r e=>by simp at e
theorem pJ{r0:Row}(A:bQ P w ⟨K,cl⟩ mg base k fs)(g:QX P w ⟨K,cl⟩ mg base (k+2) fs.length r0.1 r0.2.1 r0.2.2):bQ P w ⟨K,cl⟩ mg base (k+2) (fs++[r0]):=λj r e=>by
 by_cases hj:j<fs.length
 ·rw[aax hj]at e;exact(A j r e).mono
 ·rw[aaL (by omega)]at e
  have hj0:j-fs.length=0:=by have:=(aal.mp e).1;simp at this;omega
  rw[hj0]at e;simp at e;subst e;rw[show j=fs.length by omega];exact g
theorem Fy{x qual:Str}{st:Stmt}{f:Addr}{fd:FuncData}{N ps:List Str}{body:dF}(T:Base K cl mg cons tb)(A:bQ P w ⟨K,cl⟩ mg base k fs)(F:HW K x qual st f fd)(hm:mg x=some (.ref f))(hb:Binds K fd ps [])(Fz:ps.length<1000)(hS:aM N ps (af st)=true)
  (hc:aY ⟨N,af st,fs.map (λr=>(r.1,r.2.1)),cons,tb⟩ body (aq st)=true):bQ P w ⟨K,cl⟩ mg base (k+2) (fs++[(x,ps.length,jA (look fs) N.length body)]) :=
 pJ (r0:=(x,ps.length,jA (look fs) N.length body)) A (.inl ⟨Fz,f,fd,ps,rfl,hm,F.kp,hb,Be T A F hS hc⟩)
theorem J0(A:bQ P w ⟨K,cl⟩ mg base k fs)(R:Om P w ⟨K,cl⟩ mg base (k+2) x (cl (1000+fs.length)) g):bQ P w ⟨K,cl⟩ mg base (k+2) (fs++[(x,2001,zv fs.length g)]) :=
 pJ (r0:=(x,2001,zv fs.length g)) A (.inr (.inl ⟨rfl,g,rfl,R⟩))
theorem FA(A:bQ P w ⟨K,cl⟩ mg base k fs)(R:E6 ⟨K,cl⟩ mg x (cl (1000+fs.length))):bQ P w ⟨K,cl⟩ mg base (k+2) (fs++[(x,2000,wG fs.length)]) :=
 pJ (r0:=(x,2000,wG fs.length)) A (.inr (.inr ⟨rfl,rfl,R⟩))
theorem J1(F:dW P w K mg base (nj P w) k f fd ps sp):dW P w K mg base HV k f fd ps λvs H Q _=>sp vs H Q λ_ _ _=>False :=
 ⟨λvs H Q _ h=>F.len vs H Q _ h,λA outer s H args us vs Q E hr e0 hb r h=>codeAny_mono (F.run A outer s H args us vs Q _ hr e0 hb r h) λrr s' hq=>by
  cases rr with
  |ok fl=>cases fl<;>exact hq
  |error e=>obtain⟨_,_,_,_,_,_,_,_,_,_,_,_,_,z⟩:=hq;exact z.elim⟩
end
def jE(K:Frag)(x qual:Str)(st:Stmt)(f:Addr):Prop:=∃fd,HW K x qual st f fd
theorem jE.kp{K:Frag}{x qual:Str}{st:Stmt}{f:Addr}(F:jE K x qual st f):keepIn K (.ref f)=true:=F.elim λ_ F=>F.kp
section
variable {α:Type} {p:List α -> Prop}
theorem Ma:∀{us:List α},us.length=1->(∀a,p [a])->p us
 |[a],_,h=>h a
theorem ln2:∀{us:List α},us.length=2->(∀a b,p [a,b])->p us
 |[a,b],_,h=>h a b
theorem U0:∀{us:List α},us.length=3->(∀a b c,p [a,b,c])->p us
 |[a,b,c],_,h=>h a b c
theorem Xx:∀{us:List α},us.length=4->(∀a b c d,p [a,b,c,d])->p us
 |[a,b,c,d],_,h=>h a b c d
end
def ZE(x qual:Str)(st:Stmt)(ps:List Str):Prop:=∀(kV doc pm:Value) (an:Option Addr) (cdv ct:Value) (us:List Value),us.length=ps.length->bindArgs (fnOf x qual (mh st) (aq st) (af st) .none kV doc pm an cdv ct) ⟨us,[]⟩=pure (ps.zip us)
section
variable {P:Program} {w:World} {K:Frag} {cl:Nat->Addr} {mg:Str->Option Value} {base:Heap} {k:Nat} {fs:List Row} {cons:List (Str×Val)} {tb:Tb} {x i y qual:Str} {st:Stmt} {f:Addr} {N ps:List Str} {body:dF} (T:Base K cl mg cons tb) (A:bQ P w ⟨K,cl⟩ mg base k fs)
include T A
theorem bV(F:jE K x qual st f)(hm:mg x=some (.ref f))(hS:aM N ps (af st)=true)
  (hc:aY ⟨N,af st,fs.map (λr=>(r.1,r.2.1)),cons,tb⟩ body (aq st)=true) (Fz:ps.length<1000) (hb:ZE x qual st ps):bQ P w ⟨K,cl⟩ mg base (k+2) (fs++[(x,ps.length,jA (look fs) N.length body)]):=F.elim λ_ F=>Fy T A F hm (F.binds hb) Fz hS hc
end
theorem OY{K:Frag}{cl:Nat->Addr}{φ:List Val->M Val}{H:Hp}{a:Addr}{ns:List Int}(hO:D5 H)(hS:gU K H a (ns.map V.int))(h:∃h',φ [.rl (ns.map .int)] []=.ok (.bl true) h') :
  zE ⟨K,cl⟩ 1 φ [.ref a] H (λv _=>v=.bl true) λ_ _ _=>False:=by
 obtain⟨h',e⟩:=h;have sr:LL K H a (ns.map V.int):=by
  rcases hS with (z|z)|z
  ·rcases hO a with y|⟨o,xs,y⟩
   ·rw[y]at z;cases z
   ·rw[y]at z;cases z
  ·exact .inl z
  ·exact .inr (.inr z)
 refine⟨[],[],[.rl (ns.map .int)],rfl,⟨rfl,nodup_nil,λi o a e=>by simp at e⟩,aB.cons (by rw[VR];exact⟨a,_,rfl,sr,aB.ints.mpr rfl⟩) aB.nil,?_⟩;rw[e];intro ρ' H' g r x q;rw[VR]at q;exact q
def U1(K:Frag):Sp:=λvs H Q _=>∃(a:Addr) (ns:List Int),vs=[.ref a]/\D5 H/\gU K H a (ns.map V.int)/\ns.length<=63/\∀H',Q (.bl true) H'
theorem OZ{K:Frag}{cl:Nat->Addr}{φ:List Val->M Val}(hφ:∀ns:List Int,ns.length<=63->∃h',φ [.rl (ns.map .int)] []=.ok (.bl true) h')(vs:List V)(H:Hp)(Q:VK)(E:XK)(h:U1 K vs H Q E):zE ⟨K,cl⟩ 1 φ vs H Q λ_ _ _=>False:=by
 obtain⟨a,ns,rfl,hO,hS,hl,hq⟩:=h;obtain⟨ρ,h,vs,q1,q2,q3,q4⟩:=OY (cl:=cl) hO hS (hφ ns hl);refine⟨ρ,h,vs,q1,q2,q3,?_⟩;revert q4;cases φ vs h with
 |ok v h'=>exact λq4 ρ' H' g r x hx=>by rw[show x=_ from q4 ρ' H' g r x hx];exact hq H'
 |exc c ws h'=>exact λq4=>q4
 |no=>exact λq4=>q4
theorem walk{l:PySem.W.OpenLaw}{q:Program}{loose:List Str}{XP:(Str->Option Value)->Heap->Prop}{YP:World->Heap->Prop}{d:DefRec}{K:Params->Frag}{k:Nat}{x:Str}(hn:l.most=some 63)(hdf:d.params.defaults=[])(hr:dU k callerA)
  (hY:∀(w:World) (h:Heap),YP w h->(K w.params).In h)
  (F:∀(w:World) (mg:Str->Option Value) (fa:Addr) (h:Heap),(K w.params).In h->h.Ns mainGlobals mg->mg d.name=some (.ref fa) ->
   ∃fd:FuncData,(∀(s:Shared) (u:Value),BindsTo s fd ⟨[u],[]⟩ [(x,u)])/\∀base:Heap,(K w.params).In base->base.Ns mainGlobals mg->dW l.prog w (K w.params) mg base HV k fa fd [x] (U1 (K w.params))) :
  PySem.W.WalkO q loose XP YP l.row.toRowW d [] (λf vs=>PySem.call f vs) :=
 L2.IV (n:=63) (k:=k) (x:=x) (CX:=λ_=>HV) (sp:=λw=>U1 (K w.params)) hn (by decide) hdf hr hY F (λ_ _ a ns hl hO hS=>⟨a,ns,rfl,hO,hS,hl,λ_=>rfl⟩) λ_ _ _ _ _ z=>z
end Hv
end
section
namespace Hv
open PySem L2
inductive Pr (α:Type)
 |ok (a:α)|exc (c:Nat) (ds:List Val)|no
def pb{α β:Type}(m:Pr α)(f:α -> Pr β):Pr β:=match m with
 |.ok a=>f a
 |.exc c ds=>.exc c ds
 |.no=>.no
def pl{α:Type}(o:Option α):Pr α:=match o with
 |some a=>.ok a
 |none=>.no
def pg{α:Type}(c:Bool)(m:Pr α):Pr α:=if c=true then m else .no
inductive Mk
 |sh|nw|ow
def lM:Mk->Bool
 |.ow=>false
 |_=>true
def Q0:Mk->Bool
 |.nw=>true
 |_=>false
abbrev bx:=List (Option (Mk×Val))
abbrev FV:=Bool×Val
mutual
noncomputable def lU:Val->Bool
 |.rl _=>false
 |.dc _ _=>false
 |.ob _ _ _=>false
 |.ref _=>false
 |.tup vs=>dw vs
 |.non=>true
 |.bl _=>true
 |.int _=>true
 |.str _=>true
noncomputable def dw:List Val->Bool
 |[]=>true
 |v::vs=>lU v&&dw vs
end
def bJ(f:Bool)(d:Val):Mk:=if (f && !lU d)=true then .nw else .sh
def putD(ks:List Key)(ds:List Val)(k:Key)(d:Val):Val:=.dc ((kU (ks.zip ds) k d).map (·.1)) ((kU (ks.zip ds) k d).map (·.2))
def lN:LJ->Val->Val->Pr FV
 |.add,.int a,.int b=>.ok (true,.int (a+b))
 |.add,.str a,.str b=>pg (decide (a.length+b.length<=sizeLine)) (.ok (true,.str (a++b)))
 |.add,.tup a,.tup b=>pg (!a.isEmpty&&decide (a.length+b.length<=sizeLine)) (.ok (dw (a++b),.tup (a++b)))
 |.add,.rl a,.rl b=>pg (decide (a.length+b.length<=sizeLine)) (.ok (dw (a++b),.rl (a++b)))
 |.sub,.int a,.int b=>.ok (true,.int (a-b))
 |.mul,.int a,.int b=>pg (ly a b) (.ok (true,.int (a*b)))
 |.fdiv,.int a,.int b=>pg (kT b) (.ok (true,.int (a/b)))
 |.mod,.int a,.int b=>pg (decide (0<b)) (.ok (true,.int (a%b)))
 |.pow,.int a,.int b=>pg (decide (0<=b/\b<=1000000/\a.natAbs<2 ^ 64)) (.ok (true,.int (a ^ b.toNat)))
 |_,_,_=>.no
def C6(v:Val)(lo hi:Option Int):Pr FV:=match v with
 |.tup vs=>pg (!(decide (HT.dQ vs.length 0 lo=0)&&decide (HT.dQ vs.length vs.length hi=vs.length))) (.ok (dw (di vs lo hi),.tup (di vs lo hi)))
 |.rl vs=>.ok (dw (di vs lo hi),.rl (di vs lo hi))
 |_=>.no
def iI:Bl->List Val->Pr FV
 |.len,[v]=>pb (pl (mG [] v)) λn=>.ok (true,.int n)
 |.min,[.int a,.int b]=>.ok (true,.int (if b<a then b else a))
 |.max,[.int a,.int b]=>.ok (true,.int (if b>a then b else a))
 |.min,[v]=>pb (pl (cY [] v)) λxs=>pb (pl ((bw xs).bind uW)) λm=>.ok (true,m)
 |.max,[v]=>pb (pl (cY [] v)) λxs=>pb (pl ((bw xs).bind uX)) λm=>.ok (true,m)
 |.sorted,[.rl xs]=>pb (pl (fh xs)) λys=>.ok (true,.rl ys)
 |.list,[v]=>pb (pl (cY [] v)) λxs=>.ok (dw xs,.rl xs)
 |.int,[.bl b]=>.ok (true,.int (if b=true then 1 else 0))
 |.int,[.int i]=>.ok (true,.int i)
 |.isin T,[v]=>pb (pl (CN [] v)) λt=>pb (pl (EI T t)) λb=>.ok (true,.bl b)
 |_,_=>.no
def kX:Ik->List Val->Option (List Val)
 |.seq,[.tup vs]=>some vs
 |.seq,[.rl vs]=>some vs
 |.range,[.int n]=>if inR n then some (cu 0 n.toNat) else none
 |.range,[.int a,.int b]=>if inR a&&inR b then some (cu a (b-a).toNat) else none
 |.enum,[.rl vs]=>some (gF 0 vs)
 |_,_=>none
def FD(k:Ik)(ds:List Val):Option (List Val):=match k with
 |.zip=>none
 |k=>kX k ds
def cK:List Nat->List Val->bx->Option bx
 |[],[],env=>some env
 |i::is,d::ds,env=>cK is ds (env.set i (some (.sh,d)))
 |_,_,_=>none
def cO:AE->Val->bx->Option bx
 |.one i,d,env=>some (env.set i (some (.sh,d)))
 |.tup is,.tup ds,env=>cK is ds env
 |_,_,_=>none
def iJ(js:List (Option Nat))(env:bx):bx:=js.map λo=>match o with
 |none=>none
 | some j=>match env[j]? with
  |some (some d)=>some d
  |_=>none
def jy(f:Val->Pr (Option FV)):List Val->Pr (Bool×List Val)
 |[]=>.ok (true,[])
 |x::r=>pb (f x) λo=>pb (jy f r) λp=>.ok (match o with|some e=>(e.1&&p.1,e.2::p.2)|none=>p)
def qM:Val->Pr Bool
 |.bl b=>.ok b
 |_=>.no
def jb(env:bx):IE->Option FV
 | .var i=>match env[i]? with
  |some (some (_,d))=>some (lU d,d)
  |_=>none
 |_=>none
def isVar:IE->Bool
 |.var _=>true
 |_=>false
def FE{α:Type}:Pr α -> Pr α
 |.ok a=>.ok a
 |.exc _ _=>.no
 |.no=>.no
theorem FF{α:Type}{a:α}:FE (.ok a)=.ok a:=rfl
def Mb(c:Nat):List Val->Pr FV
 |[]=>.exc c []
 |_=>.no
def SQ(c:Nat)(g:Str):List Val->Pr FV
 |[.int i]=>.exc c [.str g,.int i]
 |_=>.no
def qN(env:bx)(p:Nat):Option Key:=match env[p]? with
 |some (some (m,d))=>if lM m=true then keyOf d else none
 |_=>none
mutual
noncomputable def bR(Ψ:Nat->List Val->Pr FV):IE->bx->Pr FV
 | .var i,env=>match env[i]? with
  |some (some (m,d))=>pg (lM m) (.ok (lU d,d))
  |_=>.no
 |.cst d,_=>.ok (lU d,d)
 |.con _ d,_=>.ok (lU d,d)
 |.no,_=>.no
 |.bin o a b,env=>pb (if isVar a=true then pl (jb env a) else bR Ψ a env) λx=>pb (if isVar b=true then pl (jb env b) else bR Ψ b env) λy=>lN o x.2 y.2
 |.neg _,_=>.no
 |.cmp o a b,env=>pb (if isVar a=true then pl (jb env a) else bR Ψ a env) λx=>pb (if isVar b=true then pl (jb env b) else bR Ψ b env) λy=>pb (pl (cop [] o x.2 y.2)) λt=>.ok (true,.bl t)
 |.chn _ _ _ _ _,_=>.no
 |.and a b,env=>pb (bR Ψ a env) λx=>pb (qM x.2) λt=>if t=true then pb (bR Ψ b env) λy=>pb (qM y.2) λu=>.ok (true,.bl u) else .ok (true,.bl false)
 |.or a b,env=>pb (bR Ψ a env) λx=>pb (qM x.2) λt=>if t=true then .ok (true,.bl true) else pb (bR Ψ b env) λy=>pb (qM y.2) λu=>.ok (true,.bl u)
 |.not a,env=>pb (bR Ψ a env) λx=>pb (qM x.2) λt=>.ok (true,.bl (!t))
 |.ite _ _ _,_=>.no
 |.tup es,env=>pb (vc Ψ es env) λp=>pg (decide (p.2.length<=sizeLine)) (.ok (p.1,.tup p.2))
 |.lst es,env=>pb (vc Ψ es env) λp=>pg (decide (p.2.length<=sizeLine)) (.ok (p.1,.rl p.2))
 |.idx a b,env=>pb (if isVar a=true then pl (jb env a) else bR Ψ a env) λx=>pb (bR Ψ b env) λy=>pb (pl (mF [] x.2 y.2)) λz=>.ok (lU z,z)
 |.slc a lo hi,env=>pb (if isVar a=true then pl (jb env a) else bR Ψ a env) λx=>pb (if dj lo=true then .ok none else pb (bR Ψ lo env) λv=>pb (pl (lz v.2)) λi=>.ok (some i)) λl=>
   pb (if dj hi=true then .ok none else pb (bR Ψ hi env) λv=>pb (pl (lz v.2)) λi=>.ok (some i)) λu=>C6 x.2 l u
 |.call j es,env=>pb (vc Ψ es env) λp=>Ψ j p.2
 |.blt b es,env=>pb (dZ Ψ es env) λds=>iI b ds
 | .met m a es,env=>match m with
  |.join=>.no
  |_=>.no
 | .comp _ js pat k it c elt,env=>FE (pb (dZ Ψ it env) λits=>pb (pl (FD k its)) λxs=>pg (decide (xs.length<=100000))
   (pb (jy (λd=>pb (pl (cO pat d (iJ js env))) λenv'=>pb (if dj c=true then .ok true else pb (bR Ψ c env') λv=>pl (cR [] v.2)) λt=>
    if t=true then pb (bR Ψ elt env') λe=>.ok (some e) else .ok none) xs) λp=>.ok (p.1,.rl p.2)))
 |.dct0,_=>.ok (true,.dc [] [])
 | .sset a,env=>pb (if isVar a=true then pl (jb env a) else bR Ψ a env) λx=>match x.2 with
  |.rl xs=>pb (pl (bw xs)) λns=>pg (decide (ns.length<64)) (.ok (true,.rl ((sortI (L2.iu [] ns)).map .int)))
  |_=>.no
 |.dget d k x,env=>pb (if isVar d=true then pl (jb env d) else bR Ψ d env) λo=>pb (pl (EH [] o.2)) λ_=>pb (bR Ψ k env) λi=>pb (pl (keyOf i.2)) λkk=>pb (bR Ψ x env) λz=>pb (pl (CL [] o.2 kk)) λr=>.ok (lU (r.getD z.2),r.getD z.2)
 |.dct1 k v,env=>pb (bR Ψ k env) λx=>pb (pl (keyOf x.2)) λkk=>pb (bR Ψ v env) λy=>.ok (y.1,.dc [kk] [y.2])
 |.lkeys _,_=>.no
 |.sdef ..,_=>.no
 |.svals _,_=>.no
 |.skeys _,_=>.no
 |.fld _ _ _,_=>.no
 |.mth _ _ _ _,_=>.no
 |.rev _ _,_=>.no
 |.dflt _ _ p q d w,env=>pb (pl (qN env p)) λkp=>pb (bR Ψ d env) λx=>pb (pl (qN env q)) λkq=>pb (bR Ψ w env) λy=>pg (decide (kp≠kq)) (.ok (false,.dc [kp,kq] [x.2,y.2]))
 |.isc _ _ _,_=>.no
noncomputable def vc(Ψ:Nat->List Val->Pr FV):lT->bx->Pr (Bool×List Val)
 |.nil,_=>.ok (true,[])
 |.cons e es,env=>pb (bR Ψ e env) λd=>pb (vc Ψ es env) λp=>.ok (d.1&&p.1,d.2::p.2)
noncomputable def dZ(Ψ:Nat->List Val->Pr FV):lT->bx->Pr (List Val)
 |.nil,_=>.ok []
 |.cons e es,env=>pb (if isVar e=true then pl (jb env e) else bR Ψ e env) λd=>pb (dZ Ψ es env) λp=>.ok (d.2::p)
end
def Mc(Ψ:Nat->List Val->Pr FV)(e:IE)(env:bx):Pr FV:=if isVar e=true then pl (jb env e) else bR Ψ e env
inductive Mf
 |nx (env:bx)|rt (p:FV)|bk (env:bx)|ct (env:bx)
mutual
noncomputable def qO:IS->List Nat
 |.expr (.met .append (.var i) _)=>[i]
 |.expr (.met .extend (.var i) _)=>[i]
 |.kR (.var i) _ _=>[i]
 |.iff _ a b=>iK a++iK b
 |.for _ _ _ b=>iK b
 |.whl _ _ b=>iK b
 |_=>[]
noncomputable def iK:dF->List Nat
 |.nil=>[]
 |.cons s r=>qO s++iK r
end
def stored:AE->List Nat
 |.one i=>[i]
 |.tup is=>is
mutual
noncomputable def nO:IS->List Nat
 |.expr (.met .append _ #[.var j])=>[j]
 |.asg p _=>stored p
 |.aug i _ _=>[i]
 |.iff _ a b=>lB a++lB b
 |.for p _ _ b=>stored p++lB b
 |.whl _ _ b=>lB b
 |_=>[]
noncomputable def lB:dF->List Nat
 |.nil=>[]
 |.cons s r=>nO s++lB r
end
def Wm:IE->Bool
 |.lst _=>true
 |.comp ..=>true
 |.slc ..=>true
 |.blt .list _=>true
 |.blt .sorted _=>true
 |.dct0=>true
 |.dct1 ..=>true
 |_=>false
def jC(body:Val->bx->Pr Mf):List Val->bx->Pr Mf
 |[],env=>.ok (.nx env)
 | x::r,env=>pb (body x env) λf=>match f with
  |.nx env'=>jC body r env'
  |.ct env'=>jC body r env'
  |.bk env'=>.ok (.nx env')
  |.rt p=>.ok (.rt p)
def Xy:Mk->Mk
 |.ow=>.sh
 |m=>m
def Xz:Option (Mk×Val)->Option (Mk×Val)
 |none=>none
 |some (m,d)=>some (Xy m,d)
def sM(env:bx):bx:=env.map Xz
def J2(env:bx):lT->Option (Val×Val)
 | .cons (.var i) #[.var j]=>match env[i]?,env[j]? with
  |some (some (.nw,d)),some (some (.nw,e))=>some (d,e)
  |_,_=>none
 |_=>none
def J6(Ψ:Nat->List Val->Pr FV)(es:lT)(env:bx):Pr FV:=match J2 env es with
 |some p=>.ok (true,.tup [p.1,p.2])
 |none=>bR Ψ (.tup es) (sM env)
def U3(Ψ:Nat->List Val->Pr FV)(e:IE)(env:bx):Pr FV:=match e with
 | .var i=>match env[i]? with
  | some (some (m,d))=>if lM m=true then .ok (lU d||Q0 m,d) else match d with
   |.rl ds=>.ok (dw ds,.rl ds)
   |.dc ks ds=>.ok (dw ds,.dc ks ds)
   |_=>.no
  |_=>.no
 |.call j es=>bR Ψ (.call j es) (sM env)
 |.tup es=>J6 Ψ es env
 |e=>bR Ψ e env
def t8(p:AE)(it:lT)(body:dF):Bool:=match it with
 |.cons (.var i) .nil=>!(iK body).contains i && !(lB body).contains i && !(stored p).contains i
 |_=>true
def FG(env:bx)(i:Nat):IE->Option (Nat×List Val)
 | .var j=>if j=i then none else (match env[j]? with
  |some (some (.ow,.rl es))=>some (j,es)
  |_=>none)
 |_=>none
mutual
noncomputable def aQ(Ψ:Nat->List Val->Pr FV)(ms:List Nat):IS->bx->Pr Mf
 | .expr e,env=>match e with
  | .met .append (.var i) #[a]=>match env[i]? with
   | some (some (.ow,.rl ds))=>(match FG env i a with
    |some p=>pg (decide (ds.length<sizeLine)) (.ok (.nx ((env.set p.1 (some (.sh,.rl p.2))).set i (some (.ow,.rl (ds++[.rl p.2]))))))
    |none=>pb (bR Ψ a env) λx=>pg (decide (ds.length<sizeLine)) (.ok (.nx (env.set i (some (.ow,.rl (ds++[x.2])))))))
   |_=>.no
  | .met .extend (.var i) #[a]=>match env[i]? with
   | some (some (.ow,.rl ds))=>pb (bR Ψ a env) λx=>match x.2 with
    |.tup vs=>pg (decide (ds.length+vs.length<=sizeLine)) (.ok (.nx (env.set i (some (.ow,.rl (ds++vs))))))
    |.rl vs=>pg (decide (ds.length+vs.length<=sizeLine)) (.ok (.nx (env.set i (some (.ow,.rl (ds++vs))))))
    |_=>.no
   |_=>.no
  |e=>pb (bR Ψ e env) λ_=>.ok (.nx env)
 | .asg p e,env=>match p with
  | .one i=>if ms.contains i=true then pg (Wm e) (pb (bR Ψ e env) λx=>match x.2 with
    |.rl ds=>.ok (.nx (env.set i (some (.ow,.rl ds))))
    |.dc ks ds=>.ok (.nx (env.set i (some (.ow,.dc ks ds))))
    |_=>.no) else pb (bR Ψ e env) λx=>.ok (.nx (env.set i (some (bJ x.1 x.2,x.2))))
  |.tup is=>pg (is.all λi=>!ms.contains i) (pb (bR Ψ e env) λx=>pb (pl (cO (.tup is) x.2 env)) λenv'=>.ok (.nx env'))
 |.aug _ _ _,_=>.no
 | .kR o i v,env=>match o with
  | .var j=>pb (bR Ψ v env) λx=>match env[j]? with
   |some (some (.ow,.rl ds))=>pb (bR Ψ i env) λz=>pb (pl (lz z.2)) λk=>pb (pl (Cf ds.length k)) λn=>.ok (.nx (env.set j (some (.ow,.rl (ds.set n x.2)))))
   |some (some (.ow,.dc ks ds))=>pb (bR Ψ i env) λz=>pb (pl (keyOf z.2)) λk=>pg (decide (ks.length<sizeLine)) (.ok (.nx (env.set j (some (.ow,putD ks ds k x.2)))))
   |_=>.no
  |_=>.no
 |.iff c a b,env=>pb (Mc Ψ c env) λx=>pb (pl (cR [] x.2)) λt=>if t=true then aG Ψ ms a env else aG Ψ ms b env
 |.for p k it body,env=>pg (t8 p it body&&(stored p).all λi=>!ms.contains i) (pb (dZ Ψ it env) λits=>pb (pl (kX k its)) λxs=>
   jC (λx env=>pb (pl (cO p x env)) λenv'=>aG Ψ ms body env') xs env)
 |.whl _ _ _,_=>.no
 |.ret e,env=>pb (U3 Ψ e env) λp=>.ok (.rt p)
 |.Jt,_=>.ok (.rt (true,.non))
 |.brk,env=>.ok (.bk env)
 |.cnt,env=>.ok (.ct env)
 |.pass,env=>.ok (.nx env)
 |.never,_=>.no
 |.setF _ a _ _,env=>pb (bR Ψ a env) λ_=>.no
noncomputable def aG(Ψ:Nat->List Val->Pr FV)(ms:List Nat):dF->bx->Pr Mf
 |.nil,env=>.ok (.nx env)
 | .cons s r,env=>pb (aQ Ψ ms s env) λf=>match f with
  |.nx env'=>aG Ψ ms r env'
  |f=>.ok f
end
def cS(Ψ:Nat->List Val->Pr FV)(n:Nat)(body:dF)(ds:List Val):Pr FV :=
 pb (aG Ψ (iK body) body (ds.map (λd=>some (.sh,d))++replicate (n-ds.length) none)) λf=>match f with
  |.nx _=>.ok (true,.non)
  |.rt p=>.ok p
  |_=>.no
abbrev AP:=Option Nat->Prop
def Fr(n:Nat):AP:=λo=>match o with
 |none=>False
 |some k=>n<=k
theorem Fr.le{n m:Nat}(h:n<=m):∀o,Fr m o->Fr n o
 |none,e=>e
 |some k,e=>aaE h e
mutual
noncomputable def Dn(A:AP)(h:Hs):Val->Val->Prop
 |.non,v=>v=.non
 |.bl b,v=>v=.bl b
 |.int i,v=>v=.int i
 |.str x,v=>v=.str x
 |.tup ds,v=>∃vs,v=.tup vs/\ay A h ds vs
 |.rl ds,v=>(∃vs,v=.rl vs/\A none/\ay A h ds vs)\/∃i vs,v=.ref i/\A (some i)/\h[i]?=some (.lst vs)/\ay A h ds vs
 |.dc ks ds,v=>∃i kvs,v=.ref i/\A (some i)/\h[i]?=some (.dct kvs)/\kvs.map (·.1)=ks/\ay A h ds (kvs.map (·.2))
 |.ob c xs ds,v=>∃i fs,v=.ref i/\A (some i)/\h[i]?=some (.ins c fs)/\fs.map (·.1)=xs/\ay A h ds (fs.map (·.2))
 |.ref _,_=>False
noncomputable def ay(A:AP)(h:Hs):List Val->List Val->Prop
 |[],vs=>vs=[]
 |d::ds,vs=>∃v r,vs=v::r/\Dn A h d v/\ay A h ds r
end
section
variable {A A':AP} {h h' h1:Hs}
mutual
theorem Dn.mono(hA:∀i,A i->A' i)(hh:∀(i:Nat) (o:Ob),A (some i)->h[i]?=some o->h'[i]?=some o):∀(d v:Val),Dn A h d v->Dn A' h' d v
 |.non,v,e=>by rw[Dn]at e |-;exact e
 |.bl _,v,e=>by rw[Dn]at e |-;exact e
 |.int _,v,e=>by rw[Dn]at e |-;exact e
 |.str _,v,e=>by rw[Dn]at e |-;exact e
 | .tup ds,v,e=>by
  rw[Dn]at e |-;obtain⟨vs,rfl,q⟩:=e;exact⟨vs,rfl,ay.mono hA hh ds vs q⟩
 | .rl ds,v,e=>by
  rw[Dn]at e |-
  rcases e with ⟨vs,rfl,n,q⟩|⟨i,vs,rfl,a,g,q⟩
  ·exact .inl ⟨vs,rfl,hA _ n,ay.mono hA hh ds vs q⟩
  ·exact .inr ⟨i,vs,rfl,hA _ a,hh i _ a g,ay.mono hA hh ds vs q⟩
 | .dc ks ds,v,e=>by
  rw[Dn]at e |-;obtain⟨i,kvs,rfl,a,g,k,q⟩:=e;exact⟨i,kvs,rfl,hA _ a,hh i _ a g,k,ay.mono hA hh ds _ q⟩
 | .ob c xs ds,v,e=>by
  rw[Dn]at e |-;obtain⟨i,kvs,rfl,a,g,k,q⟩:=e;exact⟨i,kvs,rfl,hA _ a,hh i _ a g,k,ay.mono hA hh ds _ q⟩
 |.ref _,v,e=>by rw[Dn]at e;exact e.elim
theorem ay.mono(hA:∀i,A i->A' i)(hh:∀(i:Nat) (o:Ob),A (some i)->h[i]?=some o->h'[i]?=some o):∀(ds vs:List Val),ay A h ds vs->ay A' h' ds vs
 |[],vs,e=>by rw[ay]at e |-;exact e
 | d::ds,vs,e=>by
  rw[ay]at e |-;obtain⟨v,r,rfl,q1,q2⟩:=e;exact⟨v,r,rfl,Dn.mono hA hh d v q1,ay.mono hA hh ds r q2⟩
end
theorem iD{i:Nat}(p:h<+:h')(e:h[i]?=some o):h'[i]?=some o:=by
 obtain⟨t,rfl⟩:=p;have hi:i<h.length:=(aal.mp e).1;rw[aax hi];exact e
theorem Dn.ext(p:h<+:h')(e:Dn A h d v):Dn A h' d v:=Dn.mono (λ_ a=>a) (λ_ _ _ q=>iD p q) d v e
theorem ay.ext(p:h<+:h')(e:ay A h d v):ay A h' d v:=ay.mono (λ_ a=>a) (λ_ _ _ q=>iD p q) d v e
theorem Dn.fm(hA:∀i,A i->A' i)(e:Dn A h d v):Dn A' h d v:=Dn.mono hA (λ_ _ _ q=>q) d v e
theorem ay.fm(hA:∀i,A i->A' i)(e:ay A h d v):ay A' h d v:=ay.mono hA (λ_ _ _ q=>q) d v e
mutual
theorem jc:∀(d v:Val),lU d=true->(Dn A h d v↔v=d)
 |.non,v,_=>by rw[Dn]
 |.bl _,v,_=>by rw[Dn]
 |.int _,v,_=>by rw[Dn]
 |.str _,v,_=>by rw[Dn]
 | .tup ds,v,e=>by
  rw[lU]at e;rw[Dn];constructor
  ·rintro⟨vs,rfl,q⟩;rw[(b8 ds vs e).mp q]
  ·rintro rfl;exact⟨ds,rfl,(b8 ds ds e).mpr rfl⟩
 |.rl _,v,e=>by rw[lU]at e;cases e
 |.dc _ _,v,e=>by rw[lU]at e;cases e
 |.ob _ _ _,v,e=>by rw[lU]at e;cases e
 |.ref _,v,e=>by rw[lU]at e;cases e
theorem b8:∀(ds vs:List Val),dw ds=true->(ay A h ds vs↔vs=ds)
 |[],vs,_=>by rw[ay]
 | d::ds,vs,e=>by
  rw[dw,and_eq_true]at e;rw[ay];constructor
  ·rintro⟨v,r,rfl,q1,q2⟩;rw[(jc d v e.1).mp q1,(b8 ds r e.2).mp q2]
  ·rintro rfl;exact⟨d,ds,rfl,(jc d d e.1).mpr rfl,(b8 ds ds e.2).mpr rfl⟩
end
theorem ay.nil:ay A h [] []:=by rw[ay]
theorem ay.cons{d v:Val}{ds vs:List Val}(a:Dn A h d v)(b:ay A h ds vs):ay A h (d::ds) (v::vs):=by rw[ay];exact⟨v,vs,rfl,a,b⟩
theorem ay.length:∀{ds vs:List Val},ay A h ds vs->ds.length=vs.length
 |[],vs,e=>by rw[ay]at e;subst e;rfl
 |d::ds,vs,e=>by rw[ay]at e;obtain⟨v,r,rfl,_,q⟩:=e;simp[ay.length q]
theorem ay.get:∀{ds vs:List Val} {i:Nat} {d:Val},ay A h ds vs->ds[i]?=some d->∃v,vs[i]?=some v/\Dn A h d v
 |[],vs,i,d,e,q=>by simp at q
 | c::ds,vs,0,d,e,q=>by
  rw[ay]at e;obtain⟨v,r,rfl,a,_⟩:=e;simp at q;subst q;exact⟨v,rfl,a⟩
 | c::ds,vs,i+1,d,e,q=>by
  rw[ay]at e;obtain⟨v,r,rfl,_,b⟩:=e;simp at q;obtain⟨w,q1,q2⟩:=ay.get b q;exact⟨w,by simpa using q1,q2⟩
theorem ay.append:∀{ds es vs ws:List Val},ay A h ds vs->ay A h es ws->ay A h (ds++es) (vs++ws)
 |[],es,vs,ws,e,q=>by rw[ay]at e;subst e;exact q
 | d::ds,es,vs,ws,e,q=>by
  rw[ay]at e;obtain⟨v,r,rfl,a,b⟩:=e;exact ay.cons a (ay.append b q)
theorem ay.take:∀{ds vs:List Val} (n:Nat),ay A h ds vs->ay A h (ds.take n) (vs.take n)
 |_,_,0,_=>by simp;exact ay.nil
 |[],vs,n+1,e=>by rw[ay]at e;subst e;simp;exact ay.nil
 | d::ds,vs,n+1,e=>by
  rw[ay]at e;obtain⟨v,r,rfl,a,b⟩:=e;exact ay.cons a (ay.take n b)
theorem ay.drop:∀{ds vs:List Val} (n:Nat),ay A h ds vs->ay A h (ds.drop n) (vs.drop n)
 |_,_,0,e=>by simpa using e
 |[],vs,n+1,e=>by rw[ay]at e;subst e;simp;exact ay.nil
 | d::ds,vs,n+1,e=>by
  rw[ay]at e;obtain⟨v,r,rfl,a,b⟩:=e;exact ay.drop n b
theorem ay.cut(lo hi:Option Int)(e:ay A h ds vs):ay A h (di ds lo hi) (di vs lo hi):=by
 unfold di;rw[e.length];exact ay.take _ (ay.drop _ e)
theorem ay.set:∀{ds vs:List Val} (n:Nat) {d v:Val},ay A h ds vs->Dn A h d v->ay A h (ds.set n d) (vs.set n v)
 |[],vs,n,d,v,e,q=>by rw[ay]at e;subst e;simp;exact ay.nil
 | c::ds,vs,0,d,v,e,q=>by
  rw[ay]at e;obtain⟨w,r,rfl,a,b⟩:=e;exact ay.cons q b
 | c::ds,vs,n+1,d,v,e,q=>by
  rw[ay]at e;obtain⟨w,r,rfl,a,b⟩:=e;exact ay.cons a (ay.set n b q)
theorem ay.fX{i:Int}(e:ay A h ds vs)(q:L2.fX ds i=some d):∃v,L2.fX vs i=some v/\Dn A h d v:=by
 unfold L2.fX at q |-;rw[e.length]at q;cases hi:L2.Cf vs.length i with
 |none=>rw[hi]at q;cases q
 |some n=>rw[hi]at q;exact ay.get e q
def OD(A:AP)(h:Hs)(d:Val)(a:Nat):Prop:=match d with
 |.rl ds=>∃vs,h[a]?=some (.lst vs)/\ay A h ds vs
 |.dc ks ds=>∃kvs,h[a]?=some (.dct kvs)/\kvs.map (·.1)=ks/\ay A h ds (kvs.map (·.2))
 |_=>False
theorem OD.mono{a:Nat}(e:OD A h d a)(ho:∀o,h[a]?=some o->h'[a]?=some o)(hq:∀ds vs,ay A h ds vs->ay A' h' ds vs):OD A' h' d a:=by
 cases d with
 |rl ds=>obtain⟨vs,g,q⟩:=e;exact⟨vs,ho _ g,hq _ _ q⟩
 |dc ks ds=>obtain⟨kvs,g,k,q⟩:=e;exact⟨kvs,ho _ g,k,hq _ _ q⟩
 |_=>exact False.elim e
theorem OD.ext{a:Nat}(p:h<+:h')(e:OD A h d a):OD A h' d a:=e.mono (λ_ g=>iD p g) λ_ _ q=>q.ext p
theorem OD.lt{a:Nat}(e:OD A h d a):a<h.length:=by
 cases d with
 |rl ds=>obtain⟨vs,g,q⟩:=e;exact(aal.mp g).1
 |dc ks ds=>obtain⟨kvs,g,k,q⟩:=e;exact(aal.mp g).1
 |_=>exact False.elim e
theorem OD.dn{a:Nat}(e:OD A h d a)(ha:A (.some a)):Dn A h d (.ref a):=by
 cases d with
 |rl ds=>obtain⟨vs,g,q⟩:=e;rw[Dn];exact .inr ⟨a,vs,rfl,ha,g,q⟩
 |dc ks ds=>obtain⟨kvs,g,k,q⟩:=e;rw[Dn];exact⟨a,kvs,rfl,ha,g,k,q⟩
 |_=>exact False.elim e
def OB(A:AP)(h:Hs)(d:Val)(o:Ob):Prop:=match d with
 |.rl ds=>∃vs,o=.lst vs/\ay A h ds vs
 |.dc ks ds=>∃kvs,o=.dct kvs/\kvs.map (·.1)=ks/\ay A h ds (kvs.map (·.2))
 |_=>False
theorem OB.od{a:Nat}(e:OB A h d o)(g:h'[a]?=.some o)(hq:∀ds vs,ay A h ds vs->ay A' h' ds vs):OD A' h' d a:=by
 cases d with
 |rl ds=>obtain⟨vs,rfl,q⟩:=e;exact⟨vs,g,hq _ _ q⟩
 |dc ks ds=>obtain⟨kvs,rfl,k,q⟩:=e;exact⟨kvs,g,k,hq _ _ q⟩
 |_=>exact False.elim e
def DB(A:AP)(h:Hs)(d v:Val):Prop:=Dn A h d v\/∃i,v=.ref i/\OD A h d i
theorem DB.all(e:DB A h d v):Dn (λ_=>True) h d v:=by
 rcases e with e|⟨i,rfl,q⟩
 ·exact e.fm λ_ _=>trivial
 ·exact(q.mono (A':=λ_=>True) (λ_ g=>g) λ_ _ z=>z.fm λ_ _=>trivial).dn trivial
theorem DB.ext(p:h<+:h')(e:DB A h d v):DB A h' d v:=by
 rcases e with e|⟨i,rfl,q⟩
 ·exact .inl (e.ext p)
 ·exact .inr ⟨i,rfl,q.ext p⟩
theorem DB.dc(e:DB A h (.dc ks ds) v):∃i kvs,v=.ref i/\h[i]?=some (.dct kvs)/\kvs.map (·.1)=ks/\ay A h ds (kvs.map (·.2)):=by
 rcases e with e|⟨i,rfl,kvs,g,k,q⟩
 ·rw[Dn]at e;obtain⟨i,kvs,rfl,_,g,k,q⟩:=e;exact⟨i,kvs,rfl,g,k,q⟩
 ·exact⟨i,kvs,rfl,g,k,q⟩
theorem DB.lst(e:DB A h (.rl ds) v):∃vs,aI h v=some vs/\ay A h ds vs:=by
 rcases e with e|⟨i,rfl,vs,g,q⟩
 ·rw[Dn]at e
  rcases e with ⟨vs,rfl,_,q⟩|⟨i,vs,rfl,_,g,q⟩
  ·exact⟨vs,rfl,q⟩
  ·exact⟨vs,by simp[aI,g],q⟩
 ·exact⟨vs,by simp[aI,g],q⟩
theorem DB.seq(e:DB A h d v)(q:cY [] d=some ds):∃vs,cY h v=some vs/\ay A h ds vs:=by
 cases d with
 |tup es=>
  simp only[cY]at q;cases q
  rcases e with e|⟨_,_,e1⟩
  ·rw[Dn]at e;obtain⟨vs,rfl,q⟩:=e;exact⟨vs,rfl,q⟩
  ·exact False.elim e1
 |rl es=>simp only[cY,aI]at q;cases q;obtain⟨vs,q1,q2⟩:=e.lst;refine⟨vs,?_,q2⟩;cases v<;>first|(simp[aI]at q1;done)|exact q1
 |ref i=>simp[cY,aI]at q
 |_=>simp[cY,aI]at q
theorem DB.int{i:Int}(e:DB A h (.int i) v):v=.int i:=by
 rcases e with e|⟨_,_,e1⟩
 ·rw[Dn]at e;exact e
 ·exact False.elim e1
theorem DB.str(e:DB A h (.str i) v):v=.str i:=by
 rcases e with e|⟨_,_,e1⟩
 ·rw[Dn]at e;exact e
 ·exact False.elim e1
theorem DB.bl{i:Bool}(e:DB A h (.bl i) v):v=.bl i:=by
 rcases e with e|⟨_,_,e1⟩
 ·rw[Dn]at e;exact e
 ·exact False.elim e1
theorem DB.tup(e:DB A h (.tup ds) v):∃vs,v=.tup vs/\ay A h ds vs:=by
 rcases e with e|⟨_,_,e1⟩
 ·rw[Dn]at e;exact e
 ·exact False.elim e1
theorem vd:∀(n:Nat) (d v:Val) (p:PyData),Dn (λ_=>True) h d v->toD n [] d=some p->toD n h v=some p:=by
 intro n
 induction n with
 |zero=>intro d v p _ e;simp[toD]at e
 |succ n ih=>
  have all:∀(ds vs:List Val) (ps:List PyData),ay (λ_=>True) h ds vs->cZ (toD n []) ds=some ps->cZ (toD n h) vs=some ps:=by
   intro ds
   induction ds with
   |nil=>intro vs ps q e;rw[ay]at q;subst q;exact e
   |cons d ds ZF=>intro vs ps q e;rw[ay]at q;obtain⟨v,r,rfl,q1,q2⟩:=q;simp only[cZ]at e |-;obtain⟨x,e1,e⟩:=aai.mp e;obtain⟨xs,e2,e⟩:=aai.mp e;rw[ih d v x q1 e1,ZF r xs q2 e2];exact e
  intro d v p q e;cases d with
  |non=>rw[Dn]at q;subst q;exact e
  |bl b=>rw[Dn]at q;subst q;exact e
  |int b=>rw[Dn]at q;subst q;exact e
  |str b=>rw[Dn]at q;subst q;exact e
  |tup ds=>rw[Dn]at q;obtain⟨vs,rfl,q⟩:=q;simp only[toD]at e |-;obtain⟨ps,e1,e⟩:=aai.mp e;rw[all ds vs ps q e1];exact e
  |rl ds=>
   rw[Dn]at q;simp only[toD]at e;obtain⟨ps,e1,e⟩:=aai.mp e
   rcases q with ⟨vs,rfl,_,q⟩|⟨i,vs,rfl,_,g,q⟩
   ·simp only[toD];rw[all ds vs ps q e1];exact e
   ·simp only[toD,aI,g,bind_some];rw[all ds vs ps q e1];exact e
  |dc ks ds=>simp[toD]at e
  |ob c xs ds=>simp[toD]at e
  |ref i=>rw[Dn]at q;exact q.elim
theorem Mg{b:Bool}(a:DB A h d v)(c:DB A h e w)(q:zu [] d e=some b):zu h v w=some b:=by
 unfold zu at q |-;obtain⟨x,e1,q⟩:=aai.mp q;obtain⟨y,e2,q⟩:=aai.mp q;rw[vd 16 d v x a.all e1,vd 16 e w y c.all e2];exact q
theorem FH(a:DB A h d v):mE v=mE d:=by
 rcases a with a|⟨i,rfl,q⟩
 ·cases d<;>rw[Dn]at a
  ·subst a;rfl
  ·subst a;rfl
  ·subst a;rfl
  ·subst a;rfl
  ·obtain⟨vs,rfl,_⟩:=a;rfl
  ·rcases a with ⟨vs,rfl,_⟩|⟨i,vs,rfl,_⟩<;>rfl
  ·obtain⟨i,kvs,rfl,_⟩:=a;rfl
  ·obtain⟨i,kvs,rfl,_⟩:=a;rfl
  ·exact a.elim
 ·cases d<;>first|exact False.elim q|rfl
theorem FI{b:Bool}(a:DB A h d v)(c:DB A h e w)(q:wF [] d e=some b):wF h v w=some b:=by
 have data:memD [] d e=some b->memD h v w=some b:=λq=>by
  unfold memD at q |-;obtain⟨x,e1,q⟩:=aai.mp q;obtain⟨y,e2,q⟩:=aai.mp q;rw[vd 16 e w x c.all e1,vd 16 d v y a.all e2];exact q
 exact data q
theorem FJ{b:Bool}(a:DB A h d v)(c:DB A h e w)(q:LK d e=some b):LK v w=some b:=by
 cases e<;>first|(cases q;done)|skip
 ·have:w=.non:=by
   rcases c with c|⟨_,_,e1⟩
   ·rw[Dn]at c;exact c
   ·exact False.elim e1
  subst this;show some (mE v)=_;rw[FH a];exact q
 ·have:=c.bl;subst this
  cases d<;>first|(cases q;done)|skip
  have:=a.bl;subst this;exact q
theorem O0{b:Bool}(a:DB A h d v)(c:DB A h e w)(q:cop [] o d e=some b):cop h o v w=some b:=by
 cases o with
 |eq=>exact Mg a c q
 |ne=>obtain⟨x,e1,e2⟩:=aaH.mp (show (zu [] d e).map _=some b from q);show (zu h v w).map _=_;rw[Mg a c e1];exact congrArg some e2
 |isn=>exact FJ a c q
 |ntn=>obtain⟨x,e1,e2⟩:=aaH.mp (show (LK d e).map _=some b from q);show (LK v w).map _=_;rw[FJ a c e1];exact congrArg some e2
 |EG=>exact FI a c q
 |nin=>obtain⟨x,e1,e2⟩:=aaH.mp (show (wF [] d e).map _=some b from q);show (wF h v w).map _=_;rw[FI a c e1];exact congrArg some e2
 |lt=>obtain⟨i,j,rfl,rfl⟩:=jO (.inl rfl) q;have:=a.int;subst this;have:=c.int;subst this;exact q
 |le=>obtain⟨i,j,rfl,rfl⟩:=jO (.inr (.inl rfl)) q;have:=a.int;subst this;have:=c.int;subst this;exact q
 |gt=>obtain⟨i,j,rfl,rfl⟩:=jO (.inr (.inr (.inl rfl))) q;have:=a.int;subst this;have:=c.int;subst this;exact q
 |ge=>obtain⟨i,j,rfl,rfl⟩:=jO (.inr (.inr (.inr rfl))) q;have:=a.int;subst this;have:=c.int;subst this;exact q
theorem zH{b:Bool}(a:DB A h d v)(q:cR [] d=some b):cR h v=some b:=by
 cases d with
 |rl ds=>
  obtain⟨vs,q1,q2⟩:=a.lst;have l:=q2.length;have e:(!ds.isEmpty) = !vs.isEmpty:=by cases ds<;>cases vs<;>simp_all
  simp only[cR]at q;rw[e]at q;cases v<;>simp only[aI]at q1<;>first|(cases q1;done)|skip
  ·cases q1;exact q
  ·split at q1<;>cases q1;rename_i g;simp only[cR,g];exact q
 |tup ds=>
  obtain⟨vs,rfl,q2⟩:=a.tup;have l:=q2.length;have e:(!ds.isEmpty) = !vs.isEmpty:=by cases ds<;>cases vs<;>simp_all
  simp only[cR]at q |-;rw[<-e];exact q
 |dc ks ds=>obtain⟨i,kvs,rfl,g,hk,_⟩:=a.dc;subst hk;simp only[cR,g]at q |-;rw[<-q];cases kvs<;>rfl
 |ob c xs ds=>cases q
 |ref i=>
  rcases a with a|⟨_,_,e1⟩
  ·rw[Dn]at a;exact a.elim
  ·exact False.elim e1
 |non=>
  rcases a with a|⟨_,_,e1⟩
  ·rw[Dn]at a;subst a;exact q
  ·exact False.elim e1
 |bl b=>have:=a.bl;subst this;exact q
 |int b=>have:=a.int;subst this;exact q
 |str b=>have:=a.str;subst this;exact q
theorem O3{n:Nat}(a:DB A h d v)(q:mG [] d=some n):mG h v=some n:=by
 cases d with
 |rl ds=>
  obtain⟨vs,q1,q2⟩:=a.lst;have l:=q2.length;simp only[mG]at q;rw[l]at q;cases v<;>simp only[aI]at q1<;>first|(cases q1;done)|skip
  ·cases q1;exact q
  ·split at q1<;>cases q1;rename_i g;simp only[mG,g];exact q
 |tup ds=>obtain⟨vs,rfl,q2⟩:=a.tup;simp only[mG]at q |-;rw[<-q2.length];exact q
 |dc ks ds=>obtain⟨i,kvs,rfl,g,hk,_⟩:=a.dc;subst hk;simp only[mG,g]at q |-;rw[<-q];simp
 |str b=>have:=a.str;subst this;exact q
 |_=>simp[mG]at q
theorem SS{t:String}(a:DB A h d v)(q:CN [] d=some t):CN h v=some t:=by
 cases d with
 |rl ds=>
  obtain⟨vs,q1,q2⟩:=a.lst;cases v<;>simp only[aI]at q1<;>first|(cases q1;done)|skip
  ·exact q
  ·split at q1<;>cases q1;rename_i g;simp only[CN,g];exact q
 |tup ds=>obtain⟨vs,rfl,q2⟩:=a.tup;exact q
 |dc ks ds=>obtain⟨i,kvs,rfl,g,hk,_⟩:=a.dc;simp only[CN,g]at q |-;exact q
 |ob c xs ds=>cases q
 |ref i=>
  rcases a with a|⟨_,_,e1⟩
  ·rw[Dn]at a;exact a.elim
  ·exact False.elim e1
 |non=>
  rcases a with a|⟨_,_,e1⟩
  ·rw[Dn]at a;subst a;exact q
  ·exact False.elim e1
 |bl b=>have:=a.bl;subst this;exact q
 |int b=>have:=a.int;subst this;exact q
 |str b=>have:=a.str;subst this;exact q
theorem pK:∀{kvs:List (Key×Val)} {ks:List Key} {ds:List Val} {z:Val},kvs.map (·.1)=ks->ay A h ds (kvs.map (·.2))->cJ (ks.zip ds) k=some z->∃v,cJ kvs k=some v/\Dn A h z v
 |[],ks,ds,z,hk,q,e=>by subst hk;simp[cJ]at e
 | (k',v')::kvs,ks,ds,z,hk,q,e=>by
  subst hk;have l:=q.length;cases ds with
  |nil=>simp at l
  |cons d ds=>
   simp only[map_cons]at q;rw[ay]at q;obtain⟨v,r,e1,q1,q2⟩:=q;cases e1
   by_cases hkk:k'=k
   ·subst hkk;simp[cJ]at e |-;subst e;exact q1
   ·have e':cJ ((kvs.map (·.1)).zip ds) k=some z:=by simpa [cJ,hkk] using e
    obtain⟨w,a1,a2⟩:=pK rfl q2 e';exact⟨w,by simpa [cJ,hkk] using a1,a2⟩
theorem DB.xm{j:Nat}(c:DB A h (.ref j) v):False:=by
 rcases c with c|⟨_,_,e1⟩
 ·rw[Dn]at c;exact c
 ·exact e1
theorem Bf:∀{kvs:List (Key×Val)} {ds:List Val},ay A h ds (kvs.map (·.2))->cJ ((kvs.map (·.1)).zip ds) k=none->cJ kvs k=none
 |[],ds,q,e=>rfl
 | (k',v')::kvs,ds,q,e=>by
  cases ds with
  |nil=>rw[ay]at q;cases q
  |cons d ds=>
   rw[aay,ay]at q;obtain⟨v,r,eq,q1,q2⟩:=q;cases eq;unfold cJ at e |-;rw[aay,zip_cons_cons,find?_cons]at e;rw[find?_cons]
   by_cases hk:k'=k
   ·simp[hk]at e
   ·simp only[hk,decide_false]at e |-;exact Bf q2 e
theorem ve(a:Dn A h d v)(e:keyOf d=some kk):keyOf v=some kk:=by
 cases d<;>first|(cases e;done)|skip
 ·rw[Dn]at a;subst a;exact e
 ·rw[Dn]at a;subst a;exact e
theorem O4(a:DB A h o v)(e:CL [] o k=some r):∃r',CL h v k=some r'/\∀z z',Dn A h z z'->Dn A h (r.getD z) (r'.getD z'):=by
 cases o<;>first|(cases e;done)|(exact(DB.xm a).elim)|skip
 rename_i ks ds;obtain⟨i,kvs,rfl,g,hk,q⟩:=a.dc;cases e;have eg:CL h (.ref i) k=some (cJ kvs k):=by show (match h[i]? with|some (.dct kvs)=>some (cJ kvs k)|_=>none)=_;rw[g]
 refine⟨_,eg,λz z' hz=>?_⟩;cases ev:cJ (ks.zip ds) k with
 |none=>subst hk;rw[Bf q ev];exact hz
 |some d=>obtain⟨u,e1,e2⟩:=pK hk q ev;rw[e1];exact e2
theorem J7{u:Unit}(a:DB A h o v)(e:EH [] o=some u):EH h v=some u:=by
 cases o<;>first|(cases e;done)|(exact(DB.xm a).elim)|skip
 obtain⟨i,kvs,rfl,g,hk,q⟩:=a.dc;show (match h[i]? with|some (.dct _)=>some ()|_=>none)=_;rw[g]
theorem O5(a:DB A h d v)(c:Dn A h e w)(q:mF [] d e=some z):∃u,mF h v w=some u/\Dn A h z u:=by
 cases e with
 |int i=>
  rw[Dn]at c;subst c;cases d with
  |str x=>
   have:=a.str;subst this;refine⟨z,q,?_⟩;change (if x.length<=sizeLine then (fX x.cps.toList i).map (λc=>Val.str ⟨[c].toArray⟩) else none)=some z at q;split at q
   ·obtain⟨c,_,rfl⟩:=aaH.mp q;rw[Dn]
   ·cases q
  |tup ds=>obtain⟨vs,rfl,q2⟩:=a.tup;exact q2.fX q
  |rl ds=>
   obtain⟨vs,q1,q2⟩:=a.lst;obtain⟨u,q3,q4⟩:=q2.fX q;refine⟨u,?_,q4⟩;cases v<;>simp only[aI]at q1<;>first|(cases q1;done)|skip
   ·cases q1;exact q3
   ·split at q1<;>cases q1;rename_i g;unfold mF;simp only[aI,g,bind_some];exact q3
  |dc ks ds=>obtain⟨i',kvs,rfl,g,hk,q2⟩:=a.dc;obtain⟨u,q3,q4⟩:=pK hk q2 q;refine⟨u,?_,q4⟩;show (match h[i']? with|some (.dct kvs)=>cJ kvs (.inl i)|_=>(aI h (.ref i')).bind λxs=>fX xs i)=_;rw[g];exact q3
  |ref j=>exact(DB.xm a).elim
  |_=>cases q
 |str x=>
  rw[Dn]at c;subst c;cases d with
  |dc ks ds=>obtain⟨i',kvs,rfl,g,hk,q2⟩:=a.dc;obtain⟨u,q3,q4⟩:=pK hk q2 q;refine⟨u,?_,q4⟩;show (match h[i']? with|some (.dct kvs)=>cJ kvs (.inr x)|_=>none)=_;rw[g];exact q3
  |ref j=>exact(DB.xm a).elim
  |_=>cases q
 |_=>cases d<;>first|(cases q;done)|exact(DB.xm a).elim
end
def Up(A:AP)(h:Hs):Prop:=∀k,h.length<=k->A (some k)
def Rel(A:AP)(h:Hs){α β:Type}(R:α -> Hs -> β -> Prop)(o:Out β):Pr α -> Prop
 |.ok a=>∃b h',o=.ok b h'/\h<+:h'/\R a h' b
 |.exc c es=>∃ws h',o=.exc c ws h'/\h<+:h'/\ay A h' es ws
 |.no=>True
def RV(A:AP)(h:Hs):FV->Hs->Val->Prop:=λx h' v=>Dn A h' x.2 v/\(x.1=true->Dn (Fr h.length) h' x.2 v)
def ZG(A:AP)(h:Hs):Bool×List Val->Hs->List Val->Prop:=λx h' v=>ay A h' x.2 v/\(x.1=true->ay (Fr h.length) h' x.2 v)
def Wn(A:AP):FV->Hs->Val->Prop:=λx h' v=>DB A h' x.2 v
def J8(A:AP)(h:Hs):List Val->List Val->Prop
 |[],vs=>vs=[]
 |d::ds,vs=>∃v r,vs=v::r/\DB A h d v/\J8 A h ds r
def ER(A:AP)(aa:bx)(env:Env)(h:Hs):Prop:=∀(i:Nat) (f:Mk) (d:Val),aa[i]?=some (some (f,d)) ->
 if lM f=false then ∃a,env[i]?=some (some (.ref a))/\OD A h d a else ∃v,env[i]?=some (some v)/\Dn A h d v
section
variable {A:AP} {h h1:Hs} {α β γ δ:Type}
theorem Up.ext(u:Up A h)(p:h<+:h1):Up A h1:=λk hk=>u k (aaE p.length_le hk)
theorem ER.ext(e:ER A aa env h)(p:h<+:h1):ER A aa env h1:=λi f d q=>by
 have:=e i f d q;revert this;generalize lM f=t;intro this;cases t with
 |false=>rw[aae rfl]at this |-;obtain⟨a,k2,k3⟩:=this;exact⟨a,k2,k3.ext p⟩
 |true=>rw[aac (by decide)]at this |-;obtain⟨v,k1,k2⟩:=this;exact⟨v,k1,k2.ext p⟩
theorem ah(r:Rel A h R (m h) p)(k:∀a h1 b,h<+:h1->R a h1 b->Rel A h1 R' (f b h1) (F a)):Rel A h R' (bnd m f h) (pb p F):=by
 unfold bnd;cases p with
 |ok a=>
  obtain⟨b,h1,e,q,r⟩:=r;rw[e];show Rel A h R' (f b h1) (F a);have:=k a h1 b q r;cases e2:F a with
  |ok c=>rw[e2]at this;obtain⟨d,h2,e3,q2,r2⟩:=this;exact⟨d,h2,e3,q.trans q2,r2⟩
  |exc c es=>rw[e2]at this;obtain⟨d,h2,e3,q2,r2⟩:=this;exact⟨d,h2,e3,q.trans q2,r2⟩
  |no=>trivial
 |exc c es=>obtain⟨ws,h1,e,q,r⟩:=r;rw[e];exact⟨ws,h1,rfl,q,r⟩
 |no=>trivial
theorem aE(r:R a h b):Rel A h R (ret b h) (.ok a):=⟨b,h,rfl,aaB _,r⟩
theorem bz(r:∀a,o=some a->∃b,o'=some b/\R a h b):Rel A h R (bA o' h) (pl o):=by
 cases o with
 |none=>trivial
 |some a=>obtain⟨b,rfl,q⟩:=r a rfl;exact⟨b,h,rfl,aaB _,q⟩
theorem dG(r:∀a,o=some a->∃b,f h=some b/\R a h b):Rel A h R (ask f h) (pl o):=bz r
theorem bS{c c':Bool}(e:c=true->c'=true)(r:c=true->Rel A h R (m h) p):Rel A h R (aO c' m h) (pg c p):=by
 unfold aO pg;cases c with
 |true=>rw[aae (e rfl),aae rfl];exact r rfl
 |false=>rw[aac aab];trivial
theorem xq(r:Rel A h R o p)(k:∀a h' b,h<+:h'->R a h' b->R' a h' b):Rel A h R' o p:=by
 cases p with
 |ok a=>obtain⟨b,h',e,q,r⟩:=r;exact⟨b,h',e,q,k a h' b q r⟩
 |exc c es=>exact r
 |no=>trivial
theorem cz(o:Ob):h<+:h++[o]:=aa0 _ _
theorem gI(o:Ob):(h++[o])[h.length]?=some o:=by simp
theorem jd{f:Bool}{h0:Hs}(u:Up A h)(p:h0<+:h)(q:ay A h xs vs)(g:f=true->ay (Fr h0.length) h xs vs):Rel A h (RV A h0) (new (.lst vs) h) (.ok (f,.rl xs)):=by
 refine⟨_,_,rfl,cz _,?_,λhf=>?_⟩
 ·show Dn A _ (.rl xs) _;rw[Dn];exact .inr ⟨_,vs,rfl,u _ (aam _),gI _,q.ext (cz _)⟩
 ·show Dn _ _ (.rl xs) _;rw[Dn];exact .inr ⟨_,vs,rfl,p.length_le,gI _,(g hf).ext (cz _)⟩
theorem qP{h0:Hs}(q:Dn A h d v):RV A h0 (lU d,d) h v:=⟨q,λhi=>(jc d v hi).mpr ((jc d v hi).mp q)⟩
theorem gJ(q:ay A h ds vs)(hi:dw ds=true):ay A' h' ds vs:=(b8 ds vs hi).mpr ((b8 ds vs hi).mp q)
theorem je{i:Int}{h0:Hs}{f:Bool}:RV A h0 (f,.int i) h (.int i):=⟨by rw[Dn],λ_=>by rw[Dn]⟩
theorem qQ{i:Bool}{h0:Hs}{f:Bool}:RV A h0 (f,.bl i) h (.bl i):=⟨by rw[Dn],λ_=>by rw[Dn]⟩
theorem O6{h0:Hs}{f:Bool}:RV A h0 (f,.str i) h (.str i):=⟨by rw[Dn],λ_=>by rw[Dn]⟩
theorem RV.br{h0:Hs}(r:RV A h0 x h v):Wn A x h v:=.inl r.1
theorem J9(ho:o≠.add)(v w:Val):(∃i j,v=.int i/\w=.int j)\/lN o v w=.no:=by
 cases v with
 |int i=>
  cases w with
  |int j=>exact .inl ⟨i,j,rfl,rfl⟩
  |_=>right;cases o<;>first|rfl|exact absurd rfl ho
 |_=>right;cases o<;>first|rfl|exact absurd rfl ho
theorem Ka{h0:Hs}(u:Up A h)(p:h0<+:h)(a:DB A h d v)(c:DB A h e w):Rel A h (RV A h0) (QW o v w h) (lN o d e):=by
 have ii:o≠.add->(∃i j,d=.int i/\e=.int j)\/lN o d e=.no:=λho=>J9 ho d e;cases o with
 |add=>
  cases d<;>cases e<;>first|trivial|skip
  ·have:=a.int;subst this;have:=c.int;subst this;exact aE je
  ·have:=a.str;subst this;have:=c.str;subst this;exact bS (λz=>z) λ_=>aE O6
  ·rename_i xs ys
   obtain⟨vs,rfl,q1⟩:=a.tup;obtain⟨ws,rfl,q2⟩:=c.tup;have l1:=q1.length;have l2:=q2.length;refine bS (λz=>?_) λ_=>aE ⟨?_,λhi=>?_⟩
   ·rw[l1,l2]at z
    have:xs.isEmpty=vs.isEmpty:=by cases xs<;>cases vs<;>simp_all
    rw[<-this];exact z
   ·show Dn A h (.tup _) _;rw[Dn];exact⟨_,rfl,q1.append q2⟩
   ·show Dn _ h (.tup _) _;rw[Dn];exact⟨_,rfl,gJ (q1.append q2) hi⟩
  ·rename_i xs ys
   obtain⟨vs,e1,q1⟩:=a.lst;obtain⟨ws,e2,q2⟩:=c.lst;have eb:QW .add v w=bnd (ask λh=>aI h v) λa=>bnd (ask λh=>aI h w) λb=>aO (decide (a.length+b.length<=sizeLine)) (new (.lst (a++b))):=by
    cases v<;>simp only[aI]at e1<;>first|(cases e1;done)|skip
    all_goals cases w<;>simp only[aI]at e2<;>first|(cases e2;done)|rfl
   have ev:QW .add v w h=aO (decide (vs.length+ws.length<=sizeLine)) (new (.lst (vs++ws))) h:=by rw[eb];unfold bnd ask bA;dsimp only;rw[e1];dsimp only;rw[e2]
   rw[ev];refine bS (λz=>?_) λ_=>jd u p (q1.append q2) λhi=>gJ (q1.append q2) hi;rw[<-q1.length,<-q2.length];exact z
 |_=>
  rcases ii (by intro z;cases z) with ⟨i,j,rfl,rfl⟩|z
  case inr=>rw[z];trivial
  have:=a.int;subst this;have:=c.int;subst this
  first
   |exact aE je
   |exact bS (λz=>z) λ_=>aE je
theorem Kc{lo hi:Option Int}{h0:Hs}(u:Up A h)(p:h0<+:h)(a:DB A h d v):Rel A h (RV A h0) (sD v lo hi h) (C6 d lo hi):=by
 cases d with
 |tup ds=>
  obtain⟨vs,rfl,q⟩:=a.tup;have l:=q.length;simp only[C6,sD];refine bS (λz=>?_) λ_=>aE ⟨?_,λhi=>?_⟩
  ·rw[l]at z;exact z
  ·show Dn A h (.tup _) _;rw[Dn];exact⟨_,rfl,q.cut lo hi⟩
  ·show Dn _ h (.tup _) _;rw[Dn];exact⟨_,rfl,gJ (q.cut _ _) hi⟩
 |rl ds=>
  obtain⟨vs,e1,q⟩:=a.lst;have ev:sD v lo hi h=new (.lst (di vs lo hi)) h:=by
   have:sD v lo hi=bnd (ask λh=>aI h v) λxs=>new (.lst (di xs lo hi)):=by cases v<;>simp only[aI]at e1<;>first|(cases e1;done)|rfl
   rw[this];unfold bnd ask bA;dsimp only;rw[e1]
  rw[ev];exact jd u p (q.cut lo hi) λhh=>gJ (q.cut lo hi) hh
 |_=>trivial
theorem J8.one(e:J8 A h [d] vs):∃v,vs=[v]/\DB A h d v:=by
 obtain⟨v,r,rfl,a,b⟩:=e;cases (show r=[] from b);exact⟨v,rfl,a⟩
theorem Kd{ns:List Int}(q:ay A h ds vs)(e:bw ds=some ns):vs=ds:=by
 have:dw ds=true:=by
  clear q
  induction ds generalizing ns with
  |nil=>rfl
  |cons d ds ih=>
   simp only[bw,cZ]at e;obtain⟨i,e1,e⟩:=aai.mp e;obtain⟨is,e2,e⟩:=aai.mp e;cases d<;>first|(cases e1;done)|skip
   rw[dw,lU,Bool.true_and];exact ih e2
 exact(b8 ds vs this).mp q
theorem qR:∀{ds:List Val} {ns:List Int},bw ds=some ns->dw ds=true
 |[],_,_=>rfl
 | d::ds,ns,e=>by
  simp only[bw,cZ]at e;obtain⟨i,e1,e⟩:=aai.mp e;obtain⟨is,e2,e⟩:=aai.mp e;cases d<;>first|(cases e1;done)|skip
  rw[dw,lU,Bool.true_and];exact qR (show bw ds=some is from e2)
theorem xr:∀{ds:List Val} {ns:List (List Int)},lu ds=some ns->dw ds=true
 |[],_,_=>rfl
 | d::ds,ns,e=>by
  simp only[lu,cZ]at e;obtain⟨i,e1,e⟩:=aai.mp e;obtain⟨is,e2,e⟩:=aai.mp e;cases d<;>first|(cases e1;done)|skip
  rename_i vs;dsimp only at e1;split at e1
  ·cases e1
  ·rw[dw,lU,qR e1,Bool.true_and];exact xr (show lu ds=some is from e2)
theorem cU:∀ns:List Int,dw (ns.map .int)=true
 |[]=>rfl
 |n::ns=>by rw[aay,dw,lU,Bool.true_and];exact cU ns
theorem mJ:∀pD:List (List Int),dw (pD.map lG)=true
 |[]=>rfl
 |n::ns=>by rw[aay,dw,lG,lU,cU,Bool.true_and];exact mJ ns
theorem t9(e:fh xs=some ys):dw xs=true/\dw ys=true:=by
 unfold fh at e;split at e
 ·cases e2:bw xs with
  |some ns=>rw[e2]at e;cases e;exact⟨qR e2,cU _⟩
  |none=>rw[e2]at e;obtain⟨pD,e3,e4⟩:=aai.mp e;cases e4;exact⟨xr e3,mJ _⟩
 ·cases e
theorem Ke{h0:Hs}(u:Up A h)(p:h0<+:h)(a:J8 A h ds vs):Rel A h (RV A h0) (blt b vs h) (iI b ds):=by
 have mm:∀(f:List Int->Option Val) (d:Val),(∀ns m,f ns=some m->∃i,m=.int i)->∀v,DB A h d v->Rel A h (RV A h0) (bnd (ask λh=>cY h v) (λxs=>bA ((bw xs).bind f)) h) (pb (pl (cY [] d)) λxs=>pb (pl ((bw xs).bind f)) λm=>.ok (true,m)):=by
  intro f d hf v hv;refine ah (R:=λxs h' ws=>ay A h' xs ws) (dG λxs e=>hv.seq e) λxs h1 ws q1 q=>?_;have:bA ((bw ws).bind f) h1=bnd (bA ((bw ws).bind f)) (λm=>ret m) h1:=by unfold bnd bA;cases (bw ws).bind f<;>rfl
  rw[this];refine ah (R:=λm _ m'=>m'=m/\∃i,m=.int i) (bz λm e=>?_) λm h2 m' _ hm=>?_
  ·obtain⟨ns,e1,e2⟩:=aai.mp e;rw[Kd q e1];exact⟨m,e,rfl,hf ns m e2⟩
  ·obtain⟨rfl,i,rfl⟩:=hm;exact aE je
 have hmin:∀ns m,uW ns=some m->∃i,m=Val.int i:=λns m e=>by cases ns<;>simp[uW]at e;exact⟨_,e.symm⟩
 have Wo:∀ns m,uX ns=some m->∃i,m=Val.int i:=λns m e=>by cases ns<;>simp[uX]at e;exact⟨_,e.symm⟩
 match ds,a with
 |[],a=>cases b<;>trivial
 |[d],a=>
  obtain⟨v,rfl,hv⟩:=a.one;cases b with
  |len=>exact ah (R:=λn _ m=>m=n) (dG λn e=>⟨n,O3 hv e,rfl⟩) λn h1 m _ e=>by subst e;exact aE je
  |min=>
   have e1:iI .min [d]=pb (pl (cY [] d)) λxs=>pb (pl ((bw xs).bind uW)) λm=>.ok (true,m):=by cases d<;>rfl
   have e2:blt .min [v]=bnd (ask λh=>cY h v) λxs=>bA ((bw xs).bind uW):=by cases v<;>rfl
   rw[e1,e2];exact mm uW d hmin v hv
  |max=>
   have e1:iI .max [d]=pb (pl (cY [] d)) λxs=>pb (pl ((bw xs).bind uX)) λm=>.ok (true,m):=by cases d<;>rfl
   have e2:blt .max [v]=bnd (ask λh=>cY h v) λxs=>bA ((bw xs).bind uX):=by cases v<;>rfl
   rw[e1,e2];exact mm uX d Wo v hv
  |sorted=>
   cases d<;>first|trivial|skip
   rename_i xs;obtain⟨ws,e1,q⟩:=hv.lst;have ev:bnd (ask λh=>aI h v) (λxs=>bnd (bA (fh xs)) λys=>new (.lst ys)) h=bnd (bA (fh ws)) (λys=>new (.lst ys)) h:=by unfold bnd ask bA;dsimp only;rw[e1]
   show Rel A h (RV A h0) (bnd (ask λh=>aI h v) (λxs=>bnd (bA (fh xs)) λys=>new (.lst ys)) h) _;rw[ev];refine ah (R:=λys _ zs=>zs=ys/\dw ys=true) (bz λys e=>?_) λys h1 zs q1 hz=>?_
   ·obtain⟨i1,i2⟩:=t9 e;rw[(b8 xs ws i1).mp q];exact⟨ys,e,rfl,i2⟩
   ·obtain⟨rfl,hi⟩:=hz;exact jd (u.ext q1) (p.trans q1) ((b8 _ _ hi).mpr rfl) λ_=>(b8 _ _ hi).mpr rfl
  |list=>refine ah (R:=λxs h' ws=>ay A h' xs ws) (dG λxs e=>hv.seq e) λxs h1 ws q1 q=>?_;exact jd (u.ext q1) (p.trans q1) q λhi=>gJ q hi
  |tuple=>trivial
  |str=>trivial
  |int=>
   cases d<;>first|trivial|skip
   ·have:=hv.bl;subst this;exact aE je
   ·have:=hv.int;subst this;exact aE je
  |all=>trivial
  |any=>trivial
  |isin T=>refine ah (R:=λn _ m=>m=n) (dG λn e=>⟨n,SS hv e,rfl⟩) λn h1 m _ e=>?_;subst e;exact ah (R:=λn _ m=>m=n) (bz λn e=>⟨n,e,rfl⟩) λn h1 m _ e=>by subst e;exact aE qQ
 |[d,e],a=>
  obtain⟨v,r,rfl,hv,hr⟩:=a;obtain⟨w,rfl,hw⟩:=J8.one hr;cases b<;>first|trivial|(cases d<;>trivial)|skip
  ·cases d<;>cases e<;>first|trivial|skip
   have:=hv.int;subst this;have:=hw.int;subst this;exact aE je
  ·cases d<;>cases e<;>first|trivial|skip
   have:=hv.int;subst this;have:=hw.int;subst this;exact aE je
 |x::y::z::t,a=>cases b<;>first|trivial|(cases x<;>trivial)|(cases x<;>cases y<;>trivial)
end
def Imp(φ:List Val->M Val)(ψ:List Val->Pr FV):Prop:=∀(A:AP) (h:Hs) (ds vs:List Val),Up A h->ay A h ds vs->Rel A h (RV A h) (φ vs h) (ψ ds)
section
variable {Φ:Nat->List Val->M Val} {Ψ:Nat->List Val->Pr FV} {A:AP} {h h1:Hs}
theorem fZ{x y:Bool}(f:(x&&y)=true):x=true/\y=true:=Bool.and_eq_true_iff.mp f
theorem vf{x y z:Bool}(f:(x&&y&&z)=true):(x=true/\y=true)/\z=true:=⟨fZ (fZ f).1,(fZ f).2⟩
def cj(Φ:Nat->List Val->M Val)(Ψ:Nat->List Val->Pr FV)(ir:IE):Prop:=∀(aa:bx) (env:Env) (A:AP) (h:Hs),Up A h->ER A aa env h->Rel A h (RV A h) (aZ Φ ir env h) (bR Ψ ir aa)
def kY(Φ:Nat->List Val->M Val)(Ψ:Nat->List Val->Pr FV)(fj:lT):Prop:=(∀(aa:bx) (env:Env) (A:AP) (h:Hs),Up A h->ER A aa env h->Rel A h (ZG A h) (bN Φ fj env h) (vc Ψ fj aa)) /\
 ∀(aa:bx) (env:Env) (A:AP) (h:Hs),Up A h->ER A aa env h->Rel A h (λds h' vs=>J8 A h' ds vs) (bN Φ fj env h) (dZ Ψ fj aa)
theorem RV.up{h0 h':Hs}(p:h0<+:h)(r:RV A h x h' v):RV A h0 x h' v:=⟨r.1,λf=>(r.2 f).fm (Fr.le p.length_le)⟩
theorem O7{h0:Hs}(p:h0<+:h)(r:Rel A h (RV A h) o x):Rel A h (RV A h0) o x:=xq r λ_ _ _ _ q=>q.up p
theorem SV{i:Nat}(e:ER A aa env h):Rel A h (Wn A) (aZ Φ (.var i) env h) (pl (jb aa (.var i))):=by
 rw[aZ];refine bz λx hx=>?_;simp only[jb]at hx;split at hx
 ·rename_i f d hd
  cases hx;have:=e i f d hd;revert this;generalize lM f=t;intro this;cases t with
  |false=>rw[aae rfl]at this;obtain⟨a,k2,k3⟩:=this;exact⟨.ref a,by rw[k2],.inr ⟨a,rfl,k3⟩⟩
  |true=>rw[aac (by decide)]at this;obtain⟨v,k1,k2⟩:=this;exact⟨v,by rw[k1],.inl k2⟩
 ·cases hx
theorem qS(o:cj Φ Ψ ir)(u:Up A h)(e:ER A aa env h):Rel A h (Wn A) (aZ Φ ir env h) (if isVar ir=true then pl (jb aa ir) else bR Ψ ir aa):=by
 by_cases hv:isVar ir=true
 ·rw[aae hv];cases ir<;>first|(cases hv;done)|exact SV e
 ·rw[aac hv];exact xq (o aa env A h u e) λ_ _ _ _ q=>q.br
theorem Bg{α β:Type}{R:α -> Hs -> β -> Prop}{c:Bool}{o:Out β}{p:Pr α}(r:c=true->Rel A h R o p):Rel A h R o (pg c p):=by
 unfold pg;cases c with
 |true=>rw[aae rfl];exact r rfl
 |false=>rw[aac aab];trivial
theorem v_var{i:Nat}:cj Φ Ψ (.var i):=λaa env A h u e=>by
 rw[aZ,bR];cases hv:aa[i]? with
 |none=>trivial
 |some o=>
  cases o with
  |none=>trivial
  |some fd=>
   obtain⟨f,d⟩:=fd;refine Bg λhf=>?_
   ·have:=e i f d hv;rw[aac (by simp[hf])]at this;obtain⟨v,k1,k2⟩:=this;rw[k1];exact⟨v,h,rfl,aaB _,qP k2⟩
theorem Kf{α:Type}{f:Hs->Option α}:ask f h=bnd (ask f) (λz=>ret z) h:=by unfold bnd ask bA;cases f h<;>rfl
theorem Bh(f:lU d=true):Dn A h d d:=(jc d d f).mpr rfl
theorem SW(f:lU d=true):cj Φ Ψ (.cst d):=λaa env A h u e=>by rw[aZ,bR];exact aE (qP (Bh f))
theorem SX(f:lU d=true):cj Φ Ψ (.con x d):=λaa env A h u e=>by rw[aZ,bR];exact aE (qP (Bh f))
theorem Wq:cj Φ Ψ .no:=λaa env A h u e=>by rw[bR];trivial
theorem SY(ha:cj Φ Ψ a)(hb:cj Φ Ψ b):cj Φ Ψ (.bin o a b):=λaa env A h u e=>by
 rw[aZ,bR];exact ah (qS ha u e) λx h1 v p1 q1=>ah (qS hb (u.ext p1) (e.ext p1)) λy h2 w p2 q2=>Ka ((u.ext p1).ext p2) (p1.trans p2) (DB.ext p2 q1) q2
theorem S0(ha:cj Φ Ψ a):cj Φ Ψ (.neg a):=λaa env A h u e=>by rw[bR];trivial
theorem S4(ha:cj Φ Ψ a)(hb:cj Φ Ψ b):cj Φ Ψ (.cmp o a b):=λaa env A h u e=>by
 rw[aZ,bR];exact ah (qS ha u e) λx h1 v p1 q1=>ah (qS hb (u.ext p1) (e.ext p1)) λy h2 w p2 q2=>
  ah (R:=λt _ t'=>t'=t) (dG λt et=>⟨t,O0 (DB.ext p2 q1) q2 et,rfl⟩) λt h3 t' p3 et=>by subst et;exact aE qQ
theorem S5(ha:cj Φ Ψ a)(hb:cj Φ Ψ b)(hc:cj Φ Ψ c):cj Φ Ψ (.chn o o' a b c):=λaa env A h u e=>by rw[bR];trivial
theorem jR(q:Dn A h d v):Rel A h (λt _ t'=>t'=t) (qy v h) (qM d):=by
 cases d<;>first|trivial|skip
 rw[Dn]at q;subst q;exact aE rfl
theorem v_and(ha:cj Φ Ψ a)(hb:cj Φ Ψ b):cj Φ Ψ (.and a b):=λaa env A h u e=>by
 rw[aZ,bR];refine ah (ha aa env A h u e) λx h1 v p1 q1=>ah (jR q1.1) λt h2 t' p2 et=>?_;subst et;cases t' with
 |true=>rw[aae rfl,aae rfl];exact ah (hb aa env A h2 ((u.ext p1).ext p2) ((e.ext p1).ext p2)) λy h3 w p3 q3=>ah (jR q3.1) λt h2 t' p2 et=>by subst et;exact aE qQ
 |false=>rw[aac aab,aac aab];exact aE qQ
theorem v_or(ha:cj Φ Ψ a)(hb:cj Φ Ψ b):cj Φ Ψ (.or a b):=λaa env A h u e=>by
 rw[aZ,bR];refine ah (ha aa env A h u e) λx h1 v p1 q1=>ah (jR q1.1) λt h2 t' p2 et=>?_;subst et;cases t' with
 |false=>rw[aac aab,aac aab];exact ah (hb aa env A h2 ((u.ext p1).ext p2) ((e.ext p1).ext p2)) λy h3 w p3 q3=>ah (jR q3.1) λt h2 t' p2 et=>by subst et;exact aE qQ
 |true=>rw[aae rfl,aae rfl];exact aE qQ
theorem v_not(ha:cj Φ Ψ a):cj Φ Ψ (.not a):=λaa env A h u e=>by
 rw[aZ,bR];exact ah (ha aa env A h u e) λx h1 v p1 q1=>ah (jR q1.1) λt h2 t' p2 et=>by subst et;exact aE qQ
theorem v_ite(hc:cj Φ Ψ c)(ha:cj Φ Ψ a)(hb:cj Φ Ψ b):cj Φ Ψ (.ite c a b):=λaa env A h u e=>by rw[bR];trivial
theorem Mh:kY Φ Ψ .nil:=⟨λaa env A h u e=>by rw[bN,vc];exact aE ⟨ay.nil,λ_=>ay.nil⟩,λaa env A h u e=>by rw[bN,dZ];exact aE rfl⟩
theorem FL(he:cj Φ Ψ e)(hs:kY Φ Ψ es):kY Φ Ψ (.cons e es):=by
 refine⟨λaa env A h u er=>?_,λaa env A h u er=>?_⟩
 ·rw[bN,vc]
  refine ah (he aa env A h u er) λx h1 v p1 q1=>ah (hs.1 aa env A h1 (u.ext p1) (er.ext p1)) λy h2 vs p2 q2=>?_;refine aE ⟨ay.cons (q1.1.ext p2) q2.1,λhf=>?_⟩;have hf':x.1=true/\y.1=true:=by simpa using hf
  exact ay.cons ((q1.2 hf'.1).ext p2) ((q2.2 hf'.2).fm (Fr.le p1.length_le))
 ·rw[bN,dZ];refine ah (qS he u er) λx h1 v p1 q1=>ah (hs.2 aa env A h1 (u.ext p1) (er.ext p1)) λy h2 vs p2 q2=>?_;exact aE ⟨v,vs,rfl,DB.ext p2 q1,q2⟩
theorem S6(hs:kY Φ Ψ es):cj Φ Ψ (.tup es):=λaa env A h u e=>by
 rw[aZ,bR];refine ah (hs.1 aa env A h u e) λx h1 vs p1 q1=>bS (λz=>by rw[<-q1.1.length];exact z) λ_=>aE ⟨?_,λhf=>?_⟩
 ·show Dn A h1 (.tup _) _;rw[Dn];exact⟨vs,rfl,q1.1⟩
 ·show Dn _ h1 (.tup _) _;rw[Dn];exact⟨vs,rfl,q1.2 hf⟩
theorem O8:cj Φ Ψ .dct0:=λaa env A h u e=>by
 rw[aZ,bR];refine⟨_,_,rfl,cz _,?_,λhf=>?_⟩
 ·show Dn A _ (.dc [] []) _;rw[Dn];exact⟨_,[],rfl,u _ (aam _),gI _,rfl,ay.nil⟩
 ·show Dn _ _ (.dc [] []) _;rw[Dn];exact⟨_,[],rfl,aam _,gI _,rfl,ay.nil⟩
theorem O9(hk:cj Φ Ψ k)(hv:cj Φ Ψ v):cj Φ Ψ (.dct1 k v):=λaa env A h u e=>by
 rw[aZ,bR];refine ah (hk aa env A h u e) λx h1 w p1 q1=>ah (R:=λkk _ kk'=>kk'=kk) (bz λkk ek=>⟨kk,ve q1.1 ek,rfl⟩) λkk h2 kk' p2 hkk=>?_;subst hkk;refine ah (hv aa env A h2 ((u.ext p1).ext p2) ((e.ext p1).ext p2)) λy h3 z p3 q3=>?_;have p:=(p1.trans p2).trans p3;refine⟨_,_,rfl,cz _,?_,λhf=>?_⟩
 ·show Dn A _ (.dc [kk'] [y.2]) _;rw[Dn];exact⟨_,[(kk',z)],rfl,u _ p.length_le,gI _,rfl,ay.cons (q3.1.ext (cz _)) ay.nil⟩
 ·show Dn _ _ (.dc [kk'] [y.2]) _;rw[Dn];exact⟨_,[(kk',z)],rfl,p.length_le,gI _,rfl,ay.cons (((q3.2 hf).fm (Fr.le (p1.trans p2).length_le)).ext (cz _)) ay.nil⟩
theorem Pa(hd:cj Φ Ψ d)(hk:cj Φ Ψ k)(hx:cj Φ Ψ x):cj Φ Ψ (.dget d k x):=λaa env A h u e=>by
 rw[aZ,bR];refine ah (qS hd u e) λo h1 v p1 q1=>ah (R:=λ_ _ _=>True) (dG λt et=>⟨t,J7 q1 et,trivial⟩) λ_ h2 _ p2 _=>?_;refine ah (hk aa env A h2 ((u.ext p1).ext p2) ((e.ext p1).ext p2)) λi h3 w p3 q3=>ah (R:=λkk _ kk'=>kk'=kk) (bz λkk ek=>⟨kk,ve q3.1 ek,rfl⟩) λkk h4 kk' p4 hkk=>?_;subst hkk;have XA:=((p1.trans p2).trans p3).trans p4;refine ah (hx aa env A h4 (u.ext XA) (e.ext XA)) λz h5 z' p5 q5=>?_;refine ah (R:=λr h' r'=>∀a b,Dn A h5 a b->Dn A h' (r.getD a) (r'.getD b)) (dG λr er=>?_) λr h6 r' p6 hr=>aE (qP (hr _ _ q5.1));obtain⟨r',e1,e2⟩:=O4 (DB.ext ((p2.trans p3).trans (p4.trans p5)) q1) er;exact⟨r',e1,e2⟩
theorem Kg(hd:cj Φ Ψ d):cj Φ Ψ (.lkeys d):=λaa env A h u e=>by rw[bR];trivial
theorem Kh(hd:cj Φ Ψ d):cj Φ Ψ (.skeys d):=λaa env A h u e=>by rw[bR];trivial
theorem xu:∀{xs:List Val} {ns:List Int},bw xs=some ns->xs=ns.map .int
 |[],ns,e=>by cases e;rfl
 | x::xs,ns,e=>by
  unfold bw at e;rw[cZ]at e;obtain⟨i,e1,e⟩:=aai.mp e;obtain⟨r,e2,e⟩:=aai.mp e;cases e;cases x<;>simp at e1;subst e1;rw[xu e2];rfl
theorem Bj{p:Nat}(e:ER A aa env h)(q:qN aa p=some kk):CP env p=some kk:=by
 unfold qN at q;split at q
 ·rename_i m d hv
  split at q
  ·rename_i hm;have:=e p m d hv;rw[aac (by simp[hm])]at this;obtain⟨v,k1,k2⟩:=this;unfold CP;rw[k1];exact ve k2 q
  ·cases q
 ·cases q
theorem Pb{p q:Nat}(hd:cj Φ Ψ d)(hw:cj Φ Ψ w):cj Φ Ψ (.dflt N' js p q d w):=λaa env A h u e=>by
 rw[aZ,bR];refine ah (R:=λkk _ kk'=>kk'=kk) (bz λkk ek=>⟨kk,Bj e ek,rfl⟩) λkp h0 kp' p0 hk=>?_;subst hk;refine ah (hd aa env A h0 (u.ext p0) (e.ext p0)) λx h1 x' p1 q1=>ah (R:=λkk _ kk'=>kk'=kk) (bz λkk ek=>⟨kk,Bj ((e.ext p0).ext p1) ek,rfl⟩) λkq h2 kq' p2 hk=>?_;subst hk;refine ah (hw aa env A h2 (((u.ext p0).ext p1).ext p2) (((e.ext p0).ext p1).ext p2)) λy h3 y' p3 q3=>bS (λz=>z) λhg=>?_;refine⟨_,_,rfl,cz _,?_,λhf=>by cases hf⟩;show Dn A _ (.dc [kp',kq'] [x.2,y.2]) _;rw[Dn];exact⟨_,[(kp',x'),(kq',y')],rfl,u _ (((p0.trans p1).trans p2).trans p3).length_le,gI _,rfl,ay.cons ((q1.1.ext (p2.trans p3)).ext (cz _)) (ay.cons (q3.1.ext (cz _)) ay.nil)⟩
theorem S7(ha:cj Φ Ψ a):cj Φ Ψ (.isc a x bs):=λaa env A h u e=>by rw[bR];trivial
theorem Pc(ha:cj Φ Ψ a):cj Φ Ψ (.sset a):=λaa env A h u e=>by
 rw[aZ,bR];refine ah (qS ha u e) λx h1 v p1 q1=>?_;obtain⟨f,d⟩:=x;cases d<;>first|trivial|skip
 rename_i xs;obtain⟨vs,e1,e2⟩:=DB.lst q1;have ea:∀(F:List Val->M Val),bnd (ask λh=>aI h v) F h1=F vs h1:=λF=>by unfold bnd ask bA;dsimp only;rw[e1]
 rw[ea];show Rel A h1 _ _ (pb (pl (bw xs)) _);refine ah (R:=λns h' ns'=>ns'=ns) (bz λns en=>⟨ns,?_,rfl⟩) λns h2 ns' p2 en=>?_
 ·have ei:=xu en;subst ei;rw[(b8 _ _ (cU ns)).mp e2];exact en
 ·subst en;refine bS (λz=>z) λ_=>?_;have hi:∀ms:List Int,ay A h2 (ms.map Val.int) (ms.map Val.int):=λms=>(b8 _ _ (cU ms)).mpr rfl;exact jd ((u.ext p1).ext p2) (p1.trans p2) (hi _) λ_=>(b8 _ _ (cU _)).mpr rfl
theorem S8(hs:kY Φ Ψ es):cj Φ Ψ (.lst es):=λaa env A h u e=>by
 rw[aZ,bR];exact ah (hs.1 aa env A h u e) λx h1 vs p1 q1=>bS (λz=>by rw[<-q1.1.length];exact z) λ_=>jd (u.ext p1) p1 q1.1 q1.2
theorem S9(ha:cj Φ Ψ a)(hb:cj Φ Ψ b):cj Φ Ψ (.idx a b):=λaa env A h u e=>by
 rw[aZ,bR];refine ah (qS ha u e) λx h1 v p1 q1=>ah (hb aa env A h1 (u.ext p1) (e.ext p1)) λy h2 w p2 q2=>?_;rw[Kf];exact ah (R:=λz h' z'=>Dn A h' z z') (dG λz ez=>O5 (DB.ext p2 q1) q2.1 ez) λz h3 z' p3 q3=>aE (qP q3)
theorem mK(o:cj Φ Ψ ir)(u:Up A h)(e:ER A aa env h) :
  Rel A h (λ(t:Option Int) _ t'=>t'=t) ((if dj ir=true then ret none else bnd (aZ Φ ir env) λv=>bnd (bA (lz v)) λi=>ret (some i)) h) (if dj ir=true then .ok none else pb (bR Ψ ir aa) λv=>pb (pl (lz v.2)) λi=>.ok (some i)):=by
 by_cases hn:dj ir=true
 ·rw[aae hn,aae hn];exact aE rfl
 ·rw[aac hn,aac hn]
  refine ah (o aa env A h u e) λx h1 v p1 q1=>ah (R:=λt _ t'=>t'=t) (bz λi ei=>?_) λt h2 t' p2 et=>by subst et;exact aE rfl
  obtain⟨f,d⟩:=x;have q:=q1.1;cases d<;>first|(cases ei;done)|skip
  dsimp only at q;rw[Dn]at q;subst q;exact⟨i,ei,rfl⟩
theorem Tc(ha:cj Φ Ψ a)(hl:cj Φ Ψ lo)(hh:cj Φ Ψ hi):cj Φ Ψ (.slc a lo hi):=λaa env A h u e=>by
 rw[aZ,bR];refine ah (qS ha u e) λx h1 v p1 q1=>ah (mK hl (u.ext p1) (e.ext p1)) λl h2 l' p2 el=>ah (mK hh ((u.ext p1).ext p2) ((e.ext p1).ext p2)) λr h3 r' p3 er=>?_;subst el;subst er;exact Kc (((u.ext p1).ext p2).ext p3) ((p1.trans p2).trans p3) (DB.ext (p2.trans p3) q1)
theorem Td(ha:cj Φ Ψ a)(hs:cj Φ Ψ sx):cj Φ Ψ (.rev a sx):=λaa env A h u e=>by rw[bR];trivial
theorem Pd{j:Nat}(hΦ:∀j,Imp (Φ j) (Ψ j))(hs:kY Φ Ψ es):cj Φ Ψ (.call j es):=λaa env A h u e=>by
 rw[aZ,bR];exact ah (hs.1 aa env A h u e) λx h1 vs p1 q1=>O7 p1 (hΦ j A h1 x.2 vs (u.ext p1) q1.1)
theorem Te{n:Nat}(ha:cj Φ Ψ a):cj Φ Ψ (.fld n a x):=λaa env A h u e=>by rw[bR];trivial
theorem Tf(hΦ:∀j,Imp (Φ j) (Ψ j))(ha:cj Φ Ψ a)(hs:kY Φ Ψ es):cj Φ Ψ (.mth a m js es):=λaa env A h u e=>by rw[bR];trivial
theorem Tg(hs:kY Φ Ψ es):cj Φ Ψ (.blt b es):=λaa env A h u e=>by
 rw[aZ,bR];exact ah (hs.2 aa env A h u e) λx h1 vs p1 q1=>Ke (u.ext p1) p1 q1
theorem Th(ha:cj Φ Ψ a)(hs:kY Φ Ψ es):cj Φ Ψ (.met m a es):=λaa env A h u e=>by
 cases m with
 |join=>rw[bR];trivial
 |_=>rw[bR]<;>first|trivial|(intro z;cases z)
def SrcR(A:AP)(h:Hs)(xs:List Val)(src:Src):Prop:=∃ws,ay A h xs ws/\∀h',h<+:h'->src.items h'=some ws
theorem kI{lo:Int}{n:Nat}:ay A h (cu lo n) (cu lo n):=by
 unfold cu;generalize List.range n=l
 induction l with
 |nil=>exact ay.nil
 |cons a l ih=>exact ay.cons (by rw[Dn]) ih
theorem iL:∀{xs ws:List Val} (i:Nat),ay A h xs ws->ay A h (gF i xs) (gF i ws)
 |[],ws,i,q=>by rw[ay]at q;subst q;exact ay.nil
 | x::xs,ws,i,q=>by
  rw[ay]at q;obtain⟨w,r,rfl,a,b⟩:=q;exact ay.cons (by rw[Dn];exact⟨_,rfl,ay.cons (by rw[Dn]) (ay.cons a ay.nil)⟩) (iL (i+1) b)
theorem Bk{ds vs:List Val}(a:DB A h (.rl ds) v):∃ws,ay A h ds ws/\((v=.rl ws)\/∃i,v=.ref i/\∀h',h<+:h'->aI h' (.ref i)=some ws):=by
 rcases a with a|⟨i,rfl,vs,g,q⟩
 ·rw[Dn]at a
  rcases a with ⟨vs,rfl,_,q⟩|⟨i,vs,rfl,_,g,q⟩
  ·exact⟨vs,q,.inl rfl⟩
  ·exact⟨vs,q,.inr ⟨i,rfl,λh' p=>by simp[aI,iD p g]⟩⟩
 ·exact⟨vs,q,.inr ⟨i,rfl,λh' p=>by simp[aI,iD p g]⟩⟩
theorem Bm(a:J8 A h ds vs):Rel A h (λxs h' src=>SrcR A h' xs src) (bA (srcOf k vs) h) (pl (FD k ds)):=by
 refine bz λxs e=>?_;cases k with
 |seq=>
  match ds,e with
  |[.tup es],e=>cases e;obtain⟨v,rfl,hv⟩:=a.one;obtain⟨ws,rfl,q⟩:=hv.tup;exact⟨.fix ws,rfl,ws,q,λ_ _=>rfl⟩
  |[.rl es],e=>
   cases e;obtain⟨v,rfl,hv⟩:=a.one;obtain⟨ws,q,rfl|⟨i,rfl,g⟩⟩:=Bk (vs:=[]) hv
   ·exact⟨.fix ws,rfl,ws,q,λ_ _=>rfl⟩
   ·exact⟨.live i,rfl,ws,q,λh' p=>g h' p⟩
 |range=>
  match ds,e with
  |[.int n],e=>
   obtain⟨v,rfl,hv⟩:=a.one;have:=hv.int;subst this;change (if inR n=true then some (cu 0 n.toNat) else none)=some _ at e;split at e
   ·rename_i hn;cases e;exact⟨.fix _,aae hn,_,kI,λ_ _=>rfl⟩
   ·cases e
  |[.int n,.int m],e=>
   obtain⟨v,r,rfl,hv,hr⟩:=a;obtain⟨w,rfl,hw⟩:=J8.one hr;have:=hv.int;subst this;have:=hw.int;subst this;change (if (inR n&&inR m)=true then some (cu n (m-n).toNat) else none)=some _ at e;split at e
   ·rename_i hn;cases e;exact⟨.fix _,aae hn,_,kI,λ_ _=>rfl⟩
   ·cases e
 |enum=>
  match ds,e with
  |[.rl es],e=>
   cases e;obtain⟨v,rfl,hv⟩:=a.one;obtain⟨ws,q,rfl|⟨i,rfl,g⟩⟩:=Bk (vs:=[]) hv
   ·exact⟨.fix _,rfl,_,iL 0 q,λ_ _=>rfl⟩
   ·exact⟨.enum i,rfl,_,iL 0 q,λh' p=>by simp[Src.items,g h' p]⟩
 |zip=>cases e
theorem Bo:∀{is:List Nat} {ds vs:List Val} {aa aL:bx} {env:Env},cK is ds aa=some aL->ay A h ds vs->ER A aa env h->(∀i∈is,i<aa.length->i<env.length)->∃env',bindAll is vs env=some env'/\ER A aL env' h
 | [],[],vs,aa,aL,env,e,q,er,_=>by
  rw[ay]at q;subst q;simp only[cK]at e;cases e;exact⟨env,rfl,er⟩
 | i::is,d::ds,vs,aa,aL,env,e,q,er,hl=>by
  rw[ay]at q;obtain⟨v,r,rfl,q1,q2⟩:=q;simp only[cK]at e;have ZH:ER A (aa.set i (some (.sh,d))) (env.set i (some v)) h:=λj f d' hj=>by
   by_cases hij:i=j
   ·subst hij
    have hi:i<aa.length:=by have:=(aal.mp hj).1;simpa using this
    rw[aar hi]at hj;cases hj;rw[aac (by decide)];exact⟨v,by rw[aar (hl i aak hi)],q1⟩
   ·rw[aaj hij]at hj;rw[aaj hij];exact er j f d' hj
  simp only[bindAll];exact Bo e q2 ZH λj hj hl'=>by simpa using hl j (aaf _ hj) (by simpa using hl')
 |[],_::_,_,_,_,_,e,_,_,_=>by simp[cK]at e
 |_::_,[],_,_,_,_,e,_,_,_=>by simp[cK]at e
theorem xw(e:cO p d aa=some aL)(q:Dn A h d v)(er:ER A aa env h)(hl:aa.length<=env.length):∃env',gZ p v env=some env'/\ER A aL env' h:=by
 cases p with
 |one i=>
  simp only[cO]at e;cases e;refine⟨_,rfl,λj f d' hj=>?_⟩
  by_cases hij:i=j
  ·subst hij
   have hi:i<aa.length:=by have:=(aal.mp hj).1;simpa using this
   rw[aar hi]at hj;cases hj;rw[aac (by decide)];exact⟨v,by rw[aar (by omega)],q⟩
  ·rw[aaj hij]at hj;rw[aaj hij];exact er j f d' hj
 |tup is=>
  cases d<;>simp only[cO]at e<;>first|(cases e;done)|skip
  rw[Dn]at q;obtain⟨vs,rfl,q⟩:=q;exact Bo e q er λi _ hi=>by omega
theorem Bp(e:ER A aa env h):ER A (iJ js aa) (jN js env) h:=λi f d q=>by
 unfold iJ at q;rw[aaI]at q;cases hj:js[i]? with
 |none=>rw[hj]at q;cases q
 |some o=>
  rw[hj]at q;simp only[map_some]at q;cases o with
  |none=>cases q
  |some j=>
   dsimp only at q;cases ej:aa[j]? with
   |none=>rw[ej]at q;cases q
   |some w=>
    cases w with
    |none=>rw[ej]at q;cases q
    |some fd=>
     rw[ej]at q;cases q;have:=e j f d ej;revert this;generalize lM f=t;intro this;cases t with
     |false=>rw[aae rfl]at this |-;obtain⟨a,k2,k3⟩:=this;refine⟨a,?_,k3⟩;unfold jN;rw[aaI,hj];simp only[map_some];rw[k2]
     |true=>rw[aac (by decide)]at this |-;obtain⟨v,k1,k2⟩:=this;refine⟨v,?_,k2⟩;unfold jN;rw[aaI,hj];simp only[map_some];rw[k1]
theorem qT :
  ∀(xs:List Val) (vs:List Val) (i:Nat) (acc:List Val) (h:Hs),hb<+:h->Up A h->(∀h',h<+:h'->src.items h'=some ws)->ws.drop i=vs->ay A h xs vs ->
   (∀x v h',h<+:h'->Dn A h' x v->Rel A h' (λo h'' o'=>match o,o' with|some e,some e'=>RV A hb e h'' e'|none,none=>True|_,_=>False) (f v h') (g x)) ->
   Rel A h (λp h' ys=>∃zs,ys=acc++zs/\ay A h' p.2 zs/\(p.1=true->ay (Fr hb.length) h' p.2 zs)) (fJ src f vs.length i acc h) (jy g xs)
 | [],vs,i,acc,h,XD,u,hi,hd,q,hf=>by
  rw[ay]at q;subst q;have hl:ws.length<=i:=List.drop_eq_nil_iff.mp hd;have ev:fJ src f ([]:List Val).length i acc h=.ok acc h:=by show fJ src f 0 i acc h=_;simp only[fJ];unfold bnd ask bA aO;dsimp only;rw[hi h (aaB _)];dsimp only;rw[aae (decide_eq_true hl)];rfl
  rw[ev,jy];exact⟨acc,h,rfl,aaB _,[],by simp,ay.nil,λ_=>ay.nil⟩
 | x::xs,vs,i,acc,h,XD,u,hi,hd,q,hf=>by
  rw[ay]at q;obtain⟨v,r,rfl,q1,q2⟩:=q;have hv:ws[i]?=some v:=by have:=congrArg (λl=>l[0]?) hd;simpa using this
  have hr:ws.drop (i+1)=r:=by
   have:ws.drop (i+1)=(ws.drop i).drop 1:=by rw[List.drop_drop]
   rw[this,hd];rfl
  have ev:fJ src f (v::r).length i acc h=bnd (f v) (λo=>fJ src f r.length (i+1) (match o with|some e=>acc++[e]|none=>acc)) h:=by show fJ src f (r.length+1) i acc h=_;simp only[fJ];unfold bnd ask bA;dsimp only;rw[hi h (aaB _)];dsimp only;rw[hv];try rfl
  rw[ev,jy];refine ah (hf x v h (aaB _) q1) λo h1 o' p1 ho=>?_;have ih:=λacc'=>qT xs r (i+1) acc' h1 (XD.trans p1) (u.ext p1) (λh' p=>hi h' (p1.trans p)) hr (q2.ext p1) λx v h' p=>hf x v h' (p1.trans p);cases o' with
  |some e'=>
   cases o with
   |none=>exact ho.elim
   |some e=>
    have ih:=ih (acc++[e']);cases e2:jy g xs with
    |ok p=>
     rw[e2]at ih;obtain⟨ys,h2,e3,p2,zs,rfl,z1,z2⟩:=ih;refine⟨_,h2,e3,p2,e'::zs,by simp,ay.cons (ho.1.ext p2) z1,λhp=>?_⟩;have XE:e.1=true/\p.1=true:=by simpa using hp
     exact ay.cons ((ho.2 XE.1).ext p2) (z2 XE.2)
    |exc c es=>rw[e2]at ih;exact ih
    |no=>trivial
  |none=>
   cases o with
   |some e'=>exact ho.elim
   |none=>
    have ih:=ih acc;cases e2:jy g xs with
    |ok p=>rw[e2]at ih;obtain⟨ys,h2,e3,p2,zs,rfl,z1,z2⟩:=ih;exact⟨_,h2,e3,p2,zs,rfl,z1,z2⟩
    |exc c es=>rw[e2]at ih;exact ih
    |no=>trivial
theorem xx{α β:Type}{R:α -> Hs -> β -> Prop}{m:M β}{p:Pr α}(r:Rel A h R (m h) p):Rel A h R (calm m h) (FE p):=by
 cases p with
 |ok a=>obtain⟨b,h1,e,q⟩:=r;unfold calm;rw[e];exact⟨b,h1,rfl,q⟩
 |exc c es=>trivial
 |no=>trivial
theorem FN{c:Nat}:Imp (wG c) (Mb c):=λA h ds vs u q=>by
 have l:=q.length
 match ds,vs,l,q with
 |[],[],_,_=>exact⟨[],h,rfl,aaB _,rfl⟩
 |_::_,_,_,_=>trivial
theorem Kl{c:Nat}:Imp (zv c g) (SQ c g):=λA h ds vs u q=>by
 have l:=q.length
 match ds,vs,l,q with
 |[],_,_,_=>trivial
 |a::b::r,_,_,_=>cases a<;>trivial
 |[d],[v],_,q=>
  cases d with
  |int i=>
   have e:v=.int i:=by obtain⟨y,r,z,q2,_⟩:=q;cases z;rw[Dn]at q2;exact q2
   subst e;have d1:Dn A h (.str g) (.str g):=by rw[Dn]
   have d2:Dn A h (.int i) (.int i):=by rw[Dn]
   exact⟨[.str g,.int i],h,rfl,aaB _,⟨_,_,rfl,d1,⟨_,_,rfl,d2,rfl⟩⟩⟩
  |_=>trivial
theorem Pe(hs:kY Φ Ψ it)(hc:cj Φ Ψ c)(he:cj Φ Ψ elt):cj Φ Ψ (.comp N js pat k it c elt):=λaa env A h u e=>by
 rw[aZ,bR];refine xx ?_;refine ah (hs.2 aa env A h u e) λds h1 vs p1 q1=>ah (Bm q1) λxs h2 src p2 q2=>?_;obtain⟨ws,q3,q4⟩:=q2;have l:=q3.length;have ev:∀(F:List Val->M Val),bnd (ask λh=>src.items h) F h2=F ws h2:=λF=>by unfold bnd ask bA;dsimp only;rw[q4 h2 (aaB _)]
 rw[ev];refine bS (λz=>by rw[<-l];exact z) λ_=>?_;have u2:=(u.ext p1).ext p2;have e2:=(e.ext p1).ext p2;refine ah (qT (hb:=h) xs ws 0 [] h2 (p1.trans p2) u2 q4 rfl q3 λx v h' p' qx=>?_) λp h3 ys p3 hp=>?_
 ·refine ah (R:=λaL _ env'=>∃_:ER A aL env' h',True) (bz λaL ev'=>?_) λaL h4 env' p4 he'=>?_
  ·obtain⟨env',a1,a2⟩:=xw ev' qx (Bp (e2.ext p')) (by simp[iJ,jN]);exact⟨env',a1,a2,trivial⟩
  ·obtain⟨er,_⟩:=he'
   have er:=er.ext p4;have u4:=(u2.ext p').ext p4;have SN:Rel A h4 (λt _ t'=>t'=t) ((if dj c=true then ret true else bnd (aZ Φ c env') λv=>ask λh=>cR h v) h4) (if dj c=true then .ok true else pb (bR Ψ c aL) λv=>pl (cR [] v.2)):=by
    by_cases hn:dj c=true
    ·rw[aae hn,aae hn];exact aE rfl
    ·rw[aac hn,aac hn];exact ah (hc aL env' A h4 u4 er) λy h5 w p5 q5=>dG λt et=>⟨t,zH q5.br et,rfl⟩
   refine ah SN λt h5 t' p5 et=>?_;subst et;cases t' with
   |true=>rw[aae rfl,aae rfl];exact ah (he aL env' A h5 (u4.ext p5) (er.ext p5)) λy h6 w p6 q6=>aE (q6.up ((p1.trans p2).trans (p'.trans (p4.trans p5))))
   |false=>rw[aac aab,aac aab];exact aE trivial
 ·obtain⟨zs,rfl,z1,z2⟩:=hp;exact jd (u2.ext p3) ((p1.trans p2).trans p3) z1 z2
mutual
noncomputable def dI:IE->Bool
 |.cst d=>lU d
 |.con _ d=>lU d
 |.bin _ a b=>dI a&&dI b
 |.neg a=>dI a
 |.cmp _ a b=>dI a&&dI b
 |.chn _ _ a b c=>dI a&&dI b&&dI c
 |.and a b=>dI a&&dI b
 |.or a b=>dI a&&dI b
 |.not a=>dI a
 |.ite a b c=>dI a&&dI b&&dI c
 |.tup es=>mL es
 |.lst es=>mL es
 |.idx a b=>dI a&&dI b
 |.slc a b c=>dI a&&dI b&&dI c
 |.call _ es=>mL es
 |.blt _ es=>mL es
 |.met _ a es=>dI a&&mL es
 |.comp _ _ _ _ es a b=>mL es&&dI a&&dI b
 |.var _=>true
 |.no=>true
 |.dct0=>true
 |.sset a=>dI a
 |.dget a b c=>dI a&&dI b&&dI c
 |.dct1 a b=>dI a&&dI b
 |.lkeys a=>dI a
 |.sdef ..=>false
 |.svals _=>false
 |.skeys a=>dI a
 |.fld _ a _=>dI a
 |.mth a _ _ es=>dI a&&mL es
 |.rev a b=>dI a&&dI b
 |.dflt _ _ _ _ a b=>dI a&&dI b
 |.isc a _ _=>dI a
noncomputable def mL:lT->Bool
 |.nil=>true
 |.cons e es=>dI e&&mL es
end
theorem v_all(hΦ:∀j,Imp (Φ j) (Ψ j)):(∀ir,dI ir=true->cj Φ Ψ ir)/\∀fj,mL fj=true->kY Φ Ψ fj:=by
 have one:∀ir,dI ir=true->cj Φ Ψ ir:=by
  intro ir;refine IE.rec (motive_1:=λir=>dI ir=true->cj Φ Ψ ir) (motive_2:=λfj=>mL fj=true->kY Φ Ψ fj) ?_ ?_ ?_ ?_ ?_ ?_ ?_ ?_ ?_ ?_ ?_ ?_ ?_ ?_ ?_ ?_ ?_ ?_ ?_ ?_ ?_ ?_ ?_ ?_ ?_ ?_ ?_ ?_ ?_ ?_ ?_ ?_ ?_ ?_ ?_ ir
  ·exact λ_ _=>v_var
  ·exact λ_ f=>SW f
  ·exact λ_ _ f=>SX f
  ·exact λ_=>Wq
  ·intro _ _ _ a b f;have f:=fZ f;exact SY (a f.1) (b f.2)
  ·intro _ a f;exact S0 (a f)
  ·intro _ _ _ a b f;have f:=fZ f;exact S4 (a f.1) (b f.2)
  ·intro _ _ _ _ _ a b c f;have f:=vf f;exact S5 (a f.1.1) (b f.1.2) (c f.2)
  ·intro _ _ a b f;have f:=fZ f;exact v_and (a f.1) (b f.2)
  ·intro _ _ a b f;have f:=fZ f;exact v_or (a f.1) (b f.2)
  ·intro _ a f;exact v_not (a f)
  ·intro _ _ _ a b c f;have f:=vf f;exact v_ite (a f.1.1) (b f.1.2) (c f.2)
  ·intro _ a f;exact S6 (a f)
  ·intro _ a f;exact S8 (a f)
  ·intro _ _ a b f;have f:=fZ f;exact S9 (a f.1) (b f.2)
  ·intro _ _ _ a b c f;have f:=vf f;exact Tc (a f.1.1) (b f.1.2) (c f.2)
  ·intro _ _ a f;exact Pd hΦ (a f)
  ·intro _ _ a f;exact Tg (a f)
  ·intro _ _ _ a b f;have f:=fZ f;exact Th (a f.1) (b f.2)
  ·intro _ _ _ _ _ _ _ a b c f;have f:=vf f;exact Pe (a f.1.1) (b f.1.2) (c f.2)
  ·exact λ_=>O8
  ·intro _ a f;exact Pc (a f)
  ·intro _ _ _ a b c f;have f:=vf f;exact Pa (a f.1.1) (b f.1.2) (c f.2)
  ·intro _ _ a b f;have f:=fZ f;exact O9 (a f.1) (b f.2)
  ·intro _ a f;exact Kg (a f)
  ·intro _ _ _ _ _ _ f;exact nomatch (show false=true from f)
  ·intro _ _ f;exact nomatch (show false=true from f)
  ·intro _ a f;exact Kh (a f)
  ·intro _ _ _ a f;exact Te (a f)
  ·intro _ _ _ _ a b f;have f:=fZ f;exact Tf hΦ (a f.1) (b f.2)
  ·intro _ _ a b f;have f:=fZ f;exact Td (a f.1) (b f.2)
  ·intro _ _ _ _ _ _ a b f;have f:=fZ f;exact Pb (a f.1) (b f.2)
  ·intro _ _ _ a f;exact S7 (a f)
  ·exact λ_=>Mh
  ·intro _ _ a b f;have f:=fZ f;exact FL (a f.1) (b f.2)
 refine⟨one,λfj=>?_⟩
 induction fj using lT.rec (motive_1:=λ_=>True) with
 |nil=>exact λ_=>Mh
 |cons e es _ ih=>exact λf=>by have f:=fZ f;exact FL (one e f.1) (ih f.2)
 |_=>trivial
end
section
variable {A A':AP} {h h':Hs}
mutual
theorem Dn.move(hn:A none->A' none)(hh:∀(i:Nat) (o:Ob),A (some i)->h[i]?=some o->A' (some i)/\h'[i]?=some o):∀(d v:Val),Dn A h d v->Dn A' h' d v
 |.non,v,e=>by rw[Dn]at e |-;exact e
 |.bl _,v,e=>by rw[Dn]at e |-;exact e
 |.int _,v,e=>by rw[Dn]at e |-;exact e
 |.str _,v,e=>by rw[Dn]at e |-;exact e
 | .tup ds,v,e=>by
  rw[Dn]at e |-;obtain⟨vs,rfl,q⟩:=e;exact⟨vs,rfl,ay.move hn hh ds vs q⟩
 | .rl ds,v,e=>by
  rw[Dn]at e |-
  rcases e with ⟨vs,rfl,n,q⟩|⟨i,vs,rfl,a,g,q⟩
  ·exact .inl ⟨vs,rfl,hn n,ay.move hn hh ds vs q⟩
  ·exact .inr ⟨i,vs,rfl,(hh i _ a g).1,(hh i _ a g).2,ay.move hn hh ds vs q⟩
 | .dc ks ds,v,e=>by
  rw[Dn]at e |-;obtain⟨i,kvs,rfl,a,g,k,q⟩:=e;exact⟨i,kvs,rfl,(hh i _ a g).1,(hh i _ a g).2,k,ay.move hn hh ds _ q⟩
 | .ob c xs ds,v,e=>by
  rw[Dn]at e |-;obtain⟨i,kvs,rfl,a,g,k,q⟩:=e;exact⟨i,kvs,rfl,(hh i _ a g).1,(hh i _ a g).2,k,ay.move hn hh ds _ q⟩
 |.ref _,v,e=>by rw[Dn]at e;exact e.elim
theorem ay.move(hn:A none->A' none)(hh:∀(i:Nat) (o:Ob),A (some i)->h[i]?=some o->A' (some i)/\h'[i]?=some o):∀(ds vs:List Val),ay A h ds vs->ay A' h' ds vs
 |[],vs,e=>by rw[ay]at e |-;exact e
 | d::ds,vs,e=>by
  rw[ay]at e |-;obtain⟨v,r,rfl,q1,q2⟩:=e;exact⟨v,r,rfl,Dn.move hn hh d v q1,ay.move hn hh ds r q2⟩
end
end
def Al(A0:AP)(O:Nat->Option Nat):AP:=λo=>A0 o/\∀i,o.isSome=true->O i≠o
structure SR (A0:AP) (h0:Hs) (aa:bx) (env:Env) (h:Hs) (O:Nat->Option Nat):Prop where
 len:aa.length=env.length
 sh:∀(i:Nat) (m:Mk) (d:Val),aa[i]?=some (some (m,d))->lM m=true->∃v,env[i]?=some (some v)/\Dn (Al A0 O) h d v/\(Q0 m=true->Dn (Al (Fr h0.length) O) h d v)
 ow:∀(i:Nat) (d:Val),aa[i]?=some (some (.ow,d))->∃a,env[i]?=some (some (.ref a))/\O i=some a/\OD (Al A0 O) h d a
 own:∀i a,O i=some a->h0.length<=a/\a<h.length/\∃d,aa[i]?=some (some (.ow,d))
 inj:∀i j a,O i=some a->O j=some a->i=j
 pre:h0<+:h
 up:Up A0 h0
structure Fm (m:List Nat) (aa:bx) (env:Env) (h:Hs) (O:Nat->Option Nat) (aL:bx) (env':Env) (h':Hs) (O':Nat->Option Nat):Prop where
 le:h.length<=h'.length
 keep:∀k,k<h.length->(∀i,O i≠some k)->h'[k]?=h[k]?/\∀i,O' i≠some k
 stay:∀i,i∉m->O' i=O i/\aL[i]?=aa[i]?/\env'[i]?=env[i]?/\∀a,O i=some a->h'[a]?=h[a]?
def RF(A0:AP)(h0:Hs)(m:List Nat)(aa:bx)(env:Env)(h:Hs)(O:Nat->Option Nat):Mf->Hs->Fl->Prop
 |.nx aL,h',.nx env'=>∃O',SR A0 h0 aL env' h' O'/\Fm m aa env h O aL env' h' O'
 |.bk aL,h',.bk env'=>∃O',SR A0 h0 aL env' h' O'/\Fm m aa env h O aL env' h' O'
 |.ct aL,h',.ct env'=>∃O',SR A0 h0 aL env' h' O'/\Fm m aa env h O aL env' h' O'
 |.rt p,h',.rt v=>Dn A0 h' p.2 v/\(p.1=true->Dn (Fr h0.length) h' p.2 v)/\h0<+:h'
 |_,_,_=>False
def gK(A0:AP)(h0:Hs){α β:Type}(R:α -> Hs -> β -> Prop)(o:Out β):Pr α -> Prop
 |.ok f=>∃g h',o=.ok g h'/\R f h' g
 |.exc c es=>∃ws h',o=.exc c ws h'/\h0<+:h'/\ay A0 h' es ws
 |.no=>True
section
variable {A0:AP} {h0:Hs} {aa:bx} {env:Env} {h h1:Hs} {O:Nat->Option Nat} {m:List Nat}
theorem SR.er(s:SR A0 h0 aa env h O):ER (Al A0 O) aa env h:=λi f d e=>by
 cases f with
 |ow=>rw[aae (show lM .ow=false by decide)];obtain⟨a,k2,_,k3⟩:=s.ow i d e;exact⟨a,k2,k3⟩
 |sh=>rw[aac (by decide)];obtain⟨v,k1,k2,_⟩:=s.sh i _ d e rfl;exact⟨v,k1,k2⟩
 |nw=>rw[aac (by decide)];obtain⟨v,k1,k2,_⟩:=s.sh i _ d e rfl;exact⟨v,k1,k2⟩
theorem SR.Bq(s:SR A0 h0 aa env h O):Up (Al A0 O) h:=λk hk=>⟨s.up k (aaE s.pre.length_le hk),λi _ e=>by have:=(s.own i k e).2.1;omega⟩
theorem SR.ext(s:SR A0 h0 aa env h O)(p:h<+:h1):SR A0 h0 aa env h1 O where
 len:=s.len
 sh i m d e hm:=by obtain⟨v,k1,k2,k3⟩:=s.sh i m d e hm;exact⟨v,k1,k2.ext p,λz=>(k3 z).ext p⟩
 ow i d e:=by obtain⟨a,k2,k3,k4⟩:=s.ow i d e;exact⟨a,k2,k3,k4.ext p⟩
 own i a e:=by obtain⟨k1,k2,k3⟩:=s.own i a e;exact⟨k1,aas k2 p.length_le,k3⟩
 inj:=s.inj
 pre:=s.pre.trans p
 up:=s.up
theorem mP(p:h<+:h1){k:Nat}(hk:k<h.length):h1[k]?=h[k]?:=by
 obtain⟨t,rfl⟩:=p;rw[aax hk]
theorem Fm.refl(s:SR A0 h0 aa env h O)(p:h<+:h1):Fm m aa env h O aa env h1 O where
 le:=p.length_le
 keep k hk n:=⟨mP p hk,n⟩
 stay i _:=⟨rfl,rfl,rfl,λa e=>mP p (s.own i a e).2.1⟩
theorem Fm.trans{mQ oq:bx}{vg nN:Env}{h2:Hs}{O1 O2:Nat->Option Nat}(a:Fm m aa env h O mQ vg h1 O1)(b:Fm m mQ vg h1 O1 oq nN h2 O2):Fm m aa env h O oq nN h2 O2 where
 le:=aaE a.le b.le
 keep k hk n:=by obtain⟨a1,a2⟩:=a.keep k hk n;obtain⟨b1,b2⟩:=b.keep k (aas hk a.le) a2;exact⟨b1.trans a1,b2⟩
 stay i hi:=by obtain⟨a1,a2,a3,a4⟩:=a.stay i hi;obtain⟨b1,b2,b3,b4⟩:=b.stay i hi;exact⟨b1.trans a1,b2.trans a2,b3.trans a3,λc e=>(b4 c (a1.trans e)).trans (a4 c e)⟩
theorem Fm.fm{m':List Nat}(hm:∀i∈m,i∈m')(a:Fm m aa env h O aL env' h1 O'):Fm m' aa env h O aL env' h1 O':=⟨a.le,a.keep,λi hi=>a.stay i λz=>hi (hm i z)⟩
theorem RF.pre(s:SR A0 h0 aa env h O)(p:h<+:h1)(r:RF A0 h0 m aa env h1 O f h' g):RF A0 h0 m aa env h O f h' g:=by
 cases f<;>cases g<;>first|exact r.elim|exact r|(obtain⟨O',a,b⟩:=r;exact⟨O',a,(Fm.refl s p).trans b⟩)
theorem RF.fm{m':List Nat}(hm:∀i∈m,i∈m')(r:RF A0 h0 m aa env h O f h' g):RF A0 h0 m' aa env h O f h' g:=by
 cases f<;>cases g<;>first|exact r.elim|exact r|(obtain⟨O',a,b⟩:=r;exact⟨O',a,b.fm hm⟩)
theorem RF.seq{mQ:bx}{vg:Env}{O1:Nat->Option Nat}(a:Fm m aa env h O mQ vg h1 O1)(r:RF A0 h0 m mQ vg h1 O1 f h' g):RF A0 h0 m aa env h O f h' g:=by
 cases f<;>cases g<;>first|exact r.elim|exact r|(obtain⟨O',b,c⟩:=r;exact⟨O',b,a.trans c⟩)
theorem bK{α β γ δ:Type}{R:α -> Hs -> β -> Prop}{R':γ -> Hs -> δ -> Prop}{mm:M β}{f:β -> M δ}{p:Pr α}{F:α -> Pr γ}(s:SR A0 h0 aa env h O)(r:Rel (Al A0 O) h R (mm h) p)(k:∀a h1 b,h<+:h1->R a h1 b->gK A0 h0 R' (f b h1) (F a)):gK A0 h0 R' (bnd mm f h) (pb p F):=by
 unfold bnd;cases p with
 |ok a=>obtain⟨b,h1,e,q,r⟩:=r;rw[e];exact k a h1 b q r
 |exc c es=>obtain⟨ws,h1,e,q,r⟩:=r;rw[e];exact⟨ws,h1,rfl,s.pre.trans q,r.fm λ_ z=>z.1⟩
 |no=>trivial
theorem bG{α β:Type}{R:α -> Hs -> β -> Prop}{a:α}{b:β}(r:R a h b):gK A0 h0 R (ret b h) (.ok a):=⟨b,h,rfl,r⟩
theorem iM{α β:Type}{R R':α -> Hs -> β -> Prop}{o:Out β}{p:Pr α}(r:gK A0 h0 R o p)(k:∀a h' b,R a h' b->R' a h' b):gK A0 h0 R' o p:=by
 cases p with
 |ok a=>obtain⟨b,h',e,r⟩:=r;exact⟨b,h',e,k a h' b r⟩
 |exc c es=>exact r
 |no=>trivial
theorem qU{α β γ δ:Type}{R:α -> Hs -> β -> Prop}{R':γ -> Hs -> δ -> Prop}{mm:M β}{f:β -> M δ}{p:Pr α}{F:α -> Pr γ}(r:gK A0 h0 R (mm h) p)(k:∀a h1 b,R a h1 b->gK A0 h0 R' (f b h1) (F a)):gK A0 h0 R' (bnd mm f h) (pb p F):=by
 unfold bnd;cases p with
 |ok a=>obtain⟨b,h1,e,r⟩:=r;rw[e];exact k a h1 b r
 |exc c es=>obtain⟨ws,h1,e,q,r⟩:=r;rw[e];exact⟨ws,h1,rfl,q,r⟩
 |no=>trivial
theorem jf{α β:Type}{R:α -> Hs -> β -> Prop}{c:Bool}{o:Out β}{p:Pr α}(r:c=true->gK A0 h0 R o p):gK A0 h0 R o (pg c p):=by
 unfold pg;cases c with
 |true=>rw[aae rfl];exact r rfl
 |false=>rw[aac aab];trivial
def ck(O:Nat->Option Nat)(i:Nat):Nat->Option Nat:=λj=>if j=i then none else O j
theorem pL:Al A0 O none->Al A0 O none:=id
theorem jS:Al A0 O none->Al A0 O' none:=λh=>⟨h.1,λ_ z=>by cases z⟩
theorem dH{i:Nat}:∀k,Al A0 O k->Al A0 (ck O i) k:=λk ⟨a,b⟩=>⟨a,λj z=>by unfold ck;split;(cases k<;>simp_all);exact b j z⟩
theorem SR.setM(s:SR A0 h0 aa env h O){i:Nat}{mk:Mk}{d v:Val}(ZI:lM mk=true)(q:Dn (Al A0 O) h d v)(qn:Q0 mk=true->Dn (Al (Fr h0.length) O) h d v):SR A0 h0 (aa.set i (some (mk,d))) (env.set i (some v)) h (ck O i)/\Fm [i] aa env h O (aa.set i (some (mk,d))) (env.set i (some v)) h (ck O i):=by
 refine⟨⟨by simp[s.len],λj m' d' e hm'=>?_,λj d' e=>?_,λj a e=>?_,λj l a e1 e2=>?_,s.pre,s.up⟩,aam _,λk hk n=>⟨rfl,λj=>?_⟩,λj hj=>?_⟩
 ·by_cases hij:i=j
  ·subst hij
   have hi:i<aa.length:=by have:=(aal.mp e).1;simpa using this
   rw[aar hi]at e;cases e;exact⟨v,by rw[aar (by rw[<-s.len];exact hi)],q.fm dH,λz=>(qn z).fm dH⟩
  ·rw[aaj hij]at e;rw[aaj hij];obtain⟨w,k1,k2,k3⟩:=s.sh j m' d' e hm';exact⟨w,k1,k2.fm dH,λz=>(k3 z).fm dH⟩
 ·by_cases hij:i=j
  ·subst hij
   have hi:i<aa.length:=by have:=(aal.mp e).1;simpa using this
   rw[aar hi]at e;cases e;cases ZI
  ·rw[aaj hij]at e;rw[aaj hij];obtain⟨a,k2,k3,k4⟩:=s.ow j d' e;exact⟨a,k2,by unfold ck;rw[aac (λz=>hij z.symm)];exact k3,k4.mono (λ_ g=>g) λ_ _ z=>z.fm dH⟩
 ·unfold ck at e
  split at e
  ·cases e
  ·rename_i hj;obtain⟨k1,k2,d',k3⟩:=s.own j a e;exact⟨k1,k2,d',by rw[aaj (λz=>hj z.symm)];exact k3⟩
 ·unfold ck at e1 e2
  split at e1
  ·cases e1
  ·split at e2
   ·cases e2
   ·exact s.inj j l a e1 e2
 ·unfold ck;split;simp;exact n j
 ·have hj':j≠i:=by simpa using hj
  exact⟨by unfold ck;rw[aac hj'],aaj (λz=>hj' z.symm),aaj (λz=>hj' z.symm),λ_ _=>rfl⟩
theorem SR.set(s:SR A0 h0 aa env h O){i:Nat}(q:Dn (Al A0 O) h d v):SR A0 h0 (aa.set i (some (.sh,d))) (env.set i (some v)) h (ck O i)/\Fm [i] aa env h O (aa.set i (some (.sh,d))) (env.set i (some v)) h (ck O i):=s.setM rfl q λz=>nomatch z
theorem SR.binds:∀{is:List Nat} {ds vs:List Val} {aa:bx} {env:Env} {O:Nat->Option Nat} {aL:bx},SR A0 h0 aa env h O->cK is ds aa=some aL->ay (Al A0 O) h ds vs ->
  ∃env' O',bindAll is vs env=some env'/\SR A0 h0 aL env' h O'/\Fm is aa env h O aL env' h O'
 | [],[],vs,aa,env,O,aL,s,e,q=>by
  rw[ay]at q;subst q;simp only[cK]at e;cases e;exact⟨env,O,rfl,s,Fm.refl s (aaB _)⟩
 | i::is,d::ds,vs,aa,env,O,aL,s,e,q=>by
  rw[ay]at q;obtain⟨v,r,rfl,q1,q2⟩:=q;simp only[cK]at e;obtain⟨s1,f1⟩:=s.set (i:=i) q1;obtain⟨env',O',b1,b2,b3⟩:=SR.binds s1 e (q2.fm dH);refine⟨env',O',by simp only[bindAll];exact b1,b2,(f1.fm λj hj=>?_).trans (b3.fm λj hj=>aaf _ hj)⟩;rw[aaq.mp hj];exact aak
 |[],_::_,_,_,_,_,_,_,e,_=>by simp[cK]at e
 |_::_,[],_,_,_,_,_,_,e,_=>by simp[cK]at e
theorem SR.bind(s:SR A0 h0 aa env h O)(e:cO p d aa=some aL)(q:Dn (Al A0 O) h d v):∃env' O',gZ p v env=some env'/\SR A0 h0 aL env' h O'/\Fm (stored p) aa env h O aL env' h O':=by
 cases p with
 |one i=>simp only[cO]at e;cases e;obtain⟨s1,f1⟩:=s.set (i:=i) q;exact⟨_,_,rfl,s1,f1⟩
 |tup is=>
  cases d<;>simp only[cO]at e<;>first|(cases e;done)|skip
  rw[Dn]at q;obtain⟨vs,rfl,q⟩:=q;exact s.binds e q
theorem Km{a:Nat}(p:h0<+:h)(ha:h0.length<=a):h0<+:h.set a o:=by
 obtain⟨t,rfl⟩:=p;rw[List.set_append_right _ _ ha];exact aa0 _ _
theorem SR.put(s:SR A0 h0 aa env h O){i a:Nat}{d d1:Val}(e:aa[i]?=some (some (.ow,d)))(ha:O i=some a)(q:OB (Al A0 O) h d1 ob) :
  SR A0 h0 (aa.set i (some (.ow,d1))) env (h.set a ob) O/\Fm [i] aa env h O (aa.set i (some (.ow,d1))) env (h.set a ob) O:=by
 obtain⟨o1,o2,_⟩:=s.own i a ha;have hi:i<aa.length:=(aal.mp e).1;have mv:∀{A0:AP} (k:Nat) (o:Ob),Al A0 O k->h[k]?=some o->Al A0 O k/\(h.set a ob)[k]?=some o:=λk o hk g=>⟨hk,by rw[aaj λz=>hk.2 i rfl (by rw[<-z];exact ha)];exact g⟩;obtain⟨a0,e2,e3,_⟩:=s.ow i d e;refine⟨⟨by simp[s.len],λj m' d' ej hm'=>?_,λj d' ej=>?_,λj b ej=>?_,s.inj,Km s.pre o1,s.up⟩,by simp,λk hk n=>⟨?_,n⟩,λj hj=>?_⟩
 ·by_cases hij:i=j
  ·subst hij;rw[aar hi]at ej;cases ej;cases hm'
  ·rw[aaj hij]at ej;obtain⟨w,k1,k2,k3⟩:=s.sh j m' d' ej hm';exact⟨w,k1,Dn.move pL mv _ _ k2,λz=>Dn.move pL mv _ _ (k3 z)⟩
 ·by_cases hij:i=j
  ·subst hij;rw[aar hi]at ej;cases ej;rw[ha]at e3;cases e3;exact⟨a,e2,ha,q.od (by rw[aar o2]) λ_ _ z=>ay.move pL mv _ _ z⟩
  ·rw[aaj hij]at ej;obtain⟨a1,k2,k3,k4⟩:=s.ow j d' ej;have:a≠a1:=λz=>hij (s.inj i j a ha (by rw[z];exact k3));exact⟨a1,k2,k3,k4.mono (λ_ g=>by rw[aaj this];exact g) λ_ _ z=>ay.move pL mv _ _ z⟩
 ·obtain⟨k1,k2,d',k3⟩:=s.own j b ej
  refine⟨k1,by simp[k2],?_⟩
  by_cases hij:i=j
  ·subst hij;exact⟨_,by rw[aar hi]⟩
  ·exact⟨d',by rw[aaj hij];exact k3⟩
 ·rw[aaj λz=>n i (by rw[<-z];exact ha)]
 ·have hj':j≠i:=by simpa using hj
  exact⟨rfl,aaj (λz=>hj' z.symm),rfl,λb eb=>by rw[aaj λz=>hj' (s.inj j i b eb (by rw[<-z];exact ha))]⟩
theorem SR.Wr(s:SR A0 h0 aa env h O){j a:Nat}(e:aa[j]?=some (some (.ow,d)))(ha:O j=some a)(he:env[j]?=some (some (.ref a)))(q:Dn (Al A0 (ck O j)) h d (.ref a)) :
  SR A0 h0 (aa.set j (some (.sh,d))) env h (ck O j)/\Fm [j] aa env h O (aa.set j (some (.sh,d))) env h (ck O j):=by
 have hj:j<aa.length:=(aal.mp e).1;refine⟨⟨by simp[s.len],λl m' d' el hm'=>?_,λl d' el=>?_,λl b el=>?_,λl k b e1 e2=>?_,s.pre,s.up⟩,aam _,λk hk n=>⟨rfl,λl=>?_⟩,λl hl=>?_⟩
 ·by_cases hij:j=l
  ·subst hij;rw[aar hj]at el;cases el;exact⟨_,he,q,λz=>nomatch z⟩
  ·rw[aaj hij]at el;obtain⟨w,k1,k2,k3⟩:=s.sh l m' d' el hm';exact⟨w,k1,k2.fm dH,λz=>(k3 z).fm dH⟩
 ·by_cases hij:j=l
  ·subst hij;rw[aar hj]at el;cases el
  ·rw[aaj hij]at el;obtain⟨a,k2,k3,k4⟩:=s.ow l d' el;exact⟨a,k2,by unfold ck;rw[aac (λz=>hij z.symm)];exact k3,k4.mono (λ_ g=>g) λ_ _ z=>z.fm dH⟩
 ·unfold ck at el
  split at el
  ·cases el
  ·rename_i hl;obtain⟨k1,k2,d',k3⟩:=s.own l b el;exact⟨k1,k2,d',by rw[aaj (λz=>hl z.symm)];exact k3⟩
 ·unfold ck at e1 e2
  split at e1
  ·cases e1
  ·split at e2
   ·cases e2
   ·exact s.inj l k b e1 e2
 ·unfold ck;split;simp;exact n l
 ·have hl':l≠j:=by simpa using hl
  exact⟨by unfold ck;rw[aac hl'],aaj (λz=>hl' z.symm),rfl,λ_ _=>rfl⟩
def sH(O:Nat->Option Nat)(i a:Nat):Nat->Option Nat:=λj=>if j=i then some a else O j
theorem SR.fresh(s:SR A0 h0 aa env h O){i:Nat}{d1:Val}{h2:Hs}(p:h<+:h2)(q:OB (Al A0 O) h2 d1 ob) :
  SR A0 h0 (aa.set i (some (.ow,d1))) (env.set i (some (.ref h2.length))) (h2++[ob]) (if i<aa.length then sH O i h2.length else ck O i) /\
   Fm [i] aa env h O (aa.set i (some (.ow,d1))) (env.set i (some (.ref h2.length))) (h2++[ob]) (if i<aa.length then sH O i h2.length else ck O i):=by
 have pp:h<+:h2++[ob]:=p.trans (aa0 _ _);have s2:=s.ext p;have mv:∀{A0:AP} (j:Nat),∀(k:Nat) (o:Ob),Al A0 O k->h2[k]?=some o->Al A0 (if i<aa.length then sH O i h2.length else ck O i) k/\(h2++[ob])[k]?=some o:=λ{A0} j k o hk g=>by
  have hlt:k<h2.length:=(aal.mp g).1;refine⟨?_,by rw[aax hlt];exact g⟩
  split
  ·refine⟨hk.1,λl _=>?_⟩
   unfold sH
   split
   ·intro z;cases z;omega
   ·exact hk.2 l rfl
  ·exact dH k hk
 by_cases hi:i<aa.length
 ·rw[aae hi]at mv |-
  refine⟨⟨by simp[s.len],λj m' d' ej hm'=>?_,λj d' ej=>?_,λj b ej=>?_,λj l b e1 e2=>?_,s.pre.trans pp,s.up⟩,pp.length_le,λk hk n=>⟨mP pp hk,λl=>?_⟩,λj hj=>?_⟩
  ·by_cases hij:i=j
   ·subst hij;rw[aar hi]at ej;cases ej;cases hm'
   ·rw[aaj hij]at ej;rw[aaj hij];obtain⟨w,k1,k2,k3⟩:=s2.sh j m' d' ej hm';exact⟨w,k1,Dn.move jS (mv 0) _ _ k2,λz=>Dn.move jS (mv 0) _ _ (k3 z)⟩
  ·by_cases hij:i=j
   ·subst hij;rw[aar hi]at ej;cases ej;exact⟨h2.length,by rw[aar (by rw[<-s.len];exact hi)],by unfold sH;rw[aae rfl],q.od (by simp) λ_ _ z=>ay.move jS (mv 0) _ _ z⟩
   ·rw[aaj hij]at ej;rw[aaj hij];obtain⟨a1,k2,k3,k4⟩:=s2.ow j d' ej;have hlt:a1<h2.length:=k4.lt;exact⟨a1,k2,by unfold sH;rw[aac λz=>hij z.symm];exact k3,k4.mono (λ_ g=>by rw[aax hlt];exact g) λ_ _ z=>ay.move jS (mv 0) _ _ z⟩
  ·unfold sH at ej
   split at ej
   ·rename_i hj;cases ej;subst hj;exact⟨aaE s.pre.length_le p.length_le,by simp,_,by rw[aar hi]⟩
   ·rename_i hj;obtain⟨k1,k2,d',k3⟩:=s2.own j b ej;exact⟨k1,by simp;omega,d',by rw[aaj λz=>hj z.symm];exact k3⟩
  ·unfold sH at e1 e2
   split at e1
   ·rename_i h1;cases e1
    split at e2
    ·rename_i h3;rw[h1,h3]
    ·have:=(s2.own l _ e2).2.1;omega
   ·split at e2
    ·cases e2;have:=(s2.own j _ e1).2.1;omega
    ·exact s.inj j l b e1 e2
  ·unfold sH;split
   ·intro z;cases z;have:=p.length_le;omega
   ·exact n l
  ·have hj':j≠i:=by simpa using hj
   exact⟨by unfold sH;rw[aac hj'],aaj (λz=>hj' z.symm),aaj (λz=>hj' z.symm),λb eb=>mP pp (s.own j b eb).2.1⟩
 ·rw[aac hi]at mv |-
  have e1:aa.set i (some (.ow,d1))=aa:=List.set_eq_of_length_le (by omega);have e2:env.set i (some (.ref h2.length))=env:=List.set_eq_of_length_le (by rw[<-s.len];omega);have e3:ck O i=O:=by
   funext j;unfold ck;split
   ·rename_i hj;subst hj
    cases e:O j with
    |none=>rfl
    |some a=>obtain⟨_,_,d,k⟩:=s.own j a e;exact absurd (aal.mp k).1 hi
   ·rfl
  rw[e1,e2,e3];exact⟨s.ext pp,Fm.refl s pp⟩
end
section
variable {Φ:Nat->List Val->M Val} {Ψ:Nat->List Val->Pr FV} {A:AP} {h h1:Hs}
def isRef:Val->Bool
 |.rl _=>true
 |.dc _ _=>true
 |_=>false
def RN(A:AP)(h:Hs):FV->Hs->Val->Prop:=λx h' v=>isRef x.2=true->∃h2 o,h'=h2++[o]/\v=.ref h2.length/\h<+:h2/\OB A h2 x.2 o
def Mi(Φ:Nat->List Val->M Val)(Ψ:Nat->List Val->Pr FV)(ir:IE):Prop:=∀(aa:bx) (env:Env) (A:AP) (h:Hs),Up A h->ER A aa env h->Rel A h (RN A h) (aZ Φ ir env h) (bR Ψ ir aa)
theorem jT{f:Bool}{h0:Hs}(p:h0<+:h)(q:ay A h xs vs):Rel A h (RN A h0) (new (.lst vs) h) (.ok (f,.rl xs)) :=
 ⟨_,_,rfl,cz _,λ_=>⟨h,.lst vs,rfl,rfl,p,vs,rfl,q⟩⟩
theorem Pf:Mi Φ Ψ .dct0:=λaa env A h u e=>by
 rw[aZ,bR];exact⟨_,_,rfl,cz _,λ_=>⟨h,.dct [],rfl,rfl,aaB _,[],rfl,rfl,ay.nil⟩⟩
theorem Pg(hk:cj Φ Ψ k)(hv:cj Φ Ψ v):Mi Φ Ψ (.dct1 k v):=λaa env A h u e=>by
 rw[aZ,bR];refine ah (hk aa env A h u e) λx h1 w p1 q1=>ah (R:=λkk _ kk'=>kk'=kk) (bz λkk ek=>⟨kk,ve q1.1 ek,rfl⟩) λkk h2 kk' p2 hkk=>?_;subst hkk;refine ah (hv aa env A h2 ((u.ext p1).ext p2) ((e.ext p1).ext p2)) λy h3 z p3 q3=>?_;exact⟨_,_,rfl,cz _,λ_=>⟨h3,.dct [(kk',z)],rfl,rfl,(p1.trans p2).trans p3,[(kk',z)],rfl,rfl,ay.cons q3.1 ay.nil⟩⟩
theorem Ti(hs:kY Φ Ψ es):Mi Φ Ψ (.lst es):=λaa env A h u e=>by
 rw[aZ,bR];exact ah (hs.1 aa env A h u e) λx h1 vs p1 q1=>bS (λz=>by rw[<-q1.1.length];exact z) λ_=>jT p1 q1.1
theorem Tj(ha:cj Φ Ψ a)(hl:cj Φ Ψ lo)(hh:cj Φ Ψ hi):Mi Φ Ψ (.slc a lo hi):=λaa env A h u e=>by
 rw[aZ,bR];refine ah (qS ha u e) λx h1 v p1 q1=>ah (mK hl (u.ext p1) (e.ext p1)) λl h2 l' p2 el=>ah (mK hh ((u.ext p1).ext p2) ((e.ext p1).ext p2)) λr h3 r' p3 er=>?_;subst el;subst er;have q1:=DB.ext (p2.trans p3) q1;obtain⟨f,d⟩:=x;cases d with
 |tup ds=>obtain⟨vs,rfl,q⟩:=DB.tup q1;have l:=q.length;simp only[C6,sD];exact bS (λz=>by rw[l]at z;exact z) λ_=>aE λe=>by cases e
 |rl ds=>
  obtain⟨vs,e1,q⟩:=DB.lst q1;have ev:sD v l' r' h3=new (.lst (di vs l' r')) h3:=by
   have:sD v l' r'=bnd (ask λh=>aI h v) λxs=>new (.lst (di xs l' r')):=by cases v<;>simp only[aI]at e1<;>first|(cases e1;done)|rfl
   rw[this];unfold bnd ask bA;dsimp only;rw[e1]
  rw[ev];exact jT ((p1.trans p2).trans p3) (q.cut l' r')
 |_=>trivial
theorem Ph(hs:kY Φ Ψ es):Mi Φ Ψ (.blt .list es):=λaa env A h u e=>by
 rw[aZ,bR];refine ah (hs.2 aa env A h u e) λds h1 vs p1 q1=>?_
 match ds,q1 with
 |[],q1=>trivial
 |[d],q1=>obtain⟨v,rfl,hv⟩:=q1.one;exact ah (R:=λxs h' ws=>ay A h' xs ws) (dG λxs e=>hv.seq e) λxs h2 ws p2 q=>jT (p1.trans p2) q
 |_::_::_,_=>trivial
theorem FO(hs:kY Φ Ψ es):Mi Φ Ψ (.blt .sorted es):=λaa env A h u e=>by
 rw[aZ,bR];refine ah (hs.2 aa env A h u e) λds h1 vs p1 q1=>?_
 match ds,q1 with
 |[],q1=>trivial
 |[d],q1=>
  obtain⟨v,rfl,hv⟩:=q1.one;cases d<;>first|trivial|skip
  rename_i xs;obtain⟨ws,e1,q⟩:=hv.lst;have ev:bnd (ask λh=>aI h v) (λxs=>bnd (bA (fh xs)) λys=>new (.lst ys)) h1=bnd (bA (fh ws)) (λys=>new (.lst ys)) h1:=by unfold bnd ask bA;dsimp only;rw[e1]
  show Rel A h1 (RN A h) (bnd (ask λh=>aI h v) (λxs=>bnd (bA (fh xs)) λys=>new (.lst ys)) h1) _;rw[ev];refine ah (R:=λys _ zs=>zs=ys/\dw ys=true) (bz λys e=>?_) λys h2 zs p2 hz=>?_
  ·obtain⟨i1,i2⟩:=t9 e;rw[(b8 xs ws i1).mp q];exact⟨ys,e,rfl,i2⟩
  ·obtain⟨rfl,hi⟩:=hz;exact jT (p1.trans p2) ((b8 _ _ hi).mpr rfl)
 |x::_::_,_=>cases x<;>trivial
theorem Pj(hs:kY Φ Ψ it)(hc:cj Φ Ψ c)(he:cj Φ Ψ elt):Mi Φ Ψ (.comp N js pat k it c elt):=λaa env A h u e=>by
 rw[aZ,bR];refine xx ?_;refine ah (hs.2 aa env A h u e) λds h1 vs p1 q1=>ah (Bm q1) λxs h2 src p2 q2=>?_;obtain⟨ws,q3,q4⟩:=q2;have l:=q3.length;have ev:∀(F:List Val->M Val),bnd (ask λh=>src.items h) F h2=F ws h2:=λF=>by unfold bnd ask bA;dsimp only;rw[q4 h2 (aaB _)]
 rw[ev];refine bS (λz=>by rw[<-l];exact z) λ_=>?_;have u2:=(u.ext p1).ext p2;have e2:=(e.ext p1).ext p2;refine ah (qT (hb:=h) xs ws 0 [] h2 (p1.trans p2) u2 q4 rfl q3 λx v h' p' qx=>?_) λp h3 ys p3 hp=>?_
 ·refine ah (R:=λaL _ env'=>∃_:ER A aL env' h',True) (bz λaL ev'=>?_) λaL h4 env' p4 he'=>?_
  ·obtain⟨env',a1,a2⟩:=xw ev' qx (Bp (e2.ext p')) (by simp[iJ,jN]);exact⟨env',a1,a2,trivial⟩
  ·obtain⟨er,_⟩:=he'
   have er:=er.ext p4;have u4:=(u2.ext p').ext p4;have SN:Rel A h4 (λt _ t'=>t'=t) ((if dj c=true then ret true else bnd (aZ Φ c env') λv=>ask λh=>cR h v) h4) (if dj c=true then .ok true else pb (bR Ψ c aL) λv=>pl (cR [] v.2)):=by
    by_cases hn:dj c=true
    ·rw[aae hn,aae hn];exact aE rfl
    ·rw[aac hn,aac hn];exact ah (hc aL env' A h4 u4 er) λy h5 w p5 q5=>dG λt et=>⟨t,zH q5.br et,rfl⟩
   refine ah SN λt h5 t' p5 et=>?_;subst et;cases t' with
   |true=>rw[aae rfl,aae rfl];exact ah (he aL env' A h5 (u4.ext p5) (er.ext p5)) λy h6 w p6 q6=>aE (q6.up ((p1.trans p2).trans (p'.trans (p4.trans p5))))
   |false=>rw[aac aab,aac aab];exact aE trivial
 ·obtain⟨zs,rfl,z1,z2⟩:=hp;exact jT ((p1.trans p2).trans p3) z1
theorem Tn(hΦ:∀j,Imp (Φ j) (Ψ j))(hf:Wm e=true)(ho:dI e=true):Mi Φ Ψ e:=by
 have V:=v_all hΦ;cases e<;>first|(cases hf;done)|skip
 ·exact Ti (V.2 _ ho)
 ·have ho:=vf ho;exact Tj (V.1 _ ho.1.1) (V.1 _ ho.1.2) (V.1 _ ho.2)
 ·rename_i b es
  change mL _=true at ho;cases b<;>first|(cases hf;done)|skip
  ·exact FO (V.2 _ ho)
  ·exact Ph (V.2 _ ho)
 ·have ho:=vf ho;exact Pj (V.2 _ ho.1.1) (V.1 _ ho.1.2) (V.1 _ ho.2)
 ·exact Pf
 ·have ho:=fZ ho;exact Pg (V.1 _ ho.1) (V.1 _ ho.2)
mutual
noncomputable def XF:IS->Bool
 |.expr e=>dI e
 |.asg _ e=>dI e
 |.aug _ _ e=>dI e
 |.kR o i v=>dI o&&dI i&&dI v
 |.iff c a b=>dI c&&xy a&&xy b
 |.for _ _ it b=>mL it&&xy b
 |.whl _ c b=>dI c&&xy b
 |.ret e=>dI e
 |.setF _ a _ _=>dI a
 |_=>true
noncomputable def xy:dF->Bool
 |.nil=>true
 |.cons s r=>XF s&&xy r
end
def mS(s:IS):List Nat:=qO s++nO s
def Kn(s:dF):List Nat:=iK s++lB s
variable {ms:List Nat}
def Br(Φ:Nat->List Val->M Val)(Ψ:Nat->List Val->Pr FV)(ms:List Nat)(s:IS):Prop:=∀(A0:AP) (h0:Hs) (aa:bx) (env:Env) (h:Hs) (O:Nat->Option Nat),SR A0 h0 aa env h O->gK A0 h0 (RF A0 h0 (mS s) aa env h O) (iA Φ s env h) (aQ Ψ ms s aa)
def vh(Φ:Nat->List Val->M Val)(Ψ:Nat->List Val->Pr FV)(ms:List Nat)(s:dF):Prop:=∀(A0:AP) (h0:Hs) (aa:bx) (env:Env) (h:Hs) (O:Nat->Option Nat),SR A0 h0 aa env h O->gK A0 h0 (RF A0 h0 (Kn s) aa env h O) (lH Φ s env h) (aG Ψ ms s aa)
theorem FP(he:cj Φ Ψ e)(hx:∀aa,aQ Ψ ms (.expr e) aa=pb (bR Ψ e aa) λ_=>.ok (.nx aa)):Br Φ Ψ ms (.expr e):=λA0 h0 aa env h O s=>by
 rw[iA,hx];exact bK s (he aa env _ h s.Bq s.er) λx h1 v p1 q1=>bG ⟨O,s.ext p1,Fm.refl s p1⟩
theorem bH{α β γ:Type}(m:M α)(f:α -> M β)(g:β -> M γ):bnd (bnd m f) g=bnd m λx=>bnd (f x) g:=by
 funext h;show (match (match m h with|.ok a h'=>f a h'|.exc c vs h'=>.exc c vs h'|.no=>.no) with|.ok a h'=>g a h'|.exc c vs h'=>.exc c vs h'|.no=>.no)=(match m h with|.ok a h'=>bnd (f a) g h'|.exc c vs h'=>.exc c vs h'|.no=>.no);cases m h<;>rfl
theorem dg{α β:Type}{m:M α}{f:α -> M β}{a:α}{h h1:Hs}(e:m h=.ok a h1):bnd m f h=f a h1:=by unfold bnd;rw[e]
theorem gM{i:Nat}(e:env[i]?=some (some v)):aZ Φ (.var i) env h=.ok v h:=by rw[aZ,e];rfl
theorem To{i:Nat}(h:FG aa i a=some p):a=.var p.1/\p.1≠i/\aa[p.1]?=some (some (.ow,.rl p.2)):=by
 unfold FG at h;split at h
 ·rename_i j
  split at h
  ·cases h
  ·rename_i hne
   split at h
   ·rename_i es he;cases h;exact⟨rfl,hne,he⟩
   ·cases h
 ·cases h
theorem Pk{i b:Nat}(e2:env[i]?=some (some (.ref b)))(e4:h[b]?=some (.lst vs)):bnd (aZ Φ (.met .append (.var i) #[a]) env) (λ_=>ret (Fl.nx env)) h=bnd (aZ Φ a env) (λv=>bnd (met .append (.ref b) [v]) λ_=>ret (Fl.nx env)) h:=by
 rw[aZ,bH,dg (gM e2)];rw[bH,dg (a:=()) (h1:=h) (by unfold ask bA;simp[recv,e4])];rw[bH,bN,bH]
 congr 1
theorem C7{i:Nat}(ha:cj Φ Ψ a):Br Φ Ψ ms (.expr (.met .append (.var i) #[a])):=λA0 h0 aa env h O s=>by
 rw[iA,aQ];try dsimp only
 split
 ·rename_i ds hv
  obtain⟨b,e2,e3,vs,e4,e5⟩:=s.ow i _ hv;rw[Pk e2 e4];have l:=e5.length;cases hp:FG aa i a with
  |some p=>
   obtain⟨rfl,hne,hj⟩:=To hp;obtain⟨c,f2,f3,ws,f4,f5⟩:=s.ow p.1 _ hj;rw[dg (gM f2)];dsimp only;refine jf λhg=>?_;have oc:=s.own p.1 c f3;have q:Dn (Al A0 (ck O p.1)) h (.rl p.2) (.ref c):=by
    rw[Dn];refine .inr ⟨c,ws,rfl,⟨s.up c oc.1,λk _ z=>?_⟩,f4,f5.fm dH⟩;unfold ck at z;split at z
    ·cases z
    ·rename_i hk;exact hk (s.inj k p.1 c z f3)
   obtain⟨s1,g1⟩:=s.Wr hj f3 f2 q;have hv1:(aa.set p.1 (some (.sh,.rl p.2)))[i]?=some (some (.ow,.rl ds)):=by rw[aaj hne];exact hv
   have ZJ:ck O p.1 i=some b:=by unfold ck;rw[aac (λz=>hne z.symm)];exact e3
   obtain⟨s2,g2⟩:=s1.put (d1:=.rl (ds++[.rl p.2])) (ob:=.lst (vs++[.ref c])) hv1 ZJ ⟨_,rfl,(e5.fm dH).append (ay.cons q ay.nil)⟩;refine⟨.nx env,h.set b (.lst (vs++[.ref c])),?_,_,s2,(g1.fm λk hk=>?_).trans (g2.fm λk hk=>?_)⟩
   ·unfold met bnd ask bA aO put ret;dsimp only;rw[e4];dsimp only;rw[aae (by rw[<-l];exact hg)]
   ·rw[aaq.mp hk];simp[mS,qO,nO]
   ·rw[aaq.mp hk];exact aaO _ aak
  |none=>
   dsimp only;refine bK s (ha aa env _ h s.Bq s.er) λx h1 v p1 q1=>jf λhg=>?_;have s1:=s.ext p1;obtain⟨s2,f2⟩:=s1.put (d1:=.rl (ds++[x.2])) (ob:=.lst (vs++[v])) hv e3 ⟨_,rfl,(e5.ext p1).append (ay.cons q1.1 ay.nil)⟩;refine⟨.nx env,h1.set b (.lst (vs++[v])),?_,O,s2,(Fm.refl s p1).trans (f2.fm λj hj=>?_)⟩
   ·have g:=iD p1 e4;unfold met bnd ask bA aO put ret;dsimp only;rw[g];dsimp only;rw[aae (by rw[<-l];exact hg)]
   ·rw[aaq.mp hj];exact aaO _ aak
 ·trivial
theorem C8{i:Nat}(ha:cj Φ Ψ a):Br Φ Ψ ms (.expr (.met .extend (.var i) #[a])):=λA0 h0 aa env h O s=>by
 rw[iA,aQ];try dsimp only
 split
 ·rename_i ds hv
  obtain⟨b,e2,e3,vs,e4,e5⟩:=s.ow i _ hv;have ev:bnd (aZ Φ (.met .extend (.var i) #[a]) env) (λ_=>ret (Fl.nx env)) h=bnd (aZ Φ a env) (λv=>bnd (met .extend (.ref b) [v]) λ_=>ret (Fl.nx env)) h:=by
   rw[aZ,bH,dg (gM e2)];rw[bH,dg (a:=()) (h1:=h) (by unfold ask bA;simp[recv,e4])];rw[bH,bN,bH]
   congr 1
  rw[ev];refine bK s (ha aa env _ h s.Bq s.er) λx h1 v p1 q1=>?_;have s1:=s.ext p1;have l:=e5.length;have fin:∀(ts ws:List Val),qw h1 v=some ws->ay (Al A0 O) h1 ts ws->gK A0 h0 (RF A0 h0 (mS (.expr (.met .extend (.var i) #[a]))) aa env h O) (bnd (met .extend (.ref b) [v]) (λ_=>ret (Fl.nx env)) h1) (pg (decide (ds.length+ts.length<=sizeLine)) (.ok (.nx (aa.set i (some (.ow,.rl (ds++ts))))))):=λts ws ex q=>by
   refine jf λhg=>?_;obtain⟨s2,f2⟩:=s1.put (d1:=.rl (ds++ts)) (ob:=.lst (vs++ws)) hv e3 ⟨_,rfl,(e5.ext p1).append q⟩;have l2:=q.length;refine⟨.nx env,h1.set b (.lst (vs++ws)),?_,O,s2,(Fm.refl s p1).trans (f2.fm λj hj=>?_)⟩
   ·have g:=iD p1 e4;unfold met bnd ask bA aO put ret;dsimp only;rw[g];dsimp only;rw[ex];dsimp only;rw[aae (by rw[<-l,<-l2];exact hg)]
   ·rw[aaq.mp hj];exact aaO _ aak
  obtain⟨f,d⟩:=x;have q:=q1.1;cases d<;>first|trivial|skip
  ·dsimp only at q;rw[Dn]at q;obtain⟨ws,rfl,q⟩:=q;exact fin _ ws rfl q
  ·dsimp only at q
   rw[Dn]at q
   rcases q with ⟨ws,rfl,_,q⟩|⟨k,ws,rfl,_,g,q⟩
   ·exact fin _ ws rfl q
   ·exact fin _ ws (by simp only[qw,aI,g]) q
 ·trivial
theorem Ko(hΦ:∀j,Imp (Φ j) (Ψ j))(ho:dI e=true):Br Φ Ψ ms (.expr e):=by
 have V:=v_all hΦ;have gen:(∀aa,aQ Ψ ms (.expr e) aa=pb (bR Ψ e aa) λ_=>.ok (.nx aa))->Br Φ Ψ ms (.expr e):=λhx=>FP (V.1 e ho) hx;cases e with
 |met m a es=>
  cases m with
  |join=>exact gen λaa=>by rw[aQ]<;>(intros;simp_all)
  |append=>
   cases a with
   |var i=>
    cases es with
    |nil=>exact gen λaa=>by rw[aQ]<;>(intros;simp_all)
    |cons x r=>
     cases r with
     |nil=>exact C7 (V.1 x (fZ (fZ ho).2).1)
     |cons _ _=>exact gen λaa=>by rw[aQ]<;>(intros;simp_all)
   |_=>exact gen λaa=>by rw[aQ]<;>(intros;simp_all)
  |extend=>
   cases a with
   |var i=>
    cases es with
    |nil=>exact gen λaa=>by rw[aQ]<;>(intros;simp_all)
    |cons x r=>
     cases r with
     |nil=>exact C8 (V.1 x (fZ (fZ ho).2).1)
     |cons _ _=>exact gen λaa=>by rw[aQ]<;>(intros;simp_all)
   |_=>exact gen λaa=>by rw[aQ]<;>(intros;simp_all)
  |remove=>exact gen λaa=>by rw[aQ]<;>(intros;simp_all)
 |_=>exact gen λaa=>by rw[aQ]<;>(intros;simp_all)
end
section
variable {Φ:Nat->List Val->M Val} {Ψ:Nat->List Val->Pr FV} {ms:List Nat}
theorem FQ{i:Nat}{l:List Nat}(h:i∈l):∀j∈[i],j∈l:=λj hj=>by rw[aaq.mp hj];exact h
theorem Pn(hΦ:∀j,Imp (Φ j) (Ψ j))(ho:dI e=true):Br Φ Ψ ms (.asg p e):=λA0 h0 aa env h O s=>by
 have V:=(v_all hΦ).1 e ho;cases p with
 |one i=>
  rw[iA,aQ];try dsimp only
  split
  ·refine jf λhf=>?_
   refine bK s (Tn hΦ hf ho aa env _ h s.Bq s.er) λx h1 v p1 q1=>?_;obtain⟨f,d⟩:=x;cases d<;>first|trivial|skip
   ·obtain⟨h2,vs,rfl,rfl,p2,q2⟩:=q1 rfl;obtain⟨s2,f2⟩:=s.fresh (i:=i) p2 q2;exact⟨_,_,rfl,_,s2,f2.fm (FQ (by simp[mS,nO,stored]))⟩
   ·obtain⟨h2,vs,rfl,rfl,p2,q2⟩:=q1 rfl;obtain⟨s2,f2⟩:=s.fresh (i:=i) p2 q2;exact⟨_,_,rfl,_,s2,f2.fm (FQ (by simp[mS,nO,stored]))⟩
  ·refine bK s (V aa env _ h s.Bq s.er) λx h1 v p1 q1=>?_
   have hnw:Q0 (bJ x.1 x.2)=true->Dn (Al (Fr h0.length) O) h1 x.2 v:=λz=>by
    have hx:x.1=true:=by
     unfold bJ at z;split at z
     ·rename_i hh;simp only[and_eq_true]at hh;exact hh.1
     ·cases z
    refine(q1.2 hx).fm λo ho=>?_;cases o with
    |none=>exact ho.elim
    |some k=>exact⟨aaE s.pre.length_le ho,λj _ e=>by have:=(s.own j k e).2.1;have ho':h.length<=k:=ho;omega⟩
   have hrd:lM (bJ x.1 x.2)=true:=by unfold bJ;split<;>rfl
   obtain⟨s2,f2⟩:=(s.ext p1).setM (i:=i) hrd q1.1 hnw;exact⟨_,_,rfl,_,s2,(Fm.refl s p1).trans (f2.fm (FQ (by simp[mS,nO,stored])))⟩
 |tup is=>
  rw[iA,aQ];try dsimp only
  refine jf λhf=>bK s (V aa env _ h s.Bq s.er) λx h1 v p1 q1=>?_;have s1:=s.ext p1;refine bK s1 (R:=λaL h' env'=>∃O',SR A0 h0 aL env' h' O'/\Fm (stored (.tup is)) aa env h1 O aL env' h' O') (bz λaL ev=>?_) λaL h2 env' p2 hh=>?_
  ·obtain⟨env',O',b1,b2,b3⟩:=s1.bind ev q1.1;exact⟨env',b1,O',b2,b3⟩
  ·obtain⟨O',b2,b3⟩:=hh;exact bG ⟨O',b2,(Fm.refl s p1).trans (b3.fm λj hj=>by simp only[mS,nO];exact aaG _ hj)⟩
theorem Po{i:Nat}(hΦ:∀j,Imp (Φ j) (Ψ j))(ho:dI e=true):Br Φ Ψ ms (.aug i o e):=λA0 h0 aa env h O s=>by rw[aQ];trivial
theorem Bs(k:Key)(l:List (Key×Val)):(l.any λkv=>decide (kv.1=k))=((l.map (·.1)).any λx=>decide (x=k)):=by
 rw[List.any_map];rfl
theorem Bt(e:Dn A h d v):∀{kvs:List (Key×Val)} {ds:List Val},ay A h ds (kvs.map (·.2)) ->
  ay A h ((((kvs.map (·.1)).zip ds).map λkv=>if kv.1=k then (kv.1,d) else kv).map (·.2)) ((kvs.map λkv=>if kv.1=k then (kv.1,v) else kv).map (·.2))
 |[],ds,q=>by simp only[map_nil,List.zip_nil_left];exact ay.nil
 | (k',v')::kvs,ds,q=>by
  have l:=q.length;cases ds with
  |nil=>simp at l
  |cons d' ds=>
   simp only[map_cons]at q;rw[ay]at q;obtain⟨v1,r,e1,q1,q2⟩:=q;cases e1;simp only[map_cons,zip_cons_cons];refine ay.cons ?_ (Bt e q2)
   by_cases hk:k'=k
   ·rw[aae hk,aae hk];exact e
   ·rw[aac hk,aac hk];exact q1
theorem ou(k:Key)(d:Val)(l:List (Key×Val)):(l.map λkv=>if kv.1=k then (kv.1,d) else kv).map (·.1)=l.map (·.1):=by
 rw[aaN];refine aaT λx _=>?_;show (if x.1=k then (x.1,d) else x).1=x.1
 split<;>rfl
theorem Kp(hk:kvs.map (·.1)=ks)(q:ay A h ds (kvs.map (·.2)))(e:Dn A h d v) :
  (kU kvs k v).map (·.1)=(kU (ks.zip ds) k d).map (·.1)/\ay A h ((kU (ks.zip ds) k d).map (·.2)) ((kU kvs k v).map (·.2)):=by
 subst hk;have l:=q.length;rw[aag]at l;have z1:((kvs.map (·.1)).zip ds).map (·.1)=kvs.map (·.1):=List.map_fst_zip (by rw[aag];omega);have z2:((kvs.map (·.1)).zip ds).map (·.2)=ds:=List.map_snd_zip (by rw[aag];omega);unfold kU;rw[Bs,Bs,z1]
 split
 ·rw[ou,ou,z1];exact⟨rfl,Bt e q⟩
 ·rw[aaM,aaM,aaM,aaM,z1,z2];exact⟨rfl,q.append (ay.cons e ay.nil)⟩
theorem Kq(hΦ:∀j,Imp (Φ j) (Ψ j))(ho:dI o=true)(hi:dI i=true)(hv:dI v=true):Br Φ Ψ ms (.kR o i v):=λA0 h0 aa env h O s=>by
 have V:=(v_all hΦ).1;cases o with
 |var j=>
  rw[iA,aQ];refine bK s (V v hv aa env _ h s.Bq s.er) λx h1 w p1 q1=>?_;have s1:=s.ext p1
  split
  ·rename_i ds hj
   obtain⟨b,e2,e3,vs,e4,e5⟩:=s1.ow j _ hj;rw[dg (gM e2)];refine bK s1 (V i hi aa env _ h1 s1.Bq s1.er) λz h2 u p2 q2=>?_;have s2:=s1.ext p2;obtain⟨f,d⟩:=z;have q:=q2.1;cases d<;>first|trivial|skip
   dsimp only at q;rw[Dn]at q;subst q;rename_i kk;have g:=iD p2 e4;have l:=e5.length;show gK A0 h0 _ _ (pb (pl (Cf ds.length kk)) _);cases hn:Cf ds.length kk with
   |none=>trivial
   |some n=>obtain⟨s3,f3⟩:=s2.put (d1:=.rl (ds.set n x.2)) (ob:=.lst (vs.set n w)) hj e3 ⟨_,rfl,(e5.ext p2).set n (q1.1.ext p2)⟩;refine⟨.nx env,h2.set b (.lst (vs.set n w)),?_,O,s3,(Fm.refl s (p1.trans p2)).trans (f3.fm (FQ (by simp[mS,qO])))⟩;rw[l]at hn;simp only[wH];unfold bnd ask bA put ret;dsimp only;rw[g];dsimp only;rw[hn]
  ·rename_i ks ds hj
   obtain⟨b,e2,e3,kvs,e4,ek,e5⟩:=s1.ow j _ hj;rw[dg (gM e2)];refine bK s1 (V i hi aa env _ h1 s1.Bq s1.er) λz h2 u p2 q2=>?_;have s2:=s1.ext p2;obtain⟨f,d⟩:=z;have q:=q2.1;dsimp only at q;show gK A0 h0 _ _ (pb (pl (keyOf d)) _);cases hk:keyOf d with
   |none=>trivial
   |some kk=>
    have hu:keyOf u=some kk:=by
     cases d<;>simp only[keyOf]at hk<;>first|(cases hk;done)|skip
     all_goals (rw[Dn]at q;subst q;exact hk)
    show gK A0 h0 _ _ (pg _ _);refine jf λhl=>?_;have g:=iD p2 e4;obtain⟨k1,k2⟩:=Kp (k:=kk) ek (e5.ext p2) (q1.1.ext p2);obtain⟨s3,f3⟩:=s2.put (d1:=putD ks ds kk x.2) (ob:=.dct (kU kvs kk w)) hj e3 ⟨_,rfl,k1,k2⟩;refine⟨.nx env,h2.set b (.dct (kU kvs kk w)),?_,O,s3,(Fm.refl s (p1.trans p2)).trans (f3.fm (FQ (by simp[mS,qO])))⟩;have hl':decide (kvs.length<sizeLine)=true:=by rw[<-ek,aag]at hl;exact hl
    simp only[wH];unfold bnd ask bA put ret aO;dsimp only;rw[g];dsimp only;rw[hu];dsimp only;rw[aae hl']
  ·trivial
 |_=>rw[aQ]<;>first|trivial|(intros;simp_all)
theorem Pp(hΦ:∀j,Imp (Φ j) (Ψ j))(hc:dI c=true)(ha:vh Φ Ψ ms a)(hb:vh Φ Ψ ms b):Br Φ Ψ ms (.iff c a b):=λA0 h0 aa env h O s=>by
 have V:=(v_all hΦ).1 c hc;rw[iA,aQ];refine bK s (qS V s.Bq s.er) λx h1 v p1 q1=>?_;have s1:=s.ext p1;refine bK s1 (R:=λt _ t'=>t'=t) (dG λt et=>⟨t,zH q1 et,rfl⟩) λt h2 t' p2 et=>?_;subst et;have s2:=s1.ext p2;cases t' with
 |true=>
  rw[aae rfl,aae rfl];refine iM (ha A0 h0 aa env h2 O s2) λf h' g r=>(r.pre s (p1.trans p2)).fm λi hi=>?_;simp only[Kn,mS,qO,nO,mem_append]at hi |-
  rcases hi with z|z
  ·exact .inl (.inl z)
  ·exact .inr (.inl z)
 |false=>
  rw[aac aab,aac aab];refine iM (hb A0 h0 aa env h2 O s2) λf h' g r=>(r.pre s (p1.trans p2)).fm λi hi=>?_;simp only[Kn,mS,qO,nO,mem_append]at hi |-
  rcases hi with z|z
  ·exact .inl (.inr z)
  ·exact .inr (.inr z)
def zJ(h:Hs)(O:Nat->Option Nat)(m:List Nat)(src:Src)(ws:List Val):Prop :=
 ∀h':Hs,(∀k,k<h.length->(∀i,O i≠some k)->h'[k]?=h[k]?)->(∀i,i∉m->∀a,O i=some a->h'[a]?=h[a]?)->src.items h'=some ws
theorem jg{i:Nat}(e:h[i]?=some (.lst ws)):(Src.live i).items h=some ws:=by simp[Src.items,aI,e]
theorem jh{i:Nat}(e:h[i]?=some (.lst ws)):(Src.enum i).items h=some (gF 0 ws):=by simp[Src.items,aI,e]
theorem xA{A0:AP}{h0:Hs}{m:List Nat}(hb:∀aa env h O x v,SR A0 h0 aa env h O->Dn (Al A0 O) h x v->gK A0 h0 (RF A0 h0 m aa env h O) (body v env h) (bodyV x aa))
  {mQ:bx} {vg:Env} {h1:Hs} {O1:Nat->Option Nat} (st:zJ h1 O1 m src ws) :
  ∀(xs vs:List Val) (i:Nat) (aa:bx) (env:Env) (h:Hs) (O:Nat->Option Nat),SR A0 h0 aa env h O->Fm m mQ vg h1 O1 aa env h O->ws.drop i=vs->ay (Al A0 O) h xs vs ->
   gK A0 h0 (RF A0 h0 m mQ vg h1 O1) (forM src body vs.length i env h) (jC bodyV xs aa)
 | [],vs,i,aa,env,h,O,s,f,hd,q=>by
  rw[ay]at q;subst q;have hl:ws.length<=i:=List.drop_eq_nil_iff.mp hd;have hi:=st h (λk hk n=>(f.keep k hk n).1) (λj hj a e=>(f.stay j hj).2.2.2 a e);rw[jC];refine⟨.nx env,h,?_,O,s,f⟩;show forM src body 0 i env h=_;simp only[forM];unfold bnd ask bA aO;dsimp only;rw[hi];dsimp only;rw[aae (decide_eq_true hl)];rfl
 | x::xs,vs,i,aa,env,h,O,s,f,hd,q=>by
  rw[ay]at q;obtain⟨v,r,rfl,q1,q2⟩:=q;have hv:ws[i]?=some v:=by have:=congrArg (λl=>l[0]?) hd;simpa using this
  have hr:ws.drop (i+1)=r:=by
   have:ws.drop (i+1)=(ws.drop i).drop 1:=by rw[List.drop_drop]
   rw[this,hd];rfl
  have hi:=st h (λk hk n=>(f.keep k hk n).1) (λj hj a e=>(f.stay j hj).2.2.2 a e);have ev:forM src body (v::r).length i env h=bnd (body v env) (λf=>match f with
   |.nx env'=>forM src body r.length (i+1) env'
   |.ct env'=>forM src body r.length (i+1) env'
   |.bk env'=>ret (.nx env')
   |.rt v=>ret (.rt v)) h:=by
   show forM src body (r.length+1) i env h=_;simp only[forM];unfold bnd ask bA;dsimp only;rw[hi];dsimp only;rw[hv];try rfl
  rw[ev,jC];refine qU (hb aa env h O x v s q1) λfl h2 gl hr2=>?_;have go:∀aL env' O',SR A0 h0 aL env' h2 O'->Fm m aa env h O aL env' h2 O'->gK A0 h0 (RF A0 h0 m mQ vg h1 O1) (forM src body r.length (i+1) env' h2) (jC bodyV xs aL):=λaL env' O' s' f'=>by
   refine xA hb st xs r (i+1) aL env' h2 O' s' (f.trans f') hr (ay.move jS (λk o hk g=>?_) _ _ q2);have hlt:k<h.length:=(aal.mp g).1;obtain⟨a1,a2⟩:=f'.keep k hlt λi=>hk.2 i rfl;exact⟨⟨hk.1,λi _=>a2 i⟩,a1.trans g⟩
  cases fl<;>cases gl<;>first|exact hr2.elim|skip
  ·obtain⟨O',s',f'⟩:=hr2;exact go _ _ O' s' f'
  ·exact bG hr2
  ·obtain⟨O',s',f'⟩:=hr2;exact bG ⟨O',s',f.trans f'⟩
  ·obtain⟨O',s',f'⟩:=hr2;exact go _ _ O' s' f'
theorem FT{A0:AP}{m:List Nat}(q:Dn (Al A0 O) h d v)(e:kX k [d]=some xs):∃src ws,srcOf k [v]=some src/\ay (Al A0 O) h xs ws/\src.items h=some ws/\zJ h O m src ws:=by
 have lst:∀es,d=.rl es->(∃ws,v=.rl ws/\ay (Al A0 O) h es ws)\/∃a ws,v=.ref a/\h[a]?=some (.lst ws)/\ay (Al A0 O) h es ws/\∀h':Hs,(∀k,k<h.length->(∀i,O i≠some k)->h'[k]?=h[k]?)->h'[a]?=some (Ob.lst ws):=by
  rintro es rfl;rw[Dn]at q
  rcases q with ⟨ws,rfl,_,q⟩|⟨a,ws,rfl,al,g,q⟩
  ·exact .inl ⟨ws,rfl,q⟩
  ·exact .inr ⟨a,ws,rfl,g,q,λh' hk=>(hk a (aal.mp g).1 λi=>al.2 i rfl).trans g⟩
 cases k with
 |seq=>
  cases d<;>first|(cases e;done)|skip
  ·cases e;rw[Dn]at q;obtain⟨ws,rfl,q⟩:=q;exact⟨.fix ws,ws,rfl,q,rfl,λ_ _ _=>rfl⟩
  ·cases e
   rcases lst _ rfl with ⟨ws,rfl,q'⟩|⟨a,ws,rfl,g,q',st⟩
   ·exact⟨.fix ws,ws,rfl,q',rfl,λ_ _ _=>rfl⟩
   ·exact⟨.live a,ws,rfl,q',jg g,λh' hk _=>jg (st h' hk)⟩
 |range=>
  cases d<;>first|(cases e;done)|skip
  rw[Dn]at q;subst q;rename_i n;change (if inR n=true then some (cu 0 n.toNat) else none)=some _ at e;split at e
  ·rename_i hn;cases e;exact⟨.fix _,_,aae hn,kI,rfl,λ_ _ _=>rfl⟩
  ·cases e
 |enum=>
  cases d<;>first|(cases e;done)|skip
  cases e
  rcases lst _ rfl with ⟨ws,rfl,q'⟩|⟨a,ws,rfl,g,q',st⟩
  ·exact⟨.fix _,_,rfl,iL 0 q',rfl,λ_ _ _=>rfl⟩
  ·exact⟨.enum a,_,rfl,iL 0 q',jh g,λh' hk _=>jh (st h' hk)⟩
 |zip=>cases e
theorem FU{α β γ δ:Type}{R:α -> Hs -> β -> Prop}{R':γ -> Hs -> δ -> Prop}{m:M β}{f:β -> M δ}{p:Pr α}{F:α -> Pr γ}(r:Rel A h R (m h) p)(k:∀a h1 b,p=.ok a->h<+:h1->R a h1 b->Rel A h1 R' (f b h1) (F a)):Rel A h R' (bnd m f h) (pb p F):=by
 unfold bnd;cases p with
 |ok a=>
  obtain⟨b,h1,e,q,r⟩:=r;rw[e];show Rel A h R' (f b h1) (F a);have:=k a h1 b rfl q r;cases e2:F a with
  |ok c=>rw[e2]at this;obtain⟨d,h2,e3,q2,r2⟩:=this;exact⟨d,h2,e3,q.trans q2,r2⟩
  |exc c es=>rw[e2]at this;obtain⟨d,h2,e3,q2,r2⟩:=this;exact⟨d,h2,e3,q.trans q2,r2⟩
  |no=>trivial
 |exc c es=>obtain⟨ws,h1,e,q,r⟩:=r;rw[e];exact⟨ws,h1,rfl,q,r⟩
 |no=>trivial
theorem FW{e e2:IE}(h:dZ Ψ (.cons e (.cons e2 r)) aa=.ok ds):2<=ds.length:=by
 rw[dZ,dZ]at h;cases h1:(if isVar e=true then pl (jb aa e) else bR Ψ e aa) with
 |ok a=>
  rw[h1]at h;cases h2:(if isVar e2=true then pl (jb aa e2) else bR Ψ e2 aa) with
  |ok b=>
   rw[h2]at h;cases h3:dZ Ψ r aa with
   |ok c=>rw[h3]at h;cases h;simp
   |exc _ _=>rw[h3]at h;cases h
   |no=>rw[h3]at h;cases h
  |exc _ _=>rw[h2]at h;cases h
  |no=>rw[h2]at h;cases h
 |exc _ _=>rw[h1]at h;cases h
 |no=>rw[h1]at h;cases h
theorem FY{d1 d2:Val}(ex:kX k [d1,d2]=some xs):k=.range/\∃n m,d1=.int n/\d2=.int m/\(inR n&&inR m)=true/\xs=cu n (m-n).toNat:=by
 cases k with
 |seq=>cases d1<;>cases ex
 |enum=>cases d1<;>cases ex
 |zip=>cases ex
 |range=>
  cases d1<;>first|(cases ex;done)|skip
  cases d2<;>first|(cases ex;done)|skip
  rename_i n m;change (if (inR n&&inR m)=true then some (cu n (m-n).toNat) else none)=some xs at ex
  by_cases hn:(inR n&&inR m)=true
  ·rw[aae hn]at ex;cases ex;exact⟨rfl,n,m,rfl,rfl,hn,rfl⟩
  ·rw[aac hn]at ex;cases ex
theorem zK{d1 d2 d3:Val}:kX k (d1::d2::d3::r)=none:=by
 cases k with
 |seq=>cases d1<;>rfl
 |enum=>cases d1<;>rfl
 |zip=>rfl
 |range=>cases d1<;>first|rfl|(cases d2<;>rfl)
theorem Kr{A0:AP}{h0:Hs}{m:List Nat}(hΦ:∀j,Imp (Φ j) (Ψ j))(hi:mL it=true)(s:SR A0 h0 aa env h O)(hm:∀i,it=.cons (.var i) .nil->i∉m) :
  Rel (Al A0 O) h (λxs h' src=>∃ws,ay (Al A0 O) h' xs ws/\src.items h'=some ws/\zJ h' O m src ws) (bnd (bN Φ it env) (λits=>bA (srcOf k its)) h) (pb (dZ Ψ it aa) λits=>pl (kX k its)):=by
 have V:=v_all hΦ;cases it with
 |nil=>rw[dZ];cases k<;>trivial
 |cons e es=>
  cases es with
  |nil=>
   replace hi:=fZ hi
   by_cases hv:isVar e=true
   ·cases e<;>first|(cases hv;done)|skip
    rename_i i;rw[dZ,dZ,aae hv];simp only[jb];cases hx:aa[i]? with
    |none=>trivial
    |some o=>
     cases o with
     |none=>trivial
     |some fd=>
      obtain⟨f,d⟩:=fd;show Rel _ _ _ _ (pl (kX k [d]));cases hf:lM f with
      |false=>
       have hf:f=.ow:=by cases f<;>first|rfl|cases hf
       subst hf;obtain⟨a,e2,e3,e4⟩:=s.ow i d hx;have ev:bnd (bN Φ #[.var i] env) (λits=>bA (srcOf k its)) h=bA (srcOf k [.ref a]) h:=by rw[bN,bN,bH,dg (gM e2)];rfl
       rw[ev];refine bz λxs ex=>?_;have hd:∃ds,d=.rl ds:=by cases d<;>first|exact⟨_,rfl⟩|exact False.elim e4|(cases k<;>cases ex)
       obtain⟨ds,rfl⟩:=hd;obtain⟨vs,e4,e5⟩:=e4;have st:∀h':Hs,(∀i,i∉m->∀a,O i=some a->h'[a]?=h[a]?)->h'[a]?=some (Ob.lst vs):=λh' hs=>(hs i (hm i rfl) a e3).trans e4;cases k with
       |seq=>cases ex;exact⟨.live a,rfl,vs,e5,jg e4,λh' _ hs=>jg (st h' hs)⟩
       |range=>cases ex
       |enum=>cases ex;exact⟨.enum a,rfl,_,iL 0 e5,jh e4,λh' _ hs=>jh (st h' hs)⟩
       |zip=>cases ex
      |true=>
       obtain⟨v,e1,e2,_⟩:=s.sh i f d hx hf;have ev:bnd (bN Φ #[.var i] env) (λits=>bA (srcOf k its)) h=bA (srcOf k [v]) h:=by rw[bN,bN,bH,dg (gM e1)];rfl
       rw[ev];refine bz λxs ex=>?_;obtain⟨src,ws,a1,a2,a3,a4⟩:=FT (m:=m) e2 ex;exact⟨src,a1,ws,a2,a3,a4⟩
   ·rw[dZ,dZ,aac hv]
    have ev:bnd (bN Φ #[e] env) (λits=>bA (srcOf k its)) h=bnd (aZ Φ e env) (λv=>bA (srcOf k [v])) h:=by rw[bN,bN,bH];rfl
    rw[ev];have ep:(pb (pb (bR Ψ e aa) λd=>pb (Pr.ok ([]:List Val)) λp=>Pr.ok (d.2::p)) λits=>pl (kX k its))=pb (bR Ψ e aa) λd=>pl (kX k [d.2]):=by cases bR Ψ e aa<;>rfl
    rw[ep];refine ah (V.1 e hi.1 aa env _ h s.Bq s.er) λx h1 v p1 q1=>bz λxs ex=>?_;obtain⟨src,ws,a1,a2,a3,a4⟩:=FT (m:=m) q1.1 ex;exact⟨src,a1,ws,a2,a3,a4⟩
  |cons e2 r=>
   have V2:=V.2 _ hi;refine FU (V2.2 aa env _ h s.Bq s.er) λds h1 vs eb p1 q1=>bz λxs ex=>?_;have hl:2<=ds.length:=FW eb
   match ds,q1 with
   |[],q1=>cases k<;>cases ex
   |[d],q1=>simp at hl
   |[d1,d2],q1=>obtain⟨v,rr,rfl,hv,hr⟩:=q1;obtain⟨w,rfl,hw⟩:=J8.one hr;obtain⟨rfl,n,m',rfl,rfl,hn,rfl⟩:=FY ex;have:=hv.int;subst this;have:=hw.int;subst this;exact⟨.fix _,aae hn,_,kI,rfl,λ_ _ _=>rfl⟩
   |d1::d2::d3::dr,q1=>rw[zK]at ex;cases ex
theorem Pq(hΦ:∀j,Imp (Φ j) (Ψ j))(hi:mL it=true)(hb:vh Φ Ψ ms body):Br Φ Ψ ms (.for p k it body):=λA0 h0 aa env h O s=>by
 rw[iA,aQ];refine jf λhg=>?_;rw[and_eq_true]at hg;have hm:∀i,it=.cons (.var i) .nil->i∉mS (.for p k it body):=by
  rintro i rfl z;simp only[t8,and_eq_true,not_eq_true',List.contains_eq_mem,decide_eq_false_iff_not]at hg;simp only[mS,qO,nO,mem_append]at z
  rcases z with z|z|z
  ·exact hg.1.1.1 z
  ·exact hg.1.2 z
  ·exact hg.1.1.2 z
 have ev:∀(F:Src->M Fl),bnd (bN Φ it env) (λits=>bnd (bA (srcOf k its)) F) h=bnd (bnd (bN Φ it env) λits=>bA (srcOf k its)) F h:=λF=>by rw[bH]
 have ep:∀(F:List Val->Pr Mf),pb (dZ Ψ it aa) (λits=>pb (pl (kX k its)) F)=pb (pb (dZ Ψ it aa) λits=>pl (kX k its)) F:=λF=>by cases dZ Ψ it aa<;>rfl
 rw[ev,ep];refine bK s (Kr (m:=mS (.for p k it body)) hΦ hi s hm) λxs h1 src p1 hx=>?_;obtain⟨ws,q1,q2,st⟩:=hx;have s1:=s.ext p1;have l:=q1.length;have ZK:∀(F:List Val->M Fl),bnd (ask λh=>src.items h) F h1=F ws h1:=λF=>by unfold bnd ask bA;dsimp only;rw[q2]
 rw[ZK];refine iM (xA (m:=mS (.for p k it body)) (λaL env' h' O' x v s' qx=>?_) st xs ws 0 aa env h1 O s1 (Fm.refl s1 (aaB _)) rfl q1) λf h' g r=>r.pre s p1;refine bK s' (R:=λoq h2 nN=>∃O2,SR A0 h0 oq nN h2 O2/\Fm (stored p) aL env' h' O' oq nN h2 O2) (bz λoq e2=>?_) λoq h2 nN p2 hh=>?_
 ·obtain⟨nN,O2,b1,b2,b3⟩:=s'.bind e2 qx;exact⟨nN,b1,O2,b2,b3⟩
 ·obtain⟨O2,b2,b3⟩:=hh
  refine iM (hb A0 h0 oq nN h2 O2 b2) λf h'' g r=>RF.seq (b3.fm λi hi=>?_) (r.fm λi hi=>?_)
  ·simp only[mS,qO,nO,mem_append];exact .inr (.inl hi)
  ·simp only[Kn,mS,qO,nO,mem_append]at hi |-
   rcases hi with z|z
   ·exact .inl z
   ·exact .inr (.inr z)
theorem Pu{n:Nat}(hΦ:∀j,Imp (Φ j) (Ψ j))(hc:dI c=true)(hb:vh Φ Ψ ms body):Br Φ Ψ ms (.whl n c body):=λA0 h0 aa env h O s=>by rw[aQ];trivial
theorem Mj:lM (Xy m)=true:=by cases m<;>rfl
theorem SR.fr{A0:AP}{h0:Hs}(s:SR A0 h0 aa env h O):ER A0 (sM aa) env h:=λi f d e=>by
 unfold sM at e;rw[aaI]at e;cases hx:aa[i]? with
 |none=>rw[hx]at e;cases e
 |some o=>
  rw[hx]at e;cases o with
  |none=>cases e
  |some fd=>
   obtain⟨m,d'⟩:=fd;cases e;rw[aac (by rw[Mj];decide)];cases hm:lM m with
   |false=>
    have hm:m=.ow:=by cases m<;>first|rfl|cases hm
    subst hm;obtain⟨a,e2,e3,e4⟩:=s.ow i d hx;exact⟨_,e2,(e4.mono (A':=A0) (λ_ g=>g) λ_ _ z=>z.fm λ_ y=>y.1).dn (s.up a (s.own i a e3).1)⟩
   |true=>obtain⟨v,e1,e2,_⟩:=s.sh i m d hx hm;exact⟨v,e1,e2.fm λ_ z=>z.1⟩
theorem ua{A0:AP}{h0:Hs}{α β γ δ:Type}{R:α -> Hs -> β -> Prop}{R':γ -> Hs -> δ -> Prop}{mm:M β}{f:β -> M δ}{p:Pr α}{F:α -> Pr γ}(s:SR A0 h0 aa env h O)(r:Rel A0 h R (mm h) p)(k:∀a h1 b,h<+:h1->R a h1 b->gK A0 h0 R' (f b h1) (F a)):gK A0 h0 R' (bnd mm f h) (pb p F):=by
 unfold bnd;cases p with
 |ok a=>obtain⟨b,h1,e,q,r⟩:=r;rw[e];exact k a h1 b q r
 |exc c es=>obtain⟨ws,h1,e,q,r⟩:=r;rw[e];exact⟨ws,h1,rfl,s.pre.trans q,r⟩
 |no=>trivial
theorem C9(h:J2 env es=some p):∃i j,es=.cons (.var i) #[.var j]/\env[i]?=some (some (.nw,p.1))/\env[j]?=some (some (.nw,p.2)):=by
 unfold J2 at h;split at h
 ·split at h
  ·rename_i a b;cases h;exact⟨_,_,rfl,a,b⟩
  ·cases h
 ·cases h
theorem Pw(hΦ:∀j,Imp (Φ j) (Ψ j))(ho:dI e=true):Br Φ Ψ ms (.ret e):=λA0 h0 aa env h O s=>by
 have V:=(v_all hΦ).1 e ho;have gen:U3 Ψ e aa=bR Ψ e aa->gK A0 h0 (RF A0 h0 (mS (.ret e)) aa env h O) (iA Φ (.ret e) env h) (aQ Ψ ms (.ret e) aa):=λhe=>by
  rw[iA,aQ,he];exact bK s (V aa env _ h s.Bq s.er) λx h1 v p1 q1=>bG ⟨q1.1.fm λ_ z=>z.1,λf=>(q1.2 f).fm (Fr.le s.pre.length_le),s.pre.trans p1⟩
 cases e with
 |var i=>
  rw[iA,aQ];simp only[U3];cases hx:aa[i]? with
  |none=>trivial
  |some o=>
   cases o with
   |none=>trivial
   |some fd=>
    obtain⟨f,d⟩:=fd;cases hf:lM f with
    |false=>
     have hf:f=.ow:=by cases f<;>first|rfl|cases hf
     subst hf;obtain⟨a,e2,e3,e4⟩:=s.ow i d hx;rw[dg (gM e2)];have ha:=s.own i a e3;cases d<;>first|exact False.elim e4|skip
     ·refine⟨_,h,rfl,?_,λhi=>?_,s.pre⟩
      ·exact(e4.mono (A':=A0) (λ_ g=>g) λ_ _ z=>z.fm λ_ y=>y.1).dn (s.up a ha.1)
      ·obtain⟨vs,e4,e5⟩:=e4;show Dn _ h (.rl _) (.ref a);rw[Dn];exact .inr ⟨a,vs,rfl,ha.1,e4,gJ e5 hi⟩
     ·refine⟨_,h,rfl,?_,λhi=>?_,s.pre⟩
      ·exact(e4.mono (A':=A0) (λ_ g=>g) λ_ _ z=>z.fm λ_ y=>y.1).dn (s.up a ha.1)
      ·obtain⟨kvs,e4,ek,e5⟩:=e4;show Dn _ h (.dc _ _) (.ref a);rw[Dn];exact⟨a,kvs,rfl,ha.1,e4,ek,gJ e5 hi⟩
    |true=>
     obtain⟨v,e1,e2,e3⟩:=s.sh i f d hx hf;rw[dg (gM e1)];dsimp only;rw[aae hf];refine⟨_,h,rfl,e2.fm λ_ z=>z.1,λhi=>?_,s.pre⟩
     rcases(or_eq_true _ _).mp hi with hi|hi
     ·exact(jc d v hi).mpr ((jc d v hi).mp e2)
     ·exact(e3 hi).fm λ_ z=>z.1
 |call j es=>rw[iA,aQ];exact ua s (V (sM aa) env A0 h (s.up.ext s.pre) s.fr) λx h1 v p1 q1=>bG ⟨q1.1,λf=>(q1.2 f).fm (Fr.le s.pre.length_le),s.pre.trans p1⟩
 |tup es=>
  rw[iA,aQ];change gK A0 h0 _ _ (pb (J6 Ψ es aa) _);unfold J6
  split
  ·rename_i pp hp
   obtain⟨i,j,he,hi,hj⟩:=C9 hp;subst he;obtain⟨v,e1,e2,e3⟩:=s.sh i .nw _ hi rfl;obtain⟨w,k1,k2,k3⟩:=s.sh j .nw _ hj rfl;have ev:aZ Φ (.tup #[.var i,.var j]) env h=.ok (.tup [v,w]) h:=by rw[aZ,bN,bN,bN];rw[dg (a:=[v,w]) (h1:=h) (by rw[dg (gM e1),dg (a:=[w]) (h1:=h) (by rw[dg (gM k1)];rfl)];rfl)];rfl
   rw[dg ev];refine⟨_,h,rfl,?_,λ_=>?_,s.pre⟩
   ·show Dn A0 h (.tup _) _;rw[Dn];exact⟨_,rfl,ay.cons (e2.fm λ_ z=>z.1) (ay.cons (k2.fm λ_ z=>z.1) ay.nil)⟩
   ·show Dn (Fr h0.length) h (.tup _) _;rw[Dn];exact⟨_,rfl,ay.cons ((e3 rfl).fm λ_ z=>z.1) (ay.cons ((k3 rfl).fm λ_ z=>z.1) ay.nil)⟩
  exact ua s (V (sM aa) env A0 h (s.up.ext s.pre) s.fr) λx h1 v p1 q1=>bG ⟨q1.1,λf=>(q1.2 f).fm (Fr.le s.pre.length_le),s.pre.trans p1⟩
 |_=>exact gen rfl
theorem Px:vh Φ Ψ ms .nil:=λA0 h0 aa env h O s=>by rw[lH,aG];exact bG ⟨O,s,Fm.refl s (aaB _)⟩
theorem Ks(ha:Br Φ Ψ ms a)(hr:vh Φ Ψ ms r):vh Φ Ψ ms (.cons a r):=λA0 h0 aa env h O s=>by
 rw[lH,aG];have w1:∀i∈mS a,i∈Kn (.cons a r):=λi hi=>by
  simp only[mS,Kn,iK,lB,mem_append]at hi |-
  rcases hi with z|z
  ·exact .inl (.inl z)
  ·exact .inr (.inl z)
 have w2:∀i∈Kn r,i∈Kn (.cons a r):=λi hi=>by
  simp only[Kn,iK,lB,mem_append]at hi |-
  rcases hi with z|z
  ·exact .inl (.inr z)
  ·exact .inr (.inr z)
 refine qU (ha A0 h0 aa env h O s) λf h1 g rr=>?_;have rr:=rr.fm w1;cases f<;>cases g<;>first|exact rr.elim|skip
 ·obtain⟨O',s',f'⟩:=rr;exact iM (hr A0 h0 _ _ h1 O' s') λf h' g r'=>RF.seq f' (r'.fm w2)
 ·exact bG rr
 ·exact bG rr
 ·exact bG rr
theorem Tp(hΦ:∀j,Imp (Φ j) (Ψ j)):∀ss,xy ss=true->vh Φ Ψ ms ss:=by
 intro ss;refine dF.rec (motive_1:=λs=>XF s=true->Br Φ Ψ ms s) (motive_2:=λss=>xy ss=true->vh Φ Ψ ms ss) ?_ ?_ ?_ ?_ ?_ ?_ ?_ ?_ ?_ ?_ ?_ ?_ ?_ ?_ ?_ ?_ ss
 ·exact λe f=>Ko hΦ f
 ·exact λp e f=>Pn hΦ f
 ·exact λi o e f=>Po hΦ f
 ·intro o i v f;have f:=vf f;exact Kq hΦ f.1.1 f.1.2 f.2
 ·intro c a b ia ib f;have f:=vf f;exact Pp hΦ f.1.1 (ia f.1.2) (ib f.2)
 ·intro p k it b ib f;have f:=fZ f;exact Pq hΦ f.1 (ib f.2)
 ·intro n c b ib f;have f:=fZ f;exact Pu hΦ f.1 (ib f.2)
 ·exact λe f=>Pw hΦ f
 ·exact λ_ A0 h0 aa env h O s=>by rw[iA,aQ];exact bG ⟨by rw[Dn],λ_=>by rw[Dn],s.pre⟩
 ·exact λ_ A0 h0 aa env h O s=>by rw[iA,aQ];exact bG ⟨O,s,Fm.refl s (aaB _)⟩
 ·exact λ_ A0 h0 aa env h O s=>by rw[iA,aQ];exact bG ⟨O,s,Fm.refl s (aaB _)⟩
 ·exact λ_ A0 h0 aa env h O s=>by rw[iA,aQ];exact bG ⟨O,s,Fm.refl s (aaB _)⟩
 ·exact λ_ A0 h0 aa env h O s=>by rw[aQ];trivial
 ·exact λ_ e _ _ f A0 h0 aa env h O s=>by rw[iA,aQ];exact bK s (((v_all hΦ).1 e f) aa env _ h s.Bq s.er) λx h1 v p1 q1=>trivial
 ·exact λ_=>Px
 ·intro a r ia ir f;have f:=fZ f;exact Ks (ia f.1) (ir f.2)
theorem Tq{n:Nat}(u:Up A h)(q:ay A h ds vs):SR A h (ds.map (λd=>some (.sh,d))++replicate (n-ds.length) none) (vs.map some++replicate (n-vs.length) none) h (λ_=>none):=by
 have l:=q.length;have al:∀k,A k->Al A (λ_=>none) k:=λk hk=>⟨hk,λi z e=>by subst e;cases z⟩;have get:∀(i:Nat) (f:Mk) (d:Val),(ds.map (λd=>some (.sh,d))++replicate (n-ds.length) none:bx)[i]?=some (some (f,d))->f=.sh/\ds[i]?=some d:=λi f d e=>by
  by_cases hi:i<ds.length
  ·rw[aax (by simpa using hi),aaI]at e
   cases ei:ds[i]? with
   |none=>rw[ei]at e;cases e
   |some d'=>rw[ei]at e;cases e;exact⟨rfl,rfl⟩
  ·rw[aaL (by simp;omega)]at e;have:=aaF e;rw[List.mem_replicate]at this;exact absurd this.2 (by simp)
 refine⟨by simp[l],λi m d e hm=>?_,λi d e=>?_,(λi a e=>nomatch e),(λi j a e=>nomatch e),aaB _,u⟩
 ·obtain⟨hm',e⟩:=get i m d e;obtain⟨v,k1,k2⟩:=q.get e;have hi:i<vs.length:=(aal.mp k1).1;exact⟨v,by rw[aax (by simpa using hi),aaI,k1];rfl,k2.fm al,λz=>by subst hm';cases z⟩
 ·obtain⟨z,_⟩:=get i .ow d e;cases z
theorem bh{n:Nat}(hΦ:∀j,Imp (Φ j) (Ψ j))(ho:xy body=true):Imp (jA Φ n body) (cS Ψ n body):=λA h ds vs u q=>by
 have l:=q.length;have s:=Tq (n:=n) u q;unfold jA cS;have r:=qU (R':=λx h' v=>h<+:h'/\RV A h x h' v) (Tp (ms:=iK body) hΦ body ho A h _ _ h _ s) (f:=λf=>match f with
  |.nx _=>ret .non
  |.rt v=>ret v
  |_=>bA none) (F:=λf=>match f with
  |.nx _=>.ok (true,.non)
  |.rt p=>.ok p
  | _=>.no) λf h1 g rr=>by
   cases f<;>cases g<;>first|exact rr.elim|skip
   ·obtain⟨O',s',_⟩:=rr;exact bG ⟨s'.pre,by show Dn _ _ Val.non _;rw[Dn],λ_=>by show Dn _ _ Val.non _;rw[Dn]⟩
   ·exact bG ⟨rr.2.2,rr.1,rr.2.1⟩
   ·trivial
   ·trivial
 revert r;generalize (pb (aG Ψ (iK body) body (ds.map (λd=>some (.sh,d))++replicate (n-ds.length) none)) _)=p;intro r;cases p with
 |ok x=>obtain⟨v,h',e,a,b⟩:=r;exact⟨v,h',e,a,b⟩
 |exc c es=>exact r
 |no=>trivial
end
abbrev aT:=List Val->Pr FV
def ai(gs:List aT)(j:Nat):aT:=match gs[j]? with
 |some g=>g
 |none=>λ_=>.no
def cL(fs:List Row)(gs:List aT):Prop:=fs.length=gs.length/\∀(j:Nat) (r:Row) (g:aT),fs[j]?=some r->gs[j]?=some g->Imp r.2.2 g
theorem FZ:cL [] []:=⟨rfl,λj r g e=>by simp at e⟩
theorem az(a:cL fs gs)(j:Nat):Imp (look fs j) (ai gs j):=by
 unfold look ai;cases e:fs[j]? with
 |none=>
  have:gs[j]?=none:=by have:=List.getElem?_eq_none_iff.mp e;exact List.getElem?_eq_none_iff.mpr (by rw[<-a.1];exact this)
  rw[this];exact λ_ _ _ _ _ _=>trivial
 |some r=>
  cases e2:gs[j]? with
  |none=>exact λ_ _ _ _ _ _=>trivial
  |some g=>exact a.2 j r g e e2
theorem av{k:Nat}(a:cL fs gs)(i:Imp f g):cL (fs++[(x,k,f)]) (gs++[g]):=by
 refine⟨by simp[a.1],λj r g' e1 e2=>?_⟩
 by_cases hj:j<fs.length
 ·rw[aax hj]at e1;rw[aax (by rw[<-a.1];exact hj)]at e2;exact a.2 j r g' e1 e2
 ·rw[aaL (by omega)]at e1
  rw[aaL (by rw[<-a.1];omega)]at e2;have hj0:j-fs.length=0:=by have:=(aal.mp e1).1;simp at this;omega
  rw[<-a.1]at e2;rw[hj0]at e1 e2;simp at e1 e2;subst e1;subst e2;exact i
theorem F7(i:Imp φ ψ){ns:List Int}{f:Bool}(e:ψ [.rl (ns.map .int)]=.ok (f,.bl true)):∃h',φ [.rl (ns.map .int)] []=.ok (.bl true) h':=by
 have r:=i (λ_=>True) [] [.rl (ns.map .int)] [.rl (ns.map .int)] (λ_ _=>trivial) (ay.cons (by rw[Dn];exact .inl ⟨_,rfl,trivial,(b8 _ _ (cU ns)).mpr rfl⟩) ay.nil);rw[e]at r;obtain⟨v,h',e1,_,q⟩:=r;have q:=q.1;dsimp only at q;rw[Dn]at q;subst q;exact⟨h',e1⟩
section
variable {α β γ:Type}
theorem aU(a:α)(f:α -> Pr β):pb (.ok a) f=f a:=rfl
theorem Py(c:Prop)[Decidable c](m n:Pr α)(f:α -> Pr β):pb (if c then m else n) f=if c then pb m f else pb n f:=by split<;>rfl
theorem qV(m:Pr α)(f:α -> Pr β)(g:β -> Pr γ):pb (pb m f) g=pb m λx=>pb (f x) g:=by cases m<;>rfl
theorem cF(a:α):pl (some a)=.ok a:=rfl
theorem Ku(m:Pr α):pg true m=m:=rfl
theorem Pz(c:Prop)[Decidable c](m:Pr α):pg (decide c) m=if c then m else .no:=by unfold pg;simp
theorem ji{c:Bool}(h:c=true)(m:Pr α):pg c m=m:=by rw[h];rfl
end
theorem xB{f:Bool}:lM (bJ f d)=true:=by unfold bJ;split<;>rfl
theorem Tr:lM .sh=true:=rfl
theorem Tt:lM .nw=true:=rfl
theorem Tu:lM .ow=false:=rfl
theorem Tv:Q0 .sh=false:=rfl
theorem Tw:Q0 .nw=true:=rfl
theorem PB{f:Bool}{i:Int}:bJ f (.int i)=.sh:=by cases f<;>rfl
theorem Tz{f:Bool}{i:Bool}:bJ f (.bl i)=.sh:=by cases f<;>rfl
theorem PC{f:Bool}:bJ f (.str i)=.sh:=by cases f<;>rfl
theorem PD{f:Bool}:bJ f .non=.sh:=by cases f<;>rfl
theorem Ws:bJ false d=.sh:=rfl
theorem TF:bJ true (.rl ds)=.nw:=rfl
theorem TH:bJ true (.dc ks ds)=.nw:=rfl
section
variable {a b:Int} {x y:Str} {t:Bool} {vs ws:List Val} {v:Val}
theorem TJ:lN .add (.int a) (.int b)=.ok (true,.int (a+b)):=rfl
theorem TL:lN .sub (.int a) (.int b)=.ok (true,.int (a-b)):=rfl
theorem Bu(h:ly a b=true):lN .mul (.int a) (.int b)=.ok (true,.int (a*b)):=by simp only[lN];exact ji h _
theorem jk(h:kT b=true):lN .fdiv (.int a) (.int b)=.ok (true,.int (a/b)):=by simp only[lN];exact ji h _
theorem bW(h:decide (0<b)=true):lN .mod (.int a) (.int b)=.ok (true,.int (a%b)):=by simp only[lN];exact ji h _
theorem TM(h:decide (0<=b/\b<=1000000/\a.natAbs<2 ^ 64)=true):lN .pow (.int a) (.int b)=.ok (true,.int (a ^ b.toNat)):=by simp only[lN];exact ji h _
theorem Wt:cop [] .lt (.int a) (.int b)=some (decide (a<b)):=rfl
theorem Wu:cop [] .le (.int a) (.int b)=some (decide (a<=b)):=rfl
theorem Wv:cop [] .gt (.int a) (.int b)=some (decide (b<a)):=rfl
theorem Ww:cop [] .ge (.int a) (.int b)=some (decide (b<=a)):=rfl
theorem Wx:cop [] .eq (.int a) (.int b)=some (decide (a=b)):=by
 show some (a==b)=_
 congr 1
theorem Wy:cop [] .ne (.int a) (.int b)=some (!decide (a=b)):=by
 show some (!(a==b))=_
 congr 1
theorem TN:cop [] .isn v .non=some (mE v):=by cases v<;>rfl
theorem TQ:cop [] .ntn v .non=some (!mE v):=by cases v<;>rfl
theorem qW:cR [] (.bl t)=some t:=rfl
theorem TR:cR [] (.int a)=some (a != 0):=rfl
theorem TU:cR [] (.rl vs)=some (!vs.isEmpty):=rfl
theorem TV:cR [] (.tup vs)=some (!vs.isEmpty):=rfl
theorem Bv:iI .len [.rl vs]=.ok (true,.int vs.length):=rfl
theorem TX:iI .len [.tup vs]=.ok (true,.int vs.length):=rfl
theorem TY:iI .min [.int a,.int b]=.ok (true,.int (if b<a then b else a)):=rfl
theorem TZ:iI .max [.int a,.int b]=.ok (true,.int (if b>a then b else a)):=rfl
theorem PF:iI .min [.tup [.int a,.int b]]=.ok (true,.int (min a b)):=rfl
theorem PJ:iI .max [.tup [.int a,.int b]]=.ok (true,.int (max a b)):=rfl
theorem PK:iI .list [.rl vs]=.ok (dw vs,.rl vs):=rfl
theorem PM:iI .list [.tup vs]=.ok (dw vs,.rl vs):=rfl
theorem T4:iI .int [.bl t]=.ok (true,.int (if t=true then 1 else 0)):=rfl
theorem bX(h:fX vs a=some v):mF [] (.rl vs) (.int a)=some v:=h
theorem cC(h:fX vs a=some v):mF [] (.tup vs) (.int a)=some v:=h
end
theorem qX:fX (v::vs) (0:Int)=some v:=by
 have:=pB (xs:=v::vs) (j:=0) (v:=v) rfl;exact this
theorem lO:fX (u::v::vs) (1:Int)=some v:=by
 have:=pB (xs:=u::v::vs) (j:=1) (v:=v) rfl;exact this
theorem ne_self(h:toD 16 [] d=some p)(hp:p.canLay0=true):cop [] .ne d d=some false:=by
 simp only[cop,zu,h,bind_some];rw[SeqAt.eqv_refl p hp];rfl
theorem gO:kX .seq [.rl vs]=some vs:=rfl
theorem PN:FD .seq ds=kX .seq ds:=rfl
theorem PR:FD .range ds=kX .range ds:=rfl
theorem PU:FD .enum ds=kX .enum ds:=rfl
theorem Ml{lo hi:Option Int}:C6 (.rl vs) lo hi=.ok (dw (di vs lo hi),.rl (di vs lo hi)):=rfl
theorem aW{i:Nat}:cO (.one i) d env=some (env.set i (some (.sh,d))):=rfl
theorem Ga{α β:Type}(f:α -> β)(ds:List α)(lo hi:Option Int):di (ds.map f) lo hi=(di ds lo hi).map f:=by
 unfold di;simp only[length_map,map_take,List.map_drop]
theorem jU{α β γ:Type}{f:β -> Option γ}{g:α -> β}{k:α -> γ}:∀(xs:List α),(∀x∈xs,f (g x)=some (k x))->cZ f (xs.map g)=some (xs.map k)
 |[],_=>rfl
 | x::r,h=>by
  rw[aay,cZ,h x aak,jU r λy hy=>h y (aaf _ hy)];rfl
theorem ints_map(xs:List Int):bw (xs.map .int)=some xs:=by
 have:=jU (f:=λv=>match v with|.int i=>some i|_=>none) (g:=Val.int) (k:=id) xs λ_ _=>rfl;rw[map_id]at this;exact this
theorem zL(pD:List (List Int))(h:∀k∈pD,k≠[])(hl:pD.length<64):fh (pD.map lG)=some ((mC pD).map lG):=by
 unfold fh;rw[aae (by rw[aag];exact hl)];cases pD with
 |nil=>rfl
 |cons k r=>
  have e:bw (List.map lG (k::r))=none:=by unfold bw ;rw[aay,cZ];rfl
  rw[e];have e2:lu (List.map lG (k::r))=some (k::r):=by
   have:=jU (f:=λv=>match v with|.tup vs=>if vs.isEmpty then none else bw vs|_=>none) (g:=lG) (k:=id) (k::r) λx hx=>by
    have hx:=h x hx;show (if (x.map Val.int).isEmpty=true then none else bw (x.map .int))=some x;rw[aac (by simpa using hx),ints_map]
   rw[map_id]at this;exact this
  show (lu (List.map lG (k::r))).bind _=_;rw[e2];rfl
theorem bg(s:String):PyData.strOk (Str.ofString s)=true:=by
 have:=PyProof.Rows.signs_ofString s;unfold PyData.strOk;rw[<-Array.all_toList,this,all_eq_true];intro c hc;obtain⟨d,_,rfl⟩:=aaP.mp hc;have:=d.valid;simp only[decide_eq_true_eq];show d.val.toNat<1114112;unfold UInt32.isValidChar Nat.isValidChar at this;omega
theorem vj{n:Nat}(e:PyData.strOk x=true):toD (n+1) h (.str x)=some (.str x):=aae e
theorem zM{α:Type}{n:Nat}(f:α -> Val)(g:α -> PyData)(xs:List α)(e:∀x∈xs,toD n h (f x)=some (g x)):toD (n+1) h (.rl (xs.map f))=some (.list (xs.map g)):=by
 show (cZ (toD n h) _).bind _=_;rw[jU xs e];rfl
theorem Kv{α:Type}{n:Nat}(f:α -> Val)(g:α -> PyData)(xs:List α)(e:∀x∈xs,toD n h (f x)=some (g x)):toD (n+1) h (.tup (xs.map f))=some (.tuple (xs.map g)):=by
 show (cZ (toD n h) _).bind _=_;rw[jU xs e];rfl
theorem Gb{n:Nat}(ks:List Int):toD (n+2) h (lG ks)=some (.tuple (ks.map .int)):=Kv _ _ ks λ_ _=>rfl
theorem jl{α:Type}(g:α -> PyData):∀(xs:List α),(∀x∈xs,(g x).canLay0=true)->PyData.canLayAll0 (xs.map g)=true
 |[],_=>by simp[PyData.canLayAll0]
 | x::r,h=>by
  rw[aay,PyData.canLayAll0,h x aak,jl g r λy hy=>h y (aaf _ hy)];rfl
theorem gq{α:Type}(enc:α -> Val)(Q:List α -> bx->Prop):∀(us done:List α) (env:bx),Q done env->(∀(pre:List α) (u:α) (post:List α) (env:bx),done++us=pre++u::post->Q pre env->∃env',body (enc u) env=.ok (.nx env')/\Q (pre++[u]) env')->∃env',jC body (us.map enc) env=.ok (.nx env')/\Q (done++us) env'
 |[],done,env,q,_=>⟨env,rfl,by rw[append_nil];exact q⟩
 | x::xs,done,env,q,h=>by
  obtain⟨env',e,q'⟩:=h done x xs env rfl q;have eq:done++x::xs=done++[x]++xs:=by simp
  obtain⟨nN,e2,q2⟩:=gq enc Q xs (done++[x]) env' q' (by rw[<-eq];exact h);refine⟨nN,?_,by rw[eq];exact q2⟩;rw[aay,jC,e,aU];exact e2
theorem dN{α:Type}(enc:α -> Val){us:List α}{yS:bx}{β:Type}{k:Mf->Pr β}(G:Pr β -> Prop)(Q:List α -> bx->Prop)(h0:Q [] yS)
  (step:∀(pre:List α) (u:α) (post:List α) (env:bx),us=pre++u::post->Q pre env->∃env',body (enc u) env=.ok (.nx env')/\Q (pre++[u]) env')
  (post:∀env',Q us env'->G (k (.nx env'))):G (pb (jC body (us.map enc) yS) k):=by
 obtain⟨env',e,q⟩:=gq enc Q us [] yS h0 (λpre x post env ep q=>step pre x post env ep q);rw[e,aU];exact post env' q
abbrev yE(xs:List Int)(g:Int->Val):Val:=.dc (xs.map Sum.inl) (xs.map g)
def xC(g:Int->Val)(x:Int)(v:Val):Int->Val:=λy=>if y=x then v else g y
theorem zN(xs:List Int)(g:Int->Val):(xs.map (Sum.inl:Int->Key)).zip (xs.map g)=xs.map λx=>((Sum.inl x:Key),g x):=by
 induction xs with
 |nil=>rfl
 |cons x r ih=>simp only[map_cons,zip_cons_cons,ih]
theorem qY{xs:List Int}{x:Int}(h:x∈xs):mF [] (yE xs g) (.int x)=some (g x):=by
 show cJ _ _=_;rw[zN];unfold cJ
 induction xs with
 |nil=>simp at h
 |cons y r ih=>
  rw[aay,find?_cons]
  by_cases e:y=x
  ·subst e;simp
  ·have:((Sum.inl y:Key)=Sum.inl x)=False:=by simp[e]
   simp only[this,decide_false];exact ih (by rcases aao.mp h with h|h;exact absurd h.symm e;exact h)
theorem Gd(xs:List Int)(g:Int->Val)(x:Int):((xs.map λx=>((Sum.inl x:Key),g x)).any λkv=>decide (kv.1=Sum.inl x))=decide (x∈xs):=by
 induction xs with
 |nil=>rfl
 |cons y r ih=>
  rw[aay,any_cons,ih]
  by_cases e:y=x
  ·subst e;simp
  ·have e':¬ x=y:=λh=>e h.symm;simp[e,e']
theorem Kw{xs:List Int}{x:Int}(h:x∈xs):putD (xs.map Sum.inl) (xs.map g) (.inl x) v=yE xs (xC g x v):=by
 unfold putD kU;rw[zN,Gd,aae (by simpa using h)];unfold yE;rw[aaN,aaN]
 congr 1
 ·refine aaT λy _=>?_
  show ((if (Sum.inl y:Key)=Sum.inl x then ((Sum.inl y:Key),v) else (Sum.inl y,g y)).1)=_
  split<;>rfl
 ·rw[aaN,aaN]
  refine aaT λy _=>?_;show ((if (Sum.inl y:Key)=Sum.inl x then ((Sum.inl y:Key),v) else (Sum.inl y,g y)).2)=_;unfold xC
  by_cases e:y=x
  ·rw[aae (by rw[e]),aae e]
  ·rw[aac (by simpa using e),aac e]
theorem Ky{xs:List Int}{x:Int}(h:x∉xs):putD (xs.map Sum.inl) (xs.map g) (.inl x) v=yE (xs++[x]) (xC g x v):=by
 unfold putD kU;rw[zN,Gd,aac (by simpa using h)];unfold yE;simp only[map_append,List.map_map,map_cons,map_nil]
 congr 1
 congr 1
 ·refine aaT λy hy=>?_;show g y=xC g x v y;unfold xC;rw[aac (λe:y=x=>h (e▸hy))]
 ·simp[xC]
theorem kJ{xs:List Int}(h:∀x∈xs,g x=g' x):yE xs g=yE xs g':=by
 unfold yE;rw[aaT h]
theorem Bw{x:Int}:keyOf (.int x)=some (.inl x):=rfl
theorem Kz(a b:Int):PyData.eqv (.int a) (.int b)=decide (a=b):=by
 show (a==b)=_
 by_cases h:a=b<;>simp[h]
theorem Ge{xs:List Int}{x:Int}:cop [] .EG (.int x) (.rl (xs.map .int))=some (decide (x∈xs)):=by
 show (toD 16 [] (.rl (xs.map .int))).bind _=_;rw[zM Val.int PyData.int xs λ_ _=>rfl];show some ((xs.map PyData.int).any λy=>PyData.eqv y (.int x))=_
 congr 1
 induction xs with
 |nil=>rfl
 |cons y r ih=>
  rw[aay,any_cons,ih,Kz]
  by_cases e:y=x
  ·subst e;simp
  ·have e':¬ x=y:=λh=>e h.symm;simp[e,e']
theorem xD(x:Int):∀(ns ks:List Int),x∈iu ks ns↔x∈ks\/x∈ns
 |[],ks=>by simp[iu]
 | k::r,ks=>by
  rw[iu,xD x r,qj]
  split
  ·rename_i h
   constructor
   ·rintro(h'|h')
    ·exact .inl h'
    ·exact .inr (aaf _ h')
   ·rintro(h'|h')
    ·exact .inl h'
    ·rcases aao.mp h' with h'|h'
     ·exact .inl (h'▸h)
     ·exact .inr h'
  ·simp[or_assoc]
theorem qZ:∀(ns ks:List Int),ks.Nodup->(iu ks ns).Nodup
 |[],ks,h=>h
 | k::r,ks,h=>by
  rw[iu];refine qZ r _ ?_;rw[qj]
  split
  ·exact h
  ·rename_i hk;rw[aaY];exact⟨h,by simp,λa ha b hb=>by simp at hb;subst hb;exact λe=>hk (e▸ha)⟩
def kR(ns:List Int):List Int:=sortI (iu [] ns)
theorem Gf(x:Int)(ns:List Int):x∈kR ns↔x∈ns:=by
 unfold kR;rw[(sortI_perm _).mem_iff,xD];simp
theorem zO(ns:List Int):(kR ns).Nodup:=by
 unfold kR;rw[(sortI_perm _).nodup_iff];exact qZ ns [] nodup_nil
inductive Way (es:List (Int×Int)):Int->Int->Prop
 |refl (a:Int):Way es a a
 |fwd {a b c:Int}:Way es a b->(b,c)∈es->Way es a c
 |bwd {a b c:Int}:Way es a b->(c,b)∈es->Way es a c
theorem Way.trans{a b c:Int}(h:Way es a b)(k:Way es b c):Way es a c:=by
 induction k with
 |refl=>exact h
 |fwd _ m ih=>exact .fwd ih m
 |bwd _ m ih=>exact .bwd ih m
theorem Way.symm{a b:Int}(h:Way es a b):Way es b a:=by
 induction h with
 |refl=>exact .refl _
 |fwd _ m ih=>exact(Way.bwd (.refl _) m).trans ih
 |bwd _ m ih=>exact(Way.fwd (.refl _) m).trans ih
theorem Way.mono(hs:∀e∈es,e∈fs){a b:Int}(h:Way es a b):Way fs a b:=by
 induction h with
 |refl=>exact .refl _
 |fwd _ m ih=>exact .fwd ih (hs _ m)
 |bwd _ m ih=>exact .bwd ih (hs _ m)
theorem Way.const{α:Type}(f:Int -> α)(hf:∀e∈es,f e.1=f e.2){a b:Int}(h:Way es a b):f a=f b:=by
 induction h with
 |refl=>rfl
 |fwd _ m ih=>exact ih.trans (hf _ m)
 |bwd _ m ih=>exact ih.trans (hf _ m).symm
structure Dc (ps:List Int) (es:List (Int×Int)) (f:Int->Int):Prop where
 EG:∀x∈ps,f x∈ps
 way:∀x∈ps,Way es x (f x)
 same:∀e∈es,f e.1=f e.2
theorem Dc.iff{ps:List Int}(h:Dc ps es f){x y:Int}(hx:x∈ps)(hy:y∈ps):f x=f y↔Way es x y:=by
 constructor
 ·intro e;have:=(h.way y hy).symm;rw[<-e]at this;exact(h.way x hx).trans this
 ·exact λw=>w.const f h.same
theorem Dc.start(ps:List Int):Dc ps [] id:=⟨λx h=>h,λx _=>.refl x,λe h=>by simp at h⟩
theorem Dc.step{ps:List Int}(h:Dc ps es f){a b:Int}(ha:a∈ps)(hb:b∈ps)(kept gone:Int)(hk:(kept=f a/\gone=f b)\/(kept=f b/\gone=f a)):Dc ps (es++[(a,b)]) (λx=>if f x=gone then kept else f x):=by
 have up:∀{x y},Way es x y->Way (es++[(a,b)]) x y:=λw=>w.mono λe he=>aaO _ he;have ab:Way (es++[(a,b)]) a b:=.fwd (.refl _) (by simp);refine⟨λx hx=>?_,λx hx=>?_,λe he=>?_⟩
 ·split
  ·rcases hk with ⟨k,_⟩|⟨k,_⟩<;>rw[k]<;>exact h.EG _ (by assumption)
  ·exact h.EG x hx
 ·split
  ·rename_i e
   have w1:=up (h.way x hx);rw[e]at w1;refine w1.trans ?_
   rcases hk with ⟨k,g⟩|⟨k,g⟩
   ·rw[k,g];exact((up (h.way b hb)).symm.trans ab.symm).trans (up (h.way a ha))
   ·rw[k,g];exact((up (h.way a ha)).symm.trans ab).trans (up (h.way b hb))
  ·exact up (h.way x hx)
 ·rcases aaD.mp he with he|he
  ·rw[h.same e he]
  ·rw[aaq]at he
   subst he
   rcases hk with ⟨k,g⟩|⟨k,g⟩
   ·rw[k,g];rw[aae (rfl:f b=f b)];split<;>rfl
   ·rw[k,g];rw[aae (rfl:f a=f a)];split<;>rfl
abbrev T3:=Int×Int×Int
def l3(t:T3):List Int:=[t.1,t.2.1,t.2.2]
def bu(t:T3):Val:=.tup [.int t.1,.int t.2.1,.int t.2.2]
def vm(x:T3):List T3->List T3
 |[]=>[x]
 |y::r=>if HT.lexLt (l3 y) (l3 x)=true then y::vm x r else x::y::r
def fq:List T3->List T3
 |[]=>[]
 |x::r=>vm x (fq r)
theorem xE(x:T3):∀l:List T3,uV (l3 x) (l.map l3)=(vm x l).map l3
 |[]=>rfl
 | y::r=>by
  rw[aay,uV,vm]
  split
  ·rw[aay,xE x r]
  ·rfl
theorem uc:∀l:List T3,mC (l.map l3)=(fq l).map l3
 |[]=>rfl
 |x::r=>by rw[aay,mC,uc r,xE];rfl
theorem nP(x:T3):∀l:List T3,(vm x l).Perm (x::l)
 |[]=>.refl _
 | y::r=>by
  rw[vm]
  split
  ·exact((nP x r).cons y).trans (List.Perm.swap ..)
  ·exact .refl _
theorem bq:∀l:List T3,(fq l).Perm l
 |[]=>.refl _
 |x::r=>(nP x _).trans ((bq r).cons x)
theorem KA(ts:List T3)(hl:ts.length<64):fh (ts.map bu)=some ((fq ts).map bu):=by
 have e:∀us:List T3,us.map bu=(us.map l3).map lG:=λus=>by rw[aaN];rfl
 rw[e,zL _ (λk hk=>by obtain⟨t,_,rfl⟩:=aaP.mp hk;simp[l3]) (by rw[aag];exact hl),uc,e]
theorem xF(hl:ts.length<64):iI .sorted [.rl (ts.map bu)]=.ok (true,.rl ((fq ts).map bu)):=by
 show pb (pl (fh _)) _=_;rw[KA ts hl];rfl
def Bx(ts:List T3):Prop:=ts.Pairwise λa b=>a.1<b.1
theorem By(x:T3):∀l:List T3,Bx l->(∀y∈l,y.1≠x.1)->Bx (vm x l)
 |[],_,_=>by simp[vm,Bx]
 | y::r,h,hn=>by
  unfold Bx at *;rw[pairwise_cons]at h;have ny:y.1≠x.1:=hn y aak;rw[vm];have lx:HT.lexLt (l3 y) (l3 x)=decide (y.1<x.1):=by show HT.lexLt (y.1::_) (x.1::_)=_;rw[HT.gA,aac ny]
  rw[lx]
  by_cases c:y.1<x.1
  ·rw[aae (by simpa using c),pairwise_cons]
   refine⟨λz hz=>?_,By x r h.2 λz hz=>hn z (aaf _ hz)⟩
   rcases aao.mp ((nP x r).mem_iff.mp hz) with hz|hz
   ·rw[hz];exact c
   ·exact h.1 z hz
  ·rw[aac (by simpa using c),pairwise_cons,pairwise_cons]
   refine⟨λz hz=>?_,h⟩;have:x.1<y.1:=by omega
   rcases aao.mp hz with hz|hz
   ·rw[hz];exact this
   ·have:=h.1 z hz;omega
theorem jV:∀l:List T3,(l.map (·.1)).Nodup->Bx (fq l)
 |[],_=>.nil
 | x::r,h=>by
  rw[aay,aaW]at h;refine By x _ (jV r h.2) λy hy e=>h.1 ?_;rw[(bq r).mem_iff]at hy;exact aaP.mpr ⟨y,hy,e⟩
def turnT(t:T3):T3:=(t.1,if t.2.2<t.2.1 then t.2.2 else t.2.1,if t.2.2>t.2.1 then t.2.2 else t.2.1)
def aA(p q:Int)(ts:List T3):Val:=.tup [.tup [.int p,.int q],.rl (ts.map bu)]
theorem KC(p q:Int)(ts:List T3):cop [] .ne (aA p q ts) (aA p q ts)=some false:=by
 have h1:toD 15 [] (.tup [.int p,.int q])=some (.tuple [.int p,.int q]):=rfl;have h2:toD 15 [] (.rl (ts.map bu))=some (.list (ts.map λt=>.tuple ((l3 t).map .int))):=zM bu _ ts λt _=>Gb (l3 t);have h:toD 16 [] (aA p q ts)=some (.tuple [.tuple [.int p,.int q],.list (ts.map λt=>.tuple ((l3 t).map .int))]):=by show (cZ (toD 15 []) _).bind _=_;rw[cZ,h1,cZ,h2,cZ];rfl
 refine ne_self h ?_;have hi:∀xs:List Int,PyData.canLayAll0 (xs.map PyData.int)=true:=λxs=>jl _ _ λ_ _=>by rw[PyData.canLay0]
 have h3:PyData.canLayAll0 (ts.map λt=>.tuple ((l3 t).map .int))=true:=jl _ _ λt _=>by rw[PyData.canLay0];exact hi _
 have h4:=hi [p,q];simp only[map_cons,map_nil]at h4;rw[PyData.canLay0,PyData.canLayAll0,PyData.canLay0,h4,PyData.canLayAll0,PyData.canLay0,h3,PyData.canLayAll0];rfl
theorem mR{i j k:Nat}:cO (.tup [i,j,k]) (bu t) env=some (((env.set i (some (.sh,.int t.1))).set j (some (.sh,.int t.2.1))).set k (some (.sh,.int t.2.2))):=rfl
theorem Dd{α:Type}(ds:List α)(lo:Int)(n:Nat)(h:0<=lo):(di ds (some lo) (some (lo+n))).length<=n:=by
 unfold di HT.dQ;dsimp only;rw[aac (by omega),aac (by omega)];simp only[length_take,length_drop];omega
theorem Gg:C6 (bu t) (some 1) none=.ok (true,.tup [.int t.2.1,.int t.2.2]):=rfl
theorem rj{α:Type}(enc:α -> Val)(g:α -> FV):∀(us:List α),(∀u∈us,f (enc u)=.ok (some (g u)))->jy f (us.map enc)=.ok (us.all λu=>(g u).1,us.map λu=>(g u).2)
 |[],_=>rfl
 | x::xs,h=>by
  rw[aay,jy,h x aak,aU,rj enc g xs λy hy=>h y (aaf _ hy),aU];rfl
theorem fB{α:Type}(enc dec:α -> Val)(us:List α)(h:∀u∈us,f (enc u)=.ok (some (true,dec u))):jy f (us.map enc)=.ok (true,us.map dec):=by
 rw[rj enc (λu=>(true,dec u)) us h];simp
theorem lP{α:Type}(enc dec:α -> Val)(t:α -> Bool):∀(us:List α),(∀u∈us,f (enc u)=.ok (if t u=true then some (true,dec u) else none))->jy f (us.map enc)=.ok (true,(us.filter t).map dec)
 |[],_=>rfl
 | x::xs,h=>by
  rw[aay,jy,h x aak,aU,lP enc dec t xs λy hy=>h y (aaf _ hy),aU]
  by_cases hx:t x=true
  ·rw[aae hx,List.filter_cons_of_pos hx];rfl
  ·rw[aac hx,List.filter_cons_of_neg hx]
theorem KG:∀m,m<67->∀d,d<67->0<m->0<d->(m*d)%67≠0:=by decide +kernel
theorem KH{m c i j:Int}(hm:0<m/\m<67)(hi:0<=i/\i<67)(hj:0<=j/\j<67)(e:(m*i+c)%67=(m*j+c)%67):i=j:=by
 have key:∀i j:Int,0<=i->j<67->i<j->(m*i+c)%67=(m*j+c)%67->False:=by
  intro i j h0 h1 hlt e;obtain⟨a,ha⟩:=Int.eq_ofNat_of_zero_le (show 0<=m by omega);obtain⟨d,hd⟩:=Int.eq_ofNat_of_zero_le (show 0<=j-i by omega);have p:=KG a (by omega) d (by omega) (by omega) (by omega);have:m*j=m*i+m*(j-i):=by rw[Int.mul_sub];omega
  rw[this]at e;have e2:(m*(j-i))%67=0:=by omega
  rw[ha,hd]at e2;apply p;have:((a*d:Nat):Int)%67=0:=by rw[Int.natCast_mul];exact e2
  omega
 rcases Int.lt_trichotomy i j with h|h|h
 ·exact(key i j hi.1 hj.2 h e).elim
 ·exact h
 ·exact(key j i hj.1 hi.2 h e.symm).elim
end Hv
end
section
namespace Hv
open PySem L2 PyProof.Rows
def T5(b:List Stmt)(g:Str):Prop:=∃p1 p2 p3 p4,b=[.Assign [.Attribute (.Name "self" p1) g p2] (.Name g p3) p4]
section
variable {P:Program} {w:World} {K:Frag} {cl:Nat->Addr} {mg:Str->Option Value} {base:Heap} {k:Nat} {fs:List Row} {cons:List (Str×Val)} {tb:Tb}
theorem PV{x qual g:Str}{st:Stmt}{f:Addr}{fd:FuncData}(F:HW K x qual st f fd)(hS:aM ["self",g] ["self",g] (af st)=true)(hg:g ≠ "self")(hb:T5 (aq st) g)(hd:(g==("__debug__":Str))=false)(hcd:(g==("__classdict__":Str))=false):dW P w K mg base HV (k+1) f fd ["self",g] (Ax K g):=by
 have S:=qL hS;obtain⟨p1,p2,p3,p4,hb⟩:=hb;refine F.ok S (λvs H Q E h=>?_) (λcdv A' outer s H vs Q E hr h=>?_)
 ·obtain⟨e,y,C,D,t,cd,rfl,_⟩:=h;rfl
 ·rw[hb]
  refine⟨_,Ag (ND (jF (i:=0) rfl ?_ (by decide) (by decide)) (jF (i:=1) rfl ?_ hd hcd) rfl),?_⟩
  ·rcases S.par "self" (by simp) with z|z
   ·exact .inl z
   ·exact .inr (.inl z)
  ·rcases S.par g (by simp) with z|z
   ·exact .inl z
   ·exact .inr (.inl z)
  ·obtain⟨e,y,C,D,t,cd,rfl,he,c,n,q⟩:=h;exact⟨y,rfl,.ref e,rfl,e,C,D,t,cd,rfl,he,c,n,q⟩
end
abbrev BA:List Str:=["_law_net_here","_law_side","_law_kinds","_law_told","e"]
abbrev Wz:List Str:=["isinstance","ValueError","NetError","TooBig","TooMany","Over","all_plays","tried"]
theorem zP:bootBuiltins "isinstance" = some (.builtin "isinstance"):=by decide +kernel
theorem PX:bootBuiltins "ValueError" = some (.type "ValueError"):=by decide +kernel
theorem PY{K:Frag}{H:Hp}{x:V}{C p:Addr}{o:HO}(t:Se K H x C)(hp:H p=none):Se K (upd H p o) x C:=by
 obtain⟨a,dx,rfl,⟨φ,e,hx⟩,hd,G⟩:=t;refine⟨a,dx,rfl,⟨φ,by rw[ao (aF e hp)];exact e,hx⟩,?_,G⟩;cases dx with
 |none=>trivial
 |some d=>obtain⟨fs,hd⟩:=hd;exact⟨fs,by rw[ao (aF hd hp)];exact hd⟩
structure vn (X:Cx):Prop where
 N:X.N=BA
 l:∀x∈BA,X.env.scope.names.lookup x=some .local
 gl:∀x∈Wz,X.env.scope.names.lookup x=some .globalImplicit
 mi:X.mg "isinstance" = none
 mv:X.mg "ValueError" = none
structure PZ (K:Frag) (mg:Str->Option Value) (CB D CM CO:Addr):Prop where
 gB:EC K CB
 mB:mg "TooBig" = some (.ref CB)
 mD:mg "NetError" = some (.ref D)
 mM:mg "TooMany" = some (.ref CM)
 mO:mg "Over" = some (.ref CO)
 kB:kitOne K (.ref CB) (.ref CB)=some true
 kV:kitOne K (.ref CB) (.type "ValueError")=some true
 kA:kitAny K (.ref CB) [.ref CM,.ref CO]=some false
 sB:Jq K CB D true
section
variable {X:Cx}
theorem vn.nd(k:vn X):X.N.Nodup:=by rw[k.N];decide
theorem vn.nm(k:vn X){i:Nat}(e:BA[i]?=some x):X.N[i]?=some x:=by rw[k.N];exact e
theorem vn.ev(k:vn X)(p:Pos):PE X (.Name "e" p) (B5 4):=jF (k.nm rfl) (.inl (k.l _ (by simp))) (by decide) (by decide)
def uQ(K:Frag)(CB CM CO:Addr):TS:=λEn σ H=>∃x,σ[4]?=some (some x)/\Se K H x CB /\
 ∀p,H p=none->∀p2,upd H p (.tup [.ref CM,.ref CO]) p2=none->En.nx (σ.set 2 (some (.ref p2))) (upd (upd H p (.tup [.ref CM,.ref CO])) p2 (.lst [.bl true,.bl true,.bl false]))
theorem P4(k:vn X)(Kx:PZ X.K X.mg CB D CM CO){a0 a1 a2 a3 a4 a5 a6 a7 a8 a9 b0 b1 b2 b3 b4 b5 b6:Pos}{kk:Nat} :
  uC X [.Assign [.Name "_law_kinds" a0] (.List [.Call (.Name "isinstance" a1) [.Name "e" a2,.Name "TooBig" a3] [] a4,.Call (.Name "isinstance" a5) [.Name "e" a6,.Name "ValueError" a7] [] a8,
   .Call (.Name "isinstance" a9) [.Name "e" b0,.Tuple [.Name "TooMany" b1,.Name "Over" b2] kk b3] [] b4] b5) b6] (uQ X.K CB CM CO):=by
 have i2:X.N[2]?=some ("_law_kinds":Str):=k.nm rfl;have l2:=k.l ("_law_kinds":Str) (by simp);have c1:=dh (pos:=a4) (p:=a1) wD (k.gl _ (by simp)) k.mi zP (bZ (k.ev a2) (bZ (pq (pos:=a3) (v:=.ref CB) (k.gl _ (by simp)) Kx.mB rfl (by decide)) iW (au rfl)) (au rfl)) (by decide) (by decide) (au rfl) (by rw[au rfl];rfl);have c2:=dh (pos:=a8) (p:=a5) wD (k.gl _ (by simp)) k.mi zP (bZ (k.ev a6) (bZ (Af (pos:=a7) (v:=.ty "ValueError") (k.gl _ (by simp)) k.mv PX rfl (by decide) (by decide)) iW (au rfl)) (au rfl)) (by decide) (by decide) (au rfl) (by rw[au rfl];rfl);have c3:=dh (pos:=b4) (p:=a9) EE (k.gl _ (by simp)) k.mi zP (bZ (k.ev b0) (bZ (DR (pos:=b3) (x1:=kk) (bZ (pq (pos:=b1) (v:=.ref CM) (k.gl _ (by simp)) Kx.mM rfl (by decide)) (bZ (pq (pos:=b2) (v:=.ref CO) (k.gl _ (by simp)) Kx.mO rfl (by decide)) iW (au rfl)) (au rfl))) iW (au rfl)) (au rfl)) (by decide) (by decide) (au rfl) (by rw[au rfl];rfl);have S1:=yI (pos:=b6) (DS (pos:=b5) (bZ c1 (bZ c2 (bZ c3 iW (au rfl)) (au rfl)) (au rfl))) (l0 (pos:=a0) k.nd i2 (.inl l2) (.inr l2)) rfl rfl rfl;refine uC.imp (Ag S1) λEn σ H q=>?_;obtain⟨x,e4,ty,q⟩:=q;refine⟨x,e4,x,.ref CB,.ref CB,CB,true,rfl,λu z=>z,ty,Kx.kB,?_⟩;refine⟨x,e4,x,.ty "ValueError",.type "ValueError",CB,true,rfl,λu z=>z,ty,Kx.kV,?_⟩;refine⟨x,e4,⟨by show 2<=_;decide,λp hp=>?_⟩⟩;refine⟨x,p,[CM,CO],CB,false,rfl,aD,PY ty hp,Kx.kA,?_⟩;exact⟨by show 3<=_;decide,λp2 hp2=>q p hp p2 hp2⟩
end
def wQ(K:Frag)(CB CM CO C:Addr):Ends->L2.St->Addr->Hp->Prop:=if C=CB then NH 4 (uQ K CB CM CO) else λ_ _ _ _=>False
section
variable {X:Cx} {k:Nat} {f:Addr} {fd:FuncData} {ps:List Str} {sp:Sp} {x n:Str} {p cpos p0 pos:Pos} {e0:Expr} {es:List Expr} {t:TA} {h0:ExceptHandler} {hs:List ExceptHandler} {w:Addr->Ends->L2.St->Addr->Hp->Prop} {i:Nat}
theorem ud(hst:X.stack=X.env::X.outer)(hfm:X.env.frame=some X.env.locals)(F:dW X.prog X.w X.K X.mg X.base (nj X.prog X.w) k f fd ps sp)(hr:dU k X.A)(hg:Gl X x)(hm:X.mg x=some (.ref f))(hk:keepIn X.K (.ref f)=true)(hb:Binds X.K fd ps [])
  (ha:PA X.DA (e0::es) t) (hdb:(x==("__debug__":Str))=false) (he:starEach (e0::es) X.env=(false,eval e0 X.env)::starEach es X.env) (hpl:(backTo cpos (starEach es X.env)).any (·.1)=false)
  (hsw:swapsWith (.Call (.Name x p) (e0::es) [] cpos) (some (.Name n p0)) pos.line X.env=pure false) (hN:X.N.Nodup) (hi:X.N[i]?=some n) (hn:X.env.scope.names.lookup n=some .local) (hh:∀C,V8 X C (h0::hs) (w C))
 (I:Inv X pins σ H s) (h:t σ H λvs H1=>sp vs H1 (λy H2=>D.nx (σ.set i (some y)) H2) λc d H'=>∃C,c=.ref C/\∀a T,H' a=none->H' T=none->T≠a->w C D σ a (oj H' a C T d)) :
  wpAny (model X.prog X.w) X.A (exec (.Assign [.Name n p0] (.Call (.Name x p) (e0::es) [] cpos) pos) X.env) (λfl s1=>match fl with|.next=>∃σ' H',Inv X pins σ' H' s1/\D.nx σ' H'|_=>False)
   (λe s1=>wpAny (model X.prog X.w) X.A (noteFrame e X.env) (λ_ s2=>wpAny (model X.prog X.w) X.A (setFlight e none) (λ_ s3=>wpAny (model X.prog X.w) X.A (handleBy e X.env (h0::hs)) (SP X pins D) X.xe s3) X.xe s2) X.xe s1) s:=by
 refine wpAny_Assign_Name ?_ hsw;refine wpAny_Call_Name_kw (iU I hg hm ?_ hdb);refine callWith_K (h₀:=X.base) I.ok.mod.Q6 hk (aaK (ha cpos pins s σ H _ (I.nt _) h) (λus s1 zz=>?_) λ_ _ z=>False.elim z) he hpl;obtain⟨vs,H1,I1,r,q⟩:=zz;refine⟨I1.kQ,?_⟩;have I1:=I1.gz;have hl:us.length=ps.length:=by rw[<-r.length];exact F.len _ _ _ _ q
 have UR:=hb s1 us I1.kQ (by rw[append_nil];exact hl);rw[append_nil] at UR;refine wpAny_call (codeAny_mono (F.run X.A X.stack s1 H1 ⟨us,[]⟩ us vs _ _ hr I1.yS UR r q) λrr s' hq=>?_);cases rr with
 |ok fl=>
  cases fl with
  |ret v=>obtain⟨y,H2,I2,ry,q2⟩:=I1.after hq;exact lY I2 hN hi (.inl hn) ry (λs5 I5=>⟨_,H2,I5,q2⟩) (.inr hn)
  |next=>exact False.elim hq
  |brk=>exact False.elim hq
  |cont=>exact False.elim hq
 |error ev=>unfold CR at hq;dsimp only at hq;refine zq (Q:=λev s3=>wpAny (model X.prog X.w) X.A (handleBy ev X.env (h0::hs)) (SP X pins D) X.xe s3) hst hfm I1 hq ?_;rintro a C' T dx H' s3 ⟨C,ec,q3⟩ fa fT ne I3;cases ec;exact hh C' pins s3 σ H' a T dx D I3 ne (q3 a T fa fT ne)
end
abbrev U4:IS:=.asg (.one 2) (.lst .nil)
abbrev KI:IS:=.asg (.one 3) (.cst (.str ""))
abbrev Q2:IE:=.cmp .eq (!1) (.cst (.str ""))
abbrev rm:dF:=.cons (.ret (.tup #[!3,!2])) .nil
def T6(b:List Stmt)(s0 s1:Stmt)(test:Expr)(post:List Stmt):Prop:=∃(a0 a1 a2 a3 a4 a5 b0 b1 b2 b3 b4 b5 c0 c1 d0 d1 d2 d3 d4 d5 d6 d7 d8 d9 e0 e1 e2 e3 e4 e5 e6 e7:Pos) (kk:Nat),b =
 s0::s1::.Try [.If test [.Assign [.Name "_law_told" a0] (.Call (.Name "all_plays" a1) [.Name "_law_net_here" a2] [] a3) a4] [.Assign [.Name "_law_told" b0] (.Call (.Name "tried" b1) [.Name "_law_net_here" b2,.Name "_law_side" b3] [] b4) b5] a5]
  [.ExceptHandler (some (.Name "NetError" c0)) (some "e") [.Assign [.Name "_law_kinds" d0] (.List [.Call (.Name "isinstance" d1) [.Name "e" d2,.Name "TooBig" d3] [] d4,.Call (.Name "isinstance" d5) [.Name "e" d6,.Name "ValueError" d7] [] d8,
   .Call (.Name "isinstance" d9) [.Name "e" e0,.Tuple [.Name "TooMany" e1,.Name "Over" e2] kk e3] [] e4] e5) e6] c1] [] [] e7::post
def ue(n jB:Nat):Out Val->Out Val
 |.ok v h'=>.ok (.tup [v,.ref n]) h'
 |.exc c [] h'=>if c=jB then .ok (.tup [.str "",.ref h'.length]) (h'++[.lst [.bl true,.bl true,.bl false]]) else .no
 |_=>.no
def Gh(φ1 φ2:List Val->M Val)(jB:Nat):List Val->M Val
 |[v0,.str x]=>λh=>if PyData.strOk x=true then ue h.length jB (if PyData.eqv (.str x) (.str "")=true then φ1 [v0] (h++[.lst []]) else φ2 [v0,.str x] (h++[.lst []])) else .no
 |_=>λ_=>.no
theorem T7{φ1 φ2:List Val->M Val}{jB:Nat}{vs:List Val}{h:Hs}{P:Out Val->Prop}(h0:P .no->False)(p:P (Gh φ1 φ2 jB vs h)) :
  ∃v0 x,vs=[v0,.str x]/\PyData.strOk x=true/\P (ue h.length jB (if PyData.eqv (.str x) (.str "")=true then φ1 [v0] (h++[.lst []]) else φ2 [v0,.str x] (h++[.lst []]))):=by
 unfold Gh at p;split at p
 ·rename_i v0 x
  by_cases c:PyData.strOk x=true
  ·rw[aae c]at p;exact⟨v0,x,rfl,c,p⟩
  ·rw[aac c]at p;exact(h0 p).elim
 ·exact(h0 p).elim
theorem P5{n jB c:Nat}{vs:List Val}{h':Hs}{P:Out Val->Prop}(h0:P .no->False)(p:P (ue n jB (.exc c vs h'))):c=jB/\vs=[]/\P (.ok (.tup [.str "",.ref h'.length]) (h'++[.lst [.bl true,.bl true,.bl false]])):=by
 cases vs with
 |cons a r=>exact(h0 p).elim
 |nil=>
  have p:P (if c=jB then .ok (.tup [.str "",.ref h'.length]) (h'++[.lst [.bl true,.bl true,.bl false]]) else .no):=p
  by_cases e:c=jB
  ·rw[aae e]at p;exact⟨e,rfl,p⟩
  ·rw[aac e]at p;exact(h0 p).elim
theorem two{α:Type}{l:List α}(h:l.length=2):∃a b,l=[a,b]:=by
 match l,h with
 |[a,b],_=>exact⟨a,b,rfl⟩
theorem WA(h1:H a=none)(h2:H T=none)(ne:T≠a):Gr ρ H ρ (oj H a C T dx):=by
 unfold oj;exact(Gr.side h1).trans (Gr.side (by rw[ao ne];exact h2))
theorem WB(r:HR B ρ h H)(h1:H a=none)(h2:H T=none)(ne:T≠a):HR B ρ h (oj H a C T dx):=by
 unfold oj;exact(r.side h1).side (by rw[ao ne];exact h2)
theorem BB:∀ir,u9 Φ ir:=by
 intro ir;exact IS.rec (motive_1:=λs=>u9 Φ s) (motive_2:=λss=>sG Φ ss) (λ_=>Fp) (λ_ _=>LY) (λ_ _ _=>LZ) (λ_ _ _=>Fq) (λ_ _ _ a b=>L3 a b) (λ_ _ _ _ a=>L4 a) (λ_ _ _ a=>L5 a) (λ_=>L6) Ft L7 L8 Fv Ba (λ_ _ _ _=>Fw)
  Fx (λ_ _ a b=>Bb a b) ir
theorem P6(v0 v1:Val)(h:Hs):iA Φ U4 [some v0,some v1,none,none,none] h=.ok (.nx [some v0,some v1,some (.ref h.length),none,none]) (h++[.lst []]):=by
 have z0:0<=sizeLine:=by decide
 rw[iA,aZ,bN];simp only[bnd,ret,aO,length_nil,z0,decide_true,if_true,new,bA];rfl
theorem KJ(v0 v1 v2:Val)(h:Hs):iA Φ KI [some v0,some v1,some v2,none,none] h=.ok (.nx [some v0,some v1,some v2,some (.str ""),none]) h:=by
 rw[iA,aZ];rfl
theorem Gi(v0 v1 v2 v3:Val)(h:Hs):lH Φ rm [some v0,some v1,some v2,some v3,none] h=.ok (.rt (.tup [v3,v2])) h:=by
 have z2:2<=sizeLine:=by decide
 have e2:bN Φ #[!3,!2] [some v0,some v1,some v2,some v3,none] h=.ok [v3,v2] h:=by rw[bN,aZ,bN,aZ,bN];rfl
 have s2:iA Φ (.ret (.tup #[!3,!2])) [some v0,some v1,some v2,some v3,none] h=.ok (.rt (.tup [v3,v2])) h:=by rw[iA,aZ];unfold bnd;rw[e2];show (match (aO (decide (2<=sizeLine)) (ret (Val.tup [v3,v2])) h) with|.ok a h'=>(λv=>ret (Fl.rt v)) a h'|.exc c vs h'=>.exc c vs h'|.no=>.no)=_;unfold aO;rw[decide_eq_true z2];rfl
 rw[lH];unfold bnd;rw[s2];rfl
theorem P7(h:Hs)(e:env[1]?=some (some (.str x)))(hx:PyData.strOk x=true):Ia Φ Q2 env h=.ok (PyData.eqv (.str x) (.str "")) h:=by
 have hs:PyData.strOk "" = true:=by decide +kernel
 unfold Ia;rw[aZ,aZ,aZ];simp only[e,bnd,bA,ret,ask,cop,zu,toD,hx,hs,if_true,bind_some];rfl
section
variable {P:Program} {w:World} {K:Frag} {cl:Nat->Addr} {mg:Str->Option Value} {base:Heap} {k:Nat} {fs:List Row} {cons:List (Str×Val)} {tb:Tb}
theorem KL{k:Nat}(c:Ctx Φ Γ k X cl EX):Ctx Φ Γ k X.DA cl NX :=
 { N:=c.N,sc:=c.sc,calm:=c.calm,room:=c.room,UY:=⟨_,u7,λ_ _ _ z=>False.elim z⟩,fns:=c.fns,cls:=c.cls,E1:=c.E1,E2:=c.E2,isc:=c.isc,cons:=c.cons,blt:=c.blt }
def WC(Φ:Fn)(B:Bd)(CB CM CO:Addr)(sp1 T8:Sp):TS:=λD σ H=>∃ρ env h x0 x,cy B.K ρ env σ H/\HR B ρ h H/\env[1]?=some (some (.str x))/\PyData.strOk x=true /\ σ[0]?=some (some x0) /\ σ[1]?=some (some (.str x)) /\
 ∀ρ1 H1,Gr ρ H ρ1 H1->HR B ρ1 h H1->(if PyData.eqv (.str x) (.str "")=true then sp1 [x0] H1 else T8 [x0,.str x] H1) (λy H2=>D.nx (σ.set 3 (some y)) H2) λc d H'=>∃C,c=.ref C/\∀a T,H' a=none->H' T=none->T≠a->wQ B.K CB CM CO C D σ a (oj H' a C T d)
theorem KN{CB D CM CO f1 f2:Addr}{T9 Ua:FuncData}{ps1 ps2:List Str}{sp1 T8:Sp}{k1:Nat}(c:Fo Φ Γ k X cl EX)(m:vn X)(hst:X.stack=X.env::X.outer)(hfm:X.env.frame=some X.env.locals)(ht:bC Γ Q2 test=true)
  (Kx:PZ X.K X.mg CB D CM CO) (F1:dW X.prog X.w X.K X.mg X.base (nj X.prog X.w) k1 f1 T9 ps1 sp1) (F2:dW X.prog X.w X.K X.mg X.base (nj X.prog X.w) k1 f2 Ua ps2 T8) (hr:dU k1 X.A) (hb1:Binds X.K T9 ps1 []) (hb2:Binds X.K Ua ps2 []) (hm1:X.mg "all_plays" = some (.ref f1)) (hm2:X.mg "tried" = some (.ref f2)) (hk1:keepIn X.K (.ref f1)=true) (hk2:keepIn X.K (.ref f2)=true)
  {a0 a1 a2 a3 a4 a5 b0 b1 b2 b3 b4 b5 c0 c1 d0 d1 d2 d3 d4 d5 d6 d7 d8 d9 e0 e1 e2 e3 e4 e5 e6 e7:Pos} {kk:Nat} :
  PS X (.Try [.If test [.Assign [.Name "_law_told" a0] (.Call (.Name "all_plays" a1) [.Name "_law_net_here" a2] [] a3) a4] [.Assign [.Name "_law_told" b0] (.Call (.Name "tried" b1) [.Name "_law_net_here" b2,.Name "_law_side" b3] [] b4) b5] a5]
  [.ExceptHandler (some (.Name "NetError" c0)) (some "e") [.Assign [.Name "_law_kinds" d0] (.List [.Call (.Name "isinstance" d1) [.Name "e" d2,.Name "TooBig" d3] [] d4,.Call (.Name "isinstance" d5) [.Name "e" d6,.Name "ValueError" d7] [] d8,
   .Call (.Name "isinstance" d9) [.Name "e" e0,.Tuple [.Name "TooMany" e1,.Name "Over" e2] kk e3] [] e4] e5) e6] c1] [] [] e7) (WC Φ (bd X cl) CB CM CO sp1 T8):=by
 intro pins s σ H En I hq;obtain⟨ρ,env,h,x0,x,hE,r,ex,hx,s0,s1,hq⟩:=hq;have hmH:∀a,vn (X.held (.ref a)).DA:=λa=>⟨m.N,m.l,m.gl,m.mi,m.mv⟩;have i3:X.N[3]?=some ("_law_told":Str):=m.nm rfl;have l3:=m.l ("_law_told":Str) (by simp);have l4:=m.l ("e":Str) (by simp);have n4:X.N[4]?=some ("e":Str):=m.nm rfl;have hh:∀C,V8 X C [.ExceptHandler (some (.Name "NetError" c0)) (some "e") [.Assign [.Name "_law_kinds" d0] (.List [.Call (.Name "isinstance" d1) [.Name "e" d2,.Name "TooBig" d3] [] d4,.Call (.Name "isinstance" d5) [.Name "e" d6,.Name "ValueError" d7] [] d8,
   .Call (.Name "isinstance" d9) [.Name "e" e0,.Tuple [.Name "TooMany" e1,.Name "Over" e2] kk e3] [] e4] e5) e6] c1] (wQ X.K CB CM CO C):=λC=>by
  unfold wQ
  by_cases e1:C=CB
  ·rw[aae e1];subst e1;exact NI (m.gl _ (by simp)) Kx.mD (by decide) Kx.sB m.nd n4 l4 λa=>P4 (hmH a) Kx
  rw[aac e1];exact λpins s σ H a T dx D I ne q=>False.elim q
 have pv0:∀p,PE X.DA (.Name "_law_net_here" p) (B5 0):=λp=>jF (X:=X.DA) (m.nm (i:=0) rfl) (.inl (m.l _ (by simp))) (by decide) (by decide);have pv1:∀p,PE X.DA (.Name "_law_side" p) (B5 1):=λp=>jF (X:=X.DA) (m.nm (i:=1) rfl) (.inl (m.l _ (by simp))) (by decide) (by decide);have hT:=Xw Q2 (KL c.toCtx) ht;refine wpAny_Try_except (wpAny_execs_cons (wpAny_If ?_));refine aaK (hT pins s σ H (λb H1=>(if b=true then sp1 [x0] H1 else T8 [x0,.str x] H1) (λy H2=>En.nx (σ.set 3 (some y)) H2) λc d H'=>∃C,c=.ref C/\∀a T,H' a=none->H' T=none->T≠a->wQ X.K CB CM CO C En σ a (oj H' a C T d)) (I.nt _) ⟨ρ,env,h,hE,r,?_⟩) (λb s1' zz=>?_) λ_ _ z=>False.elim z
 ·show Post (bd X cl) NX ρ H (WT _) (Ia Φ Q2 env h);rw[P7 h ex hx];exact λρ1 H1 g1 r1=>hq ρ1 H1 g1 r1
 ·obtain⟨H1,I1,q1⟩:=zz
  have I1:=I1.gz;cases b with
  |true=>
   refine wpAny_execs_cons ?_;refine aaK (ud (p:=a1) (cpos:=a3) (p0:=a0) (pos:=a4) (w:=wQ X.K CB CM CO) (D:=En) hst hfm F1 hr (m.gl _ (by simp)) hm1 hk1 hb1 (bZ (pv0 a2) iW (au rfl)) (by decide) (au rfl) rfl (iH rfl) m.nd i3 l3 hh I1 ?_) (λfl s2 z=>?_) λ_ _ z=>z
   ·exact⟨x0,s0,q1⟩
   ·cases fl with
    |next=>exact wpAny_execs_nil (wpAny_execs_nil (wpAny_execs_nil z))
    |ret v=>exact z.elim
    |brk=>exact z.elim
    |cont=>exact z.elim
  |false=>
   refine wpAny_execs_cons ?_;refine aaK (ud (p:=b1) (cpos:=b4) (p0:=b0) (pos:=b5) (w:=wQ X.K CB CM CO) (D:=En) hst hfm F2 hr (m.gl _ (by simp)) hm2 hk2 hb2 (bZ (pv0 b2) (bZ (pv1 b3) iW (au rfl)) (au rfl)) (by decide) (au rfl) (by rw[au rfl];rfl) (iH rfl) m.nd i3 l3 hh I1 ?_) (λfl s2 z=>?_) λ_ _ z=>z
   ·exact⟨x0,s0,.str x,s1,q1⟩
   ·cases fl with
    |next=>exact wpAny_execs_nil (wpAny_execs_nil (wpAny_execs_nil z))
    |ret v=>exact z.elim
    |brk=>exact z.elim
    |cont=>exact z.elim
theorem P8{st s0 s1:Stmt}{f f1 f2 D CM CO:Addr}{fd T9 Ua:FuncData}{ps1 ps2:List Str}{jB:Nat}{φ1 φ2:List Val->M Val}(T:Base K cl mg cons tb)(A:bQ P w ⟨K,cl⟩ mg base k fs)(F:HW K x qual st f fd)
  (hS:aM BA ["_law_net_here","_law_side"] (af st)=true) (hb:T6 (aq st) s0 s1 test post) (h0:xh ⟨BA,af st,fs.map (λr=>(r.1,r.2.1)),cons,tb⟩ U4 s0=true) (h1:xh ⟨BA,af st,fs.map (λr=>(r.1,r.2.1)),cons,tb⟩ KI s1=true) (ht:bC ⟨BA,af st,fs.map (λr=>(r.1,r.2.1)),cons,tb⟩ Q2 test=true) (hc:aY ⟨BA,af st,fs.map (λr=>(r.1,r.2.1)),cons,tb⟩ rm post=true)
  (hl:∀x∈BA,(af st).names.lookup x=some .local) (ZL:∀x∈Wz,(af st).names.lookup x=some .globalImplicit) (mi:mg "isinstance" = none) (mv:mg "ValueError" = none)
  (Kx:PZ K mg (cl (1000+jB)) D CM CO) (F1:dW P w K mg base (nj P w) (k+1) f1 T9 ps1 (zE ⟨K,cl⟩ 1 φ1)) (F2:dW P w K mg base (nj P w) (k+1) f2 Ua ps2 (zE ⟨K,cl⟩ 2 φ2)) (hb1:Binds K T9 ps1 []) (hb2:Binds K Ua ps2 []) (hm1:mg "all_plays" = some (.ref f1)) (hm2:mg "tried" = some (.ref f2)) (hk1:keepIn K (.ref f1)=true) (hk2:keepIn K (.ref f2)=true) :
  dW P w K mg base (nj P w) (k+2) f fd ["_law_net_here","_law_side"] (zE ⟨K,cl⟩ 2 (Gh φ1 φ2 jB)):=by
 have S:=qL hS;obtain⟨oc,od,kV,doc,pm,an,cdv,ct,osl,rfl,lk,WD⟩:=F.ex;refine DV lk WD S (λvs H Q E h=>?_) λA' outer s H vs Q E hr h=>?_
 ·obtain⟨ρ,h,ws,h1,_,h2,_⟩:=h;rw[<-h2.length,h1];rfl
 ·have c:=Bc (outer:=outer) (H:=H) (E:=E) T A S hr
  have hpost:=xj rm _ k _ cl _ post c hc;have P0:=BB U4 _ k _ cl _ s0 c h0;have P1:=BB KI _ k _ cl _ s1 c h1;obtain⟨a0,a1,a2,a3,a4,a5,b0,b1,b2,b3,b4,b5,c0,c1,d0,d1,d2,d3,d4,d5,d6,d7,d8,d9,e0,e1,e2,e3,e4,e5,e6,e7,kk,hb⟩:=hb;have PT:=KN (a0:=a0) (a1:=a1) (a2:=a2) (a3:=a3) (a4:=a4) (a5:=a5) (b0:=b0) (b1:=b1) (b2:=b2) (b3:=b3) (b4:=b4) (b5:=b5) (c0:=c0) (c1:=c1) (d0:=d0) (d1:=d1) (d2:=d2) (d3:=d3) (d4:=d4) (d5:=d5) (d6:=d6) (d7:=d7) (d8:=d8) (d9:=d9) (e0:=e0) (e1:=e1) (e2:=e2) (e3:=e3) (e4:=e4) (e5:=e5) (e6:=e6) (e7:=e7) (kk:=kk) c ⟨rfl,hl,ZL,mi,mv⟩ rfl rfl ht Kx F1 F2 hr hb1 hb2 hm1 hm2 hk1 hk2;rw[hb];refine⟨_,lZ P0 (lZ P1 (lZ PT hpost)),?_⟩;obtain⟨ρ,h,ws,lw,r,hv,p⟩:=h;obtain⟨v0,x,rfl,hx,p⟩:=T7 (P:=λo=>Post ⟨K,cl⟩ (nJ cl E) ρ H (WV K Q) o) (λz=>z) p;have lv:=hv.length;obtain⟨x0,x1,rfl⟩:=two lv.symm;obtain⟨y0,q0,r0⟩:=hv.get (i:=0) rfl;obtain⟨y1,q1,r1⟩:=hv.get (i:=1) rfl;cases q0;cases q1;rw[VR]at r1;subst r1;refine⟨ρ,[some v0,some (.str x),none,none,none],h,λj v e=>?_,rfl,r,?_⟩
  ·match j,e with
   |0,e=>cases e;exact⟨x0,rfl,r0⟩
   |1,e=>cases e;exact⟨.str x,rfl,VR.str⟩
   |2,e=>cases e
   |3,e=>cases e
   |4,e=>cases e
   |j+5,e=>simp at e
  rw[P6];intro ρ2 H2 g2 r2 σ2 QZ hl2;refine⟨ρ2,_,_,QZ,hl2,r2,?_⟩;rw[KJ];intro ρ3 H3 g3 r3 σ3 C5 hl3;obtain⟨z0,s0',u0⟩:=C5 0 _ rfl;obtain⟨z1,s1',u1⟩:=C5 1 _ rfl;obtain⟨z2,s2',u2⟩:=C5 2 _ rfl;obtain⟨z3,s3',u3⟩:=C5 3 _ rfl;rw[VR]at u1 u3;subst u1;subst u3;have ZM:Gr ρ H ρ3 H3:=g2.trans g3;have l5:σ3.length=5:=hl3.symm;refine⟨ρ3,_,_,z0,x,C5,r3,rfl,hx,s0',s1',λρ4 H4 g4 r4=>?_⟩;have XH:=ZM.trans g4;have fin:∀(vk vt:Val) (h':Hs) (ρ5:List Addr) (H5:Hp) (σ5:L2.St),Gr ρ H ρ5 H5->HR ⟨K,cl⟩ ρ5 h' H5->cy K ρ5 [some v0,some (.str x),some vk,some vt,none] σ5 H5 -> σ5.length=5->Post ⟨K,cl⟩ (nJ cl E) ρ H (WV K Q) (.ok (.tup [vt,vk]) h') ->
    UZ (look fs) ⟨K,cl⟩ (nJ cl E) rm { nx:=λ_ H'=>Q .non H',rt:=Q } σ5 H5:=λvk vt h' ρ5 H5 σ5 g5 r5 WE ZN p=>by
   refine⟨ρ5,[some v0,some (.str x),some vk,some vt,none],h',WE,ZN.symm,r5,?_⟩;rw[Gi];intro ρ6 H6 g6 r6 y hy;exact p ρ6 H6 (g5.trans g6) r6 y hy
  have key:∀(o:Out Val),Post ⟨K,cl⟩ (nJ cl E) ρ H (WV K Q) (ue h.length jB o)->Post ⟨K,cl⟩ (nJ cl λc d H'=>∃C,c=.ref C/\∀a T,H' a=none->H' T=none->T≠a->wQ K (cl (1000+jB)) CM CO C { nx:=UZ (look fs) ⟨K,cl⟩ (nJ cl E) rm { nx:=λ_ H'=>Q .non H',rt:=Q },rt:=Q } σ3 a (oj H' a C T d)) ρ4 H4 (WV K λy H2=>UZ (look fs) ⟨K,cl⟩ (nJ cl E) rm { nx:=λ_ H'=>Q .non H',rt:=Q } (σ3.set 3 (some y)) H2) o:=λo p=>by
   cases o with
   |no=>exact p
   |ok v h'=>intro ρ5 H5 g5 r5 y hy;have WE:cy K ρ5 [some v0,some (.str x),some (.ref h.length),some v,none] (σ3.set 3 (some y)) H5:=cy.set (i:=3) ((C5.up g4).up g5) hl3 hy;exact fin (.ref h.length) v h' ρ5 H5 _ (XH.trans g5) r5 WE (by rw[length_set];exact l5) p
   |exc cc vs h'=>
    obtain⟨rfl,rfl,pp⟩:=P5 (P:=λo=>Post ⟨K,cl⟩ (nJ cl E) ρ H (WV K Q) o) (λz=>z) p;intro ρ5 H5 xs g5 r5 hxs;have ex:xs=[]:=length_eq_zero_iff.mp hxs.length.symm;refine .inr ⟨ex,_,rfl,λa T na nT ne=>?_⟩;have ew:wQ K (cl (1000+cc)) CM CO (cl (1000+cc))=NH 4 (uQ K (cl (1000+cc)) CM CO):=aae rfl;rw[ew];have g6:Gr ρ5 H5 ρ5 (oj H5 a (cl (1000+cc)) T none):=WA na nT ne;have r6:HR ⟨K,cl⟩ ρ5 h' (oj H5 a (cl (1000+cc)) T none):=WB r5 na nT ne;refine⟨.ref a,aar (by omega),⟨a,none,rfl,.zq (AB ne),trivial,Kx.gB⟩,λp1 XI p2 XJ=>?_⟩;have g7:=g6.trans (Gr.side (o:=.tup [.ref CM,.ref CO]) XI);have r7:=r6.side (o:=.tup [.ref CM,.ref CO]) XI;have g8:=Gr.new (ρ:=ρ5) (o:=.lst [.bl true,.bl true,.bl false]) XJ;have r8:HR ⟨K,cl⟩ (ρ5++[p2]) (h'++[.lst [.bl true,.bl true,.bl false]]) _:=r7.new XJ ⟨_,aD,aB.cons VR.bl (aB.cons VR.bl (aB.cons VR.bl aB.nil))⟩;have gg:=(g4.trans g5).trans (g7.trans g8);have WG:=C5.up gg;have ZO:cy K (ρ5++[p2]) [some v0,some (.str x),some (.ref h'.length),some (.str ""),none] (((σ3.set 4 (some (.ref a))).set 2 (some (.ref p2))).set 4 none) (upd (upd (oj H5 a (cl (1000+cc)) T none) p1 (.tup [.ref CM,.ref CO])) p2 (.lst [.bl true,.bl true,.bl false])):=λj v e=>by
     have ne4:∀j,j≠4->j≠2->(((σ3.set 4 (some (.ref a))).set 2 (some (.ref p2))).set 4 none)[j]? = σ3[j]?:=λj h4 h2=>by
      rw[aaj (Ne.symm h4),aaj (Ne.symm h2),aaj (Ne.symm h4)]
     match j,e with
     |0,e=>rw[ne4 0 (by decide) (by decide)];exact WG 0 v e
     |1,e=>rw[ne4 1 (by decide) (by decide)];exact WG 1 v e
     |2,e=>cases e;refine⟨.ref p2,?_,pF r7⟩;rw[aaj (by decide),aar (by rw[length_set];omega)]
     |3,e=>rw[ne4 3 (by decide) (by decide)];exact WG 3 v e
     |4,e=>cases e
     |j+5,e=>simp at e
    exact fin (.ref h'.length) (.str "") _ (ρ5++[p2]) _ _ ((XH.trans g5).trans (g7.trans g8)) r8 ZO (by simp[l5]) pp
  have XM:=VR.jP g4.w _ _ u0
  by_cases cx:PyData.eqv (.str x) (.str "")=true
  ·rw[aae cx]at p |-;exact⟨ρ4,h++[Ob.lst []],[v0],rfl,r4,aB.cons XM aB.nil,key _ p⟩
  ·rw[aac cx]at p |-;exact⟨ρ4,h++[Ob.lst []],[v0,.str x],rfl,r4,aB.cons XM (aB.cons VR.str aB.nil),key _ p⟩
end
def oz(jB:Nat):Pr FV->Pr FV
 |.ok d=>.ok (d.1,.tup [d.2,.rl []])
 |.exc c []=>if c=jB then .ok (true,.tup [.str "",.rl [.bl true,.bl true,.bl false]]) else .no
 |_=>.no
def Ub(ψ1 ψ2:List Val->Pr FV)(jB:Nat):List Val->Pr FV
 |[d0,.str x]=>pg (PyData.strOk x) (oz jB (if PyData.eqv (.str x) (.str "")=true then ψ1 [d0] else ψ2 [d0,.str x]))
 |_=>.no
theorem KO{φ1 φ2:List Val->M Val}{ψ1 ψ2:List Val->Pr FV}{jB:Nat}(h1:Imp φ1 ψ1)(h2:Imp φ2 ψ2):Imp (Gh φ1 φ2 jB) (Ub ψ1 ψ2 jB):=λA h ds vs u q=>by
 have l:=q.length
 match ds,vs,l,q with
 |[],_,_,_=>trivial
 |[_],_,_,_=>trivial
 |a::b::_::_,_,_,_=>cases b<;>trivial
 |[d0,d1],[v0,v1],_,q=>
  cases d1 with
  |str x=>
   obtain⟨w1,e1,q1⟩:=q.get (i:=1) rfl;obtain⟨w0,e0,q0⟩:=q.get (i:=0) rfl;cases e1;cases e0;rw[Dn]at q1;subst q1;show Rel A h (RV A h) (if PyData.strOk x=true then ue h.length jB (if PyData.eqv (.str x) (.str "")=true then φ1 [v0] (h++[.lst []]) else φ2 [v0,.str x] (h++[.lst []])) else .no) (pg (PyData.strOk x) (oz jB (if PyData.eqv (.str x) (.str "")=true then ψ1 [d0] else ψ2 [d0,.str x])));refine Bg λhx=>?_;rw[aae hx];have vo:h<+:h++[Ob.lst []]:=aa0 _ _;have key:∀(o:Out Val) (p:Pr FV),Rel A (h++[.lst []]) (RV A (h++[.lst []])) o p->Rel A h (RV A h) (ue h.length jB o) (oz jB p):=λo p r=>by
    cases p with
    |no=>trivial
    |ok d=>
     obtain⟨v,h',e,pr,dn,nw⟩:=r;rw[e];have gl:(h')[h.length]?=some (.lst []):=iD pr (List.getElem?_concat_length ..);have hle:h.length<h'.length:=(aal.mp gl).1;refine⟨_,h',rfl,vo.trans pr,?_,λhf=>?_⟩
     ·show Dn A h' (.tup [d.2,.rl []]) (.tup [v,.ref h.length]);rw[Dn];refine⟨_,rfl,ay.cons dn (ay.cons ?_ ay.nil)⟩;rw[Dn];exact .inr ⟨_,[],rfl,u _ (aam _),gl,ay.nil⟩
     ·show Dn (Fr h.length) h' (.tup [d.2,.rl []]) (.tup [v,.ref h.length]);rw[Dn];refine⟨_,rfl,ay.cons ((nw hf).fm (Fr.le vo.length_le)) (ay.cons ?_ ay.nil)⟩;rw[Dn];exact .inr ⟨_,[],rfl,aam _,gl,ay.nil⟩
    |exc c es=>
     obtain⟨ws,h',e,pr,dn⟩:=r;rw[e];cases es with
     |cons a r=>trivial
     |nil=>
      have ew:ws=[]:=length_eq_zero_iff.mp dn.length.symm;subst ew;show Rel A h (RV A h) (if c=jB then .ok (.tup [.str "",.ref h'.length]) (h'++[.lst [.bl true,.bl true,.bl false]]) else .no) (if c=jB then .ok (true,.tup [.str "",.rl [.bl true,.bl true,.bl false]]) else .no)
      by_cases ce:c=jB
      ·rw[aae ce,aae ce]
       have p2:h'<+:h'++[Ob.lst [.bl true,.bl true,.bl false]]:=aa0 _ _;have gl:(h'++[Ob.lst [.bl true,.bl true,.bl false]])[h'.length]?=some (.lst [.bl true,.bl true,.bl false]):=List.getElem?_concat_length ..;have hb:∀{A:AP} {hh:Hs},ay A hh [.bl true,.bl true,.bl false] [.bl true,.bl true,.bl false]:=λ{A hh}=>(b8 _ _ rfl).mpr rfl;have hs:∀{A:AP} {hh:Hs},Dn A hh (.str "") (.str ""):=λ{A hh}=>(jc _ _ rfl).mpr rfl;refine⟨_,_,rfl,(vo.trans pr).trans p2,?_,λhf=>?_⟩
       ·show Dn A _ (.tup [.str "",.rl [.bl true,.bl true,.bl false]]) (.tup [.str "",.ref h'.length]);rw[Dn];refine⟨_,rfl,ay.cons hs (ay.cons ?_ ay.nil)⟩;rw[Dn];exact .inr ⟨_,_,rfl,u _ (vo.trans pr).length_le,gl,hb⟩
       ·show Dn (Fr h.length) _ (.tup [.str "",.rl [.bl true,.bl true,.bl false]]) (.tup [.str "",.ref h'.length]);rw[Dn];refine⟨_,rfl,ay.cons hs (ay.cons ?_ ay.nil)⟩;rw[Dn];exact .inr ⟨_,_,rfl,(vo.trans pr).length_le,gl,hb⟩
      ·rw[aac ce,aac ce];trivial
   by_cases cx:PyData.eqv (.str x) (.str "")=true
   ·rw[aae cx,aae cx];exact key _ _ (h1 A (h++[.lst []]) [d0] [v0] (u.ext vo) (ay.cons (q0.ext vo) ay.nil))
   ·rw[aac cx,aac cx];exact key _ _ (h2 A (h++[.lst []]) [d0,.str x] [v0,.str x] (u.ext vo) (ay.cons (q0.ext vo) (ay.cons ((jc _ _ rfl).mpr rfl) ay.nil)))
  |_=>trivial
end Hv
end
section
namespace K73
open PySem L2 Hv
abbrev P9:List PySem.Str:=["_law_one","_law_two","_law_three","_law_step","_law_shift","_law_stride","_law_off"]
abbrev Qa:List PySem.Str:=["_law_sizes_here","_law_names","_law_places","_law_strand","_law_ties","_law_groups","_law_met","_law_at","_law_size","_law_group","_law_here","_law_k","_law_there","_law_poles"]
abbrev Uc:List PySem.Str:=["_law_sizes_here","_law_names","_law_places","_law_strand"]
abbrev Qc:List PySem.Str:=["_law_poles","_law_ties","_law_told"]
abbrev Qd:List PySem.Str:=["_law_groups","_law_everything","_law_strong","_law_weak","_law_sizes_here","_law_single","_law_pairs","_law_group"]
abbrev Ud:List PySem.Str:=["_law_groups","_law_everything","_law_strong","_law_weak"]
abbrev Gj:List PySem.Str:=["_law_script","_law_k"]
abbrev Qe:List PySem.Str:=["_law_script","_law_names","_law_places","_law_ties","_law_spots","_law_k","_law_cell_here"]
abbrev Ue:List PySem.Str:=["_law_script","_law_names","_law_places"]
abbrev Qf:List PySem.Str:=["_law_cells","_law_most","_law_strand","_law_sizes_here","_law_room","_law_cell_here","_law_size"]
abbrev Mm:List PySem.Str:=["_law_cells","_law_most","_law_strand"]
abbrev dz:List PySem.Str:=["net"]
abbrev Gk:List PySem.Str:=["places","pairs","firsts","place","one","other","kept","gone"]
abbrev Gm:List PySem.Str:=["net","places","tie"]
abbrev Gn:List PySem.Str:=["poles","ties","named","name","one","other"]
abbrev Gp:List PySem.Str:=["net","tie","name","one","other"]
abbrev g9:List PySem.Str:=["net","tie"]
abbrev Gq:List PySem.Str:=["net","tie","ends","places","poles","ties","name","one","other"]
abbrev xG:List PySem.Str:=["net","side","tie"]
abbrev cP:List PySem.Str:=["net","side","won","other","tie"]
abbrev fV:List PySem.Str:=["net","side"]
abbrev xH:List PySem.Str:=["net","begins"]
abbrev Mn:List PySem.Str:=["_law_script","_law_names","_law_places","_law_strand","_law_poles","_law_ties","_law_groups","_law_net_here","_law_handed","_law_sides","_law_word","_law_due_here","_law_whose","_law_big","_law_side","_law_right"]
def top(i:Nat):Stmt:=PySem.Challenge.pw_linkorcut_k73_bounds_of_plays.main.body.getD i (.Pass ⟨0,0,0,0⟩)
def cons:List (Str×Val):=[("MOST_TIES_TRIED",(.int 7))]
def tb:Tb:=⟨0,[],[],[],[]⟩
def eu:dF:=#[.asg (.one 3) (¬1),.asg (.one 4) (¬0),.iff (.cmp .gt (.bin .mod (!0) (¬3)) (¬0)) #[.asg (.one 3) (.bin .add (¬1) (.bin .mod (!1) (.bin .pow (¬10) (¬57)))),.asg (.one 4) (.bin .mod (!2) (.bin .pow (¬10) (¬57)))] .nil,.asg (.one 5) (.bin .add (¬1) (.bin .mod (.bin .fdiv (!0) (¬3)) (¬66))),.asg (.one 6) (.bin .mod (.bin .fdiv (!0) (¬198)) (¬67)),.ret (.comp ["_law_k","_law_shift","_law_step","_law_off","_law_stride"] [none,some 4,some 3,some 6,some 5] (.one 0) .range #[¬20] .no (.bin .add (.bin .mul (!2) (.bin .mod (.bin .add (.bin .mul (!4) (!0)) (!3)) (¬67))) (!1)))]
def cV:dF:=#[.asg (.one 4) (.lst .nil),.asg (.one 5) (.lst .nil),.asg (.one 6) (¬2),.asg (.one 7) (¬0),.for (.one 8) .seq #[!0] #[.asg (.one 9) (.lst .nil),.asg (.one 10) (.idx (!2) (¬0)),.for (.one 11) .range #[!8] #[.asg (.one 12) (.idx (!2) (¬1)),.iff (.and (!3) (.cmp .lt (!11) (.bin .sub (!8) (¬1)))) #[.asg (.one 12) (.idx (!2) (!6)),.asg (.one 6) (.bin .add (!6) (¬1))] .nil,.iff (.not (!3)) #[.asg (.one 10) (.idx (!2) (!7)),.asg (.one 12) (.idx (!2) (.bin .add (!7) (¬1)))] .nil,.expr (.met .append (!9) #[.idx (!1) (.blt .len #[!4])]),.expr (.met .append (!4) #[.tup #[.idx (!1) (.blt .len #[!4]),!10,!12]]),.asg (.one 10) (!12)],.expr (.met .append (!5) #[!9]),.asg (.one 7) (.bin .add (!7) (¬1))],.asg (.one 13) (.lst #[.idx (!2) (¬0),.idx (!2) (¬1)]),.iff (.not (!3)) #[.asg (.one 13) (.lst #[.idx (!2) (¬0),.idx (!2) (!7)])] .nil,.ret (.tup #[!13,!4,!5])]
def jW:dF:=#[.asg (.one 2) (.comp ["_law_name","_law_one","_law_other"] [none,none,none] (.tup [0,1,2]) .seq #[!1] .no (.tup #[!0,.blt .min #[!1,!2],.blt .max #[!1,!2]])),.ret (.tup #[.tup #[.blt .min #[!0],.blt .max #[!0]],.blt .sorted #[!2]])]
def jX:dF:=#[.asg (.one 4) (.comp ["_law_group"] [none] (.one 0) .seq #[!0] .no (.blt .len #[!0])),.asg (.one 5) (.comp ["_law_group"] [none] (.one 0) .seq #[!0] (.cmp .eq (.blt .len #[!0]) (¬1)) (.idx (!0) (¬0))),.iff (.or (.cmp .EG (¬0) (!4)) (.cmp .gt (.blt .len #[!5]) (¬1))) #[.ret (.tup #[!3,.dflt [] [] 2 3 (.lst .nil) (!1)])] .nil,.iff (.cmp .eq (.blt .len #[!5]) (¬0)) #[.ret (.tup #[!2,.dflt [] [] 2 3 (!1) (.lst .nil)])] .nil,.asg (.one 6) (.lst .nil),.for (.one 7) .seq #[!0] #[.iff (.cmp .eq (.blt .len #[!7]) (¬2)) #[.expr (.met .extend (!6) #[!7])] .nil],.ret (.tup #[.cst (.str "first"),.dflt [] [] 2 3 (!5) (.blt .sorted #[.bin .add (!5) (!6)])])]
def iN:dF:=#[.iff (.cmp .lt (!1) (.blt .len #[!0])) #[.ret (.idx (!0) (!1))] .nil,.ret (¬0)]
def fD:dF:=#[.asg (.one 3) (.lst .nil),.asg (.one 4) (.lst #[.idx (!2) (¬0),.idx (!2) (¬2),.idx (!2) (¬3)]),.for (.one 5) .range #[.bin .add (¬5) (.bin .mod (.call 4 #[!0,¬5]) (¬10))] #[.asg (.one 6) (.call 4 #[!0,.bin .add (¬11) (!5)]),.expr (.met .append (!3) #[.tup #[.idx (!1) (!5),.idx (!4) (.bin .mod (!6) (¬3)),.idx (!4) (.bin .mod (.bin .fdiv (!6) (¬3)) (¬3))]])],.iff (.cmp .eq (.bin .mod (.bin .fdiv (.call 4 #[!0,¬5]) (¬10)) (¬2)) (¬1)) #[.ret (.tup #[.cst (.str "linker"),.call 2 #[.lst #[.idx (!2) (¬0),.idx (!2) (¬0)],!3]])] .nil,.ret (.tup #[.cst (.str "cutter"),.call 2 #[.lst #[.idx (!2) (¬0),.idx (!2) (¬1)],!3]])]
def gP:dF:=#[.asg (.one 3) (.lst .nil),.asg (.one 4) (!1),.for (.one 5) .seq #[!0] #[.asg (.one 6) (.bin .add (¬1) (.bin .mod (!5) (¬3))),.iff (.and (.cmp .eq (.bin .mod (!5) (¬17)) (¬11)) (.not (!2))) #[.asg (.one 6) (¬0)] .nil,.iff (.cmp .le (!6) (!4)) #[.expr (.met .append (!3) #[!6]),.asg (.one 4) (.bin .sub (!4) (!6))] .nil],.ret (!3)]
def eE:dF:=#[.ret (.cmp .eq (.idx (.idx (!0) (¬0)) (¬0)) (.idx (.idx (!0) (¬0)) (¬1)))]
def eF:dF:=#[.asg (.one 2) .dct0,.for (.one 3) .seq #[!0] #[.kR (!2) (!3) (!3)],.for (.tup [4,5]) .seq #[!1] #[.asg (.one 6) (.blt .min #[.idx (!2) (!4),.idx (!2) (!5)]),.asg (.one 7) (.blt .max #[.idx (!2) (!4),.idx (!2) (!5)]),.for (.one 3) .seq #[!0] #[.iff (.cmp .eq (.idx (!2) (!3)) (!7)) #[.kR (!2) (!3) (!6)] .nil]],.ret (!2)]
def eG:dF:=#[.asg (.one 1) (.blt .list #[.idx (!0) (¬0)]),.for (.one 2) .seq #[.idx (!0) (¬1)] #[.expr (.met .extend (!1) #[.slc (!2) (¬1) .no])],.ret (.sset (!1))]
def eL:dF:=#[.asg (.one 1) (.call 9 #[.call 10 #[!0],.comp ["tie"] [none] (.one 0) .seq #[.idx (!0) (¬1)] .no (.slc (!0) (¬1) .no)]),.ret (.cmp .ne (.idx (!1) (.idx (.idx (!0) (¬0)) (¬0))) (.idx (!1) (.idx (.idx (!0) (¬0)) (¬1))))]
def eO:dF:=#[.iff (.call 8 #[!0]) #[.ret (.cst (.str "linker"))] .nil,.iff (.call 11 #[!0]) #[.ret (.cst (.str "cutter"))] .nil,.ret (.cst .non)]
def dB:dF:=#[.iff (.cmp .eq (!0) (.cst (.str "linker"))) #[.ret (.cst (.str "cutter"))] .nil,.ret (.cst (.str "linker"))]
def fK:dF:=#[.ret (.comp ["tie"] [none] (.one 0) .seq #[.idx (!0) (¬1)] .no (.idx (!0) (¬0)))]
def cM:dF:=#[.asg (.one 2) (.lst .nil),.for (.tup [3,4,5]) .seq #[!1] #[.expr (.met .append (!2) #[.tup #[!3,.blt .min #[!4,!5],.blt .max #[!4,!5]]])],.ret (.tup #[.tup #[.blt .min #[.idx (!0) (¬0),.idx (!0) (¬1)],.blt .max #[.idx (!0) (¬0),.idx (!0) (¬1)]],.blt .sorted #[!2]])]
def gQ:dF:=#[.for (.tup [2,3,4]) .seq #[.idx (!0) (¬1)] #[.iff (.cmp .eq (!2) (!1)) #[.ret (.tup #[!3,!4])] .nil],.setF 0 (.call 16 #[!1]) "" .no]
def gR:dF:=#[.expr (.call 17 #[!0,!1]),.ret (.comp ["each","tie"] [none,some 1] (.one 0) .seq #[.idx (!0) (¬1)] (.cmp .ne (.idx (!0) (¬0)) (!1)) (!0))]
def eV:dF:=#[.ret (.call 15 #[.idx (!0) (¬0),.call 18 #[!0,!1]])]
def jY:dF:=#[.asg (.one 2) (.call 17 #[!0,!1]),.asg (.one 3) (.dct1 (.idx (!2) (¬1)) (.idx (!2) (¬0))),.asg (.one 4) (.tup #[.dget (!3) (.idx (.idx (!0) (¬0)) (¬0)) (.idx (.idx (!0) (¬0)) (¬0)),.dget (!3) (.idx (.idx (!0) (¬0)) (¬1)) (.idx (.idx (!0) (¬0)) (¬1))]),.asg (.one 5) (.lst .nil),.for (.tup [6,7,8]) .seq #[.call 18 #[!0,!1]] #[.expr (.met .append (!5) #[.tup #[!6,.dget (!3) (!7) (!7),.dget (!3) (!8) (!8)]])],.ret (.call 15 #[!4,!5])]
def fE:dF:=#[.iff (.cmp .eq (!1) (.cst (.str "linker"))) #[.ret (.call 20 #[!0,!2])] .nil,.ret (.call 19 #[!0,!2])]
def b9:dF:=#[.asg (.one 2) (.call 12 #[!0]),.iff (.cmp .ntn (!2) (.cst .non)) #[.ret (!2)] .nil,.asg (.one 3) (.call 13 #[!1]),.for (.one 4) .seq #[.call 14 #[!0]] #[.never],.ret (!3)]
def bD(j:Nat):dF:=#[.asg (.one 2) (.call 12 #[!0]),.iff (.cmp .ntn (!2) (.cst .non)) #[.ret (!2)] .nil,.asg (.one 3) (.call 13 #[!1]),.for (.one 4) .seq #[.call 14 #[!0]] #[.iff (.cmp .eq (.call j #[.call 21 #[!0,!1,!4],!3]) (!1)) #[.ret (!1)] .nil],.ret (!3)]
def f6:dF:=bD 22
def f7:dF:=bD 23
def f9:dF:=bD 24
def gb:dF:=bD 25
def gc:dF:=bD 26
def gf:dF:=bD 27
def gh:dF:=bD 28
def iO:dF:=#[.iff (.cmp .gt (.blt .len #[.idx (!0) (¬1)]) (.con "MOST_TIES_TRIED" (.int 7))) #[.setF 0 (.call 7 .nil) "" .no] .nil,.ret (.call 29 #[!0,!1])]
def cW:dF:=#[.asg (.one 1) (.call 30 #[!0,.cst (.str "linker")]),.iff (.cmp .eq (.call 30 #[!0,.cst (.str "cutter")]) (!1)) #[.ret (!1)] .nil,.ret (.cst (.str "first"))]
def rq:dF:=#[.asg (.one 1) (.call 0 #[.call 4 #[!0,¬0],.call 4 #[!0,¬1],.call 4 #[!0,¬2]]),.asg (.one 2) (.call 0 #[.call 4 #[!0,¬3],.call 4 #[!0,¬2],.call 4 #[!0,¬1]]),.asg (.one 3) (.cmp .eq (.bin .mod (.call 4 #[!0,¬4]) (¬2)) (¬1)),.asg (.tup [4,5,6]) (.call 1 #[.call 6 #[.slc (!0) (¬6) (¬11),¬5,!3],!1,!2,!3]),.asg (.one 7) (.call 2 #[!4,!5]),.asg (.one 8) (.tup #[.idx (!7) (¬0),.blt .list #[.idx (!7) (¬1)]]),.asg (.one 9) (.lst #[.cst (.str "linker"),.cst (.str "cutter")]),.asg (.tup [10,11]) (.call 3 #[!6,.lst .nil,.idx (!9) (.blt .int #[!3]),.idx (!9) (.bin .sub (¬1) (.blt .int #[!3]))]),.asg (.tup [12,13]) (.call 5 #[!0,!1,!2]),.for (.one 14) .seq #[.lst #[.cst (.str ""),.cst (.str "linker"),.cst (.str "cutter")]] #[.asg (.one 15) (!10),.iff (.and (.cmp .eq (!10) (.cst (.str "first"))) (.cmp .ne (!14) (.cst (.str "")))) #[.asg (.one 15) (!14)] .nil,.iff (.cmp .ne (.call 32 #[!8,!14]) (.tup #[!15,.lst .nil])) #[.ret (.cst (.bl false))] .nil,.iff (.and (.cmp .gt (.blt .len #[.idx (!13) (¬1)]) (¬7)) (.cmp .ne (.call 32 #[.tup #[.idx (!13) (¬0),.blt .list #[.idx (!13) (¬1)]],!14]) (.tup #[.cst (.str ""),.lst #[.cst (.bl true),.cst (.bl true),.cst (.bl false)]]))) #[.ret (.cst (.bl false))] .nil,.iff (.cmp .ne (.call 32 #[.tup #[.idx (!13) (¬0),.slc (.idx (!13) (¬1)) .no (¬7)],!14]) (.tup #[!12,.lst .nil])) #[.ret (.cst (.bl false))] .nil],.iff (.cmp .eq (.bin .mod (.bin .fdiv (.call 4 #[!0,¬4]) (¬2)) (¬16)) (¬1)) #[.asg (.tup [4,5,6]) (.call 1 #[.call 6 #[.slc (!0) (¬6) (¬11),¬7,!3],!1,!2,!3]),.asg (.tup [10,11]) (.call 3 #[!6,.lst .nil,.idx (!9) (.blt .int #[!3]),.idx (!9) (.bin .sub (¬1) (.blt .int #[!3]))]),.asg (.one 14) (.idx (!9) (.bin .mod (.bin .fdiv (.call 4 #[!0,¬4]) (¬32)) (¬2))),.iff (.cmp .eq (!10) (.cst (.str "first"))) #[.asg (.one 10) (!14)] .nil,.iff (.cmp .ne (.call 32 #[.call 2 #[!4,!5],!14]) (.tup #[!10,.lst .nil])) #[.ret (.cst (.bl false))] .nil] .nil,.ret (.cmp .eq (!8) (!7))]
def Ug:List Row:=[]
def oA:List Val->M Val:=jA (look Ug) 7 eu
def Uh:List Row:=Ug++[(("_law_numbers":Str),3,oA)]
def oB:List Val->M Val:=jA (look Uh) 14 cV
def Ui:List Row:=Uh++[(("_law_bundles":Str),4,oB)]
def BC:List Val->M Val:=jA (look Ui) 3 jW
def Uj:List Row:=Ui++[(("_law_net":Str),2,BC)]
def BD:List Val->M Val:=jA (look Uj) 8 jX
def Uk:List Row:=Uj++[(("_law_due":Str),4,BD)]
def xJ:List Val->M Val:=jA (look Uk) 2 iN
def Ul:List Row:=Uk++[(("_law_cell":Str),2,xJ)]
def uf:List Val->M Val:=jA (look Ul) 7 fD
def Um:List Row:=Ul++[(("_law_ended":Str),3,uf)]
def ug:List Val->M Val:=jA (look Um) 7 gP
def U5:List Row:=Um++[(("_law_sizes":Str),3,ug)]
def xK:List Val->M Val:=wG 7
def Uo:List Row:=U5++[(("TooBig":Str),2000,xK)]
def oE:List Val->M Val:=jA (look Uo) 1 eE
def Uq:List Row:=Uo++[(("is_linked":Str),1,oE)]
def oF:List Val->M Val:=jA (look Uq) 8 eF
def Gs:List Row:=Uq++[(("firsts_by":Str),2,oF)]
def oG:List Val->M Val:=jA (look Gs) 3 eG
def Gu:List Row:=Gs++[(("places_of":Str),1,oG)]
def oH:List Val->M Val:=jA (look Gu) 2 eL
def Gv:List Row:=Gu++[(("is_parted":Str),1,oH)]
def oJ:List Val->M Val:=jA (look Gv) 1 eO
def Gx:List Row:=Gv++[(("winner_of":Str),1,oJ)]
def mT:List Val->M Val:=jA (look Gx) 1 dB
def Gy:List Row:=Gx++[(("other_side":Str),1,mT)]
def rA:List Val->M Val:=jA (look Gy) 1 fK
def Gz:List Row:=Gy++[(("names_of":Str),1,rA)]
def jZ:List Val->M Val:=jA (look Gz) 6 cM
def KP:List Row:=Gz++[(("put_in_order":Str),2,jZ)]
def rD:List Val->M Val:=zv 16 "tie"
def GA:List Row:=KP++[(("NotThere":Str),2001,rD)]
def uh:List Val->M Val:=jA (look GA) 5 gQ
def GB:List Row:=GA++[(("ends_of":Str),2,uh)]
def um:List Val->M Val:=jA (look GB) 2 gR
def GC:List Row:=GB++[(("without":Str),2,um)]
def oK:List Val->M Val:=jA (look GC) 2 eV
def GD:List Row:=GC++[(("taken_out":Str),2,oK)]
def BE:List Val->M Val:=jA (look GD) 9 jY
def GF:List Row:=GD++[(("drawn":Str),2,BE)]
def uo:List Val->M Val:=jA (look GF) 3 fE
def GG:List Row:=GF++[(("done_by":Str),3,uo)]
def oM:List Val->M Val:=jA (look GG) 5 b9
def GH:List Row:=GG++[(("best_of":Str),2,oM)]
def oN:List Val->M Val:=jA (look GH) 5 f6
def GI:List Row:=GH++[(("best_of":Str),2,oN)]
def oO:List Val->M Val:=jA (look GI) 5 f7
def GJ:List Row:=GI++[(("best_of":Str),2,oO)]
def oQ:List Val->M Val:=jA (look GJ) 5 f9
def GK:List Row:=GJ++[(("best_of":Str),2,oQ)]
def oR:List Val->M Val:=jA (look GK) 5 gb
def GL:List Row:=GK++[(("best_of":Str),2,oR)]
def oS:List Val->M Val:=jA (look GL) 5 gc
def GN:List Row:=GL++[(("best_of":Str),2,oS)]
def oU:List Val->M Val:=jA (look GN) 5 gf
def GO:List Row:=GN++[(("best_of":Str),2,oU)]
def oV:List Val->M Val:=jA (look GO) 5 gh
def GP:List Row:=GO++[(("best_of":Str),2,oV)]
def vp:List Val->M Val:=jA (look GP) 2 iO
def GQ:List Row:=GP++[(("tried":Str),2,vp)]
def j4:List Val->M Val:=jA (look GQ) 2 cW
def zQ:List Row:=GQ++[(("all_plays":Str),1,j4)]
def rE:Stmt:=(aq (top 34)).getD 0 (.Pass ⟨0,0,0,0⟩)
def rG:Stmt:=(aq (top 34)).getD 1 (.Pass ⟨0,0,0,0⟩)
def mU:List Stmt:=(aq (top 34)).drop 3
def oW:Expr:=match (aq (top 34)).getD 2 (.Pass ⟨0,0,0,0⟩) with|.Try (.If t _ _ _::_) _ _ _ _=>t|_=>.Name "x" ⟨0,0,0,0⟩
def nQ:List Val->M Val:=Gh j4 vp 7
def KQ:List Row:=zQ++[(("_law_asked":Str),2,nQ)]
def GR:List Val->M Val:=jA (look KQ) 16 rq
def WH:List aT:=[]
def fL:aT:=cS (ai WH) 7 eu
def Ur:List aT:=WH++[fL]
def cD:aT:=cS (ai Ur) 14 cV
def WI:List aT:=Ur++[cD]
def gi:aT:=cS (ai WI) 3 jW
def Mp:List aT:=WI++[gi]
def ic:aT:=cS (ai Mp) 8 jX
def WJ:List aT:=Mp++[ic]
def cA:aT:=cS (ai WJ) 2 iN
def GS:List aT:=WJ++[cA]
def iP:aT:=cS (ai GS) 7 fD
def WK:List aT:=GS++[iP]
def dO:aT:=cS (ai WK) 7 gP
def XO:List aT:=WK++[dO]
def xM:aT:=Mb 7
def WL:List aT:=XO++[xM]
def fM:aT:=cS (ai WL) 1 eE
def WM:List aT:=WL++[fM]
def fN:aT:=cS (ai WM) 8 eF
def Qg:List aT:=WM++[fN]
def fO:aT:=cS (ai Qg) 3 eG
def GU:List aT:=Qg++[fO]
def fP:aT:=cS (ai GU) 2 eL
def GV:List aT:=GU++[fP]
def dP:aT:=cS (ai GV) 1 eO
def Qh:List aT:=GV++[dP]
def eW:aT:=cS (ai Qh) 1 dB
def Qi:List aT:=Qh++[eW]
def fF:aT:=cS (ai Qi) 1 fK
def Qj:List aT:=Qi++[fF]
def cB:aT:=cS (ai Qj) 6 cM
def Us:List aT:=Qj++[cB]
def rH:aT:=SQ 16 "tie"
def Qk:List aT:=Us++[rH]
def gr:aT:=cS (ai Qk) 5 gQ
def KR:List aT:=Qk++[gr]
def gu:aT:=cS (ai KR) 2 gR
def GW:List aT:=KR++[gu]
def fQ:aT:=cS (ai GW) 2 eV
def De:List aT:=GW++[fQ]
def mV:aT:=cS (ai De) 9 jY
def GX:List aT:=De++[mV]
def gx:aT:=cS (ai GX) 3 fE
def Df:List aT:=GX++[gx]
def j6:aT:=cS (ai Df) 5 b9
def KS:List aT:=Df++[j6]
def j7:aT:=cS (ai KS) 5 f6
def KU:List aT:=KS++[j7]
def j8:aT:=cS (ai KU) 5 f7
def KW:List aT:=KU++[j8]
def j9:aT:=cS (ai KW) 5 f9
def KY:List aT:=KW++[j9]
def kc:aT:=cS (ai KY) 5 gb
def KZ:List aT:=KY++[kc]
def kg:aT:=cS (ai KZ) 5 gc
def K0:List aT:=KZ++[kg]
def kh:aT:=cS (ai K0) 5 gf
def K1:List aT:=K0++[kh]
def ie:aT:=cS (ai K1) 5 gh
def xN:List aT:=K1++[ie]
def cG:aT:=cS (ai xN) 2 iO
def sI:List aT:=xN++[cG]
def bM:aT:=cS (ai sI) 2 cW
def Ut:List aT:=sI++[bM]
def aJ:aT:=Ub bM cG 7
def dS:List aT:=Ut++[aJ]
def Mq:aT:=cS (ai dS) 16 rq
theorem iQ:ai GS 2=gi:=rfl
theorem cQ:ai GS 4=cA:=rfl
theorem eX:ai GU 9=fN:=rfl
theorem jm:ai GU 10=fO:=rfl
theorem cH:ai GV 8=fM:=rfl
theorem eY:ai GV 11=fP:=rfl
theorem lQ:ai KR 17=gr:=rfl
theorem gS:ai GW 15=cB:=rfl
theorem ki:ai GW 18=gu:=rfl
theorem jD:ai De 15=cB:=rfl
theorem nR:ai De 17=gr:=rfl
theorem nS:ai De 18=gu:=rfl
theorem kj:ai GX 19=fQ:=rfl
theorem nU:ai GX 20=mV:=rfl
theorem eZ:ai Df 12=dP:=rfl
theorem lR:ai xN 29=ie:=rfl
theorem dJ:ai sI 30=cG:=rfl
theorem iR:ai dS 0=fL:=rfl
theorem nV:ai dS 1=cD:=rfl
theorem mW:ai dS 2=gi:=rfl
theorem vq:ai dS 3=ic:=rfl
theorem dD:ai dS 4=cA:=rfl
theorem rJ:ai dS 5=iP:=rfl
theorem rK:ai dS 6=dO:=rfl
theorem fc:ai dS 32=aJ:=rfl
theorem i0:cL Ug WH:=FZ
theorem xO:Imp oA fL:=bh (az i0) (by decide +kernel)
theorem i1:cL Uh Ur:=av i0 xO
theorem xP:Imp oB cD:=bh (az i1) (by decide +kernel)
theorem i2:cL Ui WI:=av i1 xP
theorem K2:Imp BC gi:=bh (az i2) (by decide +kernel)
theorem i3:cL Uj Mp:=av i2 K2
theorem K3:Imp BD ic:=bh (az i3) (by decide +kernel)
theorem i4:cL Uk WJ:=av i3 K3
theorem GY:Imp xJ cA:=bh (az i4) (by decide +kernel)
theorem i5:cL Ul GS:=av i4 GY
theorem Dg:Imp uf iP:=bh (az i5) (by decide +kernel)
theorem i6:cL Um WK:=av i5 Dg
theorem Dh:Imp ug dO:=bh (az i6) (by decide +kernel)
theorem i7:cL U5 XO:=av i6 Dh
theorem GZ:Imp xK xM:=FN
theorem i8:cL Uo WL:=av i7 GZ
theorem xQ:Imp oE fM:=bh (az i8) (by decide +kernel)
theorem i9:cL Uq WM:=av i8 xQ
theorem xR:Imp oF fN:=bh (az i9) (by decide +kernel)
theorem XQ:cL Gs Qg:=av i9 xR
theorem xS:Imp oG fO:=bh (az XQ) (by decide +kernel)
theorem XR:cL Gu GU:=av XQ xS
theorem xT:Imp oH fP:=bh (az XR) (by decide +kernel)
theorem i12:cL Gv GV:=av XR xT
theorem xU:Imp oJ dP:=bh (az i12) (by decide +kernel)
theorem XT:cL Gx Qh:=av i12 xU
theorem vv:Imp mT eW:=bh (az XT) (by decide +kernel)
theorem XU:cL Gy Qi:=av XT vv
theorem zR:Imp rA fF:=bh (az XU) (by decide +kernel)
theorem XW:cL Gz Qj:=av XU zR
theorem rL:Imp jZ cB:=bh (az XW) (by decide +kernel)
theorem ZP:cL KP Us:=av XW rL
theorem zS:Imp rD rH:=Kl
theorem XX:cL GA Qk:=av ZP zS
theorem Di:Imp uh gr:=bh (az XX) (by decide +kernel)
theorem XY:cL GB KR:=av XX Di
theorem Dj:Imp um gu:=bh (az XY) (by decide +kernel)
theorem XZ:cL GC GW:=av XY Dj
theorem xV:Imp oK fQ:=bh (az XZ) (by decide +kernel)
theorem X0:cL GD De:=av XZ xV
theorem K4:Imp BE mV:=bh (az X0) (by decide +kernel)
theorem X4:cL GF GX:=av X0 K4
theorem Dk:Imp uo gx:=bh (az X4) (by decide +kernel)
theorem X5:cL GG Df:=av X4 Dk
theorem xW:Imp oM j6:=bh (az X5) (by decide +kernel)
theorem X6:cL GH KS:=av X5 xW
theorem xX:Imp oN j7:=bh (az X6) (by decide +kernel)
theorem X7:cL GI KU:=av X6 xX
theorem xY:Imp oO j8:=bh (az X7) (by decide +kernel)
theorem X8:cL GJ KW:=av X7 xY
theorem xZ:Imp oQ j9:=bh (az X8) (by decide +kernel)
theorem Yb:cL GK KY:=av X8 xZ
theorem ya:Imp oR kc:=bh (az Yb) (by decide +kernel)
theorem Yc:cL GL KZ:=av Yb ya
theorem yb:Imp oS kg:=bh (az Yc) (by decide +kernel)
theorem Yd:cL GN K0:=av Yc yb
theorem yc:Imp oU kh:=bh (az Yd) (by decide +kernel)
theorem Ye:cL GO K1:=av Yd yc
theorem yd:Imp oV ie:=bh (az Ye) (by decide +kernel)
theorem Yg:cL GP xN:=av Ye yd
theorem BF:Imp vp cG:=bh (az Yg) (by decide +kernel)
theorem Yh:cL GQ sI:=av Yg BF
theorem oX:Imp j4 bM:=bh (az Yh) (by decide +kernel)
theorem ZQ:cL zQ Ut:=av Yh oX
theorem Dl:Imp nQ aJ:=KO oX BF
theorem ZR:cL KQ dS:=av ZQ Dl
theorem K5{ns:List Int}{f:Bool}(e:Mq [.rl (ns.map .int)]=.ok (f,.bl true)):∃h',GR [.rl (ns.map .int)] []=.ok (.bl true) h':=F7 (bh (az ZR) (by decide +kernel)) e
theorem c0:aM P9 ["_law_one","_law_two","_law_three"] (af (top 29))=true:=by decide +kernel
theorem d0:aY ⟨P9,af (top 29),Ug.map (λr=>(r.1,r.2.1)),cons,tb⟩ eu (aq (top 29))=true:=by decide +kernel
theorem c1:aM Qa Uc (af (top 31))=true:=by decide +kernel
theorem d1:aY ⟨Qa,af (top 31),Uh.map (λr=>(r.1,r.2.1)),cons,tb⟩ cV (aq (top 31))=true:=by decide +kernel
theorem c2:aM Qc ["_law_poles","_law_ties"] (af (top 30))=true:=by decide +kernel
theorem d2:aY ⟨Qc,af (top 30),Ui.map (λr=>(r.1,r.2.1)),cons,tb⟩ jW (aq (top 30))=true:=by decide +kernel
theorem c3:aM Qd Ud (af (top 32))=true:=by decide +kernel
theorem d3:aY ⟨Qd,af (top 32),Uj.map (λr=>(r.1,r.2.1)),cons,tb⟩ jX (aq (top 32))=true:=by decide +kernel
theorem c4:aM Gj Gj (af (top 28))=true:=by decide +kernel
theorem d4:aY ⟨Gj,af (top 28),Uk.map (λr=>(r.1,r.2.1)),cons,tb⟩ iN (aq (top 28))=true:=by decide +kernel
theorem c5:aM Qe Ue (af (top 35))=true:=by decide +kernel
theorem d5:aY ⟨Qe,af (top 35),Ul.map (λr=>(r.1,r.2.1)),cons,tb⟩ fD (aq (top 35))=true:=by decide +kernel
theorem c6:aM Qf Mm (af (top 33))=true:=by decide +kernel
theorem d6:aY ⟨Qf,af (top 33),Um.map (λr=>(r.1,r.2.1)),cons,tb⟩ gP (aq (top 33))=true:=by decide +kernel
theorem c8:aM dz dz (af (top 19))=true:=by decide +kernel
theorem d8:aY ⟨dz,af (top 19),Uo.map (λr=>(r.1,r.2.1)),cons,tb⟩ eE (aq (top 19))=true:=by decide +kernel
theorem c9:aM Gk ["places","pairs"] (af (top 18))=true:=by decide +kernel
theorem d9:aY ⟨Gk,af (top 18),Uq.map (λr=>(r.1,r.2.1)),cons,tb⟩ eF (aq (top 18))=true:=by decide +kernel
theorem DF:aM Gm dz (af (top 8))=true:=by decide +kernel
theorem Uu:aY ⟨Gm,af (top 8),Gs.map (λr=>(r.1,r.2.1)),cons,tb⟩ eG (aq (top 8))=true:=by decide +kernel
theorem pM:aM ["net","firsts"] dz (af (top 20))=true:=by decide +kernel
theorem Uv:aY ⟨["net","firsts"],af (top 20),Gu.map (λr=>(r.1,r.2.1)),cons,tb⟩ eL (aq (top 20))=true:=by decide +kernel
theorem c12:aM dz dz (af (top 21))=true:=by decide +kernel
theorem ZS:aY ⟨dz,af (top 21),Gv.map (λr=>(r.1,r.2.1)),cons,tb⟩ eO (aq (top 21))=true:=by decide +kernel
theorem uq:aM ["side"] ["side"] (af (top 16))=true:=by decide +kernel
theorem ZT:aY ⟨["side"],af (top 16),Gx.map (λr=>(r.1,r.2.1)),cons,tb⟩ dB (aq (top 16))=true:=by decide +kernel
theorem BG:aM dz dz (af (top 9))=true:=by decide +kernel
theorem Uw:aY ⟨dz,af (top 9),Gy.map (λr=>(r.1,r.2.1)),cons,tb⟩ fK (aq (top 9))=true:=by decide +kernel
theorem ur:aM Gn ["poles","ties"] (af (top 7))=true:=by decide +kernel
theorem ZU:aY ⟨Gn,af (top 7),Gz.map (λr=>(r.1,r.2.1)),cons,tb⟩ cM (aq (top 7))=true:=by decide +kernel
def Hf:Stmt:=(match top 3 with|.ClassDef (body:=b) ..=>b.getD 0 (.Pass ⟨0,0,0,0⟩)|_=>.Pass ⟨0,0,0,0⟩)
theorem Ux:T5 (aq Hf) "tie":=⟨_,_,_,_,rfl⟩
theorem WN:aM ["self","tie"] ["self","tie"] (af Hf)=true:=by decide +kernel
theorem ZV:aM Gp g9 (af (top 10))=true:=by decide +kernel
theorem ZW:aY ⟨Gp,af (top 10),GA.map (λr=>(r.1,r.2.1)),cons,tb⟩ gQ (aq (top 10))=true:=by decide +kernel
theorem ZX:aM g9 g9 (af (top 12))=true:=by decide +kernel
theorem ZY:aY ⟨g9,af (top 12),GB.map (λr=>(r.1,r.2.1)),cons,tb⟩ gR (aq (top 12))=true:=by decide +kernel
theorem ZZ:aM g9 g9 (af (top 13))=true:=by decide +kernel
theorem Z0:aY ⟨g9,af (top 13),GC.map (λr=>(r.1,r.2.1)),cons,tb⟩ eV (aq (top 13))=true:=by decide +kernel
theorem Z1:aM Gq g9 (af (top 14))=true:=by decide +kernel
theorem Z2:aY ⟨Gq,af (top 14),GD.map (λr=>(r.1,r.2.1)),cons,tb⟩ jY (aq (top 14))=true:=by decide +kernel
theorem Z3:aM xG xG (af (top 15))=true:=by decide +kernel
theorem Z4:aY ⟨xG,af (top 15),GF.map (λr=>(r.1,r.2.1)),cons,tb⟩ fE (aq (top 15))=true:=by decide +kernel
theorem Z5:aM cP fV (af (top 25))=true:=by decide +kernel
theorem Z6:aY ⟨cP,af (top 25),GG.map (λr=>(r.1,r.2.1)),cons,tb⟩ b9 (aq (top 25))=true:=by decide +kernel
theorem Z7:aM cP fV (af (top 25))=true:=by decide +kernel
theorem Z8:aY ⟨cP,af (top 25),GH.map (λr=>(r.1,r.2.1)),cons,tb⟩ f6 (aq (top 25))=true:=by decide +kernel
theorem Z9:aM cP fV (af (top 25))=true:=by decide +kernel
theorem d24:aY ⟨cP,af (top 25),GI.map (λr=>(r.1,r.2.1)),cons,tb⟩ f7 (aq (top 25))=true:=by decide +kernel
theorem c25:aM cP fV (af (top 25))=true:=by decide +kernel
theorem d25:aY ⟨cP,af (top 25),GJ.map (λr=>(r.1,r.2.1)),cons,tb⟩ f9 (aq (top 25))=true:=by decide +kernel
theorem c26:aM cP fV (af (top 25))=true:=by decide +kernel
theorem d26:aY ⟨cP,af (top 25),GK.map (λr=>(r.1,r.2.1)),cons,tb⟩ gb (aq (top 25))=true:=by decide +kernel
theorem c27:aM cP fV (af (top 25))=true:=by decide +kernel
theorem d27:aY ⟨cP,af (top 25),GL.map (λr=>(r.1,r.2.1)),cons,tb⟩ gc (aq (top 25))=true:=by decide +kernel
theorem c28:aM cP fV (af (top 25))=true:=by decide +kernel
theorem d28:aY ⟨cP,af (top 25),GN.map (λr=>(r.1,r.2.1)),cons,tb⟩ gf (aq (top 25))=true:=by decide +kernel
theorem c29:aM cP fV (af (top 25))=true:=by decide +kernel
theorem d29:aY ⟨cP,af (top 25),GO.map (λr=>(r.1,r.2.1)),cons,tb⟩ gh (aq (top 25))=true:=by decide +kernel
theorem Yi:aM xH xH (af (top 24))=true:=by decide +kernel
theorem Yj:aY ⟨xH,af (top 24),GP.map (λr=>(r.1,r.2.1)),cons,tb⟩ iO (aq (top 24))=true:=by decide +kernel
theorem Yk:aM ["net","word"] dz (af (top 26))=true:=by decide +kernel
theorem Yl:aY ⟨["net","word"],af (top 26),GQ.map (λr=>(r.1,r.2.1)),cons,tb⟩ cW (aq (top 26))=true:=by decide +kernel
theorem c32:aM ["_law_net_here","_law_side","_law_kinds","_law_told","e"] ["_law_net_here","_law_side"] (af (top 34))=true:=by decide +kernel
theorem hbQ:T6 (aq (top 34)) rE rG oW mU:=⟨_,_,_,_,_,_,_,_,_,_,_,_,_,_,_,_,_,_,_,_,_,_,_,_,_,_,_,_,_,_,_,_,_,rfl⟩
theorem dQ0:xh ⟨BA,af (top 34),zQ.map (λr=>(r.1,r.2.1)),cons,tb⟩ U4 rE=true:=by decide +kernel
theorem dQ1:xh ⟨BA,af (top 34),zQ.map (λr=>(r.1,r.2.1)),cons,tb⟩ KI rG=true:=by decide +kernel
theorem dQt:bC ⟨BA,af (top 34),zQ.map (λr=>(r.1,r.2.1)),cons,tb⟩ Q2 oW=true:=by decide +kernel
theorem dQe:aY ⟨BA,af (top 34),zQ.map (λr=>(r.1,r.2.1)),cons,tb⟩ rm mU=true:=by decide +kernel
theorem hlQ:∀x∈BA,(af (top 34)).names.lookup x=some .local:=by decide +kernel
theorem hgQ:∀x∈Wz,(af (top 34)).names.lookup x=some .globalImplicit:=by decide +kernel
theorem c33:aM Mn ["_law_script"] (af (top 36))=true:=by decide +kernel
theorem d33:aY ⟨Mn,af (top 36),KQ.map (λr=>(r.1,r.2.1)),cons,tb⟩ rq (aq (top 36))=true:=by decide +kernel
section
variable {P:Program} {w:World} {K:Frag} {mg:Str->Option Value} {base:Heap}
theorem all_mk{l:PySem.W.OpenLaw}{h:Heap}{fa:Addr}(X:K.In h)(G:h.Ns mainGlobals mg)(hfa:mg "law" = some (.ref fa))(hφ:∀ns:List Int,ns.length<=63->∃h',GR [.rl (ns.map .int)] []=.ok (.bl true) h'){X1 X2 X3:Addr}{a0:Addr}{a1:Addr}{a2:Addr}{a3:Addr}{a4:Addr}{a5:Addr}{a6:Addr}{a7:Addr}{a8:Addr}{a9:Addr}{Ym:Addr}{Yn:Addr}{Yo:Addr}{Yp:Addr}{Yq:Addr}{Yr:Addr}{Q3:Addr}{U6:Addr}{Mr:ClassData}{Ys:Addr}{Yt:Addr}{Yu:Addr}{Yv:Addr}{Yw:Addr}{Yx:Addr}{Yy:Addr}{Yz:Addr}{YA:Addr}{YB:Addr}{YC:Addr}{YD:Addr}{YE:Addr}{YF:Addr}{YG:Addr}{a32:Addr}{YH:Addr}{tk0:Tok}
  (A0:nsIn K mainGlobals "_law_numbers" = some (some (.ref a0)))
  (F0:jE K "_law_numbers" "_law_numbers" (top 29) a0)
  (A1:nsIn K mainGlobals "_law_bundles" = some (some (.ref a1)))
  (F1:jE K "_law_bundles" "_law_bundles" (top 31) a1)
  (A2:nsIn K mainGlobals "_law_net" = some (some (.ref a2)))
  (F2:jE K "_law_net" "_law_net" (top 30) a2)
  (A3:nsIn K mainGlobals "_law_due" = some (some (.ref a3)))
  (F3:jE K "_law_due" "_law_due" (top 32) a3)
  (A4:nsIn K mainGlobals "_law_cell" = some (some (.ref a4)))
  (F4:jE K "_law_cell" "_law_cell" (top 28) a4)
  (A5:nsIn K mainGlobals "_law_ended" = some (some (.ref a5)))
  (F5:jE K "_law_ended" "_law_ended" (top 35) a5)
  (A6:nsIn K mainGlobals "_law_sizes" = some (some (.ref a6)))
  (F6:jE K "_law_sizes" "_law_sizes" (top 33) a6)
  (A7:nsIn K mainGlobals "TooBig" = some (some (.ref a7))) (XZ7:L2.tU K a7 X1)
  (A8:nsIn K mainGlobals "is_linked" = some (some (.ref a8)))
  (F8:jE K "is_linked" "is_linked" (top 19) a8)
  (A9:nsIn K mainGlobals "firsts_by" = some (some (.ref a9)))
  (F9:jE K "firsts_by" "firsts_by" (top 18) a9)
  (A10:nsIn K mainGlobals "places_of" = some (some (.ref Ym)))
  (F10:jE K "places_of" "places_of" (top 8) Ym)
  (A11:nsIn K mainGlobals "is_parted" = some (some (.ref Yn)))
  (F11:jE K "is_parted" "is_parted" (top 20) Yn)
  (A12:nsIn K mainGlobals "winner_of" = some (some (.ref Yo)))
  (F12:jE K "winner_of" "winner_of" (top 21) Yo)
  (A13:nsIn K mainGlobals "other_side" = some (some (.ref Yp)))
  (F13:jE K "other_side" "other_side" (top 16) Yp)
  (A14:nsIn K mainGlobals "names_of" = some (some (.ref Yq)))
  (F14:jE K "names_of" "names_of" (top 9) Yq)
  (A15:nsIn K mainGlobals "put_in_order" = some (some (.ref Yr)))
  (F15:jE K "put_in_order" "put_in_order" (top 7) Yr)
  (A16:nsIn K mainGlobals "NotThere" = some (some (.ref Q3))) (XI16:findIn K (.ref Q3) "__init__" = some (some (.ref U6))) (XT16:jE K "__init__" "NotThere.__init__" Hf U6) (XM16:L2.CG K Q3 X1 U6 Mr) (XQ16:findIn K (.ref Q3) "tie" = some none)
  (A17:nsIn K mainGlobals "ends_of" = some (some (.ref Ys)))
  (F17:jE K "ends_of" "ends_of" (top 10) Ys)
  (A18:nsIn K mainGlobals "without" = some (some (.ref Yt)))
  (F18:jE K "without" "without" (top 12) Yt)
  (A19:nsIn K mainGlobals "taken_out" = some (some (.ref Yu)))
  (F19:jE K "taken_out" "taken_out" (top 13) Yu)
  (A20:nsIn K mainGlobals "drawn" = some (some (.ref Yv)))
  (F20:jE K "drawn" "drawn" (top 14) Yv)
  (A21:nsIn K mainGlobals "done_by" = some (some (.ref Yw)))
  (F21:jE K "done_by" "done_by" (top 15) Yw)
  (A22:nsIn K mainGlobals "best_of" = some (some (.ref Yx)))
  (F22:jE K "best_of" "best_of" (top 25) Yx)
  (A23:nsIn K mainGlobals "best_of" = some (some (.ref Yy)))
  (F23:jE K "best_of" "best_of" (top 25) Yy)
  (A24:nsIn K mainGlobals "best_of" = some (some (.ref Yz)))
  (F24:jE K "best_of" "best_of" (top 25) Yz)
  (A25:nsIn K mainGlobals "best_of" = some (some (.ref YA)))
  (F25:jE K "best_of" "best_of" (top 25) YA)
  (A26:nsIn K mainGlobals "best_of" = some (some (.ref YB)))
  (F26:jE K "best_of" "best_of" (top 25) YB)
  (A27:nsIn K mainGlobals "best_of" = some (some (.ref YC)))
  (F27:jE K "best_of" "best_of" (top 25) YC)
  (A28:nsIn K mainGlobals "best_of" = some (some (.ref YD)))
  (F28:jE K "best_of" "best_of" (top 25) YD)
  (A29:nsIn K mainGlobals "best_of" = some (some (.ref YE)))
  (F29:jE K "best_of" "best_of" (top 25) YE)
  (A30:nsIn K mainGlobals "tried" = some (some (.ref YF)))
  (F30:jE K "tried" "tried" (top 24) YF)
  (A31:nsIn K mainGlobals "all_plays" = some (some (.ref YG)))
  (F31:jE K "all_plays" "all_plays" (top 26) YG)
  (A32:nsIn K mainGlobals "_law_asked" = some (some (.ref a32)))
  (F32:jE K "_law_asked" "_law_asked" (top 34) a32)
  (A33:nsIn K mainGlobals "law" = some (some (.ref YH)))
  (F33:jE K "law" "law" (top 36) YH)
  (Z:∀x∈bltNames,nsIn K mainGlobals x=some none)
  (XA1:nsIn K mainGlobals "NetError" = some (some (.ref X1)))
  (XA2:nsIn K mainGlobals "TooMany" = some (some (.ref X2)))
  (XA3:nsIn K mainGlobals "Over" = some (some (.ref X3)))
  (XV:nsIn K mainGlobals "ValueError" = some none) (XG:L2.EC K a7) (XS:L2.Jq K a7 X1 true)
  (XK0:kitOne K (.ref a7) (.ref a7)=some true) (XK1:kitOne K (.ref a7) (.type "ValueError")=some true) (XK2:kitAny K (.ref a7) [.ref X2,.ref X3]=some false)
  (V0:nsIn K mainGlobals "MOST_TIES_TRIED" = some (some (.int (7) tk0))) :
  ∃fd:FuncData,(∀(s:Shared) (v:Value),BindsTo s fd ⟨[v],[]⟩ [("_law_script",v)])/\∀base:Heap,K.In base->base.Ns mainGlobals mg->dW l.prog w K mg base HV 68 fa fd ["_law_script"] (U1 K):=by
 have e:=hfa.symm.trans (aat X G A33);cases e;obtain⟨cl,hcl⟩:∃cl:Nat->Addr,cl=λn=>if n=1007 then a7 else if n=1016 then Q3 else 0:=⟨_,rfl⟩
 have T:Base K cl mg cons tb:=by
  subst hcl;refine⟨λx hx=>?_,λp hp=>?_,λc hc=>?_,λp hp=>?_,λp hp=>?_,λp hp=>?_⟩
  ·exact mg_none_of X G (Z x hx)
  ·simp only[cons,mem_cons,not_mem_nil,or_false]at hp
   rcases hp with rfl
   ·exact⟨.int (7),_,aat X G V0,⟨_,rfl⟩,λ_ _ _=>VR.int⟩
  ·exact absurd hc (Nat.not_lt_zero _)
  ·simp[tb]at hp
  ·simp[tb]at hp
  ·simp[tb]at hp
 obtain⟨fd,F⟩:=F33;obtain⟨_,_,_,_,_,_,_,_,_,e,_⟩:=F.ex;refine⟨fd,λs v=>by rw[e];exact .of_eq rfl,λbase _ _=>?_⟩;have G0:bQ l.prog w ⟨K,cl⟩ mg base 0 Ug:=all_nil;have G1:bQ l.prog w ⟨K,cl⟩ mg base 2 Uh:=bV (x:="_law_numbers") (N:=P9) (ps:=["_law_one","_law_two","_law_three"]) (body:=eu) T G0 F0 (aat X G A0) c0 d0 (by decide) (by intro _ _ _ _ _ _ _ l;apply U0 l;intros;rfl);have G2:bQ l.prog w ⟨K,cl⟩ mg base 4 Ui:=bV (x:="_law_bundles") (N:=Qa) (ps:=Uc) (body:=cV) T G1 F1 (aat X G A1) c1 d1 (by decide) (by intro _ _ _ _ _ _ _ l;apply Xx l;intros;rfl);have G3:bQ l.prog w ⟨K,cl⟩ mg base 6 Uj:=bV (x:="_law_net") (N:=Qc) (ps:=["_law_poles","_law_ties"]) (body:=jW) T G2 F2 (aat X G A2) c2 d2 (by decide) (by intro _ _ _ _ _ _ _ l;apply ln2 l;intros;rfl);have G4:bQ l.prog w ⟨K,cl⟩ mg base 8 Uk:=bV (x:="_law_due") (N:=Qd) (ps:=Ud) (body:=jX) T G3 F3 (aat X G A3) c3 d3 (by decide) (by intro _ _ _ _ _ _ _ l;apply Xx l;intros;rfl);have G5:bQ l.prog w ⟨K,cl⟩ mg base 10 Ul:=bV (x:="_law_cell") (N:=Gj) (ps:=Gj) (body:=iN) T G4 F4 (aat X G A4) c4 d4 (by decide) (by intro _ _ _ _ _ _ _ l;apply ln2 l;intros;rfl);have G6:bQ l.prog w ⟨K,cl⟩ mg base 12 Um:=bV (x:="_law_ended") (N:=Qe) (ps:=Ue) (body:=fD) T G5 F5 (aat X G A5) c5 d5 (by decide) (by intro _ _ _ _ _ _ _ l;apply U0 l;intros;rfl);have G7:bQ l.prog w ⟨K,cl⟩ mg base 14 U5:=bV (x:="_law_sizes") (N:=Qf) (ps:=Mm) (body:=gP) T G6 F6 (aat X G A6) c6 d6 (by decide) (by intro _ _ _ _ _ _ _ l;apply U0 l;intros;rfl);have G8:bQ l.prog w ⟨K,cl⟩ mg base 16 Uo:=FA (x:="TooBig") G7 (by rw[show cl (1000+U5.length)=a7 by rw[hcl];rfl];exact⟨aat X G A7,X1,XZ7⟩);have G9:bQ l.prog w ⟨K,cl⟩ mg base 18 Uq:=bV (x:="is_linked") (N:=dz) (ps:=dz) (body:=eE) T G8 F8 (aat X G A8) c8 d8 (by decide) (by intro _ _ _ _ _ _ _ l;apply Ma l;intros;rfl);have G10:bQ l.prog w ⟨K,cl⟩ mg base 20 Gs:=bV (x:="firsts_by") (N:=Gk) (ps:=["places","pairs"]) (body:=eF) T G9 F9 (aat X G A9) c9 d9 (by decide) (by intro _ _ _ _ _ _ _ l;apply ln2 l;intros;rfl);have G11:bQ l.prog w ⟨K,cl⟩ mg base 22 Gu:=bV (x:="places_of") (N:=Gm) (ps:=dz) (body:=eG) T G10 F10 (aat X G A10) DF Uu (by decide) (by intro _ _ _ _ _ _ _ l;apply Ma l;intros;rfl);have G12:bQ l.prog w ⟨K,cl⟩ mg base 24 Gv:=bV (x:="is_parted") (N:=["net","firsts"]) (ps:=dz) (body:=eL) T G11 F11 (aat X G A11) pM Uv (by decide) (by intro _ _ _ _ _ _ _ l;apply Ma l;intros;rfl);have G13:bQ l.prog w ⟨K,cl⟩ mg base 26 Gx:=bV (x:="winner_of") (N:=dz) (ps:=dz) (body:=eO) T G12 F12 (aat X G A12) c12 ZS (by decide) (by intro _ _ _ _ _ _ _ l;apply Ma l;intros;rfl);have G14:bQ l.prog w ⟨K,cl⟩ mg base 28 Gy:=bV (x:="other_side") (N:=["side"]) (ps:=["side"]) (body:=dB) T G13 F13 (aat X G A13) uq ZT (by decide) (by intro _ _ _ _ _ _ _ l;apply Ma l;intros;rfl);have G15:bQ l.prog w ⟨K,cl⟩ mg base 30 Gz:=bV (x:="names_of") (N:=dz) (ps:=dz) (body:=fK) T G14 F14 (aat X G A14) BG Uw (by decide) (by intro _ _ _ _ _ _ _ l;apply Ma l;intros;rfl);have G16:bQ l.prog w ⟨K,cl⟩ mg base 32 KP:=bV (x:="put_in_order") (N:=Gn) (ps:=["poles","ties"]) (body:=cM) T G15 F15 (aat X G A15) ur ZU (by decide) (by intro _ _ _ _ _ _ _ l;apply ln2 l;intros;rfl);have G17:bQ l.prog w ⟨K,cl⟩ mg base 34 GA:=J0 (x:="NotThere") (g:="tie") G16 (by rw[show cl (1000+KP.length)=Q3 by rw[hcl];rfl];exact⟨aat X G A16,X1,U6,Mr,_,["self","tie"],XM16,PV (k:=33) (choose_spec XT16) WN (by decide) Ux rfl rfl,(choose_spec XT16).binds (by intro _ _ _ _ _ _ _ l;apply ln2 l;intros;rfl),rfl,XQ16⟩);have G18:bQ l.prog w ⟨K,cl⟩ mg base 36 GB:=bV (x:="ends_of") (N:=Gp) (ps:=g9) (body:=gQ) T G17 F17 (aat X G A17) ZV ZW (by decide) (by intro _ _ _ _ _ _ _ l;apply ln2 l;intros;rfl);have G19:bQ l.prog w ⟨K,cl⟩ mg base 38 GC:=bV (x:="without") (N:=g9) (ps:=g9) (body:=gR) T G18 F18 (aat X G A18) ZX ZY (by decide) (by intro _ _ _ _ _ _ _ l;apply ln2 l;intros;rfl);have G20:bQ l.prog w ⟨K,cl⟩ mg base 40 GD:=bV (x:="taken_out") (N:=g9) (ps:=g9) (body:=eV) T G19 F19 (aat X G A19) ZZ Z0 (by decide) (by intro _ _ _ _ _ _ _ l;apply ln2 l;intros;rfl);have G21:bQ l.prog w ⟨K,cl⟩ mg base 42 GF:=bV (x:="drawn") (N:=Gq) (ps:=g9) (body:=jY) T G20 F20 (aat X G A20) Z1 Z2 (by decide) (by intro _ _ _ _ _ _ _ l;apply ln2 l;intros;rfl);have G22:bQ l.prog w ⟨K,cl⟩ mg base 44 GG:=bV (x:="done_by") (N:=xG) (ps:=xG) (body:=fE) T G21 F21 (aat X G A21) Z3 Z4 (by decide) (by intro _ _ _ _ _ _ _ l;apply U0 l;intros;rfl);have G23:bQ l.prog w ⟨K,cl⟩ mg base 46 GH:=bV (x:="best_of") (N:=cP) (ps:=fV) (body:=b9) T G22 F22 (aat X G A22) Z5 Z6 (by decide) (by intro _ _ _ _ _ _ _ l;apply ln2 l;intros;rfl);have G24:bQ l.prog w ⟨K,cl⟩ mg base 48 GI:=bV (x:="best_of") (N:=cP) (ps:=fV) (body:=f6) T G23 F23 (aat X G A23) Z7 Z8 (by decide) (by intro _ _ _ _ _ _ _ l;apply ln2 l;intros;rfl);have G25:bQ l.prog w ⟨K,cl⟩ mg base 50 GJ:=bV (x:="best_of") (N:=cP) (ps:=fV) (body:=f7) T G24 F24 (aat X G A24) Z9 d24 (by decide) (by intro _ _ _ _ _ _ _ l;apply ln2 l;intros;rfl);have G26:bQ l.prog w ⟨K,cl⟩ mg base 52 GK:=bV (x:="best_of") (N:=cP) (ps:=fV) (body:=f9) T G25 F25 (aat X G A25) c25 d25 (by decide) (by intro _ _ _ _ _ _ _ l;apply ln2 l;intros;rfl);have G27:bQ l.prog w ⟨K,cl⟩ mg base 54 GL:=bV (x:="best_of") (N:=cP) (ps:=fV) (body:=gb) T G26 F26 (aat X G A26) c26 d26 (by decide) (by intro _ _ _ _ _ _ _ l;apply ln2 l;intros;rfl);have G28:bQ l.prog w ⟨K,cl⟩ mg base 56 GN:=bV (x:="best_of") (N:=cP) (ps:=fV) (body:=gc) T G27 F27 (aat X G A27) c27 d27 (by decide) (by intro _ _ _ _ _ _ _ l;apply ln2 l;intros;rfl);have G29:bQ l.prog w ⟨K,cl⟩ mg base 58 GO:=bV (x:="best_of") (N:=cP) (ps:=fV) (body:=gf) T G28 F28 (aat X G A28) c28 d28 (by decide) (by intro _ _ _ _ _ _ _ l;apply ln2 l;intros;rfl);have YI:bQ l.prog w ⟨K,cl⟩ mg base 60 GP:=bV (x:="best_of") (N:=cP) (ps:=fV) (body:=gh) T G29 F29 (aat X G A29) c29 d29 (by decide) (by intro _ _ _ _ _ _ _ l;apply ln2 l;intros;rfl);have YJ:bQ l.prog w ⟨K,cl⟩ mg base 62 GQ:=bV (x:="tried") (N:=xH) (ps:=xH) (body:=iO) T YI F30 (aat X G A30) Yi Yj (by decide) (by intro _ _ _ _ _ _ _ l;apply ln2 l;intros;rfl);have YK:bQ l.prog w ⟨K,cl⟩ mg base 64 zQ:=bV (x:="all_plays") (N:=["net","word"]) (ps:=dz) (body:=cW) T YJ F31 (aat X G A31) Yk Yl (by decide) (by intro _ _ _ _ _ _ _ l;apply Ma l;intros;rfl);have XC:cl (1000+7)=a7:=by rw[hcl];rfl
 have G33:bQ l.prog w ⟨K,cl⟩ mg base 66 KQ:=pJ (r0:=("_law_asked",2,nQ)) YK (.inl ⟨by decide,a32,_,["_law_net_here","_law_side"],rfl,aat X G A32,F32.kp,(choose_spec F32).binds (by intro _ _ _ _ _ _ _ l;apply ln2 l;intros;rfl),P8 (jB:=7) (D:=X1) (CM:=X2) (CO:=X3) T YK (choose_spec F32) c32 hbQ dQ0 dQ1 dQt dQe hlQ hgQ (mg_none_of X G (Z _ (by decide))) (mg_none_of X G XV) (by rw[XC];exact⟨XG,aat X G A7,aat X G XA1,aat X G XA2,aat X G XA3,XK0,XK1,XK2,XS⟩) ((Be T YJ (choose_spec F31) Yk Yl).mono (by decide)) ((Be T YI (choose_spec F30) Yi Yj).mono (by decide)) ((choose_spec F31).binds (by intro _ _ _ _ _ _ _ l;apply Ma l;intros;rfl)) ((choose_spec F30).binds (by intro _ _ _ _ _ _ _ l;apply ln2 l;intros;rfl)) (aat X G A31) (aat X G A30) F31.kp F30.kp⟩);exact(J1 (Be T G33 F c33 d33)).imp (OZ hφ)
end
end K73
end
section
namespace pN
variable {α:Type} (γ:α -> Nat)
def cnt(g:Nat)(L:List α):Nat:=L.countP λe=>γ e==g
theorem kK(g:Nat):∀(L:List α) (k:Nat) (h:k<L.length),cnt γ g (L.eraseIdx k)+(if γ L[k]=g then 1 else 0)=cnt γ g L
 | e::L,0,_=>by
  unfold cnt;rw[List.eraseIdx_zero,List.tail_cons,countP_cons,List.getElem_cons_zero]
  congr 1
  by_cases h:γ e=g
  ·rw[aae h,aae (beq_iff_eq.mpr h)]
  ·rw[aac h,aac λz=>h (beq_iff_eq.mp z)]
 | e::L,k+1,h=>by
  have ih:=kK g L k (Nat.lt_of_succ_lt_succ h);unfold cnt at ih |-;rw[List.eraseIdx_cons_succ,countP_cons,countP_cons,List.getElem_cons_succ];omega
theorem vz{g:Nat}(h:0<cnt γ g L):∃k,∃hk:k<L.length,γ L[k]=g:=by
 obtain⟨e,he,hg⟩:=List.countP_pos_iff.mp h;obtain⟨k,hk,rfl⟩:=List.mem_iff_getElem.mp he;exact⟨k,hk,beq_iff_eq.mp hg⟩
def jn:Nat->Bool->List Nat->List α -> Bool
 |0,sm,al,L=>open Classical in if al=[] then true else if ∃g∈al,cnt γ g L=0 then false else sm
 | n+1,sm,al,L=>open Classical in if al=[] then true else if ∃g∈al,cnt γ g L=0 then false else
  if ∃k,∃h:k<L.length,jn n (!sm) (if sm then al.filter (λg=>g != γ L[k]) else al) (L.eraseIdx k)=sm then sm else !sm
def ones(al:List Nat)(L:List α):Nat:=al.countP λg=>cnt γ g L==1
def Sw(sm:Bool)(al:List Nat)(L:List α):Prop:=(∀g∈al,cnt γ g L≠0)/\ones γ al L<=if sm then 1 else 0
theorem ye{al:List Nat}(h:0<ones γ al L):∃g∈al,cnt γ g L=1:=by
 obtain⟨g,hg,e⟩:=List.countP_pos_iff.mp h;exact⟨g,hg,beq_iff_eq.mp e⟩
theorem uu{al:List Nat}(h:ones γ al L=0){g:Nat}(hg:g∈al):cnt γ g L≠1:=λe=>by
 have:=countP_eq_zero.mp h g hg;exact this (beq_iff_eq.mpr e)
theorem Ql{al:List Nat}(hn:al.Nodup){k:Nat}(hk:k<L.length):ones γ (al.filter λg=>g != γ L[k]) (L.eraseIdx k)=(al.filter λg=>g != γ L[k]).countP λg=>cnt γ g L==1:=by
 unfold ones;refine countP_congr λg hg=>?_;have h:γ L[k]≠g:=λe=>by
  have:=(mem_filter.mp hg).2;rw[<-e]at this;simp at this
 have:=kK γ g L k hk;rw[aac h]at this;rw[show cnt γ g (L.eraseIdx k)=cnt γ g L by omega]
theorem kL{al:List Nat}(hn:al.Nodup)(P:Nat->Bool)(x:Nat):al.countP P=(al.filter λg=>g != x).countP P+(if x∈al/\P x=true then 1 else 0):=by
 induction al with
 |nil=>simp
 |cons a r ih=>
  have hn':=aaW.mp hn;have ih:=ih hn'.2;rw[countP_cons,ih]
  by_cases h:a=x
  ·subst h
   rw[List.filter_cons_of_neg (by simp)]
   by_cases hp:P a=true
   ·rw[aae hp,aac (λz=>hn'.1 z.1),aae ⟨aak,hp⟩]
   ·rw[aac hp,aac (λz=>hp z.2),aac (λz=>hp z.2)]
  ·rw[List.filter_cons_of_pos (by simpa using h),countP_cons]
   have e:(x∈a::r/\P x=true)↔(x∈r/\P x=true):=by rw[aao];exact⟨λz=>⟨z.1.resolve_left λq=>h q.symm,z.2⟩,λz=>⟨.inr z.1,z.2⟩⟩
   simp only[e];omega
open Classical in
theorem BH:∀(n:Nat) (sm:Bool) (al:List Nat) (L:List α),al.Nodup->L.length<=n->jn γ n sm al L=decide (Sw γ sm al L):=by
 intro n
 induction n with
 |zero=>
  intro sm al L hn hl;have:L=[]:=length_eq_zero_iff.mp (Nat.le_zero.mp hl);subst this;rw[jn]
  by_cases h:al=[]
  ·subst h;rw[aae rfl];symm;exact decide_eq_true ⟨(λg hg=>nomatch hg),aaX _⟩
  ·rw[aac h];obtain⟨g,hg⟩:=List.exists_mem_of_ne_nil al h;rw[aae ⟨g,hg,rfl⟩];symm;exact decide_eq_false λz=>z.1 g hg rfl
 |succ n ih=>
  intro sm al L hn hl;rw[jn]
  by_cases h:al=[]
  ·subst h;rw[aae rfl];symm;exact decide_eq_true ⟨(λg hg=>nomatch hg),aaX _⟩
  rw[aac h]
  by_cases h0:∃g∈al,cnt γ g L=0
  ·rw[aae h0];obtain⟨g,hg,e⟩:=h0;symm;exact decide_eq_false λz=>z.1 g hg e
  rw[aac h0];have h1:∀g∈al,cnt γ g L≠0:=λg hg e=>h0 ⟨g,hg,e⟩;have le:∀k,k<L.length->(L.eraseIdx k).length<=n:=λk hk=>by rw[List.length_eraseIdx_of_lt hk];omega
  cases sm with
  |true=>
   have step:∀(k:Nat) (hk:k<L.length),(jn γ n (!true) (if true then al.filter (λg=>g != γ L[k]) else al) (L.eraseIdx k)=true)↔((al.filter λg=>g != γ L[k]).countP λg=>cnt γ g L==1)=0:=λk hk=>by
    rw[aae rfl,ih _ _ _ (hn.sublist List.filter_sublist) (le k hk),aa3];unfold Sw;rw[Ql γ hn hk];constructor
    ·intro z;have:=z.2;simp at this;simpa using this
    ·intro z
     refine⟨λg hg=>?_,by rw[z];exact aaX _⟩;have hg':=mem_filter.mp hg;have c:=kK γ g L k hk;have:γ L[k]≠g:=λe=>by have:=hg'.2;rw[<-e]at this;simp at this
     rw[aac this]at c;have:=h1 g hg'.1;omega
   by_cases c:ones γ al L<=1
   ·have ex:∃k,∃h:k<L.length,jn γ n (!true) (if true then al.filter (λg=>g != γ L[k]) else al) (L.eraseIdx k)=true:=by
     by_cases c0:0<ones γ al L
     ·obtain⟨g,hg,e⟩:=ye γ c0;obtain⟨k,hk,ek⟩:=vz γ (show 0<cnt γ g L by omega);refine⟨k,hk,(step k hk).mpr ?_⟩;have:=kL hn (λg=>cnt γ g L==1) (γ L[k]);rw[aae ⟨by rw[ek];exact hg,by rw[ek];exact beq_iff_eq.mpr e⟩]at this;unfold ones at c;omega
     ·obtain⟨g,hg⟩:=List.exists_mem_of_ne_nil al h;obtain⟨k,hk,ek⟩:=vz γ (show 0<cnt γ g L by have:=h1 g hg;omega);refine⟨k,hk,(step k hk).mpr ?_⟩;have:=kL hn (λg=>cnt γ g L==1) (γ L[k]);unfold ones at c0;omega
    rw[aae ex];symm;exact decide_eq_true ⟨h1,c⟩
   ·rw[aac ?_]
    ·symm;exact decide_eq_false λz=>c z.2
    ·rintro⟨k,hk,e⟩;have z:=(step k hk).mp e;have:=kL hn (λg=>cnt γ g L==1) (γ L[k]);unfold ones at c;split at this<;>omega
  |false=>
   have step:∀(k:Nat) (hk:k<L.length),(jn γ n (!false) (if false=true then al.filter (λg=>g != γ L[k]) else al) (L.eraseIdx k)=false)↔¬ Sw γ true al (L.eraseIdx k):=λk hk=>by
    rw[aac aab,ih _ _ _ hn (le k hk),decide_eq_false_iff_not];exact Iff.rfl
   by_cases c:ones γ al L=0
   ·rw[aac ?_]
    ·symm;exact decide_eq_true ⟨h1,by rw[c];exact aaX _⟩
    ·rintro⟨k,hk,e⟩
     refine(step k hk).mp e ⟨λg hg=>?_,?_⟩
     ·have c1:=kK γ g L k hk;have:=h1 g hg;have:=uu γ c hg;split at c1<;>omega
     ·show ones γ al (L.eraseIdx k)<=1
      unfold ones;rw[kL hn (λg=>cnt γ g (L.eraseIdx k)==1) (γ L[k])];have z:((al.filter λg=>g != γ L[k]).countP λg=>cnt γ g (L.eraseIdx k)==1)=0:=by
       refine countP_eq_zero.mpr λg hg q=>?_;have hg':=mem_filter.mp hg;have c1:=kK γ g L k hk;have ne:γ L[k]≠g:=λe=>by have:=hg'.2;rw[<-e]at this;simp at this
       rw[aac ne]at c1;have:=uu γ c hg'.1;have q:=beq_iff_eq.mp q;omega
      rw[z]
      split<;>omega
   ·have ex:∃k,∃h:k<L.length,jn γ n (!false) (if false=true then al.filter (λg=>g != γ L[k]) else al) (L.eraseIdx k)=false:=by
     obtain⟨g,hg,e⟩:=ye γ (Nat.pos_of_ne_zero c);obtain⟨k,hk,ek⟩:=vz γ (show 0<cnt γ g L by omega);refine⟨k,hk,(step k hk).mpr λz=>z.1 g hg ?_⟩;have c1:=kK γ g L k hk;rw[aae ek]at c1;omega
    rw[aae ex];symm;exact decide_eq_false λz=>c (by have:=z.2;simpa using this)
def mX(J:List α -> Prop):Nat->Bool->List α -> List α -> Bool
 |0,s,D,L=>open Classical in if J D then true else if ¬ J (D++L) then false else s
 | n+1,s,D,L=>open Classical in if J D then true else if ¬ J (D++L) then false else
  if ∃k,∃h:k<L.length,mX J n (!s) (if s then D++[L[k]] else D) (L.eraseIdx k)=s then s else !s
open Classical in
def DG(m:Nat)(D:List α):List Nat:=(List.range m).filter λg=>decide (∀e∈D,γ e≠g)
theorem pO{m g:Nat}:g∈DG γ m D↔g<m/\∀e∈D,γ e≠g:=by
 unfold DG;rw[mem_filter,aaR,aa3]
theorem K6{m:Nat}:DG γ m (D++[e])=(DG γ m D).filter λg=>g != γ e:=by
 unfold DG;rw[List.filter_filter];refine filter_congr λg _=>?_;rw[Bool.eq_iff_iff,aa3,and_eq_true,aa3,bne_iff_ne];constructor
 ·intro z;exact⟨λe'=>z e (by simp) e'.symm,λx hx=>z x (aaO _ hx)⟩
 ·rintro⟨z1,z2⟩ x hx
  rcases aaD.mp hx with h|h
  ·exact z2 x h
  ·rw[aaq.mp h];exact λq=>z1 q.symm
theorem mY{g:Nat}:cnt γ g L=0↔∀e∈L,γ e≠g:=by
 unfold cnt;rw[countP_eq_zero];exact⟨λz e he q=>z e he (beq_iff_eq.mpr q),λz e he q=>z e he (beq_iff_eq.mp q)⟩
theorem K7{J:List α -> Prop}{E:List α}{m:Nat}(hJ:∀D,(∀e∈D,e∈E)->(J D↔∀g<m,∃e∈D,γ e=g)) :
  ∀(n:Nat) (s:Bool) (D L:List α),(∀e∈D,e∈E)->(∀e∈L,e∈E)->mX J n s D L=jn γ n s (DG γ m D) L:=by
 have a1:∀D,(∀e∈D,e∈E)->(J D↔DG γ m D=[]):=λD hD=>by
  rw[hJ D hD,List.eq_nil_iff_forall_not_mem];constructor
  ·intro z g hg;obtain⟨h1,h2⟩:=(pO γ).mp hg;obtain⟨e,he,q⟩:=z g h1;exact h2 e he q
  ·intro z g hg;exact byContradiction λq=>z g ((pO γ).mpr ⟨hg,λe he q2=>q ⟨e,he,q2⟩⟩)
 have a2:∀D L,(∀e∈D,e∈E)->(∀e∈L,e∈E)->(¬ J (D++L)↔∃g∈DG γ m D,cnt γ g L=0):=λD L hD hL=>by
  rw[hJ (D++L) (λe he=>(aaD.mp he).elim (hD e) (hL e))];constructor
  ·intro z;obtain⟨g,z⟩:=not_forall.mp z;obtain⟨hg,z⟩:=not_imp.mp z;exact⟨g,(pO γ).mpr ⟨hg,λe he q=>z ⟨e,aaO _ he,q⟩⟩,(mY γ).mpr λe he q=>z ⟨e,aaG _ he,q⟩⟩
  ·rintro⟨g,hg,c⟩ z
   obtain⟨h1,h2⟩:=(pO γ).mp hg;obtain⟨e,he,q⟩:=z g h1
   rcases aaD.mp he with h|h
   ·exact h2 e h q
   ·exact(mY γ).mp c e h q
 intro n
 induction n with
 |zero=>intro s D L hD hL;rw[mX,jn];simp only[a1 D hD,a2 D L hD hL]
 |succ n ih=>
  intro s D L hD hL;rw[mX,jn];have e:∀k (h:k<L.length),mX J n (!s) (if s then D++[L[k]] else D) (L.eraseIdx k)=jn γ n (!s) (if s then (DG γ m D).filter (λg=>g != γ L[k]) else DG γ m D) (L.eraseIdx k):=λk h=>by
   have hL':∀e∈L.eraseIdx k,e∈E:=λe he=>hL e (List.mem_of_mem_eraseIdx he);cases s with
   |true=>rw[aae rfl,aae rfl,<-K6];exact ih _ _ _ (λe he=>(aaD.mp he).elim (hD e) λq=>by rw[aaq.mp q];exact hL _ (aaJ h)) hL'
   |false=>exact ih _ _ _ hD hL'
  simp only[a1 D hD,a2 D L hD hL,e]
open Classical in
def rX(E:List α)(m:Nat)(D L:List α):List Nat:=(List.range m).filter λg=>decide (∀e∈E,γ e=g->e∈D\/e∈L)
open Classical in
theorem pP{m g:Nat}:g∈rX γ E m D L↔g<m/\∀e∈E,γ e=g->e∈D\/e∈L:=by
 unfold rX;rw[mem_filter,aaR,aa3]
theorem Hg{D L:List α}{k:Nat}(h:k<L.length){e:α}:(e∈D++[L[k]]\/e∈L.eraseIdx k)↔(e∈D\/e∈L):=by
 rw[aaD,aaq,List.mem_eraseIdx_iff_getElem];constructor
 ·rintro((z|rfl)|⟨i,hi,_,rfl⟩)
  ·exact .inl z
  ·exact .inr (aaJ h)
  ·exact .inr (aaJ hi)
 ·rintro(z|z)
  ·exact .inl (.inl z)
  ·obtain⟨i,hi,rfl⟩:=List.mem_iff_getElem.mp z
   by_cases c:i=k
   ·subst c;exact .inl (.inr rfl)
   ·exact .inr ⟨i,hi,c,rfl⟩
theorem zT{L:List α}(hn:L.Nodup){k:Nat}(h:k<L.length){e:α}:e∈L.eraseIdx k↔e∈L/\e≠L[k]:=by
 rw[List.mem_eraseIdx_iff_getElem];constructor
 ·rintro⟨i,hi,c,rfl⟩;exact⟨aaJ hi,λq=>c ((List.getElem_inj hn).mp q)⟩
 ·rintro⟨z,c⟩;obtain⟨i,hi,rfl⟩:=List.mem_iff_getElem.mp z;exact⟨i,hi,λq=>c (by subst q;rfl),rfl⟩
open Classical in
theorem zU{m:Nat}(hJ:∀D,(∀e∈D,e∈E)->(J D↔∃g<m,∀e∈E,γ e=g->e∈D)) :
  ∀(n:Nat) (s:Bool) (D L:List α),(∀e∈D,e∈E)->(∀e∈L,e∈E)->(D++L).Nodup->mX J n s D L = !jn γ n (!s) (rX γ E m D L) L:=by
 have b1:∀D L,(∀e∈D,e∈E)->(∀e∈L,e∈E)->(D++L).Nodup->(J D↔∃g∈rX γ E m D L,cnt γ g L=0):=λD L hD hL hn=>by
  rw[hJ D hD];constructor
  ·rintro⟨g,hg,z⟩;refine⟨g,(pP γ).mpr ⟨hg,λe he q=>.inl (z e he q)⟩,(mY γ).mpr λe he q=>?_⟩;exact(aaY.mp hn).2.2 e (z e (hL e he) q) e he rfl
  ·rintro⟨g,hg,c⟩;obtain⟨h1,h2⟩:=(pP γ).mp hg;exact⟨g,h1,λe he q=>(h2 e he q).resolve_right λz=>(mY γ).mp c e z q⟩
 have b2:∀D L,(∀e∈D,e∈E)->(∀e∈L,e∈E)->(¬ J (D++L)↔rX γ E m D L=[]):=λD L hD hL=>by
  rw[hJ (D++L) (λe he=>(aaD.mp he).elim (hD e) (hL e)),List.eq_nil_iff_forall_not_mem];constructor
  ·intro z g hg;obtain⟨h1,h2⟩:=(pP γ).mp hg;exact z ⟨g,h1,λe he q=>aaD.mpr (h2 e he q)⟩
  ·rintro z ⟨g,hg,h⟩;exact z g ((pP γ).mpr ⟨hg,λe he q=>aaD.mp (h e he q)⟩)
 have two:∀(P Q:Prop) [Decidable P] [Decidable Q] (x:Bool),(Q->¬ P)->((if P then true else if Q then false else !x) = !(if Q then true else if P then false else x)):=λP Q _ _ x h=>by
  by_cases p:P
  ·have q:¬ Q:=λq=>h q p;rw[aae p,aac q,aae p];rfl
  ·rw[aac p]
   by_cases q:Q
   ·rw[aae q,aae q];rfl
   ·rw[aac q,aac q,aac p]
 have no:∀al:List Nat,∀L:List α,al=[]->¬ ∃g∈al,cnt γ g L=0:=λal L h=>by
  subst h;rintro⟨g,hg,_⟩;cases hg
 intro n
 induction n with
 |zero=>intro s D L hD hL hn;rw[mX,jn];simp only[b1 D L hD hL hn,b2 D L hD hL];have:=two (∃g∈rX γ E m D L,cnt γ g L=0) (rX γ E m D L=[]) (!s) (no _ _);rw[Bool.not_not]at this;exact this
 |succ n ih=>
  intro s D L hD hL hn;rw[mX,jn];have hs:=aaY.mp hn;have e:∀k (h:k<L.length),(mX J n (!s) (if s then D++[L[k]] else D) (L.eraseIdx k)=s)↔(jn γ n (!(!s)) (if (!s)=true then (rX γ E m D L).filter (λg=>g != γ L[k]) else rX γ E m D L) (L.eraseIdx k) = !s):=λk h=>by
   have hL':∀e∈L.eraseIdx k,e∈E:=λe he=>hL e (List.mem_of_mem_eraseIdx he);cases s with
   |true=>
    have hn':(D++[L[k]]++L.eraseIdx k).Nodup:=by
     rw[List.append_assoc,aaY];refine⟨hs.1,aaW.mpr ⟨λz=>((zT hs.2.1 h).mp z).2 rfl,hs.2.1.sublist (List.eraseIdx_sublist _ _)⟩,λa ha b hb=>?_⟩
     rcases aao.mp hb with q|q
     ·rw[q];exact hs.2.2 a ha _ (aaJ h)
     ·exact hs.2.2 a ha b (List.mem_of_mem_eraseIdx q)
    have ea:rX γ E m (D++[L[k]]) (L.eraseIdx k)=rX γ E m D L:=by unfold rX;refine filter_congr λg _=>?_;rw[Bool.eq_iff_iff,aa3,aa3];exact⟨λz e he q=>(Hg h).mp (z e he q),λz e he q=>(Hg h).mpr (z e he q)⟩
    rw[aae rfl,aac (show ¬ ((!true)=true) by decide),ih _ _ _ (λe he=>(aaD.mp he).elim (hD e) λq=>by rw[aaq.mp q];exact hL _ (aaJ h)) hL' hn',ea];cases jn γ n (!(!true)) (rX γ E m D L) (L.eraseIdx k)<;>decide
   |false=>
    have hn':(D++L.eraseIdx k).Nodup:=hn.sublist (List.Sublist.append (List.Sublist.refl _) (List.eraseIdx_sublist _ _));have ea:rX γ E m D (L.eraseIdx k)=(rX γ E m D L).filter λg=>g != γ L[k]:=by
     unfold rX;rw[List.filter_filter];refine filter_congr λg _=>?_;rw[Bool.eq_iff_iff,aa3,and_eq_true,aa3,bne_iff_ne];constructor
     ·intro z
      refine⟨λq=>?_,λe he q=>(z e he q).imp id List.mem_of_mem_eraseIdx⟩
      rcases z L[k] (hL _ (aaJ h)) q.symm with y|y
      ·exact hs.2.2 _ y _ (aaJ h) rfl
      ·exact((zT hs.2.1 h).mp y).2 rfl
     ·rintro⟨z1,z2⟩ e he q;refine(z2 e he q).imp id λy=>(zT hs.2.1 h).mpr ⟨y,λq2=>z1 (by rw[<-q,q2])⟩
    rw[aac aab,aae (show (!false)=true from rfl),ih _ _ _ hD hL' hn',ea];cases jn γ n (!(!false)) _ (L.eraseIdx k)<;>decide
  simp only[b1 D L hD hL hn,b2 D L hD hL,e];have:=two (∃g∈rX γ E m D L,cnt γ g L=0) (rX γ E m D L=[]) (if ∃k,∃h:k<L.length,jn γ n (!(!s)) (if (!s)=true then (rX γ E m D L).filter (λg=>g != γ L[k]) else rX γ E m D L) (L.eraseIdx k) = !s then !s else !(!s)) (no _ _);rw[<-this];have fl:∀(P:Prop) [Decidable P],(if P then s else !s) = !(if P then !s else !(!s)):=λP _=>by
   by_cases p:P
   ·rw[aae p,aae p,Bool.not_not]
   ·rw[aac p,aac p,Bool.not_not]
  congr 2
  exact fl _
end pN
end
section
namespace Hv
section
variable {α:Type} {γ:α -> Nat} {en:α -> Int×Int} {D:List α}
def Jn(e:Int×Int)(a b:Int):Prop:=e=(a,b)\/e=(b,a)
theorem Jn.way{a b:Int}(h:Jn e a b)(m:e∈es):Way es a b:=by
 rcases h with h|h
 ·rw[h]at m;exact .fwd (.refl _) m
 ·rw[h]at m;exact .bwd (.refl _) m
theorem K8{v:Nat->Int}{m:Nat}(hv:∀i j,i<=m->j<=m->v i=v j->i=j)(hD:∀e∈D,γ e<m/\Jn (en e) (v (γ e)) (v (γ e+1))) :
  Way (D.map en) (v 0) (v m)↔∀g<m,∃e∈D,γ e=g:=by
 constructor
 ·intro w g hg
  refine byContradiction λno=>?_;have:=w.const (λx=>∃i,i<=g/\v i=x) (λe he=>by
   obtain⟨d,hd,rfl⟩:=aaP.mp he;obtain⟨h1,h2⟩:=hD d hd;have ne:γ d≠g:=λq=>no ⟨d,hd,q⟩;have key:(∃i,i<=g/\v i=v (γ d))=(∃i,i<=g/\v i=v (γ d+1)):=propext ⟨λ⟨i,hi,q⟩=>by
     have:=hv i (γ d) (by omega) (by omega) q;exact⟨γ d+1,by omega,rfl⟩,λ⟨i,hi,q⟩=>by
     have:=hv i (γ d+1) (by omega) (by omega) q;exact⟨γ d,by omega,rfl⟩⟩
   rcases h2 with q|q<;>rw[q]
   ·exact key
   ·exact key.symm)
  have t:∃i,i<=g/\v i=v m:=this▸⟨0,aaX _,rfl⟩;obtain⟨i,hi,q⟩:=t;have:=hv i m (by omega) (aam _) q;omega
 ·intro h
  have:∀k,k<=m->Way (D.map en) (v 0) (v k):=λk=>by
   induction k with
   |zero=>exact λ_=>.refl _
   |succ k ih=>intro hk;obtain⟨e,he,q⟩:=h k (by omega);have:=(hD e he).2;rw[q]at this;exact(ih (by omega)).trans (this.way (aaU he))
  exact this m (aam _)
theorem zV{E:List α}{pos:α -> Nat}{u:Nat->Nat->Int}{z:Nat->Nat}{m:Nat}{p q:Int}(hpq:p≠q)(h0:∀g<m,u g 0=p)(h1:∀g<m,u g (z g)=q)
  (hu:∀g<m,∀g'<m,∀i i',0<i->i<z g->i'<=z g'->u g i=u g' i'->g=g'/\i=i')
  (hE:∀e∈E,γ e<m/\pos e<z (γ e)/\Jn (en e) (u (γ e) (pos e)) (u (γ e) (pos e+1))) (hall:∀g<m,∀i<z g,∃e∈E,γ e=g/\pos e=i)
  (hinj:∀e∈E,∀e'∈E,γ e = γ e'->pos e=pos e'->e=e') (hD:∀e∈D,e∈E) :
  Way (D.map en) p q↔∃g<m,∀e∈E,γ e=g->e∈D:=by
 constructor
 ·intro w
  refine byContradiction λno=>?_;have miss:∀g,∃i,g<m->i<z g/\∀e∈D,γ e=g->pos e≠i:=λg=>by
   by_cases hg:g<m
   ·have:¬ ∀e∈E,γ e=g->e∈D:=λy=>no ⟨g,hg,y⟩;obtain⟨e,y⟩:=not_forall.mp this;obtain⟨he,y⟩:=not_imp.mp y;obtain⟨hg',y⟩:=not_imp.mp y;refine⟨pos e,λ_=>⟨by have:=(hE e he).2.1;rw[hg']at this;exact this,λe' he' q1 q2=>y ?_⟩⟩;rw[<-hinj e' (hD e' he') e he (q1.trans hg'.symm) q2];exact he'
   ·exact⟨0,λy=>absurd y hg⟩
  let f:Nat->Nat:=λg=>(miss g).choose
  have hf:∀g,g<m->f g<z g/\∀e∈D,γ e=g->pos e≠f g:=λg=>(miss g).choose_spec;have side:∀g<m,∀i,i<=z g->((u g i=p\/∃g'<m,∃i',0<i'/\i'<=f g'/\u g' i'=u g i)↔i<=f g):=λg hg i hi=>by
   have hz:=(hf g hg).1;constructor
   ·rintro(y|⟨g',hg',i',k1,k2,y⟩)
    ·by_cases c:i=0
     ·omega
     by_cases c2:i<z g
     ·have:=hu g hg g hg i 0 (by omega) c2 (by omega) (y.trans (h0 g hg).symm);omega
     ·have:i=z g:=by omega
      subst this;exact absurd ((y.symm.trans (h1 g hg))) hpq
    ·have hz':=(hf g' hg').1;have:=hu g' hg' g hg i' i k1 (by omega) hi y;obtain⟨rfl,rfl⟩:=this;exact k2
   ·intro y
    by_cases c:i=0
    ·subst c;exact .inl (h0 g hg)
    ·exact .inr ⟨g,hg,i,by omega,y,rfl⟩
  have:=w.const (λx=>x=p\/∃g'<m,∃i',0<i'/\i'<=f g'/\u g' i'=x) (λe he=>by
   obtain⟨d,hd,rfl⟩:=aaP.mp he;obtain⟨a1,a2,a3⟩:=hE d (hD d hd);have ne:=(hf (γ d) a1).2 d hd rfl;have key:=propext ((side (γ d) a1 (pos d) (by omega)).trans (Iff.trans ⟨λy=>show pos d+1<=f (γ d) by omega,λy=>by omega⟩ (side (γ d) a1 (pos d+1) (by omega)).symm))
   rcases a3 with y|y<;>rw[y]
   ·exact key
   ·exact key.symm)
  have t:q=p\/∃g'<m,∃i',0<i'/\i'<=f g'/\u g' i'=q:=this▸.inl rfl
  rcases t with y|⟨g',hg',i',k1,k2,y⟩
  ·exact hpq y.symm
  ·have hz':=(hf g' hg').1;have:=hu g' hg' g' hg' i' (z g') k1 (by omega) (aam _) (y.trans (h1 g' hg').symm);omega
 ·rintro⟨g,hg,h⟩
  have:∀k,k<=z g->Way (D.map en) p (u g k):=λk=>by
   induction k with
   |zero=>exact λ_=>by rw[h0 g hg];exact .refl _
   |succ k ih=>intro hk;obtain⟨e,he,y1,y2⟩:=hall g hg k (by omega);have:=(hE e he).2.2;rw[y1,y2]at this;exact(ih (by omega)).trans (this.way (aaU (h e he y1)))
  have:=this (z g) (aam _);rw[h1 g hg]at this;exact this
end
def win(p q:Int):Nat->Bool->List (Int×Int)->List (Int×Int)->Bool
 |0,s,D,L=>open Classical in if Way D p q then true else if ¬ Way (D++L) p q then false else s
 | n+1,s,D,L=>open Classical in if Way D p q then true else if ¬ Way (D++L) p q then false else
  if ∃k,∃h:k<L.length,win p q n (!s) (if s then D++[L[k]] else D) (L.eraseIdx k)=s then s else !s
theorem vA{α β:Type}(f:α -> β):∀(l:List α) (k:Nat),(l.eraseIdx k).map f=(l.map f).eraseIdx k
 |[],k=>by simp
 |a::l,0=>by simp
 |a::l,k+1=>by simp[vA f l k]
theorem Ms{α:Type}(en:α -> Int×Int)(p q:Int):∀(n:Nat) (s:Bool) (D L:List α),win p q n s (D.map en) (L.map en)=pN.mX (λD=>Way (D.map en) p q) n s D L:=by
 intro n
 induction n with
 |zero=>intro s D L;rw[win,pN.mX,<-aaM]
 |succ n ih=>
  intro s D L;rw[win,pN.mX,<-aaM];have e:(∃k,∃h:k<(L.map en).length,win p q n (!s) (if s then D.map en++[(L.map en)[k]] else D.map en) ((L.map en).eraseIdx k)=s)↔(∃k,∃h:k<L.length,pN.mX (λD=>Way (D.map en) p q) n (!s) (if s then D++[L[k]] else D) (L.eraseIdx k)=s):=by
   have one:∀(k:Nat) (h:k<L.length) (h':k<(L.map en).length),win p q n (!s) (if s then D.map en++[(L.map en)[k]] else D.map en) ((L.map en).eraseIdx k)=pN.mX (λD=>Way (D.map en) p q) n (!s) (if s then D++[L[k]] else D) (L.eraseIdx k):=λk h h'=>by
    rw[<-ih,vA,aa1];cases s with
    |true=>rw[aae rfl,aae rfl,aaM];rfl
    |false=>rfl
   constructor
   ·rintro⟨k,h,y⟩
    have h':k<L.length:=by rw[aag]at h;exact h
    exact⟨k,h',by rw[<-one k h' h];exact y⟩
   ·rintro⟨k,h,y⟩
    have h':k<(L.map en).length:=by rw[aag];exact h
    exact⟨k,h',by rw[one k h h'];exact y⟩
  simp only[e]
open Classical in
theorem K9{α:Type}{γ:α -> Nat}{en:α -> Int×Int}{v:Nat->Int}{m n:Nat}{L:List α}(hv:∀i j,i<=m->j<=m->v i=v j->i=j)(hL:∀e∈L,γ e<m/\Jn (en e) (v (γ e)) (v (γ e+1)))(hn:L.length<=n)(s:Bool) :
  win (v 0) (v m) n s [] (L.map en)=decide (pN.Sw γ s (List.range m) L):=by
 have:=Ms en (v 0) (v m) n s [] L;rw[map_nil]at this;rw[this,pN.K7 γ (E:=L) (m:=m) (λD hD=>K8 hv λe he=>hL e (hD e he)) n s [] L (λe he=>nomatch he) (λe he=>he)];have ea:pN.DG γ m []=List.range m:=by unfold pN.DG;exact List.filter_eq_self.mpr λg _=>decide_eq_true λe he=>nomatch he
 rw[ea,pN.BH γ n s _ L nodup_range hn]
open Classical in
theorem zW{α:Type}{γ:α -> Nat}{en:α -> Int×Int}{L:List α}{pos:α -> Nat}{u:Nat->Nat->Int}{z:Nat->Nat}{m n:Nat}{p q:Int}(hpq:p≠q)(h0:∀g<m,u g 0=p)(h1:∀g<m,u g (z g)=q)
  (hu:∀g<m,∀g'<m,∀i i',0<i->i<z g->i'<=z g'->u g i=u g' i'->g=g'/\i=i')
  (hE:∀e∈L,γ e<m/\pos e<z (γ e)/\Jn (en e) (u (γ e) (pos e)) (u (γ e) (pos e+1))) (hall:∀g<m,∀i<z g,∃e∈L,γ e=g/\pos e=i)
  (hinj:∀e∈L,∀e'∈L,γ e = γ e'->pos e=pos e'->e=e') (hnd:L.Nodup) (hn:L.length<=n) (s:Bool) :
  win p q n s [] (L.map en) = !decide (pN.Sw γ (!s) (List.range m) L):=by
 have:=Ms en p q n s [] L;rw[map_nil]at this;rw[this,pN.zU γ (E:=L) (m:=m) (λD hD=>zV hpq h0 h1 hu hE hall hinj hD) n s [] L (λe he=>nomatch he) (λe he=>he) hnd];have ea:pN.rX γ L m [] L=List.range m:=by unfold pN.rX;exact List.filter_eq_self.mpr λg _=>decide_eq_true λe he _=>.inr he
 rw[ea,pN.BH γ n (!s) _ L nodup_range hn]
end Hv
end
section
namespace Hv
def oY(gs:List (List Int))(x:Int):Nat:=gs.findIdx λG=>decide (x∈G)
theorem vB{G:List Int}{x:Int}(h:x∈G):oY (G::r) x=0:=by
 unfold oY;rw[List.findIdx_cons,decide_eq_true h];rfl
theorem rM{G:List Int}{x:Int}(h:x∉G):oY (G::r) x=oY r x+1:=by
 unfold oY;rw[List.findIdx_cons,decide_eq_false h];rfl
theorem Hh:∀{gs:List (List Int)},gs.flatten.Nodup->∀(g:Nat) (hg:g<gs.length) {x:Int},x∈gs[g]->oY gs x=g
 |G::r,hn,0,_,x,hx=>vB hx
 | G::r,hn,g+1,hg,x,hx=>by
  rw[flatten_cons]at hn;have h:=aaY.mp hn;have hg':g<r.length:=Nat.lt_of_succ_lt_succ hg;have hx':x∈r[g]:=hx;rw[rM λy=>h.2.2 x y x (mem_flatten.mpr ⟨_,aaJ hg',hx'⟩) rfl,Hh h.2.1 g hg' hx']
theorem yf:∀{gs:List (List Int)},gs.flatten.Nodup->∀(g:Nat) (hg:g<gs.length),(gs.flatten.countP λx=>oY gs x==g)=gs[g].length
 | G::r,hn,0,_=>by
  rw[flatten_cons]at hn |-;have h:=aaY.mp hn;rw[List.countP_append];have e1:(G.countP λx=>oY (G::r) x==0)=G.length:=List.countP_eq_length.mpr λx hx=>by rw[vB hx];rfl
  have e2:(r.flatten.countP λx=>oY (G::r) x==0)=0:=countP_eq_zero.mpr λx hx=>by
   rw[rM λy=>h.2.2 x y x hx rfl];simp
  rw[e1,e2];rfl
 | G::r,hn,g+1,hg=>by
  rw[flatten_cons]at hn |-;have h:=aaY.mp hn;have hg':g<r.length:=Nat.lt_of_succ_lt_succ hg;rw[List.countP_append];have e1:(G.countP λx=>oY (G::r) x==g+1)=0:=countP_eq_zero.mpr λx hx=>by rw[vB hx];simp
  have e2:(r.flatten.countP λx=>oY (G::r) x==g+1)=r.flatten.countP λx=>oY r x==g:=countP_congr λx hx=>by
   rw[rM λy=>h.2.2 x y x hx rfl];simp
  rw[e1,e2,Nat.zero_add,yf h.2.1 g hg'];rfl
theorem nW{α:Type}{nm:α -> Int}(hn:gs.flatten.Nodup){L:List α}(hp:(L.map nm).Perm gs.flatten)(g:Nat)(hg:g<gs.length):pN.cnt (λe=>oY gs (nm e)) g L=gs[g].length:=by
 unfold pN.cnt;have e:(L.countP λe=>oY gs (nm e)==g)=(L.map nm).countP λx=>oY gs x==g:=by rw[List.countP_map];rfl
 rw[e,hp.countP_eq,yf hn g hg]
theorem yg{α:Type}{nm:α -> Int}(hn:gs.flatten.Nodup){L:List α}(hp:(L.map nm).Perm gs.flatten)(s:Bool) :
  pN.Sw (λe=>oY gs (nm e)) s (List.range gs.length) L↔((∀G∈gs,G.length≠0)/\(gs.countP λG=>G.length==1)<=if s then 1 else 0):=by
 have e1:(∀g∈List.range gs.length,pN.cnt (λe=>oY gs (nm e)) g L≠0)↔∀G∈gs,G.length≠0:=by
  constructor
  ·intro h G hG;obtain⟨g,hg,rfl⟩:=List.mem_iff_getElem.mp hG;rw[<-nW hn hp g hg];exact h g (aaR.mpr hg)
  ·intro h g hg;have hg:=aaR.mp hg;rw[nW hn hp g hg];exact h _ (aaJ hg)
 have e2:pN.ones (λe=>oY gs (nm e)) (List.range gs.length) L=gs.countP λG=>G.length==1:=by
  unfold pN.ones;have:(List.range gs.length).countP (λg=>pN.cnt (λe=>oY gs (nm e)) g L==1)=(List.range gs.length).countP λg=>(gs.getD g []).length==1:=countP_congr λg hg=>by
   have hg:=aaR.mp hg;rw[nW hn hp g hg,getD_eq_getElem?_getD,aaz hg];rfl
  rw[this];have hm:(List.range gs.length).map (λg=>gs.getD g [])=gs:=by refine ext_getElem (by simp) λi h1 h2=>?_;rw[aa1,List.getElem_range,getD_eq_getElem?_getD,aaz h2];rfl
  have:(gs.countP λG=>G.length==1)=((List.range gs.length).map (λg=>gs.getD g [])).countP λG=>G.length==1:=by rw[hm]
  rw[this,List.countP_map];rfl
 unfold pN.Sw;rw[e1,e2]
end Hv
end
section
open PySem L2 Hv
set_option hygiene false
local macro_rules | `(tactic| simp only[EV,$ls,*] $[$l:location]?)=>`(tactic| simp only[cS,FF,FG,PN,PR,PU,xB,Tr,Tt,Tu,Tv,Tw,PB,Tz,PC,PD,Ws,TF,TH,aG,aQ,Mc,bR,vc,dZ,U3,J6,J2,sM,Xz,Mj,aU,Py,cF,Ku,Pz,isVar,jb,List.getElem?_cons_zero,List.getElem?_cons_succ,List.set_cons_zero,List.set_cons_succ,map_cons,map_nil,length_cons,length_nil,List.cons_append,nil_append,List.replicate_succ,List.replicate_zero,Nat.reduceSub,Nat.reduceAdd,Nat.reduceLeDiff,TJ,TL,Wt,Wu,Wv,Ww,Wx,Wy,TN,TQ,qW,TR,TU,TV,Bv,TX,TY,TZ,PF,PJ,PK,PM,T4,lU,dw,qM,Wm,dj,lz,Hv.stored,List.contains_nil,contains_cons,List.elem_nil,List.elem_cons,Nat.reduceBEq,Nat.reduceEqDiff,BEq.rfl,List.all_cons,List.all_nil,beq_self_eq_true,t8,iK,qO,lB,nO,↓reduceIte,Bool.and_true,Bool.true_and,Bool.false_and,Bool.and_false,Bool.or_false,Bool.false_or,Bool.or_true,Bool.true_or,Bool.or_self,Nat.zero_le,Bool.not_true,Bool.not_false,false_eq_true,decide_eq_true_eq,not_eq_true',decide_eq_false_iff_not,append_nil,nil_append,reduceCtorEq,$ls,*] $[$l:location]?)
section
open PySem L2 Hv
namespace K73
def aR(t:T3):Int×Int:=(t.2.1,t.2.2)
def jz(p q:Int)(ts:List T3):List Int:=p::q::ts.flatMap λt=>[t.2.1,t.2.2]
def La(p q:Int)(ts:List T3):List Int:=kR (jz p q ts)
theorem nX(p q:Int)(ts:List T3):(jz p q ts).length=2+2*ts.length:=by
 unfold jz
 induction ts with
 |nil=>rfl
 |cons t r ih=>simp only[List.flatMap_cons,length_cons,List.length_append,length_nil] at *;omega
theorem yh:∀(ns ks:List Int),(iu ks ns).length<=ks.length+ns.length
 |[],ks=>aam _
 | k::r,ks=>by
  rw[iu,length_cons];have:=yh r (qj ks k);have:=qk ks k;omega
theorem Lb{p q:Int}(h:ts.length<=14):(La p q ts).length<64:=by
 unfold La kR;rw[(sortI_perm _).length_eq];have:=yh (jz p q ts) [];rw[nX]at this;simp only[length_nil]at this;omega
theorem pQ{p q x:Int}:x∈La p q ts↔x=p\/x=q\/∃t∈ts,x=t.2.1\/x=t.2.2:=by
 unfold La;rw[Gf];unfold jz;simp only[mem_cons,List.mem_flatMap,not_mem_nil,or_false]
theorem places_eq{p q:Int}(h:ts.length<=14):fO [aA p q ts]=.ok (true,.rl ((La p q ts).map .int)):=by
 unfold fO eG aA;simp only[EV,cC qX,cC lO,gO];rw[qV];refine dN bu (λr:Pr FV=>r=.ok (true,.rl ((La p q ts).map .int)))
  (λdone env=>∃a,env=[some (.sh,aA p q ts),some (.ow,.rl ((jz p q done).map .int)),a])
  ⟨none,rfl⟩ ?_ ?_
 ·rintro pre t post env hx ⟨a,rfl⟩
  refine⟨[some (.sh,aA p q ts),some (.ow,.rl ((jz p q (pre++[t])).map .int)),some (.sh,bu t)],?_,_,rfl⟩;have hpl:pre.length<14:=by have:=congrArg length hx;rw[aau,length_cons]at this;omega
  have z:((jz p q pre).map Val.int).length+2<=sizeLine:=by rw[aag,nX];unfold sizeLine;omega
  have ea:(jz p q (pre++[t])).map Val.int=(jz p q pre).map Val.int++[.int t.2.1,.int t.2.2]:=by unfold jz;simp
  simp only[EV,aW,Gg,z,ea]
 ·rintro env ⟨a,rfl⟩
  have hl:(jz p q ts).length<64:=by rw[nX];omega
  simp only[EV,ints_map,hl];rfl
end K73
end
section
open PySem L2 Hv
namespace K73
def fW(e:Int×Int):Val:=.tup [.int e.1,.int e.2]
theorem Lc{i j:Nat}:cO (.tup [i,j]) (fW e) env=some ((env.set i (some (.sh,.int e.1))).set j (some (.sh,.int e.2))):=rfl
theorem Dm(ps:List Int)(hn:ps.Nodup)(hl:ps.length<64)(es:List (Int×Int))(he:∀e∈es,e.1∈ps/\e.2∈ps):∃f φ,fN [.rl (ps.map .int),.rl (es.map fW)]=.ok (f,yE ps λx=>.int (φ x))/\Dc ps es φ:=by
 unfold fN eF;simp only[EV,gO];rw[qV];have hz:∀pre:List Int,pre.length<=ps.length->(pre.map (Sum.inl:Int->Key)).length<sizeLine:=λpre h=>by rw[aag];unfold sizeLine;omega
 refine dN Val.int (λr:Pr FV=>∃f φ,r=.ok (f,yE ps λx=>.int (φ x))/\Dc ps es φ)
  (λdone env=>∃a,env=[some (.sh,.rl (ps.map .int)),some (.sh,.rl (es.map fW)),some (.ow,yE done λx=>.int x),a,none,none,none,none])
  ⟨none,rfl⟩ ?_ ?_
 ·rintro pre x post env hx ⟨a,rfl⟩
  have WO:x∉pre:=by rw[hx,aaY]at hn;exact λh=>hn.2.2 x h x (by simp) rfl
  refine⟨[some (.sh,.rl (ps.map .int)),some (.sh,.rl (es.map fW)),some (.ow,yE (pre++[x]) λx=>.int x),some (.sh,.int x),none,none,none,none],?_,_,rfl⟩;simp only[EV,aW,Bw,hz pre (by rw[hx];simp),Ky WO];rw[kJ (g':=λx=>Val.int x)];intro y _;unfold xC
  split
  ·rename_i e;rw[e]
  ·rfl
 ·rintro env ⟨a,rfl⟩
  simp only[EV,gO];rw[qV];refine dN fW (λr:Pr FV=>∃f φ,r=.ok (f,yE ps λx=>.int (φ x))/\Dc ps es φ)
   (λdone env=>∃(φ:Int->Int) (a b c d e:Option (Mk×Val)),env=[some (.sh,.rl (ps.map .int)),some (.sh,.rl (es.map fW)),some (.ow,yE ps λx=>.int (φ x)),a,b,c,d,e]/\Dc ps done φ)
   ⟨id,_,_,_,_,_,rfl,Dc.start ps⟩ ?_ ?_
  ·rintro pre e post env hx ⟨φ,a,b,c,d,f,rfl,Uy⟩
   obtain⟨h1,h2⟩:=he e (by rw[hx];simp);simp only[EV,Lc,qY h1,qY h2,gO];have hk:∃kept gone:Int,(if φ e.2 < φ e.1 then φ e.2 else φ e.1)=kept/\(if φ e.2 > φ e.1 then φ e.2 else φ e.1)=gone/\((kept = φ e.1/\gone = φ e.2)\/(kept = φ e.2/\gone = φ e.1)):=by
    refine⟨_,_,rfl,rfl,?_⟩
    split<;>split<;>omega
   obtain⟨kept,gone,ek,eg,hk⟩:=hk;rw[ek,eg];refine dN Val.int (λr:Pr Mf=>∃env',r=.ok (.nx env')/\∃(φ:Int->Int) (a b c d f:Option (Mk×Val)),env'=[some (.sh,.rl (ps.map .int)),some (.sh,.rl (es.map fW)),some (.ow,yE ps λx=>.int (φ x)),a,b,c,d,f]/\Dc ps (pre++[e]) φ)
    (λdone env=>∃a,env=[some (.sh,.rl (ps.map .int)),some (.sh,.rl (es.map fW)),some (.ow,yE ps λx=>.int (if x∈done /\ φ x=gone then kept else φ x)),a,some (.sh,.int e.1),some (.sh,.int e.2),some (.sh,.int kept),some (.sh,.int gone)])
    ⟨a,by simp⟩ ?_ ?_
   ·rintro done x post env hy ⟨a,rfl⟩
    have WO:x∉done:=by rw[hy,aaY]at hn;exact λh=>hn.2.2 x h x (by simp) rfl
    have hxs:x∈ps:=by rw[hy];simp
    refine⟨_,?_,some (.sh,.int x),rfl⟩;simp only[EV,aW,qY hxs,Bw,hz ps (Nat.le_refl _),Kw hxs,WO,false_and,if_false]
    by_cases hg:φ x=gone
    ·simp only[hg,↓reduceIte]
     rw[kJ];intro y _;unfold xC
     by_cases e:y=x
     ·subst e;simp[hg]
     ·simp[e]
    ·simp only[hg,↓reduceIte]
     rw[kJ];intro y _
     by_cases e:y=x
     ·subst e;simp[hg]
     ·simp[e]
   ·rintro env ⟨a,rfl⟩;refine⟨_,rfl,(λx=>if φ x=gone then kept else φ x),a,some (.sh,.int e.1),some (.sh,.int e.2),some (.sh,.int kept),some (.sh,.int gone),?_,Uy.step h1 h2 kept gone hk⟩;rw[kJ];intro y hy;simp[hy]
  ·rintro env ⟨φ,a,b,c,d,e,rfl,Uy⟩;simp only[EV,aU];exact⟨_,φ,rfl,Uy⟩
end K73
end
section
open PySem L2 Hv
namespace K73
def Apart(p q:Int)(ts:List T3):Prop:=¬ Way (ts.map aR) p q
open Classical in
theorem Dp{p q:Int}(h:ts.length<=14):fP [aA p q ts]=.ok (true,.bl (decide (Apart p q ts))):=by
 have e1:=places_eq (p:=p) (q:=q) h;obtain⟨f,φ,e2,Uy⟩:=Dm (La p q ts) (zO _) (Lb h) (ts.map aR) (λe he=>by
  obtain⟨t,ht,rfl⟩:=aaP.mp he;exact⟨pQ.mpr (.inr (.inr ⟨t,ht,.inl rfl⟩)),pQ.mpr (.inr (.inr ⟨t,ht,.inr rfl⟩))⟩)
 have hp:p∈La p q ts:=pQ.mpr (.inl rfl);have hq:q∈La p q ts:=pQ.mpr (.inr (.inl rfl));unfold fP eL;have hc:ts.length<=100000:=by omega
 unfold aA at *;simp only[EV,jm,eX,e1,cC qX,cC lO,gO,iJ,length_map,hc];rw[fB bu (λt=>fW (aR t)) ts (λt ht=>by
  simp only[EV,aW,Gg];rfl)]
 have em:ts.map (λt=>fW (aR t))=(ts.map aR).map fW:=by rw[aaN];rfl
 rw[em];simp only[EV,eX,e2,qY hp,qY hq,cC qX,cC lO];have:=Uy.iff hp hq;unfold Apart;rw[<-this]
 by_cases c:φ p = φ q<;>simp[c]
theorem order_eq{p q:Int}{us:List T3}(hl:us.length<=16):cB [.tup [.int p,.int q],.rl (us.map bu)]=.ok (true,aA (if q<p then q else p) (if q>p then q else p) (fq (us.map turnT))):=by
 unfold cB cM;have z0:0<=sizeLine:=by decide
 have z2:2<=sizeLine:=by decide
 have z3:3<=sizeLine:=by decide
 simp only[EV,gO];rw[qV];refine dN bu (λr:Pr FV=>r=.ok (true,aA (if q<p then q else p) (if q>p then q else p) (fq (us.map turnT))))
  (λdone env=>∃a b c,env=[some (.sh,.tup [.int p,.int q]),some (.sh,.rl (us.map bu)),some (.ow,.rl ((done.map turnT).map bu)),a,b,c])
  ⟨none,none,none,rfl⟩ ?_ ?_
 ·rintro pre t post env hx ⟨a,b,c,rfl⟩
  have hpl:pre.length<16:=by have:=congrArg length hx;rw[aau,length_cons]at this;omega
  have z:((pre.map turnT).map bu).length<sizeLine:=by rw[aag,aag];unfold sizeLine;omega
  refine⟨[some (.sh,.tup [.int p,.int q]),some (.sh,.rl (us.map bu)),some (.ow,.rl (((pre++[t]).map turnT).map bu)),some (.sh,.int t.1),some (.sh,.int t.2.1),some (.sh,.int t.2.2)],?_,_,_,_,rfl⟩;have ea:((pre++[t]).map turnT).map bu=(pre.map turnT).map bu++[bu (turnT t)]:=by simp
  simp only[EV,mR,z3,z,ea];rfl
 ·rintro env ⟨a,b,c,rfl⟩;simp only[EV,cC qX,cC lO,z2,xF (show (us.map turnT).length<64 by rw[length_map];omega)];rfl
theorem yi{α:Type}(enc:α -> Val)(Q:bx->Prop)(x:α)(res:FV):∀(us:List α) (env:bx),Q env->x∈us ->
  (∀u∈us,∀env,Q env->(body (enc u) env=.ok (.rt res))\/(u≠x/\∃env',body (enc u) env=.ok (.nx env')/\Q env'))->jC body (us.map enc) env=.ok (.rt res)
 | u::us,env,q,hx,h=>by
  rw[aay,jC]
  rcases h u (aak ..) env q with e|⟨ne,env',e,q'⟩
  ·rw[e,aU]
  ·rw[e,aU]
   rcases aao.mp hx with hx|hx
   ·exact(ne hx.symm).elim
   ·exact yi enc Q x res us env' q' hx λv hv=>h v (aaf _ hv)
def nameV(t:T3):Val:=.int t.1
theorem BI{p q:Int}(hn:(ts.map (·.1)).Nodup)(ht:t∈ts):gr [aA p q ts,.int t.1]=.ok (true,fW (aR t)):=by
 unfold gr gQ aA;simp only[EV,cC qX,cC lO,gO];rw[yi bu (λenv=>∃a b c,env=[some (.sh,.tup [.tup [.int p,.int q],.rl (ts.map bu)]),some (.sh,.int t.1),a,b,c]) t (true,fW (aR t)) ts _ ⟨none,none,none,rfl⟩ ht]
 ·rfl
 ·rintro u hu env ⟨a,b,c,rfl⟩
  by_cases e:u.1=t.1
  ·left
   have:=AW hn u hu t ht e;subst this;simp only[EV,mR,decide_true,↓reduceIte];rfl
  ·right
   refine⟨λz=>e (by rw[z]),[some (.sh,.tup [.tup [.int p,.int q],.rl (ts.map bu)]),some (.sh,.int t.1),some (.sh,.int u.1),some (.sh,.int u.2.1),some (.sh,.int u.2.2)],?_,_,_,_,rfl⟩;simp only[EV,mR];simp[e]
def others(ts:List T3)(t:T3):List T3:=ts.filter λu=>!decide (u.1=t.1)
def yF(e:Int×Int)(a b:Int):Prop:=e=(a,b)\/e=(b,a)
theorem yF.way{a b:Int}(s:yF e a b)(h:e∈es):Way es a b:=by
 rcases s with rfl|rfl
 ·exact .fwd (.refl _) h
 ·exact .bwd (.refl _) h
theorem yF.ne{a b:Int}(s:yF e a b):e.1=e.2↔a=b:=by
 rcases s with rfl|rfl
 ·exact Iff.rfl
 ·exact eq_comm
theorem yF.map{a b:Int}(s:yF e a b)(g:Int->Int):yF (g e.1,g e.2) (g a) (g b):=by
 rcases s with rfl|rfl
 ·exact .inl rfl
 ·exact .inr rfl
theorem yF.trans{a b c d:Int}(s:yF e a b)(k:yF (a,b) c d):yF e c d:=by
 rcases k with k|k<;>(injection k with k1 k2;subst k1;subst k2)
 ·exact s
 ·exact s.symm
def jo(D:List (Int×Int))(f:Int->Int):Prop:=∀x y,f x=f y↔Way D x y
theorem yj(g:jo D f)(h1:∀e∈es,∃e'∈es',yF e' (f e.1) (f e.2))(h2:∀e'∈es',∃e∈es,yF e' (f e.1) (f e.2))(x y:Int):Way es' (f x) (f y)↔Way (es++D) x y:=by
 have up:∀{x y},f x=f y->Way (es++D) x y:=λe=>((g _ _).mp e).mono λe he=>aaG _ he;constructor
 ·have aux:∀u v,Way es' u v->∀x,u=f x->∃y,v=f y/\Way (es++D) x y:=by
   intro u v w
   induction w with
   |refl=>exact λx e=>⟨x,e,.refl _⟩
   |fwd _ m ih=>
    intro x e;obtain⟨y,e1,w1⟩:=ih x e;obtain⟨⟨a,b⟩,he,s⟩:=h2 _ m;have m':(a,b)∈es++D:=aaO _ he
    rcases s with s|s<;>(injection s with s1 s2;dsimp only at s1 s2)
    ·exact⟨b,s2,(w1.trans (up (e1.symm.trans s1))).fwd m'⟩
    ·exact⟨a,s2,(w1.trans (up (e1.symm.trans s1))).bwd m'⟩
   |bwd _ m ih=>
    intro x e;obtain⟨y,e1,w1⟩:=ih x e;obtain⟨⟨a,b⟩,he,s⟩:=h2 _ m;have m':(a,b)∈es++D:=aaO _ he
    rcases s with s|s<;>(injection s with s1 s2;dsimp only at s1 s2)
    ·exact⟨a,s1,(w1.trans (up (e1.symm.trans s2))).bwd m'⟩
    ·exact⟨b,s1,(w1.trans (up (e1.symm.trans s2))).fwd m'⟩
  intro w;obtain⟨z,e,w⟩:=aux _ _ w x rfl;exact w.trans (up e.symm)
 ·intro w
  have st:∀a b,(a,b)∈es++D->Way es' (f a) (f b):=λa b m=>by
   rcases aaD.mp m with m|m
   ·obtain⟨e',he',s⟩:=h1 _ m;exact s.way he'
   ·rw[(g a b).mpr (.fwd (.refl _) m)];exact .refl _
  induction w with
  |refl=>exact .refl _
  |fwd _ m ih=>exact ih.trans (st _ _ m)
  |bwd _ m ih=>exact ih.trans (st _ _ m).symm
theorem jo.nil:jo [] id:=λx y=>⟨λe=>by cases e;exact .refl _,λw=>w.const id λe he=>by simp at he⟩
def mZ(a b x:Int):Int:=if x=b then a else x
theorem jo.one(a b:Int):jo [(a,b)] (mZ a b):=λx y=>by
 have ab:Way [(a,b)] a b:=.fwd (.refl _) (by simp);constructor
 ·unfold mZ
  intro e;split at e<;>split at e
  ·rename_i h1 h2;rw[h1,h2];exact .refl _
  ·rename_i h1 h2;rw[h1,<-e];exact ab.symm
  ·rename_i h1 h2;rw[h2,e];exact ab
  ·rw[e];exact .refl _
 ·exact λw=>w.const (mZ a b) λe he=>by
   rw[aaq]at he;subst he;unfold mZ;simp
theorem jo.comp{a b c d:Int}(g:jo D f)(s:yF (c,d) (f a) (f b)):jo ((a,b)::D) λx=>mZ c d (f x):=λx y=>by
 rw[jo.one c d (f x) (f y),yj (es:=[(a,b)]) (es':=[(c,d)]) g (λe he=>⟨_,aaq.mpr rfl,by rw[aaq]at he;subst he;exact s⟩) (λe he=>⟨_,aaq.mpr rfl,by rw[aaq]at he;subst he;exact s⟩)];exact Iff.rfl
theorem uv(h:(ts.map (·.1)).Nodup)(t:T3):((others ts t).map (·.1)).Nodup:=h.sublist (List.filter_sublist.map _)
theorem zX{n:Nat}(h:ts.length<=n):(others ts t).length<=n:=aaE (List.length_filter_le ..) h
theorem kM(t:T3):yF (aR (turnT t)) t.2.1 t.2.2:=by
 unfold yF aR turnT;dsimp only;rw[Prod.mk.injEq,Prod.mk.injEq]
 split<;>split<;>omega
def ko(g:Int->Int)(t:T3):T3:=(t.1,g t.2.1,g t.2.2)
theorem Qm:lU (bu t)=true:=rfl
theorem rN{p q:Int}(h:ts.length<=14)(hn:(ts.map (·.1)).Nodup)(ht:t∈ts):gu [aA p q ts,.int t.1]=.ok (true,.rl ((others ts t).map bu)):=by
 have e1:=BI (p:=p) (q:=q) hn ht;unfold gu gR;have hc:ts.length<=100000:=by omega
 unfold aA at *;simp only[EV,lQ,e1,cC lO,gO,iJ,length_map,hc];rw[lP bu bu (λu=>!decide (u.1=t.1)) ts (λu hu=>by
  have i0:mF [] (bu u) (.int 0)=some (.int u.1):=rfl;simp only[EV,aW,i0,Qm]
  by_cases c:u.1=t.1<;>simp[c])]
 rfl
theorem Hi{p q:Int}(h:ts.length<=14)(hn:(ts.map (·.1)).Nodup)(ht:t∈ts):fQ [aA p q ts,.int t.1]=.ok (true,aA (if q<p then q else p) (if q>p then q else p) (fq ((others ts t).map turnT))):=by
 have e1:=rN (p:=p) (q:=q) h hn ht;have e2:=order_eq (p:=p) (q:=q) (us:=others ts t) (aaE (zX h) (by decide));unfold fQ eV;unfold aA at e1 |-;simp only[EV,ki,gS,e1,cC qX,e2];rfl
theorem Uz{a b x:Int}:CL [] (.dc [Sum.inl b] [.int a]) (.inl x)=some (if x=b then some (.int a) else none):=by
 show some (cJ [((Sum.inl b:Key),Val.int a)] (.inl x))=_;unfold cJ
 by_cases c:x=b
 ·subst c;simp
 ·have c':¬ b=x:=λz=>c z.symm;simp[c,c']
theorem Mt{a b x:Int}:(if x=b then some (Val.int a) else none).getD (.int x)=.int (mZ a b x):=by
 unfold mZ;split<;>rfl
theorem Mv:EH [] (.dc ks vs)=some ():=rfl
theorem Qn:mF [] (fW e) (.int 0)=some (.int e.1):=rfl
theorem Qo:mF [] (fW e) (.int 1)=some (.int e.2):=rfl
theorem Hj{p q:Int}(h:ts.length<=14)(hn:(ts.map (·.1)).Nodup)(ht:t∈ts):mV [aA p q ts,.int t.1]=.ok (true,aA (turnT (0,mZ t.2.1 t.2.2 p,mZ t.2.1 t.2.2 q)).2.1 (turnT (0,mZ t.2.1 t.2.2 p,mZ t.2.1 t.2.2 q)).2.2 (fq (((others ts t).map (ko (mZ t.2.1 t.2.2))).map turnT))):=by
 have e1:=rN (p:=p) (q:=q) h hn ht;have e0:=BI (p:=p) (q:=q) hn ht;have e2:=order_eq (p:=mZ t.2.1 t.2.2 p) (q:=mZ t.2.1 t.2.2 q) (us:=(others ts t).map (ko (mZ t.2.1 t.2.2))) (by rw[aag];exact aaE (zX h) (by decide));have z2:2<=sizeLine:=by decide
 have z3:3<=sizeLine:=by decide
 have z0:0<=sizeLine:=by decide
 unfold mV jY;unfold aA at e1 e0 |-;have ee:∀t:T3,(aR t).1=t.2.1/\(aR t).2=t.2.2:=λ_=>⟨rfl,rfl⟩;simp only[EV,nR,nS,e0,e1,Qn,Qo,ee,cC qX,cC lO,Bw,Mv,Uz,Mt,gO,z0,z2]
 repeat rw[qV]
 refine dN bu (λr:Pr FV=>r=.ok (true,.tup [.tup [.int (turnT (0,mZ t.2.1 t.2.2 p,mZ t.2.1 t.2.2 q)).2.1,.int (turnT (0,mZ t.2.1 t.2.2 p,mZ t.2.1 t.2.2 q)).2.2],.rl ((fq (((others ts t).map (ko (mZ t.2.1 t.2.2))).map turnT)).map bu)]))
  (λdone env=>∃m1 m2 a b c,env=[some (.sh,.tup [.tup [.int p,.int q],.rl (ts.map bu)]),some (.sh,.int t.1),some (m1,fW (aR t)),some (.nw,.dc [Sum.inl t.2.2] [.int t.2.1]),some (m2,.tup [.int (mZ t.2.1 t.2.2 p),.int (mZ t.2.1 t.2.2 q)]),some (.ow,.rl ((done.map (ko (mZ t.2.1 t.2.2))).map bu)),a,b,c])
  ⟨_,_,none,none,none,rfl⟩ ?_ ?_
 ·rintro pre u post env hx ⟨m1,m2,a,b,c,rfl⟩
  have hpl:pre.length<14:=by have:=congrArg length hx;rw[aau,length_cons]at this;have:=zX (t:=t) h;omega
  have z:((pre.map (ko (mZ t.2.1 t.2.2))).map bu).length<sizeLine:=by rw[aag,aag];unfold sizeLine;omega
  have ea:((pre++[u]).map (ko (mZ t.2.1 t.2.2))).map bu=(pre.map (ko (mZ t.2.1 t.2.2))).map bu++[bu (ko (mZ t.2.1 t.2.2) u)]:=by simp
  refine⟨_,?_,m1,m2,some (.sh,.int u.1),some (.sh,.int u.2.1),some (.sh,.int u.2.2),rfl⟩;simp only[EV,mR,Bw,Mv,Uz,Mt,z3,z,ea];rfl
 ·rintro env ⟨m1,m2,a,b,c,rfl⟩;simp only[EV,jD,e2];rfl
theorem uw(g:Int->Int)(x y:Int):turnT (0,g (turnT (0,x,y)).2.1,g (turnT (0,x,y)).2.2)=turnT (0,g x,g y):=by
 by_cases c:y<x
 ·have e1:(turnT (0,x,y)).2.1=y:=aae c;have e2:(turnT (0,x,y)).2.2=x:=aac (by dsimp only;omega);rw[e1,e2];unfold turnT;dsimp only;rw[Prod.mk.injEq,Prod.mk.injEq];refine⟨rfl,?_,?_⟩<;>split<;>split<;>omega
 ·have e1:(turnT (0,x,y)).2.1=x:=aac c
  have e2:(turnT (0,x,y)).2.2=y:=by
   show (if y>x then y else x)=y
   split<;>omega
  rw[e1,e2]
theorem vC:∀{l l':List T3},Bx l->Bx l'->l.Perm l'->l=l'
 |[],_,_,_,h=>(List.nil_perm.mp h).symm
 |x::r,[],_,_,h=>absurd h.length_eq (by simp)
 | x::r,y::r',u,u',h=>by
  unfold Bx at u u';rw[pairwise_cons]at u u';have e:x=y:=by
   rcases aao.mp (h.mem_iff.mp aak) with e|m
   ·exact e
   ·rcases aao.mp (h.mem_iff.mpr aak) with e|m'
    ·exact e.symm
    ·have:=u.1 y m';have:=u'.1 x m;omega
  subst e;rw[vC u.2 u'.2 h.cons_inv]
theorem Dq(h:l.Perm l')(hn:(l.map (·.1)).Nodup):fq l=fq l':=vC (jV l hn) (jV l' ((h.map _).nodup_iff.mp hn)) ((bq l).trans (h.trans (bq l').symm))
theorem Mw(h:Bx l):(l.map (·.1)).Nodup:=by
 unfold Bx at h;rw[List.Nodup,pairwise_map];exact h.imp λh=>by omega
theorem zY(h:Bx l):fq l=l:=vC (jV l (Mw h)) h (bq l)
theorem Dr(h:t.2.1<=t.2.2):turnT t=t:=by
 obtain⟨a,b,c⟩:=t;unfold turnT;dsimp only at *
 congr 2<;>split<;>omega
theorem Ld(g:Int->Int)(t:T3):turnT (ko g (turnT t))=turnT (ko g t):=by
 have:=uw g t.2.1 t.2.2;unfold turnT ko at *;dsimp only at *;rw[Prod.mk.injEq]at this;rw[Prod.mk.injEq];exact⟨rfl,this.2⟩
def gj(f:Int->Int)(Z:List T3):List T3:=fq ((Z.map (ko f)).map turnT)
theorem BJ(f:Int->Int)(Z:List T3):((Z.map (ko f)).map turnT).map (·.1)=Z.map (·.1):=by rw[aaN,aaN];rfl
theorem Le(h:(Z.map (·.1)).Nodup):((gj f Z).map (·.1)).Nodup:=by
 unfold gj;rw[((bq _).map _).nodup_iff,BJ];exact h
theorem m5:(gj f Z).length=Z.length:=by
 unfold gj;rw[(bq _).length_eq,aag,aag]
theorem rO(h:u∈Z):turnT (ko f u)∈gj f Z:=(bq _).mem_iff.mpr (aaU (aaU h))
theorem ux(hn:(Z.map (·.1)).Nodup)(e:w.1=u.1):fq (((others (gj f Z) w).map (ko g)).map turnT)=gj (λx=>g (f x)) (others Z u):=by
 have p1:(others (gj f Z) w).Perm (others ((Z.map (ko f)).map turnT) w):=(bq _).filter _;have e1:others ((Z.map (ko f)).map turnT) w=((others Z u).map (ko f)).map turnT:=by
  unfold others;rw[List.filter_map,List.filter_map]
  congr 2
  refine filter_congr λt _=>?_;show (!decide (t.1=w.1)) = !decide (t.1=u.1);rw[e]
 have e2:((((others Z u).map (ko f)).map turnT).map (ko g)).map turnT=((others Z u).map (ko λx=>g (f x))).map turnT:=by rw[aaN,aaN,aaN,aaN];refine aaT λt _=>?_;exact Ld g (ko f t)
 have p2:(((others (gj f Z) w).map (ko g)).map turnT).Perm (((others Z u).map (ko λx=>g (f x))).map turnT):=by rw[<-e2,<-e1];exact(p1.map _).map _
 refine Dq p2 ((p2.map _).nodup_iff.mpr ?_);rw[BJ];exact uv hn u
theorem Mx(Z:List T3):Z.map (ko id)=Z:=(aaT λt _=>rfl).trans (map_id _)
end K73
end
section
open PySem L2 Hv
namespace K73
def cellAt(ns:List Int)(k:Nat):Int:=ns.getD k 0
theorem jq(ns:List Int)(k:Nat):cA [.rl (ns.map .int),.int k]=.ok (true,.int (cellAt ns k)):=by
 unfold cA iN
 by_cases h:k<ns.length
 ·have e:fX (List.map Val.int ns) (k:Int)=some (.int (ns[k])):=pB (by simp[h])
  have h':(k:Int)<ns.length:=by omega
  simp only[EV,bX e,length_map,h',cellAt,List.getD,List.getElem?_eq_getElem h,Option.getD_some]
 ·have h':¬ (k:Int)<ns.length:=by omega
  have e:ns[k]?=none:=by simp;omega
  simp only[EV,length_map,h',cellAt,List.getD,e,getD_none]
theorem Ds(a b:Int)(h:0<=b/\b<67):ly a b=true:=by
 unfold ly;simp only[or_eq_true,and_eq_true,decide_eq_true_eq];right;omega
theorem zZ(a b:Int)(h:0<=a/\a<67):ly a b=true:=by
 unfold ly;simp only[or_eq_true,and_eq_true,decide_eq_true_eq];left;omega
theorem Hl{n:Int}(h:inR n=true):kX .range [.int n]=some ((List.range n.toNat).map λ(i:Nat)=>Val.int (0+(i:Int))):=by
 show (if inR n=true then some (cu 0 n.toNat) else none)=_;rw[aae h];rfl
def nY(a b c k:Int):Int:=(if 0<a%3 then 1+b%10 ^ 57 else 1)*(((1+a/3%66)*k+a/198%67)%67)+(if 0<a%3 then c%10 ^ 57 else 0)
theorem yk(a b c i j:Int)(hi:0<=i/\i<67)(hj:0<=j/\j<67)(e:nY a b c i=nY a b c j):i=j:=by
 unfold nY at e;have hs:∃st:Int,(if 0<a%3 then 1+b%10 ^ 57 else 1)=st/\1<=st:=by refine⟨_,rfl,?_⟩;split<;>omega
 obtain⟨st,e1,a1⟩:=hs;rw[e1]at e;have e2:st*(((1+a/3%66)*i+a/198%67)%67)=st*(((1+a/3%66)*j+a/198%67)%67):=by omega
 have e3:=Int.eq_of_mul_eq_mul_left (by omega:st≠0) e2;exact KH (by omega) hi hj e3
def rP(a b c:Int):List Val:=(List.range 20).map λi:Nat=>.int (nY a b c (0+(i:Int)))
theorem BK(a b c:Int)(i:Int)(h0:0<=i)(h1:i<20):fX (rP a b c) i=some (.int (nY a b c i)):=by
 obtain⟨k,rfl⟩:=Int.eq_ofNat_of_zero_le h0;refine pB ?_;unfold rP;rw[aaI,List.getElem?_range (by omega)];simp
theorem rQ(a b c:Int):∃f,fL [.int a,.int b,.int c]=.ok (f,.rl (rP a b c)):=by
 unfold fL eu;have m1:∀k:Int,ly (1+a/3%66) k=true:=λk=>zZ _ _ (by omega);have m2:∀x k:Int,ly x (((1+a/3%66)*k+a/198%67)%67)=true:=λx k=>Ds _ _ (by omega);have hR:inR 20=true:=by decide
 have hc:(20:Int).toNat<=100000:=by decide
 have e20:(20:Int).toNat=20:=rfl
 by_cases h:0<a%3
 ·have en:rP a b c=(List.range 20).map λi:Nat=>.int ((1+b%10 ^ 57)*(((1+a/3%66)*(0+(i:Int))+a/198%67)%67)+c%10 ^ 57):=by unfold rP nY;simp only[if_pos h]
  rw[en];simp only[EV,bW (show decide ((0:Int)<3)=true by decide),h,bW (show decide ((0:Int)<66)=true by decide),bW (show decide ((0:Int)<67)=true by decide),jk (show kT 3=true by decide),jk (show kT 198=true by decide),TM (show decide ((0:Int)<=57/\(57:Int)<=1000000/\(10:Int).natAbs<2 ^ 64)=true by decide),bW (show decide ((0:Int)<10 ^ (57:Int).toNat)=true by decide),Hl hR,iJ,length_map,List.length_range,hc];rw[fB (λi:Nat=>Val.int (0+(i:Int))) (λi:Nat=>.int ((1+b%10 ^ 57)*(((1+a/3%66)*(0+(i:Int))+a/198%67)%67)+c%10 ^ 57)) (List.range (20:Int).toNat) (λi hi=>by
   simp only[EV,aW,Bu (m1 _),Bu (m2 _ _),bW (show decide ((0:Int)<67)=true by decide)];rfl)]
  exact⟨_,rfl⟩
 ·have en:rP a b c=(List.range 20).map λi:Nat=>.int (1*(((1+a/3%66)*(0+(i:Int))+a/198%67)%67)+0):=by unfold rP nY;simp only[if_neg h]
  rw[en];simp only[EV,bW (show decide ((0:Int)<3)=true by decide),h,bW (show decide ((0:Int)<66)=true by decide),bW (show decide ((0:Int)<67)=true by decide),jk (show kT 3=true by decide),jk (show kT 198=true by decide),Hl hR,iJ,length_map,List.length_range,hc];rw[fB (λi:Nat=>Val.int (0+(i:Int))) (λi:Nat=>.int (1*(((1+a/3%66)*(0+(i:Int))+a/198%67)%67)+0)) (List.range (20:Int).toNat) (λi hi=>by
   simp only[EV,aW,Bu (m1 _),Bu (m2 _ _),bW (show decide ((0:Int)<67)=true by decide)])]
  exact⟨_,rfl⟩
theorem Qp{a b:Int}:iI .min [.rl [.int a,.int b]]=.ok (true,.int (min a b)):=rfl
theorem Qq{a b:Int}:iI .max [.rl [.int a,.int b]]=.ok (true,.int (max a b)):=rfl
theorem z5{p q:Int}{ts:List T3}(hl:ts.length<=63):gi [.rl [.int p,.int q],.rl (ts.map bu)]=.ok (true,aA (min p q) (max p q) (fq (ts.map turnT))):=by
 unfold gi jW;have z:2<=sizeLine:=by decide
 have z3:3<=sizeLine:=by decide
 have hc:ts.length<=100000:=by omega
 simp only[EV,gO,length_map,hc,iJ];rw[fB bu (λt=>bu (turnT t)) ts (λt ht=>by
  simp only[EV,mR,z3];rfl)]
 have em:ts.map (λt=>bu (turnT t))=(ts.map turnT).map bu:=by rw[aaN];rfl
 rw[em];simp only[EV,z,Qp,Qq,xF (show (ts.map turnT).length<64 by rw[length_map];omega)];rfl
structure yl (p q:Int) (ts:List T3):Prop where
 ord:p<=q
 len:ts.length<=7
 up:Bx ts
 ends:∀t∈ts,t.2.1<=t.2.2
end K73
end
section
open PySem L2 Hv
namespace K73
theorem z6(hx:PyData.strOk x=true)(hy:PyData.strOk y=true):cop [] .eq (.str x) (.str y)=some (decide (x=y)):=by
 show zu [] (.str x) (.str y)=_;unfold zu;rw[vj hx,vj hy];show some (PyData.eqv (.str x) (.str y))=_
 congr 1
def ak(s:Bool):Val:=if s then .str "linker" else .str "cutter"
theorem z7:∀a b:Bool,cop [] .eq (ak a) (ak b)=some (a==b)
 |true,true=>(z6 (bg _) (bg _)).trans (congrArg some (by decide))
 |true,false=>(z6 (bg _) (bg _)).trans (congrArg some (by decide))
 |false,true=>(z6 (bg _) (bg _)).trans (congrArg some (by decide))
 |false,false=>(z6 (bg _) (bg _)).trans (congrArg some (by decide))
theorem My(a:Bool):cop [] .eq (ak a) (.str "linker")=some a:=(z7 a true).trans (by cases a<;>rfl)
theorem jr:∀s,lU (ak s)=true
 |true=>rfl
 |false=>rfl
theorem ym{α:Type}(enc:α -> Val)(Q:bx->Prop)(P:α -> Prop)(res:FV):∀(us:List α) (env:bx),Q env ->
  (∀u∈us,∀env,Q env->(P u/\body (enc u) env=.ok (.rt res))\/(¬ P u/\∃env',body (enc u) env=.ok (.nx env')/\Q env')) ->
  ((∃u∈us,P u)/\jC body (us.map enc) env=.ok (.rt res))\/((¬ ∃u∈us,P u)/\∃env',jC body (us.map enc) env=.ok (.nx env')/\Q env')
 |[],env,q,h=>.inr ⟨λ⟨_,z,_⟩=>by simp at z,env,rfl,q⟩
 | u::us,env,q,h=>by
  rw[aay,jC]
  rcases h u (aak ..) env q with ⟨pu,e⟩|⟨np,env',e,q'⟩
  ·exact .inl ⟨⟨u,aak,pu⟩,by rw[e,aU]⟩
  ·rw[e,aU]
   rcases ym enc Q P res us env' q' λv hv=>h v (aaf _ hv) with ⟨⟨v,hv,pv⟩,e2⟩|⟨nx,e2⟩
   ·exact .inl ⟨⟨v,aaf _ hv,pv⟩,e2⟩
   ·refine .inr ⟨λ⟨v,hv,pv⟩=>?_,e2⟩
    rcases aao.mp hv with rfl|hv
    ·exact np pv
    ·exact nx ⟨v,hv,pv⟩
theorem aC{m:List Nat}(h:aQ Ψ m st env=.ok (.nx env')):aG Ψ m (.cons st r) env=aG Ψ m r env':=by
 rw[aG,h];rfl
theorem jo.of(g:jo D f)(h1:∀e∈D,e∈D')(h2:∀e∈D',e∈D):jo D' f:=λx y=>(g x y).trans ⟨Way.mono h1,Way.mono h2⟩
theorem Qs(h:a.length+b.length<=sizeLine):lN .add (.rl a) (.rl b)=.ok (dw (a++b),.rl (a++b)):=by
 show pg _ _=_;unfold pg;rw[aae (decide_eq_true h)]
theorem Mz{ms:List Nat}{i:Nat}{n:Nat}(h1:(t8 (.one i) #[e] B&&(stored (.one i)).all λi=>!ms.contains i)=true)(h2:dZ Ψ #[e] env=.ok [.int (n:Int)])(hn:n<=1000) :
  aQ Ψ ms (.for (.one i) .range #[e] B) env=jC (λx env=>pb (pl (cO (.one i) x env)) λenv'=>aG Ψ ms B env') ((List.range n).map λi:Nat=>Val.int (0+(i:Int))) env:=by
 have hR:inR (n:Int)=true:=by unfold inR;simp only[and_eq_true,decide_eq_true_eq];omega
 rw[aQ,h1,ji rfl,h2,aU,Hl hR,cF,aU,Int.toNat_natCast]
end K73
end
section
open PySem L2 Hv
namespace K73
theorem Dt{a b:Int}:fM [aA a b ts]=.ok (true,.bl (decide (a=b))):=by
 unfold fM eE aA;simp only[EV,cC qX,cC lO]
def Lf(a b:Int)(ts:List T3):Val:=open Classical in if a=b then .str "linker" else if Apart a b ts then .str "cutter" else .non
theorem uy{a b:Int}(h:ts.length<=14):∃f,dP [aA a b ts]=.ok (f,Lf a b ts):=by
 have e1:=Dt (a:=a) (b:=b) (ts:=ts);have e2:=Dp (p:=a) (q:=b) h;unfold dP eO Lf;generalize aA a b ts=N at *
 by_cases c1:a=b
 ·rw[aae c1];exact⟨true,by simp only[EV,cH,e1,c1,decide_true]⟩
 ·rw[aac c1]
  by_cases c2:Apart a b ts
  ·rw[aae c2];exact⟨true,by simp only[EV,cH,eY,e1,e2,c1,c2,decide_true,decide_false]⟩
  ·rw[aac c2];exact⟨true,by simp only[EV,cH,eY,e1,e2,c1,c2,decide_true,decide_false]⟩
theorem Ho(s:Bool):∃f,eW [ak s]=.ok (f,ak (!s)):=by
 have sl:=My s;unfold eW dB;cases s with
 |true=>exact⟨true,by simp only[EV,sl];rfl⟩
 |false=>exact⟨true,by simp only[EV,sl];rfl⟩
theorem Hq{a b:Int}(h:ts.length<=14):∃f,fF [aA a b ts]=.ok (f,.rl (ts.map nameV)):=by
 unfold fF fK aA;have hc:ts.length<=100000:=by omega
 simp only[EV,cC lO,gO,iJ,length_map,hc];rw[fB bu nameV ts (λt ht=>by
  have i0:mF [] (bu t) (.int 0)=some (nameV t):=rfl;simp only[EV,aW,i0];rfl)]
 exact⟨_,rfl⟩
def iS(p q:Int)(f:Int->Int)(Z:List T3):Val:=aA (turnT (0,f p,f q)).2.1 (turnT (0,f p,f q)).2.2 (gj f Z)
theorem BL(x y:Int):(turnT (0,x,y)).2.1=(turnT (0,x,y)).2.2↔x=y:=by
 unfold turnT;dsimp only;constructor<;>(intro h;revert h;split<;>split<;>intro h<;>omega)
theorem Lg(x y:Int):(turnT (0,x,y)).2.1<=(turnT (0,x,y)).2.2:=by
 unfold turnT;dsimp only;split<;>split<;>omega
theorem Hr{x y:Int}:Way es (turnT (0,x,y)).2.1 (turnT (0,x,y)).2.2↔Way es x y:=by
 by_cases c:y<x
 ·have e1:(turnT (0,x,y)).2.1=y:=aae c;have e2:(turnT (0,x,y)).2.2=x:=aac (by dsimp only;omega);rw[e1,e2];exact⟨Way.symm,Way.symm⟩
 ·have e1:(turnT (0,x,y)).2.1=x:=aac c
  have e2:(turnT (0,x,y)).2.2=y:=by
   show (if y>x then y else x)=y
   split<;>omega
  rw[e1,e2]
theorem yo{p q:Int}(g:jo D f):Apart (turnT (0,f p,f q)).2.1 (turnT (0,f p,f q)).2.2 (gj f Z)↔¬ Way (D++Z.map aR) p q:=by
 unfold Apart;rw[Hr,yj (es:=Z.map aR) g]
 ·exact not_congr ⟨Way.mono λe he=>by rw[aaD]at he |-;exact he.symm,Way.mono λe he=>by rw[aaD]at he |-;exact he.symm⟩
 ·intro e he;obtain⟨u,hu,rfl⟩:=aaP.mp he;exact⟨_,aaU (rO hu),kM (ko f u)⟩
 ·intro e' he;obtain⟨w,hw,rfl⟩:=aaP.mp he;obtain⟨v,hv,rfl⟩:=aaP.mp ((bq _).mem_iff.mp hw);obtain⟨u,hu,rfl⟩:=aaP.mp hv;exact⟨_,aaU hu,kM (ko f u)⟩
theorem Ht{p q:Int}(g:jo D f):Lf (turnT (0,f p,f q)).2.1 (turnT (0,f p,f q)).2.2 (gj f Z)=(open Classical in if Way D p q then ak true else if ¬ Way (D++Z.map aR) p q then ak false else .non):=by
 unfold Lf
 by_cases c1:Way D p q
 ·rw[aae c1,aae ((BL _ _).mpr ((g p q).mpr c1))];rfl
 ·rw[aac c1,aac λh=>c1 ((g p q).mp ((BL _ _).mp h))]
  by_cases c2:Way (D++Z.map aR) p q
  ·rw[aac λh=>(yo g).mp h c2,aac λh=>h c2]
  ·rw[aae ((yo g).mpr c2),aae c2];rfl
theorem nZ:∀(Z:List T3) (k:Nat) (h:k<Z.length),(Z.map (·.1)).Nodup->others Z Z[k]=Z.eraseIdx k
 | u::Z,0,h,hn=>by
  rw[aay,aaW]at hn;unfold others;rw[List.getElem_cons_zero,List.filter_cons,aac (by simp),List.eraseIdx_cons_zero,List.filter_eq_self];intro v hv;have:v.1≠u.1:=λe=>hn.1 (e▸aaU hv);simp[this]
 | u::Z,k+1,h,hn=>by
  rw[aay,aaW]at hn;have hk:k<Z.length:=by simpa using h
  have ih:=nZ Z k hk hn.2;unfold others at ih |-;rw[List.getElem_cons_succ,List.eraseIdx_cons_succ,List.filter_cons,aae,ih];have:u.1≠(Z[k]).1:=λe=>hn.1 (e▸aaU (aaJ hk));simp[this]
theorem Lh{p q:Int}(g:jo D f)(hn:(Z.map (·.1)).Nodup)(hl:Z.length<=14)(s:Bool)(hu:u∈Z) :
  ∃fl f',gx [iS p q f Z,ak s,.int u.1]=.ok (fl,iS p q f' (others Z u))/\jo (if s then D++[aR u] else D) f':=by
 have hw:turnT (ko f u)∈gj f Z:=rO hu;have hla:(gj f Z).length<=14:=by rw[m5];exact hl
 have hna:=Le (f:=f) hn;have en:(turnT (ko f u)).1=u.1:=rfl;have sl:=My s;cases s with
 |true=>
  have e:=Hj (p:=(turnT (0,f p,f q)).2.1) (q:=(turnT (0,f p,f q)).2.2) hla hna hw;rw[uw (mZ _ _),ux hn en]at e;refine⟨true,λx=>mZ (turnT (ko f u)).2.1 (turnT (ko f u)).2.2 (f x),?_,?_⟩
  ·unfold gx fE iS;rw[en]at e;generalize aA (turnT (0,f p,f q)).2.1 (turnT (0,f p,f q)).2.2 (gj f Z)=N at *;simp only[EV,sl,nU,e]
  ·rw[aae rfl]
   refine jo.of (g.comp (a:=u.2.1) (b:=u.2.2) (kM (ko f u))) (λe he=>?_) λe he=>?_
   ·rcases aao.mp he with he|he
    ·exact aaG _ (aaq.mpr he)
    ·exact aaO _ he
   ·rcases aaD.mp he with he|he
    ·exact aaf _ he
    ·rw[aaq.mp he];exact aak
 |false=>have e:=Hi (p:=(turnT (0,f p,f q)).2.1) (q:=(turnT (0,f p,f q)).2.2) hla hna hw;have o:=(Lg (f p) (f q));rw[aac (by omega),show (if (turnT (0,f p,f q)).2.2>(turnT (0,f p,f q)).2.1 then (turnT (0,f p,f q)).2.2 else (turnT (0,f p,f q)).2.1)=(turnT (0,f p,f q)).2.2 by split<;>omega]at e;have st:=ux (f:=f) (g:=id) (Z:=Z) (u:=u) (w:=turnT (ko f u)) hn en;rw[Mx]at st;rw[st]at e;refine⟨true,f,?_,by rw[aac aab];exact g⟩;unfold gx fE iS;rw[en]at e;generalize aA (turnT (0,f p,f q)).2.1 (turnT (0,f p,f q)).2.2 (gj f Z)=N at *;simp only[EV,sl,kj,e];rfl
def iE(p q:Int)(n:Nat)(g:aT):Prop:=∀(s:Bool) (D:List (Int×Int)) (f:Int->Int) (Z:List T3),jo D f->(Z.map (·.1)).Nodup->Z.length<=n->Z.length<=7->∃fl,g [iS p q f Z,ak s]=.ok (fl,ak (win p q n s D (Z.map aR)))
theorem kN{p q:Int}{n:Nat}{s:Bool}:(Way D p q->win p q n s D L=true)/\(¬ Way D p q->¬ Way (D++L) p q->win p q n s D L=false):=by
 cases n<;>exact⟨λh=>by rw[win,aae h],λh1 h2=>by rw[win,aac h1,aae h2]⟩
theorem m6{s w:Bool}{f:Bool}(h12:Ψ 12 [N]=.ok (f,ak w)):aG Ψ [] (.cons (.asg (.one 2) (.call 12 #[!0])) (.cons (.iff (.cmp .ntn (!2) (.cst .non)) #[.ret (!2)] .nil) T)) [some (.sh,N),some (.sh,ak s),none,none,none]=.ok (.rt (true,ak w)):=by
 have n1:mE (ak w)=false:=by cases w<;>rfl
 simp only[EV,h12,n1,jr,if_true]
theorem Li{s:Bool}{f:Bool}(h12:Ψ 12 [N]=.ok (f,.non)):aG Ψ [] (.cons (.asg (.one 2) (.call 12 #[!0])) (.cons (.iff (.cmp .ntn (!2) (.cst .non)) #[.ret (!2)] .nil) T)) [some (.sh,N),some (.sh,ak s),none,none,none]=aG Ψ [] T [some (.sh,N),some (.sh,ak s),some (bJ f .non,.non),none,none]:=by
 have n1:mE .non=true:=rfl;have n2:bJ f .non=.sh:=by cases f<;>rfl
 simp only[EV,h12,n1,n2,Bool.true_eq_false,if_false]
theorem Qt(p q:Int):iE p q 0 j6:=by
 intro s D f Z g hn hl hl7;have e0:Z=[]:=length_eq_zero_iff.mp (Nat.le_zero.mp hl);subst e0;obtain⟨fl,e⟩:=uy (a:=(turnT (0,f p,f q)).2.1) (b:=(turnT (0,f p,f q)).2.2) (ts:=gj f []) (by rw[m5];decide);rw[Ht g]at e
 by_cases c1:Way D p q
 ·rw[aae c1]at e;refine⟨true,?_⟩;rw[kN.1 c1];show pb (aG (ai Df) [] b9 [some (.sh,iS p q f []),some (.sh,ak s),none,none,none]) _=_;unfold b9;rw[m6 (f:=fl) (w:=true) (by rw[eZ];exact e)];rfl
 ·have c2:¬ Way (D++([]:List T3).map aR) p q:=by rw[map_nil,append_nil];exact c1
  rw[aac c1,aae c2]at e;refine⟨true,?_⟩;rw[kN.2 c1 c2];show pb (aG (ai Df) [] b9 [some (.sh,iS p q f []),some (.sh,ak s),none,none,none]) _=_;unfold b9;rw[m6 (f:=fl) (w:=false) (by rw[eZ];exact e)];rfl
def bB(j:Nat):dF:=#[.iff (.cmp .eq (.call j #[.call 21 #[!0,!1,!4],!3]) (!1)) #[.ret (!1)] .nil]
def bF(j:Nat):IS:=(.for (.one 4) .seq #[.call 14 #[!0]] (bB j))
theorem Lj(j:Nat):bD j=.cons (.asg (.one 2) (.call 12 #[!0])) #[.iff (.cmp .ntn (!2) (.cst .non)) #[.ret (!2)] .nil,.asg (.one 3) (.call 13 #[!1]),bF j,.ret (!3)]:=rfl
theorem MA{ms:List Nat}{i:Nat}(h1:(t8 (.one i) #[e] B&&(stored (.one i)).all λi=>!ms.contains i)=true)(h2:dZ Ψ #[e] env=.ok [.rl vs]) :
  aQ Ψ ms (.for (.one i) .seq #[e] B) env=jC (λx env=>pb (pl (cO (.one i) x env)) λenv'=>aG Ψ ms B env') vs env:=by
 rw[aQ,h1,ji rfl,h2,aU,gO,cF,aU]
theorem fG{j n:Nat}{p q:Int}(h12:Ψ 12=dP)(h13:Ψ 13=eW)(h14:Ψ 14=fF)(h21:Ψ 21=gx)(hj:iE p q n (Ψ j)):iE p q (n+1) (cS Ψ 5 (bD j)):=by
 intro s D f Z g hn hl hl7;obtain⟨fl,e⟩:=uy (a:=(turnT (0,f p,f q)).2.1) (b:=(turnT (0,f p,f q)).2.2) (ts:=gj f Z) (by rw[m5];omega);rw[Ht g,<-h12]at e;have e:Ψ 12 [iS p q f Z]=_:=e;refine⟨true,?_⟩;show pb (aG Ψ [] (bD j) [some (.sh,iS p q f Z),some (.sh,ak s),none,none,none]) _=_;rw[Lj]
 by_cases c1:Way D p q
 ·rw[aae c1]at e;rw[kN.1 c1,m6 e];rfl
 by_cases c2:Way (D++Z.map aR) p q
 ·rw[aac c1,aac λh=>h c2]at e
  rw[Li e];have hw:win p q (n+1) s D (Z.map aR)=(open Classical in if ∃k,∃h:k<(Z.map aR).length,win p q n (!s) (if s then D++[(Z.map aR)[k]] else D) ((Z.map aR).eraseIdx k)=s then s else !s):=by rw[win,aac c1,aac λh=>h c2]
  obtain⟨f1,eo⟩:=Ho s;obtain⟨f2,en⟩:=Hq (a:=(turnT (0,f p,f q)).2.1) (b:=(turnT (0,f p,f q)).2.2) (ts:=gj f Z) (by rw[m5];omega);have en:fF [iS p q f Z]=_:=en;have hm:bJ f1 (ak (!s))=.sh:=by cases s<;>cases f1<;>rfl
  have q3:∀a:Option (Mk×Val),aQ Ψ [] (.asg (.one 3) (.call 13 #[!1])) [some (.sh,iS p q f Z),some (.sh,ak s),a,none,none]=.ok (.nx [some (.sh,iS p q f Z),some (.sh,ak s),a,some (.sh,ak (!s)),none]):=λa=>by
   simp only[EV,h13,eo,hm]
  rw[aC (q3 _)];have el:∀a:Option (Mk×Val),dZ Ψ #[.call 14 #[!0]] [some (.sh,iS p q f Z),some (.sh,ak s),a,some (.sh,ak (!s)),none]=.ok [.rl ((gj f Z).map nameV)]:=λa=>by
   simp only[EV,h14,en]
  have hb:∀k:Nat,∀h:k<Z.length,∀a b:Option (Mk×Val),aG Ψ [] (bB j) [some (.sh,iS p q f Z),some (.sh,ak s),a,some (.sh,ak (!s)),some (.sh,.int (Z[k]).1)]=if win p q n (!s) (if s then D++[aR Z[k]] else D) ((Z.map aR).eraseIdx k)=s then .ok (.rt (true,ak s)) else .ok (.nx [some (.sh,iS p q f Z),some (.sh,ak s),a,some (.sh,ak (!s)),some (.sh,.int (Z[k]).1)]):=by
   intro k hk a b;obtain⟨f3,f',ed,g'⟩:=Lh (p:=p) (q:=q) g hn (by omega) s (aaJ hk);rw[nZ Z k hk hn]at ed;have hle:(Z.eraseIdx k).length=Z.length-1:=List.length_eraseIdx_of_lt hk;obtain⟨f4,er⟩:=hj (!s) _ f' (Z.eraseIdx k) g' (by rw[<-nZ Z k hk hn];exact uv hn _) (by omega) (by omega);have em:(Z.eraseIdx k).map aR=(Z.map aR).eraseIdx k:=vA _ _ _;rw[em]at er;have sq:=z7 (win p q n (!s) (if s then D++[aR Z[k]] else D) ((Z.map aR).eraseIdx k)) s;generalize win p q n (!s) (if s then D++[aR Z[k]] else D) ((Z.map aR).eraseIdx k)=w at *;generalize iS p q f' (Z.eraseIdx k)=N' at *;generalize iS p q f Z=N at *;unfold bB;have hq:Mc Ψ (.cmp .eq (.call j #[.call 21 #[!0,!1,!4],!3]) (!1)) [some (.sh,N),some (.sh,ak s),a,some (.sh,ak (!s)),some (.sh,.int (Z[k]).1)]=.ok (true,.bl (w==s)):=by simp only[EV,h21,ed,er,sq]
   rw[aG,aQ,hq,aU];show pb (pb (pl (cR [] (.bl (w==s)))) _) _=_;rw[qW,cF,aU]
   by_cases c:w=s
   ·rw[aae c,aae (by rw[c];exact beq_self_eq_true s)];simp only[EV,jr]
   ·rw[aac c,aac (by rw[beq_iff_eq];exact c),aG,aU];rfl
  rw[aG];unfold bF;rw[MA rfl (el _)];have pos:∀w∈gj f Z,∃k,∃h:k<Z.length,w.1=(Z[k]).1:=λw hw=>by
   obtain⟨v,hv,rfl⟩:=aaP.mp ((bq _).mem_iff.mp hw);obtain⟨u,hu,rfl⟩:=aaP.mp hv;obtain⟨k,hk,rfl⟩:=getElem_of_mem hu;exact⟨k,hk,rfl⟩
  have uni:∀i k (hi:i<Z.length) (hk:k<Z.length),(Z[i]).1=(Z[k]).1->i=k:=λi k hi hk e=>by
   have nd:=List.pairwise_iff_getElem.mp hn;have l:∀i,i<Z.length->i<(Z.map (·.1)).length:=λi h=>by rw[aag];exact h
   rcases Nat.lt_trichotomy i k with h|h|h
   ·have:=nd i k (l i hi) (l k hk) h;rw[aa1,aa1]at this;exact absurd e this
   ·exact h
   ·have:=nd k i (l k hk) (l i hi) h;rw[aa1,aa1]at this;exact absurd e.symm this
  rcases ym nameV (body:=λx env=>pb (pl (cO (.one 4) x env)) λenv'=>aG Ψ [] (bB j) env') (λenv=>∃a b:Option (Mk×Val),env=[some (.sh,iS p q f Z),some (.sh,ak s),a,some (.sh,ak (!s)),b]) (λw=>∃k,∃h:k<Z.length,w.1=(Z[k]).1/\win p q n (!s) (if s then D++[aR Z[k]] else D) ((Z.map aR).eraseIdx k)=s) (true,ak s) (gj f Z) _ ⟨_,none,rfl⟩ (λw hw env he=>by
    obtain⟨a,b,rfl⟩:=he;obtain⟨k,hk,ek⟩:=pos w hw;have e:=hb k hk a none;rw[aW,cF,aU];unfold nameV;rw[ek];simp only[List.set_cons_succ,List.set_cons_zero]
    by_cases cw:win p q n (!s) (if s then D++[aR Z[k]] else D) ((Z.map aR).eraseIdx k)=s
    ·rw[aae cw]at e;exact .inl ⟨⟨k,hk,rfl,cw⟩,e⟩
    ·rw[aac cw]at e;refine .inr ⟨λ⟨i,hi,ei,ci⟩=>cw ?_,_,e,_,_,rfl⟩;have:=uni i k hi hk ei.symm;subst this;exact ci) with ⟨⟨w,YL,k,hk,ek,cw⟩,e⟩|⟨nx,env',e,a,b,rfl⟩
  ·rw[e,aU,hw,aae ⟨k,by rw[aag];exact hk,by rw[aa1];exact cw⟩];rfl
  ·rw[e,aU,hw,aac]
   ·simp only[EV,jr]
   ·rintro⟨k,hk,cw⟩;rw[aag]at hk;rw[aa1]at cw;exact nx ⟨turnT (ko f Z[k]),rO (aaJ hk),k,hk,rfl,cw⟩
 ·rw[aac c1,aae c2]at e;rw[kN.2 c1 c2,m6 e];rfl
theorem Hu(hup:Bx ts)(ho:∀t∈ts,t.2.1<=t.2.2):gj id ts=ts:=by
 unfold gj;have e:(ts.map (ko id)).map turnT=ts:=by rw[Mx];exact(aaT λt ht=>Dr (ho t ht)).trans (map_id _)
 rw[e,zY hup]
theorem Qu(p q:Int):iE p q 7 ie:=by
 have w1:iE p q 1 j7:=fG (Ψ:=ai KS) (j:=22) rfl rfl rfl rfl (Qt p q);have w2:iE p q 2 j8:=fG (Ψ:=ai KU) (j:=23) rfl rfl rfl rfl w1;have w3:iE p q 3 j9:=fG (Ψ:=ai KW) (j:=24) rfl rfl rfl rfl w2;have w4:iE p q 4 kc:=fG (Ψ:=ai KY) (j:=25) rfl rfl rfl rfl w3;have w5:iE p q 5 kg:=fG (Ψ:=ai KZ) (j:=26) rfl rfl rfl rfl w4;have w6:iE p q 6 kh:=fG (Ψ:=ai K0) (j:=27) rfl rfl rfl rfl w5;exact fG (Ψ:=ai K1) (j:=28) rfl rfl rfl rfl w6
end K73
end
section
open PySem L2 Hv
namespace K73
theorem rR{p q:Int}(ok:yl p q ts)(s:Bool):∃f,cG [aA p q ts,ak s]=.ok (f,ak (win p q 7 s [] (ts.map aR))):=by
 obtain⟨f,e⟩:=Qu p q s [] id ts jo.nil (Mw ok.up) ok.len ok.len;have e0:iS p q id ts=aA p q ts:=by unfold iS;rw[Hu ok.up ok.ends];have:=ok.ord;show aA (if q<p then q else p) (if q>p then q else p) ts=_;rw[aac (by omega),show (if q>p then q else p)=q by split<;>omega]
 rw[e0]at e;refine⟨f,?_⟩;have hl:¬ (ts.length:Int)>7:=by have:=ok.len;omega
 have el:iI .len [.rl (ts.map bu)]=.ok (true,.int (ts.length:Int)):=by rw[Bv,aag]
 have hq:Mc (ai xN) (.cmp .gt (.blt .len #[.idx (!0) (¬1)]) (.con "MOST_TIES_TRIED" (.int 7))) [some (.sh,aA p q ts),some (.sh,ak s)]=.ok (true,.bl false):=by unfold aA;simp only[EV,cC lO,length_map,hl,decide_false]
 unfold cG iO;show pb (aG (ai xN) [] #[.iff _ _ _,.ret _] [some (.sh,aA p q ts),some (.sh,ak s)]) _=_;rw[aG,aQ,hq,aU];show pb (pb (pb (pl (cR [] (.bl false))) _) _) _=_;rw[qW,cF,aU,aac aab,aG,aU];generalize aA p q ts=N at *;simp only[EV,lR,e]
def rS(a b:Bool):Val:=if a=b then ak a else .str "first"
theorem Hw{p q:Int}(ok:yl p q ts):∃f,bM [aA p q ts]=.ok (f,rS (win p q 7 true [] (ts.map aR)) (win p q 7 false [] (ts.map aR))):=by
 obtain⟨f1,e1⟩:=rR ok true;obtain⟨f2,e2⟩:=rR ok false;generalize win p q 7 true [] (ts.map aR)=a at *;generalize win p q 7 false [] (ts.map aR)=b at *;have e1:cG [aA p q ts,.str "linker"]=.ok (f1,ak a):=e1;have e2:cG [aA p q ts,.str "cutter"]=.ok (f2,ak b):=e2;generalize aA p q ts=N at *;have sq:=z7 b a;have q1:aQ (ai sI) [] (.asg (.one 1) (.call 30 #[!0,.cst (.str "linker")])) [some (.sh,N),none]=.ok (.nx [some (.sh,N),some (bJ f1 (ak a),ak a)]):=by simp only[EV,dJ,e1]
 have hq:Mc (ai sI) (.cmp .eq (.call 30 #[!0,.cst (.str "cutter")]) (!1)) [some (.sh,N),some (bJ f1 (ak a),ak a)]=.ok (true,.bl (b==a)):=by simp only[EV,dJ,e2,sq]
 refine⟨true,?_⟩;unfold bM cW;show pb (aG (ai sI) [] #[.asg _ _,.iff _ _ _,.ret _] [some (.sh,N),none]) _=_;rw[aC q1,aG,aQ,hq,aU];show pb (pb (pb (pl (cR [] (.bl (b==a)))) _) _) _=_;rw[qW,cF,aU];unfold rS
 by_cases c:a=b
 ·subst c;rw[aae rfl,aae (beq_self_eq_true a)];simp only[EV,jr]
 ·rw[aac c,aac (by rw[beq_iff_eq];exact λh=>c h.symm),aG,aU];simp only[EV,aU]
theorem uz{p q:Int}(h:7<ts.length)(s:Bool):cG [aA p q ts,ak s]=.exc 7 []:=by
 have hl:(ts.length:Int)>7:=by omega
 have el:iI .len [.rl (ts.map bu)]=.ok (true,.int (ts.length:Int)):=by rw[Bv,aag]
 have hq:Mc (ai xN) (.cmp .gt (.blt .len #[.idx (!0) (¬1)]) (.con "MOST_TIES_TRIED" (.int 7))) [some (.sh,aA p q ts),some (.sh,ak s)]=.ok (true,.bl true):=by unfold aA;simp only[EV,cC lO,length_map,hl,decide_true]
 unfold cG iO;show pb (aG (ai xN) [] #[.iff _ _ _,.ret _] [some (.sh,aA p q ts),some (.sh,ak s)]) _=_;rw[aG,aQ,hq,aU];show pb (pb (pb (pl (cR [] (.bl true))) _) _) _=_;rw[qW,cF,aU,aae rfl,aG,aQ,bR,vc];rfl
theorem Du{p q:Int}(h:7<ts.length):bM [aA p q ts]=.exc 7 []:=by
 have e1:cG [aA p q ts,.str "linker"]=.exc 7 []:=uz h true;unfold bM cW;show pb (aG (ai sI) [] (.cons (.asg _ _) _) [some (.sh,aA p q ts),none]) _=_;have q1:bR (ai sI) (.call 30 #[!0,.cst (.str "linker")]) [some (.sh,aA p q ts),none]=.exc 7 []:=by generalize aA p q ts=N at *;simp only[EV,dJ,e1]
 rw[aG,aQ];show pb (pb (pb (bR (ai sI) (.call 30 #[!0,.cst (.str "linker")]) [some (.sh,aA p q ts),none]) _) _) _=_;rw[q1];rfl
def yG:Option Bool->Val
 |none=>.str ""
 |some s=>ak s
def Qv(p q:Int)(ts:List T3):Option Bool->Val
 |none=>rS (win p q 7 true [] (ts.map aR)) (win p q 7 false [] (ts.map aR))
 |some s=>ak (win p q 7 s [] (ts.map aR))
theorem BN(x y:Str):PyData.eqv (.str x) (.str y)=decide (x=y):=rfl
theorem BO(N:Val):aJ [N,.str ""]=oz 7 (bM [N]):=by
 show pg (PyData.strOk "") (oz 7 (if PyData.eqv (.str "") (.str "")=true then bM [N] else cG [N,.str ""]))=_;rw[ji (bg ""),aae (by rw[BN];exact decide_eq_true rfl)]
theorem BP(N:Val)(s:Bool):aJ [N,ak s]=oz 7 (cG [N,ak s]):=by
 have key:∀x:Str,PyData.strOk x=true->x ≠ "" -> aJ [N,.str x]=oz 7 (cG [N,.str x]):=λx h1 h2=>by
  show pg (PyData.strOk x) (oz 7 (if PyData.eqv (.str x) (.str "")=true then bM [N] else cG [N,.str x]))=_;rw[ji h1,aac (by rw[BN];simpa using h2)]
 cases s with
 |true=>exact key "linker" (bg _) (by decide)
 |false=>exact key "cutter" (bg _) (by decide)
theorem rT{p q:Int}(ok:yl p q ts)(o:Option Bool):∃f,aJ [aA p q ts,yG o]=.ok (f,.tup [Qv p q ts o,.rl []]):=by
 cases o with
 |none=>obtain⟨f,e⟩:=Hw ok;exact⟨f,by show aJ [aA p q ts,.str ""]=_;rw[BO,e];rfl⟩
 |some s=>obtain⟨f,e⟩:=rR ok s;exact⟨f,by show aJ [aA p q ts,ak s]=_;rw[BP,e];rfl⟩
theorem Dv{p q:Int}(h:7<ts.length)(o:Option Bool):aJ [aA p q ts,yG o]=.ok (true,.tup [.str "",.rl [.bl true,.bl true,.bl false]]):=by
 cases o with
 |none=>show aJ [aA p q ts,.str ""]=_;rw[BO,Du h];rfl
 |some s=>show aJ [aA p q ts,ak s]=_;rw[BP,uz h s];rfl
end K73
end
section
open PySem L2 Hv
namespace K73
def pR(z:Nat):Val:=.int (z:Int)
structure pe (b:Bool) (M:Nat) (zs:List Nat):Prop where
 sum:zs.sum<=M
 le:∀z∈zs,z<=3
 pos:b=true->∀z∈zs,1<=z
theorem pe.snoc{b:Bool}{M z:Nat}{zs:List Nat}(h:pe b M zs)(h1:zs.sum+z<=M)(h2:z<=3)(h3:b=true->1<=z):pe b M (zs++[z]) where
 sum:=by rw[sum_append,sum_singleton];exact h1
 le x hx:=by
  rcases aaD.mp hx with hx|hx
  ·exact h.le x hx
  ·rw[aaq.mp hx];exact h2
 pos hb x hx:=by
  rcases aaD.mp hx with hx|hx
  ·exact h.pos hb x hx
  ·rw[aaq.mp hx];exact h3 hb
theorem Hx(ms:List Int)(hm:ms.length<=5)(M:Nat)(hM:M<=7)(b:Bool):∃f zs,dO [.rl (ms.map .int),.int (M:Int),.bl b]=.ok (f,.rl (zs.map pR))/\pe b M zs/\zs.length<=5:=by
 unfold dO gP;have z0:0<=sizeLine:=by decide
 simp only[EV,gO,z0]
 repeat rw[qV]
 refine dN Val.int (λr:Pr FV=>∃f zs,r=.ok (f,.rl (zs.map pR))/\pe b M zs/\zs.length<=5)
  (λdone env=>∃(zs:List Nat) (a c:Option (Mk×Val)),env=[some (.sh,.rl (ms.map .int)),some (.sh,.int (M:Int)),some (.sh,.bl b),some (.ow,.rl (zs.map pR)),some (.sh,.int ((M-zs.sum:Nat):Int)),a,c]/\pe b M zs/\zs.length<=done.length)
  ?_ ?_ ?_
 ·exact⟨[],none,none,rfl,⟨aaX _,λ_ h=>by simp at h,λ_ _ h=>by simp at h⟩,aam _⟩
 ·rintro pre c post env hx ⟨zs,x1,x2,rfl,ok,hl⟩
  have hpl:pre.length<5:=by have:=congrArg length hx;rw[aau,length_cons]at this;omega
  have zz:(zs.map pR).length<sizeLine:=by rw[aag];unfold sizeLine;omega
  have ad:∀(z:Nat) (w:Int),(z:Int)=w->w<=((M-zs.sum:Nat):Int)->z<=3->(b=true->1<=z)->∃zs':List Nat,zs'.map pR=zs.map pR++[.int w]/\((M-zs.sum:Nat):Int)-w=((M-zs'.sum:Nat):Int)/\pe b M zs'/\zs'.length<=(pre++[c]).length:=λz w e1 e2 e3 e4=>by
   have:=ok.sum;refine⟨zs++[z],by rw[aaM,<-e1];rfl,?_,ok.snoc (by omega) e3 e4,by simp;omega⟩;rw[sum_append,sum_singleton];omega
  have st:pe b M zs/\zs.length<=(pre++[c]).length:=⟨ok,by simp;omega⟩;have m3:0<=c%3/\c%3<3:=by omega
  by_cases c1:c%17=11/\b=false
  ·obtain⟨c1,rfl⟩:=c1
   obtain⟨zs',e1,e2,ok',l'⟩:=ad 0 0 rfl (by omega) (by omega) (λh=>by cases h);have c2:(0:Int)<=((M-zs.sum:Nat):Int):=by omega
   refine⟨_,?_,zs',some (.sh,.int c),some (.sh,.int 0),rfl,ok',l'⟩;simp only[EV,aW,bW (show decide ((0:Int)<3)=true by decide),bW (show decide ((0:Int)<17)=true by decide),c1,c2,zz,e1,e2]
  ·by_cases c2:1+c%3<=((M-zs.sum:Nat):Int)
   ·obtain⟨zs',e1,e2,ok',l'⟩:=ad (1+c%3).toNat (1+c%3) (by omega) c2 (by omega) (λh=>by omega)
    refine⟨_,?_,zs',some (.sh,.int c),some (.sh,.int (1+c%3)),rfl,ok',l'⟩;cases b with
    |true=>
     by_cases c3:c%17=11
     ·simp only[EV,aW,bW (show decide ((0:Int)<3)=true by decide),bW (show decide ((0:Int)<17)=true by decide),c2,c3,zz,e1,e2,Bool.not_true]
     ·simp only[EV,aW,bW (show decide ((0:Int)<3)=true by decide),bW (show decide ((0:Int)<17)=true by decide),c2,c3,zz,e1,e2,Bool.not_true]
    |false=>have c3:¬ c%17=11:=λz=>c1 ⟨z,rfl⟩;simp only[EV,aW,bW (show decide ((0:Int)<3)=true by decide),bW (show decide ((0:Int)<17)=true by decide),c2,c3,zz,e1,e2]
   ·refine⟨_,?_,zs,some (.sh,.int c),some (.sh,.int (1+c%3)),rfl,st⟩
    cases b with
    |true=>
     by_cases c3:c%17=11
     ·simp only[EV,aW,bW (show decide ((0:Int)<3)=true by decide),bW (show decide ((0:Int)<17)=true by decide),c2,c3,zz,Bool.not_true]
     ·simp only[EV,aW,bW (show decide ((0:Int)<3)=true by decide),bW (show decide ((0:Int)<17)=true by decide),c2,c3,zz,Bool.not_true]
    |false=>have c3:¬ c%17=11:=λz=>c1 ⟨z,rfl⟩;simp only[EV,aW,bW (show decide ((0:Int)<3)=true by decide),bW (show decide ((0:Int)<17)=true by decide),c2,c3,zz]
 ·rintro env ⟨zs,x1,x2,rfl,ok,hl⟩
  refine⟨dw (zs.map pR),zs,?_,ok,by omega⟩;simp only[EV,aU]
  try rfl
end K73
end
section
open PySem L2 Hv
namespace K73
def gV(G:List Int):Val:=.rl (G.map .int)
def Qw(s:Bool):Key:=if s then .inr "linker" else .inr "cutter"
theorem BQ:∀s,keyOf (ak s)=some (Qw s)
 |true=>rfl
 |false=>rfl
theorem Lk:∀b,Qw (!b)≠Qw b
 |true=>by decide
 |false=>by decide
open Classical in
def z8(b:Bool)(gs:List (List Int)):Val:=if (∃G∈gs,G.length=0)\/1<(gs.countP λG=>G.length==1) then ak b else if (gs.countP λG=>G.length==1)=0 then ak (!b) else .str "first"
theorem z9(xs:List Int)(h:xs.length<64):∃f v,iI .sorted [.rl (xs.map .int)]=.ok (f,v):=by
 have e:fh (xs.map .int)=some ((sortI xs).map .int):=by unfold fh;rw[aae (by rw[aag];exact h),ints_map]
 show ∃f v,pb (pl (fh (xs.map .int))) _=_;rw[e];exact⟨_,_,rfl⟩
theorem yq(G:List Int):iI .len [gV G]=.ok (true,.int (G.length:Int)):=by unfold gV;rw[Bv,aag]
theorem Hy{ms:List Nat}{i j:Nat}(h1:(t8 (.one i) #[.var j] B&&(stored (.one i)).all λi=>!ms.contains i)=true)(h2:env[j]?=some (some (m,.rl vs)))(hm:m=m) :
  aQ Ψ ms (.for (.one i) .seq #[.var j] B) env=jC (λx env=>pb (pl (cO (.one i) x env)) λenv'=>aG Ψ ms B env') vs env:=by
 rw[aQ,h1,ji rfl,dZ,dZ,aae (show isVar (.var j)=true from rfl)];have hv:jb env (.var j)=some (lU (.rl vs),.rl vs):=by unfold jb;dsimp only;rw[h2]
 rw[hv];rfl
theorem Qx(b:Bool)(gs:List (List Int))(hl:gs.length<=5)(hs:gs.flatten.length<=7):∃f D,ic [.rl (gs.map gV),.rl [],ak (!b),ak b]=.ok (f,.tup [z8 b gs,D]):=by
 have hc:gs.length<=100000:=by omega
 have z0:0<=sizeLine:=by decide
 have z2:2<=sizeLine:=by decide
 have c4:∀Ψ:Nat->List Val->Pr FV,∀x5 x6 x7:Option (Mk×Val),aQ Ψ [6] (.asg (.one 4) (.comp ["_law_group"] [none] (.one 0) .seq #[!0] .no (.blt .len #[!0]))) [some (.sh,.rl (gs.map gV)),some (.sh,.rl []),some (.sh,ak (!b)),some (.sh,ak b),none,x5,x6,x7]=.ok (.nx [some (.sh,.rl (gs.map gV)),some (.sh,.rl []),some (.sh,ak (!b)),some (.sh,ak b),some (bJ true (.rl ((gs.map λG=>(G.length:Int)).map .int)),.rl ((gs.map λG=>(G.length:Int)).map .int)),x5,x6,x7]):=fun Ψ x5 x6 x7=>by
  simp only[EV,gO,iJ,length_map,hc];rw[fB gV (λG=>.int (G.length:Int)) gs (λG hG=>by
   simp only[EV,aW,yq])]
  rw[aaN];rfl
 have c5:∀Ψ:Nat->List Val->Pr FV,∀x4 x6 x7:Option (Mk×Val),aQ Ψ [6] (.asg (.one 5) (.comp ["_law_group"] [none] (.one 0) .seq #[!0] (.cmp .eq (.blt .len #[!0]) (¬1)) (.idx (!0) (¬0)))) [some (.sh,.rl (gs.map gV)),some (.sh,.rl []),some (.sh,ak (!b)),some (.sh,ak b),x4,none,x6,x7]=.ok (.nx [some (.sh,.rl (gs.map gV)),some (.sh,.rl []),some (.sh,ak (!b)),some (.sh,ak b),x4,some (bJ true (.rl (((gs.filter λG=>G.length==1).map λG=>G.headD 0).map .int)),.rl (((gs.filter λG=>G.length==1).map λG=>G.headD 0).map .int)),x6,x7]):=fun Ψ x4 x6 x7=>by
  simp only[EV,gO,iJ,length_map,hc];rw[lP gV (λG=>.int (G.headD 0)) (λG=>G.length==1) gs (λG hG=>by
   by_cases c:G.length=1
   ·have c':(G.length:Int)=1:=by omega
    obtain⟨a,rfl⟩:=List.length_eq_one_iff.mp c;have i0:mF [] (gV [a]) (.int 0)=some (.int a):=rfl;simp only[EV,aW,yq,c',i0];rfl
   ·have c':¬ (G.length:Int)=1:=by omega
    simp only[EV,aW,yq,c'];simp[c])]
  rw[aaN];rfl
 have hmem:(0:Int)∈(gs.map λG=>(G.length:Int))↔∃G∈gs,G.length=0:=by rw[aaP];exact⟨λ⟨G,hG,e⟩=>⟨G,hG,by omega⟩,λ⟨G,hG,e⟩=>⟨G,hG,by omega⟩⟩
 have WQ:(((gs.filter λG=>G.length==1).map λG=>G.headD 0)).length=gs.countP λG=>G.length==1:=by rw[aag,List.countP_eq_length_filter]
 have WR:=Lk b;have k1:=BQ b;have k2:=BQ (!b);have i1:=jr b;have i2:=jr (!b);unfold ic jX;show ∃f D,pb (aG (ai Mp) [6] (.cons _ (.cons _ _)) [some (.sh,.rl (gs.map gV)),some (.sh,.rl []),some (.sh,ak (!b)),some (.sh,ak b),none,none,none,none]) _=_;rw[aC (c4 _ none none none),aC (c5 _ _ none none)];unfold z8;have lsg:((gs.filter λG=>G.length==1).map λG=>G.headD 0).length<=5:=by rw[aag];exact aaE (List.length_filter_le ..) hl
 generalize ((gs.filter λG=>G.length==1).map λG=>G.headD 0)=sg at *;rw[<-WQ];generalize (gs.map λG=>(G.length:Int))=ls at *
 by_cases h1:(∃G∈gs,G.length=0)\/1<sg.length
 ·rw[aae h1]
  have t1:Mc (ai Mp) (.or (.cmp .EG (¬0) (!4)) (.cmp .gt (.blt .len #[!5]) (¬1))) [some (.sh,.rl (gs.map gV)),some (.sh,.rl []),some (.sh,ak (!b)),some (.sh,ak b),some (bJ true (.rl (ls.map .int)),.rl (ls.map .int)),some (bJ true (.rl (sg.map .int)),.rl (sg.map .int)),none,none]=.ok (true,.bl true):=by
   by_cases c:(0:Int)∈ls
   ·simp only[EV,Ge,c,decide_true]
   ·have c2:(sg.length:Int)>1:=by
     rcases h1 with h1|h1
     ·exact absurd (hmem.mpr h1) c
     ·omega
    simp only[EV,Ge,c,decide_false,length_map,c2,decide_true]
  rw[aG,aQ,t1,aU];show ∃f D,pb (pb (pb (pl (cR [] (.bl true))) _) _) _=_;rw[qW,cF,aU,aae rfl];simp only[EV,qN,k1,k2,WR,z0,z2,ne_eq,not_false_eq_true,decide_true,i1,i2,if_true];exact⟨_,_,rfl⟩
 rw[aac h1];have n0:¬ (0:Int)∈ls:=λz=>h1 (.inl (hmem.mp z));have n1:¬ (sg.length:Int)>1:=λz=>h1 (.inr (by omega));have t1:∀x6 x7:Option (Mk×Val),aQ (ai Mp) [6] (.iff (.or (.cmp .EG (¬0) (!4)) (.cmp .gt (.blt .len #[!5]) (¬1))) #[.ret (.tup #[!3,.dflt [] [] 2 3 (.lst .nil) (!1)])] .nil) [some (.sh,.rl (gs.map gV)),some (.sh,.rl []),some (.sh,ak (!b)),some (.sh,ak b),some (bJ true (.rl (ls.map .int)),.rl (ls.map .int)),some (bJ true (.rl (sg.map .int)),.rl (sg.map .int)),x6,x7]=.ok (.nx [some (.sh,.rl (gs.map gV)),some (.sh,.rl []),some (.sh,ak (!b)),some (.sh,ak b),some (bJ true (.rl (ls.map .int)),.rl (ls.map .int)),some (bJ true (.rl (sg.map .int)),.rl (sg.map .int)),x6,x7]):=λx6 x7=>by
  simp only[EV,Ge,n0,decide_false,length_map,n1]
 rw[aC (t1 _ _)]
 by_cases h2:sg.length=0
 ·rw[aae h2]
  have h2':(sg.length:Int)=0:=by omega
  simp only[EV,length_map,h2',qN,k1,k2,WR,z0,z2,ne_eq,not_false_eq_true,decide_true,i1,i2,if_true];exact⟨_,_,rfl⟩
 rw[aac h2];have h2':¬ (sg.length:Int)=0:=by omega
 have t2:∀x6 x7:Option (Mk×Val),aQ (ai Mp) [6] (.iff (.cmp .eq (.blt .len #[!5]) (¬0)) #[.ret (.tup #[!2,.dflt [] [] 2 3 (!1) (.lst .nil)])] .nil) [some (.sh,.rl (gs.map gV)),some (.sh,.rl []),some (.sh,ak (!b)),some (.sh,ak b),some (bJ true (.rl (ls.map .int)),.rl (ls.map .int)),some (bJ true (.rl (sg.map .int)),.rl (sg.map .int)),x6,x7]=.ok (.nx [some (.sh,.rl (gs.map gV)),some (.sh,.rl []),some (.sh,ak (!b)),some (.sh,ak b),some (bJ true (.rl (ls.map .int)),.rl (ls.map .int)),some (bJ true (.rl (sg.map .int)),.rl (sg.map .int)),x6,x7]):=λx6 x7=>by
  simp only[EV,length_map,h2',decide_false]
 rw[aC (t2 _ _)];have t3:∀x7:Option (Mk×Val),aQ (ai Mp) [6] (.asg (.one 6) (.lst .nil)) [some (.sh,.rl (gs.map gV)),some (.sh,.rl []),some (.sh,ak (!b)),some (.sh,ak b),some (bJ true (.rl (ls.map .int)),.rl (ls.map .int)),some (bJ true (.rl (sg.map .int)),.rl (sg.map .int)),none,x7]=.ok (.nx [some (.sh,.rl (gs.map gV)),some (.sh,.rl []),some (.sh,ak (!b)),some (.sh,ak b),some (bJ true (.rl (ls.map .int)),.rl (ls.map .int)),some (bJ true (.rl (sg.map .int)),.rl (sg.map .int)),some (.ow,.rl []),x7]):=λx7=>by
  simp only[EV,z0]
 rw[aC (t3 _),aG];rw[Hy rfl rfl rfl]
 repeat rw[qV]
 refine dN gV (λr:Pr FV=>∃f D,r=.ok (f,.tup [.str "first",D]))
  (λdone env=>∃(ps:List Int) (x7:Option (Mk×Val)),env=[some (.sh,.rl (gs.map gV)),some (.sh,.rl []),some (.sh,ak (!b)),some (.sh,ak b),some (bJ true (.rl (ls.map .int)),.rl (ls.map .int)),some (bJ true (.rl (sg.map .int)),.rl (sg.map .int)),some (.ow,.rl (ps.map .int)),x7]/\ps.length<=done.flatten.length)
  ?_ ?_ ?_
 ·exact⟨[],none,rfl,aaX _⟩
 ·rintro pre G post env hx ⟨ps,x7,rfl,hp⟩
  have hf:pre.flatten.length+G.length<=7:=by have:=congrArg (λl=>(List.flatten l).length) hx;simp only[flatten_append,flatten_cons,List.length_append]at this;omega
  by_cases c:G.length=2
  ·have c':(G.length:Int)=2:=by omega
   have zz:ps.length+G.length<=sizeLine:=by unfold sizeLine;omega
   refine⟨_,?_,ps++G,some (.sh,gV G),rfl,by rw[flatten_append,aau,flatten_cons,flatten_nil,append_nil];(try rw[aau]);omega⟩;simp only[EV,aW,yq,c'];unfold gV;simp only[EV,length_map,zz,map_append]
  ·have c':¬ (G.length:Int)=2:=by omega
   refine⟨_,?_,ps,some (.sh,gV G),rfl,by rw[flatten_append,aau,flatten_cons,flatten_nil,append_nil];(try rw[aau]);omega⟩;simp only[EV,aW,yq,c']
 ·rintro env ⟨ps,x7,rfl,hp⟩
  have zz:(sg.map Val.int).length+(ps.map Val.int).length<=sizeLine:=by rw[aag,aag];unfold sizeLine;omega
  obtain⟨f,v,es⟩:=z9 (sg++ps) (by rw[aau];omega);rw[aaM]at es;simp only[EV,qN,k1,k2,WR,z0,z2,ne_eq,not_false_eq_true,decide_true,i1,i2,if_true,Qs zz,es];exact⟨_,_,rfl⟩
end K73
end
section
open PySem L2 Hv
namespace K73
def bI:dF:=#[.asg (.one 12) (.idx (!2) (¬1)),.iff (.and (!3) (.cmp .lt (!11) (.bin .sub (!8) (¬1)))) #[.asg (.one 12) (.idx (!2) (!6)),.asg (.one 6) (.bin .add (!6) (¬1))] .nil,.iff (.not (!3)) #[.asg (.one 10) (.idx (!2) (!7)),.asg (.one 12) (.idx (!2) (.bin .add (!7) (¬1)))] .nil,.expr (.met .append (!9) #[.idx (!1) (.blt .len #[!4])]),.expr (.met .append (!4) #[.tup #[.idx (!1) (.blt .len #[!4]),!10,!12]]),.asg (.one 10) (!12)]
def bO:dF:=#[.asg (.one 9) (.lst .nil),.asg (.one 10) (.idx (!2) (¬0)),.for (.one 11) .range #[!8] bI,.expr (.met .append (!5) #[!9]),.asg (.one 7) (.bin .add (!7) (¬1))]
def bE:dF:=#[.asg (.one 13) (.lst #[.idx (!2) (¬0),.idx (!2) (¬1)]),.iff (.not (!3)) #[.asg (.one 13) (.lst #[.idx (!2) (¬0),.idx (!2) (!7)])] .nil,.ret (.tup #[!13,!4,!5])]
theorem Qy:cV=(.cons (.asg (.one 4) (.lst .nil)) (.cons (.asg (.one 5) (.lst .nil)) (.cons (.asg (.one 6) (¬2)) (.cons (.asg (.one 7) (¬0)) (.cons (.for (.one 8) .seq #[!0] bO) bE))))):=rfl
def jt(L:List Val)(f:Nat->Int):Prop:=∀k:Nat,k<20->fX L (k:Int)=some (.int (f k))
section
variable {Nm Pl:List Val} {nf pf:Nat->Int}
theorem UA(aN:jt Nm nf)(aP:jt Pl pf){i z met at':Nat}{gl:List Int}{here:Int}{c0 c5 kO:Option (Mk×Val)}(hi:i<10)(ht:tl.length<10)(hg:gl.length<10)(ha:at'<10) :
  aG Ψ [9,4,5] bI [c0,some (.sh,.rl Nm),some (.sh,.rl Pl),some (.sh,.bl false),some (.ow,.rl (tl.map bu)),c5,some (.sh,.int (met:Int)),some (.sh,.int (at':Int)),some (.sh,.int (z:Int)),some (.ow,.rl (gl.map .int)),some (.sh,.int here),some (.sh,.int (i:Int)),kO,none]
   = .ok (.nx [c0,some (.sh,.rl Nm),some (.sh,.rl Pl),some (.sh,.bl false),some (.ow,.rl ((tl++[(nf tl.length,pf at',pf (at'+1))]).map bu)),c5,some (.sh,.int (met:Int)),some (.sh,.int (at':Int)),some (.sh,.int (z:Int)),some (.ow,.rl ((gl++[nf tl.length]).map .int)),some (.sh,.int (pf (at'+1))),some (.sh,.int (i:Int)),some (.sh,.int (pf (at'+1))),none]):=by
 have a1:fX Pl 1=some (.int (pf 1)):=aP 1 (by omega);have a2:=aP at' (by omega);have a3:fX Pl ((at':Int)+1)=some (.int (pf (at'+1))):=aP (at'+1) (by omega);have a4:=aN tl.length (by omega);have z3:3<=sizeLine:=by decide
 have zt:tl.length<sizeLine:=by unfold sizeLine;omega
 have zg:gl.length<sizeLine:=by unfold sizeLine;omega
 unfold bI;simp only[EV,bX a1,bX a2,bX a3,bX a4,length_map,zt,zg,z3,map_append];rfl
theorem UB(aN:jt Nm nf)(aP:jt Pl pf){i z met at':Nat}{gl:List Int}{here:Int}{c0 c5 kO:Option (Mk×Val)}(hi:i<10)(ht:tl.length<10)(hg:gl.length<10)(ha:met<15) :
  aG Ψ [9,4,5] bI [c0,some (.sh,.rl Nm),some (.sh,.rl Pl),some (.sh,.bl true),some (.ow,.rl (tl.map bu)),c5,some (.sh,.int (met:Int)),some (.sh,.int (at':Int)),some (.sh,.int (z:Int)),some (.ow,.rl (gl.map .int)),some (.sh,.int here),some (.sh,.int (i:Int)),kO,none]
   = .ok (.nx [c0,some (.sh,.rl Nm),some (.sh,.rl Pl),some (.sh,.bl true),some (.ow,.rl ((tl++[(nf tl.length,here,if i+1<z then pf met else pf 1)]).map bu)),c5,some (.sh,.int (if i+1<z then met+1 else met:Nat)),some (.sh,.int (at':Int)),some (.sh,.int (z:Int)),some (.ow,.rl ((gl++[nf tl.length]).map .int)),some (.sh,.int (if i+1<z then pf met else pf 1)),some (.sh,.int (i:Int)),some (.sh,.int (if i+1<z then pf met else pf 1)),none]):=by
 have a1:fX Pl 1=some (.int (pf 1)):=aP 1 (by omega);have a2:=aP met (by omega);have a4:=aN tl.length (by omega);have z3:3<=sizeLine:=by decide
 have zt:tl.length<sizeLine:=by unfold sizeLine;omega
 have zg:gl.length<sizeLine:=by unfold sizeLine;omega
 unfold bI
 by_cases c:i+1<z
 ·have c':(i:Int)<(z:Int)-1:=by omega
  rw[aae c,aae c];simp only[EV,bX a1,bX a2,bX a4,length_map,zt,zg,z3,map_append,c'];rfl
 ·have c':¬ (i:Int)<(z:Int)-1:=by omega
  rw[aac c,aac c];simp only[EV,bX a1,bX a2,bX a4,length_map,zt,zg,z3,map_append,c'];rfl
end
def uP(pf:Nat->Int)(met z i:Nat):Int:=if i=0 then pf 0 else if i=z then pf 1 else pf (met+i-1)
def iT(b:Bool)(nf pf:Nat->Int)(n0 at' met z i:Nat):T3:=(nf (n0+i),if b then uP pf met z i else pf at',if b then uP pf met z (i+1) else pf (at'+1))
theorem yr{z x:Nat}{pre post:List Nat}(h:List.range z=pre++x::post):pre=List.range pre.length/\x=pre.length/\pre.length<z:=by
 have hl:=congrArg length h;rw[aa2,aau,length_cons]at hl;have hx:x=pre.length:=by have:=congrArg (λl=>l[pre.length]?) h;simp only[List.getElem?_append_right (Nat.le_refl _),Nat.sub_self,List.getElem?_cons_zero]at this;rw[List.getElem?_range (by omega)]at this;cases this;rfl
 refine⟨?_,hx,by omega⟩;have:=congrArg (List.take pre.length) h;rw[List.take_left,List.take_range,Nat.min_eq_left (by omega)]at this;exact this.symm
section
variable {Nm Pl:List Val} {nf pf:Nat->Int}
def Ib(c0 c5:Option (Mk×Val))(Nm Pl:List Val)(b:Bool)(tl:List T3)(met at' z:Nat)(gl:List Int)(x10 n5 kO:Option (Mk×Val)):bx :=
 [c0,some (.sh,.rl Nm),some (.sh,.rl Pl),some (.sh,.bl b),some (.ow,.rl (tl.map bu)),c5,some (.sh,.int (met:Int)),some (.sh,.int (at':Int)),some (.sh,.int (z:Int)),some (.ow,.rl (gl.map .int)),x10,n5,kO,none]
theorem Aa(aN:jt Nm nf)(aP:jt Pl pf)(b:Bool){z met at':Nat}{c0 c5 pS pT:Option (Mk×Val)}(hz:b=true->1<=z)(U7:z<=3)(ht:tl.length+z<=7)(hm:met+z<15)(ha:at'<10) :
  ∃x10 n5 kO,aQ Ψ [9,4,5] (.for (.one 11) .range #[!8] bI) (Ib c0 c5 Nm Pl b tl met at' z [] (some (.sh,.int (pf 0))) pS pT)
   = .ok (.nx (Ib c0 c5 Nm Pl b (tl++(List.range z).map (iT b nf pf tl.length at' met z)) (met+if b then z-1 else 0) at' z ((List.range z).map λi=>nf (tl.length+i)) x10 n5 kO)):=by
 have el:dZ Ψ #[!8] (Ib c0 c5 Nm Pl b tl met at' z [] (some (.sh,.int (pf 0))) pS pT)=.ok [.int (z:Int)]:=by unfold Ib;simp only[EV,aU]
 rw[Mz rfl el (by omega)];obtain⟨env',e,i,hd,hi,here,n5,kO,he,hh⟩:=gq (λi:Nat=>Val.int (0+(i:Int))) (body:=λx env=>pb (pl (cO (.one 11) x env)) λenv'=>aG Ψ [9,4,5] bI env')
  (λdone env=>∃i,done=List.range i/\i<=z/\∃here n5 kO,env=Ib c0 c5 Nm Pl b (tl++(List.range i).map (iT b nf pf tl.length at' met z)) (met+if b then min i (z-1) else 0) at' z ((List.range i).map λi=>nf (tl.length+i)) (some (.sh,.int here)) n5 kO/\(b=true->here=uP pf met z i))
  (List.range z) [] (Ib c0 c5 Nm Pl b tl met at' z [] (some (.sh,.int (pf 0))) pS pT) ⟨0,rfl,aaX _,pf 0,pS,pT,by cases b<;>simp,λ_=>by unfold uP;rw[aae rfl]⟩ (by
  rintro pre x post env hx ⟨i,hd,hi,here,n5,kO,rfl,hh⟩;have hx:List.range z=pre++x::post:=hx;obtain⟨h1,h2,h3⟩:=yr hx;have hil:pre.length=i:=by rw[hd,aa2]
  rw[hil]at h2 h3;subst h2;have lt:(tl++(List.range x).map (iT b nf pf tl.length at' met z)).length=tl.length+x:=by simp
  have lg:((List.range x).map λi=>nf (tl.length+i)).length=x:=by simp
  have er:pre++[x]=List.range (x+1):=by rw[hd,range_succ]
  have gT:tl++(List.range (x+1)).map (iT b nf pf tl.length at' met z)=(tl++(List.range x).map (iT b nf pf tl.length at' met z))++[iT b nf pf tl.length at' met z x]:=by rw[range_succ,aaM,List.append_assoc];rfl
  have gG:((List.range (x+1)).map λi=>nf (tl.length+i))=((List.range x).map λi=>nf (tl.length+i))++[nf (tl.length+x)]:=by rw[range_succ,aaM];rfl
  have hbind:∀met' tl' gl' x10 n5,cO (.one 11) (Val.int (0+(x:Int))) (Ib c0 c5 Nm Pl b tl' met' at' z gl' x10 n5 kO)=some (Ib c0 c5 Nm Pl b tl' met' at' z gl' x10 (some (.sh,.int (x:Int))) kO):=λmet' tl' gl' x10 n5=>by
   rw[Int.zero_add];rfl
  cases b with
  |false=>have st:=UA (Ψ:=Ψ) (nf:=nf) (pf:=pf) aN aP (i:=x) (z:=z) (met:=met+0) (at':=at') (tl:=tl++(List.range x).map (iT false nf pf tl.length at' met z)) (gl:=(List.range x).map λi=>nf (tl.length+i)) (here:=here) (c0:=c0) (c5:=c5) (kO:=kO) (by omega) (by omega) (by omega) ha;rw[lt]at st;refine⟨_,?_,x+1,er,by omega,pf (at'+1),some (.sh,.int (x:Int)),some (.sh,.int (pf (at'+1))),rfl,λz=>by cases z⟩;rw[hbind,cF,aU,gT,gG];exact st
  |true=>
   have hz:=hz rfl;have st:=UB (Ψ:=Ψ) (nf:=nf) (pf:=pf) aN aP (i:=x) (z:=z) (met:=met+min x (z-1)) (at':=at') (tl:=tl++(List.range x).map (iT true nf pf tl.length at' met z)) (gl:=(List.range x).map λi=>nf (tl.length+i)) (here:=here) (c0:=c0) (c5:=c5) (kO:=kO) (by omega) (by omega) (by omega) (by omega);have hu:(if x+1<z then pf (met+min x (z-1)) else pf 1)=uP pf met z (x+1):=by
    by_cases c:x+1<z
    ·rw[aae c];unfold uP;rw[aac (show ¬ x+1=0 by omega),aac (show ¬ x+1=z by omega),Nat.min_eq_left (by omega)];rfl
    ·rw[aac c];unfold uP;rw[aac (show ¬ x+1=0 by omega),aae (show x+1=z by omega)]
   have hmet:(if x+1<z then met+min x (z-1)+1 else met+min x (z-1))=met+min (x+1) (z-1):=by split<;>omega
   rw[hu,hmet,lt,hh rfl]at st;refine⟨_,?_,x+1,er,by omega,uP pf met z (x+1),some (.sh,.int (x:Int)),some (.sh,.int (uP pf met z (x+1))),rfl,λ_=>rfl⟩;rw[hbind,cF,aU,gT,gG,hh rfl];exact st)
 have hd:List.range z=List.range i:=hd;have hzi:z=i:=by have:=congrArg length hd;rwa [aa2,aa2]at this
 subst hzi;refine⟨some (.sh,.int here),n5,kO,?_⟩;rw[e,he];cases b with
 |false=>rfl
 |true=>rw[aae rfl,aae rfl,Nat.min_eq_right (by omega)]
end
end K73
end
section
open PySem L2 Hv
namespace K73
def stN(zs:List Nat)(g:Nat):Nat:=(zs.take g).sum
def kP(zs:List Nat)(g:Nat):Nat:=((zs.take g).map (· - 1)).sum
def lC(b:Bool)(nf pf:Nat->Int)(zs:List Nat):List T3:=((List.range zs.length).map λg=>(List.range (zs.getD g 0)).map (iT b nf pf (stN zs g) g (2+kP zs g) (zs.getD g 0))).flatten
def fU(nf:Nat->Int)(zs:List Nat):List (List Int):=(List.range zs.length).map λg=>(List.range (zs.getD g 0)).map λi=>nf (stN zs g+i)
theorem pU{pre:List Nat}{z g:Nat}(h:g<=pre.length):stN (pre++[z]) g=stN pre g:=by unfold stN;rw[List.take_append_of_le_length h]
theorem BR{pre:List Nat}{z g:Nat}(h:g<=pre.length):kP (pre++[z]) g=kP pre g:=by unfold kP;rw[List.take_append_of_le_length h]
theorem yt{pre:List Nat}{z g:Nat}(h:g<pre.length):(pre++[z]).getD g 0=pre.getD g 0:=by simp[getD_eq_getElem?_getD,List.getElem?_append_left h]
theorem yu{pre:List Nat}{z:Nat}:(pre++[z]).getD pre.length 0=z:=by simp[getD_eq_getElem?_getD]
theorem BS(pre:List Nat):stN pre pre.length=pre.sum:=by unfold stN;rw[take_length]
theorem yv(nf:Nat->Int)(pre:List Nat)(z:Nat):fU nf (pre++[z])=fU nf pre++[(List.range z).map λi=>nf (pre.sum+i)]:=by
 unfold fU;rw[aau,length_singleton,range_succ,aaM,map_singleton,yu,pU (aam _),BS]
 congr 1
 refine aaT λg hg=>?_;have hg:=aaR.mp hg;rw[yt hg,pU (le_of_lt hg)]
theorem yw(b:Bool)(nf pf:Nat->Int)(pre:List Nat)(z:Nat):lC b nf pf (pre++[z])=lC b nf pf pre++(List.range z).map (iT b nf pf pre.sum pre.length (2+kP pre pre.length) z):=by
 unfold lC;rw[aau,length_singleton,range_succ,aaM,map_singleton,yu,pU (aam _),BR (aam _),BS,flatten_append,flatten_cons,flatten_nil,append_nil]
 congr 2
 refine aaT λg hg=>?_;have hg:=aaR.mp hg;rw[yt hg,pU (le_of_lt hg),BR (le_of_lt hg)]
theorem snocInd{P:List Nat->Prop}(h0:P [])(hs:∀l a,P l->P (l++[a]))(l:List Nat):P l:=by
 have:∀r:List Nat,P r.reverse:=λr=>by
  induction r with
  |nil=>exact h0
  |cons a r ih=>rw[List.reverse_cons];exact hs _ _ ih
 have h:=this l.reverse;rwa [List.reverse_reverse]at h
theorem pV(b:Bool)(nf pf:Nat->Int)(zs:List Nat):(lC b nf pf zs).length=zs.sum:=by
 refine snocInd (P:=λzs=>(lC b nf pf zs).length=zs.sum) rfl (λl a ih=>?_) zs;rw[yw,aau,ih,aag,aa2,sum_append,sum_singleton]
theorem Hz(zs:List Nat)(g:Nat):kP zs g<=zs.sum:=by
 have h1:∀l:List Nat,(l.map (· - 1)).sum<=l.sum:=λl=>by
  induction l with
  |nil=>exact aam _
  |cons a r ih=>rw[aay,sum_cons,sum_cons];omega
 have h2:∀(l:List Nat) (g:Nat),(l.take g).sum<=l.sum:=λl=>by
  induction l with
  |nil=>intro g;rw[List.take_nil];exact aam _
  |cons a r ih=>
   intro g;cases g with
   |zero=>exact aaX _
   |succ g=>rw[List.take_succ_cons,sum_cons,sum_cons];have:=ih g;omega
 exact aaE (h1 _) (h2 _ _)
section
variable {Nm Pl:List Val} {nf pf:Nat->Int}
def rY(zs:List Nat)(Nm Pl:List Val)(b:Bool)(tl:List T3)(gs:List (List Int))(met at':Nat)(x8 x9 x10 n5 kO:Option (Mk×Val)):bx :=
 [some (.sh,.rl (zs.map pR)),some (.sh,.rl Nm),some (.sh,.rl Pl),some (.sh,.bl b),some (.ow,.rl (tl.map bu)),some (.ow,.rl (gs.map gV)),some (.sh,.int (met:Int)),some (.sh,.int (at':Int)),x8,x9,x10,n5,kO,none]
theorem Ab(aN:jt Nm nf)(aP:jt Pl pf)(b:Bool){zs:List Nat}{z met at':Nat}{x9 x10 n5 kO:Option (Mk×Val)}(hz:b=true->1<=z)(U7:z<=3)(ht:tl.length+z<=7)(hm:met+z<15)(ha:at'<10)(hg:gs.length<10) :
  ∃y9 vG pS pT,aG Ψ [9,4,5] bO (rY zs Nm Pl b tl gs met at' (some (.sh,.int (z:Int))) x9 x10 n5 kO)
   = .ok (.nx (rY zs Nm Pl b (tl++(List.range z).map (iT b nf pf tl.length at' met z)) (gs++[(List.range z).map λi=>nf (tl.length+i)]) (met+if b then z-1 else 0) (at'+1) (some (.sh,.int (z:Int))) y9 vG pS pT)):=by
 have a0:fX Pl 0=some (.int (pf 0)):=aP 0 (by omega);have z0:0<=sizeLine:=by decide
 obtain⟨vG,pS,pT,e⟩:=Aa (Ψ:=Ψ) aN aP b (z:=z) (met:=met) (at':=at') (tl:=tl) (c0:=some (.sh,.rl (zs.map pR))) (c5:=some (.ow,.rl (gs.map gV))) (pS:=n5) (pT:=kO) hz U7 ht hm ha;have q1:aQ Ψ [9,4,5] (.asg (.one 9) (.lst .nil)) (rY zs Nm Pl b tl gs met at' (some (.sh,.int (z:Int))) x9 x10 n5 kO)=.ok (.nx (rY zs Nm Pl b tl gs met at' (some (.sh,.int (z:Int))) (some (.ow,.rl [])) x10 n5 kO)):=by unfold rY;simp only[EV,z0]
 have q2:aQ Ψ [9,4,5] (.asg (.one 10) (.idx (!2) (¬0))) (rY zs Nm Pl b tl gs met at' (some (.sh,.int (z:Int))) (some (.ow,.rl [])) x10 n5 kO)=.ok (.nx (rY zs Nm Pl b tl gs met at' (some (.sh,.int (z:Int))) (some (.ow,.rl [])) (some (.sh,.int (pf 0))) n5 kO)):=by unfold rY;simp only[EV,bX a0]
 generalize tl++(List.range z).map (iT b nf pf tl.length at' met z)=tl' at *;generalize ((List.range z).map λi=>nf (tl.length+i))=gl at *;generalize (met+if b then z-1 else 0)=met' at *;have zg:gs.length<sizeLine:=by unfold sizeLine;omega
 have q3:aQ Ψ [9,4,5] (.expr (.met .append (!5) #[!9])) (Ib (some (.sh,.rl (zs.map pR))) (some (.ow,.rl (gs.map gV))) Nm Pl b tl' met' at' z gl vG pS pT)=.ok (.nx (rY zs Nm Pl b tl' (gs++[gl]) met' at' (some (.sh,.int (z:Int))) (some (.sh,gV gl)) vG pS pT)):=by
  unfold Ib rY;have h95:(9=5)=False:=by simp
  simp only[EV,h95,if_false,length_map,zg,map_append,gV]
 have q4:aQ Ψ [9,4,5] (.asg (.one 7) (.bin .add (!7) (¬1))) (rY zs Nm Pl b tl' (gs++[gl]) met' at' (some (.sh,.int (z:Int))) (some (.sh,gV gl)) vG pS pT)=.ok (.nx (rY zs Nm Pl b tl' (gs++[gl]) met' (at'+1) (some (.sh,.int (z:Int))) (some (.sh,gV gl)) vG pS pT)):=by unfold rY;simp only[EV,aU];rfl
 refine⟨some (.sh,gV gl),vG,pS,pT,?_⟩;unfold bO;rw[aC q1,aC q2,aC (show aQ Ψ [9,4,5] (.for (.one 11) .range #[!8] bI) (rY zs Nm Pl b tl gs met at' (some (.sh,.int (z:Int))) (some (.ow,.rl [])) (some (.sh,.int (pf 0))) n5 kO)=_ from e),aC q3,aC q4,aG]
theorem HD(pre:List Nat)(z:Nat):kP (pre++[z]) (pre++[z]).length=kP pre pre.length+(z-1):=by
 unfold kP;rw[take_length,take_length,aaM,sum_append,map_singleton,sum_singleton]
theorem Ac(aN:jt Nm nf)(aP:jt Pl pf)(b:Bool){zs:List Nat}{M:Nat}(ok:pe b M zs)(hM:M<=7)(hl:zs.length<=5){x8 x9 x10 n5 kO:Option (Mk×Val)} :
  ∃y8 y9 vG pS pT,aQ Ψ [9,4,5] (.for (.one 8) .seq #[!0] bO) (rY zs Nm Pl b [] [] 2 0 x8 x9 x10 n5 kO)
   = .ok (.nx (rY zs Nm Pl b (lC b nf pf zs) (fU nf zs) (2+if b then kP zs zs.length else 0) zs.length y8 y9 vG pS pT)):=by
 rw[Hy (vs:=zs.map pR) (m:=.sh) rfl rfl rfl];obtain⟨env',e,y8,y9,vG,pS,pT,he⟩:=gq pR (body:=λx env=>pb (pl (cO (.one 8) x env)) λenv'=>aG Ψ [9,4,5] bO env')
  (λdone env=>∃y8 y9 vG pS pT,env=rY zs Nm Pl b (lC b nf pf done) (fU nf done) (2+if b then kP done done.length else 0) done.length y8 y9 vG pS pT)
  zs [] (rY zs Nm Pl b [] [] 2 0 x8 x9 x10 n5 kO) ⟨x8,x9,x10,n5,kO,by cases b<;>rfl⟩ (by
  rintro pre z post env hx ⟨y8,y9,vG,pS,pT,rfl⟩;have hx:zs=pre++z::post:=hx;have YM:z∈zs:=by rw[hx];simp
  have hsum:pre.sum+z<=zs.sum:=by rw[hx,sum_append,sum_cons];omega
  have hs:=ok.sum;have U7:=ok.le z YM;have hlen:pre.length<zs.length:=by rw[hx,aau,length_cons];omega
  have tl:=pV b nf pf pre;have hof:=Hz pre pre.length;have lg:(fU nf pre).length=pre.length:=by unfold fU;rw[aag,aa2]
  have st:=Ab (Ψ:=Ψ) (nf:=nf) (pf:=pf) aN aP b (zs:=zs) (z:=z) (met:=2+if b then kP pre pre.length else 0) (at':=pre.length) (tl:=lC b nf pf pre) (gs:=fU nf pre) (x9:=y9) (x10:=vG) (n5:=pS) (kO:=pT) (λhb=>ok.pos hb z YM) U7 (by rw[tl];omega) (by split<;>omega) (by omega) (by rw[lg];omega);obtain⟨w9,sE,OV,w12,e⟩:=st;refine⟨_,?_,some (.sh,.int (z:Int)),w9,sE,OV,w12,rfl⟩;have hbind:cO (.one 8) (pR z) (rY zs Nm Pl b (lC b nf pf pre) (fU nf pre) (2+if b then kP pre pre.length else 0) pre.length y8 y9 vG pS pT)=some (rY zs Nm Pl b (lC b nf pf pre) (fU nf pre) (2+if b then kP pre pre.length else 0) pre.length (some (.sh,.int (z:Int))) y9 vG pS pT):=rfl;rw[hbind,cF,aU,e,yw,yv,HD,tl,aau,length_singleton];cases b with
  |false=>rfl
  |true=>rw[aae rfl,aae rfl,aae rfl,Nat.add_assoc])
 exact⟨y8,y9,vG,pS,pT,by rw[e,he];rfl⟩
theorem Ad(aN:jt Nm nf)(aP:jt Pl pf)(b:Bool){zs:List Nat}{M:Nat}(ok:pe b M zs)(hM:M<=7)(hl:zs.length<=5) :
  ∃f,cD [.rl (zs.map pR),.rl Nm,.rl Pl,.bl b]=.ok (f,.tup [.rl [.int (pf 0),.int (pf (if b then 1 else zs.length))],.rl ((lC b nf pf zs).map bu),.rl ((fU nf zs).map gV)]):=by
 have a0:fX Pl 0=some (.int (pf 0)):=aP 0 (by omega);have a1:fX Pl 1=some (.int (pf 1)):=aP 1 (by omega);have a2:=aP zs.length (by omega);have z0:0<=sizeLine:=by decide
 have z2:2<=sizeLine:=by decide
 have z3:3<=sizeLine:=by decide
 obtain⟨y8,y9,vG,pS,pT,e⟩:=Ac (Ψ:=ai Ur) aN aP b ok hM hl (x8:=none) (x9:=none) (x10:=none) (n5:=none) (kO:=none);unfold cD;show ∃f,pb (aG (ai Ur) [9,4,5] cV [some (.sh,.rl (zs.map pR)),some (.sh,.rl Nm),some (.sh,.rl Pl),some (.sh,.bl b),none,none,none,none,none,none,none,none,none,none]) _=_;rw[Qy];rw[aC (env':=[some (.sh,.rl (zs.map pR)),some (.sh,.rl Nm),some (.sh,.rl Pl),some (.sh,.bl b),some (.ow,.rl []),none,none,none,none,none,none,none,none,none]) (by simp only[EV,z0])];rw[aC (env':=[some (.sh,.rl (zs.map pR)),some (.sh,.rl Nm),some (.sh,.rl Pl),some (.sh,.bl b),some (.ow,.rl []),some (.ow,.rl []),none,none,none,none,none,none,none,none]) (by simp only[EV,z0])];rw[aC (env':=[some (.sh,.rl (zs.map pR)),some (.sh,.rl Nm),some (.sh,.rl Pl),some (.sh,.bl b),some (.ow,.rl []),some (.ow,.rl []),some (.sh,.int 2),none,none,none,none,none,none,none]) (by simp only[EV,aU])];rw[aC (env':=rY zs Nm Pl b [] [] 2 0 none none none none none) (by simp only[EV,aU];rfl)];rw[aC e];generalize (2+if b then kP zs zs.length else 0)=met at *;generalize lC b nf pf zs=tl at *;generalize fU nf zs=gs at *;unfold bE rY;cases b with
 |true=>simp only[EV,bX a0,bX a1,bX a2,z2,z3,if_true];exact⟨_,rfl⟩
 |false=>simp only[EV,bX a0,bX a1,bX a2,z2,z3,if_false];exact⟨_,rfl⟩
end
end K73
end
section
open PySem L2 Hv
namespace K73
section
variable {nf pf:Nat->Int}
def fR(f:Nat->Int):Prop:=∀i j,i<20->j<20->f i=f j->i=j
theorem ju(b:Bool)(zs:List Nat):(lC b nf pf zs).map (·.1)=(fU nf zs).flatten:=by
 unfold lC fU;rw[List.map_flatten,aaN]
 congr 1
 refine aaT λg _=>?_;show ((List.range _).map _).map _=_;rw[aaN];rfl
theorem BU(zs:List Nat):(fU nf zs).flatten=(List.range zs.sum).map nf:=by
 refine snocInd (P:=λzs=>(fU nf zs).flatten=(List.range zs.sum).map nf) rfl (λl a ih=>?_) zs;rw[yv,flatten_append,ih,flatten_cons,flatten_nil,append_nil,sum_append,sum_singleton,List.range_add,aaM,aaN];rfl
theorem ng(hn:fR nf){zs:List Nat}(h:zs.sum<=7):(fU nf zs).flatten.Nodup:=by
 rw[BU];unfold List.Nodup;rw[pairwise_map];refine List.Pairwise.imp_of_mem (λ{a b} ha hb hab e=>hab ?_) nodup_range;have ha:=aaR.mp ha;have hb:=aaR.mp hb;exact hn a b (by omega) (by omega) e
theorem HE(zs:List Nat):(fU nf zs).flatten.length=zs.sum:=by rw[BU,aag,aa2]
theorem vD(zs:List Nat):(fU nf zs).length=zs.length:=by unfold fU;rw[aag,aa2]
theorem HF{b:Bool}{zs:List Nat}(h:t∈lC b nf pf zs):∃g i,g<zs.length/\i<zs.getD g 0/\t=iT b nf pf (stN zs g) g (2+kP zs g) (zs.getD g 0) i:=by
 unfold lC at h;obtain⟨l,hl,ht⟩:=mem_flatten.mp h;obtain⟨g,hg,rfl⟩:=aaP.mp hl;obtain⟨i,hi,rfl⟩:=aaP.mp ht;exact⟨g,i,aaR.mp hg,aaR.mp hi,rfl⟩
theorem Qz{b:Bool}{zs:List Nat}{g i:Nat}(hg:g<zs.length)(hi:i<zs.getD g 0):iT b nf pf (stN zs g) g (2+kP zs g) (zs.getD g 0) i∈lC b nf pf zs :=
 mem_flatten.mpr ⟨_,aaP.mpr ⟨g,aaR.mpr hg,rfl⟩,aaP.mpr ⟨i,aaR.mpr hi,rfl⟩⟩
theorem BV(hn:fR nf){zs:List Nat}(h:zs.sum<=7){g i:Nat}(hg:g<zs.length)(hi:i<zs.getD g 0):oY (fU nf zs) (nf (stN zs g+i))=g:=by
 refine Hh (ng hn h) g (by rw[vD];exact hg) ?_;unfold fU;rw[aa1,List.getElem_range];exact aaP.mpr ⟨i,aaR.mpr hi,rfl⟩
def jv(ts:List T3):List T3:=fq (ts.map turnT)
theorem rU:((jv ts).map (·.1)).Perm (ts.map (·.1)):=by
 unfold jv;have:=(bq (ts.map turnT)).map (·.1);rw[aaN]at this;exact this
theorem pW(h:e∈jv ts):∃t∈ts,e=turnT t:=by
 obtain⟨t,ht,rfl⟩:=aaP.mp ((bq _).mem_iff.mp h);exact⟨t,ht,rfl⟩
theorem Ll(h:t∈ts):turnT t∈jv ts:=(bq _).mem_iff.mpr (aaU h)
theorem vE:(jv ts).length=ts.length:=by unfold jv;rw[(bq _).length_eq,aag]
theorem Lm(p q:Int):∀(n:Nat) (s:Bool) (D L:List (Int×Int)),win p q n s D L=win q p n s D L:=by
 have w:∀es,Way es p q↔Way es q p:=λes=>⟨Way.symm,Way.symm⟩;intro n
 induction n with
 |zero=>
  intro s D L;rw[win,win]
  by_cases c:Way D p q
  ·rw[aae c,aae (show Way D q p from c.symm)]
  ·rw[aac c,aac (show ¬ Way D q p from λz=>c z.symm)]
   by_cases c2:Way (D++L) p q
   ·rw[aac (show ¬ ¬ Way (D++L) p q from λz=>z c2),aac (show ¬ ¬ Way (D++L) q p from λz=>z c2.symm)]
   ·rw[aae (show ¬ Way (D++L) p q from c2),aae (show ¬ Way (D++L) q p from λz=>c2 z.symm)]
 |succ n ih=>
  intro s D L;rw[win,win]
  by_cases c:Way D p q
  ·rw[aae c,aae (show Way D q p from c.symm)]
  ·rw[aac c,aac (show ¬ Way D q p from λz=>c z.symm)]
   by_cases c2:Way (D++L) p q
   ·rw[aac (show ¬ ¬ Way (D++L) p q from λz=>z c2),aac (show ¬ ¬ Way (D++L) q p from λz=>z c2.symm)];simp only[ih]
   ·rw[aae (show ¬ Way (D++L) p q from c2),aae (show ¬ Way (D++L) q p from λz=>c2 z.symm)]
theorem HG(p q:Int)(n:Nat)(s:Bool)(D L:List (Int×Int)):win (min p q) (max p q) n s D L=win p q n s D L:=by
 by_cases c:p<=q
 ·rw[Int.min_eq_left c,Int.max_eq_right c]
 ·rw[Int.min_eq_right (by omega),Int.max_eq_left (by omega),Lm]
def U8(gs:List (List Int)):Prop:=∀G∈gs,G.length≠0
def Lo(gs:List (List Int)):Nat:=gs.countP λG=>G.length==1
open Classical in
theorem UC(hn:fR nf)(hp:fR pf){zs:List Nat}(h:zs.sum<=7)(hl:zs.length<=5)(s:Bool) :
  win (pf 0) (pf zs.length) 7 s [] ((jv (lC false nf pf zs)).map aR)=decide (U8 (fU nf zs)/\Lo (fU nf zs)<=if s then 1 else 0):=by
 have hlen:(jv (lC false nf pf zs)).length<=7:=by rw[vE,pV];exact h
 rw[K9 (γ:=λe:T3=>oY (fU nf zs) e.1) (en:=aR) (v:=pf) (m:=zs.length) (λi j hi hj e=>hp i j (by omega) (by omega) e) (λe he=>?_) hlen s]
 ·have:=yg (nm:=λe:T3=>e.1) (ng hn h) (L:=jv (lC false nf pf zs)) (by rw[<-ju (pf:=pf) false zs];exact rU) s;rw[vD]at this;exact decide_eq_decide.mpr this
 ·obtain⟨t,ht,rfl⟩:=pW he;obtain⟨g,i,hg,hi,rfl⟩:=HF ht;have eg:oY (fU nf zs) (turnT (iT false nf pf (stN zs g) g (2+kP zs g) (zs.getD g 0) i)).1=g:=BV hn h hg hi;rw[eg];exact⟨hg,kM (iT false nf pf (stN zs g) g (2+kP zs g) (zs.getD g 0) i)⟩
end
end K73
end
section
open PySem L2 Hv
namespace K73
theorem yx{zs:List Nat}{g:Nat}(h:g<zs.length):kP zs (g+1)=kP zs g+(zs.getD g 0-1):=by
 unfold kP;rw[List.take_succ,aaz h,aaM,sum_append,getD_eq_getElem?_getD,aaz h];simp
theorem yy{zs:List Nat}:∀(d g:Nat),g+d<=zs.length->kP zs g<=kP zs (g+d)
 |0,g,_=>aam _
 | d+1,g,h=>by
  have:=yy (zs:=zs) d g (by omega);rw[<-Nat.add_assoc,yx (by omega)];omega
theorem HH{zs:List Nat}{g g':Nat}(h:g<g')(hl:g'<=zs.length):kP zs g+(zs.getD g 0-1)<=kP zs g':=by
 rw[<-yx (by omega)];have:=yy (zs:=zs) (g'-(g+1)) (g+1) (by omega);rwa [show g+1+(g'-(g+1))=g' by omega]at this
theorem HJ{zs:List Nat}{g:Nat}(h:g<zs.length):stN zs (g+1)=stN zs g+zs.getD g 0:=by
 unfold stN;rw[List.take_succ,aaz h,sum_append,getD_eq_getElem?_getD,aaz h];simp
theorem QA(zs:List Nat)(g:Nat):stN zs g<=zs.sum:=by
 unfold stN;have:zs.sum=(zs.take g).sum+(zs.drop g).sum:=by rw[<-sum_append,List.take_append_drop]
 omega
section
variable {nf pf:Nat->Int}
def Lp(nf:Nat->Int)(st z:Nat)(x:Int):Nat:=open Classical in if h:∃i,i<z/\x=nf (st+i) then h.choose else 0
theorem pos_at(hn:fR nf){st z i:Nat}(hi:i<z)(h:st+z<=20):Lp nf st z (nf (st+i))=i:=by
 have hx:∃j,j<z/\nf (st+i)=nf (st+j):=⟨i,hi,rfl⟩;unfold Lp;rw[dif_pos hx];have:=hx.choose_spec;have:=hn _ _ (by omega) (by omega) this.2;omega
open Classical in
theorem HK(hn:fR nf)(hp:fR pf){zs:List Nat}{M:Nat}(ok:pe true M zs)(hM:M<=7)(hl:zs.length<=5)(s:Bool) :
  win (pf 0) (pf 1) 7 s [] ((jv (lC true nf pf zs)).map aR) = !decide (U8 (fU nf zs)/\Lo (fU nf zs)<=if !s then 1 else 0):=by
 have h:zs.sum<=7:=aaE ok.sum hM;have hlen:(jv (lC true nf pf zs)).length<=7:=by rw[vE,pV];exact h
 have zg:∀g,g<zs.length->1<=zs.getD g 0/\zs.getD g 0<=3:=λg hg=>by
  have e:zs.getD g 0=zs[g]:=by rw[getD_eq_getElem?_getD,aaz hg];rfl
  rw[e];exact⟨ok.pos rfl _ (aaJ hg),ok.le _ (aaJ hg)⟩
 have sg:∀g,g<zs.length->stN zs g+zs.getD g 0<=7:=λg hg=>by
  rw[<-HJ hg];exact aaE (QA _ _) h
 have og:∀g,kP zs g<=7:=λg=>aaE (Hz _ _) h;have tie:∀g i,g<zs.length->i<zs.getD g 0->oY (fU nf zs) (turnT (iT true nf pf (stN zs g) g (2+kP zs g) (zs.getD g 0) i)).1=g/\Lp nf (stN zs g) (zs.getD g 0) (turnT (iT true nf pf (stN zs g) g (2+kP zs g) (zs.getD g 0) i)).1=i:=λg i hg hi=>
  ⟨BV hn h hg hi,pos_at hn hi (by have:=sg g hg;omega)⟩
 have all:∀e∈jv (lC true nf pf zs),∃g i,g<zs.length/\i<zs.getD g 0/\e=turnT (iT true nf pf (stN zs g) g (2+kP zs g) (zs.getD g 0) i):=λe he=>by
  obtain⟨t,ht,rfl⟩:=pW he;obtain⟨g,i,hg,hi,rfl⟩:=HF ht;exact⟨g,i,hg,hi,rfl⟩
 have nd:(jv (lC true nf pf zs)).Nodup:=by have:=(rU (ts:=lC true nf pf zs)).nodup_iff.mpr (by rw[ju];exact ng hn h);unfold List.Nodup at this |-;rw[pairwise_map]at this;exact this.imp λhab e=>hab (by rw[e])
 rw[zW (γ:=λe:T3=>oY (fU nf zs) e.1) (en:=aR) (L:=jv (lC true nf pf zs)) (pos:=λe:T3=>Lp nf (stN zs (oY (fU nf zs) e.1)) (zs.getD (oY (fU nf zs) e.1) 0) e.1)
  (u:=λg i=>uP pf (2+kP zs g) (zs.getD g 0) i) (z:=λg=>zs.getD g 0) (m:=zs.length) (n:=7) (p:=pf 0) (q:=pf 1) (λe=>by have:=hp 0 1 (by omega) (by omega) e;omega)
  (λg hg=>by show uP _ _ _ 0=_;unfold uP;rw[aae rfl]) (λg hg=>by have:=zg g hg;show uP _ _ _ _=_;unfold uP;rw[aac (by omega),aae rfl]) ?_ ?_ ?_ ?_ nd hlen s]
 ·have:=yg (nm:=λe:T3=>e.1) (ng hn h) (L:=jv (lC true nf pf zs)) (by rw[<-ju (pf:=pf) true zs];exact rU) (!s);rw[vD]at this;exact congrArg (λb=>!b) (decide_eq_decide.mpr this)
 ·intro g hg g' hg' i i' h0 hi hi' e
  have e:uP pf (2+kP zs g) (zs.getD g 0) i=uP pf (2+kP zs g') (zs.getD g' 0) i':=e;have z1:=zg g hg;have z2:=zg g' hg';have o1:=og g;have o2:=og g';unfold uP at e;rw[aac (show ¬ i=0 by omega),aac (show ¬ i=zs.getD g 0 by omega)]at e
  by_cases c1:i'=0
  ·rw[aae c1]at e;have:=hp _ _ (by omega) (by omega) e;omega
  ·rw[aac c1]at e
   by_cases c2:i'=zs.getD g' 0
   ·rw[aae c2]at e;have:=hp _ _ (by omega) (by omega) e;omega
   ·rw[aac c2]at e
    have:=hp _ _ (by omega) (by omega) e
    rcases Nat.lt_trichotomy g g' with q|q|q
    ·have:=HH (zs:=zs) q (by omega);omega
    ·subst q;exact⟨rfl,by omega⟩
    ·have:=HH (zs:=zs) q (by omega);omega
 ·intro e he
  obtain⟨g,i,hg,hi,rfl⟩:=all e he;obtain⟨t1,t2⟩:=tie g i hg hi
  try dsimp only
  rw[t1,t2];exact⟨hg,hi,kM (iT true nf pf (stN zs g) g (2+kP zs g) (zs.getD g 0) i)⟩
 ·intro g hg i hi
  obtain⟨t1,t2⟩:=tie g i hg hi;refine⟨_,Ll (Qz hg hi),t1,?_⟩
  try dsimp only
  rw[t1,t2]
 ·intro e he e' he' h1 h2
  obtain⟨g,i,hg,hi,rfl⟩:=all e he;obtain⟨g',i',hg',hi',rfl⟩:=all e' he';obtain⟨t1,t2⟩:=tie g i hg hi;obtain⟨t1',t2'⟩:=tie g' i' hg' hi'
  try dsimp only at h1 h2
  rw[t1,t1']at h1;subst h1;rw[t1,t1',t2,t2']at h2;subst h2;rfl
theorem HL(P:Prop)[Decidable P](c:Nat)(s:Bool):decide (¬ P/\c<=if s=true then 1 else 0)=(if P\/1<c then false else if c=0 then !false else s):=by
 by_cases hP:P
 ·simp[hP]
 ·by_cases h1:1<c
  ·have:¬ c<=(if s=true then 1 else 0):=by split<;>omega
   simp[hP,h1,this]
  ·by_cases h0:c=0
   ·simp[hP,h0]
   ·have:c=1:=by omega
    subst this;cases s<;>simp[hP]
theorem QB(P:Prop)[Decidable P](c:Nat)(s:Bool):(!decide (¬ P/\c<=if (!s)=true then 1 else 0))=(if P\/1<c then true else if c=0 then !true else s):=by
 rw[HL P c (!s)]
 by_cases h1:P\/1<c
 ·rw[aae h1,aae h1];rfl
 ·rw[aac h1,aac h1]
  by_cases h0:c=0
  ·rw[aae h0,aae h0];rfl
  ·rw[aac h0,aac h0,Bool.not_not]
open Classical in
def n6(b:Bool)(gs:List (List Int)):Option Bool->Val
 |none=>z8 b gs
 |some s=>if (∃G∈gs,G.length=0)\/1<(gs.countP λG=>G.length==1) then ak b else if (gs.countP λG=>G.length==1)=0 then ak (!b) else ak s
theorem HM(hn:fR nf)(hp:fR pf){b:Bool}{zs:List Nat}{M:Nat}(ok:pe b M zs)(hM:M<=7)(hl:zs.length<=5)(o:Option Bool) :
  Qv (min (pf 0) (pf (if b then 1 else zs.length))) (max (pf 0) (pf (if b then 1 else zs.length))) (jv (lC b nf pf zs)) o=n6 b (fU nf zs) o:=by
 have h:zs.sum<=7:=aaE ok.sum hM;have key:∀s:Bool,win (min (pf 0) (pf (if b then 1 else zs.length))) (max (pf 0) (pf (if b then 1 else zs.length))) 7 s [] ((jv (lC b nf pf zs)).map aR)=(open Classical in if (∃G∈fU nf zs,G.length=0)\/1<((fU nf zs).countP λG=>G.length==1) then b else if ((fU nf zs).countP λG=>G.length==1)=0 then !b else s):=λs=>by
  rw[HG];have ne:U8 (fU nf zs)↔¬ ∃G∈fU nf zs,G.length=0:=⟨λh ⟨G,hG,e⟩=>h G hG e,λh G hG e=>h ⟨G,hG,e⟩⟩;have ne:U8 (fU nf zs)=¬ ∃G∈fU nf zs,G.length=0:=propext ne;cases b with
  |false=>rw[aac aab,UC hn hp h hl s];unfold Lo;rw[ne];exact(decide_eq_decide.mpr Iff.rfl).trans (HL _ _ s)
  |true=>rw[aae rfl,HK hn hp ok hM hl s];unfold Lo;rw[ne];exact(congrArg (λb=>!b) (decide_eq_decide.mpr Iff.rfl)).trans (QB _ _ s)
 cases o with
 |none=>
  show rS _ _=z8 b (fU nf zs);rw[key true,key false];unfold z8 rS
  by_cases c1:(∃G∈fU nf zs,G.length=0)\/1<((fU nf zs).countP λG=>G.length==1)
  ·rw[aae c1,aae c1,aae c1,aae rfl]
  ·rw[aac c1,aac c1,aac c1]
   by_cases c3:((fU nf zs).countP λG=>G.length==1)=0
   ·rw[aae c3,aae c3,aae c3,aae rfl]
   ·rw[aac c3,aac c3,aac c3,aac (by decide)]
 |some s=>
  show ak _=n6 b (fU nf zs) (some s);rw[key s];unfold n6
  by_cases c1:(∃G∈fU nf zs,G.length=0)\/1<((fU nf zs).countP λG=>G.length==1)
  ·rw[aae c1];exact(aae c1).symm
  ·rw[aac c1]
   by_cases c3:((fU nf zs).countP λG=>G.length==1)=0
   ·rw[aae c3];exact((aac c1).trans (aae c3)).symm
   ·rw[aac c3];exact((aac c1).trans (aac c3)).symm
end
end K73
end
section
open PySem L2 Hv
namespace K73
section
variable {Nm Pl:List Val} {nf pf:Nat->Int}
def Spot(pf:Nat->Int)(x:Int):Prop:=∃j,(j=0\/j=2\/j=3)/\x=pf j
theorem BW(x:Int)(h0:0<=x)(h1:x<3):∃y,Spot pf y/\fX [Val.int (pf 0),Val.int (pf 2),Val.int (pf 3)] x=some (Val.int y):=by
 have:x=0\/x=1\/x=2:=by omega
 rcases this with rfl|rfl|rfl
 ·exact⟨pf 0,⟨0,.inl rfl,rfl⟩,rfl⟩
 ·exact⟨pf 2,⟨2,.inr (.inl rfl),rfl⟩,rfl⟩
 ·exact⟨pf 3,⟨3,.inr (.inr rfl),rfl⟩,rfl⟩
def eB:dF:=#[.asg (.one 6) (.call 4 #[!0,.bin .add (¬11) (!5)]),.expr (.met .append (!3) #[.tup #[.idx (!1) (!5),.idx (!4) (.bin .mod (!6) (¬3)),.idx (!4) (.bin .mod (.bin .fdiv (!6) (¬3)) (¬3))]])]
def eN:IE:=(.bin .add (¬5) (.bin .mod (.call 4 #[!0,¬5]) (¬10)))
def eT:dF:=#[.iff (.cmp .eq (.bin .mod (.bin .fdiv (.call 4 #[!0,¬5]) (¬10)) (¬2)) (¬1)) #[.ret (.tup #[.cst (.str "linker"),.call 2 #[.lst #[.idx (!2) (¬0),.idx (!2) (¬0)],!3]])] .nil,.ret (.tup #[.cst (.str "cutter"),.call 2 #[.lst #[.idx (!2) (¬0),.idx (!2) (¬1)],!3]])]
theorem QC:fD=(.cons (.asg (.one 3) (.lst .nil)) (.cons (.asg (.one 4) (.lst #[.idx (!2) (¬0),.idx (!2) (¬2),.idx (!2) (¬3)])) (.cons (.for (.one 5) .range #[eN] eB) eT))):=rfl
def Dw(ns:List Int)(Nm Pl:List Val)(pf:Nat->Int)(tl:List T3)(x5 x6:Option (Mk×Val)):bx:=[some (.sh,.rl (ns.map .int)),some (.sh,.rl Nm),some (.sh,.rl Pl),some (.ow,.rl (tl.map bu)),some (.nw,.rl [.int (pf 0),.int (pf 2),.int (pf 3)]),x5,x6]
theorem e_step(aN:jt Nm nf)(ns:List Int)(i:Nat)(hi:i<20)(tl:List T3)(ht:tl.length<20)(x6:Option (Mk×Val)):∃a b y6,Spot pf a/\Spot pf b/\aG (ai GS) [3] eB (Dw ns Nm Pl pf tl (some (.sh,.int (i:Int))) x6)=.ok (.nx (Dw ns Nm Pl pf (tl++[(nf i,a,b)]) (some (.sh,.int (i:Int))) y6)):=by
 have c:=jq ns (11+i);rw[show ((11+i:Nat):Int)=11+(i:Int) from rfl]at c;generalize cellAt ns (11+i)=x at *;have a1:=aN i hi;obtain⟨a,sa,ea⟩:=BW (pf:=pf) (x%3) (by omega) (by omega);obtain⟨b,sb,eb⟩:=BW (pf:=pf) (x/3%3) (by omega) (by omega);have z3:3<=sizeLine:=by decide
 have zt:tl.length<sizeLine:=by unfold sizeLine;omega
 refine⟨a,b,some (.sh,.int x),sa,sb,?_⟩;unfold eB Dw;simp only[EV,cQ,c,bW (show decide ((0:Int)<3)=true by decide),jk (show kT 3=true by decide),bX a1,bX ea,bX eb,z3,zt,length_map,map_append];rfl
structure yz (nf pf:Nat->Int) (tl:List T3):Prop where
 nm:tl.map (·.1)=(List.range tl.length).map nf
 sp:∀t∈tl,Spot pf t.2.1/\Spot pf t.2.2
theorem yz.snoc(h:yz nf pf tl){a b:Int}(sa:Spot pf a)(sb:Spot pf b):yz nf pf (tl++[(nf tl.length,a,b)]) where
 nm:=by rw[aaM,h.nm,aau,length_singleton,range_succ,aaM];rfl
 sp t ht:=by
  rcases aaD.mp ht with ht|ht
  ·exact h.sp t ht
  ·rw[aaq.mp ht];exact⟨sa,sb⟩
theorem HN(aN:jt Nm nf)(aP:jt Pl pf)(ns:List Int):∃f tl w,iP [.rl (ns.map .int),.rl Nm,.rl Pl]=.ok (f,.tup [ak w,aA (min (pf 0) (pf (if w then 0 else 1))) (max (pf 0) (pf (if w then 0 else 1))) (jv tl)])/\yz nf pf tl/\tl.length<=14:=by
 have c5:=jq ns 5;have c5:cA [.rl (ns.map .int),.int 5]=.ok (true,.int (cellAt ns 5)):=c5;generalize cellAt ns 5=x at *;have a0:fX Pl 0=some (.int (pf 0)):=aP 0 (by omega);have a1:fX Pl 1=some (.int (pf 1)):=aP 1 (by omega);have a2:fX Pl 2=some (.int (pf 2)):=aP 2 (by omega);have a3:fX Pl 3=some (.int (pf 3)):=aP 3 (by omega);have z0:0<=sizeLine:=by decide
 have z2:2<=sizeLine:=by decide
 have z3:3<=sizeLine:=by decide
 unfold iP;show ∃f tl w,pb (aG (ai GS) [3] fD [some (.sh,.rl (ns.map .int)),some (.sh,.rl Nm),some (.sh,.rl Pl),none,none,none,none]) _=_/\_;rw[QC];rw[aC (env':=[some (.sh,.rl (ns.map .int)),some (.sh,.rl Nm),some (.sh,.rl Pl),some (.ow,.rl []),none,none,none]) (by simp only[EV,z0])];rw[aC (env':=Dw ns Nm Pl pf [] none none) (by simp only[EV,bX a0,bX a2,bX a3,z3];rfl)];have hn:(((5+(x%10).toNat:Nat):Int))=5+x%10:=by omega
 have el:dZ (ai GS) #[eN] (Dw ns Nm Pl pf [] none none)=.ok [.int ((5+(x%10).toNat:Nat):Int)]:=by rw[hn];unfold eN Dw;simp only[EV,cQ,c5,bW (show decide ((0:Int)<10)=true by decide)]
 have hb:5+(x%10).toNat<=14:=by omega
 generalize 5+(x%10).toNat=n at *;rw[aG,Mz rfl el (by omega)];obtain⟨env',e,tl,y5,y6,he,ok,hd⟩:=gq (λi:Nat=>Val.int (0+(i:Int))) (body:=λx env=>pb (pl (cO (.one 5) x env)) λenv'=>aG (ai GS) [3] eB env')
  (λdone env=>∃tl y5 y6,env=Dw ns Nm Pl pf tl y5 y6/\yz nf pf tl/\tl.length=done.length)
  (List.range n) [] (Dw ns Nm Pl pf [] none none) ⟨[],none,none,rfl,⟨rfl,λ_ h=>by simp at h⟩,rfl⟩ (by
  rintro pre i post env hx ⟨tl,y5,y6,rfl,ok,hd⟩;obtain⟨h1,h2,h3⟩:=yr (show List.range n=pre++i::post from hx);subst h2;obtain⟨a,b,w6,sa,sb,e⟩:=e_step (pf:=pf) (Pl:=Pl) aN ns pre.length (by omega) tl (by omega) y6;refine⟨_,?_,tl++[(nf pre.length,a,b)],some (.sh,.int (pre.length:Int)),w6,rfl,?_,by simp[hd]⟩
  ·rw[Int.zero_add];show pb (pl (some (Dw ns Nm Pl pf tl (some (.sh,.int (pre.length:Int))) y6))) _=_;rw[cF,aU,e]
  ·rw[<-hd];exact ok.snoc sa sb)
 rw[e,he,aU];have hl:tl.length<=14:=by rw[hd];simp;omega
 have n1:=z5 (p:=pf 0) (q:=pf 0) (ts:=tl) (by omega);have n2:=z5 (p:=pf 0) (q:=pf 1) (ts:=tl) (by omega);dsimp only
 by_cases c:x/10%2=1
 ·have:∃f,pb (aG (ai GS) [3] eT (Dw ns Nm Pl pf tl y5 y6)) (λf=>match f with|.nx _=>.ok (true,.non)|.rt p=>.ok p|_=>.no)=.ok (f,.tup [ak true,aA (min (pf 0) (pf 0)) (max (pf 0) (pf 0)) (jv tl)]):=by
   unfold eT Dw;simp only[EV,cQ,iQ,c5,bW (show decide ((0:Int)<2)=true by decide),jk (show kT 10=true by decide),c,bX a0,z2,n1];exact⟨_,rfl⟩
  obtain⟨f,e⟩:=this;exact⟨f,tl,true,e,ok,hl⟩
 ·have:∃f,pb (aG (ai GS) [3] eT (Dw ns Nm Pl pf tl y5 y6)) (λf=>match f with|.nx _=>.ok (true,.non)|.rt p=>.ok p|_=>.no)=.ok (f,.tup [ak false,aA (min (pf 0) (pf 1)) (max (pf 0) (pf 1)) (jv tl)]):=by
   unfold eT Dw;simp only[EV,cQ,iQ,c5,bW (show decide ((0:Int)<2)=true by decide),jk (show kT 10=true by decide),c,bX a0,bX a1,z2,n2];exact⟨_,rfl⟩
  obtain⟨f,e⟩:=this;exact⟨f,tl,false,e,ok,hl⟩
end
end K73
end
section
open PySem L2 Hv
namespace K73
section
variable {nf pf:Nat->Int}
theorem HP(t:T3):(turnT t).2.1<=(turnT t).2.2:=by unfold turnT;dsimp only;split<;>split<;>omega
theorem QD(h:(tl.map (·.1)).Nodup):Bx (jv tl):=by
 refine jV _ ?_;rw[aaN];exact h
theorem yC{p q:Int}(h:(tl.map (·.1)).Nodup):yl (min p q) (max p q) ((jv tl).take 7) where
 ord:=by omega
 len:=by rw[length_take];omega
 up:=(QD h).sublist (take_sublist ..)
 ends t ht:=by obtain⟨u,_,rfl⟩:=pW (List.mem_of_mem_take ht);exact HP u
theorem QE{p q:Int}(h:(tl.map (·.1)).Nodup)(hl:tl.length<=7):yl (min p q) (max p q) (jv tl):=by
 have:=yC (p:=p) (q:=q) h;rwa [List.take_of_length_le (by rw[vE];exact hl)]at this
theorem UD(hn:fR nf){b:Bool}{zs:List Nat}(h:zs.sum<=7):((lC b nf pf zs).map (·.1)).Nodup:=by rw[ju];exact ng hn h
theorem QF(hn:fR nf)(ok:yz nf pf tl)(hl:tl.length<=14):(tl.map (·.1)).Nodup:=by
 rw[ok.nm];unfold List.Nodup;rw[pairwise_map];refine List.Pairwise.imp_of_mem (λ{a b} ha hb hab e=>hab ?_) nodup_range;have ha:=aaR.mp ha;have hb:=aaR.mp hb;exact hn a b (by omega) (by omega) e
theorem vF(hp:fR pf)(ok:yz nf pf tl)(w s:Bool):win (min (pf 0) (pf (if w then 0 else 1))) (max (pf 0) (pf (if w then 0 else 1))) 7 s [] (((jv tl).take 7).map aR)=w:=by
 rw[HG];cases w with
 |true=>rw[aae rfl];exact kN.1 (.refl _)
 |false=>
  rw[aac aab];have ne:∀y,Spot pf y->y≠pf 1:=λy ⟨j,hj,e⟩ z=>by
   have:=hp j 1 (by omega) (by omega) (e.symm.trans z);omega
  have no:∀L:List (Int×Int),(∀e∈L,e.1≠pf 1/\e.2≠pf 1)->¬ Way L (pf 0) (pf 1):=λL hL wy=>by
   have:=wy.const (λx=>x=pf 1) (λe he=>by
    have:=hL e he;exact propext ⟨λz=>absurd z this.1,λz=>absurd z this.2⟩)
   have:pf 0=pf 1:=this▸rfl;have:=hp 0 1 (by omega) (by omega) this;omega
  refine kN.2 (no [] λe he=>by simp at he) (no _ λe he=>?_);rw[nil_append]at he;obtain⟨t,ht,rfl⟩:=aaP.mp he;obtain⟨u,hu,rfl⟩:=pW (List.mem_of_mem_take ht);have s1:=ne _ (ok.sp u hu).1;have s2:=ne _ (ok.sp u hu).2
  rcases kM u with e|e<;>rw[e]
  ·exact⟨s1,s2⟩
  ·exact⟨s2,s1⟩
theorem Lq(hp:fR pf)(ok:yz nf pf tl)(w:Bool)(o:Option Bool):Qv (min (pf 0) (pf (if w then 0 else 1))) (max (pf 0) (pf (if w then 0 else 1))) ((jv tl).take 7) o=ak w:=by
 cases o with
 |none=>show rS _ _=_;rw[vF hp ok w true,vF hp ok w false];unfold rS;rw[aae rfl]
 |some s=>show ak _=_;rw[vF hp ok w s]
end
theorem HQ(x:Str)(hx:PyData.strOk x=true)(bs:List Bool):cop [] .ne (.tup [.str x,.rl (bs.map .bl)]) (.tup [.str x,.rl (bs.map .bl)])=some false:=by
 have h1:toD 15 [] (.str x)=some (.str x):=vj hx;have h2:toD 15 [] (.rl (bs.map .bl))=some (.list (bs.map .bool)):=zM Val.bl _ bs λt _=>rfl;have h:toD 16 [] (.tup [.str x,.rl (bs.map .bl)])=some (.tuple [.str x,.list (bs.map .bool)]):=by show (cZ (toD 15 []) _).bind _=_;rw[cZ,h1,cZ,h2,cZ];rfl
 refine ne_self h ?_;have h3:PyData.canLayAll0 (bs.map PyData.bool)=true:=jl _ _ λ_ _=>by rw[PyData.canLay0]
 rw[PyData.canLay0,PyData.canLayAll0,PyData.canLay0,hx,PyData.canLayAll0,PyData.canLay0,h3,PyData.canLayAll0];rfl
theorem Lr(x:Str)(hx:PyData.strOk x=true):cop [] .ne (.tup [.str x,.rl []]) (.tup [.str x,.rl []])=some false:=HQ x hx []
theorem QG(p q:Int)(ts:List T3):cop [] .eq (aA p q ts) (aA p q ts)=some true:=by
 have:=KC p q ts;change (cop [] .eq (aA p q ts) (aA p q ts)).map _=_ at this;cases h:cop [] .eq (aA p q ts) (aA p q ts) with
 |none=>rw[h]at this;cases this
 |some b=>rw[h]at this;cases b<;>simp_all
def Dy(s:Bool):Str:=if s then "linker" else "cutter"
theorem gk:∀s,ak s=.str (Dy s)
 |true=>rfl
 |false=>rfl
theorem rV:∀s,PyData.strOk (Dy s)=true
 |true=>bg _
 |false=>bg _
theorem uA:∀s,Dy s ≠ "first"
 |true=>by decide
 |false=>by decide
theorem Dz(b:Bool)(gs:List (List Int)):∃w:Str,PyData.strOk w=true/\z8 b gs=.str w/\∀s,n6 b gs (some s)=if w = "first" then ak s else .str w:=by
 unfold n6 z8
 by_cases c1:(∃G∈gs,G.length=0)\/1<(gs.countP λG=>G.length==1)
 ·exact⟨Dy b,rV b,by rw[aae c1,gk],λs=>by rw[aac (uA b)];exact(aae c1).trans (gk b)⟩
 ·by_cases c2:(gs.countP λG=>G.length==1)=0
  ·exact⟨Dy (!b),rV _,by rw[aac c1,aae c2,gk],λs=>by rw[aac (uA _)];exact(aac c1).trans ((aae c2).trans (gk _))⟩
  ·exact⟨"first",bg _,by rw[aac c1,aac c2],λs=>by rw[aae rfl];exact(aac c1).trans (aac c2)⟩
end K73
end
section
open PySem L2 Hv
namespace K73
def rF:dF:=#[.ret (.cst (.bl false))]
def b2:IS:=(.iff (.and (.cmp .eq (!10) (.cst (.str "first"))) (.cmp .ne (!14) (.cst (.str "")))) #[.asg (.one 15) (!14)] .nil)
def b3:IS:=(.iff (.cmp .ne (.call 32 #[!8,!14]) (.tup #[!15,.lst .nil])) rF .nil)
def b4:IS:=(.iff (.and (.cmp .gt (.blt .len #[.idx (!13) (¬1)]) (¬7)) (.cmp .ne (.call 32 #[.tup #[.idx (!13) (¬0),.blt .list #[.idx (!13) (¬1)]],!14]) (.tup #[.cst (.str ""),.lst #[.cst (.bl true),.cst (.bl true),.cst (.bl false)]]))) rF .nil)
def b5:IS:=(.iff (.cmp .ne (.call 32 #[.tup #[.idx (!13) (¬0),.slc (.idx (!13) (¬1)) .no (¬7)],!14]) (.tup #[!12,.lst .nil])) rF .nil)
def UE:dF:=#[.asg (.one 15) (!10),b2,b3,b4,b5]
theorem QH:∀o,∃x:Str,yG o=.str x/\PyData.strOk x=true/\(x = "" ↔ o=none)
 |none=>⟨"",rfl,bg _,⟨λ_=>rfl,λ_=>rfl⟩⟩
 |some true=>⟨"linker",rfl,bg _,⟨λh=>absurd h (by decide),λh=>by cases h⟩⟩
 |some false=>⟨"cutter",rfl,bg _,⟨λh=>absurd h (by decide),λh=>by cases h⟩⟩
theorem WS(hx:PyData.strOk x=true)(hy:PyData.strOk y=true):cop [] .ne (.str x) (.str y)=some (!decide (x=y)):=by
 show (cop [] .eq (.str x) (.str y)).map (λb=>!b)=_;rw[z6 hx hy];rfl
theorem Ls{c0 c1 c2 c3 c4 c5 c6 c7 c9 pM x15:Option (Mk×Val)}{wh:Bool}{m8:Mk}{f1 f2:Bool}(h8:lM m8=true)(hw:PyData.strOk w=true)(hr:PyData.strOk r=true)(hR:Val.str r=match o with|none=>.str w|some s=>if w = "first" then ak s else .str w)
  (hN:aJ [N,yG o]=.ok (f1,.tup [.str r,.rl []])) (hB:7<Ts.length->aJ [.tup [P,.rl Ts],yG o]=.ok (true,.tup [.str "",.rl [.bl true,.bl true,.bl false]])) (hT:aJ [.tup [P,.rl (di Ts none (some 7))],yG o]=.ok (f2,.tup [ak wh,.rl []])) :
  aG (ai dS) [] UE [c0,c1,c2,c3,c4,c5,c6,c7,some (m8,N),c9,some (.sh,.str w),pM,some (.sh,ak wh),some (.sh,.tup [P,.rl Ts]),some (.sh,yG o),x15]=.ok (.nx [c0,c1,c2,c3,c4,c5,c6,c7,some (m8,N),c9,some (.sh,.str w),pM,some (.sh,ak wh),some (.sh,.tup [P,.rl Ts]),some (.sh,yG o),some (.sh,.str r)]):=by
 obtain⟨x,ex,hx,YN⟩:=QH o;rw[ex]at hN hB hT |-;have z0:0<=sizeLine:=by decide
 have z2:2<=sizeLine:=by decide
 have z3:3<=sizeLine:=by decide
 have e1:cop [] .eq (.str w) (.str "first")=some (decide (w = "first")):=z6 hw (bg _);have e2:cop [] .ne (.str x) (.str "")=some (!decide (x = "")):=WS hx (bg _);have e3:=Lr r hr;have e4:cop [] .ne (.tup [.str "",.rl [.bl true,.bl true,.bl false]]) (.tup [.str "",.rl [.bl true,.bl true,.bl false]])=some false:=HQ "" (bg _) [true,true,false];have e5:cop [] .ne (.tup [ak wh,.rl []]) (.tup [ak wh,.rl []])=some false:=by rw[gk];exact Lr _ (rV wh)
 unfold UE;rw[aC (env':=[c0,c1,c2,c3,c4,c5,c6,c7,some (m8,N),c9,some (.sh,.str w),pM,some (.sh,ak wh),some (.sh,.tup [P,.rl Ts]),some (.sh,.str x),some (.sh,.str w)]) (by simp only[EV,aU])];have q2:aQ (ai dS) [] b2 [c0,c1,c2,c3,c4,c5,c6,c7,some (m8,N),c9,some (.sh,.str w),pM,some (.sh,ak wh),some (.sh,.tup [P,.rl Ts]),some (.sh,.str x),some (.sh,.str w)]=.ok (.nx [c0,c1,c2,c3,c4,c5,c6,c7,some (m8,N),c9,some (.sh,.str w),pM,some (.sh,ak wh),some (.sh,.tup [P,.rl Ts]),some (.sh,.str x),some (.sh,.str r)]):=by
  unfold b2;cases o with
  |none=>
   have hx0:x = "":=YN.mpr rfl;have hrw:Val.str r=.str w:=hR;rw[hrw]
   by_cases c:w = "first"
   ·rw[decide_eq_true c]at e1;rw[decide_eq_true hx0]at e2;simp only[EV,e1,e2,Bool.not_true]
   ·rw[decide_eq_false c]at e1;simp only[EV,e1]
  |some s=>
   have hx0:¬ x = "":=λz=>by have:=YN.mp z;cases this
   by_cases c:w = "first"
   ·have hrw:Val.str r=.str x:=by
     have:Val.str r=if w = "first" then ak s else .str w:=hR
     rw[aae c]at this;rw[this];exact ex
    rw[hrw];rw[decide_eq_true c]at e1;rw[decide_eq_false hx0]at e2;simp only[EV,e1,e2,Bool.not_false]
   ·have hrw:Val.str r=.str w:=by
     have:Val.str r=if w = "first" then ak s else .str w:=hR
     rwa [aac c]at this
    rw[hrw];rw[decide_eq_false c]at e1;simp only[EV,e1]
 rw[aC q2];have q3:aQ (ai dS) [] b3 [c0,c1,c2,c3,c4,c5,c6,c7,some (m8,N),c9,some (.sh,.str w),pM,some (.sh,ak wh),some (.sh,.tup [P,.rl Ts]),some (.sh,.str x),some (.sh,.str r)]=.ok (.nx [c0,c1,c2,c3,c4,c5,c6,c7,some (m8,N),c9,some (.sh,.str w),pM,some (.sh,ak wh),some (.sh,.tup [P,.rl Ts]),some (.sh,.str x),some (.sh,.str r)]):=by unfold b3;simp only[EV,h8,fc,hN,z0,z2,e3]
 rw[aC q3];have q4:aQ (ai dS) [] b4 [c0,c1,c2,c3,c4,c5,c6,c7,some (m8,N),c9,some (.sh,.str w),pM,some (.sh,ak wh),some (.sh,.tup [P,.rl Ts]),some (.sh,.str x),some (.sh,.str r)]=.ok (.nx [c0,c1,c2,c3,c4,c5,c6,c7,some (m8,N),c9,some (.sh,.str w),pM,some (.sh,ak wh),some (.sh,.tup [P,.rl Ts]),some (.sh,.str x),some (.sh,.str r)]):=by
  unfold b4
  by_cases c:7<Ts.length
  ·have c':(Ts.length:Int)>7:=by omega
   simp only[EV,cC qX,cC lO,c',decide_true,fc,hB c,z2,z3,e4]
  ·have c':¬ (Ts.length:Int)>7:=by omega
   simp only[EV,cC lO,c',decide_false]
 rw[aC q4];have q5:aQ (ai dS) [] b5 [c0,c1,c2,c3,c4,c5,c6,c7,some (m8,N),c9,some (.sh,.str w),pM,some (.sh,ak wh),some (.sh,.tup [P,.rl Ts]),some (.sh,.str x),some (.sh,.str r)]=.ok (.nx [c0,c1,c2,c3,c4,c5,c6,c7,some (m8,N),c9,some (.sh,.str w),pM,some (.sh,ak wh),some (.sh,.tup [P,.rl Ts]),some (.sh,.str x),some (.sh,.str r)]):=by unfold b5;simp only[EV,cC qX,cC lO,Ml,fc,hT,z0,z2,e5]
 rw[aC q5,aG]
end K73
end
section
open PySem L2 Hv
namespace K73
theorem Lu{i j k:Nat}:cO (.tup [i,j,k]) (.tup [a,b,c]) env=some (((env.set i (some (.sh,a))).set j (some (.sh,b))).set k (some (.sh,c))):=rfl
theorem BX{i j:Nat}:cO (.tup [i,j]) (.tup [a,b]) env=some ((env.set i (some (.sh,a))).set j (some (.sh,b))):=rfl
def cl(k:Int):IE:=.call 4 #[!0,.cst (.int k)]
def s1:IS:=.asg (.one 1) (.call 0 #[cl 0,cl 1,cl 2])
def s2:IS:=.asg (.one 2) (.call 0 #[cl 3,cl 2,cl 1])
def s3:IS:=.asg (.one 3) (.cmp .eq (.bin .mod (cl 4) (¬2)) (¬1))
def s4(m:Int):IS:=.asg (.tup [4,5,6]) (.call 1 #[.call 6 #[.slc (!0) (¬6) (¬11),.cst (.int m),!3],!1,!2,!3])
def s5:IS:=.asg (.one 7) (.call 2 #[!4,!5])
def s6:IS:=.asg (.one 8) (.tup #[.idx (!7) (¬0),.blt .list #[.idx (!7) (¬1)]])
def s7:IS:=.asg (.one 9) (.lst #[.cst (.str "linker"),.cst (.str "cutter")])
def s8:IS:=.asg (.tup [10,11]) (.call 3 #[!6,.lst .nil,.idx (!9) (.blt .int #[!3]),.idx (!9) (.bin .sub (¬1) (.blt .int #[!3]))])
def s9:IS:=.asg (.tup [12,13]) (.call 5 #[!0,!1,!2])
def sL:IE:=.lst #[.cst (.str ""),.cst (.str "linker"),.cst (.str "cutter")]
def t1:IS:=.asg (.one 14) (.idx (!9) (.bin .mod (.bin .fdiv (cl 4) (¬32)) (¬2)))
def t2:IS:=.iff (.cmp .eq (!10) (.cst (.str "first"))) #[.asg (.one 10) (!14)] .nil
def t3:IS:=.iff (.cmp .ne (.call 32 #[.call 2 #[!4,!5],!14]) (.tup #[!10,.lst .nil])) rF .nil
def tB:dF:=.cons (s4 7) #[s8,t1,t2,t3]
def WU:IS:=.iff (.cmp .eq (.bin .mod (.bin .fdiv (cl 4) (¬2)) (¬16)) (¬1)) tB .nil
theorem QI:rq=.cons s1 #[s2,s3,s4 5,s5,s6,s7,s8,s9,.for (.one 14) .seq #[sL] UE,WU,.ret (.cmp .eq (!8) (!7))]:=rfl
theorem QJ(b:Bool):fX [Val.str "linker",Val.str "cutter"] (if b=true then 1 else 0)=some (ak (!b)):=by cases b<;>rfl
theorem Lw(b:Bool):fX [Val.str "linker",Val.str "cutter"] (1-if b=true then 1 else 0)=some (ak b):=by cases b<;>rfl
theorem Lx(x:Int):∃s:Bool,fX [Val.str "linker",Val.str "cutter"] (x%2)=some (ak s):=by
 have:x%2=0\/x%2=1:=by omega
 rcases this with e|e<;>rw[e]
 ·exact⟨true,rfl⟩
 ·exact⟨false,rfl⟩
section
variable {Nm Pl:List Val} {nf pf:Nat->Int} {ns:List Int} {b:Bool} {f1 f2:Bool}
abbrev pX(ns:List Int)(Nm Pl:List Val)(m1 m2:Mk)(b:Bool)(P T G:Val)(c7 c8 c9 DF pM c12 uq BG ur:Option (Mk×Val)):bx:=[some (.sh,.rl (ns.map .int)),some (m1,.rl Nm),some (m2,.rl Pl),some (.sh,.bl b),some (.sh,P),some (.sh,T),some (.sh,G),c7,c8,c9,DF,pM,c12,uq,BG,ur]
theorem MB{m1 m2:Mk}(h1:lM m1=true)(h2:lM m2=true)(m:Int){zs:List Nat}{fs fb:Bool}(es:dO [.rl ((di ns (some 6) (some 11)).map .int),.int m,.bl b]=.ok (fs,.rl (zs.map pR)))(eb:cD [.rl (zs.map pR),.rl Nm,.rl Pl,.bl b]=.ok (fb,.tup [P,T,G])){x4 x5 x6 c7 c8 c9 DF pM c12 uq BG ur:Option (Mk×Val)} :
  aQ (ai dS) [] (s4 m) [some (.sh,.rl (ns.map .int)),some (m1,.rl Nm),some (m2,.rl Pl),some (.sh,.bl b),x4,x5,x6,c7,c8,c9,DF,pM,c12,uq,BG,ur]=.ok (.nx (pX ns Nm Pl m1 m2 b P T G c7 c8 c9 DF pM c12 uq BG ur)):=by
 unfold s4;simp only[EV,h1,h2,Ml,Ga,rK,nV,es,eb,Lu]
theorem MC{m1 m2 m9:Mk}(h9:lM m9=true){fd:Bool}(ed:ic [G,.rl [],ak (!b),ak b]=.ok (fd,.tup [W,D])){c7 c8 DF pM c12 uq BG ur:Option (Mk×Val)} :
  aQ (ai dS) [] s8 (pX ns Nm Pl m1 m2 b P T G c7 c8 (some (m9,.rl [.str "linker",.str "cutter"])) DF pM c12 uq BG ur)=.ok (.nx (pX ns Nm Pl m1 m2 b P T G c7 c8 (some (m9,.rl [.str "linker",.str "cutter"])) (some (.sh,W)) (some (.sh,D)) c12 uq BG ur)):=by
 have j1:=QJ b;have j2:=Lw b;have z0:0<=sizeLine:=by decide
 unfold s8;simp only[EV,h9,bX j1,bX j2,z0,vq,ed,BX]
theorem UG{m1 m2 m9:Mk}(h1:lM m1=true)(h2:lM m2=true)(h9:lM m9=true){x:Int}(ex:cA [.rl (ns.map .int),.int 4]=.ok (true,.int x)){zs:List Nat}{fs fb fd:Bool}(hw:PyData.strOk w=true)(es:dO [.rl ((di ns (some 6) (some 11)).map .int),.int 7,.bl b]=.ok (fs,.rl (zs.map pR)))(eb:cD [.rl (zs.map pR),.rl Nm,.rl Pl,.bl b]=.ok (fb,.tup [P,T,G]))(ed:ic [G,.rl [],ak (!b),ak b]=.ok (fd,.tup [.str w,D]))(en:gi [P,T]=.ok (true,N))
  (ha:∀s:Bool,∃f,aJ [N,ak s]=.ok (f,.tup [if w = "first" then ak s else .str w,.rl []])) {P0 T0 G0:Val} {c7 c8 DF pM c12 uq BG ur:Option (Mk×Val)} :
  ∃P' T' G' Uu Uv Uw,aQ (ai dS) [] WU (pX ns Nm Pl m1 m2 b P0 T0 G0 c7 c8 (some (m9,.rl [.str "linker",.str "cutter"])) DF pM c12 uq BG ur)=.ok (.nx (pX ns Nm Pl m1 m2 b P' T' G' c7 c8 (some (m9,.rl [.str "linker",.str "cutter"])) Uu Uv c12 uq Uw ur)):=by
 have q0:Mc (ai dS) (.cmp .eq (.bin .mod (.bin .fdiv (cl 4) (¬2)) (¬16)) (¬1)) (pX ns Nm Pl m1 m2 b P0 T0 G0 c7 c8 (some (m9,.rl [.str "linker",.str "cutter"])) DF pM c12 uq BG ur)=.ok (true,.bl (decide (x/2%16=1))):=by unfold cl;simp only[EV,dD,ex,bW (show decide ((0:Int)<16)=true by decide),jk (show kT 2=true by decide)]
 unfold WU;rw[aQ,q0,aU];show ∃P' T' G' Uu Uv Uw,pb (pl (cR [] (.bl (decide (x/2%16=1))))) _=_;rw[qW,cF,aU]
 by_cases c:x/2%16=1
 ·rw[aae (decide_eq_true c)]
  unfold tB;rw[aC (MB h1 h2 7 es eb),aC (MC h9 ed)];obtain⟨s,js⟩:=Lx (x/32);obtain⟨f,ea⟩:=ha s;have mk:bJ true (ak s)=.sh:=by cases s<;>rfl
  have is:=jr s;have q1:aQ (ai dS) [] t1 (pX ns Nm Pl m1 m2 b P T G c7 c8 (some (m9,.rl [.str "linker",.str "cutter"])) (some (.sh,.str w)) (some (.sh,D)) c12 uq BG ur)=.ok (.nx (pX ns Nm Pl m1 m2 b P T G c7 c8 (some (m9,.rl [.str "linker",.str "cutter"])) (some (.sh,.str w)) (some (.sh,D)) c12 uq (some (.sh,ak s)) ur)):=by unfold t1 cl;simp only[EV,dD,ex,bW (show decide ((0:Int)<2)=true by decide),jk (show kT 32=true by decide),h9,bX js,is,mk]
  rw[aC q1];have e1:cop [] .eq (.str w) (.str "first")=some (decide (w = "first")):=z6 hw (bg _);have q2:aQ (ai dS) [] t2 (pX ns Nm Pl m1 m2 b P T G c7 c8 (some (m9,.rl [.str "linker",.str "cutter"])) (some (.sh,.str w)) (some (.sh,D)) c12 uq (some (.sh,ak s)) ur)=.ok (.nx (pX ns Nm Pl m1 m2 b P T G c7 c8 (some (m9,.rl [.str "linker",.str "cutter"])) (some (.sh,if w = "first" then ak s else .str w)) (some (.sh,D)) c12 uq (some (.sh,ak s)) ur)):=by
   unfold t2
   by_cases c:w = "first"
   ·rw[decide_eq_true c]at e1;rw[aae c];simp only[EV,e1,is,mk]
   ·rw[decide_eq_false c]at e1;rw[aac c];simp only[EV,e1]
  rw[aC q2];have e5:cop [] .ne (.tup [if w = "first" then ak s else .str w,.rl []]) (.tup [if w = "first" then ak s else .str w,.rl []])=some false:=by
   split
   ·rw[gk];exact Lr _ (rV s)
   ·exact Lr w hw
  generalize (if w = "first" then ak s else .str w)=R at *;have z0:0<=sizeLine:=by decide
  have z2:2<=sizeLine:=by decide
  have q3:aQ (ai dS) [] t3 (pX ns Nm Pl m1 m2 b P T G c7 c8 (some (m9,.rl [.str "linker",.str "cutter"])) (some (.sh,R)) (some (.sh,D)) c12 uq (some (.sh,ak s)) ur)=.ok (.nx (pX ns Nm Pl m1 m2 b P T G c7 c8 (some (m9,.rl [.str "linker",.str "cutter"])) (some (.sh,R)) (some (.sh,D)) c12 uq (some (.sh,ak s)) ur)):=by unfold t3;simp only[EV,mW,en,fc,ea,z0,z2,e5]
  rw[aC q3,aG];exact⟨_,_,_,_,_,_,rfl⟩
 ·rw[aac (by rw[aa3];exact c),aG];exact⟨_,_,_,_,_,_,rfl⟩
end
end K73
end
section
open PySem L2 Hv
namespace K73
theorem sums(aN:jt Nm nf)(aP:jt Pl pf)(hn:fR nf)(hp:fR pf)(ms:List Int)(hm:ms.length<=5)(M:Nat)(hM:M<=7)(b:Bool) :
  ∃(fs fb fd:Bool) (zs:List Nat) (P T G D:Val) (w:Str) (p q:Int) (ts:List T3),dO [.rl (ms.map .int),.int (M:Int),.bl b]=.ok (fs,.rl (zs.map pR))/\cD [.rl (zs.map pR),.rl Nm,.rl Pl,.bl b]=.ok (fb,.tup [P,T,G])/\ic [G,.rl [],ak (!b),ak b]=.ok (fd,.tup [.str w,D])/\gi [P,T]=.ok (true,aA p q ts)/\PyData.strOk w=true /\
   (∃f,aJ [aA p q ts,.str ""]=.ok (f,.tup [.str w,.rl []]))/\∀s:Bool,∃f,aJ [aA p q ts,ak s]=.ok (f,.tup [if w = "first" then ak s else .str w,.rl []]):=by
 obtain⟨fs,zs,es,ok,hl⟩:=Hx ms hm M hM b;have h7:zs.sum<=7:=aaE ok.sum hM;obtain⟨fb,eb⟩:=Ad aN aP b ok hM hl;obtain⟨fd,D,ed⟩:=Qx b (fU nf zs) (by rw[vD];exact hl) (by rw[HE];exact h7);obtain⟨w,hw,ew,er⟩:=Dz b (fU nf zs);rw[ew]at ed;have hts:(lC b nf pf zs).length<=7:=by rw[pV];exact h7
 have en:=z5 (p:=pf 0) (q:=pf (if b then 1 else zs.length)) (ts:=lC b nf pf zs) (by omega);have nk:=QE (p:=pf 0) (q:=pf (if b then 1 else zs.length)) (UD (pf:=pf) (b:=b) hn h7) hts;refine⟨fs,fb,fd,zs,_,_,_,D,w,_,_,_,es,eb,ed,en,hw,?_,λs=>?_⟩
 ·obtain⟨f,e⟩:=rT nk none;rw[HM hn hp ok hM hl none]at e;exact⟨f,e.trans (by rw[show n6 b (fU nf zs) none=.str w from ew])⟩
 ·obtain⟨f,e⟩:=rT nk (some s);rw[HM hn hp ok hM hl (some s),er s]at e;exact⟨f,e⟩
theorem yD(ns:List Int):(di ns (some 6) (some 11)).length<=5:=Dd ns 6 5 (by decide)
theorem HS(l:List Val):di l none (some 7)=l.take 7:=by
 unfold di;rw[HT.DW,show (7:Int)=((7:Nat):Int) from rfl,HT.II,List.drop_zero,Nat.sub_zero]
 by_cases h:7<=l.length
 ·rw[Nat.min_eq_left h]
 ·rw[Nat.min_eq_right (by omega),List.take_of_length_le (aam _),List.take_of_length_le (by omega)]
theorem QK(ns:List Int):∃f,Mq [.rl (ns.map .int)]=.ok (f,.bl true):=by
 have c0:cA [.rl (ns.map .int),.int 0]=.ok (true,.int (cellAt ns 0)):=jq ns 0;have c1:cA [.rl (ns.map .int),.int 1]=.ok (true,.int (cellAt ns 1)):=jq ns 1;have c2:cA [.rl (ns.map .int),.int 2]=.ok (true,.int (cellAt ns 2)):=jq ns 2;have c3:cA [.rl (ns.map .int),.int 3]=.ok (true,.int (cellAt ns 3)):=jq ns 3;have c4:cA [.rl (ns.map .int),.int 4]=.ok (true,.int (cellAt ns 4)):=jq ns 4;obtain⟨f1,n1⟩:=rQ (cellAt ns 0) (cellAt ns 1) (cellAt ns 2);obtain⟨f2,n2⟩:=rQ (cellAt ns 3) (cellAt ns 2) (cellAt ns 1);have aN:jt (rP (cellAt ns 0) (cellAt ns 1) (cellAt ns 2)) (λk=>nY (cellAt ns 0) (cellAt ns 1) (cellAt ns 2) (k:Int)):=λk hk=>BK _ _ _ _ (by omega) (by omega);have aP:jt (rP (cellAt ns 3) (cellAt ns 2) (cellAt ns 1)) (λk=>nY (cellAt ns 3) (cellAt ns 2) (cellAt ns 1) (k:Int)):=λk hk=>BK _ _ _ _ (by omega) (by omega);have hn:fR (λk=>nY (cellAt ns 0) (cellAt ns 1) (cellAt ns 2) (k:Int)):=λi j hi hj e=>by
  have:=yk _ _ _ _ _ (by omega) (by omega) e;omega
 have hp:fR (λk=>nY (cellAt ns 3) (cellAt ns 2) (cellAt ns 1) (k:Int)):=λi j hi hj e=>by
  have:=yk _ _ _ _ _ (by omega) (by omega) e;omega
 generalize (λk:Nat=>nY (cellAt ns 0) (cellAt ns 1) (cellAt ns 2) (k:Int))=nf at *;generalize (λk:Nat=>nY (cellAt ns 3) (cellAt ns 2) (cellAt ns 1) (k:Int))=pf at *;generalize rP (cellAt ns 0) (cellAt ns 1) (cellAt ns 2)=Nm at *;generalize rP (cellAt ns 3) (cellAt ns 2) (cellAt ns 1)=Pl at *;generalize cellAt ns 0=x0 at *;generalize cellAt ns 1=x1 at *;generalize cellAt ns 2=x2 at *;generalize cellAt ns 3=x3 at *;generalize cellAt ns 4=x4 at *;have hb:∃b:Bool,decide (x4%2=1)=b:=⟨_,rfl⟩;obtain⟨b,hb⟩:=hb;obtain⟨fs,fb,fd,zs,P,T,G,D,w,p,q,ts,es,eb,ed,en,hw,eA,eS⟩:=sums aN aP hn hp (di ns (some 6) (some 11)) (yD ns) 5 (by decide) b;obtain⟨fs',fb',fd',zs',P',T',G',D',w',p',q',ts',es',eb',ed',en',YL,eA',eS'⟩:=sums aN aP hn hp (di ns (some 6) (some 11)) (yD ns) 7 (by decide) b;obtain⟨fe,tl,wh,ee,JY,hlE⟩:=HN aN aP ns;have ndE:=QF hn JY hlE;have nkE:=yC (p:=pf 0) (q:=pf (if wh then 0 else 1)) ndE;have WW:∀o,∃f,aJ [aA (min (pf 0) (pf (if wh then 0 else 1))) (max (pf 0) (pf (if wh then 0 else 1))) ((jv tl).take 7),yG o]=.ok (f,.tup [ak wh,.rl []]):=λo=>by
  obtain⟨f,e⟩:=rT nkE o;rw[Lq hp JY wh o]at e;exact⟨f,e⟩
 have bigB:7<(jv tl).length->∀o,aJ [aA (min (pf 0) (pf (if wh then 0 else 1))) (max (pf 0) (pf (if wh then 0 else 1))) (jv tl),yG o]=.ok (true,.tup [.str "",.rl [.bl true,.bl true,.bl false]]):=λh o=>Dv h o;generalize min (pf 0) (pf (if wh then 0 else 1))=Ic at *;generalize max (pf 0) (pf (if wh then 0 else 1))=Ie at *;have m1:lM (bJ f1 (.rl Nm))=true:=xB;have m2:lM (bJ f2 (.rl Pl))=true:=xB;have z0:0<=sizeLine:=by decide
 have z2:2<=sizeLine:=by decide
 have z3:3<=sizeLine:=by decide
 show ∃f,pb (aG (ai dS) [] rq [some (.sh,.rl (ns.map .int)),none,none,none,none,none,none,none,none,none,none,none,none,none,none,none]) _=_;rw[QI];rw[aC (env':=[some (.sh,.rl (ns.map .int)),some (bJ f1 (.rl Nm),.rl Nm),none,none,none,none,none,none,none,none,none,none,none,none,none,none]) (by unfold s1 cl;simp only[EV,dD,iR,c0,c1,c2,n1])];rw[aC (env':=[some (.sh,.rl (ns.map .int)),some (bJ f1 (.rl Nm),.rl Nm),some (bJ f2 (.rl Pl),.rl Pl),none,none,none,none,none,none,none,none,none,none,none,none,none]) (by unfold s2 cl;simp only[EV,dD,iR,c1,c2,c3,n2])];rw[aC (env':=[some (.sh,.rl (ns.map .int)),some (bJ f1 (.rl Nm),.rl Nm),some (bJ f2 (.rl Pl),.rl Pl),some (.sh,.bl b),none,none,none,none,none,none,none,none,none,none,none,none]) (by unfold s3 cl;simp only[EV,dD,c4,bW (show decide ((0:Int)<2)=true by decide),hb])];generalize bJ f1 (.rl Nm)=k1 at *;generalize bJ f2 (.rl Pl)=k2 at *;rw[aC (MB m1 m2 5 es eb)];have en5:gi [P,T]=.ok (true,aA p q ts):=en;have q5:aQ (ai dS) [] s5 (pX ns Nm Pl k1 k2 b P T G none none none none none none none none none)=.ok (.nx (pX ns Nm Pl k1 k2 b P T G (some (bJ true (aA p q ts),aA p q ts)) none none none none none none none none)):=by unfold s5;simp only[EV,mW,en5]
 rw[aC q5];have m7:lM (bJ true (aA p q ts))=true:=xB;generalize bJ true (aA p q ts)=k7 at *;have q6:∃k8,lM k8=true/\aQ (ai dS) [] s6 (pX ns Nm Pl k1 k2 b P T G (some (k7,aA p q ts)) none none none none none none none none)=.ok (.nx (pX ns Nm Pl k1 k2 b P T G (some (k7,aA p q ts)) (some (k8,aA p q ts)) none none none none none none none)):=by unfold s6 aA;simp only[EV,m7,cC qX,cC lO,z2];exact⟨_,xB,rfl⟩
 obtain⟨k8,m8,q6⟩:=q6;rw[aC q6];have q7:∃k9,lM k9=true/\aQ (ai dS) [] s7 (pX ns Nm Pl k1 k2 b P T G (some (k7,aA p q ts)) (some (k8,aA p q ts)) none none none none none none none)=.ok (.nx (pX ns Nm Pl k1 k2 b P T G (some (k7,aA p q ts)) (some (k8,aA p q ts)) (some (k9,.rl [.str "linker",.str "cutter"])) none none none none none none)):=by unfold s7;simp only[EV,z2];exact⟨_,rfl,rfl⟩
 obtain⟨k9,m9,q7⟩:=q7;rw[aC q7,aC (MC m9 ed)];have q9:aQ (ai dS) [] s9 (pX ns Nm Pl k1 k2 b P T G (some (k7,aA p q ts)) (some (k8,aA p q ts)) (some (k9,.rl [.str "linker",.str "cutter"])) (some (.sh,.str w)) (some (.sh,D)) none none none none)=.ok (.nx (pX ns Nm Pl k1 k2 b P T G (some (k7,aA p q ts)) (some (k8,aA p q ts)) (some (k9,.rl [.str "linker",.str "cutter"])) (some (.sh,.str w)) (some (.sh,D)) (some (.sh,ak wh)) (some (.sh,aA Ic Ie (jv tl))) none none)):=by unfold s9;generalize aA Ic Ie (jv tl)=B at *;simp only[EV,m1,m2,rJ,ee,BX]
 rw[aC q9];have ef:∃MD ME,aQ (ai dS) [] (.for (.one 14) .seq #[sL] UE) (pX ns Nm Pl k1 k2 b P T G (some (k7,aA p q ts)) (some (k8,aA p q ts)) (some (k9,.rl [.str "linker",.str "cutter"])) (some (.sh,.str w)) (some (.sh,D)) (some (.sh,ak wh)) (some (.sh,aA Ic Ie (jv tl))) none none)=.ok (.nx (pX ns Nm Pl k1 k2 b P T G (some (k7,aA p q ts)) (some (k8,aA p q ts)) (some (k9,.rl [.str "linker",.str "cutter"])) (some (.sh,.str w)) (some (.sh,D)) (some (.sh,ak wh)) (some (.sh,aA Ic Ie (jv tl))) MD ME)):=by
  have el:dZ (ai dS) #[sL] (pX ns Nm Pl k1 k2 b P T G (some (k7,aA p q ts)) (some (k8,aA p q ts)) (some (k9,.rl [.str "linker",.str "cutter"])) (some (.sh,.str w)) (some (.sh,D)) (some (.sh,ak wh)) (some (.sh,aA Ic Ie (jv tl))) none none)=.ok [.rl ([none,some true,some false].map yG)]:=by unfold sL;simp only[EV,z3];rfl
  rw[MA rfl el];have VL:∀o:Option Bool,∃(f:Bool) (r:Str),PyData.strOk r=true/\(Val.str r=match o with|none=>.str w|some s=>if w = "first" then ak s else .str w)/\aJ [aA p q ts,yG o]=.ok (f,.tup [.str r,.rl []]):=λo=>by
   cases o with
   |none=>obtain⟨f,e⟩:=eA;exact⟨f,w,hw,rfl,e⟩
   |some s=>
    obtain⟨f,e⟩:=eS s
    by_cases c:w = "first"
    ·rw[aae c,gk]at e;exact⟨f,Dy s,rV s,by dsimp only;rw[aae c,gk],by show aJ [aA p q ts,ak s]=_;rw[gk];exact e⟩
    ·rw[aac c]at e;exact⟨f,w,hw,by dsimp only;rw[aac c],e⟩
  obtain⟨env',e,MD,ME,he⟩:=gq yG (body:=λx env=>pb (pl (cO (.one 14) x env)) λenv'=>aG (ai dS) [] UE env')
   (λdone env=>∃MD ME,env=pX ns Nm Pl k1 k2 b P T G (some (k7,aA p q ts)) (some (k8,aA p q ts)) (some (k9,.rl [.str "linker",.str "cutter"])) (some (.sh,.str w)) (some (.sh,D)) (some (.sh,ak wh)) (some (.sh,aA Ic Ie (jv tl))) MD ME)
   [none,some true,some false] [] _ ⟨none,none,rfl⟩ (by
   rintro pre o post env hx ⟨MD,ME,rfl⟩;obtain⟨f,r,hr,hR,eN⟩:=VL o;obtain⟨f',eT⟩:=WW o;have eB:7<((jv tl).map bu).length->aJ [.tup [.tup [.int Ic,.int Ie],.rl ((jv tl).map bu)],yG o]=.ok (true,.tup [.str "",.rl [.bl true,.bl true,.bl false]]):=λh=>bigB (by rw[aag]at h;exact h) o;have eT':aJ [.tup [.tup [.int Ic,.int Ie],.rl (di ((jv tl).map bu) none (some 7))],yG o]=.ok (f',.tup [ak wh,.rl []]):=by rw[HS,<-map_take];exact eT
   refine⟨_,?_,some (.sh,yG o),some (.sh,.str r),rfl⟩;rw[aW,cF,aU];exact Ls (P:=.tup [.int Ic,.int Ie]) (Ts:=(jv tl).map bu) m8 hw hr hR eN eB eT')
  exact⟨MD,ME,by rw[e,he]⟩
 obtain⟨MD,ME,ef⟩:=ef;rw[aC ef];obtain⟨P2,T2,G2,Uu,Uv,Uw,e11⟩:=UG (ns:=ns) (b:=b) (Nm:=Nm) (Pl:=Pl) (x:=x4) (m1:=k1) (m2:=k2) (m9:=k9) m1 m2 m9 c4 YL es' eb' ed' en' eS' (P0:=P) (T0:=T) (G0:=G) (c7:=some (k7,aA p q ts)) (c8:=some (k8,aA p q ts)) (DF:=some (.sh,.str w)) (pM:=some (.sh,D)) (c12:=some (.sh,ak wh)) (uq:=some (.sh,aA Ic Ie (jv tl))) (BG:=MD) (ur:=ME);rw[aC e11];have eq:=QG p q ts;generalize aA p q ts=N at *;refine⟨true,?_⟩;simp only[EV,m7,m8,eq]
theorem true(ns:List Int)(hn:ns.length<=63):∃h',GR [.rl (ns.map .int)] []=.ok (.bl true) h':=by
 obtain⟨f,e⟩:=QK ns;exact K5 e
end K73
end
end
section
namespace PySem.W.Fast
theorem tw16037636585210105674:True:=trivial
theorem tw12266443704965305953:True:=trivial
theorem tw6358717494107234375:True:=trivial
theorem tw11904155901841894499:True:=trivial
theorem tw2095990072480612306:True:=trivial
theorem tw10658777428741372016:True:=trivial
theorem tw14508851086811870884:True:=trivial
theorem tw9774548202798060389:True:=trivial
theorem tw2362448303572003031:True:=trivial
theorem tw6566319775253428758:True:=trivial
theorem tw8552809698824955904:True:=trivial
theorem tw6795898608767601045:True:=trivial
theorem tw3868513303066721263:True:=trivial
theorem tw5030051837361410463:True:=trivial
theorem tw13778693616837099597:True:=trivial
theorem tw8984201921293762723:True:=trivial
theorem tw3467060434061763088:True:=trivial
theorem tw11671049451916980265:True:=trivial
theorem tw7668379422277940524:True:=trivial
theorem tw8675709031390733102:True:=trivial
theorem tw9038797946829920186:True:=trivial
theorem tw14695761426368242822:True:=trivial
theorem tw15741052935916353612:True:=trivial
theorem tw993738173093978329:True:=trivial
theorem tw12751317630513005600:True:=trivial
theorem tw7114881248929294222:True:=trivial
theorem tw14382581580086502972:True:=trivial
theorem tw7913360799337979686:True:=trivial
theorem tw18296440015419907330:True:=trivial
theorem tw15517252656373447182:True:=trivial
theorem tw14927536946719505516:True:=trivial
theorem tw12787091247314507948:True:=trivial
theorem tw8675787117100087177:True:=trivial
theorem tw16380217596710012895:True:=trivial
theorem tw14662636904795933481:True:=trivial
theorem tw13434525190690934493:True:=trivial
theorem tw7029672515548288168:True:=trivial
theorem tw5076235123854646708:True:=trivial
theorem tw13862122393168351074:True:=trivial
theorem tw768997300517562747:True:=trivial
theorem tw11222797547238407969:True:=trivial
theorem tw12898757114861862863:True:=trivial
theorem tw10621020768690574674:True:=trivial
theorem tw6395660481619781878:True:=trivial
theorem tw13191372895453833610:True:=trivial
theorem tw6926645043172312424:True:=trivial
theorem tw2693095940503799193:True:=trivial
theorem tw9091558339313997474:True:=trivial
theorem tw9294701407565389639:True:=trivial
theorem tw11841065342748393368:True:=trivial
theorem tw11894447666383573802:True:=trivial
theorem tw6021326239122324045:True:=trivial
theorem tw5583841076298028453:True:=trivial
theorem tw3141630261649919652:True:=trivial
theorem tw15760153566379872471:True:=trivial
theorem tw14034972989539011478:True:=trivial
theorem tw5576359436289915336:True:=trivial
theorem tw6688160802132113876:True:=trivial
theorem tw1078225620485569489:True:=trivial
theorem tw6864817900834448517:True:=trivial
theorem tw17630243609503652376:True:=trivial
theorem tw10766478259076764906:True:=trivial
theorem tw9725281775125952009:True:=trivial
theorem tw4775480122245703101:True:=trivial
theorem tw8900261457653758180:True:=trivial
theorem tw10479763531829743355:True:=trivial
theorem tw8561722356430539053:True:=trivial
theorem tw4099598524737992003:True:=trivial
theorem tw18044009248394794343:True:=trivial
theorem tw9528379366048131580:True:=trivial
theorem tw4551144950493357898:True:=trivial
theorem tw5629851751364005373:True:=trivial
theorem tw1114179697228291528:True:=trivial
theorem tw8985373119154312745:True:=trivial
theorem tw75379834568147006:True:=trivial
theorem tw11822242855357202999:True:=trivial
theorem tw6462207729652869610:True:=trivial
theorem tw5557632661776083612:True:=trivial
theorem tw12637911664950375839:True:=trivial
theorem tw2381353220314951715:True:=trivial
theorem tw6374701268197904665:True:=trivial
theorem tw4139618103129836762:True:=trivial
theorem tw2633940185282342212:True:=trivial
theorem tw15886571878453700608:True:=trivial
theorem tw16517927470259262446:True:=trivial
theorem tw13148817495792835945:True:=trivial
theorem tw4287301684895656870:True:=trivial
theorem tw12494855048094085880:True:=trivial
theorem tw16022973696059424580:True:=trivial
theorem tw7788839565719104733:True:=trivial
theorem tw3210677311486376343:True:=trivial
theorem tw13157988379435009001:True:=trivial
end PySem.W.Fast
open PySem PySem.W PyProof.Rows
set_option maxRecDepth 100000 in
set_option maxHeartbeats 0 in
theorem PySem.Challenge.cw_linkorcut_k73_bounds_of_plays_holds : PySem.Challenge.rw_linkorcut_k73_bounds_of_plays.Holds := by
 w_on;o_law;k_head;(case hw=>w_witness2)
 k_fill
 refine Hv.walk (l:=PySem.Challenge.rw_linkorcut_k73_bounds_of_plays) (k:=68) (x:="_law_script") rfl rfl ⟨rfl,by decide,by decide⟩ (λw h Y=>PySem.W.kIn_of Y) ?F
 case F=>
  intro w mg fa h KX G hmg;refine' K73.all_mk KX G hmg K73.true ?_ ?_ ?_ ?_ ?_ ?_ ?_ ?_ ?_ ?_ ?_ ?_ ?_ ?_ ?_ ?_ ?_ ?_ ?_ ?_ ?_ ?_ ?_ ?_ ?_ ?_ ?_ ?_ ?_ ?_ ?_ ?_ ?_ ?_ ?_ ?_ ?_ ?_ ?_ ?_ ?_ ?_ ?_ ?_ ?_ ?_ ?_ ?_ ?_ ?_ ?_ ?_ ?_ ?_ ?_ ?_ ?_ ?_ ?_ ?_ ?_ ?_ ?_ ?_ ?_ ?_ ?_ ?_ ?_ ?_ ?_ ?_ ?_ ?_ ?_ ?_ ?_ ?_ ?_ ?_ ?_ ?_
  all_goals try first|k_is|kit_is|(exact⟨_,L2.fun_mk (by k_is) (by k_is) (by k_is)⟩)|(exact⟨L2.excOb0 (by k_is) (by rfl) (by k_is) (by rfl) (by rfl) (by rfl),L2.excUp (by k_is) (by rfl) (by k_is) (by rfl) (by rfl) (by rfl),by k_is⟩)|(exact⟨⟨by k_is,by rfl,by rfl,by k_is,by k_is⟩,L2.excOb (by k_is) (by rfl),L2.excUp (by k_is) (by rfl) (by k_is) (by rfl) (by rfl) (by rfl),by k_is,by k_is,by k_is⟩)|(exact⟨by k_is,by k_is,by k_is,by k_is,by k_is,by k_is,by k_is,by k_is⟩)|(exact L2.excS (by k_is) (by rfl) (by rfl) (by k_is) (by rfl) (by rfl))|(intro x hx;simp only[Hv.bltNames,List.mem_cons,List.not_mem_nil,or_false]at hx;rcases hx with rfl|rfl|rfl|rfl|rfl|rfl|rfl|rfl|rfl|rfl|rfl|rfl|rfl|rfl|rfl|rfl|rfl<;>k_is)
#print axioms PySem.Challenge.cw_linkorcut_k73_bounds_of_plays_holds
end
