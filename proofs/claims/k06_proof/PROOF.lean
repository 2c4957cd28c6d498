import PyProof.Rows.All
import Wide.All
import OpenK.AllK
import Wide.FinOn
import Lean
import PyProof.EqAt
import PyProof.EqKinds
import PyProof.TupleCall
import KE.KDictList
import KE.KDictLaws
import KE.KDictSum
import KE.KRevSl
import PyProof.DictWalks
import KE.KIntText
import PyProof.StrWalks
import PyProof.MeetsStr
import PyProof.ExcInit
import PyProof.ExcClass2
import PyProof.StationsW
import PyProof.InstStore
import PyProof.InstStoreFacts
import PyProof.ExcBaseAll.ValueError
import PyProof.RulesAs
import PyProof.NsDelKeeps
import PyProof.ExcAttrAll.ValueError
import KE.KIsAll
import PySem.Challenge.RW_linkorcut_k06_rows_refused
set_option Elab.async false
set_option compiler.extract_closed false
set_option linter.all false
set_option maxRecDepth 100000
set_option maxHeartbeats 4000000
set_option genSizeOf false
set_option backward.eqns.nonrecursive false
set_option backward.eqns.deepRecursiveSplit false
set_option bootstrap.genMatcherCode false
set_option hygiene false
local macro_rules
|`(def $n:declId $s:optDeclSig $v:declVal)=>`(noncomputable def $n:declId $s:optDeclSig $v:declVal)
|`(abbrev $n:declId $s:optDeclSig $v:declVal)=>`(noncomputable abbrev $n:declId $s:optDeclSig $v:declVal)
local macro_rules
|`(#[$a])=>`(.cons $a .nil)
|`(#[$a,$as,*])=>`(.cons $a #[$as,*])
local macro_rules
|`(!$n:num)=>`(.var $n)
local macro_rules
|`(¬$n:num)=>`(.cst (.int $n))
set_option hygiene true
open Array(all_toList getElem?_eq_none getElem?_toList toList toList_inj)
open Bool(and_eq_true false_eq_true not_eq_true' or_eq_true)
open PySem.Heap(get?_update_ne get?_update_other)
open List(all_cons all_map any_cons any_map cons_append contains_cons drop_zero ext_getElem filterMap_cons find?_cons forIn_cons getElem?_cons_succ getElem_map length length_append length_cons length_drop length_map length_nil length_range length_take lookup_cons map_append map_congr_left map_cons map_id map_map map_nil mem_append mem_append_left mem_cons mem_filterMap mem_map mem_range nil_append nodup_append nodup_cons nodup_nil not_mem_nil of_mem_zip pairwise_cons pairwise_map prefix_append range' replicate size_toArray take_of_length_le toArray)
open Nat(le_of_lt le_succ lt_or_ge lt_succ_of_lt lt_succ_self lt_trans mod_lt ne_of_gt zero_add zero_le)
open Option(bind_some getD_none isSome_map map_some)
open PySem.W(any_some callWith_K callWith_K0 cellsFrom_some codeIn eq_sortI findIn findObj handedIn hasDictIn hideAll hideAll_get hideAll_none kat_lt keepIn kia_one kitAny kitOne kitx_list lookIn looks_clsIn looks_find looks_findIn looks_mroIn methodObj mg_none_of notCls of_hideAll osa_eq sortI_perm specialIn takesIn typeIn)
def aaa:=@PySem.wpAny_bind
def aab:=@Bool.false_ne_true
def aac:=@Option.bind_eq_some_iff
def aad:=@PySem.Heap.get?_push_of_some
def aae:=@List.mem_cons_of_mem
def aaf:=@List.length_map
def aag:=@PySem.wpAny_pure
def aah:=@List.mem_cons_self
def aai:=@List.getElem?_eq_some_iff
def aaj:=@if_neg
def aak:=@List.getElem?_set_ne
def aal:=@Nat.le_refl
def aam:=@PySem.Heap.lt_size
def aan:=@if_pos
def aao:=@Nat.lt_of_lt_of_le
def aap:=@PySem.W.mg_of
def aaq:=@PySem.Heap.get?_push_size
def aar:=@List.map_cons
def aas:=@List.size_toArray
def aat:=@Nat.ne_of_lt
def aau:=@List.mem_cons
def aav:=@List.getElem?_eq_getElem
def aaw:=@List.getElem?_set_self
def aax:=@List.getElem?_append_left
def aay:=@List.mem_singleton
def aaz:=@of_decide_eq_true
def aaA:=@List.mem_of_getElem?
def aaB:=@List.length_cons
def aaC:=@List.prefix_refl
def aaD:=@Option.map_eq_some_iff
def aaE:=@List.length_append
def aaF:=@List.getElem?_map
def aaG:=@List.getElem?_append_right
def aaH:=@Option.some.inj
def aaI:=@Array.length_toList
def aaJ:=@List.mem_append_right
def aaK:=@Nat.le_trans
def aaL:=@PySem.wpAny_mono
def aaM:=@PySem.Heap.get?_update_self
def aaN:=@PySem.wpAny_newObj_type
def aaO:=@Classical.choose_spec
def aaP:=@List.append_nil
def aaQ:=@List.all_eq_true
def aaR:=@Nat.lt_irrefl
open PySem.W(Frag sortI nsIn fnOf isFn)
section
namespace L2
open PySem PySem.Spec PyProof.Rows
abbrev Key:=Sum Int Str
def sd:Key->Value->Bool
 |.inl k,v=>Value.isInt k v
 |.inr x,v=>Value.isStrOf x v
def U1(w:World):Key->Int
 |.inl k=>hashInt k
 |.inr x=>hashStr w x
theorem bY:∀{k:Key} {v:Value},sd k v=true->(∃i t,k=Sum.inl i/\v=Value.int i t)\/(∃x t,k=Sum.inr x/\v=Value.str x t)
 | .inl i,v,h=>by
  obtain⟨t,e⟩:=Value.isInt_shape (k:=i) (v:=v) h;exact .inl ⟨i,t,rfl,e⟩
 | .inr x,v,h=>by
  obtain⟨t,e⟩:=Value.isStrOf_shape (x:=x) (v:=v) h;exact .inr ⟨x,t,rfl,e⟩
theorem Bx(i:Int)(t:Tok):sd (.inl i) (.int i t)=true:=by simp[sd,Value.isInt]
theorem By(x:Str)(t:Tok):sd (.inr x) (.str x t)=true:=by simp[sd,Value.isStrOf]
theorem L4(a b:Int):decide ((Sum.inl a:Key)=Sum.inl b)=(a==b):=by
 by_cases e:a=b
 ·subst e;simp
 ·have h:¬ (Sum.inl a:Key)=Sum.inl b:=λq=>e (Sum.inl.inj q);rw[decide_eq_false h];exact(beq_eq_false_iff_ne.mpr e).symm
theorem L5(a b:Str):decide ((Sum.inr a:Key)=Sum.inr b)=decide (a=b):=by
 by_cases e:a=b
 ·subst e;simp
 ·have h:¬ (Sum.inr a:Key)=Sum.inr b:=λq=>e (Sum.inr.inj q);rw[decide_eq_false h,decide_eq_false e]
theorem L6(a:Int)(b:Str):decide ((Sum.inl a:Key)=Sum.inr b)=false:=decide_eq_false (λq=>nomatch q)
theorem L7(a:Str)(b:Int):decide ((Sum.inr a:Key)=Sum.inl b)=false:=decide_eq_false (λq=>nomatch q)
def ck(prog:Program)(w:World):PySem.KeyKind prog w Key where
 is:=sd
 hash:=U1 w
 inj:=λv a b ha hb=>by
  rcases bY ha with ⟨i,t,rfl,rfl⟩|⟨x,t,rfl,rfl⟩
  ·rcases bY hb with ⟨j,u,rfl,e⟩|⟨y,u,rfl,e⟩
   ·injection e with e1 _;rw[e1]
   ·exact nomatch e
  ·rcases bY hb with ⟨j,u,rfl,e⟩|⟨y,u,rfl,e⟩
   ·exact nomatch e
   ·injection e with e1 _;rw[e1]
 byValue:=λk v h=>by
  rcases bY h with ⟨i,t,rfl,rfl⟩|⟨x,t,rfl,rfl⟩<;>rfl
 pyHash:=λhv h=>by
  rcases bY hv with ⟨i,t,rfl,rfl⟩|⟨x,t,rfl,rfl⟩
  ·exact wpAny_pyHash_int h
  ·exact wpAny_pyHash_str h
 eqBool:=λhu hv h=>by
  rcases bY hu with ⟨i,t,rfl,rfl⟩|⟨x,t,rfl,rfl⟩
  ·rcases bY hv with ⟨j,u,rfl,rfl⟩|⟨y,u,rfl,rfl⟩
   ·rw[L4]at h;exact wpAny_eqBool_int h
   ·rw[L6]at h;exact SeqAt.EqAt.int_str i t y u _ _ _ _ h
  ·rcases bY hv with ⟨j,u,rfl,rfl⟩|⟨y,u,rfl,rfl⟩
   ·rw[L7]at h;exact SeqAt.EqAt.str_int x t j u _ _ _ _ h
   ·rw[L5]at h;exact wpAny_eqBool_str h
 «strs»:=λk x t v h=>by
  rcases bY h with ⟨i,u,rfl,e⟩|⟨y,u,rfl,e⟩
  ·exact nomatch e
  ·injection e with e1 _
   subst e1;cases v<;>rfl
theorem vQ(prog:Program)(w:World)(i:Int)(t:Tok):(ck prog w).is (.inl i) (.int i t)=true:=Bx i t
theorem vR(prog:Program)(w:World)(x:Str)(t:Tok):(ck prog w).is (.inr x) (.str x t)=true:=By x t
inductive V where
 |non|bl (b:Bool)|int (i:Int)|str (x:Str)|byt (b:Array UInt8)|flt (b:UInt64)|ref (a:Addr)|ty (n:String)
 deriving DecidableEq
def RelV:V->Value->Prop
 |.non,u=>u=Value.none
 |.bl b,u=>u=Value.bool b
 |.int i,u=>∃t,u=Value.int i t
 |.str x,u=>∃t,u=Value.str x t
 |.byt b,u=>∃t,u=Value.bytes b t
 |.flt b,u=>∃t,u=Value.float b t
 |.ref a,u=>u=Value.ref a
 |.ty n,u=>u=Value.type n
abbrev Vals:List V->List Value->Prop:=Paired RelV
theorem Vals.length(r:Vals xs us):xs.length=us.length:=Paired.length r
theorem Vals.get:∀{xs:List V} {us:List Value} {i:Nat} {x:V},Vals xs us->xs[i]?=some x->∃u,us[i]?=some u/\RelV x u
 |_,_,_,_,.nil,e=>by simp at e
 |_,_,0,_,.cons r _,e=>by simp at e;subst e;exact⟨_,rfl,r⟩
 | _,_,i+1,x,.cons _ t,e=>by
  obtain⟨u,h1,h2⟩:=Vals.get (i:=i) (x:=x) t (by simpa using e);exact⟨u,by simpa using h1,h2⟩
theorem Vals.set(r:RelV x u):∀{xs:List V} {us:List Value} (i:Nat),Vals xs us->Vals (xs.set i x) (us.set i u)
 |_,_,_,.nil=>.nil
 |_,_,0,.cons _ t=>.cons r t
 |_,_,i+1,.cons q t=>.cons q (Vals.set r i t)
theorem Vals.append:∀{xs ys:List V} {us ws:List Value},Vals xs us->Vals ys ws->Vals (xs++ys) (us++ws)
 |_,_,_,_,.nil,s=>s
 |_,_,_,_,.cons r t,s=>.cons r (Vals.append t s)
theorem Vals.take:∀{xs:List V} {us:List Value} (n:Nat),Vals xs us->Vals (xs.take n) (us.take n)
 |_,_,0,_=>.nil
 |_,_,_+1,.nil=>.nil
 |_,_,n+1,.cons r t=>.cons r (Vals.take n t)
theorem Vals.drop:∀{xs:List V} {us:List Value} (n:Nat),Vals xs us->Vals (xs.drop n) (us.drop n)
 |_,_,0,r=>r
 |_,_,_+1,.nil=>.nil
 |_,_,n+1,.cons _ t=>Vals.drop n t
def pC:Option V->Option Value->Prop
 |some v,some u=>RelV v u
 |none,none=>True
 |_,_=>False
def KV{κ:Type}:List (κ × V)->List (κ × Value)->Prop:=Paired λ(p:κ × V) (q:κ × Value)=>p.1=q.1/\RelV p.2 q.2
def kV:Key->V
 |.inl i=>.int i
 |.inr x=>.str x
inductive HO where
  |lst (xs:List V)
  |tup (xs:List V)
  |dK (kvs:List (Key×V))|dT (kvs:List (List Key×V))
  |set (S:Int->Bool) (n:Nat)
  |ins (C dx:Addr) (fs:List (Str×V))
  |own (x:Addr)
  |xd (fs:List (Str×V))
  |met (f x:Addr)
  |rng (lo hi:Int)
  |pK (o:Obj) (u:HO)
  |tbl (ps:Array Value)
  |ext (φ:Heap->Prop)
abbrev Hp:=Addr->Option HO
def upd(H:Hp)(a:Addr)(o:HO):Hp:=λb=>if b=a then some o else H b
theorem aD:upd H a o a=some o:=by unfold upd;rw[aan rfl]
theorem ao(h:b≠a):upd H a o b=H b:=by unfold upd;rw[aaj h]
theorem Qx{H:Hp}{a b:Addr}{o u:HO}(h:H a=some o)(h':H b=some u)(d:o≠u):a≠b:=by
 intro e;subst e;rw[h]at h';exact d (aaH h')
theorem aE{H:Hp}{a b:Addr}{o:HO}(h:H a=some o)(h':H b=none):a≠b:=by
 intro e;subst e;rw[h]at h';cases h'
section
variable (P:Program) (w:World)
def bF(H:Hp)(h:Heap)(a:Addr):HO->Prop
 |.lst xs=>xs.length<=sizeLine/\∃(its:List Value) (n:Nat),Vals xs its/\h.get? a=some { cls:=.type "list",data:=.seq its.toArray n }
 |.tup xs=>xs.length<=sizeLine/\∃its:List Value,Vals xs its/\IsTup h a its.toArray
 |.dK kvs=>kvs.length<=sizeLine/\(a==sysModules)=false/\∃vs,KV kvs vs/\h.DictOf (ck P w) a vs
 | .dT kvs=>kvs.length<=sizeLine/\(a==sysModules)=false/\∃xs:List (List Key×Addr×Value),
   Paired (λ(p:List Key×V) (q:List Key×Addr×Value)=>p.1=q.1/\H q.2.1=some (.tup (p.1.map kV))/\RelV p.2 q.2.2) kvs xs /\
   ∃o es ep,h.get? a=some o/\o.ExactDict/\o.data=.dict es ep/\es.toList=xs.map (entryOfKey (tupleKind (ck P w)))/\(xs.map (·.1)).Nodup
 |.set S n=>h.SetOf (intKind P w) a S n
 | .ins C dx fs=>H dx=some (.own a)/\fs.length<=1000/\dx≠a/\h.get? a=some (PySem.W.instObj C dx) /\
   ∃mA,h.Ns1 dx mA/\(∀f,pC (fs.lookup f) (mA f))/\PySem.Within mA (fs.map (·.1))
 |.own _=>∃o,h.get? a=some o
 |.xd fs=>∃mA,h.Ns1 a mA/\∀f,pC (fs.lookup f) (mA f)
 |.rng lo hi=>∃t u v,h.get? a=some { cls:=.type "range",data:=.fields [.int lo t,.int hi u,.int 1 v].toArray }
 |.pK o u=>h.get? a=some o/\bF H h a u
 |.tbl ps=>h.get? a=some { cls:=.none,data:=.fields ps }
 |.met f x=>h.get? a=some (methodObj (.ref f) (.ref x))
 |.ext φ=>φ h/\(∃o,h.get? a=some o)/\∀h1 h2:Heap,φ h1->(∀o,h1.get? a=some o->h2.get? a=some o) -> φ h2
def iO(H:Hp)(h:Heap):Prop:=∀a o,H a=some o->bF P w H h a o
end
section
variable {P:Program} {w:World} {H H':Hp} {h h':Heap} {a:Addr} {o:HO}
theorem bF.lt(x:bF P w H h a o):a<h.objs.size:=by
 cases o with
 |lst xs=>obtain⟨_,_,_,_,e⟩:=x;exact aam e
 |tup xs=>obtain⟨_,_,_,p⟩:=x;exact p.lt
 |dK kvs=>obtain⟨_,_,_,_,o,_,_,e,_⟩:=x;exact aam e
 |dT kvs=>obtain⟨_,_,_,_,o,_,_,e,_⟩:=x;exact aam e
 |set S n=>obtain⟨o,_,_,_,e,_⟩:=x;exact aam e
 |ins C dx fs=>obtain⟨_,_,_,e,_⟩:=x;exact aam e
 |own y=>obtain⟨_,e⟩:=x;exact aam e
 |xd fs=>obtain⟨_,⟨_,_,_,e,_⟩,_⟩:=x;exact aam e
 |rng lo hi=>obtain⟨_,_,_,e⟩:=x;exact aam e
 |pK ob u=>obtain⟨e,_⟩:=x;exact aam e
 |tbl ps=>exact aam (show h.get? a=some _ from x)
 |met f y=>exact aam (show h.get? a=some _ from x)
 |ext φ=>obtain⟨_,⟨_,e⟩,_⟩:=x;exact aam e
theorem Paired.L8{α β:Type}{F G:α -> β -> Prop}:∀{l₁:List α} {l₂:List β},Paired F l₁ l₂->(∀a b,F a b->G a b)->Paired G l₁ l₂
 |_,_,.nil,_=>.nil
 |_,_,.cons r t,f=>.cons (f _ _ r) (Paired.L8 t f)
theorem bF.stay(x:bF P w H h a o)(k:∀b u,(b=a\/H b=some (.own a))->h.get? b=some u->h'.get? b=some u)
  (ho:∀b,H b=some (.own a)->H' b=some (.own a)) (ht:∀b xs,H b=some (.tup xs)->H' b=some (.tup xs)):bF P w H' h' a o:=by
 induction o with
 |lst xs=>obtain⟨z,its,n,r,e⟩:=x;exact⟨z,its,n,r,k _ _ (.inl rfl) e⟩
 |tup xs=>obtain⟨z,its,r,ob,e,c⟩:=x;exact⟨z,its,r,ob,k _ _ (.inl rfl) e,c⟩
 |dK kvs=>obtain⟨z,y,vs,r,ob,es,ep,e,c⟩:=x;exact⟨z,y,vs,r,ob,es,ep,k _ _ (.inl rfl) e,c⟩
 |dT kvs=>obtain⟨z,y,xs,r,ob,es,ep,e,c⟩:=x;exact⟨z,y,xs,Paired.L8 r λp q z=>⟨z.1,ht _ _ z.2.1,z.2.2⟩,ob,es,ep,k _ _ (.inl rfl) e,c⟩
 |set S n=>obtain⟨ob,es,ep,t,e,c⟩:=x;exact⟨ob,es,ep,t,k _ _ (.inl rfl) e,c⟩
 |ins C dx fs=>obtain⟨d,z,ne,e,mA,⟨od,es,ep,e2,c⟩,r⟩:=x;exact⟨ho _ d,z,ne,k _ _ (.inl rfl) e,mA,⟨od,es,ep,k _ _ (.inr d) e2,c⟩,r⟩
 |own y=>obtain⟨ob,e⟩:=x;exact⟨ob,k _ _ (.inl rfl) e⟩
 |xd fs=>obtain⟨mA,⟨od,es,ep,e,c⟩,r⟩:=x;exact⟨mA,⟨od,es,ep,k _ _ (.inl rfl) e,c⟩,r⟩
 |rng lo hi=>obtain⟨t,u,v,e⟩:=x;exact⟨t,u,v,k _ _ (.inl rfl) e⟩
 |pK ob u ih=>obtain⟨e,q⟩:=x;exact⟨k _ _ (.inl rfl) e,ih q⟩
 |tbl ps=>have e:h.get? a=some { cls:=.none,data:=.fields ps }:=x;show h'.get? a=some { cls:=.none,data:=.fields ps };exact k a _ (.inl rfl) e
 |met f y=>have e:h.get? a=some (methodObj (.ref f) (.ref y)):=x;show h'.get? a=some (methodObj (.ref f) (.ref y));exact k a _ (.inl rfl) e
 |ext φ=>obtain⟨p,⟨o,e⟩,st⟩:=x;exact⟨st _ _ p λo q=>k _ _ (.inl rfl) q,⟨o,k _ _ (.inl rfl) e⟩,st⟩
theorem iO.lt(x:iO P w H h)(e:H a=some o):a<h.objs.size:=(x a o e).lt
theorem iO.fresh(x:iO P w H h)(e:h.objs.size<=a):H a=none:=by
 cases q:H a with
 |none=>rfl
 |some u=>exact absurd (aao (x.lt q) e) (aaR _)
theorem iO.kept(x:iO P w H h)(k:∀b u,h.get? b=some u->h'.get? b=some u):iO P w H h':=λa o e=>
 (x a o e).stay (λb u _ q=>k b u q) (λ_ q=>q) λ_ _ q=>q
theorem iO.laid(x:iO P w H h)(k:∀b u,h.get? b=some u->h'.get? b=some u)(hp:h.objs.size<=a)(new:bF P w (upd H a o) h' a o):iO P w (upd H a o) h':=λb u e=>by
 have hn:=x.fresh hp
 by_cases hb:b=a
 ·subst hb;rw[aD]at e;cases e;exact new
 ·rw[ao hb]at e;exact(x b u e).stay (λc v _ q=>k c v q) (λc q=>by rw[ao (aE q hn)];exact q) λc xs q=>by rw[ao (aE q hn)];exact q
end
def Rd(H:Hp)(a:Addr)(u:HO):Prop:=H a=some u\/∃o,H a=some (.pK o u)
theorem Rd.ok(r:Rd H a u)(x:iO P w H h):bF P w H h a u:=by
 rcases r with r|⟨o,r⟩
 ·exact x a u r
 ·obtain⟨_,q⟩:=x a _ r;exact q
def Qy:Option HO->Prop
 |some (.lst _)=>True
 |some (.dK _)=>True
 |some (.dT _)=>True
 |some (.set _ _)=>True
 |some (.ins _ _ _)=>True
 |some (.ext _)=>True
 |_=>False
section
variable {P:Program} {w:World} {H:Hp} {h h':Heap} {x e:Addr} {o':HO}
theorem iO.write(ok:iO P w H h)(mu:Qy (H x))(he:e=x\/H e=some (.own x))(k:∀b u,b≠e->h.get? b=some u->h'.get? b=some u)(Qe:∃u,h'.get? e=some u)
  (new:bF P w (upd H x o') h' x o'):iO P w (upd H x o') h':=λb u q=>by
 have nown:∀c y,H c=some (.own y)->c≠x:=λc y r z=>by subst z;rw[r]at mu;exact mu
 have ntup:∀c xs,H c=some (.tup xs)->c≠x:=λc xs r z=>by subst z;rw[r]at mu;exact mu
 by_cases hb:b=x
 ·subst hb;rw[aD]at q;cases q;exact new
 ·rw[ao hb]at q
  by_cases Ma:b=e
  ·have q':H b=some (.own x):=by
    rcases he with z|z
    ·exact absurd (Ma.trans z) hb
    ·rw[Ma];exact z
   rw[q]at q';cases q';obtain⟨v,hv⟩:=Qe;exact⟨v,by rw[Ma];exact hv⟩
  ·refine(ok b u q).stay (λc v hc r=>k c v ?_ r) (λc r=>by rw[ao (nown c b r)];exact r) λc xs r=>by rw[ao (ntup c xs r)];exact r
   rcases hc with rfl|hc
   ·exact Ma
   ·rintro rfl
    rcases he with z|z
    ·exact nown c b hc z
    ·rw[hc]at z;cases z;exact hb rfl
end
structure Un (fs ex:List Addr) (H H':Hp) (h h':Heap):Prop where
 keep:∀b o,h.get? b=some o->H b=none->b∉fs->b∉ex->h'.get? b=some o
 slot:∀b o,h.get? b=some o->H b=none->b∈fs->b∉ex->∃sl,h'.get? b=some { o with slots:=sl }
 free:∀b o,h.get? b=some o->H b=none->b∉ex->H' b=none
 there:∀b o,h.get? b=some o->b∉ex->∃o',h'.get? b=some o'
 tups:∀b xs,H b=some (.tup xs)->H' b=some (.tup xs)
 frzs:∀b o u,H b=some (.pK o u)->H' b=some (.pK o u)
 mw:∀b ps,H b=some (.tbl ps)->∃more,H' b=some (.tbl (ps++more))
section
variable {fs fs' ex ex':List Addr} {H H1 H2:Hp} {h h1 h2 h':Heap} {a x e:Addr} {o:HO}
theorem Un.any(u:Un fs ex H H1 h h1)(q:h.get? b=some ob)(n:H b=none)(hx:b∉ex):∃sl,h1.get? b=some { ob with slots:=sl }:=by
 by_cases hb:b∈fs
 ·exact u.slot b ob q n hb hx
 ·exact⟨ob.slots,u.keep b ob q n hb hx⟩
theorem Un.kept(k:∀b u,h.get? b=some u->h'.get? b=some u):Un fs ex H H h h' :=
 ⟨λb ob q _ _ _=>k b ob q,λb ob q _ _ _=>⟨ob.slots,k b ob q⟩,λ_ _ _ n _=>n,λb ob q _=>⟨ob,k b ob q⟩,λ_ _ q=>q,λ_ _ _ q=>q,λ_ ps q=>⟨#[],by rw[q];simp⟩⟩
theorem Un.refl:Un fs ex H H h h:=Un.kept λ_ _ q=>q
theorem Un.laid(k:∀b u,h.get? b=some u->h'.get? b=some u)(hp:h.objs.size<=a)(hn:H a=none):Un fs ex H (upd H a o) h h' where
 keep:=λb u q _ _ _=>k b u q
 slot:=λb u q _ _ _=>⟨u.slots,k b u q⟩
 free:=λb u q n _=>by rw[ao (aat (aao (aam q) hp))];exact n
 there:=λb u q _=>⟨u,k b u q⟩
 tups:=λb xs q=>by rw[ao (aE q hn)];exact q
 frzs:=λb u xs q=>by rw[ao (aE q hn)];exact q
 mw:=λb ps q=>⟨#[],by rw[ao (aE q hn),q];simp⟩
theorem Un.write(mu:Qy (H x))(he:e=x\/H e=some (.own x))(k:∀b u,b≠e->h.get? b=some u->h'.get? b=some u)(Qe:∃u,h'.get? e=some u):Un fs ex H (upd H x o) h h':=by
 have hx:∀b,H b=none->b≠x:=λb n z=>by subst z;rw[n]at mu;exact mu
 have hb:∀b,H b=none->b≠e:=λb n z=>by
  subst z
  rcases he with r|r
  ·exact hx b n r
  ·rw[n]at r;cases r
 have hm:∀b u,H b=some u->¬ Qy (some u)->b≠x:=λb u q nm z=>by subst z;rw[q]at mu;exact nm mu
 refine⟨λb u q n _ _=>k b u (hb b n) q,λb u q n _ _=>⟨u.slots,k b u (hb b n) q⟩,λb u q n _=>by rw[ao (hx b n)];exact n,λb u q _=>?_,
  λb xs q=>by rw[ao (hm b _ q λz=>z)];exact q,λb u xs q=>by rw[ao (hm b _ q λz=>z)];exact q,λb ps q=>⟨#[],by rw[ao (hm b _ q λz=>z),q];simp⟩⟩
 by_cases Ma:b=e
 ·subst Ma;exact Qe
 ·exact⟨u,k b u Ma q⟩
end
def Us(h:Heap)(H:Hp):List Addr:=(List.range h.objs.size).filter λa=>(H a).isSome
def ug(h:Heap)(H:Hp):Heap:=hideAll h (Us h H)
theorem BA(h:Heap)(H:Hp):(ug h H).objs.size=h.objs.size:=PySem.W.hideAll_size _ _
theorem Dd(e:h.get? b=some o)(n:H b=none):(ug h H).get? b=some o :=
 hideAll_get _ e λhm=>by
  have q:(H b).isSome=true:=(List.mem_filter.mp hm).2;rw[n]at q;simp at q
theorem HE(e:(ug h H).get? b=some o):h.get? b=some o/\H b=none:=by
 have e':h.get? b=some o:=of_hideAll (Us h H) e;refine⟨e',?_⟩;cases q:H b with
 |none=>rfl
 |some x=>have hm:b∈Us h H:=List.mem_filter.mpr ⟨mem_range.mpr (aam e'),by simp[q]⟩;have z:(ug h H).get? b=none:=hideAll_none (Us h H) hm;rw[z]at e;cases e
def HF(g h:Heap)(L:Addr):List (Addr×Obj):=(List.range h.objs.size).filterMap λa=>if a=L\/(g.get? a).isSome=true then none else (h.get? a).map λo=>(a,o)
def rest(g h:Heap)(L d:Addr):List (Addr×Obj):=(HF g h L).filter λp=>decide (p.1≠d)
structure Mod (K:Frag) (mg:Str->Option Value) (base:Heap):Prop where
 Qz:K.In base
 glob:base.Ns mainGlobals mg
 blt:∃mb,base.Ns builtinsNs mb/\∀x:Str,x ≠ "__name__" -> mb x=bootBuiltins x
 nolimit:base.NoLimit
structure Cx where
 prog:Program
 w:World
 K:Frag
 mg:Str->Option Value
 base:Heap
 A:Around
 N:List Str
 s₀:Shared
 H₀:Hp
 env:Env
 outer:List Env
 stack:List Env
 ex:List Addr
 fn:Str->Bool
 calm:Bool
 pn:List (Addr×Obj)
 xe:Value->Shared->Prop
def frs(l:List Env):List Addr:=l.filterMap (·.frame)
abbrev Cx.fs(X:Cx):List Addr:=frs X.outer
def QA(sc:Scope)(x:Str):Prop:=sc.names.lookup x=some .local\/sc.names.lookup x=some .cell\/sc.names.lookup x=some .free
def Loc(sc:Scope)(x:Str):Prop:=sc.names.lookup x=some .local\/sc.names.lookup x=some .cell
def Look(env:Env)(h:Heap)(m:Str->Option Value)(x:Str)(u:Value):Prop :=
 (env.kindOf x=some .local/\m x=some u)\/((env.kindOf x=some .cell\/env.kindOf x=some .free)/\∃c,env.cells.lookup x=some c/\h.IsCell c (some u))
structure Cx.Ok (X:Cx):Prop where
 mod:Mod X.K X.mg X.base
 kind:X.env.scope.kind=.function
 glob:X.env.globals=mainGlobals
 blt:X.env.builtins=builtinsNs
 above:X.s₀.heap.objs.size<=X.env.locals
 inj:∀x y c,X.env.cells.lookup x=some c->X.env.cells.lookup y=some c->x=y
 has:∀x,(X.env.kindOf x=some .cell\/X.env.kindOf x=some .free)->∃c,X.env.cells.lookup x=some c
 Qf:∀x c,X.fn x=true->X.env.cells.lookup x=some c->X.s₀.heap.objs.size<=c
 hd:X.calm=true->X.A.handled=none
 frames:X.A.frames=some X.stack
 stk:X.stack=X.outer\/(X.stack=X.env::X.outer/\X.env.frame=some X.env.locals)
 Ut:∀b∈X.ex,b≠X.env.locals/\∀x c,X.env.cells.lookup x=some c->c≠b
 bs:∀b o,X.base.get? b=some o->X.s₀.heap.get? b=some o/\X.H₀ b=none
 HG:X.base.objs.size<=X.s₀.heap.objs.size
 BB:∀b o,X.base.get? b=some o->b∉X.ex
 BC:∀b∈X.ex,b∉X.fs
 nL:X.s₀.heap.FunFrames X.base X.outer
 Lb:∀b∈X.fs,X.H₀ b=none
structure Inv (X:Cx) (pins:List (Addr×Obj)) (σ:List (Option V)) (H:Hp) (s:Shared):Prop where
 ok:X.Ok
 os:s.os=X.s₀.os
 bare:AllBare s.gens
 base:Un X.fs X.ex X.H₀ H X.s₀.heap s.heap
 loc:∃m,s.heap.Ns X.env.locals m/\∀(i:Nat) (x:Str) (v:V),X.N[i]?=some x -> σ[i]?=some (some v)->QA X.env.scope x->∃u,RelV v u/\Look X.env s.heap m x u
 cell:∀x c,X.env.cells.lookup x=some c->∃v,s.heap.IsCell c v
 free:H X.env.locals=none
 gH:∀x c,X.env.cells.lookup x=some c->H c=none
 pin:∀p∈X.pn++pins,s.heap.get? p.1=some p.2/\H p.1=none/\p.1≠X.env.locals/\p.1∉X.fs/\∀v,p.2.data≠.cell v
 hok:iO X.prog X.w H s.heap
 len:σ.length=X.N.length
section
variable {X:Cx} {pins:List (Addr×Obj)} {σ:List (Option V)} {H H':Hp} {s:Shared} {h':Heap}
theorem Cx.Ok.U3(ok:X.Ok)(e:X.base.get? b=some o):b∉X.fs:=λhb=>by
 have:=(ok.nL.mem hb).1;rw[e]at this;cases this
theorem Inv.bs(I:Inv X pins σ H s):∀b o,X.base.get? b=some o->s.heap.get? b=some o/\H b=none:=λb o e=>
 ⟨I.base.keep b o (I.ok.bs b o e).1 (I.ok.bs b o e).2 (I.ok.U3 e) (I.ok.BB b o e),I.base.free b o (I.ok.bs b o e).1 (I.ok.bs b o e).2 (I.ok.BB b o e)⟩
theorem Inv.bk(I:Inv X pins σ H s):∀b o,X.base.get? b=some o->s.heap.get? b=some o:=λb o e=>(I.bs b o e).1
theorem Inv.mod(I:Inv X pins σ H s):Mod X.K X.mg X.base:=I.ok.mod
theorem Inv.jJ(I:Inv X pins σ H s):X.K.In s.heap:=I.ok.mod.Qz.keeps I.bk
theorem Inv.lt(I:Inv X pins σ H s):X.env.locals<s.heap.objs.size:=let ⟨_,hn,_⟩:=I.loc;hn.lt
theorem Inv.sz(I:Inv X pins σ H s):X.s₀.heap.objs.size<=s.heap.objs.size:=aaK I.ok.above (le_of_lt I.lt)
theorem Inv.U4(I:Inv X pins σ H s)(h:s.heap.objs.size<=a):a∉X.fs:=λhb=>by
 obtain⟨_,o,ho,_⟩:=I.ok.nL.mem hb;exact absurd (aao (aam ho) (aaK I.sz h)) (aaR _)
theorem Inv.cne(I:Inv X pins σ H s):∀x c,X.env.cells.lookup x=some c->c≠X.env.locals:=λx c e z=>by
 obtain⟨v,o,ho,hd⟩:=I.cell x c e;obtain⟨m,⟨o',es,ep,ho',hd',_⟩,_⟩:=I.loc;rw[z,ho']at ho;cases ho;rw[hd']at hd;cases hd
theorem Inv.nL(I:Inv X pins σ H s):s.heap.FunFrames X.base X.outer:=by
 have all:∀(l:List Env),(∀b∈frs l,b∈X.fs)->X.s₀.heap.FunFrames X.base l->s.heap.FunFrames X.base l:=by
  intro l
  induction l with
  |nil=>intro _ _;trivial
  |cons env r ih=>intro hs hl;obtain⟨hk,⟨L,o,hf,hn,ho,hd⟩,hr⟩:=hl;have hL:L∈X.fs:=hs L (by unfold frs;rw[filterMap_cons,hf];exact aah);obtain⟨sl,e⟩:=I.base.slot L o ho (I.ok.Lb L hL) hL λz=>I.ok.BC L z hL;exact⟨hk,⟨L,_,hf,hn,e,hd⟩,ih (λb hb=>hs b (by unfold frs;rw[filterMap_cons,hf];exact aae _ hb)) hr⟩
 exact all X.outer (λ_ hb=>hb) I.ok.nL
theorem Inv.stack(I:Inv X pins σ H s):s.heap.FunFrames X.base X.stack:=by
 rcases I.ok.stk with e|⟨e,hf⟩
 ·rw[e];exact I.nL
 ·rw[e];obtain⟨m,hn,_⟩:=I.loc;refine .cons (by rw[I.ok.kind];decide) hf hn ?_ I.nL;exact Heap.get?_none_of_le (aaK I.ok.HG I.ok.above)
theorem Inv.yu(I:Inv X pins σ H s):∀b∈frs X.stack,b∈X.env.locals::X.fs:=λb hb=>by
 rcases I.ok.stk with e|⟨e,hf⟩
 ·rw[e]at hb;exact aae _ hb
 ·rw[e]at hb;unfold frs at hb;rw[filterMap_cons,hf]at hb;exact hb
theorem Inv.gZ(I:Inv X pins σ H s):∀b∈frs X.stack,H b=none:=λb hb=>by
 rcases aau.mp (I.yu b hb) with e|hb
 ·rw[e];exact I.free
 ·obtain⟨_,o,ho,_⟩:=I.ok.nL.mem hb;exact I.base.free b o ho (I.ok.Lb b hb) λz=>I.ok.BC b z hb
theorem Inv.step{g':Array GenState}{t':Nat}{d':Drawn}{ch:List Addr}(I:Inv X pins σ H s)
  (hch:∀b∈ch,(b∈X.ex\/X.s₀.heap.objs.size<=b)/\b≠X.env.locals/\(∀x c,X.env.cells.lookup x=some c->c≠b)/\∀p∈X.pn++pins,p.1≠b)
  (keep:∀b o,b≠X.env.locals->b∉X.fs->b∉ch->s.heap.get? b=some o->H b=none->h'.get? b=some o)
  (slot:∀b o,b≠X.env.locals->b∈X.fs->b∉ch->s.heap.get? b=some o->H b=none->∃sl,h'.get? b=some { o with slots:=sl }) (free:∀b o,b∉ch->s.heap.get? b=some o->H b=none->H' b=none)
  (there:∀b o,b∉ch->s.heap.get? b=some o->∃o',h'.get? b=some o')
  (tups:∀b xs,H b=some (.tup xs)->H' b=some (.tup xs)) (frzs:∀b o u,H b=some (.pK o u)->H' b=some (.pK o u)) (mw:∀b ps,H b=some (.tbl ps)->∃more,H' b=some (.tbl (ps++more)))
  (ns:∀m,s.heap.Ns X.env.locals m->h'.Ns X.env.locals m) (hok:iO X.prog X.w H' h') (hg:AllBare g') :
  Inv X pins σ H' { s with heap:=h',gens:=g',drawn:=d',toks:=t' }:=by
 have neL:∀b o,X.s₀.heap.get? b=some o->b≠X.env.locals:=λb o e=>aat (aao (aam e) I.ok.above);have neC:∀b o,X.s₀.heap.get? b=some o->b∉X.ex->b∉ch:=λb o e hx hb=>by
  rcases(hch b hb).1 with z|z
  ·exact hx z
  ·exact absurd (aao (aam e) z) (aaR _)
 have cellK:∀x c,X.env.cells.lookup x=some c->∀v,s.heap.IsCell c v->h'.IsCell c v:=λx c e v ⟨o,ho,hd⟩=>by
  have QB:c∉ch:=λz=>(hch c z).2.2.1 x c e rfl
  by_cases hc:c∈X.fs
  ·obtain⟨sl,q⟩:=slot c o (I.cne x c e) hc QB ho (I.gH x c e);exact⟨_,q,hd⟩
  ·exact⟨o,keep c o (I.cne x c e) hc QB ho (I.gH x c e),hd⟩
 refine⟨I.ok,I.os,hg,⟨λb o e n hb hx=>?_,λb o e n hb hx=>?_,λb o e n hx=>?_,λb o e hx=>?_,λb xs e=>tups b xs (I.base.tups b xs e),λb o xs e=>frzs b o xs (I.base.frzs b o xs e),λb ps e=>?_⟩,?_,λx c e=>?_,?_,λx c e=>?_,λp hp=>?_,hok,I.len⟩
 ·exact keep b o (neL b o e) hb (neC b o e hx) (I.base.keep b o e n hb hx) (I.base.free b o e n hx)
 ·obtain⟨sl,e1⟩:=I.base.slot b o e n hb hx;obtain⟨Mb,e2⟩:=slot b _ (neL b o e) hb (neC b o e hx) e1 (I.base.free b o e n hx);exact⟨Mb,e2⟩
 ·obtain⟨o',e1⟩:=I.base.there b o e hx;exact free b o' (neC b o e hx) e1 (I.base.free b o e n hx)
 ·obtain⟨o',e1⟩:=I.base.there b o e hx;exact there b o' (neC b o e hx) e1
 ·obtain⟨m1,e1⟩:=I.base.mw b ps e;obtain⟨m2,e2⟩:=mw b _ e1;exact⟨m1++m2,by rw[e2,Array.append_assoc]⟩
 ·obtain⟨m,hn,hl⟩:=I.loc
  refine⟨m,ns m hn,λi x v e1 e2 e3=>?_⟩;obtain⟨u,r,l⟩:=hl i x v e1 e2 e3;refine⟨u,r,?_⟩
  rcases l with l|⟨k,c,e,z⟩
  ·exact .inl l
  ·exact .inr ⟨k,c,e,cellK x c e _ z⟩
 ·obtain⟨v,z⟩:=I.cell x c e;exact⟨v,cellK x c e v z⟩
 ·obtain⟨m,⟨o,_,_,ho,_⟩,_⟩:=I.loc;exact free _ o (λz=>(hch _ z).2.1 rfl) ho I.free
 ·obtain⟨v,o,ho,hd⟩:=I.cell x c e;exact free c o (λz=>(hch c z).2.2.1 x c e rfl) ho (I.gH x c e)
 ·obtain⟨e,n,ne,nf,d⟩:=I.pin p hp;have QB:p.1∉ch:=λz=>(hch p.1 z).2.2.2 p hp rfl;exact⟨keep p.1 p.2 ne nf QB e n,free p.1 p.2 QB e n,ne,nf,d⟩
theorem Inv.un{t':Nat}(I:Inv X pins σ H s)(u:Un X.fs [] H H' s.heap h')(hok:iO X.prog X.w H' h'):Inv X pins σ H' { s with heap:=h',toks:=t' }:=by
 obtain⟨m,⟨o,es,ep,ho,r⟩,_⟩:=id I.loc;obtain⟨sl,hL⟩:=u.any ho I.free (by simp);exact I.step (g':=s.gens) (d':=s.drawn) (ch:=[]) (λ_ z=>nomatch z) (λb o _ hb _ e n=>u.keep b o e n hb (by simp)) (λb o _ hb _ e n=>u.slot b o e n hb (by simp)) (λb o _ e n=>u.free b o e n (by simp)) (λb o _ e=>u.there b o e (by simp)) u.tups u.frzs u.mw (λm' hm=>by
  obtain⟨o',es',U5,ho',r'⟩:=hm;rw[ho]at ho';cases ho';exact⟨_,es',U5,hL,r'⟩) hok I.bare
theorem Inv.call{t':Nat}(I:Inv X pins σ H s)(u:Un (frs X.stack) ch H H' s.heap h')(hok:iO X.prog X.w H' h')(hg:AllBare g')
  (hch:∀b∈ch,(b∈X.ex\/X.s₀.heap.objs.size<=b)/\b≠X.env.locals/\(∀x c,X.env.cells.lookup x=some c->c≠b)/\∀p∈X.pn++pins,p.1≠b) :
  Inv X pins σ H' { s with heap:=h',gens:=g',drawn:=d',toks:=t' }:=by
 obtain⟨m,⟨o,es,ep,ho,r⟩,_⟩:=id I.loc;obtain⟨sl,hL⟩:=u.any ho I.free λz=>(hch _ z).2.1 rfl;exact I.step (ch:=ch) hch (λb o hL hb hc e n=>u.keep b o e n (λz=>(aau.mp (I.yu b z)).elim hL hb) hc) (λb o _ _ hc e n=>u.any e n hc) (λb o hc e n=>u.free b o e n hc) (λb o hc e=>u.there b o e hc) u.tups u.frzs u.mw (λm' hm=>by
  obtain⟨o',es',U5,ho',r'⟩:=hm;rw[ho]at ho';cases ho';exact⟨_,es',U5,hL,r'⟩) hok hg
theorem Inv.turned{t':Nat}(I:Inv X pins σ H s)(k:∀b o,b≠it->s.heap.get? b=some o->h'.get? b=some o)(hn:H it=none)(hL:it≠X.env.locals)
  (h1:it∈X.ex\/X.s₀.heap.objs.size<=it) (h2:∀x c,X.env.cells.lookup x=some c->c≠it) (h3:∀p∈X.pn++pins,p.1≠it):Inv X pins σ H { s with heap:=h',toks:=t' }:=by
 have QC:∀b u,H b=some u->b≠it:=λb u e z=>by rw[z,hn]at e;cases e
 refine I.step (g':=s.gens) (d':=s.drawn) (ch:=[it]) (λb hb=>?_) (λb o _ _ hc e _=>k b o (λz=>hc (by simp[z])) e) (λb o _ _ hc e _=>⟨o.slots,k b o (λz=>hc (by simp[z])) e⟩) (λ_ _ _ _ n=>n)
  (λb o hc e=>⟨o,k b o (λz=>hc (by simp[z])) e⟩) (λ_ _ e=>e) (λ_ _ _ e=>e) (λb ps e=>⟨#[],by rw[e];simp⟩) (λm hm=>?_) (λb u e=>?_) I.bare
 ·have e:b=it:=by simpa using hb
  subst e;exact⟨h1,hL,h2,h3⟩
 ·obtain⟨o,es,ep,ho,r⟩:=hm;exact⟨o,es,ep,k _ o (Ne.symm hL) ho,r⟩
 ·refine(I.hok b u e).stay (λc v hc q=>k c v ?_ q) (λ_ q=>q) λ_ _ q=>q
  rcases hc with z|z
  ·rw[z];exact QC b u e
  ·exact QC c _ z
theorem Inv.tok(I:Inv X pins σ H s)(t:Nat):Inv X pins σ H { s with toks:=t }:=I.un (h':=s.heap) (t':=t) Un.refl I.hok
theorem Inv.kept{t':Nat}(I:Inv X pins σ H s)(k:∀b u,s.heap.get? b=some u->h'.get? b=some u):Inv X pins σ H { s with heap:=h',toks:=t' }:=I.un (Un.kept k) (I.hok.kept k)
theorem Inv.laid{t':Nat}(I:Inv X pins σ H s)(k:∀b u,s.heap.get? b=some u->h'.get? b=some u)(hp:s.heap.objs.size<=a)(new:bF X.prog X.w (upd H a o) h' a o) :
  Inv X pins σ (upd H a o) { s with heap:=h',toks:=t' }:=I.un (Un.laid k hp (I.hok.fresh hp)) (I.hok.laid k hp new)
theorem Inv.write{t':Nat}(I:Inv X pins σ H s)(mu:Qy (H x))(he:e=x\/H e=some (.own x))(k:∀b u,b≠e->s.heap.get? b=some u->h'.get? b=some u)(Qe:∃u,h'.get? e=some u)
  (new:bF X.prog X.w (upd H x o) h' x o):Inv X pins σ (upd H x o) { s with heap:=h',toks:=t' }:=I.un (Un.write mu he k Qe) (I.hok.write mu he k Qe new)
theorem Inv.uh(I:Inv X pins σ H s)(h:∀p∈Lc,s.heap.get? p.1=some p.2/\H p.1=none/\p.1≠X.env.locals/\p.1∉X.fs/\∀v,p.2.data≠.cell v):Inv X Lc σ H s :=
 ⟨I.ok,I.os,I.bare,I.base,I.loc,I.cell,I.free,I.gH,λp hp=>(mem_append.mp hp).elim (λz=>I.pin p (mem_append_left _ z)) (h p),I.hok,I.len⟩
theorem pX{N:List Str}(hN:N.Nodup){i j:Nat}{x:Str}(a:N[i]?=some x)(b:N[j]?=some x):i=j:=by
 obtain⟨h1,e1⟩:=aai.mp a;obtain⟨h2,e2⟩:=aai.mp b;exact(List.getElem_inj hN).mp (e1.trans e2.symm)
theorem se{i:Nat}(I:Inv X pins σ H s)(hN:X.N.Nodup)(hi:X.N[i]?=some x)(hx:Loc X.env.scope x)(r:RelV v u)
  (h:∀s',Inv X pins (σ.set i (some v)) H s'->(∃a,Heap.SameBut a s.heap s'.heap/\(a=X.env.locals\/X.env.cells.lookup x=some a))->Q () s') (hf:X.fn x=true\/X.env.scope.names.lookup x=some .local):wpAny M A (storeName X.env x u) Q E s:=by
 obtain⟨m,hn,hl⟩:=id I.loc;have hcls:(X.env.scope.kind==.class||(X.env.scope.kind==.module&&X.env.locals != X.env.globals))=false:=by rw[I.ok.kind];rfl
 have Uu:i < σ.length:=by rw[I.len];exact(aai.mp hi).1
 have cne:=I.cne;have tracked:∀{a:Addr} {h':Heap},(∃o,s.heap.get? a=some o/\H a=none)->Heap.SameBut a s.heap h'->iO X.prog X.w H h':=λ{a h'} ha hs b ob e=>by
  obtain⟨_,_,hfree⟩:=ha;refine(I.hok b ob e).stay (λc w' hc q=>(hs.2 c ?_).trans q) (λ_ q=>q) λ_ _ q=>q;rintro rfl
  rcases hc with rfl|hc
  ·rw[hfree]at e;cases e
  ·rw[hfree]at hc;cases hc
 rcases hx with hk|hk
 ·refine wpAny_storeName_local hk hn (λh' hn' hs=>?_) hcls
  obtain⟨oL,_,_,W3,_⟩:=id hn;refine h _ ⟨I.ok,I.os,I.bare,⟨λb o e n hb hx=>?_,λb o e n hb hx=>?_,I.base.free,λb o e hx=>?_,I.base.tups,I.base.frzs,I.base.mw⟩,⟨_,hn',λj y v' e1 e2 e3=>?_⟩,λy c e=>?_,I.free,I.gH,λp hp=>?_,tracked ⟨oL,W3,I.free⟩ hs,by simpa using I.len⟩ ⟨_,hs,.inl rfl⟩
  ·exact(hs.2 b (aat (aao (aam e) I.ok.above))).trans (I.base.keep b o e n hb hx)
  ·obtain⟨sl,e1⟩:=I.base.slot b o e n hb hx;exact⟨sl,(hs.2 b (aat (aao (aam e) I.ok.above))).trans e1⟩
  ·obtain⟨o',e1⟩:=I.base.there b o e hx;exact⟨o',(hs.2 b (aat (aao (aam e) I.ok.above))).trans e1⟩
  ·by_cases hj:j=i
   ·subst hj;rw[hi]at e1;cases e1;rw[aaw Uu]at e2;cases e2;exact⟨u,r,.inl ⟨hk,by simp⟩⟩
   ·rw[aak (Ne.symm hj)]at e2
    obtain⟨u',r',q⟩:=hl j y v' e1 e2 e3;refine⟨u',r',?_⟩
    rcases q with ⟨k,e⟩|⟨k,c,e,z⟩
    ·refine .inl ⟨k,?_⟩;have:y≠x:=λe=>hj (pX hN e1 (e▸hi));simp[this,e]
    ·exact .inr ⟨k,c,e,z.sameBut hs (cne y c e)⟩
  ·obtain⟨w',z⟩:=I.cell y c e;exact⟨w',z.sameBut hs (cne y c e)⟩
  ·obtain⟨e,n,ne,nf,d⟩:=I.pin p hp;exact⟨(hs.2 p.1 ne).trans e,n,ne,nf,d⟩
 ·have hfn:X.fn x=true:=by
   rcases hf with z|z
   ·exact z
   ·rw[z]at hk;cases hk
  obtain⟨c,hc⟩:=I.ok.has x (.inl hk);obtain⟨w',z⟩:=I.cell x c hc;refine wpAny_storeName_cell I.ok.kind hk hc z (λh' hc' hs=>?_);obtain⟨oc,hoc,De⟩:=id z;refine h { s with heap:=h' } ⟨I.ok,I.os,I.bare,⟨λb o e n hb hx=>?_,λb o e n hb hx=>?_,I.base.free,λb o e hx=>?_,I.base.tups,I.base.frzs,I.base.mw⟩,⟨m,hn.sameBut hs (Ne.symm (cne x c hc)),λj y v' e1 e2 e3=>?_⟩,λy c' e=>?_,I.free,I.gH,λp hp=>?_,tracked ⟨oc,hoc,I.gH x c hc⟩ hs,by simpa using I.len⟩ ⟨c,hs,.inr hc⟩
  ·exact(hs.2 b (aat (aao (aam e) (I.ok.Qf x c hfn hc)))).trans (I.base.keep b o e n hb hx)
  ·obtain⟨sl,e1⟩:=I.base.slot b o e n hb hx;exact⟨sl,(hs.2 b (aat (aao (aam e) (I.ok.Qf x c hfn hc)))).trans e1⟩
  ·obtain⟨o',e1⟩:=I.base.there b o e hx;exact⟨o',(hs.2 b (aat (aao (aam e) (I.ok.Qf x c hfn hc)))).trans e1⟩
  ·by_cases hj:j=i
   ·subst hj;rw[hi]at e1;cases e1;rw[aaw Uu]at e2;cases e2;exact⟨u,r,.inr ⟨.inl hk,c,hc,hc'⟩⟩
   ·rw[aak (Ne.symm hj)]at e2
    obtain⟨u',r',q⟩:=hl j y v' e1 e2 e3;refine⟨u',r',?_⟩
    rcases q with q|⟨k,c',e,z'⟩
    ·exact .inl q
    ·refine .inr ⟨k,c',e,z'.sameBut hs ?_⟩;rintro rfl;exact hj (pX hN e1 (I.ok.inj _ _ _ e hc▸hi))
  ·by_cases hcc:c'=c
   ·subst hcc;exact⟨_,hc'⟩
   ·obtain⟨w2,z2⟩:=I.cell y c' e;exact⟨w2,z2.sameBut hs hcc⟩
  ·obtain⟨e,n,ne,nf,d⟩:=I.pin p hp;refine⟨(hs.2 p.1 ?_).trans e,n,ne,nf,d⟩;intro q;rw[q,hoc]at e;have q':oc=p.2:=aaH e;exact d w' (by rw[<-q'];exact De)
theorem pY{i:Nat}(I:Inv X pins σ H s)(hN:X.N.Nodup)(hi:X.N[i]?=some x)(hx:Loc X.env.scope x)(r:RelV v u)
  (h:∀s',Inv X pins (σ.set i (some v)) H s'->Q () s') (hf:X.fn x=true\/X.env.scope.names.lookup x=some .local):wpAny M A (storeName X.env x u) Q E s :=
 se I hN hi hx r (λs' I' _=>h s' I') hf
theorem Inv.Ld(I:Inv X pins σ H s)(ho:s'.os=s.os)(u:Un (frs X.stack) ch H H' s.heap s'.heap)(hok:iO X.prog X.w H' s'.heap)(hg:AllBare s'.gens)
  (hch:∀b∈ch,(b∈X.ex\/X.s₀.heap.objs.size<=b)/\b≠X.env.locals/\(∀x c,X.env.cells.lookup x=some c->c≠b)/\∀p∈X.pn++pins,p.1≠b):Inv X pins σ H' s':=by
 obtain⟨h',g',d',t',o'⟩:=s';have e:o'=s.os:=ho;subst e;exact I.call (g':=g') (t':=t') (d':=d') u hok hg hch
end
abbrev XK:=Value->Option Addr->Hp->Prop
abbrev St:=List (Option V)
abbrev VK:=V->Hp->Prop
abbrev TE:=St->Hp->VK->Prop
abbrev TT:=St->Hp->(Bool->Hp->Prop)->Prop
abbrev TA:=St->Hp->(List V->Hp->Prop)->Prop
structure Ends where
 nx:St->Hp->Prop
 rt:VK
 bk:St->Hp->Prop:=λ_ _=>False
 ct:St->Hp->Prop:=λ_ _=>False
abbrev TS:=Ends->St->Hp->Prop
def EP(X:Cx)(pins:List (Addr×Obj))(σ:St)(Q:VK)(u:Value)(s':Shared):Prop:=∃v H',Inv X pins σ H' s'/\RelV v u/\Q v H'
def TP(X:Cx)(pins:List (Addr×Obj))(σ:St)(Q:Bool->Hp->Prop)(b:Bool)(s':Shared):Prop:=∃H',Inv X pins σ H' s'/\Q b H'
def AP(X:Cx)(pins:List (Addr×Obj))(σ:St)(Q:List V->Hp->Prop)(us:List Value)(s':Shared):Prop:=∃vs H',Inv X pins σ H' s'/\Vals vs us/\Q vs H'
def SP(X:Cx)(pins:List (Addr×Obj))(D:Ends)(f:Flow)(s':Shared):Prop :=
 match f with
 |.next=>∃σ' H',Inv X pins σ' H' s'/\D.nx σ' H'
 |.brk=>∃σ' H',Inv X pins σ' H' s'/\D.bk σ' H'
 |.cont=>∃σ' H',Inv X pins σ' H' s'/\D.ct σ' H'
 |.ret u=>∃v σ' H',Inv X pins σ' H' s'/\RelV v u/\D.rt v H'
def PE(X:Cx)(e:Expr)(t:TE):Prop :=
 ∀(pins:List (Addr×Obj)) (s:Shared) (σ:St) (H:Hp) (Q:VK),Inv X pins σ H s->t σ H Q->wpAny (model X.prog X.w) X.A (eval e X.env) (EP X pins σ Q) X.xe s
def PT(X:Cx)(e:Expr)(t:TT):Prop :=
 ∀(pins:List (Addr×Obj)) (s:Shared) (σ:St) (H:Hp) (Q:Bool->Hp->Prop),Inv X pins σ H s->t σ H Q->wpAny (model X.prog X.w) X.A (isTrue e X.env (eval e X.env)) (TP X pins σ Q) X.xe s
def PW(X:Cx)(e:Expr)(t:TT):Prop :=
 ∀(whole:Sem Value) (pins:List (Addr×Obj)) (s:Shared) (σ:St) (H:Hp) (Q:Bool->Hp->Prop),Inv X pins σ H s->t σ H Q->wpAny (model X.prog X.w) X.A (isTrue e X.env whole) (TP X pins σ Q) X.xe s
theorem PW.pt(h:PW X e t):PT X e t:=h _
def PA(X:Cx)(es:List Expr)(t:TA):Prop :=
 ∀(pos:Pos) (pins:List (Addr×Obj)) (s:Shared) (σ:St) (H:Hp) (Q:List V->Hp->Prop),Inv X pins σ H s->t σ H Q->wpAny (model X.prog X.w) X.A (spliced (backTo pos (starEach es X.env))) (AP X pins σ Q) X.xe s
def PS(X:Cx)(st:Stmt)(t:TS):Prop :=
 ∀(pins:List (Addr×Obj)) (s:Shared) (σ:St) (H:Hp) (D:Ends),Inv X pins σ H s->t D σ H->wpAny (model X.prog X.w) X.A (exec st X.env) (SP X pins D) X.xe s
def nM(X:Cx)(st:List Stmt)(t:TS):Prop :=
 ∀(pins:List (Addr×Obj)) (s:Shared) (σ:St) (H:Hp) (D:Ends),Inv X pins σ H s->t D σ H->wpAny (model X.prog X.w) X.A (execs st X.env) (SP X pins D) X.xe s
theorem cL{α:Type}{t:Sem α}{Q Q':α -> Shared->Prop}(h:wpAny M A t Q E s)(hQ:∀a s,Q a s->Q' a s):wpAny M A t Q' E s:=aaL h hQ λ_ _ x=>x
section
variable {X:Cx}
theorem bin{a b:Expr}{ta tb:TE}(ha:PE X a ta)(hb:PE X b tb){pins:List (Addr×Obj)}{s:Shared}{σ:St}{H:Hp}{R:V->V->Hp->Prop}(I:Inv X pins σ H s)(h:ta σ H λx H1=>tb σ H1 λy H2=>R x y H2)
  {α:Type} {Q:α -> Shared->Prop} {f:Value->Value->Sem α}
  (hf:∀v u s2 x y H2,Inv X pins σ H2 s2->RelV x v->RelV y u->R x y H2->wpAny (model X.prog X.w) X.A (f v u) Q X.xe s2) :
  wpAny (model X.prog X.w) X.A (eval a X.env) (λv s₁=>wpAny (model X.prog X.w) X.A (eval b X.env) (λu s₂=>wpAny (model X.prog X.w) X.A (f v u) Q X.xe s₂) X.xe s₁) X.xe s:=by
 refine cL (ha pins s σ H _ I h) λv s1 aS=>?_;obtain⟨x,H1,I1,r1,q1⟩:=aS;refine cL (hb pins s1 σ H1 _ I1 q1) λu s2 aS=>?_;obtain⟨y,H2,I2,r2,q2⟩:=aS;exact hf v u s2 x y H2 I2 r1 r2 q2
def Mc(i:Nat):TE:=λσ H Q=>∃v,σ[i]?=some (some v)/\Q v H
def tC(v:V):TE:=λ_ H Q=>Q v H
theorem nN{i:Nat}(hN:X.N[i]?=some x)(hv:QA X.env.scope x)(hd:(x==("__debug__":Str))=false)(hcd:(x==("__classdict__":Str))=false):PE X (.Name x pos) (Mc i):=by
 intro pins s σ H Q I h;obtain⟨v,e,h⟩:=h;obtain⟨m,hn,hl⟩:=I.loc;obtain⟨u,r,l⟩:=hl i x v hN e hv;have fin:EP X pins σ Q u s:=⟨v,H,I,r,h⟩
 rcases l with ⟨hk,hm⟩|⟨hk,c,hc,hcell⟩
 ·exact wpAny_Name (wpAny_loadName_local I.ok.kind hk hn hm fin) hd
 ·rcases hk with hk|hk
  ·exact wpAny_Name (wpAny_loadName_cell I.ok.kind hk hc hcell fin) hd
  ·exact wpAny_Name (wpAny_loadName_free I.ok.kind hk hc hcell fin hcd) hd
theorem Df{i j pos}:PE X (.Constant (.int i) j pos) (tC (.int i)):=λ_ _ _ H _ I h=>wpAny_Constant_int ⟨.int i,H,I.tok _,⟨_,rfl⟩,h⟩
theorem zY{b j pos}:PE X (.Constant (.bool b) j pos) (tC (.bl b)):=λ_ _ _ H _ I h=>Constant_bool ⟨.bl b,H,I,rfl,h⟩
theorem Dg{j pos}:PE X (.Constant .none j pos) (tC .non):=λ_ _ _ H _ I h=>Constant_none ⟨.non,H,I,rfl,h⟩
theorem pZ{x j pos}:PE X (.Constant (.str x) j pos) (tC (.str x)):=λ_ _ _ H _ I h=>Calls.Constant_str ⟨.str x,H,I.tok _,⟨_,rfl⟩,h⟩
def Gl(X:Cx)(x:Str):Prop:=X.env.kindOf x=some .globalImplicit
theorem g9(I:Inv X pins σ H s)(hg:Gl X x)(hm:X.mg x=some u)(h:Q u s)
  (hd:(x==("__debug__":Str))=false):wpAny (model X.prog X.w) X.A (eval (.Name x pos) X.env) Q E s :=
 Calls.Name_function_global I.ok.kind hg (Calls.loadGlobal_global (by rw[I.ok.glob];exact I.mod.glob.keeps I.bk) hm h) hd
theorem jK(I:Inv X pins σ H s)(hg:Gl X x)(hm:X.mg x=none)(hv:bootBuiltins x=some u)(h:Q u s)
  (hn:x ≠ "__name__":=by decide) (hd:(x==("__debug__":Str))=false:=by decide):wpAny (model X.prog X.w) X.A (eval (.Name x pos) X.env) Q E s:=by
 obtain⟨mb,h1,h2⟩:=I.mod.blt;exact Calls.Name_function_global I.ok.kind hg (Calls.loadGlobal_builtin (by rw[I.ok.glob];exact I.mod.glob.keeps I.bk) hm (by rw[I.ok.blt];exact h1.keeps I.bk) ((h2 x hn).trans hv) h) hd
theorem um(hg:Gl X x)(hm:X.mg x=some u)(r:RelV v u)(hd:(x==("__debug__":Str))=false):PE X (.Name x pos) (tC v) :=
 λ_ _ _ H _ I h=>g9 I hg hm ⟨v,H,I,r,h⟩ hd
theorem HH(hg:Gl X x)(hm:X.mg x=none)(hv:bootBuiltins x=some u)(r:RelV v u)(hn:x ≠ "__name__")(hd:(x==("__debug__":Str))=false):PE X (.Name x pos) (tC v) :=
 λ_ _ _ H _ I h=>jK I hg hm hv ⟨v,H,I,r,h⟩ hn hd
variable {a b:Expr} {ta tb:TE} {pos:Pos}
variable {tA Uv:TT} {rest:List Expr}
def U6(t u:TT):TT:=λσ H Q=>t σ H λc H1=>if c=true then u σ H1 Q else Q false H1
def YF(t u:TT):TT:=λσ H Q=>t σ H λc H1=>if c=true then Q true H1 else u σ H1 Q
def U7(t:TT):TT:=λσ H Q=>t σ H λc H1=>Q (!c) H1
theorem HJ(ha:PT X a tA):PW X (.BoolOp .And [a] pos) tA:=by
 intro wh pins s σ H Q I h;refine isTrue_and (cL (ha pins s σ H Q I h) λc s1 e=>?_);cases c with
 |true=>exact isTrue_and_nil e
 |false=>exact e
theorem Mf(ha:PT X a tA):PW X (.BoolOp .Or [a] pos) tA:=by
 intro wh pins s σ H Q I h;refine isTrue_or (cL (ha pins s σ H Q I h) λc s1 e=>?_);cases c with
 |false=>exact isTrue_or_nil e
 |true=>exact e
theorem Mg(ha:PT X a tA)(hb:PW X (.BoolOp .And (b::rest) pos) Uv):PW X (.BoolOp .And (a::b::rest) pos) (U6 tA Uv):=by
 intro wh pins s σ H Q I h;refine isTrue_and (cL (ha pins s σ H _ I h) λc s1 aS=>?_);obtain⟨H1,I1,q1⟩:=aS;cases c with
 |true=>exact hb wh pins s1 σ H1 Q I1 q1
 |false=>exact⟨H1,I1,q1⟩
theorem QD(ha:PT X a tA)(hb:PW X (.BoolOp .Or (b::rest) pos) Uv):PW X (.BoolOp .Or (a::b::rest) pos) (YF tA Uv):=by
 intro wh pins s σ H Q I h;refine isTrue_or (cL (ha pins s σ H _ I h) λc s1 aS=>?_);obtain⟨H1,I1,q1⟩:=aS;cases c with
 |true=>exact⟨H1,I1,q1⟩
 |false=>exact hb wh pins s1 σ H1 Q I1 q1
theorem Mh(ha:PT X a tA):PT X (.UnaryOp .Not a pos) (U7 tA):=by
 intro pins s σ H Q I h;exact isTrue_not (ha pins s σ H (λc H1=>Q (!c) H1) I h)
def QE(ta tb:TE):TE:=λσ H Q=>ta σ H λx H1=>∃c,x=.bl c/\if c=true then tb σ H1 Q else Q (.bl false) H1
def U8(ta tb:TE):TE:=λσ H Q=>ta σ H λx H1=>∃c,x=.bl c/\if c=true then Q (.bl true) H1 else tb σ H1 Q
def QF(ta:TE):TE:=λσ H Q=>ta σ H λx H1=>∃c,x=.bl c/\Q (.bl (!c)) H1
theorem uo{op}(h:PE X a t):PE X (.BoolOp op [a] pos) t:=λpins s σ H Q I hw=>BoolOp_one (h pins s σ H Q I hw)
theorem yv(ha:PE X a ta)(hb:PE X (.BoolOp .And (b::rest) pos) tb):PE X (.BoolOp .And (a::b::rest) pos) (QE ta tb):=by
 intro pins s σ H Q I h;refine BoolOp_and (cL (ha pins s σ H _ I h) λv s1 aS=>?_);obtain⟨x,H1,I1,r1,q1⟩:=aS;obtain⟨c,rfl,q1⟩:=q1;cases r1;refine wpAny_truthy_bool ?_;cases c with
 |true=>exact hb pins s1 σ H1 Q I1 q1
 |false=>exact⟨.bl false,H1,I1,rfl,q1⟩
theorem QG(ha:PE X a ta)(hb:PE X (.BoolOp .Or (b::rest) pos) tb):PE X (.BoolOp .Or (a::b::rest) pos) (U8 ta tb):=by
 intro pins s σ H Q I h;refine BoolOp_or (cL (ha pins s σ H _ I h) λv s1 aS=>?_);obtain⟨x,H1,I1,r1,q1⟩:=aS;obtain⟨c,rfl,q1⟩:=q1;cases r1;refine wpAny_truthy_bool ?_;cases c with
 |false=>exact hb pins s1 σ H1 Q I1 q1
 |true=>exact⟨.bl true,H1,I1,rfl,q1⟩
theorem yw(ha:PE X a ta):PE X (.UnaryOp .Not a pos) (QF ta):=by
 intro pins s σ H Q I h;refine UnaryOp_ (cL (ha pins s σ H _ I h) λv s1 aS=>?_);obtain⟨x,H1,I1,r1,q1⟩:=aS;obtain⟨c,rfl,q1⟩:=q1;cases r1;exact not_of (wpAny_truthy_bool ⟨.bl (!c),H1,I1,rfl,q1⟩)
end
def gD(K:Frag)(H:Hp)(a:Addr)(xs:List V):Prop :=
 Rd H a (.lst xs) \/
  ∃(o:Obj) (its:Array Value) (n:Nat),K.lookup a=some o/\o.cls=.type "list" /\ o.dict=none/\o.data=.seq its n/\its.size<=sizeLine/\Vals xs its.toList
def iP(K:Frag)(H:Hp)(a:Addr)(xs:List V):Prop :=
 Rd H a (.tup xs) \/
  ∃(o:Obj) (its:Array Value) (n:Nat),K.lookup a=some o/\o.cls=.type "tuple" /\ o.data=.seq its n/\its.size<=sizeLine/\Vals xs its.toList
def U9:Value->Option V
 |.none=>some .non
 |.bool b=>some (.bl b)
 |.int i _=>some (.int i)
 |.str x _=>some (.str x)
 |.bytes b _=>some (.byt b)
 |.float b _=>some (.flt b)
 |.ref a=>some (.ref a)
 |.type n=>some (.ty n)
 |_=>none
theorem RelV.abs(r:RelV x u):U9 u=some x:=by
 cases x with
 |non=>cases r;rfl
 |bl _=>cases r;rfl
 |int _=>obtain⟨t,rfl⟩:=r;rfl
 |str _=>obtain⟨t,rfl⟩:=r;rfl
 |byt _=>obtain⟨t,rfl⟩:=r;rfl
 |flt _=>obtain⟨t,rfl⟩:=r;rfl
 |ref _=>cases r;rfl
 |ty _=>cases r;rfl
theorem RelV.inj(r:RelV x u)(q:RelV y u):x=y:=aaH (r.abs.symm.trans q.abs)
theorem Vals.inj:∀{xs ys:List V} {us:List Value},Vals xs us->Vals ys us->xs=ys
 |_,_,_,.nil,.nil=>rfl
 |_,_,_,.cons r t,.cons r' t'=>by rw[r.inj r',Vals.inj t t']
section
variable {X:Cx} {pins:List (Addr×Obj)} {σ:St} {H:Hp} {s:Shared} {a:Addr} {xs ys:List V}
theorem iP.of{K:Frag}(h:H a=some (.tup xs)):iP K H a xs:=.inl (.inl h)
theorem Inv.list(I:Inv X pins σ H s)(h:gD X.K H a xs):∃its:List Value,Vals xs its/\PlainL s.heap a its.toArray/\xs.length<=sizeLine:=by
 rcases h with h|⟨o,its,n,hk,hc,hd,hs,hz,r⟩
 ·obtain⟨z,its,n,r,e⟩:=h.ok I.hok;exact⟨its,r,⟨_,n,e,rfl,rfl,rfl⟩,z⟩
 ·refine⟨its.toList,r,⟨o,n,I.jJ a o hk,hc,hd,by simpa using hs⟩,?_⟩;have e:=r.length;simp only[Array.length_toList]at e;omega
theorem Inv.tuple(I:Inv X pins σ H s)(h:iP X.K H a xs):∃its:List Value,Vals xs its/\IsTup s.heap a its.toArray/\xs.length<=sizeLine:=by
 rcases h with h|⟨o,its,n,hk,hc,hs,hz,r⟩
 ·obtain⟨z,its,r,p⟩:=h.ok I.hok;exact⟨its,r,p,z⟩
 ·refine⟨its.toList,r,⟨o,I.jJ a o hk,hc,n,by simpa using hs⟩,?_⟩;have e:=r.length;simp only[Array.length_toList]at e;omega
theorem Inv.vS(I:Inv X pins σ H s)(h:gD X.K H a xs)(h':gD X.K H a ys):xs=ys:=by
 obtain⟨its,r,⟨o,n,e,_,_,d⟩,_⟩:=I.list h;obtain⟨its',r',⟨o',n',e',_,_,d'⟩,_⟩:=I.list h';rw[e]at e';cases e';rw[d]at d';injection d' with d1 _
 have:its=its':=by simpa using congrArg toList d1
 subst this;exact r.inj r'
theorem Inv.BD(I:Inv X pins σ H s)(h:iP X.K H a xs)(h':iP X.K H a ys):xs=ys:=by
 obtain⟨its,r,⟨o,e,_,n,d⟩,_⟩:=I.tuple h;obtain⟨its',r',⟨o',e',_,n',d'⟩,_⟩:=I.tuple h';rw[e]at e';cases e';rw[d]at d';injection d' with d1 _
 have:its=its':=by simpa using congrArg toList d1
 subst this;exact r.inj r'
end
abbrev Cx.gg(X:Cx)(E:Value->Shared->Prop):Cx:={ X with xe:=E }
abbrev Cx.HK(X:Cx):Cx:=X.gg λ_ _=>False
theorem Cx.Ok.gg{X:Cx}(ok:X.Ok)(E:Value->Shared->Prop):(X.gg E).Ok :=
 ⟨ok.mod,ok.kind,ok.glob,ok.blt,ok.above,ok.inj,ok.has,ok.Qf,ok.hd,ok.frames,ok.stk,ok.Ut,ok.bs,ok.HG,ok.BB,ok.BC,ok.nL,ok.Lb⟩
theorem Cx.Ok.fJ{X:Cx}{E:Value->Shared->Prop}(ok:(X.gg E).Ok):X.Ok :=
 ⟨ok.mod,ok.kind,ok.glob,ok.blt,ok.above,ok.inj,ok.has,ok.Qf,ok.hd,ok.frames,ok.stk,ok.Ut,ok.bs,ok.HG,ok.BB,ok.BC,ok.nL,ok.Lb⟩
section
variable {X:Cx} {pins:List (Addr×Obj)} {σ:St} {H:Hp} {s:Shared} {E:Value->Shared->Prop}
theorem Inv.gg(I:Inv X pins σ H s)(E:Value->Shared->Prop):Inv (X.gg E) pins σ H s:=⟨I.ok.gg E,I.os,I.bare,I.base,I.loc,I.cell,I.free,I.gH,I.pin,I.hok,I.len⟩
theorem Inv.fJ(I:Inv (X.gg E) pins σ H s):Inv X pins σ H s:=⟨I.ok.fJ,I.os,I.bare,I.base,I.loc,I.cell,I.free,I.gH,I.pin,I.hok,I.len⟩
theorem SP.fJ(h:SP (X.gg E) pins D f s'):SP X pins D f s':=by
 cases f with
 |next=>obtain⟨σ',H',I,q⟩:=h;exact⟨σ',H',I.fJ,q⟩
 |brk=>obtain⟨σ',H',I,q⟩:=h;exact⟨σ',H',I.fJ,q⟩
 |cont=>obtain⟨σ',H',I,q⟩:=h;exact⟨σ',H',I.fJ,q⟩
 |ret u=>obtain⟨v,σ',H',I,r,q⟩:=h;exact⟨v,σ',H',I.fJ,r,q⟩
theorem nM.HK{st:List Stmt}{t:TS}(h:nM X.HK st t):nM X st t:=λpins s σ H D I hw=>
 aaL (h pins s σ H D (I.gg _) hw) (λ_ _ q=>q.fJ) λ_ _ z=>False.elim z
end
section
variable {X:Cx} {st:Stmt} {rest:List Stmt} {t u:TS} {e:Expr} {te:TE} {pos:Pos}
def Dh:TS:=λD σ H=>D.nx σ H
def Va(t u:TS):TS:=λD σ H=>t { D with nx:=u D } σ H
theorem HL:nM X [] Dh:=λ_ _ σ H _ I h=>wpAny_execs_nil ⟨σ,H,I,h⟩
theorem fR(h1:PS X st t)(h2:nM X rest u):nM X (st::rest) (Va t u):=by
 intro pins s σ H D I h;refine wpAny_execs_cons (cL (h1 pins s σ H { D with nx:=u D } I h) λf s1 q=>?_);cases f with
 |next=>obtain⟨σ',H',I',q⟩:=q;exact h2 pins s1 σ' H' D I' q
 |ret v=>exact q
 |brk=>exact q
 |cont=>exact q
theorem uq(h1:PS X st t):nM X [st] t:=by
 intro pins s σ H D I h;refine wpAny_execs_cons (cL (h1 pins s σ H D I h) λf s1 q=>?_);cases f with
 |next=>exact wpAny_execs_nil q
 |ret v=>exact q
 |brk=>exact q
 |cont=>exact q
def Mi:TS:=λD σ H=>D.bk σ H
def QH:TS:=λD σ H=>D.ct σ H
theorem HM:PS X (.Pass pos) Dh:=λ_ _ σ H _ I h=>wpAny_Pass ⟨σ,H,I,h⟩
theorem Di:PS X (.Break pos) Mi:=λ_ _ σ H _ I h=>wpAny_Break ⟨σ,H,I,h⟩
theorem vU:PS X (.Continue pos) QH:=λ_ _ σ H _ I h=>wpAny_Continue ⟨σ,H,I,h⟩
theorem Inv.quiet(I:Inv X pins σ H s):interactive X.env=false:=by simp[interactive,I.ok.kind]
theorem Mj{x j pos pos'}:PS X (.Expr (.Constant (.str x) j pos) pos') Dh:=λ_ s σ H _ I h=>wpAny_Expr (Calls.Constant_str (show SP X _ _ .next { s with toks:=s.toks+1 } from⟨σ,H,I.tok _,h⟩)) I.quiet
def QI(te:TE):TS:=λD σ H=>te σ H λ_ H1=>D.nx σ H1
theorem HN(he:PE X e te)(hs:swapsWith e none pos.line X.env=pure false):PS X (.Expr e pos) (QI te):=by
 intro pins s σ H D I h;exact wpAny_Expr_any (cL (he pins s σ H _ I h) λv s1 ⟨x,H1,I1,r1,q1⟩=>⟨σ,H1,I1,q1⟩) I.quiet hs
def Vb(te:TE):TS:=λD σ H=>te σ H D.rt
theorem Ml(he:PE X e te):PS X (.Return (some e) pos) (Vb te):=by
 intro pins s σ H D I h;exact wpAny_Return_some (cL (he pins s σ H _ I h) λv s1 ⟨x,H1,I1,r1,q1⟩=>⟨x,σ,H1,I1,r1,q1⟩)
def QJ:TS:=λD _ H=>D.rt .non H
theorem HP:PS X (.Return none pos) QJ:=λ_ _ σ H _ I h=>wpAny_Return_none ⟨.non,σ,H,I,rfl,h⟩
def Vc(c:TT)(t u:TS):TS:=λD σ H=>c σ H λb H1=>if b=true then t D σ H1 else u D σ H1
theorem QK(hc:PT X c tc)(ha:nM X a t)(hb:nM X b u):PS X (.If c a b pos) (Vc tc t u):=by
 intro pins s σ H D I h;refine wpAny_If (cL (hc pins s σ H _ I h) λd s1 aS=>?_);obtain⟨H1,I1,q1⟩:=aS;cases d with
 |true=>exact ha pins s1 σ H1 D I1 q1
 |false=>exact hb pins s1 σ H1 D I1 q1
def Mm:TS:=λ_ _ _=>False
theorem p7:PS X st Mm:=λ_ _ _ _ _ _ h=>h.elim
end
abbrev TG:=V->St->Hp->(St->Hp->Prop)->Prop
abbrev Qg:=List V->St->Hp->(St->Hp->Prop)->Prop
def PG(X:Cx)(target:Expr)(t:TG):Prop :=
 ∀(pins:List (Addr×Obj)) (s:Shared) (σ:St) (H:Hp) (v:V) (u:Value) (Q:St->Hp->Prop),Inv X pins σ H s->RelV v u->t v σ H Q ->
  wpAny (model X.prog X.w) X.A (assign target X.env u) (λ_ s'=>∃σ' H',Inv X pins σ' H' s'/\Q σ' H') X.xe s
def Qh(X:Cx)(ts:List Expr)(t:Qg):Prop :=
 ∀(pins:List (Addr×Obj)) (s:Shared) (σ:St) (H:Hp) (vs:List V) (us:List Value) (Q:St->Hp->Prop),Inv X pins σ H s->Vals vs us->t vs σ H Q ->
  wpAny (model X.prog X.w) X.A (assignInOrder ((assignEach ts X.env).map (·.2)) us) (λ_ s'=>∃σ' H',Inv X pins σ' H' s'/\Q σ' H') X.xe s
abbrev Mn:=V->V->V->Hp->(Hp->Prop)->Prop
def QL(X:Cx)(t:Mn):Prop :=
 ∀(pins:List (Addr×Obj)) (s:Shared) (σ:St) (H:Hp) (o i v:V) (ov iv u:Value) (Q:Hp->Prop),Inv X pins σ H s->RelV o ov->RelV i iv->RelV v u->t o i v H Q ->
  wpAny (model X.prog X.w) X.A (setItem ov iv u) (λ_ s'=>∃H',Inv X pins σ H' s'/\Q H') X.xe s
section
variable {X:Cx} {pos:Pos}
def oN(i:Nat):TG:=λv σ H Q=>Q (σ.set i (some v)) H
theorem mz{i:Nat}(hN:X.N.Nodup)(hi:X.N[i]?=some x)(hx:Loc X.env.scope x)(hf:X.fn x=true\/X.env.scope.names.lookup x=some .local):PG X (.Name x pos) (oN i):=by
 intro pins s σ H v u Q I r h;exact wpAny_assign_Name (pY I hN hi hx r (λs' I'=>⟨_,H,I',h⟩) hf)
def QM:Qg:=λvs σ H Q=>vs=[]/\Q σ H
def Le(t:TG)(u:Qg):Qg:=λvs σ H Q=>∃v r,vs=v::r/\t v σ H λσ' H'=>u r σ' H' Q
theorem zZ:Qh X [] QM:=by
 intro pins s σ H vs us Q I r h;obtain⟨e,h⟩:=h;subst e;cases r;exact assignInOrder_nil ⟨σ,H,I,h⟩
theorem vV(h1:PG X e t)(h2:Qh X es u)
  (hs:(assignEach (e::es) X.env).map (·.2)=assign e X.env::(assignEach es X.env).map (·.2):=by rfl):Qh X (e::es) (Le t u):=by
 intro pins s σ H vs us Q I r h;obtain⟨v,vr,e1,h⟩:=h;subst e1;cases r with
 |cons r rr=>rw[hs];refine assignInOrder_cons (cL (h1 pins s σ H _ _ _ I r h) λ_ s1 aS=>?_);obtain⟨σ1,H1,I1,q1⟩:=aS;exact h2 pins s1 σ1 H1 _ _ Q I1 rr q1
def QN(K:Frag)(n:Nat)(t:Qg):TG:=λv σ H Q=>∃a xs,v=.ref a/\iP K H a xs/\xs.length=n/\t xs σ H Q
theorem Dj{k:Nat}{n:Nat}(hc:X.calm=true)(h:Qh X es t)
  (hn:(assignEach es X.env).length=n) (hst:(assignEach es X.env).findIdx? (·.1)=none):PG X (.Tuple es k pos) (QN X.K n t):=by
 intro pins s σ H v u Q I r hw;obtain⟨a,xs,e1,hq,hl,hw⟩:=hw;subst e1;cases r;obtain⟨its,rv,ht,hz⟩:=I.tuple hq;refine assign_Tuple_tuple (I.ok.hd hc) ht (by simp[hn,<-hl,rv.length]) hst λh' hx=>?_;have I1:Inv X pins σ H { s with heap:=h' }:=I.kept (t':=s.toks) λb o e=>hx b o (aat (aam e)) e;exact h pins _ σ H xs _ Q I1 (by simpa using rv) hw
def QO(to ti:TE)(t:Mn):TG:=λv σ H Q=>to σ H λo H1=>ti σ H1 λi H2=>t o i v H2 λH3=>Q σ H3
theorem Mp(ho:PE X o to)(hi:PE X i ti)(hs:QL X t)
  (ha:∀v,assign (.Subscript o i pos) X.env v=(do
   let ov <-holding [v] (eval o X.env)
   let iv <-holding [v,ov] (eval i X.env)
   standAt pos
   holding [v,ov,iv] (setItem ov iv v)
   release [v,ov,iv] [])):PG X (.Subscript o i pos) (QO to ti t):=by
 intro pins s σ H v u Q I r h;rw[ha];refine aaa (wpAny_holding (cL (ho pins s σ H _ I h) λov s1 aS=>?_));obtain⟨x,H1,I1,r1,q1⟩:=aS;refine aaa (wpAny_holding (cL (hi pins s1 σ H1 _ I1 q1) λiv s2 aS=>?_));obtain⟨y,H2,I2,r2,q2⟩:=aS;refine aaa (wpAny_standAt (aaa (wpAny_holding (cL (hs pins s2 σ H2 x y v ov iv u _ I2 r1 r2 r q2) λ_ s3 aS=>?_))));obtain⟨H3,I3,q3⟩:=aS;exact wpAny_release ⟨σ,H3,I3,q3⟩
def Dk(te:TE)(g:TG):TS:=λD σ H=>te σ H λx H1=>g x σ H1 D.nx
theorem iC(he:PE X e te)(hg:PG X tg g)(hs:swapsWithSole [tg] e pos.line X.env=pure false)(hw:swappedStores [tg] e X.env=pure none)
  (h1:(assignEach [tg] X.env).map (·.2)=[assign tg X.env]):PS X (.Assign [tg] e pos) (Dk te g):=by
 intro pins s σ H D I h;refine wpAny_Assign_stores (cL (he pins s σ H _ I h) λv s1 ⟨x,H1,I1,r1,q1⟩=>?_) hs hw;rw[h1];exact cL (hg pins s1 σ H1 x v _ I1 r1 q1) λ_ s2 q=>q
theorem Dl{i:Nat}(hN:X.N.Nodup)(hi:X.N[i]?=some x)(hx:Loc X.env.scope x)(he:PE X e te)(hs:swapsWith e (some (.Name x pos')) pos.line X.env=pure false)(hf:X.fn x=true\/X.env.scope.names.lookup x=some .local) :
  PS X (.Assign [.Name x pos'] e pos) (Dk te (oN i)):=by
 intro pins s σ H D I h;refine wpAny_Assign_Name (cL (he pins s σ H _ I h) λv s1 ⟨y,H1,I1,r1,q1⟩=>?_) hs;exact pY I1 hN hi hx r1 (λs2 I2=>⟨_,H1,I2,q1⟩) hf
end
structure It where
 go:Nat->Hp->Prop
 yr:Nat->Hp->V->Hp->Prop
 stop:Nat->Hp->Prop
def kU(X:Cx)(pins:List (Addr×Obj))(H:Hp)(b:Addr):Prop :=
 H b=none/\b≠X.env.locals/\b∉X.fs/\(b∈X.ex\/X.s₀.heap.objs.size<=b)/\(∀x c,X.env.cells.lookup x=some c->c≠b)/\∀p∈X.pn++pins,p.1≠b
theorem Inv.Dm(I:Inv X pins σ H s)(hb:s.heap.objs.size<=b)(hn:H' b=none):kU X pins H' b:=by
 refine⟨hn,ne_of_gt (aao I.lt hb),I.U4 hb,.inr (aaK I.sz hb),λx c e z=>?_,λp hp z=>?_⟩
 ·obtain⟨v,q⟩:=I.cell x c e;exact absurd (aao q.lt (by rw[z];exact hb)) (aaR _)
 ·exact absurd (aao (aam (I.pin p hp).1) (by rw[z];exact hb)) (aaR _)
structure Turn (P:Program) (w:World) (K:Frag) (tg:Expr) (J:It) (fp:List Addr) (it:Addr) (tn:Nat->Heap->Prop):Prop where
 mem:it∈fp
 obj:∀i h,tn i h->∀b∈fp,∃o,h.get? b=some o/\∀v,o.data≠.cell v
 keep:∀i h h',tn i h->(∀b∈fp,∀o,h.get? b=some o->h'.get? b=some o)->tn i h'
 item:∀(X:Cx),X.prog=P->X.w=w->X.K=K->X.calm=true->∀(i:Nat) (pins:List (Addr×Obj)) (s:Shared) (σ:St) (H:Hp) (E:Value->Shared->Prop),Inv X pins σ H s->(∀b∈fp,kU X pins H b)->tn i s.heap->J.go i H ->
  wpAny (model P w) X.A (pyNext (.ref it)) (λr s1=>∃u,r=some u /\
   wpAny (model P w) X.A (letOwnedTupleGo tg (.ref it) u) (λ_ s2=>∃x H',Inv X pins σ H' s2/\RelV x u/\J.yr i H x H'/\tn (i+1) s2.heap/\∀b∈fp,H' b=none) E s1) E s
 done:∀(X:Cx),X.prog=P->X.w=w->X.K=K->X.calm=true->∀(i:Nat) (pins:List (Addr×Obj)) (s:Shared) (σ:St) (H:Hp) (E:Value->Shared->Prop),Inv X pins σ H s->(∀b∈fp,kU X pins H b)->tn i s.heap->J.stop i H ->
  wpAny (model P w) X.A (pyNext (.ref it)) (λr s1=>r=none/\Inv X pins σ H s1) E s
 self:∀(A:Around) (i:Nat) (s:Shared) (Q:Value->Shared->Prop) (E:Value->Shared->Prop),tn i s.heap->Q (.ref it) s->wpAny (model P w) A (pyIter (.ref it)) Q E s
abbrev TI:=St->Hp->(It->Hp->Prop)->Prop
def W4(X:Cx)(pins:List (Addr×Obj))(σ:St)(tg:Expr)(R:It->Hp->Prop)(itv:Value)(s2:Shared):Prop :=
 ∃(it:Addr) (fp:List Addr) (tn:Nat->Heap->Prop) (J:It) (H':Hp),itv=.ref it/\Inv X pins σ H' s2/\Turn X.prog X.w X.K tg J fp it tn/\tn 0 s2.heap/\(∀b∈fp,kU X pins H' b)/\R J H'
def PI(X:Cx)(tg iter:Expr)(wi:TI):Prop :=
 ∀(pins:List (Addr×Obj)) (s:Shared) (σ:St) (H:Hp) (R:It->Hp->Prop),Inv X pins σ H s->wi σ H R ->
  wpAny (model X.prog X.w) X.A (eval iter X.env) (λv s1=>wpAny (model X.prog X.w) X.A (pyIter v) (W4 X pins σ tg R) X.xe s1) X.xe s
theorem z6{n:String}(ho:s.heap.get? it=some o)(hc:o.cls=.type n)(hd:o.data=.fields vs)
  (hn:["enumerate","zip","dict_itemiterator","dict_reverseitemiterator","odict_iterator","itertools.zip_longest","itertools.pairwise"].contains n=false) (hQ:Q () s):wpAny M A (letOwnedTupleGo tg (.ref it) u) Q E s:=by
 unfold letOwnedTupleGo;cases tg<;>first
  |exact aag hQ
  | (cases u<;>first
    |exact aag hQ
    | (refine aaa (wpAny_load ho ?_)
       rw[hc,hd];show wpAny M A (if (["enumerate","zip","dict_itemiterator","dict_reverseitemiterator","odict_iterator","itertools.zip_longest","itertools.pairwise"].contains n&&vs[0]?==some (rawInt _))=true then _ else _) Q E s;rw[aaj (by intro h;rw[hn,Bool.false_and]at h;cases h)];exact aag hQ))
def Uw(K:Frag)(a:Addr):It :=
 ⟨λi H=>∃xs x,gD K H a xs/\xs[i]?=some x,λi H x H'=>H'=H/\∀xs,gD K H a xs->xs[i]?=some x,λi H=>∃xs,gD K H a xs/\xs.length<=i⟩
def Vd(K:Frag)(a:Addr):It :=
 ⟨λi H=>∃xs x,iP K H a xs/\xs[i]?=some x,λi H x H'=>H'=H/\∀xs,iP K H a xs->xs[i]?=some x,λi H=>∃xs,iP K H a xs/\xs.length<=i⟩
def QS(lo:Int)(n:Nat):It:=⟨λi _=>i<n,λi H x H'=>H'=H/\x=.int (lo+i),λi _=>n<=i⟩
theorem BE{P:Program}{w:World}{K:Frag}{tg:Expr}(a it:Addr):Turn P w K tg (Uw K a) [it] it (λi h=>h.IsListIter it a i) where
 mem:=by simp
 obj:=λi h st b hb=>by
  have e:b=it:=by simpa using hb
  subst e;obtain⟨o,e,c,d⟩:=st;exact⟨o,e,λv z=>by rw[d]at z;cases z⟩
 keep:=λi h h' st k=>st.at λo e=>k it (by simp) o e
 item:=by intro X hP hw hK hc i pins s σ H E I hf st hg;subst hP hw hK;obtain⟨xs,x,hq,hx⟩:=hg;obtain⟨its,rv,p,hz⟩:=I.list hq;obtain⟨u,hu,ru⟩:=rv.get hx;obtain⟨f0,f1,f2,f3,f4,f5⟩:=hf it (by simp);refine wpAny_pyNext_list_item st p.isList (x:=u) (by simpa using hu) λh' st' sb=>?_;have I1:Inv X pins σ H { s with heap:=h' }:=I.turned (t':=s.toks) (λb o hb e=>(sb.2 b hb).trans e) f0 f1 f3 f4 f5;obtain⟨o,e,c,d⟩:=id st';exact⟨u,rfl,z6 (s:={ s with heap:=h' }) e c d (by decide) ⟨x,H,I1,ru,⟨rfl,λys hy=>by rw[I.vS hy hq];exact hx⟩,st',λb hb=>(hf b hb).1⟩⟩
 done:=by intro X hP hw hK hc i pins s σ H E I hf st hg;subst hP hw hK;obtain⟨xs,hq,hx⟩:=hg;obtain⟨its,rv,p,hz⟩:=I.list hq;obtain⟨f0,f1,f2,f3,f4,f5⟩:=hf it (by simp);have hl:=rv.length;exact wpAny_pyNext_list_end (I.ok.hd hc) st p.isList (by simp;omega) λh' eb=>⟨rfl,I.turned (t':=s.toks) (λb o hb e=>eb b o hb e) f0 f1 f3 f4 f5⟩
 self:=λ_ _ _ _ _ st h=>wpAny_pyIter_listiter st h
theorem yx{P:Program}{w:World}{K:Frag}{tg:Expr}(a it:Addr):Turn P w K tg (Vd K a) [it] it (λi h=>h.IsTupleIter it a i) where
 mem:=by simp
 obj:=λi h st b hb=>by
  have e:b=it:=by simpa using hb
  subst e;obtain⟨o,e,c,d⟩:=st;exact⟨o,e,λv z=>by rw[d]at z;cases z⟩
 keep:=λi h h' st k=>st.at λo e=>k it (by simp) o e
 item:=by intro X hP hw hK hc i pins s σ H E I hf st hg;subst hP hw hK;obtain⟨xs,x,hq,hx⟩:=hg;obtain⟨its,rv,p,hz⟩:=I.tuple hq;obtain⟨u,hu,ru⟩:=rv.get hx;obtain⟨f0,f1,f2,f3,f4,f5⟩:=hf it (by simp);refine wpAny_pyNext_tuple_item st (show s.heap.IsTuple a its.toArray from p) (x:=u) (by simpa using hu) λh' st' sb=>?_;have I1:Inv X pins σ H { s with heap:=h' }:=I.turned (t':=s.toks) (λb o hb e=>(sb.2 b hb).trans e) f0 f1 f3 f4 f5;obtain⟨o,e,c,d⟩:=id st';exact⟨u,rfl,z6 (s:={ s with heap:=h' }) e c d (by decide) ⟨x,H,I1,ru,⟨rfl,λys hy=>by rw[I.BD hy hq];exact hx⟩,st',λb hb=>(hf b hb).1⟩⟩
 done:=by intro X hP hw hK hc i pins s σ H E I hf st hg;subst hP hw hK;obtain⟨xs,hq,hx⟩:=hg;obtain⟨its,rv,p,hz⟩:=I.tuple hq;obtain⟨f0,f1,f2,f3,f4,f5⟩:=hf it (by simp);have hl:=rv.length;exact wpAny_pyNext_tuple_end (I.ok.hd hc) st (show s.heap.IsTuple a its.toArray from p) (by simp;omega) λh' eb=>⟨rfl,I.turned (t':=s.toks) (λb o hb e=>eb b o hb e) f0 f1 f3 f4 f5⟩
 self:=λ_ _ _ _ _ st h=>wpAny_pyIter_tupleiter st h
theorem yy{P:Program}{w:World}{K:Frag}{tg:Expr}(it:Addr)(lo:Int)(n:Nat):Turn P w K tg (QS lo n) [it] it (λi h=>IsRangeIter h it (lo+(i:Nat)*1) ((n:Int)-(i:Nat)) 1) where
 mem:=by simp
 obj:=λi h st b hb=>by
  have e:b=it:=by simpa using hb
  subst e;exact⟨_,st,λv z=>by
   have z':Data.fields _=Data.cell v:=z;cases z'⟩
 keep:=λi h h' st k=>k it (by simp) _ st
 item:=by intro X hP hw hK hc i pins s σ H E I hf st hg;subst hP hw hK;obtain⟨f0,f1,f2,f3,f4,f5⟩:=hf it (by simp);have W:=Walks.range (prog:=X.prog) (w:=X.w) (I.ok.hd hc) it lo 1 n;refine W.item i s _ _ hg st λv h' tk hv st' kk=>?_;obtain⟨t,rfl⟩:=hv;have I1:Inv X pins σ H { s with heap:=h',toks:=tk }:=I.turned (λb o hb e=>kk b o (by simpa using hb) e) f0 f1 f3 f4 f5;refine⟨_,rfl,z6 (s:={ s with heap:=h',toks:=tk }) (n:="range_iterator") st' rfl rfl (by decide) ⟨.int (lo+i),H,I1,⟨t,?_⟩,⟨rfl,rfl⟩,st',λb hb=>(hf b hb).1⟩⟩;rw[Int.mul_one]
 done:=by intro X hP hw hK hc i pins s σ H E I hf st hg;subst hP hw hK;obtain⟨f0,f1,f2,f3,f4,f5⟩:=hf it (by simp);exact wpAny_pyNext_range_end (I.ok.hd hc) st (by have:n<=i:=hg;omega) λh' eb=>⟨rfl,I.turned (t':=s.toks) (λb o hb e=>eb b o hb e) f0 f1 f3 f4 f5⟩
 self:=λ_ _ _ _ _ st h=>wpAny_pyIter_rangeiter st h
section
variable {X:Cx} {tg:Expr}
def QT(K:Frag)(tl:TE):TI:=λσ H R=>tl σ H λx H1=>∃a,x=.ref a/\(∃xs,gD K H1 a xs)/\R (Uw K a) H1
def Ve(K:Frag)(tl:TE):TI:=λσ H R=>tl σ H λx H1=>∃a,x=.ref a/\(∃xs,iP K H1 a xs)/\R (Vd K a) H1
theorem HQ(hl:PE X l tl):PI X tg l (QT X.K tl):=by
 intro pins s σ H R I h;refine cL (hl pins s σ H _ I h) λv s1 aS=>?_;obtain⟨x,H1,I1,r1,q1⟩:=aS;obtain⟨a,e,⟨xs,hq⟩,q⟩:=q1;subst e;cases r1;obtain⟨its,rv,p,hz⟩:=I1.list hq;refine wpAny_pyIter_list p.isList ?_;refine⟨s1.heap.objs.size,[s1.heap.objs.size],_,_,H1,rfl,I1.kept (t':=s1.toks) λb o e=>aad _ e,BE a _,⟨_,aaq _ rfl,rfl,rfl⟩,λb hb=>?_,q⟩;have e:b=s1.heap.objs.size:=by simpa using hb
 subst e;exact I1.Dm (aal _) (I1.hok.fresh (aal _))
theorem Mq(hl:PE X l tl):PI X tg l (Ve X.K tl):=by
 intro pins s σ H R I h;refine cL (hl pins s σ H _ I h) λv s1 aS=>?_;obtain⟨x,H1,I1,r1,q1⟩:=aS;obtain⟨a,e,⟨xs,hq⟩,q⟩:=q1;subst e;cases r1;obtain⟨its,rv,p,hz⟩:=I1.tuple hq;refine wpAny_pyIter_tuple (show s1.heap.IsTuple a its.toArray from p) ?_;refine⟨s1.heap.objs.size,[s1.heap.objs.size],_,_,H1,rfl,I1.kept (t':=s1.toks) λb o e=>aad _ e,yx a _,⟨_,aaq _ rfl,rfl,rfl⟩,λb hb=>?_,q⟩;have e:b=s1.heap.objs.size:=by simpa using hb
 subst e;exact I1.Dm (aal _) (I1.hok.fresh (aal _))
theorem vW{lo hi:Int}{tk:Nat}(I:Inv X pins σ H s)(h1:-(2 ^ 62)<=lo)(h2:lo<2 ^ 62)(h3:-(2 ^ 62)<=hi)(h4:hi<2 ^ 62)
  (q:R (QS lo (hi-lo).toNat) H):wpAny (model X.prog X.w) X.A (pyIter (.ref s.heap.objs.size)) (W4 X pins σ tg R) E { s with heap:=s.heap.push { cls:=.type "range",data:=.fields [.int lo t,.int hi u,.int 1 v].toArray },toks:=tk }:=by
 refine wpAny_pyIter_range (IsRange.new ..) (small_one h1 h2 h3 h4) ?_;have I1:Inv X pins σ H { s with heap:=s.heap.push { cls:=.type "range",data:=.fields [.int lo t,.int hi u,.int 1 v].toArray },toks:=tk }:=I.kept λb o e=>aad _ e;refine⟨(s.heap.push { cls:=.type "range",data:=.fields [.int lo t,.int hi u,.int 1 v].toArray }).objs.size,[(s.heap.push { cls:=.type "range",data:=.fields [.int lo t,.int hi u,.int 1 v].toArray }).objs.size],_,_,H,rfl,
  I1.kept (t':=tk) λb o e=>aad _ e,yy _ lo (hi-lo).toNat,?_,λb hb=>?_,q⟩
 ·have e1:lo+((0:Nat):Int)*1=lo:=by simp
  have e2:(((hi-lo).toNat:Nat):Int)-((0:Nat):Int)=Builtin.Range.rangeSize lo hi 1:=by rw[rangeSize_one];split<;>omega
  show IsRangeIter _ _ (lo+((0:Nat):Int)*1) ((((hi-lo).toNat:Nat):Int)-((0:Nat):Int)) 1;rw[e1,e2];exact aaq _ rfl
 ·have e:b=(s.heap.push { cls:=.type "range",data:=.fields [.int lo t,.int hi u,.int 1 v].toArray }).objs.size:=by simpa using hb
  subst e;exact I1.Dm (aal _) (I1.hok.fresh (aal _))
def QU(ta:TA):TI:=λσ H R=>ta σ H λvs H1=>∃j:Int,vs=[.int j] /\ -(2 ^ 62)<=j/\j<2 ^ 62/\R (QS 0 j.toNat) H1
def QV(ta:TA):TI:=λσ H R=>ta σ H λvs H1=>∃i j:Int,vs=[.int i,.int j]/\(-(2 ^ 62)<=i/\i<2 ^ 62 /\ -(2 ^ 62)<=j/\j<2 ^ 62)/\R (QS i (j-i).toNat) H1
theorem BF(hg:Gl X "range")(hm:X.mg "range" = none)(ha:PA X [a] ta)(hs:starEach [a] X.env=[(false,eval a X.env)]):PI X tg (.Call (.Name "range" p) [a] [] pos) (QU ta):=by
 intro pins s σ H R I h;refine Call_ (jK I hg hm boot_range (PyProof.Rows.callWith_type1 (cL (ha pos pins s σ H _ I h) λus s1 aS=>?_) hs rfl));obtain⟨vs,H1,I1,r1,q1⟩:=aS;obtain⟨j,e,q1,q2,q⟩:=q1;subst e;cases r1 with
 |cons r rr=>cases rr;obtain⟨t,rfl⟩:=r;exact call_range_1 (vW I1 (by omega) (by omega) q1 q2 (by simpa using q))
theorem BG(hg:Gl X "range")(hm:X.mg "range" = none)(ha:PA X [a,b] ta)(hs:starEach [a,b] X.env=[(false,eval a X.env),(false,eval b X.env)])(hs2:starEach [b] X.env=[(false,eval b X.env)]) :
  PI X tg (.Call (.Name "range" p) [a,b] [] pos) (QV ta):=by
 intro pins s σ H R I h;refine Call_ (jK I hg hm boot_range (PyProof.Rows.callWith_type1 (cL (ha pos pins s σ H _ I h) λus s1 ⟨vs,H1,I1,r1,q1⟩=>?_) (by rw[hs,hs2]) (by rw[hs2];rfl)));obtain⟨i,j,e,⟨q1,q2,q3,q4⟩,q⟩:=q1;subst e;cases r1 with
 |cons r rr=>
  cases rr with
  |cons r' rr=>cases rr;obtain⟨t,rfl⟩:=r;obtain⟨t',rfl⟩:=r';exact call_range_2 (vW I1 q1 q2 q3 q4 q)
def Vf(wi:TI)(g:TG)(tb:TS):TS:=λD σ H=>wi σ H λJ H1=>∃W:Nat->Nat->St->Hp->Prop,(∃m,W 0 m σ H1)/\∀i m σ H,W i m σ H ->
 (J.stop i H/\D.nx σ H)\/(J.go i H/\∃N:St->Hp->Prop,(∀σ' H',N σ' H'->∃m',m'<m/\W (i+1) m' σ' H')/\∀x H',J.yr i H x H'->g x σ H' λσ2 H2=>tb { D with nx:=N,ct:=N,bk:=D.nx } σ2 H2)
def p8(fp:List Addr)(h:Heap):List (Addr×Obj):=fp.filterMap λb=>(h.get? b).map λo=>(b,o)
theorem ji(hb:b∈fp)(e:h.get? b=some o):(b,o)∈p8 fp h:=mem_filterMap.mpr ⟨b,hb,by rw[e];rfl⟩
theorem BH(hp:p∈p8 fp h):p.1∈fp/\h.get? p.1=some p.2:=by
 obtain⟨b,hb,e⟩:=mem_filterMap.mp hp;cases q:h.get? b with
 |none=>rw[q]at e;cases e
 |some o=>rw[q]at e;have e':(b,o)=p:=aaH e;subst e';exact⟨hb,q⟩
theorem Inv.pinned(I:Inv X pins σ H s)(hf:∀b∈fp,kU X pins H b)(ho:∀b∈fp,∃o,s.heap.get? b=some o/\∀v,o.data≠.cell v):Inv X (pins++p8 fp s.heap) σ H s :=
 I.uh λp hp=>(mem_append.mp hp).elim (λz=>I.pin p (aaJ _ z)) λz=>by
  obtain⟨hb,e⟩:=BH z;obtain⟨f0,f1,f2,_⟩:=hf p.1 hb;obtain⟨o,e',d⟩:=ho p.1 hb;rw[e]at e';cases e';exact⟨e,f0,f1,f2,d⟩
theorem Inv.mC(I:Inv X (pins++pl) σ H s):Inv X pins σ H s:=I.uh λp hp=>I.pin p (aaJ _ (mem_append_left _ hp))
theorem Mr(hp:PassesOwn (model X.prog X.w) X.A X.env X.xe)(hc:X.calm=true)(hi:PI X tg iter wi)(hg:PG X tg g)(hb:nM X body tb)
  (hs:∀x,foldedSetIterable iter X.env x=pure x):PS X (.For tg iter body [] pos) (Vf wi g tb):=by
 intro pins s σ H D I h;refine wpAny_For (cL (hi pins s σ H _ I h) λv s1 h1=>cL h1 λitv s2 h2=>?_) hs;obtain⟨it,fp,tn,J,H2,e,I2,T,st2,f2,W,⟨m0,w0⟩,turn⟩:=h2;subst e;have stat:∀{H':Hp},(∀b∈fp,H' b=none)->∀b∈fp,kU X pins H' b:=λhn b hb=>⟨hn b hb,(f2 b hb).2⟩;refine codeAny_forLoop_any (λn s'=>∃i σ' H',Inv X pins σ' H' s'/\tn i s'.heap/\(∀b∈fp,H' b=none)/\W i n σ' H') ?_ m0 ⟨0,σ,H2,I2,st2,λb hb=>(f2 b hb).1,w0⟩;rintro n s3 ⟨i,σ3,H3,I3,st3,fr3,w3⟩
 rcases turn i n σ3 H3 w3 with ⟨stop,qn⟩|⟨go,N,hN,step⟩
 ·refine wpAny_passesOwn hp (cL (T.done X rfl rfl rfl hc i pins s3 σ3 H3 X.xe I3 (stat fr3) st3 stop) λr s4 aS=>?_);obtain⟨hr,I4⟩:=aS;subst hr;exact wpAny_execs_nil ⟨σ3,H3,I4,qn⟩
 ·refine wpAny_passesOwn hp (cL (T.item X rfl rfl rfl hc i pins s3 σ3 H3 X.xe I3 (stat fr3) st3 go) λr s4 aS=>?_)
  obtain⟨u,hr,h4⟩:=aS;subst hr;refine wpAny_passesOwn hp (cL h4 λ_ s5 aS=>?_);obtain⟨x,H5,I5,r5,y5,Qi,Ux⟩:=aS;have YG:=I5.pinned (stat Ux) (T.obj _ _ Qi);refine wpAny_passesOwn hp (cL (hg _ s5 σ3 H5 x u _ YG r5 (step x H5 y5)) λ_ s6 aS=>?_);obtain⟨σ6,H6,I6,q6⟩:=aS;refine wpAny_passesOwn hp (cL (hb _ s6 σ6 H6 _ I6 q6) λf s7 q7=>?_);have again:∀{σ7:St} {H7:Hp},Inv X (pins++p8 fp s5.heap) σ7 H7 s7->N σ7 H7->∃m,m<n/\∃i σ' H',Inv X pins σ' H' s7/\tn i s7.heap/\(∀b∈fp,H' b=none)/\W i m σ' H':=λ{σ7 H7} I7 n7=>by
   obtain⟨m',hm,w7⟩:=hN σ7 H7 n7;refine⟨m',hm,i+1,σ7,H7,I7.mC,T.keep _ _ _ Qi λb hb o e=>(I7.pin (b,o) (aaJ _ (aaJ _ (ji hb e)))).1,λb hb=>?_,w7⟩;obtain⟨o,e,d⟩:=T.obj _ _ Qi b hb;exact(I7.pin (b,o) (aaJ _ (aaJ _ (ji hb e)))).2.1
  cases f with
  |next=>obtain⟨σ7,H7,I7,n7⟩:=q7;exact again I7 n7
  |cont=>obtain⟨σ7,H7,I7,n7⟩:=q7;exact again I7 n7
  |brk=>obtain⟨σ7,H7,I7,q7⟩:=q7;exact⟨σ7,H7,I7.mC,q7⟩
  |ret v=>obtain⟨x7,σ7,H7,I7,r7,q7⟩:=q7;exact⟨x7,σ7,H7,I7.mC,r7,q7⟩
end
abbrev R2:=V->V->Hp->VK->Prop
def k9(X:Cx)(f:Value->Value->Sem Value)(r:R2):Prop :=
 ∀(pins:List (Addr×Obj)) (s:Shared) (σ:St) (H:Hp) (x y:V) (v u:Value) (Q:VK),Inv X pins σ H s->RelV x v->RelV y u->r x y H Q ->
  wpAny (model X.prog X.w) X.A (f v u) (EP X pins σ Q) X.xe s
def Uy(X:Cx)(f:Value->Sem Value)(r:V->Hp->VK->Prop):Prop :=
 ∀(pins:List (Addr×Obj)) (s:Shared) (σ:St) (H:Hp) (x:V) (v:Value) (Q:VK),Inv X pins σ H s->RelV x v->r x H Q ->
  wpAny (model X.prog X.w) X.A (f v) (EP X pins σ Q) X.xe s
def bV(X:Cx)(f:Value)(r:List V->Hp->VK->Prop):Prop :=
 ∀(pins:List (Addr×Obj)) (s:Shared) (σ:St) (H:Hp) (xs:List V) (us:List Value) (Q:VK),Inv X pins σ H s->Vals xs us->r xs H Q ->
  wpAny (model X.prog X.w) X.A (call f us) (EP X pins σ Q) X.xe s
def Vg(X:Cx)(r:V->Hp->(Bool->Hp->Prop)->Prop):Prop :=
 ∀(pins:List (Addr×Obj)) (s:Shared) (σ:St) (H:Hp) (x:V) (v:Value) (Q:Bool->Hp->Prop),Inv X pins σ H s->RelV x v->r x H Q ->
  wpAny (model X.prog X.w) X.A (truthy v) (TP X pins σ Q) X.xe s
def Uz(r:R2)(ta tb:TE):TE:=λσ H Q=>ta σ H λx H1=>tb σ H1 λy H2=>r x y H2 Q
def YH(r:V->Hp->VK->Prop)(ta:TE):TE:=λσ H Q=>ta σ H λx H1=>r x H1 Q
def rI(C:Int->Int->Prop)(g:Int->Int->V):R2:=λx y H Q=>∃i j,x=.int i/\y=.int j/\C i j/\Q (g i j) H
def Lf(g:Int->Int->V):R2:=λx y H Q=>∃i j,x=.int i/\y=.int j/\Q (g i j) H
def rU(g:Int->V):V->Hp->VK->Prop:=λx H Q=>∃i,x=.int i/\Q (g i) H
section
variable {X:Cx} {a b c:Expr} {ta tb tc:TE} {pos:Pos}
theorem Ms(ha:PE X a ta)(hb:PE X b tb){pins:List (Addr×Obj)}{s:Shared}{σ:St}{H:Hp}{R:V->V->Hp->Prop}(I:Inv X pins σ H s)
  (h:ta σ H λx H1=>tb σ H1 λy H2=>R x y H2) {Q:Value->Shared->Prop} {f:Value->Value->Sem Value}
  (hf:∀v u s2 x y H2,Inv X pins σ H2 s2->RelV x v->RelV y u->R x y H2->wpAny (model X.prog X.w) X.A (f v u) Q X.xe s2) :
  wpAny (model X.prog X.w) X.A (eval a X.env) (λv s₁=>wpAny (model X.prog X.w) X.A (eval b X.env) (λu s₂=>wpAny (model X.prog X.w) X.A (f v u) Q X.xe s₂) X.xe s₁) X.xe s:=by
 refine cL (ha pins s σ H _ I h) λv s1 aS=>?_;obtain⟨x,H1,I1,r1,q1⟩:=aS;refine cL (hb pins s1 σ H1 _ I1 q1) λu s2 aS=>?_;obtain⟨y,H2,I2,r2,q2⟩:=aS;exact hf v u s2 x y H2 I2 r1 r2 q2
theorem QW(ho:k9 X (binaryOp op) r)(ha:PE X a ta)(hb:PE X b tb):PE X (.BinOp a op b pos) (Uz r ta tb):=by
 intro pins s σ H Q I h;exact wpAny_BinOp (Ms ha hb I h λv u s2 x y H2 I2 rx ry q=>ho pins s2 σ H2 x y v u Q I2 rx ry q)
theorem QX(ho:Uy X (unaryOp op) r)(ha:PE X a ta):PE X (.UnaryOp op a pos) (YH r ta):=by
 intro pins s σ H Q I h;exact UnaryOp_ (cL (ha pins s σ H _ I h) λv s1 ⟨x,H1,I1,r1,q1⟩=>ho pins s1 σ H1 x v Q I1 r1 q1)
theorem UA{f:Value->Value->Sem Value}{C:Int->Int->Prop}{g:Int->Int->Int}
  (rule:∀(i j:Int) (t u:Tok) (s:Shared) (Q:Value->Shared->Prop) (E:Value->Shared->Prop),C i j->Q (.int (g i j) s.toks) { s with toks:=s.toks+1 }->wpAny (model X.prog X.w) X.A (f (.int i t) (.int j u)) Q E s) :
  k9 X f (rI C λi j=>.int (g i j)):=by
 intro pins s σ H x y v u Q I rx ry h;obtain⟨i,j,rfl,rfl,hc,q⟩:=h;obtain⟨t,rfl⟩:=rx;obtain⟨t',rfl⟩:=ry;exact rule i j t t' s _ _ hc ⟨.int (g i j),H,I.tok _,⟨_,rfl⟩,q⟩
theorem QY{f:Value->Value->Sem Value}{g:Int->Int->Int}
  (rule:∀(i j:Int) (t u:Tok) (s:Shared) (Q:Value->Shared->Prop) (E:Value->Shared->Prop),Q (.int (g i j) s.toks) { s with toks:=s.toks+1 }->wpAny (model X.prog X.w) X.A (f (.int i t) (.int j u)) Q E s) :
  k9 X f (Lf λi j=>.int (g i j)):=by
 intro pins s σ H x y v u Q I rx ry h;obtain⟨i,j,rfl,rfl,q⟩:=h;obtain⟨t,rfl⟩:=rx;obtain⟨t',rfl⟩:=ry;exact rule i j t t' s _ _ ⟨.int (g i j),H,I.tok _,⟨_,rfl⟩,q⟩
theorem HS{f:Value->Value->Sem Value}{g:Int->Int->Bool}
  (rule:∀(i j:Int) (t u:Tok) (s:Shared) (Q:Value->Shared->Prop) (E:Value->Shared->Prop),Q (.bool (g i j)) s->wpAny (model X.prog X.w) X.A (f (.int i t) (.int j u)) Q E s) :
  k9 X f (Lf λi j=>.bl (g i j)):=by
 intro pins s σ H x y v u Q I rx ry h;obtain⟨i,j,rfl,rfl,q⟩:=h;obtain⟨t,rfl⟩:=rx;obtain⟨t',rfl⟩:=ry;exact rule i j t t' s _ _ ⟨.bl (g i j),H,I,rfl,q⟩
def Vh(i j:Int):Prop:=0<=j/\j<=1000000/\i.natAbs<2 ^ 64
def Mt(i j:Int):Prop:=(-(2 ^ 64)<i/\i<2 ^ 64)\/(-(2 ^ 64)<j/\j<2 ^ 64)
theorem Mt.ok{i j:Int}(h:Mt i j):IntMulOk i j:=by
 rcases h with ⟨h1,h2⟩|⟨h1,h2⟩
 ·exact .of_left (intBits_le_64 h1 h2)
 ·exact .of_right (intBits_le_64 h1 h2)
theorem Mv:k9 X (binaryOp .Add) (Lf λi j=>.int (i+j)):=QY λ_ _ _ _ _ _ _ q=>add_int q
theorem Mw:k9 X (binaryOp .Sub) (Lf λi j=>.int (i-j)):=QY λ_ _ _ _ _ _ _ q=>sub_int q
theorem Mx:k9 X (binaryOp .Mult) (rI Mt λi j=>.int (i*j)):=UA λ_ _ _ _ _ _ _ hc q=>mul_int q hc.ok
theorem My:k9 X (binaryOp .Mod) (rI (λ_ j=>0<j) λi j=>.int (i%j)):=UA λi j _ _ _ _ _ hc q=>by
 have h1:(0:Int)<j:=hc;exact mod_int' (by omega) (by rw[Int.fmod_eq_emod_of_nonneg i (by omega)];exact q)
theorem Mz:k9 X (binaryOp .Pow) (rI Vh λi j=>.int (i ^ j.toNat)):=UA λ_ _ _ _ _ _ _ hc q=>pow_int_small hc.1 hc.2.1 hc.2.2 q
theorem YI{f:Value->Sem Value}{g:Int->Int}
  (rule:∀(i:Int) (t:Tok) (s:Shared) (Q:Value->Shared->Prop) (E:Value->Shared->Prop),Q (.int (g i) s.toks) { s with toks:=s.toks+1 }->wpAny (model X.prog X.w) X.A (f (.int i t)) Q E s) :
  Uy X f (rU λi=>.int (g i)):=by
 intro pins s σ H x v Q I rx h;obtain⟨i,rfl,q⟩:=h;obtain⟨t,rfl⟩:=rx;exact rule i t s _ _ ⟨.int (g i),H,I.tok _,⟨_,rfl⟩,q⟩
theorem Dp:Uy X (unaryOp .USub) (rU λi=>.int (-i)):=YI λ_ _ _ _ _ q=>neg_int q
end
section
variable {X:Cx} {a b c:Expr} {ta tb tc:TE} {pos:Pos}
theorem ur{k k':Bool}(I:Inv X pins σ H s)(q:Q (.bl k) H)(e:k=k'):EP X pins σ Q (.bool k') s:=by
 subst e;exact⟨.bl k,H,I,rfl,q⟩
theorem QZ:k9 X (compareOp .Lt) (Lf λi j=>.bl (decide (i<j))):=HS λ_ _ _ _ _ _ _ q=>lt_int q
theorem Q0:k9 X (compareOp .LtE) (Lf λi j=>.bl (decide (i<=j))):=HS λ_ _ _ _ _ _ _ q=>le_int q
theorem Q2:k9 X (compareOp .Gt) (Lf λi j=>.bl (decide (j<i))):=HS λ_ _ _ _ _ _ _ q=>gt_int q
theorem Q3:k9 X (compareOp .GtE) (Lf λi j=>.bl (decide (j<=i))):=HS λ_ _ _ _ _ _ _ q=>ge_int q
theorem BI:k9 X (compareOp .In) (λx y H Q=>∃i j,x=.str i/\y=.str j/\Q (.bl (!(Builtin.Str.occurrences j i 0 j.length 1).isEmpty)) H):=by
 intro pins s σ H x y v u Q I rx ry h;obtain⟨i,j,rfl,rfl,q⟩:=h;obtain⟨t,rfl⟩:=rx;obtain⟨t',rfl⟩:=ry;exact in_str (ur I q rfl)
theorem MA:k9 X (compareOp .Is) (λx y H Q=>y=.non/\Q (.bl (decide (x=.non))) H):=by
 intro pins s σ H x y v u Q I rx ry h;obtain⟨rfl,q⟩:=h;cases ry;refine is_none_gen (ur I q ?_);cases x<;>first
  |(cases rx;rfl)
  |(obtain⟨t,rfl⟩:=rx;rfl)
theorem HU:k9 X (compareOp .IsNot) (λx y H Q=>y=.non/\Q (.bl (!decide (x=.non))) H):=by
 intro pins s σ H x y v u Q I rx ry h;obtain⟨rfl,q⟩:=h;cases ry;refine isnot_none_gen (ur I q ?_);cases x<;>first
  |(cases rx;rfl)
  |(obtain⟨t,rfl⟩:=rx;rfl)
theorem uu:k9 X (compareOp .NotIn) (λx y H Q=>∃i j,x=.str i/\y=.str j/\Q (.bl (!(!(Builtin.Str.occurrences j i 0 j.length 1).isEmpty))) H):=by
 intro pins s σ H x y v u Q I rx ry h;obtain⟨i,j,rfl,rfl,q⟩:=h;obtain⟨t,rfl⟩:=rx;obtain⟨t',rfl⟩:=ry;exact notIn_str (ur I q rfl)
theorem HV(ho:k9 X (compareOp op) r)(ha:PE X a ta)(hb:PE X b tb)(hm:behindInMarks op b=false):PE X (.Compare a [op] [b] pos) (Uz r ta tb):=by
 intro pins s σ H Q I h;exact wpAny_Compare1 (Ms ha hb I h λv u s2 x y H2 I2 rx ry q=>ho pins s2 σ H2 x y v u Q I2 rx ry q) hm
def Lg(t:TE):TT:=λσ H Q=>t σ H λx H'=>∃k,x=.bl k/\Q k H'
theorem HW(ho:k9 X (compareOp op) r)(ha:PE X a ta)(hb:PE X b tb)(hm:behindInMarks op b=false):PT X (.Compare a [op] [b] pos) (Lg (Uz r ta tb)):=by
 intro pins s σ H Q I h;refine wpAny_isTrue_Compare1 (cL (ha pins s σ H _ I h) λv s1 ⟨x,H1,I1,r1,q1⟩=>cL (hb pins s1 σ H1 _ I1 q1) λu s2 ⟨y,H2,I2,r2,q2⟩=>
  cL (ho pins s2 σ H2 x y v u _ I2 r1 r2 q2) λc s3 ⟨z,H3,I3,r3,k,e,q3⟩=>?_) hm
 subst e;cases r3;exact wpAny_truthy_bool ⟨H3,I3,q3⟩
def Dq(r r':R2)(ta tb tc:TE):TE:=λσ H Q=>ta σ H λx H1=>tb σ H1 λy H2=>r x y H2 λz H3=>∃k,z=.bl k /\
 (if k=true then tc σ H3 λw' H4=>r' y w' H4 Q else Q (.bl false) H3)
theorem Dr(ho:k9 X (compareOp op) r)(ho':k9 X (compareOp op') r')(ha:PE X a ta)(hb:PE X b tb)(hc:PE X c tc)
  (hm:lastMarks [op,op'] [b,c]=false):PE X (.Compare a [op,op'] [b,c] pos) (Dq r r' ta tb tc):=by
 intro pins s σ H Q I h;refine Compare_chain (cL (ha pins s σ H _ I h) λv s1 ⟨x,H1,I1,r1,q1⟩=>chain_link (cL (hb pins s1 σ H1 _ I1 q1) λu s2 ⟨y,H2,I2,r2,q2⟩=>
  cL (ho pins s2 σ H2 x y v u _ I2 r1 r2 q2) λd s3 ⟨z,H3,I3,r3,k,e,q3⟩=>?_)) hm
 subst e;cases r3;refine wpAny_truthy_bool ?_;cases k with
 |false=>exact ite_ff ⟨.bl false,H3,I3,rfl,q3⟩
 |true=>exact ite_tt (chain_last (cL (hc pins s3 σ H3 _ I3 q3) λw' s4 ⟨z',H4,I4,r4,q4⟩=>ho' pins s4 σ H4 y z' u w' Q I4 r2 r4 q4))
theorem Ds(ho:k9 X (compareOp op) r)(ho':k9 X (compareOp op') r')(ha:PE X a ta)(hb:PE X b tb)(hc:PE X c tc)
  (hm:lastMarks [op,op'] [b,c]=false):PT X (.Compare a [op,op'] [b,c] pos) (Lg (Dq r r' ta tb tc)):=by
 intro pins s σ H Q I h;refine isTrue_chain (cL (ha pins s σ H _ I h) λv s1 ⟨x,H1,I1,r1,q1⟩=>test_link (cL (hb pins s1 σ H1 _ I1 q1) λu s2 ⟨y,H2,I2,r2,q2⟩=>
  cL (ho pins s2 σ H2 x y v u _ I2 r1 r2 q2) λd s3 ⟨z,H3,I3,r3,k,e,q3⟩=>?_)) hm
 subst e;cases r3;refine wpAny_truthy_bool ?_;cases k with
 |false=>obtain⟨k',e',q'⟩:=q3;cases e';exact ite_ff ⟨H3,I3,q'⟩
 |true=>refine ite_tt (test_last (cL (hc pins s3 σ H3 _ I3 q3) λw' s4 ⟨z',H4,I4,r4,q4⟩=>cL (ho' pins s4 σ H4 y z' u w' _ I4 r2 r4 q4) λd' s5 aS=>?_));obtain⟨z2,H5,I5,r5,k2,e2,q5⟩:=aS;subst e2;cases r5;exact wpAny_truthy_bool ⟨H5,I5,q5⟩
def MB(K:Frag)(x:V)(H:Hp)(k:Bool):Prop :=
 match x with
 |.non=>k=false
 |.bl b=>k=b
 |.int i=>k=(i != 0)
 |.str y=>y.length<=sizeLine/\k=((y.length:Int) != 0)
 |.byt y=>y.size<=sizeLine/\k=((y.size:Int) != 0)
 |.ref p=>(∃xs,gD K H p xs/\k = !xs.isEmpty)\/(∃xs,iP K H p xs/\k = !xs.isEmpty)\/∃kvs,H p=some (.dK kvs)/\k = !kvs.isEmpty
 |_=>False
theorem yz{κ:Type}{kvs:List (κ × V)}{vs:List (κ × Value)}(r:KV kvs vs):(!vs.isEmpty) = !kvs.isEmpty:=by
 cases r<;>rfl
theorem p9(r:Vals xs its):(!its.toArray.isEmpty) = !xs.isEmpty:=by
 cases r<;>simp
theorem nO:(sizeLine:Nat)<2 ^ 63:=by rw[sizeLine_eq];decide
theorem MC:Vg X (λx H Q=>∃k,MB X.K x H k/\Q k H):=by
 intro pins s σ H x v Q I rx h;obtain⟨k,e,q⟩:=h;have hl:=nO;have hs:sizeLine=16777216:=sizeLine_eq;cases x with
 |non=>cases rx;have e':k=false:=e;subst e';exact truthy_none ⟨H,I,q⟩
 |bl b=>cases rx;have e':k=b:=e;subst e';exact wpAny_truthy_bool ⟨H,I,q⟩
 |int i=>obtain⟨t,rfl⟩:=rx;have e':k=(i != 0):=e;subst e';exact PySem.P.truthy_int ⟨H,I,q⟩
 |str y=>obtain⟨t,rfl⟩:=rx;obtain⟨hy,e'⟩:y.length<=sizeLine/\k=((y.length:Int) != 0):=e;subst e';exact PySem.P.truthy_str (by omega) ⟨H,I.tok _,q⟩
 |byt y=>obtain⟨t,rfl⟩:=rx;obtain⟨hy,e'⟩:y.size<=sizeLine/\k=((y.size:Int) != 0):=e;subst e';exact PySem.W.truthy_bytes (by omega) ⟨H,I.tok _,q⟩
 |ref p=>
  cases rx;have e':(∃xs,gD X.K H p xs/\k = !xs.isEmpty)\/(∃xs,iP X.K H p xs/\k = !xs.isEmpty)\/∃kvs,H p=some (.dK kvs)/\k = !kvs.isEmpty:=e
  rcases e' with ⟨xs,hx,e'⟩|⟨xs,hx,e'⟩|⟨kvs,hx,e'⟩
  ·subst e';obtain⟨its,r,pl,hz⟩:=I.list hx;have hlen:=r.length;exact wpAny_truthy_list pl.isList (by simp only[size_toArray];omega) ⟨H,I.tok _,by rw[p9 r];exact q⟩
  ·subst e';obtain⟨its,r,pl,hz⟩:=I.tuple hx;have hlen:=r.length;exact truthy_tuple pl (by simp only[size_toArray];omega) ⟨H,I.tok _,by rw[p9 r];exact q⟩
  ·subst e';obtain⟨hz,hS,vs,r,m⟩:kvs.length<=sizeLine/\(p==sysModules)=false/\∃vs,KV kvs vs/\s.heap.DictOf (ck X.prog X.w) p vs:=I.hok p _ hx;have hlen:kvs.length=vs.length:=Paired.length r;exact wpAny_truthy_dict hS m (by omega) ⟨H,I.tok _,by rw[yz r];exact q⟩
 |_=>exact(show False from e).elim
theorem Dt(ha:PE X a ta)(he:∀whole,isTrue a X.env whole=(do let v <-whole;standAt a.pos;holding [v] (truthy v))) :
  PT X a (λσ H Q=>ta σ H λx H'=>∃k,MB X.K x H' k/\Q k H'):=by
 intro pins s σ H Q I h;exact isTrue_plain (cL (ha pins s σ H _ I h) λv s1 ⟨x,H1,I1,r1,q1⟩=>MC pins s1 σ H1 x v Q I1 r1 q1) (he _)
theorem yC:k9 X (binaryOp .Add) (λx y H Q=>∃i j,x=.str i/\y=.str j/\i.length+j.length<=sizeLine/\Q (.str (i++j)) H):=by
 intro pins s σ H x y v u Q I rx ry h;obtain⟨i,j,rfl,rfl,hz,q⟩:=h;obtain⟨t,rfl⟩:=rx;obtain⟨t',rfl⟩:=ry;exact add_str (λt' tk=>⟨.str (i++j),H,I.tok _,⟨_,rfl⟩,q⟩) hz
theorem vals1(r:Vals [x] us):∃u,us=[u]/\RelV x u:=by
 cases r with
 |cons r1 r2=>cases r2;exact⟨_,rfl,r1⟩
theorem vals2(r:Vals [x,y] us):∃u w',us=[u,w']/\RelV x u/\RelV y w':=by
 cases r with
 |cons r1 r2=>
  cases r2 with
  |cons r3 r4=>cases r4;exact⟨_,_,rfl,r1,r3⟩
theorem BJ(hc:X.calm=true):bV X (.builtin "max") (λxs H Q=>∃i j,xs=[.int i,.int j]/\Q (.int (if j>i then j else i)) H):=by
 intro pins s σ H xs us Q I r h;obtain⟨i,j,rfl,q⟩:=h;obtain⟨u,w',rfl,⟨t,rfl⟩,⟨t',rfl⟩⟩:=vals2 r;refine max_two_ints (I.ok.hd hc) λh' tk k=>⟨_,H,I.kept k,?_,q⟩
 by_cases hj:j>i
 ·rw[aan hj,aan hj];exact⟨_,rfl⟩
 ·rw[aaj hj,aaj hj];exact⟨_,rfl⟩
theorem BK(hc:X.calm=true):bV X (.builtin "min") (λxs H Q=>∃i j,xs=[.int i,.int j]/\Q (.int (if j<i then j else i)) H):=by
 intro pins s σ H xs us Q I r h;obtain⟨i,j,rfl,q⟩:=h;obtain⟨u,w',rfl,⟨t,rfl⟩,⟨t',rfl⟩⟩:=vals2 r;refine min_two_ints (I.ok.hd hc) λh' tk k=>⟨_,H,I.kept k,?_,q⟩
 by_cases hj:j<i
 ·rw[aan hj,aan hj];exact⟨_,rfl⟩
 ·rw[aaj hj,aaj hj];exact⟨_,rfl⟩
theorem sf:bV X (.type "int") (λxs H Q=>(∃i,xs=[.int i]/\Q (.int i) H)\/∃k,xs=[.bl k]/\Q (.int (if k then 1 else 0)) H):=by
 intro pins s σ H xs us Q I r h
 rcases h with ⟨i,rfl,q⟩|⟨k,rfl,q⟩
 ·obtain⟨u,rfl,t,rfl⟩:=vals1 r;exact call_int_int ⟨.int i,H,I,⟨_,rfl⟩,q⟩
 ·obtain⟨u,rfl,r1⟩:=vals1 r;cases r1;exact call_int_bool ⟨.int (if k then 1 else 0),H,I.tok _,⟨_,rfl⟩,q⟩
theorem uv:bV X (.type "str") (λxs H Q=>∃i,xs=[.int i]/\i.natAbs.log2<1920/\Q (.str (toString i)) H):=by
 intro pins s σ H xs us Q I r h;obtain⟨i,rfl,hz,q⟩:=h;obtain⟨u,rfl,t,rfl⟩:=vals1 r;exact PySem.P.str_of_int hz ⟨.str _,H,I.tok _,⟨_,rfl⟩,q⟩
def Vi(K:Frag)(x:V)(H:Hp)(n:Nat):Prop :=
 match x with
 |.str y=>y.length<=sizeLine/\n=y.length
 |.byt y=>y.size<=sizeLine/\n=y.size
 |.ref p=>(∃xs,gD K H p xs/\n=xs.length)\/∃xs,iP K H p xs/\n=xs.length
 |_=>False
theorem mE:bV X (.builtin "len") (λxs H Q=>∃x n,xs=[x]/\Vi X.K x H n/\Q (.int n) H):=by
 intro pins s σ H xs us Q I r h;obtain⟨x,n,rfl,e,q⟩:=h;obtain⟨u,rfl,rx⟩:=vals1 r;have hl:=nO;have hs:sizeLine=16777216:=sizeLine_eq;cases x with
 |str y=>obtain⟨t,rfl⟩:=rx;obtain⟨hy,e'⟩:y.length<=sizeLine/\n=y.length:=e;subst e';exact len_str (by omega) ⟨.int _,H,I.tok _,⟨_,rfl⟩,q⟩
 |byt y=>obtain⟨t,rfl⟩:=rx;obtain⟨hy,e'⟩:y.size<=sizeLine/\n=y.size:=e;subst e';exact PySem.W.len_bytes (by omega) ⟨.int _,H,I.tok _,⟨_,rfl⟩,q⟩
 |ref p=>
  cases rx;have e':(∃xs,gD X.K H p xs/\n=xs.length)\/∃xs,iP X.K H p xs/\n=xs.length:=e
  rcases e' with ⟨xs,hx,e'⟩|⟨xs,hx,e'⟩
  ·subst e';obtain⟨its,r',pl,hz⟩:=I.list hx;have hlen:=r'.length;exact Calls.call_len_list pl.isList (by simp only[size_toArray];omega) ⟨.int xs.length,H,I.tok _,⟨_,by simp only[size_toArray];rw[hlen]⟩,q⟩
  ·subst e';obtain⟨its,r',pl,hz⟩:=I.tuple hx;have hlen:=r'.length;exact len_tuple pl (by simp only[size_toArray];omega) ⟨.int xs.length,H,I.tok _,⟨_,by simp only[size_toArray];rw[hlen]⟩,q⟩
 |_=>exact(show False from e).elim
end
theorem BL{h:Heap}{dx:Addr}{mA:Str->Option Value}(n:h.Ns1 dx mA):∃od,h.get? dx=some od/\∀name,lookIn name od=some (mA name):=by
 obtain⟨o,es,ep,ho,hd,hk,_,hm⟩:=n;refine⟨o,ho,λname=>?_⟩;have e:=hm name;unfold nsFind findBy at e;rw[<-Array.find?_toList]at e;unfold lookIn;rw[hd];dsimp only
 split
 ·rename_i y q;rw[q]at e;exact congrArg some e
 ·rename_i q
  rw[q]at e;have a:es.toList.any (·.refKey)=false:=by rw[List.any_eq_false];intro y hy;obtain⟨z,t,hkey⟩:=hk y (Array.mem_toList_iff.mp hy);simp[DictEntry.refKey,hkey]
  have a':¬ es.toList.any (·.refKey)=true:=by rw[a];exact aab
  rw[aaj a'];exact congrArg some e
theorem pC.some_of(r:pC (some v) o):∃u,o=some u/\RelV v u:=by
 cases o with
 |none=>exact(show False from r).elim
 |some u=>exact⟨u,rfl,r⟩
theorem BN(r:RelV v u):handedIn u=true:=by
 cases v with
 |non=>cases (show u=Value.none from r);rfl
 |bl b=>cases (show u=Value.bool b from r);rfl
 |int i=>obtain⟨t,e⟩:=(show ∃t,u=Value.int i t from r);cases e;rfl
 |str x=>obtain⟨t,e⟩:=(show ∃t,u=Value.str x t from r);cases e;rfl
 |byt b=>obtain⟨t,e⟩:=(show ∃t,u=Value.bytes b t from r);cases e;rfl
 |flt b=>obtain⟨t,e⟩:=(show ∃t,u=Value.float b t from r);cases e;rfl
 |ref a=>cases (show u=Value.ref a from r);rfl
 |ty n=>cases (show u=Value.type n from r);rfl
structure W5 (K:Frag) (C:Addr):Prop where
 pg:PySem.W.plainGet K C Str.empty=true
 hd:hasDictIn K C=true
 po:PySem.W.plainOver K C=true
 sa:findIn K (.ref C) "__setattr__" = some (some (.builtin "object.__setattr__"))
def Du(K:Frag)(C:Addr)(f:Str):Prop:=findIn K (.ref C) f=some none
structure Meth (K:Frag) (C:Addr) (m:Str) (f:Addr):Prop where
 at_:findIn K (.ref C) m=some (some (.ref f))
 fn:isFn K (.ref f)=true
 kp:keepIn K (.ref f)=true
section
variable {X:Cx} {pins:List (Addr×Obj)} {σ:St} {H:Hp} {s:Shared} {a C dx:Addr} {fs:List (Str×V)} {f:Str} {v:V} {A:Around} {E:Value->Shared->Prop}
theorem attr_of(hb:attributeBase e f env (eval e env)=eval e env)
  (h:wpAny (model prog w) A (eval e env) (λo s₁=>wpAny (model prog w) A (getAttr o f true) Q E s₁) E s):wpAny (model prog w) A (eval (.Attribute e f pos) env) Q E s :=
 Attribute_any_ h (by rw[arm_eval_Attribute,hb])
end
structure eN (k:Nat) (A:Around):Prop where
 hd:A.handled=none
 dp:A.depth+3*k+5<recursionLimit
 un:A.units+16*k+200<cLine
theorem eN.mono{j k:Nat}(r:eN k A)(h:j<=k):eN j A:=⟨r.hd,by have:=r.dp;omega,by have:=r.un;omega⟩
theorem eN.deeper{k:Nat}(r:eN (k+1) A)(env:Env):eN k (A.deeper env) :=
 ⟨r.hd,by have:=r.dp;show A.depth+1+3*k+5<_;omega,by have:=r.un;show A.units+3+16*k+200<_;omega⟩
theorem yD{A:Around}{C:Addr}{us:List Value}{kw:List (Str×Value)}:(A.under (.builtin "type.__call__" ⟨.ref C::us,kw⟩)).depth=A.depth+1:=by
 first|rfl|simp[Around.under,Code.weight,Code.isCreation,Code.isGuard,Code.isCaller,Code.frames,Code.isFrame,guardIds]
theorem yE{A:Around}{C:Addr}{us:List Value}{kw:List (Str×Value)}:(A.under (.builtin "type.__call__" ⟨.ref C::us,kw⟩)).units=A.units+1:=by
 first|rfl|simp[Around.under,Code.cUnits,Code.frames,Code.isFrame]
theorem eN.make{k:Nat}(r:eN (k+1) A)(C:Addr)(us:List Value)(kw:List (Str×Value)):eN k (A.under (.builtin "type.__call__" ⟨.ref C::us,kw⟩)) :=
 ⟨r.hd,by have:=r.dp;rw[yD];omega,by have:=r.un;rw[yE];omega⟩
theorem eN.depth{k:Nat}(r:eN k A):A.depth<recursionLimit:=by have:=r.dp;omega
theorem eN.units{k:Nat}(r:eN k A):A.units+64<cLine:=by have:=r.un;omega
def Q4:TA:=λ_ H Q=>Q [] H
def Q5(ta:TE)(tr:TA):TA:=λσ H Q=>ta σ H λx H1=>tr σ H1 λxs H2=>Q (x::xs) H2
section
variable {X:Cx} {e:Expr} {es:List Expr} {te:TE} {t:TA} {pos:Pos}
theorem jL:PA X [] Q4:=λ_ _ _ _ H Q I h=>Calls.spliced_nil ⟨[],H,I,.nil,h⟩
theorem eO(ha:PE X e te)(hr:PA X es t)(hs:starEach (e::es) X.env=(false,eval e X.env)::starEach es X.env:=by rfl):PA X (e::es) (Q5 te t):=by
 intro pos pins s σ H Q I h;rw[hs];show wpAny _ _ (spliced ((false,eval e X.env)::backTo pos (starEach es X.env))) _ _ s;refine Calls.spliced_cons (cL (ha pins s σ H _ I h) λu s1 aS=>?_);obtain⟨x,H1,I1,r1,q1⟩:=aS;exact cL (hr pos pins s1 σ H1 _ I1 q1) λus s2 ⟨xs,H2,I2,r2,q2⟩=>⟨x::xs,H2,I2,.cons r1 r2,q2⟩
def Vj(t:TA):TE:=λσ H Q=>t σ H λxs H1=>xs.length<=sizeLine/\∀p,H1 p=none->Q (.ref p) (upd H1 p (.tup xs))
def Vk(t:TA):TE:=λσ H Q=>t σ H λxs H1=>xs.length<=sizeLine/\∀p,H1 p=none->Q (.ref p) (upd H1 p (.lst xs))
theorem Dv{x1}(h:PA X es t):PE X (.Tuple es x1 pos) (Vj t):=by
 intro pins s σ H Q I hq;refine wpAny_Tuple_spliced (cL (h pos pins s σ H _ I hq) λus s1 ⟨xs,H1,I1,r,z,q⟩=>⟨by rw[<-r.length];exact z,?_⟩);have hf:H1 s1.heap.objs.size=none:=I1.hok.fresh (aal _);refine⟨.ref s1.heap.objs.size,upd H1 s1.heap.objs.size (.tup xs),I1.laid (t':=s1.toks) (λb u e=>aad _ e) (aal _) ?_,rfl,q _ hf⟩;exact⟨z,us,r,⟨_,aaq _ rfl,rfl,_,rfl⟩⟩
theorem MD(h:PA X es t):PE X (.List es pos) (Vk t):=by
 intro pins s σ H Q I hq;refine wpAny_List_spliced (cL (h pos pins s σ H _ I hq) λus s1 ⟨xs,H1,I1,r,z,q⟩=>⟨by rw[<-r.length];exact z,?_⟩);have hf:H1 s1.heap.objs.size=none:=I1.hok.fresh (aal _);refine⟨.ref s1.heap.objs.size,upd H1 s1.heap.objs.size (.lst xs),I1.laid (t':=s1.toks) (λb u e=>aad _ e) (aal _) ?_,rfl,q _ hf⟩;exact⟨z,us,0,r,aaq _ rfl⟩
end
abbrev Sp:=List V->Hp->VK->XK->Prop
abbrev yF:=List Env->Hp->Shared->XK->Value->Shared->Prop
structure yG (P:Program) (w:World) (K:Frag) (mg:Str->Option Value) (base:Heap) (A:Around) (outer:List Env) (s:Shared) (H:Hp):Prop where
 frames:A.frames=some outer
 mod:Mod K mg base
 bs:∀b o,base.get? b=some o->s.heap.get? b=some o/\H b=none
 HG:base.objs.size<=s.heap.objs.size
 nL:s.heap.FunFrames base outer
 Lb:∀b∈frs outer,H b=none
 hok:iO P w H s.heap
 bare:AllBare s.gens
def CE(outer:List Env)(P:Program)(w:World)(H:Hp)(s:Shared)(Q:VK)(u:Value)(s':Shared):Prop :=
 ∃v H',s'.os=s.os/\AllBare s'.gens/\Un (frs outer) [] H H' s.heap s'.heap/\iO P w H' s'.heap/\RelV v u/\Q v H'
def CR(CX:yF)(outer:List Env)(P:Program)(w:World)(H:Hp)(s:Shared)(Q:VK)(E:XK)(r:Result)(s':Shared):Prop :=
 match r with
 |.ok (.ret u)=>CE outer P w H s Q u s'
 |.ok _=>False
 |.error e=>CX outer H s E e s'
structure fK (P:Program) (w:World) (K:Frag) (mg:Str->Option Value) (base:Heap) (CX:yF) (k:Nat) (f:Addr) (fd:FuncData) (ps:List Str) (sp:Sp):Prop where
 len:∀vs H Q E,sp vs H Q E->vs.length=ps.length
 run:∀(A:Around) (outer:List Env) (s:Shared) (H:Hp) (args:Args) (us:List Value) (vs:List V) (Q:VK) (E:XK),eN k A->yG P w K mg base A outer s H->BindsTo s fd args (ps.zip us)->Vals vs us->sp vs H Q E ->
  codeAny (model P w) A (.call (.ref f) args) (CR CX outer P w H s Q E) s
theorem fK.mono{P:Program}{w:World}{K:Frag}{mg:Str->Option Value}{base:Heap}{CX:yF}{j k:Nat}{f:Addr}{fd:FuncData}{ps:List Str}{sp:Sp}(F:fK P w K mg base CX j f fd ps sp)(h:j<=k) :
  fK P w K mg base CX k f fd ps sp:=⟨F.len,λA outer s H args us vs Q E hr=>F.run A outer s H args us vs Q E (hr.mono h)⟩
theorem fK.imp{P:Program}{w:World}{K:Frag}{mg:Str->Option Value}{base:Heap}{CX:yF}{k:Nat}{f:Addr}{fd:FuncData}{ps:List Str}{sp W6:Sp}(F:fK P w K mg base CX k f fd ps sp)
  (h:∀vs H Q E,W6 vs H Q E->sp vs H Q E):fK P w K mg base CX k f fd ps W6 :=
 ⟨λvs H Q E q=>F.len vs H Q E (h _ _ _ _ q),λA outer s H args us vs Q E hr he hb hv hs=>F.run A outer s H args us vs Q E hr he hb hv (h _ _ _ _ hs)⟩
theorem yG.make{P:Program}{w:World}{K:Frag}{mg:Str->Option Value}{base:Heap}{A:Around}{outer:List Env}{s:Shared}{H:Hp}(e:yG P w K mg base A outer s H)(C:Addr)(us:List Value)(kw:List (Str×Value)) :
  yG P w K mg base (A.under (.builtin "type.__call__" ⟨.ref C::us,kw⟩)) outer s H:=⟨by first|exact e.frames|(simpa [Around.under,Code.envs,Code.isFrame,pushEnvs] using e.frames),e.mod,e.bs,e.HG,e.nL,e.Lb,e.hok,e.bare⟩
section
variable {X:Cx} {pins:List (Addr×Obj)} {σ:St} {H:Hp} {s s':Shared}
theorem Inv.yH(I:Inv X pins σ H s):yG X.prog X.w X.K X.mg X.base X.A X.stack s H :=
 ⟨I.ok.frames,I.ok.mod,I.bs,aaK I.ok.HG I.sz,I.stack,I.gZ,I.hok,I.bare⟩
theorem Inv.after(I:Inv X pins σ H s)(h:CE X.stack X.prog X.w H s Q u s'):EP X pins σ Q u s':=by
 obtain⟨v,H',os,bare,un,hok,r,q⟩:=h;obtain⟨hh,g,d,t,os'⟩:=s';obtain rfl:os'=s.os:=os;exact⟨v,H',I.call (h':=hh) (g':=g) (d':=d) (t':=t) (ch:=[]) un hok bare (λb z=>absurd z (by simp)),r,q⟩
end
def Lh(sp:Sp)(Ho:List V)(E:XK)(t:TA):TE:=λσ H Q=>t σ H λvs H1=>sp (vs++Ho) H1 Q E
def Binds(K:Frag)(fd:FuncData)(ps:List Str)(ds:List Value):Prop :=
 ∀(s:Shared) (us:List Value),K.In s.heap->(us++ds).length=ps.length->BindsTo s fd ⟨us,[]⟩ (ps.zip (us++ds))
theorem Binds.all{K:Frag}{fd:FuncData}{ps:List Str}(h:∀us:List Value,us.length=ps.length->bindArgs fd ⟨us,[]⟩=pure (ps.zip us)):Binds K fd ps []:=λs us _ hl=>by
 rw[aaP]at hl |-;exact .of_eq (h us hl)
def Passes(CX:yF)(X:Cx)(E:XK):Prop:=∀(pins:List (Addr×Obj)) (σ:St) (H:Hp) (s:Shared) (e:Value) (s':Shared),Inv X pins σ H s->CX X.stack H s E e s'->X.xe e s'
section
variable {X:Cx} {CX:yF} {k:Nat} {f C:Addr} {fd:FuncData} {ps:List Str} {sp:Sp} {Ho:List V} {ds:List Value} {E:XK} {x m:Str} {p pos apos:Pos} {e o:Expr} {es:List Expr} {ta:TE} {t:TA}
theorem Dw(F:fK X.prog X.w X.K X.mg X.base CX k f fd ps sp)(hr:eN k X.A)(hb:Binds X.K fd ps ds)(hd:Vals Ho ds)(hx:Passes CX X E)
  (I:Inv X pins σ H s) (r:Vals vs us) (h:sp (vs++Ho) H Q E):wpAny (model X.prog X.w) X.A (call (.ref f) us) (EP X pins σ Q) X.xe s:=by
 have r2:Vals (vs++Ho) (us++ds):=r.append hd;have hl:(us++ds).length=ps.length:=by rw[<-r2.length];exact F.len _ _ _ _ h
 refine wpAny_call (codeAny_mono (F.run X.A X.stack s H ⟨us,[]⟩ (us++ds) (vs++Ho) Q E hr I.yH (hb s us I.jJ hl) r2 h) λr s' hq=>?_);cases r with
 |error e=>exact hx pins σ H s e s' I hq
 |ok fl=>
  cases fl with
  |ret u=>exact I.after hq
  |next=>exact False.elim hq
  |brk=>exact False.elim hq
  |cont=>exact False.elim hq
theorem HX(F:fK X.prog X.w X.K X.mg X.base CX k f fd ps sp)(hr:eN k X.A)(hg:Gl X x)(hm:X.mg x=some (.ref f))(hk:keepIn X.K (.ref f)=true)(hb:Binds X.K fd ps ds)(hd:Vals Ho ds)(hx:Passes CX X E)
  (ha:PA X (e::es) t) (hdb:(x==("__debug__":Str))=false) (he:starEach (e::es) X.env=(false,eval e X.env)::starEach es X.env) (hpl:(backTo pos (starEach es X.env)).any (·.1)=false) :
  PE X (.Call (.Name x p) (e::es) [] pos) (Lh sp Ho E t):=by
 intro pins s σ H Q I h;refine wpAny_Call_Name_kw (g9 I hg hm ?_ hdb);refine callWith_K (h₀:=X.base) I.ok.mod.Qz hk (cL (ha pos pins s σ H _ I h) λus s1 ⟨vs,H1,I1,r,q⟩=>⟨I1.jJ,?_⟩) he hpl;exact Dw F hr hb hd hx I1 r q
theorem Dy(F:fK X.prog X.w X.K X.mg X.base CX k f fd ps sp)(hr:eN k X.A)(hg:Gl X x)(hm:X.mg x=some (.ref f))(hk:keepIn X.K (.ref f)=true)(hb:Binds X.K fd ps ds)(hd:Vals Ho ds)(hx:Passes CX X E)
  (hdb:(x==("__debug__":Str))=false):PE X (.Call (.Name x p) [] [] pos) (Lh sp Ho E Q4):=by
 intro pins s σ H Q I h;refine wpAny_Call_Name_kw (g9 I hg hm ?_ hdb);exact callWith_K0 I.jJ hk (Dw (us:=[]) F hr hb hd hx I .nil h)
structure Mk (K:Frag) (C f:Addr):Prop where
 makes:PySem.W.makesIn K C=true
 init:findIn K (.ref C) "__init__" = some (some (.ref f))
 fn:isFn K (.ref f)=true
 kp:keepIn K (.ref C)=true
end
structure mF (N P:List Str) (sc:Scope):Prop where
 kind:sc.kind=.function
 co:sc.isCoroutine=false
 gen:sc.isGenerator=false
 nd:N.Nodup
 pre:N.take P.length=P
 par:∀x∈P,sc.names.lookup x=some .local\/sc.names.lookup x=some .cell
 ME:∀y∈sc.names,y.2≠.free
theorem sj{kindOf:Str->Option NameKind}{x:Str}:∀{binds:List (Str×Value)} {m:Str->Option Value},(∀v,(x,v)∉binds)->bindL kindOf binds m x=m x
 |[],_,_=>rfl
 | (n,v)::r,m,h=>by
  unfold bindL;rw[sj λw hw=>h w (aae _ hw)]
  split
  ·have:x≠n:=by rintro rfl;exact h v aah
   simp[this]
  ·rfl
theorem su{kindOf:Str->Option NameKind}{x:Str}:∀{binds:List (Str×Value)} {m:Str->Option Value},(∀v,(x,v)∉binds)->bindC kindOf binds m x=m x
 |[],_,_=>rfl
 | (n,v)::r,m,h=>by
  unfold bindC;rw[su λw hw=>h w (aae _ hw)]
  split
  ·rfl
  ·have:x≠n:=by rintro rfl;exact h v aah
   simp[this]
theorem sy{kindOf:Str->Option NameKind}{x:Str}{v:Value}:∀{P:List Str} {vs:List Value} {i:Nat} {m:Str->Option Value},P.Nodup->P[i]?=some x->vs[i]?=some v->kindOf x=some .local ->
  bindL kindOf (P.zip vs) m x=some v
 |[],_,_,_,_,h,_,_=>by simp at h
 |_::_,[],_,_,_,_,h,_=>by simp at h
 | p::P,w::vs,0,m,nd,h1,h2,hk=>by
  simp at h1 h2;subst h1;subst h2;show bindL kindOf ((p,w)::P.zip vs) m p=_;unfold bindL;rw[sj λv hv=>(nodup_cons.mp nd).1 (of_mem_zip hv).1,aan hk];simp
 | p::P,w::vs,i+1,m,nd,h1,h2,hk=>by
  show bindL kindOf ((p,w)::P.zip vs) m x=_;unfold bindL;exact sy (i:=i) (nodup_cons.mp nd).2 (by simpa using h1) (by simpa using h2) hk
theorem sD{kindOf:Str->Option NameKind}{x:Str}{v:Value}:∀{P:List Str} {vs:List Value} {i:Nat} {m:Str->Option Value},P.Nodup->P[i]?=some x->vs[i]?=some v->kindOf x≠some .local ->
  bindC kindOf (P.zip vs) m x=some v
 |[],_,_,_,_,h,_,_=>by simp at h
 |_::_,[],_,_,_,_,h,_=>by simp at h
 | p::P,w::vs,0,m,nd,h1,h2,hk=>by
  simp at h1 h2;subst h1;subst h2;show bindC kindOf ((p,w)::P.zip vs) m p=_;unfold bindC;rw[su λv hv=>(nodup_cons.mp nd).1 (of_mem_zip hv).1,aaj hk];simp
 | p::P,w::vs,i+1,m,nd,h1,h2,hk=>by
  show bindC kindOf ((p,w)::P.zip vs) m x=_;unfold bindC;exact sD (i:=i) (nodup_cons.mp nd).2 (by simpa using h1) (by simpa using h2) hk
def start(N:List Str)(vs:List V):St:=vs.map some++replicate (N.length-vs.length) none
def dM(CX:yF)(P:Program)(w:World)(K:Frag)(mg:Str->Option Value)(base:Heap)(N:List Str)(qual:Str)(scope:Scope)(f:Addr)(cd:Value)(A:Around)(outer:List Env)(s:Shared)(H:Hp)(E:XK):Cx where
 prog:=P
 w:=w
 K:=K
 mg:=mg
 base:=base
 A:=A.deeper (envOfC qual scope s.heap.objs.size f cd)
 N:=N
 s₀:=s
 H₀:=H
 env:=envOfC qual scope s.heap.objs.size f cd
 outer:=outer
 stack:=envOfC qual scope s.heap.objs.size f cd::outer
 ex:=[]
 calm:=true
 fn:=λ_=>true
 pn:=[]
 xe:=λe s'=>wpAny (model P w) (A.deeper (envOfC qual scope s.heap.objs.size f cd)) (leaving (envOfC qual scope s.heap.objs.size f cd) e) (λ_ s''=>CX outer H s E e s'') (λe' s''=>CX outer H s E e' s'') s'
theorem vX{sc:Scope}{n:Nat}{x:Str}(h:sc.names.lookup x=some .cell):∃c,(cellsFrom n sc.names []).lookup x=some c:=by
 have q:=cellsFrom_some sc.names n [] (.inl h);exact Option.isSome_iff_exists.mp q
theorem BO{CX:yF}{P:Program}{w:World}{K:Frag}{mg:Str->Option Value}{base:Heap}{N ps:List Str}{qual:Str}{scope:Scope}{f:Addr}{cd:Value}{A:Around}{outer:List Env}{s s1:Shared}{H:Hp}{E:XK}{us:List Value}{vs:List V}
  (S:mF N ps scope) (hd:A.handled=none) (e0:yG P w K mg base A outer s H) (hl:vs.length=ps.length) (r:Vals vs us)
  (x:InCallC s s.heap.objs.size (bindL (envOfC qual scope s.heap.objs.size f cd).kindOf (ps.zip us) λ_=>none) (cellsFrom (s.heap.objs.size+1) scope.names []) (bindC (envOfC qual scope s.heap.objs.size f cd).kindOf (ps.zip us) λ_=>none) s1) :
  Inv (dM CX P w K mg base N qual scope f cd A outer s H E) [] (start N vs) H s1:=by
 have hpl:ps.length<=N.length:=by have:=congrArg length S.pre;rw[length_take]at this;omega
 obtain⟨h1,tk,rfl,hk⟩:=x.done;have noA:∀b:Addr,b∉(dM CX P w K mg base N qual scope f cd A outer s H E).ex:=λb z=>absurd (show b∈([]:List Addr) from z) (by simp);refine⟨⟨e0.mod,S.kind,rfl,rfl,aal _,λy z c h1 h2=>?_,λy hy=>?_,λy c _ h=>?_,λ_=>hd,Around.frames_deeper e0.frames,.inr ⟨rfl,rfl⟩,λb z=>absurd z (noA b),e0.bs,e0.HG,λb _ _=>noA b,λb z=>absurd z (noA b),e0.nL,e0.Lb⟩,
  rfl,e0.bare,Un.kept hk,⟨_,x.toInCall.ns,λi y v h1 h2 h3=>?_⟩,λy c h=>⟨_,x.cell y c h⟩,e0.hok.fresh (aal _),λy c h=>?_,λp hp=>absurd (show p∈([]:List (Addr×Obj)) from hp) (by simp),e0.hok.kept hk,?_⟩
 ·exact name_of_addr x.apart (PySem.mem_of_lookup h1) (PySem.mem_of_lookup h2)
 ·have hy:scope.names.lookup y=some .cell\/scope.names.lookup y=some .free:=hy
  rcases hy with hy|hy
  ·exact vX hy
  ·exact absurd rfl (S.ME _ (PySem.mem_of_lookup hy))
 ·exact le_of_lt (x.above y c (PySem.mem_of_lookup h))
 ·have hi:i<vs.length:=by
   unfold start at h2
   by_cases hi:i<vs.length
   ·exact hi
   ·rw[aaG (by simpa using hi)]at h2;rw[List.getElem?_replicate]at h2;split at h2<;>cases h2
  have ha:vs[i]?=some v:=by
   unfold start at h2;rw[aax (by simpa using hi),aaF]at h2;cases e:vs[i]? with
   |none=>rw[e]at h2;cases h2
   |some a=>rw[e]at h2;cases h2;rfl
  obtain⟨u,hu,rv⟩:=r.get ha;have hp:ps[i]?=some y:=by rw[<-S.pre,List.getElem?_take_of_lt (by omega)];exact h1
  have W7:ps.Nodup:=by rw[<-S.pre];exact S.nd.sublist (List.take_sublist _ _)
  refine⟨u,rv,?_⟩
  rcases S.par y (aaA hp) with k|k
  ·exact .inl ⟨k,sy W7 hp hu k⟩
  ·obtain⟨c,e⟩:=vX (n:=s.heap.objs.size+1) k;refine .inr ⟨.inl k,c,e,?_⟩;have q:=x.cell y c e;rw[sD W7 hp hu (by show scope.names.lookup y≠_;rw[k];decide)]at q;exact q
 ·exact e0.hok.fresh (le_of_lt (x.above y c (PySem.mem_of_lookup h)))
 ·unfold start;show _=N.length;rw[aaE,aaf,List.length_replicate];omega
theorem Dz{CX:yF}{P:Program}{w:World}{K:Frag}{mg:Str->Option Value}{base:Heap}{k:Nat}{f:Addr}{name qual:Str}{params:Arguments}{body:List Stmt}{scope:Scope}{dV kV doc pm cdv ct oc:Value}{an od:Option Addr}
  {osl:Array (Option Value)} {N ps:List Str} {sp:Sp} (lk:K.lookup f=some ⟨oc,od,.func (fnOf name qual params body scope dV kV doc pm an cdv ct),osl⟩) (hcd:codeIn K cdv qual=true) (S:mF N ps scope)
  (len:∀vs H Q E,sp vs H Q E->vs.length=ps.length)
  (hbody:∀(A:Around) (outer:List Env) (s:Shared) (H:Hp) (vs:List V) (Q:VK) (E:XK),eN k (A.deeper (envOfC qual scope s.heap.objs.size f cdv))->sp vs H Q E ->
   ∃t,nM (dM CX P w K mg base N qual scope f cdv A outer s H E) body t/\t { nx:=λ_ H'=>Q .non H',rt:=Q } (start N vs) H) :
  fK P w K mg base CX (k+1) f (fnOf name qual params body scope dV kV doc pm an cdv ct) ps sp:=by
 refine⟨len,λA outer s H args us vs Q E hr e0 hb r hsp=>?_⟩;have hl:=len _ _ _ _ hsp;have KX:K.In s.heap:=e0.mod.Qz.keeps λb o e=>(e0.bs b o e).1;have lim:s.heap.NoLimit:=e0.mod.nolimit.keeps λb o e=>(e0.bs b o e).1;have hkind:∀y∈ps.zip us,scope.names.lookup y.1=some .local\/(scope.names.lookup y.1=some .cell/\((cellsFrom (s.heap.objs.size+1) scope.names []).lookup y.1).isSome=true):=λ⟨n,v⟩ hy=>by
  rcases S.par n (of_mem_zip hy).1 with q|q
  ·exact .inl q
  ·exact .inr ⟨q,cellsFrom_some _ _ _ (.inl q)⟩
 refine codeAny_call_function hr.depth (KX _ _ lk) rfl S.co S.gen rfl (PySem.W.codeRec_of KX hcd) (hb _ _ _ _ ?_);refine wpAny_newFunctionEnv_cells S.kind hkind λenv he s1 x=>?_;subst he;refine⟨lim.keeps x.toInCall.keep,codeAny_func ?_⟩;obtain⟨t,ht,hq⟩:=hbody A outer s H vs Q E (hr.deeper _) hsp;have I:Inv (dM CX P w K mg base N qual scope f cdv A outer s H E) [] (start N vs) H s1:=BO S hr.hd e0 hl r x;refine aaL (ht [] s1 (start N vs) H _ I hq) (λfl s' hs=>?_) λe s' hs=>hs;have fin:∀{σ':St} {H':Hp} {v:V} {u:Value},Inv (dM CX P w K mg base N qual scope f cdv A outer s H E) [] σ' H' s'->RelV v u->Q v H'->CE outer P w H s Q u s' :=
  λ{σ' H' v u} J rv q=>⟨v,H',J.os,J.bare,J.base,J.hok,rv,q⟩
 cases fl with
 |ret u=>obtain⟨v,σ',H',J,rv,q⟩:=hs;exact fin J rv q
 |next=>obtain⟨σ',H',J,q⟩:=hs;exact fin (v:=V.non) (u:=Value.none) J rfl q
 |brk=>obtain⟨_,_,_,q⟩:=hs;exact False.elim q
 |cont=>obtain⟨_,_,_,q⟩:=hs;exact False.elim q
section
variable {X:Cx} {x:Str} {p pos:Pos} {e:Expr} {es:List Expr} {t:TA} {id T:String} {r:List V->Hp->VK->Prop}
def W8(r:List V->Hp->VK->Prop)(t:TA):TE:=λσ H Q=>t σ H λvs H1=>r vs H1 Q
theorem eT(hc:bV X (.builtin id) r)(hg:Gl X x)(hm:X.mg x=none)(hv:bootBuiltins x=some (.builtin id))(ha:PA X (e::es) t)(hn:x ≠ "__name__":=by decide)(hdb:(x==("__debug__":Str))=false:=by decide)
  (he:starEach (e::es) X.env=(false,eval e X.env)::starEach es X.env:=by rfl) (hpl:(backTo pos (starEach es X.env)).any (·.1)=false:=by rfl):PE X (.Call (.Name x p) (e::es) [] pos) (W8 r t):=by
 intro pins s σ H Q I h;refine wpAny_Call_Name_kw (jK I hg hm hv ?_ hn hdb);exact PyProof.Rows.callWith_builtin1 (cL (ha pos pins s σ H _ I h) λus s1 ⟨vs,H1,I1,r1,q1⟩=>hc pins s1 σ H1 vs us Q I1 r1 q1) he hpl
theorem kF(hc:bV X (.type T) r)(hg:Gl X x)(hm:X.mg x=none)(hv:bootBuiltins x=some (.type T))(ha:PA X (e::es) t)(hn:x ≠ "__name__")(hdb:(x==("__debug__":Str))=false)
  (he:starEach (e::es) X.env=(false,eval e X.env)::starEach es X.env) (hpl:(backTo pos (starEach es X.env)).any (·.1)=false):PE X (.Call (.Name x p) (e::es) [] pos) (W8 r t):=by
 intro pins s σ H Q I h;refine wpAny_Call_Name_kw (jK I hg hm hv ?_ hn hdb);exact PyProof.Rows.callWith_type1 (cL (ha pos pins s σ H _ I h) λus s1 ⟨vs,H1,I1,r1,q1⟩=>hc pins s1 σ H1 vs us Q I1 r1 q1) he hpl
end
end L2
namespace HT
open PySem PyProof.Rows
def lexLt:List Int->List Int->Bool
 |[],[]=>false
 |[],_::_=>true
 |_::_,[]=>false
 |x::xs,y::ys=>if x=y then lexLt xs ys else decide (x<y)
theorem jj(x y:Int)(xs ys:List Int):lexLt (x::xs) (y::ys)=if x=y then lexLt xs ys else decide (x<y):=rfl
theorem rP:lexLt [] []=false:=rfl
theorem gI(y:Int)(ys:List Int):lexLt [] (y::ys)=true:=rfl
theorem eV(x:Int)(xs:List Int):lexLt (x::xs) []=false:=rfl
section
variable {prog:Program} {w:World} {A:Around} {E:Value->Shared->Prop} {s:Shared}
theorem HY(ht:IsTup s.heap t vs.toArray)(hb:IsTup s.heap b ws.toArray)(hv:vs≠[])
  (h1:ws=[]->Q (.ref t) s) (h2:ws≠[]->Q (.ref s.heap.objs.size) { s with heap:=s.heap.push { cls:=.type "tuple",data:=.seq (vs++ws).toArray } })
  (hsz:vs.length+ws.length<=sizeLine):wpAny (model prog w) A (binaryOp .Add (.ref t) (.ref b)) Q E s:=by
 obtain⟨⟨cls,dd,data,sl⟩,ho,hc,n,hd⟩:=id ht;obtain⟨⟨YJ,dd2,data2,sl2⟩,ho2,hc2,n2,hd2⟩:=id hb;simp only at hc hd hc2 hd2;subst hc hd hc2 hd2;have e:vs.toArray++ws.toArray=(vs++ws).toArray:=by simp
 by_cases hw:ws=[]
 ·exact concat_meets ⟨_,ho,rfl⟩ ⟨_,ho2,rfl⟩ noFill_tuple_add seq_tuple_add PySem.F.slot_tuple_add PySem.F.entry_tuple_add (PySem.F.args_tuple_add_2 _ _)
   (tuple_addW1 t b vs.toArray ws.toArray n n2 dd dd2 sl sl2 (by simpa using hv) (by simp[hw])) ⟨ho,ho2,h1 hw⟩
 ·refine concat_meets ⟨_,ho,rfl⟩ ⟨_,ho2,rfl⟩ noFill_tuple_add seq_tuple_add PySem.F.slot_tuple_add PySem.F.entry_tuple_add (PySem.F.args_tuple_add_2 _ _)
   (tuple_addW2 t b vs.toArray ws.toArray n n2 dd dd2 sl sl2 (by simpa using hv) (by simpa using hw) (by rw[aas,aas];exact hsz)) ⟨ho,ho2,?_⟩
  rw[e];exact h2 hw
def eG(n d:Nat):Option Int->Nat
 |none=>d
 |some v=>if v<0 then (v+(n:Int)).toNat else min v.toNat n
theorem qa(n d:Nat):eG n d none=d:=rfl
theorem mG(n d k:Nat):eG n d (some (k:Int))=min k n:=by
 show (if (k:Int)<0 then ((k:Int)+(n:Int)).toNat else min (k:Int).toNat n)=min k n;rw[aaj (by omega),Int.toNat_natCast]
theorem MF(n d:Nat)(hd:d<=n)(o:Option Int):eG n d o<=n:=by
 cases o with
 |none=>exact hd
 |some v=>
  show (if v<0 then (v+(n:Int)).toNat else min v.toNat n)<=n
  by_cases hv:v<0
  ·rw[aan hv];omega
  ·rw[aaj hv];exact Nat.min_le_right _ _
theorem z7(v:Int)(n d:Nat):(if v<0 then max (v+(n:Int)) 0 else min v (n:Int))=((eG n d (some v):Nat):Int):=by
 show (if v<0 then max (v+(n:Int)) 0 else min v (n:Int))=(((if v<0 then (v+(n:Int)).toNat else min v.toNat n):Nat):Int)
 by_cases hv:v<0
 ·simp only[if_pos hv];omega
 ·simp only[if_neg hv];omega
theorem yI(lo hi:Option Int)(n:Nat):Builtin.Slice.sliceAdjust lo hi 1 (n:Int)=(((eG n 0 lo:Nat):Int),((eG n n hi:Nat):Int)):=by
 have h1:¬ ((1:Int)<0):=by omega
 unfold Builtin.Slice.sliceAdjust;simp only[h1,if_false];refine Prod.ext ?_ ?_
 ·cases lo with
  |none=>rfl
  |some v=>exact z7 v n 0
 ·cases hi with
  |none=>rfl
  |some v=>exact z7 v n n
theorem yJ(i j:Nat):Builtin.Slice.slicePlaces (i:Int) (j:Int) 1=j-i:=by
 unfold Builtin.Slice.slicePlaces;have h1:(1:Int)>0:=by omega
 simp only[h1,if_true,Int.ediv_one]
 split<;>omega
theorem qb{o:Option Int}(p:IsPart v o)(h:Q o s):wpAny (model prog w) A (Builtin.Slice.slicePartIndex v) Q E s:=by
 cases p with
 |none=>exact slicePart_none h
 |int i t=>exact slicePart_int h
theorem nP{lo hi:Option Int}{n:Nat}(hs:s.heap.IsSliceOf sl vl vu .none)(pl:IsPart vl lo)(pu:IsPart vu hi)
  (h:Q (((eG n 0 lo:Nat):Int),1,eG n n hi-eG n 0 lo) s):wpAny (model prog w) A (Builtin.Slice.sliceApplied (.ref sl) (pure (n:Int))) Q E s:=by
 obtain⟨os,hos,hcs,hds⟩:=id hs;unfold Builtin.Slice.sliceApplied Builtin.Slice.sliceFields;refine aaa (aaa (wpAny_field hos hds (x:=vl) rfl (aaa (wpAny_field hos hds (x:=vu) rfl (aaa (wpAny_field hos hds (x:=.none) rfl (aag ?_)))))));refine aaa (slicePart_none ?_);show wpAny _ _ (if ((1:Int)==0)=true then _ else _) _ _ s;rw[aaj (by decide)];refine aaa (qb pl (aaa (qb pu (aaa (aag ?_)))));show wpAny _ _ (match Builtin.Slice.sliceAdjust lo hi 1 (n:Int) with|(lo,hi)=>pure (lo,(1:Int),Builtin.Slice.slicePlaces lo hi 1)) _ _ s;rw[yI lo hi n];show wpAny _ _ (pure (((eG n 0 lo:Nat):Int),(1:Int),Builtin.Slice.slicePlaces ((eG n 0 lo:Nat):Int) ((eG n n hi:Nat):Int) 1)) _ _ s;rw[yJ];exact aag h
theorem DA(xs:Array Value)(i k:Nat):((List.range k).filterMap λ(m:Nat)=>xs[((i:Int)+(m:Int)*1).toNat]?).toArray=((xs.toList.drop i).take k).toArray:=by
 have e:(λ(m:Nat)=>xs[((i:Int)+(m:Int)*1).toNat]?)=λm=>xs[i+m]?:=by
  funext m;have:((i:Int)+(m:Int)*1).toNat=i+m:=by omega
  rw[this]
 rw[e];have:=pick_run xs i k;rw[List.filterMap_map]at this;have e2:((λx=>xs[x]?)∘λx=>i+x)=λm=>xs[i+m]?:=rfl;rw[e2]at this;rw[this]
theorem mH{lo hi:Option Int}(ht:IsTup s.heap t items)(hs:s.heap.IsSliceOf sl vl vu .none)(pl:IsPart vl lo)(pu:IsPart vu hi)
  (hw:¬ (eG items.size 0 lo=0/\eG items.size items.size hi=items.size))
  (h:Q (.ref s.heap.objs.size) { s with heap:=s.heap.push { cls:=.type "tuple",data:=.seq ((items.toList.drop (eG items.size 0 lo)).take (eG items.size items.size hi-eG items.size 0 lo)).toArray } })
  (hsz:items.size<=sizeLine):wpAny (model prog w) A (getItem (.ref t) (.ref sl)) Q E s:=by
 have z8:sizeOk (.seq ((items.toList.drop (eG items.size 0 lo)).take (eG items.size items.size hi-eG items.size 0 lo)).toArray):=by show ((items.toList.drop (eG items.size 0 lo)).take (eG items.size items.size hi-eG items.size 0 lo)).toArray.size<=sizeLine;rw[aas,length_take,length_drop,aaI];omega
 have hj:eG items.size items.size hi<=items.size:=MF _ _ (aal _) hi;obtain⟨os,hos,hcs,hds⟩:=id hs;have Vl:s.TypeIs (.ref sl) "slice":=⟨os,hos,hcs⟩;unfold getItem
 try with_reducible refine wpAny_holding ?_
 first|refine aaa (aag ?_)|skip
 refine aaa (wpAny_sequenceKey ht.typeIs (by decide) ?_);refine aaa (wpAny_callSpecial?_slot (name:=Str.ofString "__getitem__") ht.typeIs PyProof.Rows.slot_tuple_getitem
  (wpAny_call_entry PyProof.Rows.slot_tuple_getitem ht.typeIs entry_tuple_getitem ?_ (args_tuple_getitem _ _)))
 show wpAny _ _ (Builtin.Tuple.tupleItemsOf (.ref t) >>= _) _ _ s;refine aaa (tupleItemsOf_ ht ?_);refine aaa (wpAny_typeOf Vl ?_);rw[aan (by decide)];refine aaa (nP hs pl pu ?_);have hno:¬ ((((eG items.size 0 lo:Nat):Int)==0&&(1:Int)==1&&(eG items.size items.size hi-eG items.size 0 lo)==items.size)=true):=by intro q;rw[and_eq_true,and_eq_true]at q;have q1:((eG items.size 0 lo:Nat):Int)=0:=eq_of_beq q.1.1;have q2:eG items.size items.size hi-eG items.size 0 lo=items.size:=eq_of_beq q.2;exact hw ⟨by omega,by omega⟩
 show wpAny _ _ (if (((eG items.size 0 lo:Nat):Int)==0&&(1:Int)==1&&(eG items.size items.size hi-eG items.size 0 lo)==items.size)=true then _ else _) _ _ s;rw[aaj hno,DA]
 first
  |exact aaa (m:=Builtin.Tuple.tupleExact _) (aaN (aag ⟨_,rfl,aag h⟩) z8)
  |exact aaa (m:=Builtin.Tuple.tupleExact _) (aaN (aaa (aag (aag ⟨_,rfl,aag h⟩))) z8)
  |exact aaa (aaa (m:=Builtin.Tuple.tupleExact _) (aaN (aag (aag ⟨_,rfl,aag h⟩)) z8))
  |exact aaa (aaa (m:=Builtin.Tuple.tupleExact _) (aaN (aag ⟨_,rfl,aag h⟩) z8))
end
end HT
namespace L2
open PySem PySem.Spec PyProof.Rows
abbrev TO:=St->Hp->(Option Int->Hp->Prop)->Prop
def PO(X:Cx)(e:Option Expr)(t:TO):Prop :=
 ∀(pins:List (Addr×Obj)) (s:Shared) (σ:St) (H:Hp) (Q:Option Int->Hp->Prop),Inv X pins σ H s->t σ H Q ->
  wpAny (model X.prog X.w) X.A (evalPart e X.env) (λu s'=>∃o H',Inv X pins σ H' s'/\IsPart u o/\Q o H') X.xe s
def HZ:TO:=λ_ H Q=>Q none H
def Q6(t:TE):TO:=λσ H Q=>t σ H λx H1=>∃i,x=.int i/\Q (some i) H1
theorem intsAre_of{ns:List Int}:∀{us:List Value},Vals (ns.map V.int) us->IntsAre us ns:=by
 induction ns with
 |nil=>intro us r;rw[map_nil]at r;cases r;exact .nil
 |cons n ns ih=>
  intro us r;rw[aar]at r;cases r with
  |cons r1 r2=>obtain⟨t,e⟩:=r1;subst e;exact .cons n t (ih r2)
section
variable {X:Cx} {e:Expr} {te:TE} {lo hi:Option Expr} {tl th:TO} {pos p2:Pos}
theorem Ia:PO X none HZ:=by
 intro pins s σ H Q I h;rw[evalPart_none];exact aag ⟨none,H,I,.none,h⟩
theorem Ib(h:PE X e te):PO X (some e) (Q6 te):=by
 intro pins s σ H Q I hw;rw[evalPart_some];refine cL (h pins s σ H _ I hw) λu s1 aS=>?_;obtain⟨x,H1,I1,r1,q1⟩:=aS;obtain⟨i,rfl,q⟩:=q1;obtain⟨t,rfl⟩:=r1;exact⟨some i,H1,I1,.int i t,q⟩
def Q7(X:Cx)(r:V->Option Int->Option Int->Hp->VK->Prop):Prop :=
 ∀(pins:List (Addr×Obj)) (s:Shared) (σ:St) (H:Hp) (x:V) (v vl vu:Value) (lo hi:Option Int) (sl:Addr) (Q:VK),Inv X pins σ H s->RelV x v->s.heap.IsSliceOf sl vl vu .none->IsPart vl lo->IsPart vu hi->r x lo hi H Q ->
  ∃T id,typeLookup (.type T) "__getitem__" = pure (some (.builtin id))/\s.TypeIs v T/\wpAny (model X.prog X.w) X.A (getItem v (.ref sl)) (EP X pins σ Q) X.xe s
def YK(r:V->Option Int->Option Int->Hp->VK->Prop)(te:TE)(tl th:TO):TE:=λσ H Q=>te σ H λx H1=>tl σ H1 λl H2=>th σ H2 λu H3=>r x l u H3 Q
theorem DC(hr:Q7 X r)(he:PE X e te)(hl:PO X lo tl)(hu:PO X hi th):PE X (.Subscript e (.Slice lo hi none p2) pos) (YK r te tl th):=by
 intro pins s σ H Q I h;refine Subscript_ (cL (he pins s σ H _ I h) λv s1 aS=>?_);obtain⟨x,H1,I1,r1,q1⟩:=aS;refine wpAny_Slice (cL (hl pins s1 σ H1 _ I1 q1) λvl s2 ⟨l,H2,I2,pl,q2⟩=>cL (hu pins s2 σ H2 _ I2 q2) λvu s3 aS=>?_);obtain⟨u,H3,I3,pu,q3⟩:=aS;rw[evalPart_none];refine aag ?_;have I4:Inv X pins σ H3 { s3 with heap:=s3.heap.push { cls:=.type "slice",data:=.fields [vl,vu,.none].toArray } }:=I3.kept (t':=s3.toks) λb ob q=>aad _ q;obtain⟨T,id,hT,ht,hg⟩:=hr pins { s3 with heap:=s3.heap.push { cls:=.type "slice",data:=.fields [vl,vu,.none].toArray } } σ H3 x v vl vu l u s3.heap.objs.size Q I4 r1 (Heap.IsSliceOf.new ..) pl pu q3;show wpAny (model X.prog X.w) X.A (subscriptTail e (.Slice lo hi none p2) v (.ref s3.heap.objs.size)) (EP X pins σ Q) X.xe { s3 with heap:=s3.heap.push { cls:=.type "slice",data:=.fields [vl,vu,.none].toArray } };exact tail_any (ops:=[.ref s3.heap.objs.size,v]) ht hT hg (by with_unfolding_all rfl)
def vY(xs:List V)(lo hi:Option Int):List V:=(xs.drop (HT.eG xs.length 0 lo)).take (HT.eG xs.length xs.length hi-HT.eG xs.length 0 lo)
theorem oO(xs:List V)(lo hi:Option Int):(vY xs lo hi).length<=xs.length:=by
 unfold vY;rw[length_take,length_drop];omega
def Vm(K:Frag):V->Option Int->Option Int->Hp->VK->Prop:=λx lo hi H Q=>∃a xs,x=.ref a/\iP K H a xs /\
 ¬ (HT.eG xs.length 0 lo=0/\HT.eG xs.length xs.length hi=xs.length)/\∀p,H p=none->Q (.ref p) (upd H p (.tup (vY xs lo hi)))
theorem MG:Q7 X (Vm X.K):=by
 intro pins s σ H x v vl vu lo hi sl Q I rx hs pl pu h;obtain⟨a,xs,rfl,hx,hw,q⟩:=h;cases rx;obtain⟨its,r,ht,hz⟩:=I.tuple hx;have hlen:its.toArray.size=xs.length:=by rw[aas];exact r.length.symm
 refine⟨"tuple",_,PyProof.Rows.slot_tuple_getitem.lookup,ht.typeIs,?_⟩;refine HT.mH ht hs pl pu (by rw[hlen];exact hw) ?_ (by rw[hlen];exact hz);rw[hlen];refine⟨.ref s.heap.objs.size,_,I.laid (t':=s.toks) (o:=.tup (vY xs lo hi)) (λb ob q=>aad _ q) (aal _) ?_,rfl,q _ (I.hok.fresh (aal _))⟩;exact⟨aaK (oO xs lo hi) hz,_,(r.drop (HT.eG xs.length 0 lo)).take (HT.eG xs.length xs.length hi-HT.eG xs.length 0 lo),IsTup.new _ _⟩
def Q8(K:Frag):R2:=λx y H Q=>∃a b xs ys,x=.ref a/\y=.ref b/\iP K H a xs/\iP K H b ys/\xs≠[]/\xs.length+ys.length<=sizeLine /\
 (ys=[]->Q (.ref a) H)/\(ys≠[]->∀p,H p=none->Q (.ref p) (upd H p (.tup (xs++ys))))
theorem Vals.uw(r:Vals xs us):us=[]↔xs=[]:=by
 cases r with
 |nil=>simp
 |cons _ _=>simp
theorem Ic:k9 X (binaryOp .Add) (Q8 X.K):=by
 intro pins s σ H x y v u Q I rx ry h;obtain⟨a,b,xs,ys,rfl,rfl,ha,hb,hx,hz,q1,q2⟩:=h;cases rx;cases ry;obtain⟨its,r1,p1,_⟩:=I.tuple ha;obtain⟨its2,r2,p2,_⟩:=I.tuple hb;refine HT.HY p1 p2 (λz=>hx (r1.uw.mp z)) (λz=>⟨.ref a,H,I,rfl,q1 (r2.uw.mp z)⟩) (λz=>?_) (by rw[<-r1.length,<-r2.length];exact hz);refine⟨.ref s.heap.objs.size,_,I.laid (t':=s.toks) (o:=.tup (xs++ys)) (λb ob q=>aad _ q) (aal _) ?_,rfl,q2 (λw=>z (r2.uw.mpr w)) _ (I.hok.fresh (aal _))⟩;exact⟨by rw[aaE];exact hz,_,r1.append r2,IsTup.new _ _⟩
end
def Hq(n:Nat)(i:Int):Option Nat:=if 0<=i then (if i<n then some i.toNat else none) else if -(n:Int)<=i then some (i+n).toNat else none
def jC{α:Type}(xs:List α)(i:Int):Option α:=(Hq xs.length i).bind λj=>xs[j]?
theorem Ie{n:Nat}{i:Int}{j:Nat}(h:Hq n i=some j):seqIndex? i n=some j/\j<n /\ -(n:Int)<=i/\i<n:=by
 unfold Hq at h
 by_cases h0:0<=i
 ·rw[aan h0]at h
  by_cases h1:i<n
  ·rw[aan h1]at h;have e:i.toNat=j:=aaH h;exact⟨by rw[seqIndex_of h0 h1,e],by omega,by omega,h1⟩
  ·rw[aaj h1]at h;cases h
 ·rw[aaj h0]at h
  by_cases h1:-(n:Int)<=i
  ·rw[aan h1]at h;have e:(i+n).toNat=j:=aaH h;exact⟨by rw[seqIndex_neg (by omega) h1,e],by omega,h1,by omega⟩
  ·rw[aaj h1]at h;cases h
theorem ux{α:Type}{xs:List α}{i:Int}{v:α}(h:jC xs i=some v):∃j,seqIndex? i xs.length=some j/\xs[j]?=some v/\j<xs.length /\ -(xs.length:Int)<=i/\i<xs.length:=by
 unfold jC at h;cases e:Hq xs.length i with
 |none=>rw[e]at h;cases h
 |some j=>rw[e]at h;obtain⟨h1,h2,h3,h4⟩:=Ie e;exact⟨j,h1,h,h2,h3,h4⟩
theorem jk{α:Type}{xs:List α}{j:Nat}{v:α}(h:xs[j]?=some v):jC xs (j:Int)=some v:=by
 have hj:j<xs.length:=(aai.mp h).1;have e:Hq xs.length (j:Int)=some j:=by unfold Hq;rw[aan (by omega),aan (by omega)];simp
 unfold jC;rw[e];exact h
def z9(b:Expr):Prop:=∀o i,subscripted b false o i=operate [o,i] (getItem o i)
def Qj(X:Cx)(r:R2):Prop :=
 ∀(value slice:Expr) (pins:List (Addr×Obj)) (s:Shared) (σ:St) (H:Hp) (x y:V) (v u:Value) (Q:VK),Inv X pins σ H s->RelV x v->RelV y u->r x y H Q ->
  subscripted slice false v u=operate [v,u] (getItem v u)->wpAny (model X.prog X.w) X.A (subscriptTail value slice v u) (EP X pins σ Q) X.xe s
def MH(X:Cx)(id:String)(r:V->List V->Hp->VK->Prop):Prop :=
 ∀(pins:List (Addr×Obj)) (s:Shared) (σ:St) (H:Hp) (x:V) (xs:List V) (v:Value) (us:List Value) (Q:VK),Inv X pins σ H s->RelV x v->Vals xs us->r x xs H Q ->
  wpAny (model X.prog X.w) X.A (call (.builtin id) (v::us)) (EP X pins σ Q) X.xe s
section
variable {X:Cx} {a b:Expr} {ta tb:TE} {pos:Pos}
theorem Q9(hr:Qj X r)(ha:PE X a ta)(hb:PE X b tb)(hs:z9 b):PE X (.Subscript a b pos) (Uz r ta tb):=by
 intro pins s σ H Q I h;exact Subscript_ (Ms ha hb I h λv u s2 x y H2 I2 rx ry q=>hr a b pins s2 σ H2 x y v u Q I2 rx ry q (hs _ _))
def Vn(K:Frag):R2:=λx y H Q=>∃p xs i v,x=.ref p/\y=.int i/\gD K H p xs/\jC xs i=some v/\Q v H
def Vo(K:Frag):R2:=λx y H Q=>∃p xs i v,x=.ref p/\y=.int i/\iP K H p xs/\jC xs i=some v/\Q v H
def Vp:R2:=λx y H Q=>∃z i c,x=.str z/\y=.int i/\z.length<=sizeLine/\jC z.cps.toList i=some c/\Q (.str ⟨[c].toArray⟩) H
theorem Aa:Qj X (Vn X.K):=by
 intro value slice pins s σ H x y v u Q I rx ry h hs;obtain⟨p,xs,i,z,rfl,rfl,hq,he,q⟩:=h;cases rx;obtain⟨t,rfl⟩:=ry;obtain⟨its,r,pl,hz⟩:=I.list hq;obtain⟨j,h1,h2,h3,h4,h5⟩:=ux he;obtain⟨w,ew,rw'⟩:=r.get h2;have hl:=r.length;have hn:=nO;have fin:EP X pins σ Q w s:=⟨z,H,I,rw',q⟩
 by_cases h0:0<=i
 ·have hj:i.toNat=j:=by
   rw[seqIndex_of h0 h5]at h1;exact aaH h1
  exact item_listR pl.isList h0 (by omega) (by rw[hj];simpa using ew) fin hs
 ·have hj:(i+(its.toArray.size:Int)).toNat=j:=by
   rw[seqIndex_neg (by omega) h4]at h1;rw[aas,<-hl];exact aaH h1
  exact subscriptTail_builtinR (x:=w) pl.isList.typeIs slot_list_getitem.lookup
   (wpAny_getItem_list_neg (Q:=λr s'=>r=w/\EP X pins σ Q r s') pl.isList (by omega) (by rw[aas]<;>omega) (by omega) (by rw[hj];simpa using ew) ⟨rfl,fin⟩) hs
theorem MI:Qj X (Vo X.K):=by
 intro value slice pins s σ H x y v u Q I rx ry h hs;obtain⟨p,xs,i,z,rfl,rfl,hq,he,q⟩:=h;cases rx;obtain⟨t,rfl⟩:=ry;obtain⟨its,r,pl,hz⟩:=I.tuple hq;obtain⟨j,h1,h2,h3,h4,h5⟩:=ux he;obtain⟨w,ew,rw'⟩:=r.get h2;have hl:=r.length;have hn:=nO;have fin:EP X pins σ Q w s:=⟨z,H,I,rw',q⟩;exact subscriptTail_builtinR (x:=w) pl.typeIs slot_tuple_getitem.lookup
  (getItem_tuple (j:=j) (Q:=λr s'=>r=w/\EP X pins σ Q r s') pl (by omega) (by omega) (by rw[aas,<-hl];exact h1) (by simpa using ew) ⟨rfl,fin⟩) hs
theorem MJ:Qj X Vp:=by
 intro value slice pins s σ H x y v u Q I rx ry h hs;obtain⟨z,i,c,rfl,rfl,hz,he,q⟩:=h;obtain⟨t,rfl⟩:=rx;obtain⟨t',rfl⟩:=ry;obtain⟨j,h1,h2,h3,h4,h5⟩:=ux he;have hl:z.cps.toList.length=z.length:=by simp[Str.length]
 rw[hl]at h1 h4 h5;have hn:=nO;exact tail_any (typeIs_str s z t) slot_str_getitem.lookup (getItem_str (c:=c) (by
  have e1:decide (i < -(2 ^ 63:Int))=false:=decide_eq_false (by omega);have e2:decide (i≥2 ^ 63)=false:=decide_eq_false (by omega);rw[e1,e2,Bool.or_false]) (by rw[h1];simpa using h2) ⟨.str ⟨[c].toArray⟩,H,I.tok _,⟨_,rfl⟩,q⟩) hs
theorem uy(lo hi:Option Int)(n:Nat):(sliceBounds lo hi none n).1=((HT.eG n 0 lo:Nat):Int)/\(sliceBounds lo hi none n).2.1=((HT.eG n n hi:Nat):Int)/\(sliceBounds lo hi none n).2.2=1:=by
 refine⟨?_,?_,rfl⟩
 ·cases lo with
  |none=>simp[sliceBounds,HT.eG]
  |some i=>
   simp only[sliceBounds,HT.eG,getD_none,show (1:Int)>0 by decide,if_true]
   by_cases h:i<0
   ·simp only[h,if_true]<;>omega
   ·simp only[h,if_false]<;>omega
 ·cases hi with
  |none=>simp[sliceBounds,HT.eG]
  |some i=>
   simp only[sliceBounds,HT.eG,getD_none,show (1:Int)>0 by decide,if_true]
   by_cases h:i<0
   ·simp only[h,if_true]<;>omega
   ·simp only[h,if_false]<;>omega
theorem rQ(its:List Value)(lo hi:Option Int):slicePick its.toArray lo hi none=((its.drop (HT.eG its.length 0 lo)).take (HT.eG its.length its.length hi-HT.eG its.length 0 lo)).toArray:=by
 obtain⟨h1,h2,h3⟩:=uy lo hi its.toArray.size;unfold slicePick;rw[h1,h2,h3];simp only[sliceRange_one,pick_run,size_toArray]<;>rfl
def Vq(K:Frag):V->Option Int->Option Int->Hp->VK->Prop:=λx lo hi H Q=>∃a xs,x=.ref a/\gD K H a xs/\∀p,H p=none->Q (.ref p) (upd H p (.lst (vY xs lo hi)))
theorem Ig:Q7 X (Vq X.K):=by
 intro pins s σ H x v vl vu lo hi sl Q I rx hs pl pu h;obtain⟨a,xs,rfl,hx,q⟩:=h;cases rx;obtain⟨its,r,ht,hz⟩:=I.list hx;have hlen:=r.length;refine⟨"list",_,slot_list_getitem.lookup,ht.isList.typeIs,?_⟩;refine wpAny_getItem_list_slice ht.isList hs pl pu .none (by simp) ?_ (by rw[aas]<;>omega);rw[rQ,<-hlen];refine⟨.ref s.heap.objs.size,_,I.laid (t':=s.toks) (o:=.lst (vY xs lo hi)) (λb ob q=>aad _ q) (aal _) ?_,rfl,q _ (I.hok.fresh (aal _))⟩;exact⟨aaK (oO xs lo hi) hz,_,0,(r.drop (HT.eG xs.length 0 lo)).take (HT.eG xs.length xs.length hi-HT.eG xs.length 0 lo),aaq _ rfl⟩
theorem uz:bV X (.type "list") (λxs H Q=>∃p ys,xs=[.ref p]/\(gD X.K H p ys\/iP X.K H p ys)/\∀l,H l=none->Q (.ref l) (upd H l (.lst ys))):=by
 intro pins s σ H xs us Q I r h;obtain⟨p,ys,rfl,hq,q⟩:=h;obtain⟨u,rfl,rx⟩:=vals1 r;cases rx;have fin:∀(its:List Value),Vals ys its->ys.length<=sizeLine->∀(h':Heap) (c':Nat),(∀b o',s.heap.get? b=some o'->h'.get? b=some o') ->
   h'.get? s.heap.objs.size=some { cls:=.type "list",dict:=none,data:=.seq its.toArray c',slots:=#[] }->EP X pins σ Q (.ref s.heap.objs.size) { s with heap:=h' }:=λits r' hz h' c' kp e=>
  ⟨.ref s.heap.objs.size,_,I.laid (t':=s.toks) kp (aal _) (show bF X.prog X.w _ h' _ (.lst ys) from⟨hz,its,c',r',e⟩),rfl,q _ (I.hok.fresh (aal _))⟩
 rcases hq with hq|hq
 ·obtain⟨its,r',pl,hz⟩:=I.list hq;have hlen:=r'.length;obtain⟨o,ho,hc,n,hd⟩:=pl.isList;exact call_list_seq p (.inl rfl) ho hc hd (λh' c' kp e=>fin its r' hz h' c' kp e) (by simp only[size_toArray]<;>omega)
 ·obtain⟨its,r',pl,hz⟩:=I.tuple hq;have hlen:=r'.length;obtain⟨o,ho,hc,n,hd⟩:=pl;exact call_list_seq p (.inr rfl) ho hc hd (λh' c' kp e=>fin its r' hz h' c' kp e) (by simp only[size_toArray]<;>omega)
theorem lq:bV X (.type "tuple") (λxs H Q=>∃p ys,xs=[.ref p]/\((gD X.K H p ys/\∀l,H l=none->Q (.ref l) (upd H l (.tup ys)))\/(iP X.K H p ys/\Q (.ref p) H))):=by
 intro pins s σ H xs us Q I r h;obtain⟨p,ys,rfl,h⟩:=h;obtain⟨u,rfl,rx⟩:=vals1 r;cases rx
 rcases h with ⟨hq,q⟩|⟨hq,q⟩
 ·obtain⟨its,r',pl,hz⟩:=I.list hq
  have hlen:=r'.length;refine call_tuple_list pl.isList (λh' kp=>?_) (by simp only[size_toArray]<;>omega);have I1:Inv X pins σ H { s with heap:=h' }:=I.kept (t':=s.toks) kp;have I2:Inv X pins σ (upd H h'.objs.size (.tup ys)) { s with heap:=h'.push { cls:=.type "tuple",data:=.seq its.toArray } } :=
   I1.laid (t':=s.toks) (λb o e=>aad _ e) (aal _) (show bF X.prog X.w _ _ _ (.tup ys) from⟨hz,its,r',IsTup.new _ _⟩)
  exact⟨.ref h'.objs.size,_,I2,rfl,q _ (I1.hok.fresh (aal _))⟩
 ·obtain⟨its,r',pl,hz⟩:=I.tuple hq;exact call_tuple_same pl ⟨.ref p,H,I,rfl,q⟩
def Vr(K:Frag)(T:String)(x:V)(H:Hp):Prop:=match x with
 |.str _=>T = "str"
 |.int _=>T = "int"
 | .ref p=>(T = "list" /\ ∃xs,gD K H p xs)\/(T = "tuple" /\ ∃o,K.lookup p=some o/\o.cls=.type "tuple" /\ o.dict=none) \/
   (T = "dict" /\ ((∃kvs,H p=some (.dK kvs))\/∃kvs,H p=some (.dT kvs)))\/(T = "set" /\ ∃S n,H p=some (.set S n))
 |_=>False
theorem MK{T:String}(I:Inv X pins σ H s)(r:RelV x v)(ty:Vr X.K T x H) :
  s.TypeIs v T/\∀a,v=.ref a->∃ob,s.heap.get? a=some ob/\ob.dict=none:=by
 cases x with
 |str z=>obtain⟨t,rfl⟩:=r;cases (show T = "str" from ty);exact⟨typeIs_str s z t,λ_ e=>nomatch e⟩
 |int i=>obtain⟨t,rfl⟩:=r;cases (show T = "int" from ty);exact⟨typeIs_int s i t,λ_ e=>nomatch e⟩
 |ref p=>
  cases r
  rcases ty with ⟨rfl,xs,hq⟩|⟨rfl,o,hk,hc,hd⟩|⟨rfl,hk⟩|⟨rfl,S,n,hk⟩
  ·obtain⟨its,_,pl,_⟩:=I.list hq;refine⟨pl.isList.typeIs,λa e=>?_⟩;cases e;obtain⟨o,n,e,c,hd,_⟩:=pl;exact⟨o,e,hd⟩
  ·refine⟨⟨o,I.jJ p o hk,hc⟩,λa e=>?_⟩;cases e;exact⟨o,I.jJ _ o hk,hd⟩
  ·have z:∃o,s.heap.get? p=some o/\o.ExactDict:=by
    rcases hk with ⟨kvs,hk⟩|⟨kvs,hk⟩
    ·obtain⟨_,_,_,_,o,_,_,e,ex,_⟩:=I.hok p _ hk;exact⟨o,e,ex⟩
    ·obtain⟨_,_,_,_,o,_,_,e,ex,_⟩:=I.hok p _ hk;exact⟨o,e,ex⟩
   obtain⟨o,e,ex⟩:=z;refine⟨⟨o,e,ex.1⟩,λa e2=>?_⟩;cases e2;exact⟨o,e,ex.2.1⟩
  ·obtain⟨o,_,_,_,e,ex,_⟩:=I.hok p _ hk;refine⟨⟨o,e,ex.1⟩,λa e2=>?_⟩;cases e2;exact⟨o,e,ex.2.1⟩
 |_=>exact False.elim ty
def W9(K:Frag)(T:String)(r:V->List V->Hp->VK->Prop)(to:TE)(t:TA):TE:=λσ H Q=>to σ H λx H1=>Vr K T x H1/\t σ H1 λxs H2=>r x xs H2 Q
variable {o e:Expr} {es:List Expr} {to:TE} {t:TA} {name:Str} {apos cpos:Pos} {T id:String} {r:V->List V->Hp->VK->Prop}
theorem qc(pa:PlainAttrs T)(slot:Slot T name id)(hty:typeOf (.builtin id)=pure (.type "method_descriptor"))(hm:MH X id r)(ho:PE X o to)(ha:PA X (e::es) t)
  (hbase:attributeBase o name X.env (eval o X.env)=eval o X.env)
  (hfew:((backTo cpos (starEach (e::es) X.env)).all (λx=>!x.1)&&(backToKw cpos (keywordEach [] X.env)).all (λx=>x.1.isSome)
   && decide ((e::es).length+([]:List Keyword).length+(if ([]:List Keyword).isEmpty then 0 else 1)<30))=true)
  (hline:(apos.endLine==cpos.line)=true) (hs:starEach (e::es) X.env=(false,eval e X.env)::starEach es X.env) (hplain:(backTo cpos (starEach es X.env)).any (·.1)=false) :
  PE X (.Call (.Attribute o name apos) (e::es) [] cpos) (W9 X.K T r to t):=by
 intro pins s σ H Q I h;refine wpAny_Call_method_late hbase hfew hline rfl (cL (ho pins s σ H _ I h) λv s1 aS=>?_);obtain⟨x,H1,I1,r1,ty,q1⟩:=aS;obtain⟨h1,h2⟩:=MK I1 r1 ty;refine⟨T,id,pa,slot,hty,h1,h2,?_⟩;have hA:=ha cpos pins s1 σ H1 _ I1 q1;rw[hs]at hA |-;refine Calls.callWith_builtin (by show (false||(backTo cpos (starEach es X.env)).any (·.1))=false;rw[hplain]<;>rfl) (Calls.evalArgs_plain ?_);exact cL hA λus s2 ⟨vs,H2,I2,r2,q2⟩=>hm pins s2 σ H2 x vs v us Q I2 r1 r2 q2
/- xs.append(e),list.index on a Ra tuple .. are MH facts of 06m -/
end
def ML(X:Cx)(id:String)(r:V->List V->Hp->VK->Prop):Prop :=
 ∀(pins:List (Addr×Obj)) (s:Shared) (σ:St) (H:Hp) (x:V) (xs:List V) (v:Value) (us:List Value) (Q:VK),Inv X pins σ H s->RelV x v->Vals xs us->r x xs H Q ->
  wpAny (model X.prog X.w) X.A (call (.builtin id) (v::us)) (EP X pins σ Q) X.xe s
theorem Vals.one:∀{x:V} {us:List Value},Vals [x] us->∃u,us=[u]/\RelV x u
 |_,_,.cons r .nil=>⟨_,rfl,r⟩
theorem Vals.eraseIdx:∀{xs:List V} {us:List Value} (i:Nat),Vals xs us->Vals (xs.eraseIdx i) (us.eraseIdx i)
 |_,_,_,.nil=>.nil
 |_,_,0,.cons _ t=>t
 |_,_,i+1,.cons r t=>.cons r (Vals.eraseIdx i t)
theorem sE{α:Type}:∀(l:List α) (i:Nat),(l.eraseIdx i).length<=l.length
 |[],_=>aal _
 |_::_,0=>le_succ _
 |_::r,i+1=>Nat.succ_le_succ (sE r i)
section
variable {X:Cx} {pins:List (Addr×Obj)} {σ:St} {H:Hp} {s:Shared} {l b:Addr} {xs ys zs:List V}
theorem Inv.MM{its its':List Value}{n:Nat}{f:Array Value->Array Value}{t':Nat}(I:Inv X pins σ H s)(hH:H l=some (.lst xs))
  (e:s.heap.get? l=some { cls:=.type "list",data:=.seq its.toArray n }) (hf:f its.toArray=its'.toArray) (hv:Vals ys its') (hz:ys.length<=sizeLine) :
  Inv X pins σ (upd H l (.lst ys)) { s with heap:=s.heap.update l (Obj.mapSeq f),toks:=t' }:=by
 have q:=PySem.IsL.update e f;rw[hf]at q;refine I.write (x:=l) (e:=l) (by rw[hH];exact trivial) (.inl rfl) (λb' u hb hu=>(get?_update_other s.heap (Obj.mapSeq f) (Ne.symm hb)).trans hu) ⟨_,q⟩ ?_;exact⟨hz,its',_,hv,q⟩
theorem Inv.Vs{t':Nat}(I:Inv X pins σ H s)(hv:Vals ys its)(hz:ys.length<=sizeLine) :
  Inv X pins σ (upd H s.heap.objs.size (.lst ys)) { s with heap:=s.heap.push { cls:=.type "list",data:=.seq its.toArray },toks:=t' } :=
 I.laid (λ_ _ q=>aad _ q) (aal _) ⟨hz,its,0,hv,aaq _ rfl⟩
theorem Inv.MN(I:Inv X pins σ H s)(hH:H l=some (.lst xs)):xs.length<=sizeLine/\∃(its:List Value) (n:Nat),Vals xs its/\xs.length=its.length/\s.heap.get? l=some { cls:=.type "list",data:=.seq its.toArray n }:=by
 obtain⟨z,its,n,r,e⟩:=I.hok l _ hH;exact⟨z,its,n,r,r.length,e⟩
theorem DE{n:Nat}(h:n<=sizeLine):Builtin.List.listTooLong n=false:=by
 unfold Builtin.List.listTooLong;exact decide_eq_false (by omega)
end
section
variable {X:Cx}
def Ih:V->List V->Hp->VK->Prop:=λx vs H Q=>∃l xs y,x=.ref l/\vs=[y]/\H l=some (.lst xs)/\xs.length<sizeLine/\Q .non (upd H l (.lst (xs++[y])))
theorem sG:ML X "list.append" Ih:=by
 intro pins s σ H x vs v us Q I rx rv h;obtain⟨l,xs,y,rfl,rfl,hH,hz,q⟩:=h;cases rx;obtain⟨u,rfl,ru⟩:=rv.one;obtain⟨z,its,n,r,hl,e⟩:=I.MN hH;refine call_meets F.slot_list_append ⟨_,e,rfl⟩ F.entry_list_append (F.args_list_append_2 _ _) (PySem.list_append l its.toArray n u (by rw[aas];omega)) ⟨e,?_⟩;refine⟨.non,_,I.MM (its':=its++[u]) hH e (by simp) (r.append #[ru]) ?_,rfl,q⟩;rw[aaE,List.length_singleton];omega
end
section
variable {κ:Type} [DecidableEq κ]
def jl(kvs:List (κ × V))(k:κ):Option V:=(kvs.find? λkv=>decide (kv.1=k)).map (·.2)
def putK(kvs:List (κ × V))(k:κ)(v:V):List (κ × V) :=
 if (kvs.any λkv=>decide (kv.1=k))=true then kvs.map (λkv=>if kv.1=k then (kv.1,v) else kv) else kvs++[(k,v)]
theorem qd{p:κ × V}{r:List (κ × V)}{k:κ}(e:p.1=k):jl (p::r) k=some p.2:=by simp[jl,find?_cons,e]
theorem qf{p:κ × V}{r:List (κ × V)}{k:κ}(e:¬ p.1=k):jl (p::r) k=jl r k:=by simp[jl,find?_cons,e]
theorem vZ(k:κ):∀kvs:List (κ × V),(kvs.any λkv=>decide (kv.1=k))=(jl kvs k).isSome
 |[]=>rfl
 | p::r=>by
  rw[any_cons]
  by_cases e:p.1=k
  ·simp only[qd e,decide_eq_true e,Bool.true_or,Option.isSome_some]
  ·rw[qf e,decide_eq_false e,Bool.false_or];exact vZ k r
theorem jO(kvs:List (κ × V))(k:κ)(v:V):(putK kvs k v).length<=kvs.length+1:=by
 unfold putK
 split
 ·rw[aaf];omega
 ·rw[aaE,aaB,length_nil];omega
theorem pC.iQ(r:pC o u):o.isSome=u.isSome:=by
 cases o with
 | none=>cases u with
  |none=>rfl
  |some _=>exact(show False from r).elim
 | some _=>cases u with
  |none=>exact(show False from r).elim
  |some _=>rfl
theorem KV.val(r:KV kvs vs)(k:κ):pC (jl kvs k) (valueAt vs k):=by
 unfold KV at r
 induction r with
 |nil=>exact True.intro
 |@cons p q ps qs h t ih=>
  obtain⟨h1,h2⟩:=h
  by_cases e:p.1=k
  ·have e':q.1=k:=h1.symm.trans e
   have b:valueAt (q::qs) k=some q.2:=by simp[valueAt,find?_cons,e']
   rw[qd e,b];exact h2
  ·have e':¬ q.1=k:=λz=>e (h1.trans z)
   have b:valueAt (q::qs) k=valueAt qs k:=by simp[valueAt,find?_cons,e']
   rw[qf e,b];exact ih
theorem KV.any(r:KV kvs vs)(k:κ):(kvs.any λkv=>decide (kv.1=k))=vs.any λkv=>decide (kv.1=k):=by
 unfold KV at r
 induction r with
 |nil=>rfl
 |cons h t ih=>rw[any_cons,any_cons,ih,h.1]
theorem KV.repl(r:KV kvs vs)(k:κ)(ry:RelV y u) :
  KV (kvs.map λkv=>if kv.1=k then (kv.1,y) else kv) (vs.map λkv=>if kv.1=k then (kv.1,u) else kv):=by
 unfold KV at r |-
 induction r with
 |nil=>exact .nil
 |@cons p q ps qs h t ih=>
  rw[aar,aar];refine .cons ?_ ih;obtain⟨h1,h2⟩:=h
  by_cases e:p.1=k
  ·rw[aan e,aan (h1.symm.trans e)];exact⟨h1,ry⟩
  ·rw[aaj e,aaj (λz=>e (h1.trans z))];exact⟨h1,h2⟩
theorem KV.put(r:KV kvs vs)(k:κ)(ry:RelV y u):KV (putK kvs k y) (stored vs k u):=by
 unfold putK stored;rw[r.any k]
 by_cases e:(vs.any λkv=>decide (kv.1=k))=true
 ·rw[aan e,aan e];exact r.repl k ry
 ·rw[aaj e,aaj e];exact Paired.snoc r ⟨rfl,ry⟩
theorem KV.length(r:KV kvs vs):kvs.length=vs.length:=Paired.length r
end
theorem sH(r:RelV (kV k) u):(ck P w).is k u=true:=by
 cases k with
 |inl i=>obtain⟨t,e⟩:=(show ∃t,u=Value.int i t from r);subst e;exact vQ P w i t
 |inr x=>obtain⟨t,e⟩:=(show ∃t,u=Value.str x t from r);subst e;exact vR P w x t
theorem sI:∀{ks:List Key} {us:List Value},Vals (ks.map kV) us->ItemsAre (ck P w) ks us
 |[],_,r=>by rw[map_nil]at r;cases r;exact .nil
 | k::ks,_,r=>by
  rw[aar]at r;cases r with
  |cons h t=>exact .cons (sH h) (sI t)
abbrev KT(H:Hp):List (List Key×V)->List (List Key×Addr×Value)->Prop:=Paired λp q=>p.1=q.1/\H q.2.1=some (.tup (p.1.map kV))/\RelV p.2 q.2.2
theorem KT.val(r:KT H kvs xs)(k:List Key):pC (jl kvs k) ((atKey xs k).map (·.2)):=by
 induction r with
 |nil=>exact True.intro
 |@cons p q ps qs h t ih=>
  obtain⟨h1,_,h2⟩:=h
  by_cases e:p.1=k
  ·have e':q.1=k:=h1.symm.trans e
   have b:atKey (q::qs) k=some q.2:=by simp[atKey,find?_cons,e']
   rw[qd e,b];exact h2
  ·have e':¬ q.1=k:=λz=>e (h1.trans z)
   have b:atKey (q::qs) k=atKey qs k:=by simp[atKey,find?_cons,e']
   rw[qf e,b];exact ih
theorem KT.repl(r:KT H kvs xs)(k:List Key)(ry:RelV y u) :
  KT H (kvs.map λkv=>if kv.1=k then (kv.1,y) else kv) (xs.map (putAt k u)):=by
 induction r with
 |nil=>exact .nil
 |@cons p q ps qs h t ih=>
  rw[aar,aar];refine .cons ?_ ih;obtain⟨h1,h2,h3⟩:=h;unfold putAt
  by_cases e:p.1=k
  ·rw[aan e,aan (h1.symm.trans e)];exact⟨h1,h2,ry⟩
  ·rw[aaj e,aaj (λz=>e (h1.trans z))];exact⟨h1,h2,h3⟩
theorem KT.put(r:KT H kvs xs)(k:List Key)(hb:H b=some (.tup (k.map kV)))(ry:RelV y u) :
  KT H (putK kvs k y) (storedH xs k b u):=by
 have e:(kvs.any λkv=>decide (kv.1=k))=(atKey xs k).isSome:=by rw[vZ,(r.val k).iQ,isSome_map]
 unfold putK storedH;rw[e]
 by_cases q:(atKey xs k).isSome=true
 ·rw[aan q,aan q];exact r.repl k ry
 ·rw[aaj q,aaj q];exact Paired.snoc r ⟨rfl,hb,ry⟩
theorem KT.keeps(r:KT H kvs xs)(ht:∀b ys,H b=some (.tup ys)->H' b=some (.tup ys)):KT H' kvs xs :=
 Paired.L8 r λ_ _ z=>⟨z.1,ht _ _ z.2.1,z.2.2⟩
section
variable {P:Program} {w:World} {H:Hp} {h:Heap} {a:Addr}
theorem Li(ok:iO P w H h)(e:Rd H a u):bF P w H h a u:=e.ok ok
theorem sJ(ok:iO P w H h)(e:Rd H a (.dK kvs)):kvs.length<=sizeLine/\(a==sysModules)=false/\∃vs,KV kvs vs/\h.DictOf (ck P w) a vs :=
 show bF P w H h a (.dK kvs) from Li ok e
theorem Lj(ok:iO P w H h)(e:H a=some (.dK kvs)):kvs.length<=sizeLine/\(a==sysModules)=false/\∃vs,KV kvs vs/\h.DictOf (ck P w) a vs:=sJ ok (.inl e)
theorem qg(ok:iO P w H h)(e:H a=some (.tup (ks.map kV))):(tupleKind (ck P w)).is h ks a:=by
 obtain⟨_,its,r,o,h1,h2,n,h3⟩:=(show bF P w H h a (.tup (ks.map kV)) from ok a _ e);exact⟨o,its.toArray,n,h1,h2,h3,by simpa using sI r⟩
theorem v5(ok:iO P w H h)(e:Rd H a (.dT kvs)):kvs.length<=sizeLine/\(a==sysModules)=false /\
  ∃xs,KT H kvs xs/\h.DictOfH (tupleKind (ck P w)) a xs:=by
 obtain⟨z,y,xs,r,o,es,ep,h1,h2,h3,h4,h5⟩:=(show bF P w H h a (.dT kvs) from Li ok e);refine⟨z,y,xs,r,o,es,ep,h1,h2,h3,h4,λx hx=>?_,h5⟩;have all:∀{l:List (List Key×V)} {m:List (List Key×Addr×Value)},KT H l m->∀x∈m,(tupleKind (ck P w)).is h x.1 x.2.1:=by
  intro l m q
  induction q with
  |nil=>intro x hx;exact nomatch hx
  |@cons p q ps qs hq t ih=>
   intro x hx
   rcases aau.mp hx with e|hx
   ·subst e;exact qg ok (by rw[<-hq.1];exact hq.2.1)
   ·exact ih x hx
 exact all r x hx
theorem Rb(ok:iO P w H h)(e:H a=some (.dT kvs)):kvs.length<=sizeLine/\(a==sysModules)=false /\
  ∃xs,KT H kvs xs/\h.DictOfH (tupleKind (ck P w)) a xs:=v5 ok (.inl e)
end
def qh(H:Hp)(a:Addr)(y:V)(r:Option V):Prop :=
 (∃kvs k,Rd H a (.dK kvs)/\y=kV k/\r=jl kvs k)\/∃kvs k b,Rd H a (.dT kvs)/\y=.ref b/\H b=some (.tup (k.map kV))/\r=jl kvs k
def Ii(H:Hp)(a:Addr)(y v:V)(H':Hp):Prop :=
 (∃kvs k,H a=some (.dK kvs)/\y=kV k/\kvs.length<sizeLine/\H'=upd H a (.dK (putK kvs k v))) \/
 ∃kvs k b,H a=some (.dT kvs)/\y=.ref b/\H b=some (.tup (k.map kV))/\kvs.length<sizeLine/\H'=upd H a (.dT (putK kvs k v))
theorem qh.k{H:Hp}{a:Addr}{kvs:List (Key×V)}{k:Key}(e:H a=some (.dK kvs)):qh H a (kV k) (jl kvs k):=.inl ⟨kvs,k,.inl e,rfl,rfl⟩
theorem Ii.k{H:Hp}{a:Addr}{kvs:List (Key×V)}{k:Key}{v:V}(e:H a=some (.dK kvs))(hl:kvs.length<sizeLine):Ii H a (kV k) v (upd H a (.dK (putK kvs k v))):=.inl ⟨kvs,k,e,rfl,hl,rfl⟩
section
variable {X:Cx} {pins:List (Addr×Obj)} {σ:St} {H:Hp} {s:Shared} {a:Addr} {y v:V} {u r:Value} {o:Option V} {A:Around} {E:Value->Shared->Prop}
theorem Inv.big(I:Inv X pins σ H s):sysModules<s.heap.objs.size:=by
 have h:mainGlobals<s.heap.objs.size:=(I.mod.glob.keeps I.bk).lt;exact lt_trans (by decide) h
theorem BP(hu:A.units+1<cLine)(I:Inv X pins σ H s)(g:qh H a y (some v))(ry:RelV y u)(h:∀w' s',Inv X pins σ H s'->RelV v w'->Q w' s') :
  wpAny (model X.prog X.w) A (getItem (.ref a) u) Q E s:=by
 rcases g with ⟨kvs,k,e,ey,l⟩|⟨kvs,k,b,e,ey,eb,l⟩
 ·subst ey;obtain⟨z,hd,vs,rel,dd⟩:=sJ I.hok e;obtain⟨w',hw,rw'⟩:=pC.some_of (v:=v) (o:=valueAt vs k) (by rw[l];exact rel.val k);exact wpAny_getItem_of (sH ry) dd.mapOf hw (h w' _ (I.tok _) rw')
 ·subst ey;cases (show u=Value.ref b from ry);obtain⟨z,hd,xs,rel,dd⟩:=v5 I.hok e;obtain⟨w',hw,rw'⟩:=pC.some_of (v:=v) (o:=(atKey xs k).map (·.2)) (by rw[l];exact rel.val k);obtain⟨p,hp,hp2⟩:=aaD.mp hw;refine wpAny_getItem_heap (tupleKind_room_in1 hu) (qg I.hok eb) dd hp ?_;rw[hp2];exact h w' _ (I.tok _) rw'
theorem Vt(hu:A.units+1<cLine)(I:Inv X pins σ H s)(g:qh H a y o)(ry:RelV y u)(h:∀s',Inv X pins σ H s'->Q (.bool o.isSome) s') :
  wpAny (model X.prog X.w) A (compareOp .In u (.ref a)) Q E s:=by
 rcases g with ⟨kvs,k,e,ey,l⟩|⟨kvs,k,b,e,ey,eb,l⟩
 ·subst ey;obtain⟨z,hd,vs,rel,dd⟩:=sJ I.hok e;refine wpAny_in_of (sH ry) hd dd.mapOf ?_;rw[<-(rel.val k).iQ,<-l];exact h _ (I.tok _)
 ·subst ey;cases (show u=Value.ref b from ry);obtain⟨z,hd,xs,rel,dd⟩:=v5 I.hok e;refine wpAny_in_heap (tupleKind_room_in1 hu) (qg I.hok eb) hd dd ?_;have q:=(rel.val k).iQ;rw[isSome_map]at q;rw[<-q,<-l];exact h _ (I.tok _)
theorem Ij(hu:A.units+1<cLine)(I:Inv X pins σ H s)(g:qh H a y o)(ry:RelV y u)(h:∀s',Inv X pins σ H s'->Q (.bool (!o.isSome)) s') :
  wpAny (model X.prog X.w) A (compareOp .NotIn u (.ref a)) Q E s:=by
 rcases g with ⟨kvs,k,e,ey,l⟩|⟨kvs,k,b,e,ey,eb,l⟩
 ·subst ey;obtain⟨z,hd,vs,rel,dd⟩:=sJ I.hok e;refine wpAny_notIn_of (sH ry) hd dd.mapOf ?_;rw[<-(rel.val k).iQ,<-l];exact h _ (I.tok _)
 ·subst ey;cases (show u=Value.ref b from ry);obtain⟨z,hd,xs,rel,dd⟩:=v5 I.hok e;refine wpAny_notIn_heap (tupleKind_room_in1 hu) (qg I.hok eb) hd dd ?_;have q:=(rel.val k).iQ;rw[isSome_map]at q;rw[<-q,<-l];exact h _ (I.tok _)
theorem uC{t':Nat}(I:Inv X pins σ H s)(mu:Qy (H a))(hs:Heap.SameBut a s.heap h')(he:∃q,h'.get? a=some q)(new:bF X.prog X.w (upd H a ob) h' a ob) :
  Inv X pins σ (upd H a ob) { s with heap:=h',toks:=t' } :=
 I.write (x:=a) (e:=a) mu (.inl rfl) (λb q hb z=>(hs.2 b hb).trans z) he new
theorem DF(z:kvs.length<=sizeLine)(hd:(a==sysModules)=false)(rel:KV kvs vs)(dd:h'.DictOf (ck P w) a vs) :
  bF P w H' h' a (.dK kvs):=⟨z,hd,vs,rel,dd⟩
theorem BQ(hu:A.units+1<cLine)(I:Inv X pins σ H s)(g:Ii H a y v H')(ry:RelV y u)(rv:RelV v r)(h:∀s',Inv X pins σ H' s'->Q () s') :
  wpAny (model X.prog X.w) A (setItem (.ref a) u r) Q E s:=by
 rcases g with ⟨kvs,k,e,ey,l,eH⟩|⟨kvs,k,b,e,ey,eb,l,eH⟩
 ·subst ey eH
  obtain⟨z,hd,vs,rel,dd⟩:=Lj I.hok e;have hz:vs.length<=sizeLine:=by rw[<-rel.length];exact z
  have hl:(putK kvs k v).length<=sizeLine:=by have:=jO kvs k v;omega
  refine wpAny_setItem_pairs (hsz:=hz) (sH ry) dd λh' BR hs=>h _ ?_;have he:∃q,h'.get? a=some q:=let ⟨q,_,_,hq,_⟩:=BR;⟨q,hq⟩
  exact uC I (by rw[e];exact True.intro) hs he (DF hl hd (rel.put k rv) BR)
 ·subst ey eH
  cases (show u=Value.ref b from ry);obtain⟨z,hd,xs,rel,dd⟩:=Rb I.hok e;have hz:xs.length<=sizeLine:=by rw[<-Paired.length rel];exact z
  have hl:(putK kvs k v).length<=sizeLine:=by have:=jO kvs k v;omega
  refine wpAny_setItem_heap (hsz:=hz) (tupleKind_room_in1 hu) (qg I.hok eb) dd λh' BR hs=>h _ ?_;obtain⟨q,es,ep,hq,h2,h3,h4,_,h5⟩:=BR;refine uC I (by rw[e];exact True.intro) hs ⟨q,hq⟩ ⟨hl,hd,_,(rel.put k eb rv).keeps λc ys ec=>?_,q,es,ep,hq,h2,h3,h4,h5⟩;rw[ao (Qx ec e (λz=>nomatch z))];exact ec
end
section
variable {X:Cx} {pins:List (Addr×Obj)} {σ:St} {H:Hp} {s:Shared} {a:Addr} {kvs:List (Key×V)} {k:Key} {u:Value} {A:Around} {E:Value->Shared->Prop}
theorem Rc(I:Inv X pins σ H s)(e:Rd H a (.dK kvs))(h:∀t s',Inv X pins σ H s'->Q (.int kvs.length t) s'):wpAny (model X.prog X.w) A (call (.builtin "len") [.ref a]) Q E s:=by
 obtain⟨z,hd,vs,rel,dd⟩:=sJ I.hok e;refine call_len_dict hd dd (by rw[<-rel.length];rw[sizeLine_eq]at z;omega) ?_;rw[<-rel.length];exact h _ _ (I.tok _)
end
theorem v7(I:Inv X pins σ H s)(g:qh H a y o):s.TypeIs (.ref a) "dict":=by
 rcases g with ⟨kvs,k,e,_,_⟩|⟨kvs,k,b,e,_,_,_⟩
 ·obtain⟨_,_,vs,_,dd⟩:=sJ I.hok e;exact dd.typeIs
 ·obtain⟨_,_,xs,_,dd⟩:=v5 I.hok e;exact dd.typeIs
theorem v8(h:Heap)(hb:sysModules<h.objs.size):bF P w H (h.push { cls:=.type "dict",data:=.dict #[] }) h.objs.size (.dK []) :=
 ⟨zero_le _,beq_eq_false_iff_ne.mpr (Ne.symm (aat hb)),[],.nil,Heap.DictOf.new h⟩
def MO:TE:=λ_ H Q=>∀p,H p=none->Q (.ref p) (upd H p (.dK []))
section
variable {X:Cx} {pos:Pos}
theorem DG:PE X (.Dict [] [] pos) MO:=λpins s σ H Q I h=>
 wpAny_Dict_empty ⟨.ref s.heap.objs.size,_,I.laid (a:=s.heap.objs.size) (o:=.dK []) (t':=s.toks) (λ_ _ q=>aad _ q) (aal _) (v8 s.heap I.big),rfl,h _ (I.hok.fresh (aal _))⟩
end
def yK:List (TE×TE)->St->Hp->(List (V×V)->Hp->Prop)->Prop
 |[],_,H,Q=>Q [] H
 |(tk,tv)::r,σ,H,Q=>tk σ H λx H1=>tv σ H1 λy H2=>yK r σ H2 λps H3=>Q ((x,y)::ps) H3
abbrev VV:List (V×V)->List (Value×Value)->Prop:=Paired λp q=>RelV p.1 q.1/\RelV p.2 q.2
def UB(X:Cx)(pos:Pos)(keys:List (Option Expr))(values:List Expr)(MP:List (TE×TE)):Prop :=
 ∀(pins:List (Addr×Obj)) (s:Shared) (σ:St) (H:Hp) (Q:List (V×V)->Hp->Prop),Inv X pins σ H s->yK MP σ H Q ->
  wpAny (model X.prog X.w) X.A (evalPairs (pairTrees keys values X.env pos)) (λvs s'=>∃ps H',Inv X pins σ H' s'/\VV ps vs/\Q ps H') X.xe s
theorem Il:UB X pos [] [] []:=λpins s σ H Q I h=>pairTrees_nil_walk ⟨[],H,I,.nil,h⟩
theorem v9(hk:PE X k tk)(hv:PE X v tv)(hr:UB X pos ks vs MP) :
  UB X pos (some k::ks) (v::vs) ((tk,tv)::MP):=λpins s σ H Q I h=>
 pairTrees_cons_walk (cL (hk pins s σ H _ I h) λu s1 ⟨x,H1,I1,rx,q1⟩=>cL (hv pins s1 σ H1 _ I1 q1) λw2 s2 ⟨y,H2,I2,ry,q2⟩=>
  cL (hr pins s2 σ H2 _ I2 q2) λws s3 ⟨ps,H3,I3,rel,q3⟩=>⟨(x,y)::ps,H3,I3,.cons ⟨rx,ry⟩ rel,q3⟩)
def jm(kvs more:List (Key×V)):List (Key×V):=more.foldl (λacc kv=>putK acc kv.1 kv.2) kvs
theorem KV.merge:∀{more:List (Key×V)} {rs:List (Key×Value)} {kvs:List (Key×V)} {vs:List (Key×Value)},KV more rs->KV kvs vs->KV (jm kvs more) (merged vs rs):=by
 intro more rs kvs vs r;unfold KV at r
 induction r generalizing kvs vs with
 |nil=>intro q;exact q
 |@cons p q ps qs h t ih=>
  intro r0;have e:KV (putK kvs p.1 p.2) (stored vs q.1 q.2):=by have:=r0.put p.1 h.2;rw[<-h.1];exact this
  exact ih e
theorem lu:∀(more kvs:List (Key×V)),(jm kvs more).length<=kvs.length+more.length
 |[],kvs=>by show kvs.length<=kvs.length+0;omega
 | p::r,kvs=>by
  have h1:=lu r (putK kvs p.1 p.2);have h2:=jO kvs p.1 p.2;show (jm (putK kvs p.1 p.2) r).length<=_;rw[aaB];omega
theorem qi:∀{kvs:List (Key×V)} {ws:List (Value×Value)},VV (kvs.map λkv=>(kV kv.1,kv.2)) ws->∃rs,Carries (ck P w) ws rs/\KV kvs rs
 |[],_,r=>by rw[map_nil]at r;cases r;exact⟨[],True.intro,.nil⟩
 | p::kvs,_,r=>by
  rw[aar]at r;cases r with
  |@cons a b as bs h t=>obtain⟨rs,c,q⟩:=qi (P:=P) (w:=w) t;obtain⟨b1,b2⟩:=b;exact⟨(p.1,b2)::rs,⟨sH h.1,rfl,c⟩,.cons ⟨rfl,h.2⟩ q⟩
def Rf(MP:List (TE×TE)):TE:=λσ H Q=>∀p,H p=none->yK MP σ (upd H p (.dK [])) λps H2=>H2 p=some (.dK [])/\∃kvs:List (Key×V),ps=kvs.map (λkv=>(kV kv.1,kv.2))/\kvs.length<=15/\Q (.ref p) (upd H2 p (.dK (jm [] kvs)))
theorem Im(h:UB X pos keys values MP)(hall:keys.all (·.isSome)=true)(hl:keys.length=values.length)(h0:keys≠[])
  (YL:keys.length<=15):PE X (.Dict keys values pos) (Rf MP):=by
 intro pins s σ H Q I q;have hn:=I.hok.fresh (aal s.heap.objs.size);have I1:=I.laid (a:=s.heap.objs.size) (o:=.dK []) (h':=s.heap.push { cls:=.type "dict",data:=.dict #[] }) (t':=s.toks) (λ_ _ q=>aad _ q) (aal _) (v8 s.heap I.big);refine wpAny_Dict_walk (knd:=ck X.prog X.w) hall hl h0 YL (cL (h pins _ σ _ _ I1 (q _ hn)) λws s2 aS=>?_);obtain⟨ps,H2,I2,rel,e,kvs,ep,lk,q2⟩:=aS;subst ep;obtain⟨rs,c,rk⟩:=qi (P:=X.prog) (w:=X.w) rel;obtain⟨z,hd,vs0,r0,dd⟩:=Lj I2.hok e;cases r0;refine⟨rs,c,dd,λh' BR hs=>⟨.ref s.heap.objs.size,_,?_,rfl,q2⟩⟩;have hz:(jm [] kvs).length<=sizeLine:=by have h1:=lu kvs [];rw[length_nil]at h1;rw[sizeLine_eq];omega
 have he:∃q,h'.get? s.heap.objs.size=some q:=let ⟨q,_,_,hq,_⟩:=BR;⟨q,hq⟩
 exact uC I2 (by rw[e];exact True.intro) hs he (DF hz hd (rk.merge .nil) BR)
end L2
namespace Xa
open PySem PySem.W PySem.Calls PyProof.Rows
theorem pD:∀(ns:List Int) (vs:List Value),WellAll P h vs (ns.map WData.int)->IntsAre vs ns:=by
 intro ns
 induction ns with
 |nil=>intro vs w;rw[map_nil]at w;cases w;exact .nil
 |cons n ns ih=>
  intro vs w;rw[aar]at w;cases w with
  |cons a b=>cases a;exact .cons _ _ (ih _ b)
theorem BS{l:OpenLaw}{n:Nat}(hn:l.most=some n){P:Params}{h:Heap}{args:List WData}{vals:List Value}
  (hpre:l.row.toRowW.claim.pre args=true) (hwl:WellAll P h vals args) :
  ∃a vs ns,vals=[Value.ref a]/\args=[WData.list (ns.map WData.int)]/\h.get? a=some { cls:=.type "list",data:=.seq vs.toArray }/\IntsAre vs ns/\ns.length<=n:=by
 have hsh:WShape.hasAll [] args [.list .int]=true:=(pre_splitW hpre).1;have hc:l.pre.holds [] { args:=args }=true:=(pre_splitW hpre).2;obtain⟨d,r,rfl,h1,h2⟩:=hasAllW_cons hsh;obtain rfl:=hasAllW_nil h2;obtain⟨xs,rfl,h3⟩:=hasW_list h1;obtain⟨ns,rfl⟩:=items_int h3;have hlen:ns.length<=n:=by
  unfold OpenLaw.pre at hc;have h4:(WTm.not (.lt (.lit (.int (n:Int))) (.len (.arg 0)))).holds [] { args:=[.list (ns.map .int)] }=true:=by have h4:=(holds_andW hc).1;rw[hn]at h4;exact h4
  have h5:=condW_of h4 (w_not (w_lt w_lit (w_len_list (w_arg rfl))));rw[aaf]at h5;refine Nat.le_of_not_lt λq=>?_;have q':(n:Int)<((ns.length:Nat):Int):=by omega
  first
   |(rw[decide_eq_true q']at h5;exact absurd h5 (by decide))
   |(simp at h5;omega)
 cases hwl with
 |cons w1 w2=>
  cases w2;cases w1 with
  |list ho hall=>exact⟨_,_,ns,rfl,rfl,ho,pD ns _ hall,hlen⟩
theorem BU(l:OpenLaw)(args:List WData):l.row.toRowW.claim.post args (.bool true) args=true :=
 postW_of (r:=l.row.toRowW) (X:=(true==true))
  (show WShape.has [] (.bool true) .bool=true by first|rfl|decide|simp[WShape.has,WShape.arms,WShape.armsAll])
  (show (WTm.eq .res (.lit (.bool true))).value [] { args:=args,res:=some (.bool true),after:=args }=some (.bool (true==true)) from w_eq_bool (w_res rfl) w_lit) rfl
theorem wc{l:OpenLaw}{n:Nat}{q:Program}{loose:List Str}{XP:(Str->Option Value)->Heap->Prop}{YP:World->Heap->Prop}{d:DefRec}
  (hn:l.most=some n) (hdf:d.params.defaults=[])
  (call:∀(w:World) (s₀ s₁:Shared) (mg mb:Str->Option Value) (fa:Addr) (o:Obj) (pm cd doc:Value) (a:Addr) (vs:List Value) (ns:List Int),
   Ground q loose [] XP w s₀ mg mb s₁.heap->YP w s₁.heap ->
   s₁.heap.get? fa=some o->o.data=.func (docDef d.name d.params d.body d.scope pm cd doc)->s₁.heap.CodeRec cd d.name->mg d.name=some (.ref fa) ->
   s₁.heap.get? a=some { cls:=.type "list",data:=.seq vs.toArray }->IntsAre vs ns->ns.length<=n->s₁.gens = #[] ->
   codeAny (model l.prog w) callerA (.call (.ref fa) ⟨[.ref a],[]⟩) (λr s'=>r=.ok (.ret (.bool true))/\OldK s₁.heap s'.heap/\s'.os=s₁.os/\AllBare s'.gens) s₁) :
  WalkO q loose XP YP l.row.toRowW d [] (λf vs=>PySem.call f vs):=by
 intro w s₀ s₁ mg mb G Y fa o pm cd doc dV kV ho hd hcd hD hmg hg args vals as hpre hlay hrd hwl hlo;obtain rfl:dV=.none:=Dflts.none hD hdf;obtain rfl:kV=.none:=Dflts.noKw hD;obtain⟨a,vs,ns,rfl,rfl,hobj,hints,hlen⟩:=BS hn hpre hwl;refine enter_call (codeAny_mono (call w s₀ s₁ mg mb fa o pm cd doc a vs ns G Y ho (fd_plain hd) hcd hmg hobj hints hlen hg) λr s' hq=>?_);obtain⟨rfl,h2,h3,h4⟩:=hq;exact⟨.inl ⟨.bool true,.bool true,[],rfl,λ_=>rfl,.bool true,BU l _,λ_=>⟨List.Pairwise.nil,λ_ hm=>(nomatch hm)⟩⟩,h2,h3,h4⟩
end Xa
namespace L2
open PySem PySem.Spec PyProof.Rows
theorem kG:∀{vs:List Value} {ns:List Int},IntsAre vs ns->Vals (ns.map V.int) vs
 |_,_,.nil=>.nil
 |_,_,.cons n t h=>.cons ⟨t,rfl⟩ (kG h)
def DH(H:Hp):Prop:=∀b,H b=none\/∃o xs,H b=some (.pK o (.lst xs))
theorem DI{P:Program}{w:World}{K:Frag}{mg mb:Str->Option Value}{CX:yF}{k:Nat}{fa a:Addr}{fd:FuncData}{x:Str}{sp:Sp}{s₁:Shared}{vs:List Value}{ns:List Int}
  (KX:K.In s₁.heap) (hns:s₁.heap.Ns mainGlobals mg) (hb:s₁.heap.Ns builtinsNs mb) (UC:∀x:Str,x ≠ "__name__" -> mb x=bootBuiltins x) (hlim:s₁.heap.NoLimit) (hg:s₁.gens = #[])
  (ha:s₁.heap.get? a=some { cls:=.type "list",data:=.seq vs.toArray }) (hi:IntsAre vs ns) (hl:ns.length<=sizeLine) (hr:eN k callerA)
  (F:∀base:Heap,K.In base->base.Ns mainGlobals mg->fK P w K mg base CX k fa fd [x] sp) (hbind:∀(s:Shared) (u:Value),BindsTo s fd ⟨[u],[]⟩ [(x,u)])
  (hsp:∀H:Hp,DH H->gD K H a (ns.map V.int)->sp [.ref a] H (λv _=>v=.bl true) λ_ _ _=>False)
  (hCX:∀H e s',CX [] H s₁ (λ_ _ _=>False) e s'->False) :
  codeAny (model P w) callerA (.call (.ref fa) ⟨[.ref a],[]⟩) (λr s'=>r=.ok (.ret (.bool true))/\OldK s₁.heap s'.heap/\s'.os=s₁.os/\AllBare s'.gens) s₁:=by
 have rv:=kG hi;have Vu:=hi.length;have core:∀H:Hp,DH H->gD K H a (ns.map V.int)->iO P w H s₁.heap->(∀b,H b≠none->b=a)->(H a≠none->K.lookup a=none) ->
   codeAny (model P w) callerA (.call (.ref fa) ⟨[.ref a],[]⟩) (λr s'=>r=.ok (.ret (.bool true))/\OldK s₁.heap s'.heap/\s'.os=s₁.os/\AllBare s'.gens) s₁:=by
  intro H hO hS hok hA hK;have base_of:∀{b:Addr} {o:Obj},s₁.heap.get? b=some o->H b=none->(ug s₁.heap H).get? b=some o:=λe n=>Dd e n;have noA:∀{b:Addr} {o:Obj} {es:Array DictEntry} {ep:Nat},s₁.heap.get? b=some o->o.data=.dict es ep->H b=none:=λ{b o es ep} e d=>by
   cases q:H b with
   |none=>rfl
   |some u=>have e':b=a:=hA b (by rw[q];simp);subst e';rw[ha]at e;cases e;have d':Data.seq vs.toArray _=Data.dict es ep:=d;cases d'
  have nsK:∀{b:Addr} {m:Str->Option Value},s₁.heap.Ns b m->(ug s₁.heap H).Ns b m:=λ{b m} ⟨o,es,ep,e,d,r⟩=>⟨o,es,ep,base_of e (noA e d),d,r⟩;have Xb:K.In (ug s₁.heap H):=λb o e=>base_of (KX b o e) (by
   cases q:H b with
   |none=>rfl
   |some u=>have e':b=a:=hA b (by rw[q];simp);subst e';rw[hK (by rw[q];simp)]at e;cases e)
  have hM:Mod K mg (ug s₁.heap H):=⟨Xb,nsK hns,⟨mb,nsK hb,UC⟩,let ⟨mc,h1,h2⟩:=hlim;⟨mc,nsK h1,h2⟩⟩;have e0:yG P w K mg (ug s₁.heap H) callerA [] s₁ H:=⟨rfl,hM,λb o e=>HE e,Nat.le_of_eq (BA _ _),trivial,λb hb=>absurd (show b∈([]:List Addr) from hb) (by simp),hok,.of_eq hg⟩;refine codeAny_mono ((F _ Xb (nsK hns)).run callerA [] s₁ H ⟨[.ref a],[]⟩ [.ref a] [.ref a] _ _ hr e0 (hbind s₁ (.ref a)) #[rfl] (hsp H hO hS)) λr s' h=>?_;cases r with
  |error e=>exact(hCX H e s' h).elim
  |ok fl=>
   cases fl with
   |next=>exact False.elim h
   |brk=>exact False.elim h
   |cont=>exact False.elim h
   |ret u=>
    obtain⟨v,H',os,bare,un,Vv,r',q⟩:=h;have q':v=.bl true:=q;subst q';obtain rfl:u=Value.bool true:=r';refine⟨rfl,OldK.of_keep λb o e=>?_,os,bare⟩;cases q:H b with
    |none=>exact un.keep b o e q (by intro z;exact absurd (show b∈([]:List Addr) from z) (by simp)) (by simp)
    |some u=>
     rcases hO b with z|⟨ob,xs,z⟩
     ·rw[q]at z;cases z
     ·have z2:=un.frzs b ob _ z;obtain⟨e1,_⟩:=hok b _ z;obtain⟨e2,_⟩:=Vv b _ z2;rw[e]at e1;cases e1;exact e2
 cases hk:K.lookup a with
 |some o=>have e:=KX a o hk;rw[ha]at e;cases e;refine core (λ_=>none) (λ_=>.inl rfl) (.inr ⟨_,vs.toArray,_,hk,rfl,rfl,rfl,by rw[aas,Vu];exact hl,by simpa using rv⟩) (λb u z=>by have z':(none:Option HO)=some u:=z;cases z') (λb z=>absurd rfl z) λz=>absurd rfl z
 |none=>
  refine core (λb=>if b=a then some (.pK { cls:=.type "list",data:=.seq vs.toArray } (.lst (ns.map V.int))) else none) (λb=>?_) (.inl (.inr ⟨{ cls:=.type "list",data:=.seq vs.toArray },aan rfl⟩)) (λb u z=>?_) (λb z=>?_) λ_=>hk
  ·by_cases hb:b=a
   ·exact .inr ⟨_,_,aan hb⟩
   ·exact .inl (aaj hb)
  ·by_cases hb:b=a
   ·have z':=(aan hb).symm.trans z;cases z';subst hb;exact⟨ha,by rw[aaf];exact hl,vs,_,rv,ha⟩
   ·have z':=(aaj hb).symm.trans z;cases z'
  ·by_cases hb:b=a
   ·exact hb
   ·exact absurd (aaj hb) z
theorem Io{l:PySem.W.OpenLaw}{n k:Nat}{q:Program}{loose:List Str}{XP:(Str->Option Value)->Heap->Prop}{YP:World->Heap->Prop}{d:DefRec}{K:Params->Frag}{CX:World->yF}{sp:World->Sp}{x:Str}
  (hn:l.most=some n) (hn2:n<=sizeLine) (hdf:d.params.defaults=[]) (hr:eN k callerA)
  (hY:∀(w:World) (h:Heap),YP w h->(K w.params).In h)
  (F:∀(w:World) (mg:Str->Option Value) (fa:Addr) (h:Heap),(K w.params).In h->h.Ns mainGlobals mg->mg d.name=some (.ref fa) ->
   ∃fd:FuncData,(∀(s:Shared) (u:Value),BindsTo s fd ⟨[u],[]⟩ [(x,u)]) /\
    ∀base:Heap,(K w.params).In base->base.Ns mainGlobals mg->fK l.prog w (K w.params) mg base (CX w) k fa fd [x] (sp w))
  (hsp:∀(w:World) (H:Hp) (a:Addr) (ns:List Int),ns.length<=n->DH H->gD (K w.params) H a (ns.map V.int)->sp w [.ref a] H (λv _=>v=.bl true) λ_ _ _=>False)
  (hCX:∀(w:World) (H:Hp) (s:Shared) (e:Value) (s':Shared),CX w [] H s (λ_ _ _=>False) e s'->False) :
  PySem.W.WalkO q loose XP YP l.row.toRowW d [] (λf vs=>PySem.call f vs):=by
 refine Xa.wc hn hdf λw s₀ s₁ mg mb fa o pm cd doc a vs ns G Y ho hd hcd hmg hobj hints hlen hg=>?_;have KX:=hY w _ Y;obtain⟨fd,hb,hF⟩:=F w mg fa _ KX G.T.g hmg;exact DI KX G.T.g G.T.b G.T.builtins G.T.nolimit hg hobj hints (aaK hlen hn2) hr hF hb (λH hO hS=>hsp w H a ns hlen hO hS) λH e s'=>hCX w H s₁ e s'
def mJ(s:Stmt):Arguments:=match s with
 |.FunctionDef _ a _ _ _ _ _ _ _ _=>a
 |_=>{ posonlyargs:=[],args:=[],vararg:=none,kwonlyargs:=[],kw_defaults:=[],kwarg:=none,defaults:=[] }
def az(s:Stmt):List Stmt:=match s with
 |.FunctionDef _ _ b _ _ _ _ _ _ _=>b
 |_=>[]
def ai(s:Stmt):Scope:=match s with
 |.FunctionDef _ _ _ _ _ _ sc _ _ _=>sc
 |_=>{ kind:=.function,names:=[],isGenerator:=false,isCoroutine:=false }
abbrev Hr:yF:=λ_ _ _ _ _ _=>False
abbrev E0:XK:=λ_ _ _=>False
theorem Rg:Passes Hr X E0:=λ_ _ _ _ _ _ _ h=>h.elim
structure Ht (K:Frag) (x qual:Str) (st:Stmt) (f:Addr) (fd:FuncData):Prop where
 ex:∃(oc:Value) (od:Option Addr) (kV doc pm:Value) (an:Option Addr) (cdv ct:Value) (osl:Array (Option Value)),
  fd=fnOf x qual (mJ st) (az st) (ai st) .none kV doc pm an cdv ct/\K.lookup f=some ⟨oc,od,.func fd,osl⟩/\codeIn K cdv qual=true
 kp:keepIn K (.ref f)=true
section
variable {P:Program} {w:World} {K:Frag} {mg:Str->Option Value} {base:Heap}
theorem Ht.ok{x qual:Str}{st:Stmt}{f:Addr}{fd:FuncData}{N ps:List Str}{k:Nat}{sp:Sp}(F:Ht K x qual st f fd)(S:mF N ps (ai st))(len:∀vs H Q E,sp vs H Q E->vs.length=ps.length)
  (hbody:∀(cdv:Value) (A:Around) (outer:List Env) (s:Shared) (H:Hp) (vs:List V) (Q:VK) (E:XK),eN k (A.deeper (envOfC qual (ai st) s.heap.objs.size f cdv))->sp vs H Q E ->
   ∃t,nM (dM Hr P w K mg base N qual (ai st) f cdv A outer s H E).HK (az st) t/\t { nx:=λ_ H'=>Q .non H',rt:=Q } (start N vs) H):fK P w K mg base Hr (k+1) f fd ps sp:=by
 obtain⟨oc,od,kV,doc,pm,an,cdv,ct,osl,rfl,lk,hcd⟩:=F.ex;refine Dz lk hcd S len λA outer s H vs Q E hr hsp=>?_;obtain⟨t,h,q⟩:=hbody cdv A outer s H vs Q E hr hsp;exact⟨t,h.HK,q⟩
theorem Ht.binds{x qual:Str}{st:Stmt}{f:Addr}{fd:FuncData}{ps:List Str}(F:Ht K x qual st f fd)
  (h:∀(kV doc pm:Value) (an:Option Addr) (cdv ct:Value) (us:List Value),us.length=ps.length->bindArgs (fnOf x qual (mJ st) (az st) (ai st) .none kV doc pm an cdv ct) ⟨us,[]⟩=pure (ps.zip us)):Binds K fd ps []:=by
 obtain⟨oc,od,kV,doc,pm,an,cdv,ct,osl,rfl,lk,hcd⟩:=F.ex;exact .all (h kV doc pm an cdv ct)
theorem fun_mk{x qual:Str}{st:Stmt}{f:Addr}{oc:Value}{od an:Option Addr}{osl:Array (Option Value)}{kV doc pm cdv ct:Value}(l:K.lookup f=some ⟨oc,od,.func (fnOf x qual (mJ st) (az st) (ai st) .none kV doc pm an cdv ct),osl⟩)
  (c:codeIn K cdv qual=true) (k:keepIn K (.ref f)=true):Ht K x qual st f (fnOf x qual (mJ st) (az st) (ai st) .none kV doc pm an cdv ct):=⟨⟨oc,od,kV,doc,pm,an,cdv,ct,osl,rfl,l,c⟩,k⟩
end
section
variable {X:Cx}
theorem pv(i:Nat)(hN:X.N[i]?=some x)(hv:QA X.env.scope x)(hd:(x==("__debug__":Str))=false)
  (hcd:(x==("__classdict__":Str))=false):PE X (.Name x pos) (Mc i):=nN hN hv hd hcd
theorem BV:bV X (.builtin "len") (λxs H Q=>∃a kvs,xs=[V.ref a]/\H a=some (.dK kvs)/\Q (.int kvs.length) H):=by
 intro pins s σ H xs us Q I r h;obtain⟨a,kvs,rfl,ha,q⟩:=h;obtain⟨u,rfl,ru⟩:=vals1 r;cases ru;exact Rc I (.inl ha) λt s' I'=>⟨.int kvs.length,H,I',⟨t,rfl⟩,q⟩
end
def yL(H H':Hp):Prop:=∀b o,H b=some o->H' b=some o
theorem yL.seq{K:Frag}{H H':Hp}{a:Addr}{xs:List V}(e:yL H H')(h:gD K H a xs):gD K H' a xs:=by
 rcases h with (h|⟨o,h⟩)|h
 ·exact .inl (.inl (e _ _ h))
 ·exact .inl (.inr ⟨o,e _ _ h⟩)
 ·exact .inr h
theorem lI(env:Env):∀(names:List (Str×NameKind)) (acc:List (Str×Addr)),(∀y∈names,y.2=.free->∃c,env.cells.lookup y.1=some c) ->
  (∀x c,acc.lookup x=some c->env.cells.lookup x=some c) ->
  ∃cl,(forIn names acc λx r=>if (x.snd==NameKind.free)=true then do let c <-cellOf env x.fst;pure (ForInStep.yield ((x.fst,c)::r)) else pure (ForInStep.yield r))=(pure cl:Sem (List (Str×Addr))) /\
   (∀x c,cl.lookup x=some c->env.cells.lookup x=some c)/\∀x,((x,NameKind.free)∈names\/∃c,acc.lookup x=some c)->∃c,cl.lookup x=some c
 |[],acc,_,ha=>⟨acc,rfl,ha,λx h=>h.elim (λz=>nomatch z) λz=>z⟩
 | (n,k)::r,acc,hn,ha=>by
  have hr:∀y∈r,y.2=NameKind.free->∃c,env.cells.lookup y.1=some c:=λy hy=>hn y (aae _ hy)
  by_cases hk:k=.free
  ·subst hk
   obtain⟨c,hc⟩:=hn (n,.free) aah rfl;have ha':∀x d,((n,c)::acc).lookup x=some d->env.cells.lookup x=some d:=λx d h=>by
    rw[lookup_cons]at h;cases e:x==n with
    |true=>rw[e]at h;have e':x=n:=eq_of_beq e;cases h;rw[e'];exact hc
    |false=>rw[e]at h;exact ha x d h
   obtain⟨cl,e1,e2,e3⟩:=lI env r ((n,c)::acc) hr ha';refine⟨cl,?_,e2,λx h=>?_⟩
   ·rw[forIn_cons]
    have hco:cellOf env n=pure c:=by unfold cellOf;rw[hc]
    simp only[beq_self_eq_true,if_true,hco];exact e1
   ·by_cases hx:x=n
    ·subst hx;exact e3 x (.inr ⟨c,by simp[lookup_cons]⟩)
    ·rcases h with h|⟨d,h⟩
     ·rcases aau.mp h with z|z
      ·exact absurd (congrArg Prod.fst z) hx
      ·exact e3 x (.inl z)
     ·refine e3 x (.inr ⟨d,?_⟩);rw[lookup_cons];have:(x==n)=false:=beq_eq_false_iff_ne.mpr hx;rw[this];exact h
  ·have hb:(k==NameKind.free)=false:=beq_eq_false_iff_ne.mpr hk
   obtain⟨cl,e1,e2,e3⟩:=lI env r acc hr ha;refine⟨cl,?_,e2,λx h=>e3 x ?_⟩
   ·rw[forIn_cons];simp only[hb,false_eq_true,if_false];exact e1
   ·rcases h with h|h
    ·rcases aau.mp h with z|z
     ·cases z;exact absurd rfl hk
     ·exact .inl z
    ·exact .inr h
theorem qj(h:∀y∈scope.names,y.2=.free->∃c,env.cells.lookup y.1=some c) :
  ∃cl,closureFor scope env=pure cl/\(∀x c,cl.lookup x=some c->env.cells.lookup x=some c)/\∀x,(x,NameKind.free)∈scope.names->∃c,cl.lookup x=some c:=by
 obtain⟨cl,e1,e2,e3⟩:=lI env scope.names [] h (λx c z=>by simp at z);refine⟨cl,?_,e2,λx hx=>e3 x (.inl hx)⟩;unfold closureFor;simp only[bind_pure];exact e1
def aT(X:Cx)(scope:Scope)(N':List Str)(cl:List (Str×Addr))(C:Addr)(s:Shared)(H:Hp)(fp:List Addr):Cx :=
 { prog:=X.prog,w:=X.w,K:=X.K,mg:=X.mg,base:=X.base,A:=X.A,N:=N',s₀:=s,H₀:=H,env:=compEnvC scope cl C X.env,outer:=X.stack,stack:=X.stack,ex:=fp,fn:=λ_=>false,calm:=X.calm,pn:=[],xe:=λ_ _=>False }
def jn(js:List (Option Nat))(σ:St):St:=js.map λo=>match o with
 |none=>none
 | some j=>match σ[j]? with
  |some (some v)=>some v
  |_=>none
def uD(sc:Scope)(x:Str):Bool:=sc.names.lookup x==some .cell||sc.names.lookup x==some .free
def ic(XN:List Str)(xsc scope:Scope)(N':List Str)(js:List (Option Nat)):Bool :=
 scope.kind==.function&&(scope.names.all λy=>y.2 != .local||scope.names.lookup y.1==some .local)&&(scope.names.all λy=>y.2 != .cell) &&
 (scope.names.all λy=>y.2 != .free||(uD xsc y.1&&scope.names.lookup y.1==some .free))&&js.length==N'.length &&
 ((N'.zip js).all λp=>match p.2 with|none=>true|some j=>XN[j]?==some p.1&&scope.names.lookup p.1==some .free)
structure uE (X:Cx) (scope:Scope) (N':List Str) (js:List (Option Nat)):Prop where
 kind:scope.kind=.function
 names:∀y∈scope.names,y.2=.local->scope.names.lookup y.1=some .local
 DJ:∀y∈scope.names,y.2≠.cell
 free:∀y∈scope.names,y.2=.free->uD X.env.scope y.1=true/\scope.names.lookup y.1=some .free
 len:js.length=N'.length
 src:∀(i:Nat) (x:Str) (j:Nat),N'[i]?=some x->js[i]?=some (some j)->X.N[j]?=some x/\scope.names.lookup x=some .free
theorem sL(h:ic X.N X.env.scope scope N' js=true):uE X scope N' js:=by
 unfold ic at h;simp only[and_eq_true,List.all_eq_true]at h;obtain⟨⟨⟨⟨⟨h1,h2⟩,h3⟩,h4⟩,h5⟩,h6⟩:=h;refine⟨eq_of_beq h1,λy hy e=>?_,λy hy e=>?_,λy hy e=>?_,eq_of_beq h5,λi x j e1 e2=>?_⟩
 ·have:=h2 y hy;rw[e]at this;simpa using this
 ·have:=h3 y hy;rw[e]at this;simp at this
 ·have:=h4 y hy;rw[e]at this;simpa using this
 ·have hm:(x,some j)∈N'.zip js:=by
   refine List.mem_iff_getElem?.mpr ⟨i,?_⟩;rw[List.getElem?_zip_eq_some];exact⟨e1,e2⟩
  have:=h6 _ hm;simpa using this
theorem ly(js:List (Option Nat))(σ:St):(jn js σ).length=js.length:=by unfold jn;rw[aaf]
def DK(X:Cx)(ifs:List Expr)(t:TT):Prop :=
 ∀(pins:List (Addr×Obj)) (s:Shared) (σ:St) (H:Hp) (Q:Bool->Hp->Prop),Inv X pins σ H s->t σ H Q ->
  wpAny (model X.prog X.w) X.A (forIn ifs true λc r=>if r=true then do let ok <-isTrue c X.env (eval c X.env);pure (ForInStep.yield ok) else pure (ForInStep.yield r)) (TP X pins σ Q) X.xe s
def we:TT:=λ_ H Q=>Q true H
theorem Ip:DK X [] we:=λ_ _ _ H _ I h=>wpAny_tests_nil ⟨H,I,h⟩
theorem Iq(h:PT X c t):DK X [c] t:=λpins s σ H Q I hw=>wpAny_tests_one (h pins s σ H Q I hw)
def wg(wi:TI)(js:List (Option Nat))(g:TG)(tt:TT)(te:TE):TE:=λσ H Q=>wi σ H λJ H1=>∀D,H1 D=none->∃W:Nat->Nat->St->Hp->Prop,(∃m,W 0 m (jn js σ) (upd H1 D (.lst []))) /\
 ∀i m σ' H,W i m σ' H->(J.stop i H/\Q (.ref D) H)\/(J.go i H/\∃N:St->Hp->Prop,(∀C8 H',N C8 H'->∃m',m'<m/\W (i+1) m' C8 H') /\
  ∀x H',J.yr i H x H'->g x σ' H' λσ2 H2=>tt σ2 H2 λb H3=>if b=true then te σ2 H3 λy H4=>∃ys,H4 D=some (.lst ys)/\ys.length<sizeLine/\N σ2 (upd H4 D (.lst (ys++[y]))) else N σ2 H3)
theorem rR(hc:∀y∈scope.names,y.2≠.cell)
  (h:(relabel scope env).names.lookup x=some .cell\/(relabel scope env).names.lookup x=some .free):(x,NameKind.free)∈scope.names:=by
 unfold relabel at h;simp only at h;generalize scope.names=ns at hc h
 induction ns with
 |nil=>simp at h
 |cons p r ih=>
  obtain⟨n,k⟩:=p;have hc':∀y∈r,y.2≠.cell:=λy hy=>hc y (aae _ hy);simp only[map_cons]at h;cases hx:x==n with
  |true=>
   have e':x=n:=eq_of_beq hx;subst e'
   by_cases hk:k=.free
   ·subst hk;exact aah
   ·have hk2:=hc (x,k) aah
    have hb:(k==NameKind.free)=false:=beq_eq_false_iff_ne.mpr hk;rw[hb]at h;simp only[Bool.false_and,false_eq_true,if_false,lookup_cons,beq_self_eq_true]at h
    rcases h with h|h
    ·exact absurd (aaH h) hk2
    ·exact absurd (aaH h) hk
  |false=>
   refine aae _ (ih hc' ?_)
   by_cases hk:(k==NameKind.free&&env.scope.kind==.function&&env.kindOf n==some .cell)=true
   ·rw[aan hk]at h;simp only[lookup_cons,hx]at h;exact h
   ·rw[aaj hk]at h;simp only[lookup_cons,hx]at h;exact h
theorem uF(h:scope.names.lookup x=some .free) :
  (relabel scope env).names.lookup x=some .cell\/(relabel scope env).names.lookup x=some .free:=by
 unfold relabel;simp only;generalize scope.names=ns at h
 induction ns with
 |nil=>simp at h
 |cons p r ih=>
  obtain⟨n,k⟩:=p;simp only[map_cons];cases hx:x==n with
  |true=>
   simp only[lookup_cons,hx]at h;have hk:=aaH h;subst hk
   by_cases hk:(NameKind.free==NameKind.free&&env.scope.kind==.function&&env.kindOf n==some .cell)=true
   ·rw[aan hk];simp[lookup_cons,hx]
   ·rw[aaj hk];simp[lookup_cons,hx]
  |false=>
   simp only[lookup_cons,hx]at h
   by_cases hk:(k==NameKind.free&&env.scope.kind==.function&&env.kindOf n==some .cell)=true
   ·rw[aan hk];simp only[lookup_cons,hx];exact ih h
   ·rw[aaj hk];simp only[lookup_cons,hx];exact ih h
section
variable {X:Cx} {pins:List (Addr×Obj)} {σ:St} {scope:Scope} {N':List Str} {js:List (Option Nat)}
theorem qk(ok:uE X scope N' js)(xo:X.Ok):∀y∈scope.names,y.2=.free->∃c,X.env.cells.lookup y.1=some c:=λy hy e=>by
 have:=(ok.free y hy e).1;unfold uD at this;rw[or_eq_true]at this;refine xo.has y.1 ?_
 rcases this with z|z
 ·exact .inl (eq_of_beq z)
 ·exact .inr (eq_of_beq z)
theorem yM{tk:Nat}(ok:uE X scope N' js)(I:Inv X pins σ H s)
  (hcl1:∀x c,cl.lookup x=some c->X.env.cells.lookup x=some c) (hcl2:∀x,(x,NameKind.free)∈scope.names->∃c,cl.lookup x=some c)
  (hfp:∀b∈fp,kU X pins H b) (hlt:∀b∈fp,b<s.heap.objs.size)
  (hns:h'.Ns s.heap.objs.size (λ_=>none)) (hk:∀b o,s.heap.get? b=some o->h'.get? b=some o) :
  Inv (aT X scope N' cl s.heap.objs.size s H fp) [] (jn js σ) H { s with heap:=h',toks:=tk }:=by
 have cellK:∀x c,cl.lookup x=some c->∃v,s.heap.IsCell c v:=λx c e=>I.cell x c (hcl1 x c e);have hCf:H s.heap.objs.size=none:=I.hok.fresh (aal _);refine⟨⟨I.ok.mod,ok.kind,I.ok.glob,I.ok.blt,aal _,λx y c e1 e2=>I.ok.inj x y c (hcl1 x c e1) (hcl1 y c e2),λx hx=>hcl2 x (rR ok.DJ hx),λx c hf _=>absurd hf (by intro z;cases z),I.ok.hd,I.ok.frames,.inl rfl,
   λb hb=>⟨aat (hlt b hb),λx c e z=>?_⟩,I.bs,aaK I.ok.HG I.sz,λb o e hb=>?_,λb hb hs=>?_,I.stack,I.gZ⟩,rfl,I.bare,Un.kept hk,⟨_,hns,λi x v e1 e2 e3=>?_⟩,λx c e=>?_,hCf,λx c e=>I.gH x c (hcl1 x c e),
   λp hp=>absurd (show p∈([]:List (Addr×Obj)) from hp) (by simp),I.hok.kept hk,?_⟩
 ·exact(hfp b hb).2.2.2.2.1 x c (hcl1 x c e) z
 ·rcases(hfp b hb).2.2.2.1 with z|z
  ·exact I.ok.BB b o e z
  ·exact absurd (aao (aam (I.ok.bs b o e).1) z) (aaR _)
 ·rcases aau.mp (I.yu b hs) with z|z
  ·exact(hfp b hb).2.1 z
  ·exact(hfp b hb).2.2.1 z
 ·-- a name YM has a value: one of the def around
  have vL:(jn js σ)[i]?=some (some v):=e2;unfold jn at vL;rw[aaF]at vL;cases hj:js[i]? with
  |none=>rw[hj]at vL;cases vL
  |some o=>
   rw[hj]at vL;cases o with
   |none=>simp at vL
   |some j=>
    obtain⟨hN,hf⟩:=ok.src i x j e1 hj;cases hs:σ[j]? with
    |none=>simp[hs]at vL
    |some ov=>
     cases ov with
     |none=>simp[hs]at vL
     |some v'=>
      simp[hs]at vL;subst vL;have hfr:=(ok.free (x,.free) (PySem.mem_of_lookup hf) rfl).1;unfold uD at hfr;rw[or_eq_true]at hfr;have Rh:X.env.scope.names.lookup x=some .cell\/X.env.scope.names.lookup x=some .free:=hfr.imp eq_of_beq eq_of_beq;obtain⟨m,_,hl⟩:=I.loc;obtain⟨u,r,l⟩:=hl j x v' hN hs (.inr Rh);refine⟨u,r,.inr ⟨uF hf,?_⟩⟩
      rcases l with ⟨k,_⟩|⟨_,c,e,z⟩
      ·have k':X.env.scope.names.lookup x=some .local:=k
       rcases Rh with q|q<;>(rw[q]at k';cases k')
      ·obtain⟨d,hd⟩:=hcl2 x (PySem.mem_of_lookup hf);have e':=hcl1 x d hd;rw[e]at e';cases e';obtain⟨oc,hoc,De⟩:=z;exact⟨c,hd,oc,hk _ _ hoc,De⟩
 ·obtain⟨v,oc,hoc,De⟩:=cellK x c e;exact⟨v,oc,hk _ _ hoc,De⟩
 ·rw[ly];exact ok.len
theorem sM(I:Inv X pins σ H s)(hfp:∀b∈fp,kU X pins H b)
  (J:Inv (aT X scope N' cl C s H fp) [] σ' H' s'):Inv X pins σ H' s' :=
 I.Ld (ch:=fp) J.os J.base J.hok J.bare λb hb=>⟨(hfp b hb).2.2.2.1,(hfp b hb).2.1,(hfp b hb).2.2.2.2.1,(hfp b hb).2.2.2.2.2⟩
end
section
variable {X:Cx} {scope:Scope} {N':List Str} {js:List (Option Nat)} {tg elt iter:Expr} {ifs:List Expr} {pos:Pos} {wi:TI} {g:TG} {tt:TT} {te:TE}
theorem wj{pins:List (Addr×Obj)}{σ:St}{H2:Hp}{s2:Shared}{it:Addr}{fp:List Addr}{tn:Nat->Heap->Prop}{J:It}{cl:List (Str×Addr)}{E:Value->Shared->Prop}{RR:Value->Addr->Result->Shared->Prop}{Q:VK}{ce:Addr->Shared->Hp->Value->Shared->Prop}
  (ok:uE X scope N' js) (hc:X.calm=true) (I2:Inv X pins σ H2 s2) (T:Turn X.prog X.w X.K tg J fp it tn) (st2:tn 0 s2.heap) (f2:∀b∈fp,kU X pins H2 b)
  (hcl1:∀x c,cl.lookup x=some c->X.env.cells.lookup x=some c) (hcl2:∀x,(x,NameKind.free)∈scope.names->∃c,cl.lookup x=some c)
  (hg:∀C s H,PG ((aT X scope N' cl C s H fp).gg (ce C s H)) tg g) (ht:∀C s H,DK ((aT X scope N' cl C s H fp).gg (ce C s H)) ifs tt) (he:∀C s H,PE ((aT X scope N' cl C s H fp).gg (ce C s H)) elt te)
  (rd:∀D,H2 D=none->∃W:Nat->Nat->St->Hp->Prop,(∃m,W 0 m (jn js σ) (upd H2 D (.lst []))) /\
   ∀i m σ' H,W i m σ' H->(J.stop i H/\Q (.ref D) H)\/(J.go i H/\∃N:St->Hp->Prop,(∀C8 H',N C8 H'->∃m',m'<m/\W (i+1) m' C8 H') /\
    ∀x H',J.yr i H x H'->g x σ' H' λσ2 H2=>tt σ2 H2 λb H3=>if b=true then te σ2 H3 λy H4=>∃ys,H4 D=some (.lst ys)/\ys.length<sizeLine/\N σ2 (upd H4 D (.lst (ys++[y]))) else N σ2 H3))
  (hRR:∀(D C:Addr) (s':Shared) (H':Hp) (m:Str->Option Value),s2.heap.objs.size<=C->Inv X pins σ H' s'->H' C=none->s'.heap.Ns C m->Q (.ref D) H'->RR (.ref D) C (.ok .next) s')
  (hRE:∀(D:Addr) (s:Shared) (H:Hp) (e:Value) (s':Shared),Inv X pins σ H s->(∀b∈fp,kU X pins H b)->ce s.heap.objs.size s H e s'->notedBy (model X.prog X.w) X.A X.env (λe s''=>RR (.ref D) s.heap.objs.size (.error e) s'') e s') :
  wpAny (model X.prog X.w) X.A (newList []) (λacc s₃=>wpAny (model X.prog X.w) X.A (newFunctionEnv scope X.env.globals cl [] X.env.qual none .none (some X.env)) (λcenv s₄=>
   codeAny (model X.prog X.w) X.A (.compStart (.ListComp elt [⟨tg,iter,ifs,0⟩] scope pos) 0 (.ref it) acc { cenv with scope:=relabel scope X.env }) (RR acc cenv.locals) s₄) E s₃) E s2:=by
 have hD:H2 s2.heap.objs.size=none:=I2.hok.fresh (aal _);refine aaN (wpAny_newFunctionEnv ok.DJ (by intro y hy;simp at hy) (λh₁ Ri Rj=>?_) ok.kind);dsimp only at Ri Rj |-;have I3:Inv X pins σ (upd H2 s2.heap.objs.size (.lst [])) { s2 with heap:=s2.heap.push { cls:=.type "list",dict:=none,data:=.seq ([]:List Value).toArray },toks:=s2.toks } :=
  I2.laid (t':=s2.toks) (λb u e=>aad _ e) (aal _) ⟨by simp,[],0,.nil,aaq _ rfl⟩
 generalize Rk:({ s2 with heap:=s2.heap.push { cls:=.type "list",dict:=none,data:=.seq ([]:List Value).toArray },toks:=s2.toks }:Shared)=s3 at I3;have hsz:s3.heap.objs.size=s2.heap.objs.size+1:=by rw[<-Rk];exact Heap.size_push ..
 have eC:(s2.heap.push { cls:=.type "list",dict:=none,data:=.seq ([]:List Value).toArray }).objs.size=s3.heap.objs.size:=by rw[<-Rk]
 have f3:∀b∈fp,kU X pins (upd H2 s2.heap.objs.size (.lst [])) b:=λb hb=>by
  obtain⟨o,e,_⟩:=T.obj _ _ st2 b hb;refine⟨?_,(f2 b hb).2⟩;rw[ao (aat (aam e))];exact(f2 b hb).1
 have hlt:∀b∈fp,b<s3.heap.objs.size:=λb hb=>by
  obtain⟨o,e,_⟩:=T.obj _ _ st2 b hb;have hb2:b<s2.heap.objs.size:=aam e;rw[hsz];exact lt_succ_of_lt hb2
 have keep:∀b o,s3.heap.get? b=some o->h₁.get? b=some o:=λb o e=>by
  have e':(s2.heap.push { cls:=.type "list",dict:=none,data:=.seq ([]:List Value).toArray }).get? b=some o:=by rw[<-Rk]at e;exact e
  exact Rj.extBut b o (aat (aam e')) (aad _ e')
 have I4:=yM (tk:=s2.toks+([]:List (Str×Value)).length) ok I3 hcl1 hcl2 f3 hlt (h':=h₁) (by rw[<-eC];simpa using Ri) keep;have Xc:tn 0 h₁:=T.keep _ _ _ st2 λb hb o e=>keep b o (by rw[<-Rk];exact aad _ e);obtain⟨W,⟨m0,w0⟩,turn⟩:=rd _ hD;have stat:∀{H':Hp},(∀b∈fp,H' b=none)->∀b∈fp,kU (aT X scope N' cl s3.heap.objs.size s3 (upd H2 s2.heap.objs.size (.lst [])) fp) [] H' b:=λ{H'} hn b hb=>
  ⟨hn b hb,aat (hlt b hb),I4.ok.BC b hb,.inl hb,(I4.ok.Ut b hb).2,λp hp=>absurd (show p∈([]:List (Addr×Obj)) from hp) (by simp)⟩
 have YN:∀tk,({ s2 with heap:=h₁,toks:=tk }:Shared)={ s3 with heap:=h₁,toks:=tk }:=λtk=>by rw[<-Rk]
 have loop:codeAny (model X.prog X.w) X.A (.compLoop (.ListComp elt [⟨tg,iter,ifs,0⟩] scope pos) 0 (.ref it) (.ref s2.heap.objs.size) (compEnvC scope cl s3.heap.objs.size X.env)) (RR (.ref s2.heap.objs.size) s3.heap.objs.size)
   { s3 with heap:=h₁,toks:=s2.toks+([]:List (Str×Value)).length }:=by
  refine codeAny_loop rfl (λn s'=>∃i σ' H',Inv (aT X scope N' cl s3.heap.objs.size s3 (upd H2 s2.heap.objs.size (.lst [])) fp) [] σ' H' s'/\tn i s'.heap/\(∀b∈fp,H' b=none)/\W i n σ' H') ?_ m0 ⟨0,_,_,I4,Xc,λb hb=>(f3 b hb).1,w0⟩;rintro n s5 ⟨i,σ5,H5,I5,Qi,Ux,w5⟩;show wpAny _ X.A ((compTurn (.ListComp elt [⟨tg,iter,ifs,0⟩] scope pos) 0 (.ref it) (.ref s2.heap.objs.size) (compEnvC scope cl s3.heap.objs.size X.env)).onRaise (λx=>do noteFrame x (compEnvC scope cl s3.heap.objs.size X.env);theTreesLotGoes x)) _ _ s5;refine wpAny_noted ?_;have hno:∀(e:Value) (s':Shared),ce s3.heap.objs.size s3 (upd H2 s2.heap.objs.size (.lst [])) e s'->notedBy (model X.prog X.w) X.A (compEnvC scope cl s3.heap.objs.size X.env) (λe s''=>RR (.ref s2.heap.objs.size) s3.heap.objs.size (.error e) s'') e s':=λe s' z=>hRE _ s3 _ e s' I3 f3 z;rw[compTurn_list];refine aaa (wpAny_standAt (aaa ?_))
  rcases turn i n σ5 H5 w5 with ⟨stop,qn⟩|⟨go,N,hN,step⟩
  ·refine aaL (T.done (aT X scope N' cl s3.heap.objs.size s3 (upd H2 s2.heap.objs.size (.lst [])) fp) rfl rfl rfl hc i [] s5 σ5 H5 (λ_ _=>False) I5 (stat Ux) Qi stop) (λr s6 ⟨hr,I6⟩=>?_) λ_ _ z=>z.elim;subst hr;refine aag ?_;obtain⟨m,hm,_⟩:=id I6.loc;exact hRR _ _ s6 H5 m (by rw[hsz];exact le_succ _) (sM I3 f3 I6) I6.free hm qn
  ·refine aaL (T.item (aT X scope N' cl s3.heap.objs.size s3 (upd H2 s2.heap.objs.size (.lst [])) fp) rfl rfl rfl hc i [] s5 σ5 H5 (λ_ _=>False) I5 (stat Ux) Qi go) (λr s6 ⟨u,hr,h6⟩=>?_) λ_ _ z=>z.elim
   subst hr;refine aaa (aaL h6 (λ_ s7 ⟨x,H7,I7,r7,y7,Vw,YO⟩=>?_) λ_ _ z=>z.elim);have YQ:=I7.pinned (stat YO) (T.obj _ _ Vw);refine aaa (aaL (hg _ _ _ _ s7 σ5 H7 x u _ (YQ.gg _) r7 (step x H7 y7)) (λ_ s8 ⟨σ8,H8,I8,q8⟩=>?_) hno);refine aaa (aaL (ht _ _ _ _ s8 σ8 H8 _ I8 q8) (λb s9 ⟨H9,I9,q9⟩=>?_) hno);have DL:∀{sA:Shared} {σA:St} {HA:Hp},Inv (aT X scope N' cl s3.heap.objs.size s3 (upd H2 s2.heap.objs.size (.lst [])) fp) ([]++p8 fp s7.heap) σA HA sA->N σA HA ->
     ∃m,m<n/\∃i σ' H',Inv (aT X scope N' cl s3.heap.objs.size s3 (upd H2 s2.heap.objs.size (.lst [])) fp) [] σ' H' sA/\tn i sA.heap/\(∀b∈fp,H' b=none)/\W i m σ' H':=λ{sA σA HA} IA nA=>by
    obtain⟨m',hm,wA⟩:=hN σA HA nA;refine⟨m',hm,i+1,σA,HA,IA.mC,T.keep _ _ _ Vw λb hb o e=>(IA.pin (b,o) (aaJ _ (aaJ _ (ji hb e)))).1,λb hb=>?_,wA⟩;obtain⟨o,e,d⟩:=T.obj _ _ Vw b hb;exact(IA.pin (b,o) (aaJ _ (aaJ _ (ji hb e)))).2.1
   cases b with
   |false=>exact aag ⟨rfl,DL I9.fJ (by simpa using q9)⟩
   |true=>rw[aan rfl]at q9;refine aaa (aaa (aaL (he _ _ _ _ s9 σ8 H9 _ I9 q9) (λv sB ⟨y,HB,IB,rB,ys,hys,hlen,nB⟩=>?_) hno));refine aaa (aaL (sG (X:=aT X scope N' cl s3.heap.objs.size s3 (upd H2 s2.heap.objs.size (.lst [])) fp) _ sB σ8 HB (.ref s2.heap.objs.size) [y] _ [v] (λ_ HC=>HC=upd HB s2.heap.objs.size (.lst (ys++[y]))) IB.fJ rfl #[rB] ⟨_,ys,y,rfl,rfl,hys,hlen,rfl⟩) (λv' sC ⟨_,HC,IC,_,YR⟩=>?_) λ_ _ z=>z.elim);subst YR;exact aag (aag ⟨rfl,DL IC nB⟩)
 rw[YN];have Vx:({ newEnv scope (s2.heap.push { cls:=.type "list",dict:=none,data:=.seq ([]:List Value).toArray }).objs.size X.env.globals cl X.env.qual none Value.none (some X.env) builtinsNs with scope:=relabel scope X.env }:Env)=compEnvC scope cl s3.heap.objs.size X.env:=by rw[eC];rfl
 have Vy:(newEnv scope (s2.heap.push { cls:=.type "list",dict:=none,data:=.seq ([]:List Value).toArray }).objs.size X.env.globals cl X.env.qual none Value.none (some X.env) builtinsNs).locals=s3.heap.objs.size:=by rw[eC];rfl
 rw[Vx,Vy];exact codeAny_compStart_list loop (T.self _ _ _ _ _ Xc loop)
theorem Ir(hok:ic X.N X.env.scope scope N' js=true)(hc:X.calm=true)(hi:PI X tg iter wi)(hg:∀cl C s H fp,PG (aT X scope N' cl C s H fp) tg g)
  (ht:∀cl C s H fp,DK (aT X scope N' cl C s H fp) ifs tt) (he:∀cl C s H fp,PE (aT X scope N' cl C s H fp) elt te)
  (hs:∀x,foldedSetIterable iter X.env x=pure x):PE X (.ListComp elt [⟨tg,iter,ifs,0⟩] scope pos) (wg wi js g tt te):=by
 intro pins s σ H Q I h;have ok:=sL hok;obtain⟨cl,Vz,hcl1,hcl2⟩:=qj (qk ok I.ok);rw[eval_ListComp];refine wpAny_comprehension_free (use:=none) rfl hs Vz ok.kind ok.names (cL (hi pins s σ H _ I h) λxv s1 h1=>cL h1 λitv s2 h2=>?_);obtain⟨it,fp,tn,J,H2,rfl,I2,T,st2,f2,rd⟩:=h2;refine wj (RR:=λacc C=>compPost (model X.prog X.w) X.A X.xe none (EP X pins σ Q) acc C) ok hc I2 T st2 f2 hcl1 hcl2 (ce:=λ_ _ _ _ _=>False) (λC s H=>hg cl C s H fp) (λC s H=>ht cl C s H fp) (λC s H=>he cl C s H fp) rd ?_ (λ_ _ _ _ _ _ _ z=>z.elim);intro D C s' H' m hC J' fC hm q;refine⟨m,hm,λh' hs'=>⟨.ref D,H',?_,rfl,q⟩⟩;refine J'.turned (t':=s'.toks) (λb o hb e=>hs'.extBut b o hb e) fC (ne_of_gt (aao I2.lt hC)) (.inr (aaK I2.sz hC)) (λx c e z=>?_) λp hp z=>?_
 ·obtain⟨v,q'⟩:=I2.cell x c e;exact absurd (aao q'.lt (by rw[z];exact hC)) (aaR _)
 ·exact absurd (aao (aam (I2.pin p hp).1) (by rw[z];exact hC)) (aaR _)
def uG(M:Model)(A:Around)(E:Value->Shared->Prop)(C:Addr)(e:Value)(s':Shared):Prop :=
 ∃m,s'.heap.Ns C m/\∀h',Heap.SameBut C s'.heap h'->∀cenv:Env,cenv.locals=C->wpAny M A (passOn "comprehension.variables-let-go" e cenv:Sem Value) (λ_ _=>False) E { s' with heap:=h' }
theorem wm{i:Nat}{x:Str}{pos' spos:Pos}{ce:List (Str×Addr)->List Addr->Addr->Shared->Hp->Value->Shared->Prop}(hN:X.N.Nodup)(hx:X.N[i]?=some x)(hl:Loc X.env.scope x)(hok:ic X.N X.env.scope scope N' js=true)(hc:X.calm=true)(hi:PI X tg iter wi)(hg:∀cl C s H fp,PG ((aT X scope N' cl C s H fp).gg (ce cl fp C s H)) tg g)
  (ht:∀cl C s H fp,DK ((aT X scope N' cl C s H fp).gg (ce cl fp C s H)) ifs tt) (he:∀cl C s H fp,PE ((aT X scope N' cl C s H fp).gg (ce cl fp C s H)) elt te)
  (hE:∀pins σ cl fp s H e s',Inv X pins σ H s->(∀b∈fp,kU X pins H b)->ce cl fp s.heap.objs.size s H e s'->notedBy (model X.prog X.w) X.A X.env (λe s''=>uG (model X.prog X.w) X.A X.xe s.heap.objs.size e s'') e s')
  (hsw:swapsWith (.ListComp elt [⟨tg,iter,ifs,0⟩] scope pos) (some (.Name x pos')) spos.line X.env=pure true)
  (hf:X.fn x=true\/X.env.scope.names.lookup x=some .local)
  (hs:∀x,foldedSetIterable iter X.env x=pure x):PS X (.Assign [.Name x pos'] (.ListComp elt [⟨tg,iter,ifs,0⟩] scope pos) spos) (Dk (wg wi js g tt te) (oN i)):=by
 intro pins s σ H D I h;have ok:=sL hok;obtain⟨cl,Vz,hcl1,hcl2⟩:=qj (qk ok I.ok);rw[exec_Assign_Name_used _ _ _ _ hsw];refine aaa (wpAny_standAt (aaa ?_));show wpAny _ X.A (do let _ <-comprehension (.ListComp elt [⟨tg,iter,ifs,0⟩] scope pos) scope X.env _ (newList []) false (eval iter X.env) (some (assign (.Name x pos') X.env))) _ _ s;refine aaa (aaL (wpAny_comprehension_free (use:=some (assign (.Name x pos') X.env)) (Q:=λ_ s'=>SP X pins D .next s') rfl hs Vz ok.kind ok.names
  (cL (hi pins s σ H _ I h) λxv s1 h1=>cL h1 λitv s2 h2=>?_)) (λ_ s' hq=>aag (aag hq)) λ_ _ e=>e)
 obtain⟨it,fp,tn,J,H2,rfl,I2,T,st2,f2,rd⟩:=h2;refine wj (RR:=λacc C=>compPost (model X.prog X.w) X.A X.xe (some (assign (.Name x pos') X.env)) (λ_ s'=>SP X pins D .next s') acc C) (Q:=λx H1=>oN i x σ H1 D.nx) ok hc I2 T st2 f2 hcl1 hcl2 (ce:=ce cl fp) (λC s H=>hg cl C s H fp) (λC s H=>ht cl C s H fp) (λC s H=>he cl C s H fp) rd ?_ (λ_ s H e s' I f z=>hE pins σ cl fp s H e s' I f z);intro E C s' H' m hC J' fC hm q;have Xd:C≠X.env.locals:=ne_of_gt (aao I2.lt hC);have hCc:∀x c,X.env.cells.lookup x=some c->c≠C:=λx c e z=>by
  obtain⟨v,q'⟩:=I2.cell x c e;exact absurd (aao q'.lt (by rw[z];exact hC)) (aaR _)
 refine cL (show wpAny _ X.A (assign (.Name x pos') X.env (.ref E)) (λ_ s''=>(∃C8 MQ,Inv X pins C8 MQ s''/\D.nx C8 MQ/\MQ C=none)/\∃m,s''.heap.Ns C m) X.xe s' from ?_) λ_ s'' ⟨⟨C8,MQ,VA,YS,VC⟩,YT,MR⟩=>?_
 ·refine wpAny_assign_Name (se J' hN hx hl (show RelV (.ref E) (.ref E) from rfl) (λs'' VA ⟨a,VD,ha⟩=>⟨⟨_,H',VA,q,fC⟩,m,?_⟩) hf)
  refine hm.sameBut VD ?_
  rcases ha with z|z
  ·rw[z];exact Xd
  ·exact λw=>hCc _ _ z w.symm
 ·refine⟨YT,MR,λh' hs'=>⟨C8,MQ,?_,YS⟩⟩;refine VA.turned (t':=s''.toks) (λb o hb e=>hs'.extBut b o hb e) VC Xd (.inr (aaK I2.sz hC)) hCc λp hp z=>?_;exact absurd (aao (aam (I2.pin p hp).1) (by rw[z];exact hC)) (aaR _)
theorem Iu{i:Nat}(hN:X.N.Nodup)(hx:X.N[i]?=some x)(hl:Loc X.env.scope x)(hok:ic X.N X.env.scope scope N' js=true)(hc:X.calm=true)(hi:PI X tg iter wi)(hg:∀cl C s H fp,PG (aT X scope N' cl C s H fp) tg g)
  (ht:∀cl C s H fp,DK (aT X scope N' cl C s H fp) ifs tt) (he:∀cl C s H fp,PE (aT X scope N' cl C s H fp) elt te)
  (hsw:swapsWith (.ListComp elt [⟨tg,iter,ifs,0⟩] scope pos) (some (.Name x pos')) spos.line X.env=pure true)
  (hf:X.fn x=true\/X.env.scope.names.lookup x=some .local)
  (hs:∀x,foldedSetIterable iter X.env x=pure x):PS X (.Assign [.Name x pos'] (.ListComp elt [⟨tg,iter,ifs,0⟩] scope pos) spos) (Dk (wg wi js g tt te) (oN i)) :=
 wm (ce:=λ_ _ _ _ _ _ _=>False) hN hx hl hok hc hi hg ht he (λ_ _ _ _ _ _ _ _ _ _ z=>z.elim) hsw hf hs
end
theorem Inv.Ab{X:Cx}{pins:List (Addr×Obj)}{σ:St}{H:Hp}{s:Shared}{h':Heap}{t':Nat}{ch:List Addr}(I:Inv X pins σ H s)(hf:∀b∈ch,kU X pins H b)
  (k:∀b o,b∉ch->s.heap.get? b=some o->h'.get? b=some o):Inv X pins σ H { s with heap:=h',toks:=t' }:=by
 have QC:∀b u,H b=some u->b∉ch:=λb u e z=>by rw[(hf b z).1]at e;cases e
 refine I.step (g':=s.gens) (d':=s.drawn) (ch:=ch) (λb hb=>?_) (λb o _ _ hc e _=>k b o hc e) (λb o _ _ hc e _=>⟨o.slots,k b o hc e⟩) (λ_ _ _ _ n=>n)
  (λb o hc e=>⟨o,k b o hc e⟩) (λ_ _ e=>e) (λ_ _ _ e=>e) (λb ps e=>⟨#[],by rw[e];simp⟩) (λm hm=>?_) (λb u e=>?_) I.bare
 ·exact⟨(hf b hb).2.2.2.1,(hf b hb).2.1,(hf b hb).2.2.2.2.1,(hf b hb).2.2.2.2.2⟩
 ·obtain⟨o,es,ep,ho,r⟩:=hm;exact⟨o,es,ep,k _ o (λz=>(hf _ z).2.1 rfl) ho,r⟩
 ·refine(I.hok b u e).stay (λc v hc q=>k c v ?_ q) (λ_ q=>q) λ_ _ q=>q
  rcases hc with z|z
  ·rw[z];exact QC b u e
  ·exact QC c _ z
def Rm(K:Frag)(a:Addr):It :=
 ⟨λi H=>∃xs x,gD K H a xs/\xs[i]?=some x,λi H x H'=>∃p v,H p=none/\x=.ref p/\H'=upd H p (.tup [.int i,v])/\∀xs,gD K H a xs->xs[i]?=some v,λi H=>∃xs,gD K H a xs/\xs.length<=i⟩
theorem BW{P:Program}{w:World}{K:Frag}{es:List Expr}{k:Nat}{pos:Pos}(a e it:Addr)(hne:e≠it) :
  Turn P w K (.Tuple es k pos) (Rm K a) [e,it] e (λi h=>(∃old,IsEnum h e it i old)/\h.IsListIter it a i) where
 mem:=by simp
 obj:=λi h st b hb=>by
  obtain⟨⟨old,he⟩,⟨o,e2,c,d⟩⟩:=st
  rcases aau.mp hb with z|z
  ·subst z;exact⟨_,he,λv z=>nomatch z⟩
  ·rw[aay.mp z];exact⟨o,e2,λv z=>by rw[d]at z;cases z⟩
 keep:=λi h h' st k=>⟨let ⟨old,he⟩:=st.1;⟨old,k e (by simp) _ he⟩,st.2.at λo e=>k it (by simp) o e⟩
 item:=by
  intro X hP hw hK hc i pins s σ H E I hf st hg;subst hP hw hK;obtain⟨xs,x,hq,hx⟩:=hg;obtain⟨its,rv,p,hz⟩:=I.list hq;obtain⟨u,hu,ru⟩:=rv.get hx;obtain⟨⟨old,he⟩,hit⟩:=st;have hei:e<s.heap.objs.size:=aam he;have YU:it<s.heap.objs.size:=by obtain⟨_,y,_⟩:=hit;exact aam y
  refine wpAny_pyNext_enum_item he hit p.isList (x:=u) (by simpa using hu) hne λh' ho VE hT hsz hk=>?_;refine⟨_,rfl,?_⟩;refine wpAny_letOwnedTupleGo_enum ho λh2 YV hs2=>?_;have hT2:h2.get? s.heap.objs.size=some { cls:=.type "tuple",data:=.seq [.int i s.toks,u].toArray }:=hs2.extBut _ _ (ne_of_gt hei) hT;have I1:Inv X pins σ H { s with heap:=h2,toks:=s.toks+1 }:=I.Ab (ch:=[e,it]) hf λb o hb q=>by
   have h1:b≠e:=λz=>hb (by simp[z]);have h2:b≠it:=λz=>hb (by simp[z]);exact hs2.extBut b o h1 (hk b o h1 h2 q)
  have hn:H s.heap.objs.size=none:=I.hok.fresh (aal _);have I2:Inv X pins σ (upd H s.heap.objs.size (.tup [.int i,x])) { s with heap:=h2,toks:=s.toks+1 }:=by
   have un:Un X.fs [] H (upd H s.heap.objs.size (.tup [.int i,x])) s.heap s.heap:=Un.laid (λb u q=>q) (aal _) hn;refine⟨I1.ok,I1.os,I1.bare,?_,I1.loc,I1.cell,?_,λy c q=>?_,λp hp=>?_,λb o q=>?_,I1.len⟩
   ·refine⟨I1.base.keep,I1.base.slot,λb o q n hx=>?_,I1.base.there,λb ys q=>?_,λb o ys q=>?_,λb ps q=>?_⟩
    ·have hlt:b<s.heap.objs.size:=aao (aam q) I.sz;rw[ao (aat hlt)];exact I1.base.free b o q n hx
    ·rw[ao (aE (I1.base.tups b ys q) hn)];exact I1.base.tups b ys q
    ·rw[ao (aE (I1.base.frzs b o ys q) hn)];exact I1.base.frzs b o ys q
    ·obtain⟨more,z⟩:=I1.base.mw b ps q;exact⟨more,by rw[ao (aE z hn)];exact z⟩
   ·rw[ao (aat I.lt)];exact I1.free
   ·obtain⟨v,z⟩:=I.cell y c q;rw[ao (aat z.lt)];exact I1.gH y c q
   ·obtain⟨q1,q2,q3⟩:=I1.pin p hp;refine⟨q1,?_,q3⟩;rw[ao (aat (aam (I.pin p hp).1))];exact q2
   ·by_cases hb:b=s.heap.objs.size
    ·subst hb;rw[aD]at q;cases q;exact⟨by show 2<=sizeLine;decide,[.int i s.toks,u],.cons ⟨_,rfl⟩ #[ru],_,hT2,rfl,_,rfl⟩
    ·rw[ao hb]at q;exact(I1.hok b o q).stay (λc v _ z=>z) (λc z=>by rw[ao (aE z hn)];exact z) λc ys z=>by rw[ao (aE z hn)];exact z
  refine⟨.ref s.heap.objs.size,_,I2,rfl,⟨s.heap.objs.size,x,hn,rfl,rfl,λys hy=>by rw[I.vS hy hq];exact hx⟩,⟨⟨_,by simpa using YV⟩,?_⟩,λb hb=>?_⟩
  ·exact VE.at λo y=>(hs2.2 it hne.symm).trans y
  ·have hlt:b<s.heap.objs.size:=by
    rcases aau.mp hb with z|z
    ·rw[z];exact hei
    ·rw[aay.mp z];exact YU
   rw[ao (aat hlt)];exact(hf b hb).1
 done:=by intro X hP hw hK hc i pins s σ H E I hf st hg;subst hP hw hK;obtain⟨xs,hq,hx⟩:=hg;obtain⟨its,rv,p,hz⟩:=I.list hq;obtain⟨⟨old,he⟩,hit⟩:=st;have hl:=rv.length;exact wpAny_pyNext_enum_end (I.ok.hd hc) he hit p.isList (by simp;omega) λh' eb=>⟨rfl,I.Ab (t':=s.toks) (ch:=[e,it]) hf λb o hb q=>eb b o (λz=>hb (by simp[z])) q⟩
 self:=λ_ _ _ _ _ st h=>let ⟨_,he⟩:=st.1;wpAny_pyIter_enum he h
def Rn(K:Frag)(ta:TA):TI:=λσ H R=>ta σ H λvs H1=>∃a,vs=[.ref a]/\(∃xs,gD K H1 a xs)/\R (Rm K a) H1
theorem Iv{k:Nat}(hg:Gl X "enumerate")(hm:X.mg "enumerate" = none)(ha:PA X [a] ta)(hs:starEach [a] X.env=[(false,eval a X.env)]) :
  PI X (.Tuple es k tpos) (.Call (.Name "enumerate" p) [a] [] pos) (Rn X.K ta):=by
 intro pins s σ H R I h;refine Call_ (jK I hg hm boot_enumerate (PyProof.Rows.callWith_type1 (cL (ha pos pins s σ H _ I h) λus s1 aS=>?_) hs rfl));obtain⟨vs,H1,I1,r1,q1⟩:=aS;obtain⟨l,e,⟨xs,hq⟩,q⟩:=q1;subst e;cases r1 with
 |cons r rr=>
  cases rr;cases r;obtain⟨its,rv,pl,hz⟩:=I1.list hq;refine call_enumerate_list pl.isList λh' he hit hsz hk=>?_;have I2:Inv X pins σ H1 { s1 with heap:=h' }:=I1.kept (t':=s1.toks) hk;refine wpAny_pyIter_enum (s:={ s1 with heap:=h' }) he ?_;refine⟨_,[s1.heap.objs.size+1,s1.heap.objs.size],_,_,H1,rfl,I2,BW l _ _ (ne_of_gt (lt_succ_self _)),⟨⟨_,by simpa using he⟩,hit⟩,λb hb=>?_,q⟩;have hb':s1.heap.objs.size<=b:=by
   rcases aau.mp hb with z|z
   ·rw[z];exact le_succ _
   ·rw[aay.mp z];exact aal _
  exact I1.Dm hb' (I1.hok.fresh hb')
end L2
end
section
namespace L2
open PySem PySem.W PyProof.Rows
namespace rN
section
variable {O:KeyOrd} {key:Nat->O.α} {N:Nat} {cmp:Nat->Nat->(Bool->Shared->Prop)->Shared->Prop} {s:Shared}
def K(O:KeyOrd)(key:Nat->O.α)(p:Array Nat)(i:Nat):O.α:=key (p.getD i 0)
def Up(O:KeyOrd)(key:Nat->O.α)(p:Array Nat)(k:Nat):Prop:=∀i j,i<=j->j<k->O.kle (K O key p i) (K O key p j)
def Down(O:KeyOrd)(key:Nat->O.α)(p:Array Nat)(k:Nat):Prop:=∀i j,i<=j->j<k->O.kle (K O key p j) (K O key p i)
def Iw(O:KeyOrd)(key:Nat->O.α)(N:Nat)(cmp:Nat->Nat->(Bool->Shared->Prop)->Shared->Prop)(s:Shared):Prop :=
 ∀i j (C:Bool->Shared->Prop),i<N->j<N->C (O.blt (key i) (key j)) s->cmp i j C s
def Ent(N:Nat)(p:Array Nat):Prop:=p.size=N/\0<N/\∀x∈p.toList,x<N
theorem Ent.at{p:Array Nat}(h:Ent N p)(i:Nat):p.getD i 0<N:=by
 by_cases hi:i<p.size
 ·have e:p.getD i 0=p[i]:=by simp[Array.getD,hi]
  rw[e];exact h.2.2 _ (by simp)
 ·have e:p.getD i 0=0:=by simp[Array.getD,hi]
  rw[e];exact h.2.1
theorem Ent.perm{p q:Array Nat}(h:Ent N p)(e:q.Perm p):Ent N q :=
 ⟨e.size_eq.trans h.1,h.2.1,λx hx=>h.2.2 x ((Array.perm_iff_toList_perm.mp e).mem_iff.mp hx)⟩
theorem K_congr{p q:Array Nat}{i j:Nat}(h:p[i]?=q[j]?):K O key p i=K O key q j:=by
 unfold K;rw[Array.getD_eq_getD_getElem?,Array.getD_eq_getD_getElem?,h]
theorem K_bubble{p:Array Nat}{src d:Nat}(hs:src<p.size)(hd:d<=src)(k:Nat) :
  K O key (bubble p src d) k=if k=src-d then K O key p src else if src-d<k/\k<=src then K O key p (k-1) else K O key p k:=by
 have e:=getElem?_bubble hs d hd k
 by_cases h1:k=src-d
 ·rw[aan h1]at e |-;exact K_congr e
 ·rw[aaj h1]at e |-
  by_cases h2:src-d<k/\k<=src
  ·rw[aan h2]at e |-;exact K_congr e
  ·rw[aaj h2]at e |-;exact K_congr e
theorem DM{p:Array Nat}{i j:Nat}(hj:j<=p.size)(k:Nat):K O key (kas_rev p i j) k=if i<=k/\k<j then K O key p (i+j-1-k) else K O key p k:=by
 have e:=getElem?_mirror_all (i:=i) hj k
 by_cases h1:i<=k/\k<j
 ·rw[aan h1]at e |-;exact K_congr e
 ·rw[aaj h1]at e |-;exact K_congr e
theorem ql{p:Array Nat}{i j:Nat}(hj:j<=p.size)(h:∀k,i<=k->k<j->K O key p k=K O key p (j-1))(k:Nat):K O key (kas_rev p i j) k=K O key p k:=by
 rw[DM hj]
 split
 ·rw[h _ (by omega) (by omega),h k (by omega) (by omega)]
 ·rfl
theorem wo{p:Array Nat}{m:Nat}(h:∀t,1<=t->t<m->O.kle (K O key p (t-1)) (K O key p t)):Up O key p m:=by
 intro i j hij hj
 induction j with
 |zero=>
  have:i=0:=by omega
  subst this;exact KeyOrd.kle_refl _
 |succ j ih=>
  by_cases e:i=j+1
  ·subst e;exact KeyOrd.kle_refl _
  ·exact KeyOrd.kle_trans (ih (by omega) (by omega)) (h (j+1) (by omega) hj)
theorem MS(hA:Iw O key N cmp s){p:Array Nat}(he:Ent N p):∀(f n:Nat) {Q:Nat->Shared->Prop},1<=n ->
  (∀m,n<=m->m<=n+f->(∀t,n<=t->t<m->O.kle (K O key p (t-1)) (K O key p t))->(m<n+f->O.klt (K O key p m) (K O key p (m-1)))->Q m s)->(kas_asc p f n).kasWp cmp Q s
 |0,n,Q,hn,h=>h n (aal _) (aal _) (λt h1 h2=>by omega) λq=>by omega
 | f+1,n,Q,hn,h=>by
  show cmp _ _ _ s;refine hA _ _ _ (he.at _) (he.at _) ?_;cases hb:O.blt (key (p.getD n 0)) (key (p.getD (n-1) 0)) with
  |true=>exact h n (aal _) (by omega) (λt h1 h2=>by omega) λ_=>hb
  |false=>
   show (kas_asc p f (n+1)).kasWp cmp Q s;refine MS hA he f (n+1) (by omega) λm h1 h2 h3 h4=>h m (by omega) (by omega) (λt t1 t2=>?_) λq=>h4 (by omega)
   by_cases e:t=n
   ·subst e;exact hb
   ·exact h3 t (by omega) t2
theorem Ac(hA:Iw O key N cmp s):∀(f:Nat) (p:Array Nat) (n q:Nat) {Q:Array Nat×Nat×Nat->Shared->Prop},Ent N p->1<=n->n+f<=N->q+1<=n->Down O key p n->(∀i,n-(q+1)<=i->i<n->K O key p i=K O key p (n-1)) ->
  (∀p' n' q',p'.Perm p->Ent N p'->1<=n'->n<=n'->n'<=n+f->q'+1<=n'->Down O key p' n'->(∀i,n'-(q'+1)<=i->i<n'->K O key p' i=K O key p' (n'-1))->Q (p',n',q') s)->(kas_desc f p n q).kasWp cmp Q s
 |0,p,n,q,Q,he,hn,hN,hq,hd,hl,h=>h p n q (Array.Perm.refl _) he hn (aal _) (aal _) hq hd hl
 | f+1,p,n,q,Q,he,hn,hN,hq,hd,hl,h=>by
  show cmp _ _ _ s;refine hA _ _ _ (he.at _) (he.at _) ?_;cases hb:O.blt (key (p.getD n 0)) (key (p.getD (n-1) 0)) with
  |true=>
   have hlt:O.klt (K O key p n) (K O key p (n-1)):=hb;have hd1:Down O key p (n+1):=λi j hij hj=>by
    by_cases e:j=n
    ·subst e
     by_cases e2:i=j
     ·subst e2;exact KeyOrd.kle_refl _
     ·exact KeyOrd.kle_trans (KeyOrd.kle_of_klt hlt) (hd i (j-1) (by omega) (by omega))
    ·exact hd i j hij (by omega)
   show (if q>0 then kas_desc f (kas_rev p (n-(q+1)) n) (n+1) 0 else kas_desc f p (n+1) 0).kasWp cmp Q s
   by_cases Xe:q>0
   ·rw[aan Xe]
    have ep:(kas_rev p (n-(q+1)) n).Perm p:=mirror_perm _ _ _ _;have eK:∀k,K O key (kas_rev p (n-(q+1)) n) k=K O key p k:=λk=>ql (by rw[he.1];omega) hl k;refine Ac hA f _ (n+1) 0 (he.perm ep) (by omega) (by omega) (by omega) (λi j hij hj=>by rw[eK,eK];exact hd1 i j hij hj) (λi h1 h2=>?_) λp' n' q' g1 g2 g3 g4 g5 g6 g7 g8=>h p' n' q' (g1.trans ep) g2 g3 (by omega) (by omega) g6 g7 g8;have:i=n:=by omega
    subst this;rfl
   ·rw[aaj Xe]
    refine Ac hA f p (n+1) 0 he (by omega) (by omega) (by omega) hd1 (λi h1 h2=>?_) λp' n' q' g1 g2 g3 g4 g5 g6 g7 g8=>h p' n' q' g1 g2 g3 (by omega) (by omega) g6 g7 g8;have:i=n:=by omega
    subst this;rfl
  |false=>
   show cmp _ _ _ s;refine hA _ _ _ (he.at _) (he.at _) ?_;cases hc:O.blt (key (p.getD (n-1) 0)) (key (p.getD n 0)) with
   |true=>exact h p n q (Array.Perm.refl _) he hn (aal _) (by omega) hq hd hl
   |false=>
    have heq:K O key p n=K O key p (n-1):=O.total _ _ hb hc;show (kas_desc f p (n+1) (q+1)).kasWp cmp Q s;refine Ac hA f p (n+1) (q+1) he (by omega) (by omega) (by omega) (λi j hij hj=>?_) (λi h1 h2=>?_) λp' n' q' g1 g2 g3 g4 g5 g6 g7 g8=>h p' n' q' g1 g2 g3 (by omega) (by omega) g6 g7 g8
    ·by_cases e:j=n
     ·subst e
      by_cases e2:i=j
      ·subst e2;exact KeyOrd.kle_refl _
      ·rw[heq];exact hd i (j-1) (by omega) (by omega)
     ·exact hd i j hij (by omega)
    ·show K O key p i=K O key p (n+1-1)
     rw[Nat.add_sub_cancel]
     by_cases e:i=n
     ·subst e;rfl
     ·rw[heq];exact hl i (by omega) (by omega)
theorem DN(hA:Iw O key N cmp s){p:Array Nat}{n nrem:Nat}(he:Ent N p)(h1:1<=n)(hn:n<=nrem)(hr:nrem<=N)(hd:Down O key p n)
  (h:∀m p',p'.Perm p->Ent N p'->1<=m->m<=nrem->Up O key p' m->Q (m,p') s):(kas_tail3 n nrem p).kasWp cmp Q s:=by
 unfold kas_tail3;rw[KasT.kasWp_bind];have ep:(kas_rev p 0 n).Perm p:=mirror_perm _ _ _ _;have hz:n<=p.size:=by rw[he.1];omega
 refine MS hA (he.perm ep) _ _ h1 λm a1 a2 a3 _=>h m _ ep (he.perm ep) (by omega) (by omega) (wo λt t1 t2=>?_)
 by_cases e:t<n
 ·rw[DM hz,DM hz,aan (by omega),aan (by omega)];exact hd _ _ (by omega) (by omega)
 ·exact a3 t (by omega) t2
theorem sN(hA:Iw O key N cmp s){p:Array Nat}{n nrem:Nat}(he:Ent N p)(hn:n+1<=nrem)(hr:nrem<=N)(hd:Down O key p (n+1))
  (h:∀m p',p'.Perm p->Ent N p'->1<=m->m<=nrem->Up O key p' m->Q (m,p') s):(kas_descPart n nrem p).kasWp cmp Q s:=by
 unfold kas_descPart;rw[KasT.kasWp_bind];have Ro:∀i,n+1-(0+1)<=i->i<n+1->K O key p i=K O key p (n+1-1):=λi h1 h2=>by
  have e:i=n:=by omega
  subst e;rfl
 refine Ac hA (nrem-(n+1)) p (n+1) 0 he (by omega) (by omega) (by omega) hd Ro λp' n' q' g1 g2 g3 g4 g5 g6 g7 g8=>?_;show (if q'>0 then kas_tail3 n' nrem (kas_rev p' (n'-(q'+1)) n') else kas_tail3 n' nrem p').kasWp cmp Q s
 by_cases hq:q'>0
 ·rw[aan hq];have ep:(kas_rev p' (n'-(q'+1)) n').Perm p':=mirror_perm _ _ _ _;have eK:∀k,K O key (kas_rev p' (n'-(q'+1)) n') k=K O key p' k:=λk=>ql (by rw[g2.1];omega) g8 k;exact DN hA (g2.perm ep) g3 (by omega) hr (λi j hij hj=>by rw[eK,eK];exact g7 i j hij hj) λm p'' a1 a2 a3 a4 a5=>h m p'' ((a1.trans ep).trans g1) a2 a3 a4 a5
 ·rw[aaj hq];exact DN hA g2 g3 (by omega) hr g7 λm p'' a1 a2 a3 a4 a5=>h m p'' (a1.trans g1) a2 a3 a4 a5
theorem MT(hA:Iw O key N cmp s){p:Array Nat}{nrem:Nat}(he:Ent N p)(h1:1<=nrem)(hr:nrem<=N)
  (h:∀m p',p'.Perm p->Ent N p'->1<=m->m<=nrem->Up O key p' m->Q (m,p') s):(kas_count nrem p).kasWp cmp Q s:=by
 unfold kas_count;rw[KasT.kasWp_bind];refine MS hA he _ _ (aal _) λn a1 a2 a3 a4=>?_;have hup:Up O key p n:=wo λt t1 t2=>a3 t t1 t2
 by_cases e1:(n==nrem)=true
 ·rw[aan e1];exact h n p (Array.Perm.refl _) he a1 (by omega) hup
 ·rw[aaj e1]
  have C9:n≠nrem:=λz=>e1 (by simp[z]);have hlt:O.klt (K O key p n) (K O key p (n-1)):=a4 (by omega)
  by_cases e2:n>1
  ·rw[aan e2]
   show cmp _ _ _ s;refine hA _ _ _ (he.at _) (he.at _) ?_;cases hc:O.blt (key (p.getD 0 0)) (key (p.getD (n-1) 0)) with
   |true=>exact h n p (Array.Perm.refl _) he a1 (by omega) hup
   |false=>
    have hle:O.kle (K O key p (n-1)) (K O key p 0):=hc;have ep:(kas_rev p 0 n).Perm p:=mirror_perm _ _ _ _;have hall:∀k,0<=k->k<n->K O key p k=K O key p (n-1):=λk _ hk=>
     KeyOrd.kle_antisymm (hup k (n-1) (by omega) (by omega)) (KeyOrd.kle_trans hle (hup 0 k (by omega) hk))
    have eK:∀k,K O key (kas_rev p 0 n) k=K O key p k:=λk=>ql (by rw[he.1];omega) hall k;show (kas_descPart n nrem (kas_rev p 0 n)).kasWp cmp Q s;refine sN hA (he.perm ep) (by omega) hr (λi j hij hj=>?_) λm p' b1 b2 b3 b4 b5=>h m p' (b1.trans ep) b2 b3 b4 b5;rw[eK,eK]
    by_cases ej:j=n
    ·subst ej
     by_cases ei:i=j
     ·subst ei;exact KeyOrd.kle_refl _
     ·rw[hall i (by omega) (by omega)];exact KeyOrd.kle_of_klt hlt
    ·rw[hall i (by omega) (by omega),hall j (by omega) (by omega)];exact KeyOrd.kle_refl _
  ·rw[aaj e2]
   have en:n=1:=by omega
   subst en;refine sN hA he (by omega) hr (λi j hij hj=>?_) λm p' b1 b2 b3 b4 b5=>h m p' b1 b2 b3 b4 b5
   by_cases ei:i=j
   ·subst ei;exact KeyOrd.kle_refl _
   ·have:i=0/\j=1:=by omega
    obtain⟨rfl,rfl⟩:=this;exact KeyOrd.kle_of_klt hlt
theorem yN(hA:Iw O key N cmp s){p:Array Nat}{k:Nat}(he:Ent N p)(hs:Up O key p k):∀(f l r:Nat) {Q:Nat->Shared->Prop},l<=r->r<=k->r-l<=f ->
  (∀i,i<l->O.kle (K O key p i) (K O key p k))->(∀i,r<=i->i<k->O.klt (K O key p k) (K O key p i)) ->
  (∀l',l'<=k->(∀i,i<l'->O.kle (K O key p i) (K O key p k))->(∀i,l'<=i->i<k->O.klt (K O key p k) (K O key p i))->Q l' s)->(kas_place p k f l r).kasWp cmp Q s
 | 0,l,r,Q,hlr,hrk,hf,hlo,hhi,h=>by
  have:l=r:=by omega
  subst this;exact h l hrk hlo hhi
 | f+1,l,r,Q,hlr,hrk,hf,hlo,hhi,h=>by
  show (if l≥r then KasT.ret l else _).kasWp cmp Q s
  by_cases hge:l≥r
  ·rw[aan hge]
   have:l=r:=by omega
   subst this;exact h l hrk hlo hhi
  ·rw[aaj hge]
   show cmp _ _ _ s;refine hA _ _ _ (he.at _) (he.at _) ?_;cases hb:O.blt (key (p.getD k 0)) (key (p.getD ((l+r)/2) 0)) with
   |true=>show (kas_place p k f l ((l+r)/2)).kasWp cmp Q s;exact yN hA he hs f l ((l+r)/2) (by omega) (by omega) (by omega) hlo (λi h1 h2=>KeyOrd.klt_of_klt_of_kle hb (hs _ _ h1 h2)) h
   |false=>show (kas_place p k f ((l+r)/2+1) r).kasWp cmp Q s;exact yN hA he hs f ((l+r)/2+1) r (by omega) (by omega) (by omega) (λi h1=>KeyOrd.kle_trans (hs i ((l+r)/2) (by omega) (by omega)) hb) hhi h
theorem Rp(hA:Iw O key N cmp s):∀(f:Nat) (p:Array Nat) (k:Nat) {Q:Array Nat->Shared->Prop},Ent N p->k+f<=N->Up O key p k->(∀p',p'.Perm p->Up O key p' (k+f)->Q p' s)->(kas_bin f p k).kasWp cmp Q s
 |0,p,k,Q,he,hk,hs,h=>h p (Array.Perm.refl _) hs
 | f+1,p,k,Q,he,hk,hs,h=>by
  show ((kas_place p k k 0 k).bind λl=>kas_bin f (bubble p k (k-l)) (k+1)).kasWp cmp Q s;rw[KasT.kasWp_bind];refine yN hA he hs k 0 k (by omega) (by omega) (by omega) (λi hi=>by omega) (λi h1 h2=>by omega) λl hl hlo hhi=>?_;have ep:(bubble p k (k-l)).Perm p:=bubble_perm _ _ _;have hks:k<p.size:=by rw[he.1];omega
  refine Rp hA f _ (k+1) (he.perm ep) (by omega) (λi j hij hj=>?_) λp' a1 a2=>h p' (a1.trans ep) (by rwa [show k+(f+1)=k+1+f by omega]);rw[K_bubble hks (by omega),K_bubble hks (by omega),show k-(k-l)=l by omega]
  repeat' split
  all_goals first
   |(exfalso;omega)
   |exact KeyOrd.kle_refl _
   |exact hlo _ (by omega)
   |exact KeyOrd.kle_of_klt (hhi _ (by omega) (by omega))
   |exact hs _ _ (by omega) (by omega)
theorem Rq(hA:Iw O key N cmp s)(h1:1<=N)(h:∀p,p.Perm (toArray (List.range N))->Up O key p N->Q p s):(kas_sort N).kasWp cmp Q s:=by
 unfold kas_sort;rw[KasT.kasWp_bind];have he:Ent N (toArray (List.range N)):=⟨by simp,h1,λx hx=>by simpa using hx⟩;refine MT hA he h1 (aal _) λm p a1 a2 a3 a4 a5=>?_;show (if m<N then kas_bin (N-max m 1) p (max m 1) else KasT.ret p).kasWp cmp Q s;have em:max m 1=m:=by omega
 by_cases hlt:m<N
 ·rw[aan hlt,em];exact Rp hA _ p m a2 (by omega) a5 λp' b1 b2=>h p' (b1.trans a1) (by rwa [show m+(N-m)=N by omega]at b2)
 ·rw[aaj hlt]
  have:m=N:=by omega
  subst this;exact h p a1 a5
end
end rN
namespace rN
theorem cy{α:Type}(l:List α)(d:α):(List.range l.length).map (λi=>l.getD i d)=l:=by
 refine ext_getElem (by simp) λi h1 h2=>?_;simp[h2]
section
variable {prog:Program} {w:World} {A:Around} {E:Value->Shared->Prop} {s:Shared}
def sO(prog:Program)(w:World)(A:Around)(O:KeyOrd)(key:Nat->O.α)(vs:List Value)(s6:Shared):Prop :=
 wpAny (model prog w) A (keyKind' vs.toArray) (λκ s'=>s'=s6/\Iw O key vs.length (kas_ask prog w A κ vs) s6) (λ_ _=>False) s6
structure DO (O:KeyOrd) (key:Nat->O.α) (n:Nat) (p:List Nat):Prop where
 perm:p.Perm (List.range n)
 up:(p.map key).Pairwise O.kle
theorem Iz{n:Nat}{p:Array Nat}(h1:p.Perm (toArray (List.range n)))(h2:Up O key p n):DO O key n p.toList:=by
 have hp:p.toList.Perm (List.range n):=by simpa using Array.perm_iff_toList_perm.mp h1
 refine⟨hp,List.pairwise_iff_getElem.mpr λi j hi hj hij=>?_⟩;have hz:p.toList.length=n:=by rw[hp.length_eq,length_range]
 rw[aaf]at hi hj;have q:=h2 i j (le_of_lt hij) (by omega);have ei:p.getD i 0=p.toList[i]:=by simp at hi;simp[Array.getD,hi]
 have ej:p.getD j 0=p.toList[j]:=by simp at hj;simp[Array.getD,hj]
 unfold K at q;rw[ei,ej]at q;rw[getElem_map,getElem_map];exact q
theorem DP{n:Nat}(ho:s.heap.get? a=some (seqObj "list" vs.toArray n))(h64:vs.length<64)
  (hk:2<=vs.length->∀h6:Heap,(∀b o,b≠a->s.heap.get? b=some o->h6.get? b=some o)->sO prog w A O key vs { s with heap:=h6 })
  (h:∀p,DO O key vs.length p->P (.done (.ret .none)) { s with heap:=sortedHeap s.heap a vs (p.map λi=>vs.getD i Value.none).toArray }) :
  wpAny (model prog w) A (Builtin.«list.sort» ⟨[.ref a],[]⟩) P E s:=by
 have alt:a<s.heap.objs.size:=aam ho;have big:vs.length<=sizeLine:=by rw[sizeLine_eq];omega
 rw[list_sort_plain];apply aaa;apply listItems_at ho rfl;apply aaa;refine listUpdate_at ho rfl ?_ (by rw[aas];exact big) (zero_le _);have q1:=get?_update_seq ho (λ_=>(#[]:Array Value));apply aaa;apply seqEpoch_at q1 rfl;apply aaa;refine wpAny_newTuple ?_ (by show vs.length<=sizeLine;exact big);apply aaa;refine wpAny_newList ?_ (zero_le _);apply wpAny_holding;generalize hN:((s.heap.update a (Obj.mapSeq λ_=>(#[]:Array Value))).push (seqObj "tuple" vs.toArray 0)).push (seqObj "list" #[] 0)=h6;have Rt:∀b o,b≠a->s.heap.get? b=some o->h6.get? b=some o:=λb o hb e=>by
  rw[<-hN];refine aad _ (aad _ ?_);rw[get?_update_ne _ _ _ _ hb];exact e
 have q6:h6.get? a=some (seqObj "list" #[] (if (#[]:Array Value).size==vs.toArray.size then n else n+1)):=by rw[<-hN];exact aad _ (aad _ q1)
 have eS:∀out,h6.update a (Obj.mapSeq λ_=>out)=sortedHeap s.heap a vs out:=λout=>by rw[<-hN];rfl
 show wpAny (model prog w) A _ P E { s with heap:=h6 };dsimp only
 by_cases h2:vs.toArray.size<2
 ·rw[aan h2,aan h2]
  apply aaa;apply aag;rw[StateT.run_pure];apply aaa;apply aag;dsimp only;have eo:(arrOf (SortSt.mk' general' (vs.toArray.zip vs.toArray) #[] 7 none)).map (·.2)=vs.toArray:=by show (vs.toArray.zip vs.toArray).map (·.2)=vs.toArray;apply toList_inj.mp;simp[List.map_snd_zip]
  rw[eo];apply aaa;apply seqEpoch_at q6 rfl;apply aaa;refine listUpdate_at q6 rfl ?_ (zero_le _) (by show vs.toArray.size<=_;rw[aas];omega);have hb:((if (#[]:Array Value).size==vs.toArray.size then n else n+1) != (if (#[]:Array Value).size==vs.toArray.size then n else n+1))=false:=by simp
  rw[eS];simp only[hb,false_eq_true,if_false];apply aag;have g:=h (List.range vs.length) ⟨List.Perm.refl _,?_⟩
  ·rw[cy]at g;exact g
  ·rw[aas]at h2;refine List.pairwise_iff_getElem.mpr λi j hi hj hij=>?_;simp at hi hj;omega
 ·rw[aaj h2,aaj h2]
  rw[aas]at h2;have ask:=hk (by omega) h6 Rt;apply aaa;refine aaL ask (λκ s0 hκ=>?_) λ_ _ x=>x.elim;obtain⟨rfl,YW⟩:=hκ;apply aaa;refine aaL (kat_run (Q:=λst' s'=>s'={ s with heap:=h6 }/\∃p:Array Nat,DO O key vs.length p.toList/\p.size=vs.length/\(arrOf st').map (·.2)=(p.toList.map λi=>vs.getD i Value.none).toArray/\failedOf st'=none)
   (G:=λp s'=>s'={ s with heap:=h6 }/\DO O key vs.length p.toList) rfl (by omega) h64 (λp st' s' a1 a2 a3 a4=>⟨a4.1,p,a4.2,a1,kat_snds rfl a2,a3⟩)
   (Rq YW (by omega) λp b1 b2=>⟨rfl,Iz b1 b2⟩)) ?_ λ_ _ x=>x
  rintro⟨⟨⟩,st'⟩ s' ⟨rfl,p,op,pz,er,ef⟩;dsimp only;rw[er];apply aaa;apply seqEpoch_at q6 rfl;apply aaa;refine listUpdate_at q6 rfl ?_ (zero_le _) (by show (toArray _).size<=_;rw[aas,aaf,aaI,pz];omega);have hb:((if (#[]:Array Value).size==vs.toArray.size then n else n+1) != (if (#[]:Array Value).size==vs.toArray.size then n else n+1))=false:=by simp
  rw[eS,ef];simp only[hb,false_eq_true,if_false];exact aag (h p.toList op)
theorem jP
  (h:wpAny (model prog w) A.in1 (collect x) (λvs s1=>vs.length<64/\∃key:Nat->O.α,(2<=vs.length->∀h6:Heap,(∀b o,s1.heap.get? b=some o->h6.get? b=some o)->sO prog w A.in1.in1 O key vs { s1 with heap:=h6 }) /\
   ∀p h',DO O key vs.length p->(∀b o,s1.heap.get? b=some o->h'.get? b=some o)->(∃e,h'.get? s1.heap.objs.size=some (seqObj "list" (p.map λi=>vs.getD i Value.none).toArray e))->Q (.ref s1.heap.objs.size) { s1 with heap:=h' }) E s) :
  wpAny (model prog w) A (call (.builtin "sorted") [x]) Q E s:=by
 refine Calls.call_function_entry kind_sorted plain_sorted entry_sorted (args_sorted1 _) ?_;unfold Builtin.«sorted»;refine aaa (m:=checkCount "sorted" 1 1 _) (aag ?_);apply aaa;refine aaL h (λvs s1 ⟨h64,key,hk,hq⟩=>?_) λ_ _ z=>z;have big:vs.length<=sizeLine:=by rw[sizeLine_eq];omega
 apply aaa;refine wpAny_newList ?_ big;have q:(s1.heap.push (seqObj "list" vs.toArray 0)).get? s1.heap.objs.size=some (seqObj "list" vs.toArray 0):=aaq _ rfl;apply aaa;apply wpAny_holding;refine wpAny_call_entry (s:={ s1 with heap:=s1.heap.push (seqObj "list" vs.toArray 0) }) slot_list_sort ⟨_,q,rfl⟩ entry_list_sort ?_ (args_list_sort _);refine DP (key:=key) (s:={ s1 with heap:=s1.heap.push (seqObj "list" vs.toArray 0) }) q h64 (λh2 h6 k6=>?_) λp op=>⟨_,rfl,aag ⟨_,rfl,?_⟩⟩
 ·exact hk h2 h6 λb o e=>k6 b o (aat (aam e)) (aad _ e)
 ·refine hq p _ op (λb o e=>?_) (sortedHeap_at q);rw[sortedHeap_old (aat (aam e)) (by rw[size_push'];exact lt_succ_of_lt (aam e))];exact aad _ e
end
def yO:KeyOrd where
 α:=Int
 blt:=λa b=>decide (a<b)
 irrefl:=λa=>by simp
 trans:=λa b c h1 h2=>by simp at *;omega
 negTrans:=λa b c h=>by simp at *;omega
 total:=λa b h1 h2=>by simp at *;omega
theorem yP{s6:Shared}{ns:List Int}(hI:IntsAre vs ns)(h2:2<=vs.length):sO prog w A yO (λi=>ns.getD i 0) vs s6:=by
 have at_:∀i,i<vs.length->∃t,vs.getD i Value.none=.int (ns.getD i 0) t:=by
  intro i hi
  induction hI generalizing i with
  |nil=>simp at hi
  |cons z t r ih=>
   cases i with
   |zero=>exact⟨t,by simp⟩
   |succ i=>
    by_cases hr:2<=1
    ·omega
    ·simp only[length_cons]at hi
     have aux:∀{vs:List Value} {ns:List Int},IntsAre vs ns->∀i,i<vs.length->∃t,vs.getD i Value.none=.int (ns.getD i 0) t:=by
      intro vs ns q
      induction q with
      |nil=>intro i hi;simp at hi
      |cons z t r ih=>
       intro i hi;cases i with
       |zero=>exact⟨t,by simp⟩
       |succ i=>simp only[length_cons]at hi;obtain⟨u,e⟩:=ih i (by omega);exact⟨u,by simpa using e⟩
     obtain⟨u,e⟩:=aux r i (by omega);exact⟨u,by simpa using e⟩
 obtain⟨v₁,v₂,rest,rfl⟩:∃v₁ v₂ rest,vs=v₁::v₂::rest:=by
  match vs,h2 with
  |v₁::v₂::rest,_=>exact⟨v₁,v₂,rest,rfl⟩
 unfold sO;rw[keyKind_ints hI];refine aag ⟨rfl,λi j C hi hj hc=>?_⟩;obtain⟨t,e1⟩:=at_ i hi;obtain⟨u,e2⟩:=at_ j hj;unfold kas_ask;rw[e1,e2,keyLt'_oneType];exact oneLt_int hc
theorem jo:∀a,HT.lexLt a a=false
 |[]=>rfl
 |x::xs=>by rw[HT.jj,aan rfl];exact jo xs
theorem ie:∀a b,HT.lexLt a b=false->HT.lexLt b a=false->a=b
 |[],[],_,_=>rfl
 |[],_::_,h,_=>by rw[HT.gI]at h;cases h
 |_::_,[],_,h=>by rw[HT.gI]at h;cases h
 | x::xs,y::ys,h1,h2=>by
  rw[HT.jj]at h1 h2
  by_cases e:x=y
  ·subst e;rw[aan rfl]at h1 h2;rw[ie xs ys h1 h2]
  ·rw[aaj e]at h1;rw[aaj (λz=>e z.symm)]at h2;simp at h1 h2;omega
theorem ig:∀a b c,HT.lexLt a b=true->HT.lexLt b c=true->HT.lexLt a c=true
 |[],[],c,h,_=>by rw[HT.rP]at h;cases h
 |[],_::_,[],_,h=>by rw[HT.eV]at h;cases h
 |[],_::_,_::_,_,_=>rfl
 |_::_,[],_,h,_=>by rw[HT.eV]at h;cases h
 |_::_,_::_,[],_,h=>by rw[HT.eV]at h;cases h
 | x::xs,y::ys,z::zs,h1,h2=>by
  rw[HT.jj]at h1 h2 |-
  by_cases e1:x=y
  ·subst e1
   rw[aan rfl]at h1
   by_cases e2:x=z
   ·subst e2;rw[aan rfl]at h2 |-;exact ig xs ys zs h1 h2
   ·rw[aaj e2]at h2 |-;exact h2
  ·rw[aaj e1]at h1
   by_cases e2:y=z
   ·subst e2;rw[aaj e1];exact h1
   ·rw[aaj e2]at h2;simp at h1 h2;rw[aaj (by omega)];simp;omega
theorem sP(a b c:List Int)(h:HT.lexLt a c=true):HT.lexLt a b=true\/HT.lexLt b c=true:=by
 cases h1:HT.lexLt a b with
 |true=>exact .inl rfl
 |false=>
  cases h2:HT.lexLt b c with
  |true=>exact .inr rfl
  |false=>
   cases h3:HT.lexLt b a with
   |true=>have:=ig _ _ _ h3 h;rw[h2]at this;cases this
   |false=>rw[ie _ _ h1 h3]at h;rw[h2]at h;cases h
def lexOrd:KeyOrd where
 α:=List Int
 blt:=HT.lexLt
 irrefl:=jo
 trans:=ig
 negTrans:=sP
 total:=ie
section
variable {prog:Program} {w:World} {A:Around} {s:Shared}
theorem oQ{b fin:Bool}:∀{us vs:List Value} {ns ms:List Int} (i:Nat),IntsAre us ns->IntsAre vs ms->(ns.length<ms.length↔fin=true)->us.length=ns.length ->
  Q (HT.lexLt ns ms) s->(ns.length=ms.length\/i=i)->(∀k,k<ns.length->k<ms.length->True)->(ns.length≠ms.length->True)->(fin=decide (ns.length<ms.length))->KatLex prog w A b fin Q (us.zip vs) i s
 | _,_,_,_,i,.nil,.nil,_,_,hq,_,_,_,hf=>by
  refine kat_nil ?_;rw[hf];exact hq
 | _,_,_,_,i,.nil,.cons _ _ _,_,_,hq,_,_,_,hf=>by
  refine kat_nil ?_;rw[hf];simpa [HT.gI] using hq
 | _,_,_,_,i,.cons _ _ _,.nil,_,_,hq,_,_,_,hf=>by
  refine kat_nil ?_;rw[hf];simpa [HT.eV] using hq
 | _,_,_,_,i,.cons x t r,.cons y u r',h1,h2,hq,_,_,_,hf=>by
  refine kat_cons (wpAny_eqBool_int ?_);rw[HT.jj]at hq
  by_cases e:x=y
  ·subst e
   rw[aan rfl]at hq;rw[beq_self_eq_true];refine kat_yes (oQ (i+1) r r' ?_ ?_ hq (.inr rfl) (λ_ _ _=>trivial) (λ_=>trivial) ?_)
   ·simpa using h1
   ·simpa using h2
   ·rw[hf];simp
  ·rw[aaj e]at hq
   rw[show (x==y)=false from beq_eq_false_iff_ne.mpr e];refine kat_no ?_;cases hb:(b&&i==0) with
   |true=>exact oneLt_int hq
   |false=>exact kat_one _ _ (PyProof.Rows.lt_int hq)
end
end rN
end L2
end
section
namespace L2
open PySem PySem.Spec PyProof.Rows
def VF:Key->PyData
 |.inl i=>.int i
 |.inr x=>.str x
mutual
noncomputable def Den(K:Frag)(H:Hp):PyData->V->Prop
 |.none,v=>v=.non
 |.bool b,v=>v=.bl b
 |.int i,v=>v=.int i
 |.str x,v=>v=.str x
 |.list ds,v=>∃a xs,v=.ref a/\gD K H a xs/\eL K H ds xs
 |.tuple ds,v=>∃a xs,v=.ref a/\iP K H a xs/\eL K H ds xs
 |.dict kvs,v=>∃a ks,v=.ref a/\H a=some (.dK ks)/\mK K H kvs ks
noncomputable def eL(K:Frag)(H:Hp):List PyData->List V->Prop
 |[],xs=>xs=[]
 |d::ds,xs=>∃x r,xs=x::r/\Den K H d x/\eL K H ds r
noncomputable def mK(K:Frag)(H:Hp):List (PyData×PyData)->List (Key×V)->Prop
 |[],ks=>ks=[]
 |(k,d)::r,ks=>∃key x rest,ks=(key,x)::rest/\k=VF key/\Den K H d x/\mK K H r rest
end
theorem yL.tup{K:Frag}{H H':Hp}{a:Addr}{xs:List V}(e:yL H H')(h:iP K H a xs):iP K H' a xs:=by
 rcases h with (h|⟨o,h⟩)|h
 ·exact .inl (.inl (e _ _ h))
 ·exact .inl (.inr ⟨o,e _ _ h⟩)
 ·exact .inr h
section
variable {K:Frag} {H H':Hp}
mutual
theorem Den.same(e:yL H H'):∀(d:PyData) (v:V),Den K H d v->Den K H' d v
 |.none,_,h=>by rw[Den]at h |-;exact h
 |.bool _,_,h=>by rw[Den]at h |-;exact h
 |.int _,_,h=>by rw[Den]at h |-;exact h
 |.str _,_,h=>by rw[Den]at h |-;exact h
 | .list ds,v,h=>by
  rw[Den]at h |-;obtain⟨a,xs,q1,q2,q3⟩:=h;exact⟨a,xs,q1,e.seq q2,eL.same e ds xs q3⟩
 | .tuple ds,v,h=>by
  rw[Den]at h |-;obtain⟨a,xs,q1,q2,q3⟩:=h;exact⟨a,xs,q1,e.tup q2,eL.same e ds xs q3⟩
 | .dict kvs,v,h=>by
  rw[Den]at h |-;obtain⟨a,ks,q1,q2,q3⟩:=h;exact⟨a,ks,q1,e _ _ q2,mK.same e kvs ks q3⟩
theorem eL.same(e:yL H H'):∀(ds:List PyData) (xs:List V),eL K H ds xs->eL K H' ds xs
 |[],_,h=>by rw[eL]at h |-;exact h
 | d::ds,xs,h=>by
  rw[eL]at h |-;obtain⟨x,r,q1,q2,q3⟩:=h;exact⟨x,r,q1,Den.same e d x q2,eL.same e ds r q3⟩
theorem mK.same(e:yL H H'):∀(kvs:List (PyData×PyData)) (ks:List (Key×V)),mK K H kvs ks->mK K H' kvs ks
 |[],_,h=>by rw[mK]at h |-;exact h
 | (k,d)::r,ks,h=>by
  rw[mK]at h |-;obtain⟨key,x,rest,q1,q2,q3,q4⟩:=h;exact⟨key,x,rest,q1,q2,Den.same e d x q3,mK.same e r rest q4⟩
end
theorem eL.nil:eL K H [] []:=by rw[eL]
theorem eL.cons{d:PyData}{ds:List PyData}{x:V}{r:List V}(h1:Den K H d x)(h2:eL K H ds r):eL K H (d::ds) (x::r):=by rw[eL];exact⟨x,r,rfl,h1,h2⟩
theorem Den.int{i:Int}:Den K H (.int i) (.int i):=by rw[Den]
theorem Den.str:Den K H (.str x) (.str x):=by rw[Den]
theorem Den.bool{b:Bool}:Den K H (.bool b) (.bl b):=by rw[Den]
theorem Den.none:Den K H .none .non:=by rw[Den]
theorem Den.list(h:gD K H a xs)(q:eL K H ds xs):Den K H (.list ds) (.ref a):=by rw[Den];exact⟨a,xs,rfl,h,q⟩
theorem Den.tuple(h:iP K H a xs)(q:eL K H ds xs):Den K H (.tuple ds) (.ref a):=by rw[Den];exact⟨a,xs,rfl,h,q⟩
end
section
variable {X:Cx} {pins:List (Addr×Obj)} {σ:St} {H:Hp} {s:Shared}
mutual
theorem Den.reads(I:Inv X pins σ H s):∀(d:PyData) (v:V) (u:Value),d.canLay0=true->Den X.K H d v->RelV v u->∃as,Reads s.heap u d as
 |.none,v,u,_,h,r=>by rw[Den]at h;subst h;cases r;exact⟨_,.none⟩
 |.bool b,v,u,_,h,r=>by rw[Den]at h;subst h;cases r;exact⟨_,.bool b⟩
 |.int i,v,u,_,h,r=>by rw[Den]at h;subst h;obtain⟨t,rfl⟩:=r;exact⟨_,.int i t⟩
 |.str x,v,u,_,h,r=>by rw[Den]at h;subst h;obtain⟨t,rfl⟩:=r;exact⟨_,.str x t⟩
 | .list ds,v,u,c,h,r=>by
  rw[Den]at h;obtain⟨a,xs,rfl,q1,q2⟩:=h;cases r;obtain⟨its,rv,⟨o,n,e1,e2,_,e3⟩,_⟩:=I.list q1;obtain⟨as,ra⟩:=eL.reads I ds xs its (by simpa [PyData.canLay0] using c) q2 rv;exact⟨_,.list e1 e2 e3 (by simpa using ra)⟩
 | .tuple ds,v,u,c,h,r=>by
  rw[Den]at h;obtain⟨a,xs,rfl,q1,q2⟩:=h;cases r;obtain⟨its,rv,⟨o,e1,e2,n,e3⟩,_⟩:=I.tuple q1;obtain⟨as,ra⟩:=eL.reads I ds xs its (by simpa [PyData.canLay0] using c) q2 rv;exact⟨_,.tuple e1 e2 e3 (by simpa using ra)⟩
 |.dict _,_,_,c,_,_=>by simp[PyData.canLay0]at c
theorem eL.reads(I:Inv X pins σ H s):∀(ds:List PyData) (xs:List V) (us:List Value),PyData.canLayAll0 ds=true->eL X.K H ds xs->Vals xs us->∃as,ReadsAll s.heap us ds as
 |[],xs,us,_,h,r=>by rw[eL]at h;subst h;cases r;exact⟨_,.nil⟩
 | d::ds,xs,us,c,h,r=>by
  have c':d.canLay0=true/\PyData.canLayAll0 ds=true:=by simpa [PyData.canLayAll0] using c
  rw[eL]at h;obtain⟨x,rest,rfl,q1,q2⟩:=h;cases r with
  |cons r1 r2=>obtain⟨as,ra⟩:=Den.reads I d x _ c'.1 q1 r1;obtain⟨bs,rb⟩:=eL.reads I ds rest _ c'.2 q2 r2;exact⟨_,.cons ra rb⟩
end
end
section
variable {X:Cx}
def VG(K:Frag):R2:=λx y H Q=>∃d e,Den K H d x/\Den K H e y/\d.canLay0=true/\e.canLay0=true/\d.depth<=60/\Q (.bl (PyData.eqv d e)) H
def VH(K:Frag):R2:=λx y H Q=>∃d e,Den K H d x/\Den K H e y/\d.canLay0=true/\e.canLay0=true/\d.depth<=60/\Q (.bl (!PyData.eqv d e)) H
theorem MU(hu:X.A.units+64<cLine):k9 X (compareOp .Eq) (VG X.K):=by
 intro pins s σ H x y v u Q I rx ry h;obtain⟨d,e,hd,he,c1,c2,hz,q⟩:=h;obtain⟨as,ra⟩:=Den.reads I d x v c1 hd rx;obtain⟨bs,rb⟩:=Den.reads I e y u c2 he ry;exact SeqAt.compareEq_reads ra rb c1 c2 (by have:=Nat.min_le_left d.depth e.depth;omega) ⟨.bl _,H,I,rfl,q⟩
theorem MV(hu:X.A.units+64<cLine):k9 X (compareOp .NotEq) (VH X.K):=by
 intro pins s σ H x y v u Q I rx ry h;obtain⟨d,e,hd,he,c1,c2,hz,q⟩:=h;obtain⟨as,ra⟩:=Den.reads I d x v c1 hd rx;obtain⟨bs,rb⟩:=Den.reads I e y u c2 he ry;exact SeqAt.compareNe_reads ra rb c1 c2 (by have:=Nat.min_le_left d.depth e.depth;omega) ⟨.bl _,H,I,rfl,q⟩
theorem qm{ns:List Int}(I:Inv X pins σ H s)(hq:gD X.K H p (ns.map V.int))(h64:ns.length<64)
  (q:∀l,H l=none->Q (.ref l) (upd H l (.lst ((sortI ns).map V.int)))):wpAny (model X.prog X.w) X.A (call (.builtin "sorted") [.ref p]) (EP X pins σ Q) X.xe s:=by
 obtain⟨its,rv,pl,hz⟩:=I.list hq;have hi:=intsAre_of rv;have hl:=hi.length;refine sorted_ints pl.isList hi (by omega) λout ns' a1 a2 a3=>?_;obtain⟨e,he⟩:=sortedAll_at s.heap its out;have es:ns'=sortI ns:=eq_sortI a2 a3;subst es;have hn:H (s.heap.objs.size+1)=none:=I.hok.fresh (le_succ _);refine⟨.ref (s.heap.objs.size+1),_,I.laid (t':=s.toks) (λb o z=>sortedAll_old z) (le_succ _) (show bF X.prog X.w _ _ _ (.lst ((sortI ns).map V.int)) from⟨?_,out.toList,e,kG a1,by simpa using he⟩),rfl,q _ hn⟩;rw[aaf,(sortI_perm ns).length_eq,sizeLine_eq];omega
theorem nQ:bV X (.builtin "sorted") (λxs H Q=>∃p ns,xs=[.ref p]/\gD X.K H p (ns.map V.int)/\ns.length<64/\∀l,H l=none->Q (.ref l) (upd H l (.lst ((sortI ns).map V.int)))):=by
 intro pins s σ H xs us Q I r h;obtain⟨p,ns,rfl,hq,h64,q⟩:=h;obtain⟨u,rfl,ru⟩:=vals1 r;cases ru;exact qm I hq h64 q
def Ru(K:Frag)(H:Hp)(r:Addr×List Int):Prop:=iP K H r.1 (r.2.map V.int)/\r.2≠[]
theorem yQ{pins:List (Addr×Obj)}{σ:St}{H:Hp}{s:Shared}{A:Around}{rs:List (Addr×List Int)}{h6:Heap}{s6:Shared}(I:Inv X pins σ H s)(ht:∀r∈rs,Ru X.K H r)(h2:2<=rs.length)(k:∀b o,s.heap.get? b=some o->s6.heap.get? b=some o) :
  rN.sO X.prog X.w A rN.lexOrd (λi=>(rs.getD i (0,[])).2) (rs.map λr=>Value.ref r.1) s6:=by
 have tup:∀r∈rs,∃its o n,s6.heap.get? r.1=some o/\o.cls=.type "tuple" /\ o.data=.seq (toArray its) n/\IntsAre its r.2:=λr hr=>by
  obtain⟨its,rv,⟨o,e1,e2,n,e3⟩,_⟩:=I.tuple (ht r hr).1;exact⟨its,o,n,k _ _ e1,e2,e3,intsAre_of rv⟩
 have kt:∀rs:List (Addr×List Int),(∀r∈rs,∃its o n,s6.heap.get? r.1=some o/\o.cls=.type "tuple" /\ o.data=.seq (toArray its) n/\IntsAre its r.2)->(∀r∈rs,r.2≠[]) ->
   ∃fs,PySem.W.KatTups s6.heap (rs.map λr=>Value.ref r.1) fs/\fs.length=rs.length/\∀v∈fs,∃i t,v=Value.int i t:=by
  intro rs
  induction rs with
  |nil=>intro _ _;exact⟨[],PySem.W.KatTups.nil,rfl,λv hv=>nomatch hv⟩
  |cons r rs ih=>
   intro g1 g2;obtain⟨fs,q1,q2,q3⟩:=ih (λr' hr'=>g1 r' (aae _ hr')) λr' hr'=>g2 r' (aae _ hr');obtain⟨its,o,n,e1,e2,e3,hi⟩:=g1 r aah;have hne:=g2 r aah;cases hr:r.2 with
   |nil=>exact absurd hr hne
   |cons i is=>
    rw[hr]at hi;cases hi with
    |cons _ t hi'=>
     refine⟨.int i t::fs,PySem.W.KatTups.cons e1 e2 e3 (by simp) q1,by simp[q2],λv hv=>?_⟩
     rcases aau.mp hv with z|z
     ·exact⟨i,t,z⟩
     ·exact q3 v z
 obtain⟨fs,q1,q2,q3⟩:=kt rs tup λr hr=>(ht r hr).2;unfold rN.sO;refine PySem.W.kat_kind q1 (by omega) (T:=Value.type "int") (λv hv=>?_) rfl ⟨rfl,λi j C hi hj hc=>?_⟩
 ·obtain⟨i,t,rfl⟩:=q3 v hv;exact PySem.W.Looks.of_pure rfl
 ·rw[aaf]at hi hj
  unfold PySem.W.kas_ask;have e1:(rs.map λr=>Value.ref r.1).getD i Value.none=Value.ref rs[i].1:=by simp[hi]
  have e2:(rs.map λr=>Value.ref r.1).getD j Value.none=Value.ref rs[j].1:=by simp[hj]
  have e3:rs.getD i (0,[])=rs[i]:=by simp[hi]
  have e4:rs.getD j (0,[])=rs[j]:=by simp[hj]
  rw[e1,e2];simp only[e3,e4]at hc;obtain⟨its,o,n,a1,a2,a3,a4⟩:=tup rs[i] (List.getElem_mem hi);obtain⟨its',o',n',b1,b2,b3,b4⟩:=tup rs[j] (List.getElem_mem hj);have l1:=a4.length;have l2:=b4.length;refine kat_lt a1 a3 b1 b3 (rN.oQ 0 a4 b4 ?_ l1 hc (.inr rfl) (λ_ _ _=>trivial) (λ_=>trivial) ?_)
  ·rw[aas,aas,l1,l2];simp
  ·rw[aas,aas,l1,l2]
theorem BX{rs:List (Addr×List Int)}:∀{us:List Value},Vals (rs.map λr=>V.ref r.1) us->us=rs.map λr=>Value.ref r.1:=by
 induction rs with
 |nil=>intro us r;cases r;rfl
 |cons a rs ih=>
  intro us r;cases r with
  |cons r1 r2=>cases r1;rw[ih r2];rfl
theorem nR:bV X (.builtin "sorted") (λxs H Q=>∃(p:Addr) (rs:List (Addr×List Int)),xs=[.ref p]/\gD X.K H p (rs.map λr=>V.ref r.1)/\rs.length<64/\(∀r∈rs,Ru X.K H r) /\
  ∀(l:Addr) (qs:List (Addr×List Int)),H l=none->qs.Perm rs->qs.Pairwise (λa b=>HT.lexLt b.2 a.2=false)->Q (.ref l) (upd H l (.lst (qs.map λr=>V.ref r.1)))):=by
 intro pins s σ H xs us Q I r h;obtain⟨p,rs,rfl,hq,h64,ht,q⟩:=h;obtain⟨u,rfl,ru⟩:=vals1 r;cases ru;obtain⟨its,rv,pl,hz⟩:=I.list hq;have ev:=BX rv;subst ev;refine rN.jP (O:=rN.lexOrd) (collect_list pl.isList ?_ (by rw[aaf,sizeLine_eq];omega));have k1:∀b o,s.heap.get? b=some o->((s.heap.push (seqObj "list" #[] 0)).update s.heap.objs.size (Obj.mapSeq (· ++ (rs.map λr=>Value.ref r.1).toArray))).get? b=some o:=λb o e=>by
  rw[get?_update_ne _ _ _ _ (aat (aam e))];exact aad _ e
 have YX:((s.heap.push (seqObj "list" #[] 0)).update s.heap.objs.size (Obj.mapSeq (· ++ (rs.map λr=>Value.ref r.1).toArray))).objs.size=s.heap.objs.size+1:=by rw[Heap.size_update,size_push']
 refine⟨by rw[aaf];exact h64,λi=>(rs.getD i (0,[])).2,λh2 h6 k6=>?_,λpp h' op k' he=>?_⟩
 ·rw[aaf]at h2;exact yQ (h6:=h6) I ht h2 λb o e=>k6 b o (k1 b o e)
 ·rw[aaf]at op
  dsimp only at k' he |-;rw[YX]at he |-;obtain⟨e,he⟩:=he;have hn:H (s.heap.objs.size+1)=none:=I.hok.fresh (le_succ _);have lp:pp.length=rs.length:=by rw[op.perm.length_eq,length_range]
  have mem:∀i∈pp,i<rs.length:=λi hi=>by simpa using op.perm.mem_iff.mp hi
  have VI:(pp.map λi=>(rs.map λr=>Value.ref r.1).getD i Value.none)=(pp.map λi=>rs.getD i (0,[])).map λr=>Value.ref r.1:=by rw[map_map];refine map_congr_left λi hi=>?_;simp[mem i hi]
  have qp:(pp.map λi=>rs.getD i (0,[])).Perm rs:=by have:=op.perm.map λi=>rs.getD i (0,[]);rwa [rN.cy]at this
  have qs:(pp.map λi=>rs.getD i (0,[])).Pairwise (λa b=>HT.lexLt b.2 a.2=false):=by have up1:=pairwise_map.mp op.up;exact pairwise_map.mpr up1
  refine⟨.ref (s.heap.objs.size+1),_,I.laid (t':=s.toks) (λb o z=>k' b o (k1 b o z)) (le_succ _) (show bF X.prog X.w _ _ _ (.lst ((pp.map λi=>rs.getD i (0,[])).map λr=>V.ref r.1)) from⟨?_,_,e,?_,he⟩),rfl,q _ _ hn qp qs⟩
  ·rw[aaf,aaf,lp,sizeLine_eq];omega
  ·rw[VI]
   generalize (pp.map λi=>rs.getD i (0,[]))=zs
   induction zs with
   |nil=>exact .nil
   |cons z zs ih=>exact .cons rfl ih
theorem Ad{ns:List Int}(h:IntsAre us ns):∀(i:Nat) (v:Value),us[i]?=some v->∃t,v=.int (ns.getD i 0) t:=by
 induction h with
 |nil=>intro i v e;simp at e
 |cons z t r ih=>
  intro i v e;cases i with
  |zero=>simp at e;exact⟨t,by simp[<-e]⟩
  |succ i=>obtain⟨u,q⟩:=ih i v (by simpa using e);exact⟨u,by simpa using q⟩
theorem sQ{pins:List (Addr×Obj)}{σ:St}{H:Hp}{s:Shared}{p:Addr}{ns:List Int}(I:Inv X pins σ H s)(hc:X.calm=true)(hq:gD X.K H p (ns.map V.int)\/iP X.K H p (ns.map V.int))(hne:0<ns.length){Q:Value->Shared->Prop}{f:String}{bt:Int->Int->Bool}{op:CmpOp}
  (hf:∀{Q:Value->Shared->Prop},wpAny (model X.prog X.w) X.A.in1 (pyIter (.ref p)) (λit s₂=>∃I fp wr n P St bt,it=.ref I/\Walks X.prog X.w X.A.in1 I fp wr n P St/\St 0 s₂.heap/\(∀b∈fp,b<s₂.heap.objs.size)/\0<n/\CmpOf X.prog X.w X.A.in1 op P bt /\
   ∀v h' tk,P (argBest bt (n-1)) v->(∀b o,b∉wr->s₂.heap.get? b=some o->h'.get? b=some o)->Q v { s₂ with heap:=h',toks:=tk }) X.xe s->wpAny (model X.prog X.w) X.A (call (.builtin f) [.ref p]) Q X.xe s)
  (hcmp:∀(P:Nat->Value->Prop),(∀i v,P i v->∃t,v=.int (ns.getD i 0) t)->CmpOf X.prog X.w X.A.in1 op P λi j=>bt (ns.getD i 0) (ns.getD j 0))
  (h:∀t h' tk,(∀b o,s.heap.get? b=some o->h'.get? b=some o)->argBest (λi j=>bt (ns.getD i 0) (ns.getD j 0)) (ns.length-1)<ns.length->Q (.int (ns.getD (argBest (λi j=>bt (ns.getD i 0) (ns.getD j 0)) (ns.length-1)) 0) t) { s with heap:=h',toks:=tk }) :
  wpAny (model X.prog X.w) X.A (call (.builtin f) [.ref p]) Q X.xe s:=by
 have hh:X.A.in1.handled=none:=I.ok.hd hc;have up:∀{us:List Value} (P:Nat->Value->Prop) (hi:IntsAre us ns),(∀i v,P i v->us.toArray[i]?=some v)->∀i v,P i v->∃t,v=.int (ns.getD i 0) t:=λP hi hP i v q=>Ad hi i v (by simpa using hP i v q);have best:∀{us:List Value} (hi:IntsAre us ns) (v:Value) (h':Heap) (tk:Nat),us.toArray[argBest (λi j=>bt (ns.getD i 0) (ns.getD j 0)) (us.toArray.size-1)]?=some v->(∀b o,s.heap.get? b=some o->h'.get? b=some o)->Q v { s with heap:=h',toks:=tk }:=λ{us} hi v h' tk e k=>by
  have hl:=hi.length;rw[aas,hl]at e;have e':us[argBest (λi j=>bt (ns.getD i 0) (ns.getD j 0)) (ns.length-1)]?=some v:=by simpa using e
  obtain⟨t,rfl⟩:=Ad hi _ v e';exact h t h' tk k (by have:=(aai.mp e').1;omega)
 rcases hq with hq|hq
 ·obtain⟨its,rv,pl,hz⟩:=I.list hq
  have hi:=intsAre_of rv;have hl:=hi.length;have hpl:=pl.isList;have hlt:p<s.heap.objs.size:=by obtain⟨_,e,_⟩:=hpl;exact aam e
  refine hf (wpAny_pyIter_list hpl ⟨s.heap.objs.size,[s.heap.objs.size,p],[s.heap.objs.size],its.toArray.size,_,_,λi j=>bt (ns.getD i 0) (ns.getD j 0),rfl,Walks.list hh _ p (aat hlt) its.toArray,⟨⟨_,aaq _ rfl,rfl,rfl⟩,hpl.push _⟩,λb hb=>?_,by rw[aas];omega,
   hcmp _ (up _ hi λi v q=>q),λv h' tk e k=>?_⟩)
  ·simp only[size_push']
   rcases aau.mp hb with z|z
   ·rw[z];exact lt_succ_self _
   ·rw[aay.mp z];exact lt_succ_of_lt hlt
  ·exact best hi v h' tk e λb o z=>k b o (by simp;exact aat (aam z)) (aad _ z)
 ·obtain⟨its,rv,pl,hz⟩:=I.tuple hq
  have hi:=intsAre_of rv;have hl:=hi.length;have hpl:s.heap.IsTuple p its.toArray:=pl;have hlt:p<s.heap.objs.size:=by obtain⟨_,e,_⟩:=hpl;exact aam e
  refine hf (wpAny_pyIter_tuple hpl ⟨s.heap.objs.size,[s.heap.objs.size,p],[s.heap.objs.size],its.toArray.size,_,_,λi j=>bt (ns.getD i 0) (ns.getD j 0),rfl,Walks.tuple hh _ p (aat hlt) its.toArray,⟨⟨_,aaq _ rfl,rfl,rfl⟩,?_⟩,λb hb=>?_,by rw[aas];omega,
   hcmp _ (up _ hi λi v q=>q),λv h' tk e k=>?_⟩)
  ·obtain⟨o,e,c⟩:=hpl;exact⟨o,aad _ e,c⟩
  ·simp only[size_push']
   rcases aau.mp hb with z|z
   ·rw[z];exact lt_succ_self _
   ·rw[aay.mp z];exact lt_succ_of_lt hlt
  ·exact best hi v h' tk e λb o z=>k b o (by simp;exact aat (aam z)) (aad _ z)
theorem uH(hc:X.calm=true):bV X (.builtin "min") (λxs H Q=>∃(p:Addr) (ns:List Int),xs=[.ref p]/\(gD X.K H p (ns.map V.int)\/iP X.K H p (ns.map V.int))/\0<ns.length/\∀m,m∈ns->(∀a∈ns,m<=a)->Q (.int m) H):=by
 intro pins s σ H xs us Q I r h;obtain⟨p,ns,rfl,hq,hne,q⟩:=h;obtain⟨u,rfl,ru⟩:=vals1 r;cases ru;refine sQ (bt:=λa b=>decide (a<b)) (op:=.Lt) I hc hq hne (λ{Q} h=>call_min_walk h) (λP hP=>?_) λt h' tk k hb=>⟨.int _,H,I.kept k,⟨t,rfl⟩,q _ ?_ λa ha=>?_⟩
 ·intro i j x y s' Q' E' hx hy hQ;obtain⟨t,rfl⟩:=hP i x hx;obtain⟨t',rfl⟩:=hP j y hy;exact lt_int (by simpa using hQ)
 ·exact getD_mem hb
 ·obtain⟨j,hj,rfl⟩:=mem_getD ha;exact(argBest_lt (λi=>ns.getD i 0) (ns.length-1)).2 j (by omega)
theorem uI(hc:X.calm=true):bV X (.builtin "max") (λxs H Q=>∃(p:Addr) (ns:List Int),xs=[.ref p]/\(gD X.K H p (ns.map V.int)\/iP X.K H p (ns.map V.int))/\0<ns.length/\∀m,m∈ns->(∀a∈ns,a<=m)->Q (.int m) H):=by
 intro pins s σ H xs us Q I r h;obtain⟨p,ns,rfl,hq,hne,q⟩:=h;obtain⟨u,rfl,ru⟩:=vals1 r;cases ru;refine sQ (bt:=λa b=>decide (a>b)) (op:=.Gt) I hc hq hne (λ{Q} h=>call_max_walk h) (λP hP=>?_) λt h' tk k hb=>⟨.int _,H,I.kept k,⟨t,rfl⟩,q _ ?_ λa ha=>?_⟩
 ·intro i j x y s' Q' E' hx hy hQ;obtain⟨t,rfl⟩:=hP i x hx;obtain⟨t',rfl⟩:=hP j y hy;exact gt_int (by simpa using hQ)
 ·exact getD_mem hb
 ·obtain⟨j,hj,rfl⟩:=mem_getD ha;exact(argBest_gt (λi=>ns.getD i 0) (ns.length-1)).2 j (by omega)
end
section
variable {X:Cx}
theorem qo{bs:List Bool}:∀{us:List Value},Vals (bs.map V.bl) us->us=bs.map Value.bool:=by
 induction bs with
 |nil=>intro us r;cases r;rfl
 |cons a bs ih=>
  intro us r;cases r with
  |cons r1 r2=>cases r1;rw[ih r2];rfl
theorem qt(bs:List Bool):((List.range bs.length).all λi=>bs.getD i true)=bs.all id:=by
 conv=>rhs;rw[<-rN.cy bs true]
 rw[all_map];rfl
theorem qu(bs:List Bool):((List.range bs.length).any λi=>bs.getD i false)=bs.any id:=by
 conv=>rhs;rw[<-rN.cy bs false]
 rw[any_map];rfl
theorem rS(hc:X.calm=true):bV X (.builtin "all") (λxs H Q=>∃(p:Addr) (bs:List Bool),xs=[.ref p]/\gD X.K H p (bs.map V.bl)/\Q (.bl (bs.all id)) H):=by
 intro pins s σ H xs us Q I r h;obtain⟨p,bs,rfl,hq,q⟩:=h;obtain⟨u,rfl,ru⟩:=vals1 r;cases ru;obtain⟨its,rv,pl,hz⟩:=I.list hq;have ev:=qo rv;subst ev;have hpl:=pl.isList;have hlt:p<s.heap.objs.size:=by obtain⟨_,e,_⟩:=hpl;exact aam e
 refine call_all_walk (wpAny_pyIter_list hpl ⟨s.heap.objs.size,[s.heap.objs.size,p],[s.heap.objs.size],_,_,_,λi=>bs.getD i true,rfl,Walks.list (A:=X.A.in1) (I.ok.hd hc) _ p (aat hlt) (bs.map Value.bool).toArray,
  ⟨⟨_,aaq _ rfl,rfl,rfl⟩,hpl.push _⟩,λi v s' Q' E' hP hQ=>?_,λh' tk hk=>?_⟩)
 ·have hi:i<bs.length:=by simpa using (Array.getElem?_eq_some_iff.mp hP).1
  have e:v=Value.bool (bs.getD i true):=by
   have:(bs.map Value.bool)[i]?=some v:=by simpa using hP
   simp[hi]at this;simp[hi,this]
  subst e;exact wpAny_truthy_bool hQ
 ·have e:((List.range (bs.map Value.bool).toArray.size).all λi=>bs.getD i true)=bs.all id:=by rw[aas,aaf];exact qt bs
  rw[e];exact⟨.bl _,H,I.kept λb o z=>hk b o (by simp;exact aat (aam z)) (aad _ z),rfl,q⟩
theorem rT(hc:X.calm=true):bV X (.builtin "any") (λxs H Q=>∃(p:Addr) (bs:List Bool),xs=[.ref p]/\gD X.K H p (bs.map V.bl)/\Q (.bl (bs.any id)) H):=by
 intro pins s σ H xs us Q I r h;obtain⟨p,bs,rfl,hq,q⟩:=h;obtain⟨u,rfl,ru⟩:=vals1 r;cases ru;obtain⟨its,rv,pl,hz⟩:=I.list hq;have ev:=qo rv;subst ev;have hpl:=pl.isList;have hlt:p<s.heap.objs.size:=by obtain⟨_,e,_⟩:=hpl;exact aam e
 refine call_any_walk (wpAny_pyIter_list hpl ⟨s.heap.objs.size,[s.heap.objs.size,p],[s.heap.objs.size],_,_,_,λi=>bs.getD i false,rfl,Walks.list (A:=X.A.in1) (I.ok.hd hc) _ p (aat hlt) (bs.map Value.bool).toArray,
  ⟨⟨_,aaq _ rfl,rfl,rfl⟩,hpl.push _⟩,λi v s' Q' E' hP hQ=>?_,λh' tk hk=>?_⟩)
 ·have hi:i<bs.length:=by simpa using (Array.getElem?_eq_some_iff.mp hP).1
  have e:v=Value.bool (bs.getD i false):=by
   have:(bs.map Value.bool)[i]?=some v:=by simpa using hP
   simp[hi]at this;simp[hi,this]
  subst e;exact wpAny_truthy_bool hQ
 ·have e:((List.range (bs.map Value.bool).toArray.size).any λi=>bs.getD i false)=bs.any id:=by rw[aas,aaf];exact qu bs
  rw[e];exact⟨.bl _,H,I.kept λb o z=>hk b o (by simp;exact aat (aam z)) (aad _ z),rfl,q⟩
section
open PySem.AutoSeq1 (wpAny_loadPart')
theorem uJ(l b:Addr)(items items2:Array Value)(n n2:Nat)(dd2:Option Addr)(sl2:Array (Option Value))(hs0:¬(!items.isEmpty&&Builtin.List.listTooLong (items.size+items2.size))=true)(hs1:items.size<=sizeLine)(hs2:items.size+items2.size<=sizeLine+1) :
  Meets (Builtin.«list.extend» ⟨[.ref l,.ref b],[]⟩) (λ_ R s=>s.heap.get? l=some { cls:=.type "list",data:=.seq items n }/\s.heap.get? b=some { cls:=.type "tuple",dict:=dd2,data:=.seq items2 n2,slots:=sl2 } /\
   R (.ok (.ret Value.none)) { s with heap:=s.heap.update l (Obj.mapSeq λx=>x++items2) }) :=
 .of_wp λprog w A R s h=>by
  obtain⟨hp,g,d,tk,os⟩:=s;obtain⟨hl,hb,h⟩:=h;have f2:=AutoSeq1.sub_tuple_tuple;have f3:=AutoSeq1.sub_list_list;have f4:=AutoSeq1.sub_tuple_list;have f5:=AutoSeq1.sub_list_tuple;have hz':(items++items2).size<=sizeLine+1:=by rw[Array.size_append];exact hs2
  wp_walk using (wpAny_updateSeq hl rfl (hz:=hs1) (_hz':=hz')),wpAny_loadPart' hl,wpAny_loadPart' hb
  exact⟨_,rfl,h⟩
end
def DQ(K:Frag):V->List V->Hp->VK->Prop:=λx vs H Q=>∃l b xs zs,x=.ref l/\vs=[.ref b]/\H l=some (.lst xs)/\iP K H b zs/\xs.length+zs.length<=sizeLine/\Q .non (upd H l (.lst (xs++zs)))
theorem yR:ML X "list.extend" (DQ X.K):=by
 intro pins s σ H x vs v us Q I rx rv h;obtain⟨l,b,xs,zs,rfl,rfl,hH,hB,hz,q⟩:=h;cases rx;obtain⟨u,rfl,ru⟩:=rv.one;cases ru;obtain⟨z,its,n,r,hl,e⟩:=I.MN hH;obtain⟨its2,r2,⟨⟨oc,od,UD,osl⟩,e2,ec,n2,ed⟩,z2⟩:=I.tuple hB;cases ec;cases ed;have l2:=r2.length;have hsz:its.toArray.size+its2.toArray.size<=sizeLine:=by rw[aas,aas];omega
 have Rv:¬ (!its.toArray.isEmpty&&Builtin.List.listTooLong (its.toArray.size+its2.toArray.size))=true:=by rw[DE hsz,Bool.and_false];exact aab
 refine call_meets F.slot_list_extend ⟨_,e,rfl⟩ F.entry_list_extend (F.args_list_extend_2 _ _)
  (uJ l b its.toArray its2.toArray n n2 od osl Rv (by rw[aas];omega) (by omega)) ⟨e,e2,?_⟩
 refine⟨.non,_,I.MM (its':=its++its2) hH e (by simp) (r.append r2) ?_,rfl,q⟩;rw[aaE];omega
theorem yS:∀{us:List Value},Vals (ys.map V.str) us->StrsAre us ys:=by
 induction ys with
 |nil=>intro us r;cases r;exact .nil
 |cons y ys ih=>
  intro us r;cases r with
  |cons r1 r2=>obtain⟨t,rfl⟩:=r1;exact .cons _ _ (ih r2)
def rJoin(K:Frag):V->List V->Hp->VK->Prop:=λx vs H Q=>∃(z:Str) (p:Addr) (ys:List Str),x=.str z/\vs=[.ref p]/\gD K H p (ys.map V.str)/\(ys.map (·.length)).sum+ys.length*z.length<=16777216/\Q (.str (Txt.join z ys)) H
theorem ID:ML X "str.join" (rJoin X.K):=by
 intro pins s σ H x vs v us Q I rx rv h;obtain⟨z,p,ys,rfl,rfl,hq,hz,q⟩:=h;obtain⟨t,rfl⟩:=rx;obtain⟨u,rfl,ru⟩:=rv.one;cases ru;obtain⟨its,r,pl,_⟩:=I.list hq;exact join_list pl.isList (by simpa using yS r) hz λt' k=>⟨.str _,H,I.tok _,⟨_,rfl⟩,q⟩
end
end L2
end
section
namespace L2
open PySem
def sS(xs:Array Nat):Prop:=xs.toList.Pairwise (· < ·)
structure Cut (xs:Array Nat) (j p:Nat):Prop where
 le:p<=xs.size
 lo:∀(i:Nat) (hi:i<xs.size),i<p->xs[i]<j
 hi:∀(i:Nat) (hi:i<xs.size),p<=i->j<=xs[i]
theorem Cut.one{xs:Array Nat}{j p q:Nat}(a:Cut xs j p)(b:Cut xs j q):p=q:=by
 rcases Nat.lt_trichotomy p q with h|h|h
 ·have hp:p<xs.size:=aao h b.le;have:=a.hi p hp (aal _);have:=b.lo p hp h;omega
 ·exact h
 ·have hq:q<xs.size:=aao h a.le;have:=b.hi q hq (aal _);have:=a.lo q hq h;omega
theorem sS.get{xs:Array Nat}(r:sS xs){a b:Nat}(ha:a<xs.size)(hb:b<xs.size)(h:a<b):xs[a]<xs[b]:=by
 have:=List.pairwise_iff_getElem.mp r a b (by simpa using ha) (by simpa using hb) h;simpa using this
theorem yT{xs:Array Nat}(r:sS xs)(j:Nat):∀(fuel lo hi:Nat),lo<=hi->hi<=xs.size->hi-lo<=fuel->(∀(i:Nat) (hi:i<xs.size),i<lo->xs[i]<j)->(∀(i:Nat) (h:i<xs.size),hi<=i->j<=xs[i])->Cut xs j (SetTable.below.go xs j fuel lo hi)
 | 0,lo,hi,h1,h2,h3,a,b=>by
  have:lo=hi:=by omega
  subst this;exact⟨h2,a,b⟩
 | fuel+1,lo,hi,h1,h2,h3,a,b=>by
  unfold SetTable.below.go
  by_cases hlt:lo<hi
  ·rw[aan hlt]
   dsimp only;have hm:(lo+hi)/2<xs.size:=by omega
   have eg:xs.getD ((lo+hi)/2) j=xs[(lo+hi)/2]:=by simp[Array.getD,hm]
   rw[eg]
   by_cases hc:xs[(lo+hi)/2]<j
   ·rw[aan hc]
    refine yT r j fuel _ hi (by omega) h2 (by omega) (λi hi' hl=>?_) b
    by_cases e:i=(lo+hi)/2
    ·subst e;exact hc
    ·exact lt_trans (r.get hi' hm (by omega)) hc
   ·rw[aaj hc]
    refine yT r j fuel lo _ (by omega) (by omega) (by omega) a (λi hi' hl=>?_)
    by_cases e:i=(lo+hi)/2
    ·subst e;omega
    ·have:=r.get hm hi' (by omega);omega
  ·rw[aaj hlt]
   have:lo=hi:=by omega
   subst this;exact⟨h2,a,b⟩
theorem kH{xs:Array Nat}(r:sS xs)(j:Nat):Cut xs j (SetTable.below xs j) :=
 yT r j xs.size 0 xs.size (zero_le _) (aal _) (by omega) (λi _ h=>by omega) (λi h hl=>by omega)
theorem yU{xs:Array Nat}(r:sS xs):SetTable.below xs 0=0:=(kH r 0).one ⟨zero_le _,λi _ h=>by omega,λi _ _=>zero_le _⟩
theorem yV{xs:Array Nat}(r:sS xs){i:Nat}(hi:i<xs.size):SetTable.below xs (xs[i]+1)=i+1:=by
 refine(kH r _).one ⟨hi,λk hk h=>?_,λk hk h=>?_⟩
 ·by_cases e:k=i
  ·subst e;omega
  ·have:=r.get hk hi (by omega);omega
 ·have:=r.get hi hk (by omega);omega
theorem BY{xs:Array Nat}(r:sS xs){j:Nat}(h:j∈xs):xs[SetTable.below xs j]?=some j:=by
 obtain⟨k,hk,e⟩:=Array.mem_iff_getElem.mp h;have:SetTable.below xs j=k:=by
  refine(kH r j).one ⟨le_of_lt hk,λi hi h=>?_,λi hi h=>?_⟩
  ·have:=r.get hi hk h;omega
  ·by_cases e':i=k
   ·subst e';omega
   ·have:=r.get hk hi (by omega);omega
 rw[this,Array.getElem?_eq_getElem hk,e]
theorem BZ{xs:Array Nat}(r:sS xs){j:Nat}(h:j∉xs):sS (SetTable.insertAt xs (SetTable.below xs j) j):=by
 have c:=kH r j;unfold sS;rw[SetTable.toList_insertAt];have rl:xs.toList.Pairwise (· < ·):=r;have lo:∀a∈xs.toList.take (SetTable.below xs j),a<j:=λa ha=>by
  obtain⟨i,hi,e⟩:=List.mem_iff_getElem.mp ha;rw[length_take,aaI]at hi;rw[List.getElem_take]at e;have:=c.lo i (by omega) (by omega);rw[<-e];simpa using this
 have up:∀a∈xs.toList.drop (SetTable.below xs j),j<a:=λa ha=>by
  obtain⟨i,hi,e⟩:=List.mem_iff_getElem.mp ha;rw[length_drop,aaI]at hi;rw[List.getElem_drop]at e;have h1:=c.hi (SetTable.below xs j+i) (by omega) (by omega);have e':xs[SetTable.below xs j+i]'(by omega)=a:=by rw[<-e];simp
  rw[e']at h1;have:a≠j:=λz=>h (by rw[<-z,<-e'];exact Array.getElem_mem _);omega
 rw[List.pairwise_append];refine⟨rl.sublist (List.take_sublist _ _),pairwise_cons.mpr ⟨up,rl.sublist (List.drop_sublist _ _)⟩,λa ha b hb=>?_⟩
 rcases aau.mp hb with e|hb
 ·rw[e];exact lo a ha
 ·exact lt_trans (lo a ha) (up b hb)
theorem mL(n:Nat):sS (Array.range n):=by
 unfold sS;rw[Array.toList_range];exact List.pairwise_lt_range
theorem sU{t:SetTable}(r:sS t.place){j:Nat}(h:t.slot j=.empty\/t.slot j=.dummy):j∉t.place:=λhm=>by
 have e:=BY r hm;unfold SetTable.slot at h;dsimp only at h;rw[e]at h;simp at h
theorem lJ{h:Int}:∀(fuel:Nat) (p:SetTable.Probe) (j:Nat) (d:Option Nat),(∀k,p.dummy=some k->t.slot k=.dummy)->SetTable.probe.go t f h fuel p=some (.empty j d)->t.slot j=.empty/\∀k,d=some k->t.slot k=.dummy
 |0,p,j,d,hd,e=>by simp[SetTable.probe.go]at e
 | fuel+1,p,j,d,hd,e=>by
  have ad:∀q:SetTable.Probe,(t.advance q).dummy=q.dummy:=λq=>by unfold SetTable.advance;split<;>rfl
  unfold SetTable.probe.go at e;split at e
  ·rename_i hs;cases e;exact⟨hs,hd⟩
  ·rename_i hs;refine lJ fuel _ j d (λk hk=>?_) e;rw[ad]at hk;cases hk;exact hs
  ·split at e
   ·cases e
   ·exact lJ fuel _ j d (λk hk=>hd k (by rw[<-ad];exact hk)) e
theorem DR{t:SetTable}(r:sS t.place){h:Int}{s:Nat}{b:Bool}(e:t.freeSlot h=some (s,b)):s∉t.place:=by
 unfold SetTable.freeSlot at e;split at e
 ·rename_i j d hp
  cases e;obtain⟨h1,h2⟩:=lJ _ _ _ _ (λk hk=>by simp[SetTable.probeStart]at hk) hp;cases d with
  |none=>exact sU r (.inl h1)
  |some k=>exact sU r (.inr (h2 k rfl))
 ·cases e
theorem B0(r:sS t.place)(es:Array (Int×Value))(h:Int)(x:Value):sS (layNew t es h x).2.1.place/\(layNew t es h x).2.1.led=t.led:=by
 unfold layNew
 split
 ·rename_i s b e
  have fr:=DR r e;dsimp only;unfold SetTable.orStandIn
  split
  ·exact⟨BZ r fr,rfl⟩
  ·exact⟨mL _,rfl⟩
 ·exact⟨mL _,rfl⟩
theorem DS(r:sS t.place)(es:Array (Int×Value))(n:Nat):sS (relayAll t es n).2.1.place/\(relayAll t es n).2.1.led=t.led:=by
 unfold relayAll
 split
 ·rename_i t' order e
  dsimp only
  split
  ·unfold SetTable.relaid SetTable.laid at e;obtain⟨ow,e1,e⟩:=aac.mp e;cases e;refine⟨?_,rfl⟩;show List.Pairwise _ (List.map _ _).toArray.toList;rw[List.toList_toArray,pairwise_map];refine List.Pairwise.filterMap _ (R:=(· < ·)) (λa a' hl b hb b' hb'=>?_) List.pairwise_lt_range;obtain⟨x,_,rfl⟩:=aaD.mp hb;obtain⟨y,_,rfl⟩:=aaD.mp hb';exact hl
  ·exact⟨mL _,rfl⟩
 ·exact⟨mL _,rfl⟩
end L2
end
section
namespace L2
open PySem PyProof.Rows
def rV(w:World):Bool:=w.params.followText "set-order"
structure Lk (w:World) (es:Array (Int×Value)) (t:SetTable):Prop where
 few:es.size<scanBound
 fit:t.fits es.size=true
 rs:sS t.place
 led:t.led = !rV w
structure eW (prog:Program) (w:World) (h:Heap) (a:Addr) (o:Obj) (es:Array (Int×Value)) (ep:Nat) (t:SetTable) (ks:List Int):Prop where
 at_:h.get? a=some o
 ex:o.ExactSet
 dat:o.data=.set es ep t
 el:ElemsOf (intKind prog w) es.toList
 tab:Lk w es t
 Xf:ks.Nodup
 mem:∀k,k∈ks↔∃e∈es.toList,(intKind prog w).is k e.2=true
 num:es.size=ks.length
def pF(prog:Program)(w:World)(h:Heap)(a:Addr)(ks:List Int):Prop:=∃o es ep t,eW prog w h a o es ep t ks
def jQ(ks:List Int)(k:Int):List Int:=if k∈ks then ks else ks++[k]
section
variable {prog:Program} {w:World} {A:Around} {E:Value->Shared->Prop} {s:Shared}
theorem DT{h:Heap}{a:Addr}{o:Obj}{es es':Array (Int×Value)}{ep:Nat}{t t':SetTable}(ho:h.get? a=some o)(hd:o.data=.set es ep t):(h.update a (Obj.putSet es' t')).get? a=some { o with data:=.set es' (ep+1) t' }:=by
 have q:=aaM (Obj.putSet es' t') ho (by rw[putSet_of es' t' hd];rfl);rw[putSet_of es' t' hd]at q;exact q
theorem pF.frame{ks:List Int}(S:pF prog w h a ks)(k:∀o,h.get? a=some o->h'.get? a=some o):pF prog w h' a ks:=by
 obtain⟨o,es,ep,t,i⟩:=S;exact⟨o,es,ep,t,{ i with at_:=k o i.at_ }⟩
theorem mem_push{es es1:List (Int×Value)}{ks:List Int}{k:Int}(hx:(intKind prog w).is k x=true)(hm:∀j,j∈ks↔∃e∈es,(intKind prog w).is j e.2=true)(p:es1.Perm (es++[((intKind prog w).hash k,x)]))(j:Int) :
  j∈ks++[k]↔∃e∈es1,(intKind prog w).is j e.2=true:=by
 rw[mem_append,aay,hm];constructor
 ·rintro(⟨e,he,q⟩|rfl)
  ·exact⟨e,p.mem_iff.mpr (mem_append_left _ he),q⟩
  ·exact⟨_,p.mem_iff.mpr (aaJ _ aah),hx⟩
 ·rintro⟨e,he,q⟩
  rcases mem_append.mp (p.mem_iff.mp he) with z|z
  ·exact .inl ⟨e,z,q⟩
  ·rw[aay]at z;subst z;exact .inr ((intKind prog w).inj x j k q hx)
theorem wu{g:Bool->Sem Unit}(hg:∀(b:Bool) (s₁:Shared) (Q':Unit->Shared->Prop),Q' () s₁->wpAny (model prog w) A (g b) Q' E s₁)
  {a:Addr} {o:Obj} {es es1:Array (Int×Value)} {ep:Nat} {t t2:SetTable} {ks:List Int} (ho:s.heap.get? a=some o) (hex:o.ExactSet) (hd:o.data=.set es ep t)
  (hel:ElemsOf (intKind prog w) es1.toList) (hm:∀k,k∈ks↔∃e∈es1.toList,(intKind prog w).is k e.2=true) (hnd:ks.Nodup) (hn:es1.size=ks.length) (ht:Lk w es1 t2) {b:Bool} {R:Option Bool->Shared->Prop}
  (h:∀h',Heap.SameBut a s.heap h'->pF prog w h' a ks->R (some true) { s with heap:=h' }) :
  wpAny (model prog w) A (do
    storeSet a es1 t2
    if (!b&&t2.tooFull)=true then do
      g (relayAll t2 es1 (SetTable.grown es1.size)).2.2
      storeSet a (relayAll t2 es1 (SetTable.grown es1.size)).1 (relayAll t2 es1 (SetTable.grown es1.size)).2.1
      pure (some true)
     else pure (some true)) R E s:=by
 refine aaa (wpAny_storeSet_of ho hd ?_ (fits_of_scanBound ht.few));have h1:=DT (es':=es1) (t':=t2) ho hd;have b1:=Heap.SameBut.update s.heap a (Obj.putSet es1 t2)
 split
 ·have p:=relayAll_perm t2 es1 (SetTable.grown es1.size)
  have f:=relayAll_fits t2 es1 (SetTable.grown es1.size);have rr:=DS ht.rs es1 (SetTable.grown es1.size);generalize relayAll t2 es1 (SetTable.grown es1.size)=Rl at p f rr |-;obtain⟨VJ,t3,gv⟩:=Rl;dsimp only at p f rr |-;have z:VJ.size=es1.size:=by rw[<-aaI,p.length_eq,aaI]
  have few:VJ.size<scanBound:=by rw[z];exact ht.few
  refine aaa (hg _ _ _ ?_);refine aaa (wpAny_storeSet_of h1 rfl ?_ (fits_of_scanBound few));refine aag (h _ (b1.trans (Heap.SameBut.update _ a _)) ⟨_,VJ,_,t3,DT h1 rfl,hex,rfl,hel.perm p,⟨few,f,rr.1,rr.2.trans ht.led⟩,hnd,λk=>(hm k).trans ⟨λ⟨e,he,q⟩=>⟨e,p.mem_iff.mpr he,q⟩,λ⟨e,he,q⟩=>⟨e,p.mem_iff.mp he,q⟩⟩,z.trans hn⟩)
 ·exact aag (h _ b1 ⟨_,es1,_,t2,h1,hex,rfl,hel,ht,hnd,hm,hn⟩)
theorem add_int{ks:List Int}{k:Int}(S:pF prog w s.heap a ks)(room:ks.length+1<scanBound)
  (h:∀h' b,Heap.SameBut a s.heap h'->pF prog w h' a (jQ ks k)->Q b { s with heap:=h' }) :
  wpAny (model prog w) A (setAddHashed a (.int k tk) ((intKind prog w).hash k)) Q E s:=by
 obtain⟨o,es,ep,t,I⟩:=S;have hx:(intKind prog w).is k (.int k tk)=true:=intKind_is _ _ _ _;have sc:(Value.int k tk).scannable=true:=rfl;unfold setAddHashed setAddHashedIn;refine wpAny_holding (aaa (wpAny_setState_of I.at_ I.dat I.tab.fit ?_));dsimp only;rw[byScan_of sc I.tab.few I.el];simp only[↓reduceIte];unfold setAddByScan;refine aaa (aaa (wpAny_rule (aaa (wpAny_setScan_of hx I.at_ I.dat I.tab.fit I.el ?_))));cases hr:List.findIdx? (λe=>(intKind prog w).is k e.2) es.toList with
 |some j=>
  dsimp only;obtain⟨hj,pj,_⟩:=List.findIdx?_eq_some_iff_getElem.mp hr;have hk:k∈ks:=(I.mem k).mpr ⟨es.toList[j],List.getElem_mem hj,pj⟩;refine aag (aag ?_);have e:s={ s with heap:=s.heap }:=by cases s;rfl
  rw[e];exact h s.heap _ (Heap.SameBut.refl a s.heap) (by unfold jQ;rw[aan hk];exact⟨o,es,ep,t,I⟩)
 |none=>
  dsimp only;have hk:k∉ks:=λz=>by
   obtain⟨e,he,p⟩:=(I.mem k).mp z;have:=List.findIdx?_eq_none_iff.mp hr e he;rw[p]at this;cases this
  have gw:∀(b:Bool) (s₁:Shared) (Q':Unit->Shared->Prop),Q' () s₁->wpAny (model prog w) A (match b with|true=>rule "set.scan.the-table-gave-way" | false=>pure ()) Q' E s₁:=λb s₁ Q' q=>by
   cases b
   ·exact aag q
   ·exact wpAny_rule q
  have p:=layNew_perm t es ((intKind prog w).hash k) (.int k tk);have f:=layNew_fits t es ((intKind prog w).hash k) (.int k tk);have rr:=B0 I.tab.rs es ((intKind prog w).hash k) (.int k tk);generalize layNew t es ((intKind prog w).hash k) (.int k tk)=Ln at p f rr |-;obtain⟨es1,t1,wd,gv⟩:=Ln;dsimp only at p f rr |-;rw[Array.toList_push]at p;have z:es1.size=(ks++[k]).length:=by rw[<-aaI,p.length_eq,aaE,aaE,aaI,I.num];rfl
  have few:es1.size<scanBound:=by rw[z,aaE];simpa using room
  have nd:(ks++[k]).Nodup:=by rw[nodup_append];exact⟨I.Xf,by simp,λx hx' y hy e=>hk (by rw[aay]at hy;rw[<-hy,<-e];exact hx')⟩
  have Xg:ElemsOf (intKind prog w) es1.toList:=(I.el.push hx sc).perm p;have m1:=mem_push hx I.mem p;have fin:∀h',Heap.SameBut a s.heap h'->pF prog w h' a (ks++[k])->Q true { s with heap:=h' }:=λh' sb S'=>h h' true sb (by unfold jQ;rw[aaj hk];exact S');refine aaa (gw _ _ _ ?_)
  split
  ·refine aaa ?_
   rw[hashByValue_scannable 8 sc];refine aag ?_;refine wu gw I.at_ I.ex I.dat Xg m1 nd z ⟨few,?_,?_,?_⟩ λh' sb S'=>aag (fin h' sb S')
   ·split
    ·exact f
    ·exact SetTable.fits_plain_off f
   ·split
    ·exact rr.1
    ·exact rr.1
   ·split
    ·exact rr.2.trans I.tab.led
    ·exact rr.2.trans I.tab.led
  ·refine aaa (aag ?_);simp only[↓reduceIte];exact wu gw I.at_ I.ex I.dat Xg m1 nd z ⟨few,f,rr.1,rr.2.trans I.tab.led⟩ λh' sb S'=>aag (fin h' sb S')
end
def bD:List Int->List Int->List Int
 |ks,[]=>ks
 |ks,k::r=>bD (jQ ks k) r
theorem mP(ks:List Int)(k:Int):(jQ ks k).length<=ks.length+1:=by unfold jQ;split<;>simp
section
variable {prog:Program} {w:World} {A:Around} {E:Value->Shared->Prop} {s:Shared}
theorem DU{R:Result->Shared->Prop}{I:Addr}{fp wr:List Addr}{G:Array GenState->Array GenState->Prop}{n:Nat}{P:Nat->Value->Prop}{St:Nat->Shared->Prop}(W:WalksS prog w A.in1 I fp wr G n P St)(S:Addr)(hSf:S∉fp)(val:Nat->Int)(hval:∀i v,P i v->∃t,v=.int (val i) t) :
  ∀(k i:Nat) (s:Shared) (ks:List Int),n-i=k->i<=n->ks.length+k+1<scanBound->St i s->pF prog w s.heap S ks ->
   (∀s',Moved (S::wr) G s s'->pF prog w s'.heap S (bD ks ((range' i k).map val))->R (.ok (.ret .none)) s') ->
   codeAny (model prog w) A (.builtin "set.update.loop" ⟨[.ref S,.ref I],[]⟩) R s:=by
 have Xh:S∉wr:=λh=>hSf (W.sub _ h);have sub:∀b∈wr,b∈S::wr:=λb hb=>aae _ hb;intro k
 induction k with
 |zero=>
  intro i s ks hk hi _ hst hS hR;have:i=n:=by omega
  subst this;refine codeAny_builtin PyProof.Rows.F.entry_set_update_loop ?_;rw[Around.under_plainId PyProof.Rows.F.plain_set_update_loop _];show wpAny _ A.in1 (pyNext (.ref I) >>= _) _ _ s;refine aaa (W.done s _ _ hst λs' hm=>?_);show wpAny _ A.in1 (ret Value.none) _ _ s';exact aag (hR s' (hm.mono sub) (hS.frame λo e=>hm.heap S _ Xh e))
 |succ k ih=>
  intro i s ks hk hi hl hst hS hR;have hlt:i<n:=by omega
  refine codeAny_builtin PyProof.Rows.F.entry_set_update_loop ?_;rw[Around.under_plainId PyProof.Rows.F.plain_set_update_loop _];show wpAny _ A.in1 (pyNext (.ref I) >>= _) _ _ s;refine aaa (W.item i s _ _ hlt hst λv s' hP VL hm=>?_);obtain⟨t,rfl⟩:=hval i v hP;have hS':=hS.frame (h':=s'.heap) λo e=>hm.heap S _ Xh e;show wpAny _ A.in1 (holding [Value.int (val i) t] (setAdd S (.int (val i) t)) >>= _) _ _ s';refine aaa (wpAny_holding ?_);unfold setAdd;refine wpAny_holding (aaa ((intKind prog w).pyHash (k:=val i) (intKind_is _ _ _ _) ?_));refine add_int (s:={ s' with toks:=s'.toks+1 }) hS' (by omega) λh' b sb S2=>?_;have hl2:=mP ks (val i);refine aag ⟨plainId_quiet PyProof.Rows.F.plain_set_update_loop _,ih (i+1) _ (jQ ks (val i)) (by omega) hlt (by omega) (W.frame _ s' _ _ VL (le_succ _) λb hb o e=>?_) S2 λs'' MR S3=>?_⟩
  ·rw[sb.2 b λz=>hSf (by rw[<-z];exact hb)];exact e
  ·refine hR s'' (Moved.trans W.gtrans ((hm.mono sub).then_heap (le_succ _) λb o hb e=>?_) MR) ?_
   ·rw[sb.2 b λz=>hb (by rw[z];exact aah)];exact e
   ·rw[List.range'_succ,aar,bD];exact S3
abbrev qv(w:World):Obj:={ cls:=.type "set",dict:=none,data:=.set #[] 0 (.fresh 0 0 (!rV w)) }
theorem IF(e:h.get? a=some (qv w)):pF prog w h a [] :=
 ⟨_,#[],0,_,e,⟨rfl,rfl,rfl⟩,rfl,λx hx=>by simp at hx,⟨by show 0<4096;decide,rfl,List.Pairwise.nil,rfl⟩,nodup_nil,λk=>by simp,rfl⟩
theorem DV(a:Value)(h:Q₁ (.ref s.heap.objs.size) { s with heap:=s.heap.push (qv w) }) :
  codeAny (model prog w) A (.call (.builtin "set.__new__") ⟨[.type "set",a],[]⟩) (wants Q₁ E) s:=by
 refine codeAny_of_tree ?_;show wpAny _ A.in1 (do checkBuiltinCall "set.__new__" ⟨[.type "set",a],[]⟩;again (.builtin "set.__new__" ⟨[.type "set",a],[]⟩)) _ _ s;refine aaa (wpAny_of_eq (PySem.F.newCall_set_1 a) (aag ⟨plainId_quiet PySem.F.plain_set_new _,codeAny_builtin PySem.F.entry_set_new ?_⟩));rw[Around.under_plainId PySem.F.plain_set_new _];unfold Builtin.«set.__new__» Builtin.Frozenset.newClass;have hsub:=sub_set_self;obtain⟨hp,g,d,tk,os⟩:=s;dsimp only
 wp_walk
 refine wpAny_askSetting (aag ?_);dsimp only;simp only[newObj];refine aaa (wpAny_alloc (aag ?_));exact aag h
end
section
variable {prog:Program} {w:World} {A:Around} {E:Value->Shared->Prop} {s:Shared}
theorem yW{ns:List Int}(hi:IntsAre vs ns):(range' 0 vs.length).map (λi=>ns.getD i 0)=ns:=by
 have hl:=IntsAre.length hi;apply ext_getElem
 ·rw[aaf,List.length_range',hl]
 ·intro i h1 h2;simp[List.getD,h2]
theorem wz{ns:List Int}(hh:A.handled=none)(hl:s.heap.IsList l items)(hi:IntsAre items.toList ns)(hb:items.size+1<scanBound)
  (h:∀(h':Heap) (tk:Nat),pF prog w h' s.heap.objs.size (bD [] ns)->(∀b o,b<s.heap.objs.size->s.heap.get? b=some o->h'.get? b=some o)->Q (.ref s.heap.objs.size) { s with heap:=h',toks:=tk }) :
  wpAny (model prog w) A (call (.type "set") [.ref l]) Q E s:=by
 obtain⟨c,tl,mro⟩:=PySem.F.called_set.mro;have made:=PySem.F.called_set.made;have sub:=PySem.F.called_set.sub;refine wpAny_call (codeAny_of_tree ?_);show wpAny _ _ (callAny (.type "set") _) _ _ _;refine aag ⟨Code.quiet_builtin _ (by decide +kernel),codeAny_builtin PySem.F.entry_type_call ?_⟩;rw[Around.under_plain (weight_type_call_type "set" [.ref l] []) rfl];have n1:=PySem.F.called_set.notType;have n2:=PySem.F.called_set.canCreate;have n3:=PySem.F.typeCall_set_1 (.ref l)
 repeat (any_goals (first|assumption|wp_step))
 refine codeAny_mono (DV (.ref l) (E:=E) (Q₁:=λobj s₁=>obj=.ref s.heap.objs.size/\s₁={ s with heap:=s.heap.push (qv w) }) ⟨rfl,rfl⟩) λr s₁ hr=>?_;cases r with
 |error e=>exact hr
 |ok fl=>
  cases fl with
  |ret obj=>
   obtain⟨rfl,rfl⟩:=hr;have Xi:(s.heap.push (qv w)).get? s.heap.objs.size=some (qv w):=aaq _ rfl;have hT:Shared.TypeIs { s with heap:=s.heap.push (qv w) } (.ref s.heap.objs.size) "set":=⟨_,Xi,rfl⟩;have look:=PySem.F.called_set.init.lookup;have bind:=PySem.F.called_set.init.bind (.ref s.heap.objs.size)
   repeat (any_goals (first|assumption|wp_step))
   refine codeAny_mono (codeAny_call_builtin (R:=wants (λr s₂=>r=.none/\∃h' tk,s₂={ s with heap:=h',toks:=tk }/\pF prog w h' s.heap.objs.size (bD [] ns) /\
     (∀b o,b<s.heap.objs.size->s.heap.get? b=some o->h'.get? b=some o)) E) PySem.F.called_set.init.plain PySem.F.entry_set_init (check_set_init_1 hT ?_)) λr₂ s₂ VM=>?_
   ·obtain⟨ol,Xj,cl,nl,dl⟩:=hl
    obtain⟨oc,od,Xk,os⟩:=ol;simp only at cl dl;subst cl;subst dl;have VN:(s.heap.push (qv w)).get? l=some { cls:=.type "list",dict:=od,data:=.seq items nl,slots:=os }:=aad _ Xj;have q1:=PySem.F.sub_list_set;have q2:=PySem.F.sub_list_frozenset;have q3:(Value.type "list" == Value.type "dict")=false:=by decide
    have hl1:(s.heap.push (qv w)).IsList l items:=⟨_,VN,rfl,nl,rfl⟩;unfold Builtin.«set.__init__» noKeywords Builtin.Frozenset.updateFrom;generalize YY:pyIter=PI
    wp_walk
    subst YY;refine wpAny_pyIter_list hl1 (aaa (wpAny_runValue ?_));have lS:l<s.heap.objs.size:=aam Xj;have h3:A.in1.in1.in1.handled=none:=by simp[hh]
    have YZ:l≠(s.heap.push (qv w)).objs.size:=by rw[Heap.size_push];exact aat (lt_succ_of_lt lS)
    have sF:s.heap.objs.size∉[(s.heap.push (qv w)).objs.size,l]:=by rw[Heap.size_push];simp only[mem_cons,not_mem_nil,or_false,not_or];exact⟨aat (lt_succ_self _),ne_of_gt lS⟩
    have val:∀(i:Nat) (v:Value),items[i]?=some v->∃t,v=.int ((λi=>ns.getD i 0) i) t:=λi v hv=>IntsAre.int_at hi i v (by rw[getElem?_toList];exact hv);refine DU ((Walks.list h3 _ l YZ items).toS) s.heap.objs.size sF (λi=>ns.getD i 0) val (items.size-0) 0 _ [] (by omega) (zero_le _) (by simpa using hb) ⟨⟨_,aaq _ rfl,rfl,rfl⟩,hl1.push _⟩ ?s0 ?sR
    case s0=>exact IF (aad _ Xi)
    case sR=>
     intro s' hm S';obtain⟨h',g',d',tk',os'⟩:=s';have eg:g'=s.gens:=hm.gens;have ed:d'=s.drawn:=hm.drawn;have eo:os'=s.os:=hm.os;subst eg;subst ed;subst eo;refine aag ?_;show wpAny _ _ (ret Value.none) _ _ _;have e0:(range' 0 (items.size-0)).map (λi=>ns.getD i 0)=ns:=by have:=yW hi;rw[aaI]at this;exact this
     rw[e0] at S';refine aag ⟨rfl,h',tk',rfl,S',λb o hb e=>?_⟩;have b1:b≠s.heap.objs.size:=aat hb;have b2:b≠(s.heap.push (qv w)).objs.size:=by rw[Heap.size_push];exact aat (lt_succ_of_lt hb)
     exact hm.heap b o (by simp only[mem_cons,not_mem_nil,or_false,not_or];exact⟨b1,b2⟩) (aad _ (aad _ e))
   ·cases r₂ with
    |error e=>exact VM
    |ok Y0=>
     cases Y0 with
     |ret r=>
      obtain⟨rfl,h',tk,rfl,S',hk⟩:=VM
      repeat (any_goals (first|assumption|wp_step))
      exact h _ _ S' hk
     |_=>exact VM.elim
  |_=>exact hr.elim
end
namespace SI
theorem yX:entryFor table "set.__iter__" = some Builtin.«frozenset.__iter__» :=
 entryFor_alias (id':="frozenset.__iter__") (by kernel_rfl) rfl (by decide +kernel) (by kernel_rfl)
theorem owner:Manifest.owners.lookup (String.ofList ['r','o','t','a','r','e','t','i','_','t','e','s'].reverse)=some Manifest.sig_set_iterator:=by kernel_rfl
theorem slot_next:Slot "set_iterator" "__next__" "set_iterator.__next__" :=
 .of (owner:="set_iterator") (n:="__next__") (by rw[typeLookup_type,builtinLookup_eq_fast];kernel_rfl) (by decide +kernel) (by decide +kernel) (by decide +kernel) (by first|exact .inl (by decide +kernel)|exact .inr (by decide +kernel)) (by rw[isSubtype_type];kernel_rfl)
theorem entry_next:entryFor table "set_iterator.__next__" = some Builtin.«set_iterator.__next__»:=entryFor_of_tree (by kernel_rfl)
theorem args_next(a:Value):argsOk "set_iterator.__next__" ⟨[a],[]⟩:=by
 unfold argsOk;rw[signature?_of (id:="set_iterator.__next__") (n:=['_','_','t','x','e','n','_','_']) (o:=['r','o','t','a','r','e','t','i','_','t','e','s']) (by kernel_rfl) owner];kernel_rfl
theorem sW:Slot "set_iterator" "__iter__" "set_iterator.__iter__" :=
 .of (owner:="set_iterator") (n:="__iter__") (by rw[typeLookup_type,builtinLookup_eq_fast];kernel_rfl) (by decide +kernel) (by decide +kernel) (by decide +kernel) (by first|exact .inl (by decide +kernel)|exact .inr (by decide +kernel)) (by rw[isSubtype_type];kernel_rfl)
theorem entry_self:entryFor table "set_iterator.__iter__" = some Builtin.«dict_keyiterator.__iter__» :=
 entryFor_alias (id':="dict_keyiterator.__iter__") (by kernel_rfl) rfl (by decide +kernel) (by kernel_rfl)
theorem B3(a:Value):argsOk "set_iterator.__iter__" ⟨[a],[]⟩:=by
 unfold argsOk;rw[signature?_of (id:="set_iterator.__iter__") (n:=['_','_','r','e','t','i','_','_']) (o:=['r','o','t','a','r','e','t','i','_','t','e','s']) (by kernel_rfl) owner];kernel_rfl
end SI
section
variable {prog:Program} {w:World} {A:Around} {E:Value->Shared->Prop} {s:Shared}
def fL(h:Heap)(it:Addr)(f:Value)(i:Nat)(a:Addr)(n ep:Nat):Prop:=∃o,h.get? it=some o/\o.cls=.type "set_iterator" /\ o.data=.fields [f,.int i 0,.ref a,.int n 0,.int ep 0].toArray
theorem fL.typeIs{i:Nat}{n ep:Nat}(x:fL s.heap it f i a n ep):s.TypeIs (.ref it) "set_iterator":=let ⟨o,ho,hc,_⟩:=x;⟨o,ho,hc⟩
theorem nS{i:Nat}{n ep:Nat}(x:fL s.heap it f i a n ep)(h:Q (.ref it) s):wpAny (model prog w) A (pyIter (.ref it)) Q E s:=by
 refine wpAny_pyIter_slot x.typeIs SI.sW (wpAny_call_entry SI.sW x.typeIs SI.entry_self ?_ (SI.B3 _));exact aag ⟨_,rfl,"set_iterator",_,x.typeIs,SI.slot_next.lookup,h⟩
end
section
variable {prog:Program} {w:World} {A:Around} {E:Value->Shared->Prop} {s:Shared}
theorem iD{ep:Nat}(ho:s.heap.get? a=some o)(hd:o.data=.set es ep t)(hf:t.fits es.size=true)(h:Q es s):wpAny (model prog w) A (setEntries a) Q E s:=by
 unfold setEntries;exact aaa (wpAny_setState_of ho hd hf (aag h))
theorem kI(h:Q (rV w) s):wpAny (model prog w) A setsByText Q E s:=by
 unfold setsByText;exact aaa (wpAny_askSetting (aag h))
theorem sX{ep sl g:Nat}{ks:List Int}(S:eW prog w s.heap a o es ep t ks)(hb:rV w=false)(hp:(!t.plain&&decide (es.size>1))=false)
  (hQ:Q (match es[SetTable.below t.place sl]?,t.place[SetTable.below t.place sl]? with|some (_,x),some j=>some (x,j+1)|_,_=>none) s):wpAny (model prog w) A (setNext a sl g ep) Q E s:=by
 have led:t.led=true:=by rw[S.tab.led,hb];rfl
 unfold setNext;refine aaa (wpAny_setState_of S.at_ S.dat S.tab.fit ?_);dsimp only;refine aaa (kI ?_);rw[hb];simp only[false_eq_true,↓reduceIte];rw[aaj (λz=>by
  have z':(!t.plain&&decide (es.size>1))=true:=z;rw[hp]at z';cases z')]
 refine aaa ?_;show wpAny _ _ (if (!t.led && !es.isEmpty)=true then Sem.unsupported "set:maker-not-led" else pure ()) _ _ _;rw[aaj (by rw[led];simp)];exact aag (aag hQ)
theorem sY{ep sl g:Nat}{ks:List Int}(S:eW prog w s.heap a o es ep t ks)(hb:rV w=true)
  (hQ:Q (((pickOrder (w.params.setOrder a ep) es)[g]?).map λe=>(e.2,sl)) s):wpAny (model prog w) A (setNext a sl g ep) Q E s:=by
 unfold setNext;refine aaa (wpAny_setState_of S.at_ S.dat S.tab.fit ?_);dsimp only;refine aaa (kI ?_);rw[hb];simp only[bne_self_eq_false,false_eq_true,↓reduceIte];unfold setWalk;refine aaa (aaa (wpAny_setState_of S.at_ S.dat S.tab.fit ?_));dsimp only;refine aaa (kI ?_);rw[hb];simp only[↓reduceIte];exact aaa (wpAny_askSetting (aag (aag hQ)))
theorem mQ{ep:Nat}{ks:List Int}{i sl:Nat}(hh:A.handled=none)(x:fL s.heap it (.int sl 0) i a es.size ep)(S:eW prog w s.heap a o es ep t ks)
  (hn:∀(A:Around) (E:Value->Shared->Prop) (Q:Option (Value×Nat)->Shared->Prop),Q r s->wpAny (model prog w) A (setNext a sl i ep) Q E s)
  (hQ:∀v nx,r=some (v,nx)->∀h',fL h' it (.int (nx:Nat) 0) (i+1) a es.size ep->Heap.SameBut it s.heap h'->Q (some v) { s with heap:=h' })
  (hE:r=none->∀h',Heap.ExtBut it s.heap h'->Q none { s with heap:=h' }):wpAny (model prog w) A (pyNext (.ref it)) Q E s:=by
 obtain⟨oi,Hu,VO,hdi⟩:=id x;unfold pyNext;refine aaa (wpAny_attempt (wpAny_callSpecial?_slot (name:=Str.ofString "__next__") x.typeIs SI.slot_next (wpAny_call_entry SI.slot_next x.typeIs SI.entry_next ?_ (SI.args_next _))));unfold Builtin.«set_iterator.__next__»;refine aaa (aag ?_);refine aaa (wpAny_fieldsOf Hu hdi ?_);dsimp only;refine aaa (iD S.at_ S.dat S.tab.fit ?_);rw[aaj (by simp)];refine aaa (hn _ _ _ ?_);cases r with
 |some p=>
  obtain⟨v,nx⟩:=p;dsimp only;refine aaa (wpAny_setField Hu hdi (by simp) ?_);have h1:=aaM (Obj.mapFields (·.setIfInBounds 0 (rawInt nx))) Hu (Obj.isFreed_of_fields (Obj.data_mapFields hdi _));have d1:=Obj.data_mapFields hdi (·.setIfInBounds 0 (rawInt nx));refine aaa (wpAny_setField h1 d1 (by simp) ?_);have h2:=aaM (Obj.mapFields (·.setIfInBounds 1 (rawInt ((i:Int)+1)))) h1 (Obj.isFreed_of_fields (Obj.data_mapFields d1 _));refine aag ⟨_,rfl,aag (hQ v nx rfl _ ⟨_,h2,?_,?_⟩ ((Heap.SameBut.update ..).trans (Heap.SameBut.update ..)))⟩
  ·rw[Obj.cls_mapFields,Obj.cls_mapFields];exact VO
  ·rw[Obj.data_mapFields d1];simp[rawInt]
 |none=>dsimp only;refine aaa (wpAny_setField Hu hdi (by simp) ?_);refine aaa ?_;simp only[newExc,newTuple];refine aaa (aaN ?_ (by size_fits));refine aaa (m:=firstArgMember _ _) (wpAny_of_eq (a:=Value.none) (by first|rfl|(simp only[firstArgMember];rfl)) ?_);refine aaN ?_ (by size_fits);simp only[raiseNew];refine aaa (wpAny_handled ?_);rw[show A.in1.handled=none from hh];refine aaa (aag (wpAny_throw ?_));refine aaa (wpAny_isInstance (T:="StopIteration") (b:=true) ⟨_,aaq _ rfl,rfl⟩ isSubtype_stop ?_);exact aag (hE rfl _ (((Heap.SameBut.update ..).extBut.push _).push _))
end
theorem lK{α:Type}:∀(l:List α) (i:Nat) (h:i<l.length),(l[i]::l.eraseIdx i).Perm l
 |x::l,0,_=>List.Perm.refl _
 | x::l,i+1,h=>by
  simp only[List.getElem_cons_succ,List.eraseIdx_cons_succ];exact(List.Perm.swap _ _ _).trans (List.Perm.cons x (lK l i (by simpa using h)))
section
variable {prog:Program} {w:World} {A:Around} {E:Value->Shared->Prop} {s:Shared}
theorem B4{n:Nat}(hn:n≠0)(h:∀i d,i<n->Q i { s with drawn:=d }):wpAny (model prog w) A (choose src n) Q E s:=fun Γ p hΓ=>by
 show Sem.wp _ _ (Sem.choose src n Sem.pure) _ _ _ _;rw[Sem.wp];exact⟨hn,h _ _ (mod_lt _ (Nat.pos_of_ne_zero hn))⟩
theorem Ae{α:Type}:∀(n:Nat) (xs:List α) (s:Shared) (Q:List α -> Shared->Prop),xs.length=n->(∀ys d,ys.Perm xs->Q ys { s with drawn:=d })->wpAny (model prog w) A (drawOrder n xs) Q E s
 | 0,xs,s,Q,hl,h=>by
  have:xs=[]:=List.eq_nil_of_length_eq_zero hl;subst this;unfold drawOrder;exact aag (h [] s.drawn (List.Perm.refl _))
 |n+1,[],s,Q,hl,h=>by simp at hl
 | n+1,x::xs,s,Q,hl,h=>by
  unfold drawOrder;refine aaa (B4 (by simp) λi d hi=>?_);have hx:(x::xs)[i]?=some ((x::xs)[i]):=aav hi;rw[hx];dsimp only;refine aaa (Ae n ((x::xs).eraseIdx i) _ _ (by rw[List.length_eraseIdx,aan hi];simp at hl |-;omega) λys d' p=>aag ?_);exact h _ d' (((List.Perm.cons _ p).trans (lK _ i hi)))
theorem qw{ep c:Nat}{ks:List Int}{i:Nat}{ps:List Nat}(hh:A.handled=none)(x:fL s.heap it (.ref td) i a es.size ep)(S:eW prog w s.heap a o es ep t ks)
  (hT:s.heap.get? td=some oT) (UE:oT.data=.seq (ps.map λ(j:Nat)=>rawInt j).toArray c) (hlt:∀j∈ps,j<es.size)
  (hQ:∀j e,ps[i]?=some j->es[j]?=some e->∀h',fL h' it (.ref td) (i+1) a es.size ep->Heap.SameBut it s.heap h'->Q (some e.2) { s with heap:=h' })
  (hE:ps[i]?=none->∀h',Heap.ExtBut it s.heap h'->Q none { s with heap:=h' }):wpAny (model prog w) A (pyNext (.ref it)) Q E s:=by
 obtain⟨oi,Hu,VO,hdi⟩:=id x;unfold pyNext;refine aaa (wpAny_attempt (wpAny_callSpecial?_slot (name:=Str.ofString "__next__") x.typeIs SI.slot_next (wpAny_call_entry SI.slot_next x.typeIs SI.entry_next ?_ (SI.args_next _))));unfold Builtin.«set_iterator.__next__»;refine aaa (aag ?_);refine aaa (wpAny_fieldsOf Hu hdi ?_);dsimp only;refine aaa (iD S.at_ S.dat S.tab.fit ?_);rw[aaj (by simp)];refine aaa (wpAny_seqItems hT UE ?_);dsimp only;have hg:((ps.map λ(j:Nat)=>rawInt j).toArray)[((i:Nat):Int).toNat]?=(ps[i]?).map λ(j:Nat)=>rawInt j:=by simp
 rw[hg];cases hp:ps[i]? with
 |some j=>
  have hj:j<es.size:=hlt j (aaA hp);simp only[map_some,rawInt];refine aaa ?_;unfold setNextDrawn;refine aaa (wpAny_setState_of S.at_ S.dat S.tab.fit ?_);dsimp only;rw[aaj (by simp)];have Y3:es[((j:Nat):Int).toNat]?=some es[j]:=by simp[hj]
  rw[Y3];refine aag ?_;refine aaa (wpAny_setField Hu hdi (by simp) ?_);have h2:=aaM (Obj.mapFields (·.setIfInBounds 1 (.int ((i:Int)+1) 0))) Hu (Obj.isFreed_of_fields (Obj.data_mapFields hdi _));refine aag ⟨_,rfl,aag (hQ j _ hp (Array.getElem?_eq_getElem hj) _ ⟨_,h2,?_,?_⟩ (Heap.SameBut.update ..))⟩
  ·rw[Obj.cls_mapFields];exact VO
  ·rw[Obj.data_mapFields hdi];simp
 |none=>simp only[Option.map_none];refine aaa (wpAny_setField Hu hdi (by simp) ?_);have h1:=aaM (Obj.mapFields (·.setIfInBounds 0 (rawInt 0))) Hu (Obj.isFreed_of_fields (Obj.data_mapFields hdi _));have d1:=Obj.data_mapFields hdi (·.setIfInBounds 0 (rawInt 0));refine aaa (wpAny_setField h1 d1 (by simp) ?_);refine aaa ?_;simp only[newExc,newTuple];refine aaa (aaN ?_ (by size_fits));refine aaa (m:=firstArgMember _ _) (wpAny_of_eq (a:=Value.none) (by first|rfl|(simp only[firstArgMember];rfl)) ?_);refine aaN ?_ (by size_fits);simp only[raiseNew];refine aaa (wpAny_handled ?_);rw[show A.in1.handled=none from hh];refine aaa (aag (wpAny_throw ?_));refine aaa (wpAny_isInstance (T:="StopIteration") (b:=true) ⟨_,aaq _ rfl,rfl⟩ isSubtype_stop ?_);exact aag (hE hp _ ((((Heap.SameBut.update ..).trans (Heap.SameBut.update ..)).extBut.push _).push _))
end
theorem sZ{α:Type}(f:Nat->Nat):∀(n k:Nat) (l:List α) (out:Array α),l.length=n->(pickOrder.go f n k l out).toList.Perm (out.toList++l)
 | 0,k,l,out,h=>by
  have:l=[]:=List.eq_nil_of_length_eq_zero h;subst this;unfold pickOrder.go;simp
 | n+1,k,l,out,h=>by
  unfold pickOrder.go;have hl:0<l.length:=by omega
  have hi:f k%l.length<l.length:=mod_lt _ hl;rw[aav hi];dsimp only;refine(sZ f n (k+1) _ _ (by rw[List.length_eraseIdx,aan hi];omega)).trans ?_;rw[Array.toList_push,List.append_assoc];exact List.Perm.append_left _ (lK l _ hi)
theorem tu{t:SetTable}{n:Nat}(h:t.fits n=true):t.place.size=n:=by
 simp only[SetTable.fits,and_eq_true,beq_iff_eq]at h;exact h.1
def UG(t:SetTable):Nat->Nat
 |0=>0
 |i+1=>t.place.getD i 0+1
theorem tw(r:sS t.place):∀i,i<=t.place.size->SetTable.below t.place (UG t i)=i
 |0,_=>yU r
 | i+1,h=>by
  have hi:i<t.place.size:=h;have e:UG t (i+1)=t.place[i]+1:=by simp[UG,Array.getD,hi]
  rw[e];exact yV r hi
section
variable {prog:Program} {w:World} {A:Around} {E:Value->Shared->Prop} {s:Shared}
theorem eW.keep{ep:Nat}{ks:List Int}(S:eW prog w h a o es ep t ks)(k:∀o,h.get? a=some o->h'.get? a=some o):eW prog w h' a o es ep t ks:={ S with at_:=k o S.at_ }
theorem fL.keep{i:Nat}{n ep:Nat}(x:fL h it f i a n ep)(k:∀o,h.get? it=some o->h'.get? it=some o):fL h' it f i a n ep:=by
 obtain⟨o,ho,r⟩:=x;exact⟨o,k o ho,r⟩
def PL(L:List (Int×Value))(i:Nat)(v:Value):Prop:=∃e,L[i]?=some e/\v=e.2
theorem B5(hh:A.handled=none){ep:Nat}{ks:List Int}(hne:a≠I)(hb:rV w=false)(hp:(!t.plain&&decide (es.size>1))=false) :
  Walks prog w A I [I,a] [I] es.toList.length (PL es.toList) (λi h=>eW prog w h a o es ep t ks/\fL h I (.int (UG t i) 0) i a es.size ep) where
 sub:=λb hb=>by simp at hb;simp[hb]
 frame:=λ_ _ _ st hk=>⟨st.1.keep λo e=>hk a (by simp) o e,st.2.keep λo e=>hk I (by simp) o e⟩
 item:=λi s Q E hi st hQ=>by
  have hi:i<es.size:=by simpa using hi
  have hz:=tu st.1.tab.fit;have hb':=tw st.1.tab.rs i (by rw[hz];exact le_of_lt hi);refine mQ (r:=some (es[i].2,t.place.getD i 0+1)) hh st.2 st.1 (λA E Q q=>sX st.1 hb hp ?_) (λv nx e h' x' sb=>?_) (λe=>nomatch e)
  ·rw[hb',Array.getElem?_eq_getElem hi,Array.getElem?_eq_getElem (by rw[hz];exact hi)]
   have e1:t.place[i]'(by rw[hz];exact hi)=t.place.getD i 0:=by simp[Array.getD,hz,hi]
   dsimp only;rw[e1];exact q
  ·cases e;exact hQ _ h' s.toks ⟨es[i],by simp[hi],rfl⟩ ⟨st.1.keep λo e=>sb.extBut a o hne e,x'⟩ λb o hb e=>sb.extBut b o (λz=>hb (by simp[z])) e
 done:=λs Q E st hQ=>by
  have hz:=tu st.1.tab.fit;have hb':=tw st.1.tab.rs es.toList.length (by rw[hz];simp);refine mQ (r:=none) hh st.2 st.1 (λA E Q q=>sX st.1 hb hp ?_) (λv nx e=>nomatch e) (λ_ h' sb=>hQ h' s.toks λb o hb e=>sb b o (λz=>hb (by simp[z])) e);rw[hb',getElem?_eq_none (by simp)];exact q
 self:=λ_ _ _ _ st hQ=>nS st.2 hQ
theorem B6(hh:A.handled=none){ep:Nat}{ks:List Int}(hne:a≠I)(hb:rV w=true) :
  Walks prog w A I [I,a] [I] (pickOrder (w.params.setOrder a ep) es).toList.length (PL (pickOrder (w.params.setOrder a ep) es).toList) (λi h=>eW prog w h a o es ep t ks/\fL h I (.int (0:Nat) 0) i a es.size ep) where
 sub:=λb hb=>by simp at hb;simp[hb]
 frame:=λ_ _ _ st hk=>⟨st.1.keep λo e=>hk a (by simp) o e,st.2.keep λo e=>hk I (by simp) o e⟩
 item:=λi s Q E hi st hQ=>by
  have hi:i<(pickOrder (w.params.setOrder a ep) es).size:=by simpa using hi
  refine mQ (r:=some ((pickOrder (w.params.setOrder a ep) es)[i].2,0)) hh st.2 st.1 (λA E Q q=>sY st.1 hb ?_) (λv nx e h' x' sb=>?_) (λe=>nomatch e)
  ·rw[Array.getElem?_eq_getElem hi];exact q
  ·cases e;exact hQ _ h' s.toks ⟨(pickOrder (w.params.setOrder a ep) es)[i],by simp[hi],rfl⟩ ⟨st.1.keep λo e=>sb.extBut a o hne e,x'⟩ λb o hb e=>sb.extBut b o (λz=>hb (by simp[z])) e
 done:=λs Q E st hQ=>by
  refine mQ (r:=none) hh st.2 st.1 (λA E Q q=>sY st.1 hb ?_) (λv nx e=>nomatch e) (λ_ h' sb=>hQ h' s.toks λb o hb e=>sb b o (λz=>hb (by simp[z])) e);rw[getElem?_eq_none (by simp)];exact q
 self:=λ_ _ _ _ st hQ=>nS st.2 hQ
theorem yY(hh:A.handled=none){ep c:Nat}{ks:List Int}{ps:List Nat}(hne:a≠I)(hnt:td≠I)(hlt:∀j∈ps,j<es.size)(UE:oT.data=.seq (ps.map λ(j:Nat)=>rawInt j).toArray c) :
  Walks prog w A I [I,a,td] [I] ps.length (PL (ps.map λj=>es.getD j (0,.none))) (λi h=>eW prog w h a o es ep t ks/\fL h I (.ref td) i a es.size ep/\h.get? td=some oT) where
 sub:=λb hb=>by simp at hb;simp[hb]
 frame:=λ_ _ _ st hk=>⟨st.1.keep λo e=>hk a (by simp) o e,st.2.1.keep λo e=>hk I (by simp) o e,hk td (by simp) _ st.2.2⟩
 item:=λi s Q E hi st hQ=>by
  refine qw hh st.2.1 st.1 st.2.2 UE hlt (λj e hj he h' x' sb=>?_) (λhn=>absurd hn (by rw[aav hi];simp));refine hQ _ h' s.toks ⟨e,?_,rfl⟩ ⟨st.1.keep λo e=>sb.extBut a o hne e,x',sb.extBut td _ hnt st.2.2⟩ λb o hb e=>sb.extBut b o (λz=>hb (by simp[z])) e;rw[aaF,hj];have hjl:j<es.size:=(Array.getElem?_eq_some_iff.mp he).1;have:=(Array.getElem?_eq_some_iff.mp he).2;simp[Array.getD,hjl,this]
 done:=λs Q E st hQ=>qw hh st.2.1 st.1 st.2.2 UE hlt (λj e hj=>absurd hj (by simp)) (λ_ h' sb=>hQ h' s.toks λb o hb e=>sb b o (λz=>hb (by simp[z])) e)
 self:=λ_ _ _ _ st hQ=>nS st.2.1 hQ
end
section
variable {prog:Program} {w:World} {A:Around} {E:Value->Shared->Prop} {s:Shared}
theorem DW{ep:Nat}{ks:List Int}(S:eW prog w s.heap a o es ep t ks)(h:Q (!rV w&&(!t.plain&&decide (es.size>1))) s):wpAny (model prog w) A (setDrawn a) Q E s:=by
 unfold setDrawn;refine aaa (wpAny_setState_of S.at_ S.dat S.tab.fit ?_);dsimp only;exact aaa (kI (aag h))
theorem wB{ep:Nat}{ks:List Int}(S:eW prog w s.heap a o es ep t ks)(h:Q ep s):wpAny (model prog w) A (setEpoch a) Q E s:=wpAny_setEpoch_of S.at_ S.dat S.tab.fit h
theorem DX(hh:A.handled=none){ep:Nat}{ks:List Int}(S:eW prog w s.heap a o es ep t ks)
  (hQ:∀(h':Heap) d (I:Addr) (fp:List Addr) (L:List (Int×Value)) (St:Nat->Heap->Prop),L.Perm es.toList->Walks prog w A I fp [I] L.length (PL L) St->St 0 h'->s.heap.objs.size<=I->I<h'.objs.size->(∀b∈fp,b=a\/s.heap.objs.size<=b)->(∀b o,s.heap.get? b=some o->h'.get? b=some o)->Q (.ref I) { s with heap:=h',drawn:=d }) :
  wpAny (model prog w) A (pyIter (.ref a)) Q E s:=by
 have hT:s.TypeIs (.ref a) "set":=⟨o,S.at_,S.ex.1⟩;have hlt:a<s.heap.objs.size:=aam S.at_;refine wpAny_pyIter_slot hT PySem.F.slot_set_iter (wpAny_call_entry PySem.F.slot_set_iter hT SI.yX ?_ (PySem.F.args_set_iter_1 _));unfold Builtin.«frozenset.__iter__» Builtin.Frozenset.slot0 Builtin.Frozenset.sizeOf;refine aaa (aaa (aag (aag ?_)));refine aaa (aaa (iD S.at_ S.dat S.tab.fit (aag ?_)));refine aaa (DW S ?_);cases hd:(!rV w&&(!t.plain&&decide (es.size>1))) with
 |false=>
  simp only[false_eq_true,↓reduceIte];refine aaa (aag ?_);refine aaa (wB S ?_);refine aaa (aaN (aag ⟨_,rfl,"set_iterator",_,⟨_,aaq _ rfl,rfl⟩,SI.slot_next.lookup,?_⟩));have e:s={ s with drawn:=s.drawn }:=by cases s;rfl
  have Xl:∀b∈[s.heap.objs.size,a],b=a\/s.heap.objs.size<=b:=λb hb=>by
   simp only[mem_cons,not_mem_nil,or_false]at hb
   rcases hb with rfl|rfl
   ·exact .inr (aal _)
   ·exact .inl rfl
  have sz:s.heap.objs.size<(s.heap.push { cls:=.type "set_iterator",data:=.fields ([rawInt 0,rawInt 0,.ref a,rawInt es.size,rawInt ep]:List Value).toArray }).objs.size:=by rw[Heap.size_push];exact lt_succ_self _
  cases hb:rV w with
  |true=>exact hQ _ s.drawn _ _ _ _ (sZ _ _ 0 es.toList #[] (by simp)) (B6 hh (aat hlt) hb) ⟨S.keep λo e=>aad _ e,⟨_,aaq _ rfl,rfl,rfl⟩⟩ (aal _) sz Xl λb o e=>aad _ e
  |false=>rw[hb]at hd;exact hQ _ s.drawn _ _ _ _ (List.Perm.refl _) (B5 hh (aat hlt) hb (by simpa using hd)) ⟨S.keep λo e=>aad _ e,⟨_,aaq _ rfl,rfl,rfl⟩⟩ (aal _) sz Xl λb o e=>aad _ e
 |true=>
  simp only[↓reduceIte];refine aaa (Ae es.size (List.range es.size) s _ (by simp) λps d pp=>?_);refine aaa ?_;simp only[newTuple];refine aaN ?_ (by show (toArray _).size<=sizeLine;rw[aas,aaf,pp.length_eq,length_range];exact fits_of_scanBound S.tab.few);have S1:eW prog w (s.heap.push { cls:=.type "tuple",data:=.seq (ps.map λ(i:Nat)=>rawInt i).toArray }) a o es ep t ks:=S.keep λo e=>aad _ e;refine aaa (wB S1 ?_);refine aaa (aaN (aag ⟨_,rfl,"set_iterator",_,⟨_,aaq _ rfl,rfl⟩,SI.slot_next.lookup,?_⟩));have hpl:∀j∈ps,j<es.size:=λj hj=>by simpa using pp.mem_iff.mp hj
  have perm:(ps.map λj=>es.getD j (0,Value.none)).Perm es.toList:=by
   have e2:(List.range es.size).map (λj=>es.getD j (0,Value.none))=es.toList:=by
    apply ext_getElem
    ·simp
    ·intro i h1 h2
     have hi:i<es.size:=by simpa using h2
     simp[Array.getD,hi]
   rw[<-e2];exact pp.map _
  have z1:(s.heap.push { cls:=.type "tuple",data:=.seq (ps.map λ(i:Nat)=>rawInt i).toArray }).objs.size=s.heap.objs.size+1:=Heap.size_push _ _;have W:=yY (prog:=prog) (w:=w) (A:=A) (o:=o) (ep:=ep) (t:=t) (ks:=ks) hh (I:=s.heap.objs.size+1) (a:=a) (td:=s.heap.objs.size) (oT:={ cls:=.type "tuple",data:=.seq (ps.map λ(i:Nat)=>rawInt i).toArray }) (es:=es) (c:=0) (ps:=ps) (aat (lt_succ_of_lt hlt)) (aat (lt_succ_self _)) hpl rfl;rw[show ps.length=(ps.map λj=>es.getD j (0,Value.none)).length by simp] at W;rw[z1];refine hQ _ d _ _ _ _ perm W ⟨S1.keep λo e=>aad _ e,⟨{ cls:=.type "set_iterator",data:=.fields ([.ref s.heap.objs.size,rawInt 0,.ref a,rawInt es.size,rawInt ep]:List Value).toArray },?_,rfl,rfl⟩,aad _ (aaq _ rfl)⟩ (le_succ _) ?_ ?_ λb o e=>aad _ (aad _ e)
  ·rw[<-z1];exact aaq _ rfl
  ·rw[Heap.size_push,z1];exact lt_succ_self _
  ·intro b hb
   simp only[mem_cons,not_mem_nil,or_false]at hb
   rcases hb with rfl|rfl|rfl
   ·exact .inr (le_succ _)
   ·exact .inl rfl
   ·exact .inr (aal _)
end
section
variable {prog:Program} {w:World} {A:Around} {E:Value->Shared->Prop} {s:Shared}
theorem DY(hT:s.TypeIs (.ref r) "set")(h:Q false s):wpAny (model prog w) A (Builtin.List.listLengthHint (.ref r)) Q E s:=by
 unfold Builtin.List.listLengthHint;refine aaa (wpAny_specialOf hT PySem.F.slot_set_len.lookup ?_);generalize hid:("set.__len__":String)=Y4
 wp_delta
 rw[show splitId Y4=some ("set","__len__") from by subst hid;decide +kernel];subst hid;refine aaa (wpAny_isInstance (T:="set") (b:=true) hT sub_set_self ?_);refine wpAny_ite_split (λz=>absurd z (by decide)) (λ_=>?_);refine wpAny_ite_split (λ_=>?_) (λz=>absurd (by decide +kernel) z);exact aaa (wpAny_typeOf hT (aag h))
theorem wC(hh:A.handled=none){ep:Nat}{ks:List Int}(S:eW prog w s.heap a o es ep t ks)
  (h:∀(h':Heap) (tk:Nat) d (L:List (Int×Value)),(∀b o,s.heap.get? b=some o->h'.get? b=some o)->s.heap.objs.size<h'.objs.size->L.Perm es.toList->R (L.map (·.2)) { s with heap:=h',toks:=tk,drawn:=d }) :
  wpAny (model prog w) A (collect (.ref a)) R E s:=by
 have hlt:a<s.heap.objs.size:=aam S.at_;unfold collect;refine aaa (wpAny_runValue (codeAny_builtin entry_proto_collect' ?_));rw[Around.under_plainId PySem.F.plain_proto_collect _];show wpAny _ A.in1 (newList [] >>= λl=>again (.builtin "list.__iadd__" ⟨[l,.ref a],[]⟩)) _ _ s;refine aaa (aaN ?_);refine aag ⟨plainId_quiet PySem.F.plain_list_iadd _,codeAny_builtin entry_list_iadd' ?_⟩;rw[Around.under_plainId PySem.F.plain_list_iadd _]
 let s1:Shared:={ s with heap:=s.heap.push { cls:=.type "list",data:=.seq ([]:List Value).toArray } }
 have l1:s1.heap.get? s.heap.objs.size=some { cls:=.type "list",data:=.seq #[] }:=aaq _ rfl;have S1:eW prog w s1.heap a o es ep t ks:=S.keep λo e=>aad _ e;have z1:s1.heap.objs.size=s.heap.objs.size+1:=Heap.size_push _ _;have hT:s1.TypeIs (.ref a) "set":=⟨o,S1.at_,S1.ex.1⟩;show wpAny _ A.in1 (Builtin.List.listExtendWith (.ref s.heap.objs.size) (.ref a) (.ref s.heap.objs.size)) _ _ s1;unfold Builtin.List.listExtendWith;refine aaa (wpAny_typeOf hT ?_);have n1:Builtin.List.listSameRef (.ref s.heap.objs.size) (.ref a)=false:=by simp[Builtin.List.listSameRef,ne_of_gt hlt]
 simp only[n1,show (Value.type "set" == Value.type "list")=false by decide,show (Value.type "set" == Value.type "tuple")=false by decide,Bool.or_false,false_eq_true,if_false];refine aaa (DX (A:=A.in1) (by simp[hh]) S1 λh2 d I fp L St perm W st zI zI2 hfp k2=>?_);have l2:h2.get? s.heap.objs.size=some { cls:=.type "list",data:=.seq #[] }:=k2 _ _ l1;have nfp:s.heap.objs.size∉fp:=λz=>by
  rcases hfp _ z with e|e
  ·exact absurd e (ne_of_gt hlt)
  ·rw[z1]at e;exact absurd e (Nat.not_succ_le_self _)
 have hl:L.length<=sizeLine:=by rw[perm.length_eq,aaI];exact fits_of_scanBound S.tab.few
 have key:∀(hp:Heap) (c₁:Nat) (Rr:Result->Shared->Prop),St 0 hp->(∀b o,b≠s.heap.objs.size->h2.get? b=some o->hp.get? b=some o)->hp.get? s.heap.objs.size=some { cls:=.type "list",data:=.seq #[] c₁ } ->
   (∀(s':Shared) (acc:Array Value) (c:Nat),s'.heap.get? s.heap.objs.size=some { cls:=.type "list",dict:=none,data:=.seq acc c,slots:=#[] }->R acc.toList s'->Rr (.ok (.ret (.ref s.heap.objs.size))) s') ->
   codeAny (model prog w) A (.builtin "list.extend.loop" ⟨[.ref s.heap.objs.size,.ref I,.ref s.heap.objs.size],[]⟩) Rr { s1 with heap:=hp,drawn:=d }:=by
  intro hp c₁ Rr hst hk hS hR;refine codeAny_extend_loopS W.toS hl s.heap.objs.size nfp (.ref s.heap.objs.size) L.length 0 _ #[] c₁ rfl (zero_le _) hst hS (ItemsOf.nil _) λs' acc c hm hS' hacc=>?_;refine hR s' acc c hS' ?_;have ea:acc.toList=L.map (·.2):=by
   apply ext_getElem
   ·rw[aaI,hacc.1,aaf]
   ·intro j h1 h2
    have hj:j<acc.size:=by simpa using h1
    obtain⟨e,he,hv⟩:=hacc.2 j acc[j] (Array.getElem?_eq_getElem hj);rw[Array.getElem_toList,hv,getElem_map];obtain⟨hj2,e2⟩:=aai.mp he;rw[e2]
  rw[ea,Moved.eq_with hm];refine h s'.heap s'.toks d L (λb o e=>?_) (aam hS') perm;have hb:b<s.heap.objs.size:=aam e;refine hm.heap b o (λz=>?_) (hk b o (aat hb) (k2 b o (aad _ e)))
  rcases aau.mp z with z|z
  ·exact absurd z (aat hb)
  ·rw[aay]at z;rw[z]at hb;rw[z1]at zI;exact absurd (aao hb (Nat.le_of_succ_le zI)) (aaR _)
 have fin:∀(s':Shared) (acc:Array Value) (c:Nat),s'.heap.get? s.heap.objs.size=some { cls:=.type "list",dict:=none,data:=.seq acc c,slots:=#[] }->R acc.toList s'->wpAny (model prog w) A (load s.heap.objs.size >>= λob=>(match ob.data with|.seq xs _=>pure xs.toList|_=>unsupported "internal:collect")) R E s':=λs' acc c e q=>aaa (wpAny_load e (aag q));refine aaa (wpAny_holding (DY ⟨o,k2 _ _ S1.at_,S1.ex.1⟩ ?_));refine wpAny_ite_split (λ_=>?_) (λ_=>aag ⟨plainId_quiet PySem.F.plain_extend_loop _,key _ 0 _ st (λb o _ e=>e) l2 fin⟩);refine aaa (wpAny_rule ?_);refine aaa ?_;show wpAny _ _ (updateSeq s.heap.objs.size (·.push .none) >>= λ_=>updateSeq s.heap.objs.size (·.pop)) _ _ _;refine aaa (wpAny_updateSeq l2 rfl ?_);have l3:=aaM (Obj.mapSeq (·.push Value.none)) l2 rfl;refine wpAny_updateSeq (hz:=by seq_fits) l3 rfl ?_;have l4:=aaM (Obj.mapSeq (·.pop)) l3 rfl;have oth:∀b o,b≠s.heap.objs.size->h2.get? b=some o->((h2.update s.heap.objs.size (Obj.mapSeq (·.push Value.none))).update s.heap.objs.size (Obj.mapSeq (·.pop))).get? b=some o:=λb o hb e=>(get?_update_other _ _ (Ne.symm hb)).trans ((get?_update_other _ _ (Ne.symm hb)).trans e);exact aag ⟨plainId_quiet PySem.F.plain_extend_loop _,key _ _ _ (W.frame 0 _ _ st λb hb o e=>oth b o (λz=>nfp (z▸hb)) e) oth l4 fin⟩
end
theorem wD:∀(ks ns:List Int),ks.Nodup->(∀k∈ks,k∈ns)->ks.length=ns.length->ks.Perm ns
 | [],ns,_,_,h=>by
  have:ns=[]:=List.eq_nil_of_length_eq_zero h.symm;subst this;exact List.Perm.refl _
 | k::ks,ns,nd,hs,hl=>by
  have hk:=hs k aah;have Xm:=nodup_cons.mp nd;have p:=List.perm_cons_erase hk;refine(List.Perm.cons k (wD ks (ns.erase k) Xm.2 (λx hx=>?_) ?_)).trans p.symm
  ·exact(List.mem_erase_of_ne λz=>Xm.1 (by rw[<-z];exact hx)).mpr (hs x (aae _ hx))
  ·rw[List.length_erase_of_mem hk];simp only[length_cons]at hl;omega
def wF:Value->Int
 |.int i _=>i
 |_=>0
section
variable {prog:Program} {w:World} {A:Around} {E:Value->Shared->Prop} {s:Shared}
theorem qy:∀{L:List (Int×Value)},ElemsOf (intKind prog w) L->IntsAre (L.map (·.2)) (L.map λe=>wF e.2)
 |[],_=>.nil
 | (h,v)::L,el=>by
  obtain⟨⟨k,hk,_⟩,_⟩:=el _ aah;obtain⟨t,e⟩:=Value.isInt_shape (k:=k) (v:=v) hk;subst e;exact .cons k t (qy λx hx=>el x (aae _ hx))
theorem DZ{h:Heap}{a:Addr}{o:Obj}{es:Array (Int×Value)}{ep:Nat}{t:SetTable}{ks:List Int}(S:eW prog w h a o es ep t ks){L:List (Int×Value)}(p:L.Perm es.toList):(L.map λe=>wF e.2).Perm ks:=by
 refine(wD ks _ S.Xf (λk hk=>?_) ?_).symm
 ·obtain⟨e,he,q⟩:=(S.mem k).mp hk;obtain⟨t',ev⟩:=Value.isInt_shape (k:=k) (v:=e.2) q;exact mem_map.mpr ⟨e,p.mem_iff.mpr he,by rw[ev];rfl⟩
 ·have:=S.num;rw[aaf,p.length_eq,aaI];exact this.symm
theorem yZ(hh:A.handled=none){ep:Nat}{ks:List Int}(S:eW prog w s.heap a o es ep t ks)(h64:ks.length<64)
  (hQ:∀(h':Heap) (tk:Nat) d (D:Addr) (out:List Value) (e:Nat),(∀b o,s.heap.get? b=some o->h'.get? b=some o)->s.heap.objs.size<=D->h'.get? D=some (seqObj "list" out.toArray e)->IntsAre out (sortI ks)->Q (.ref D) { s with heap:=h',toks:=tk,drawn:=d }) :
  wpAny (model prog w) A (call (.builtin "sorted") [.ref a]) Q E s:=by
 refine rN.jP (O:=rN.yO) (wC (A:=A.in1) (by simp[hh]) S λh' tk d L hk hz perm=>?_);have el:ElemsOf (intKind prog w) L:=S.el.perm perm;have hI:=qy el;have pk:=DZ S perm;have hl:(L.map (·.2)).length<64:=by rw[aaf];have:=pk.length_eq;rw[aaf]at this;omega
 refine⟨hl,λi=>(L.map λe=>wF e.2).getD i 0,λh2 h6 _=>rN.yP hI h2,λp h'' outs k2 he=>?_⟩;obtain⟨e,he⟩:=he;have lv:(L.map (·.2)).length=(L.map λe=>wF e.2).length:=by rw[aaf,aaf]
 have mem:∀i∈p,i<L.length:=λi hi=>by have:=outs.perm.mem_iff.mp hi;simpa using this
 have pn:(p.map λi=>(L.map λe=>wF e.2).getD i 0).Perm ks:=by have:=outs.perm.map λi=>(L.map λe=>wF e.2).getD i 0;rw[lv,rN.cy]at this;exact this.trans pk
 have up:(p.map λi=>(L.map λe=>wF e.2).getD i 0).Pairwise (· <= ·):=by refine List.Pairwise.imp (R:=rN.yO.kle) (λ{x y:Int} hxy=>?_) outs.up;have hxy:(decide (y<x):Bool)=false:=hxy;exact Int.not_lt.mp (of_decide_eq_false hxy)
 have es:=eq_sortI pn up;refine hQ h'' tk d h'.objs.size _ e (λb o z=>k2 b o (hk b o z)) (le_of_lt hz) he ?_;rw[<-es];clear he es up pn outs
 induction p with
 |nil=>exact .nil
 |cons i r ih=>
  have hi:=mem i aah;have hi2:i<(L.map (·.2)).length:=by simpa using hi
  obtain⟨t',ev⟩:=IntsAre.int_at hI i _ (aav hi2);rw[aar,aar];have e1:(L.map (·.2)).getD i Value.none=.int ((L.map λe=>wF e.2).getD i 0) t':=by rw[<-ev];simp[List.getD,List.getElem?_eq_getElem hi]
  rw[e1];exact .cons _ t' (ih λj hj=>mem j (aae _ hj))
end
end L2
end
section
namespace L2
open PySem PySem.Spec PyProof.Rows
section
variable {X:Cx}
theorem Inv.draws(I:Inv X pins σ H s)(d:Drawn):Inv X pins σ H { s with drawn:=d }:=⟨I.ok,I.os,I.bare,I.base,I.loc,I.cell,I.free,I.gH,I.pin,I.hok,I.len⟩
def Y5(K:Frag)(te:TE):TE:=λσ H Q=>te σ H λx H1=>∃p ns,x=.ref p/\gD K H1 p (ns.map V.int)/\ns.length<64/\∀l,H1 l=none->Q (.ref l) (upd H1 l (.lst ((sortI (bD [] ns)).map V.int)))
theorem wG:∀(ns ks:List Int),(bD ks ns).length<=ks.length+ns.length
 |[],ks=>by simp[bD]
 | n::ns,ks=>by
  rw[bD,aaB];have:=wG ns (jQ ks n);have:=mP ks n;omega
theorem IG{p1 p2 pos1 pos2:Pos}(hh:X.A.handled=none)(hg:Gl X "sorted")(hm:X.mg "sorted" = none)(Y6:Gl X "set")(hm2:X.mg "set" = none)(hv:bootBuiltins "sorted" = some (.builtin "sorted"))(hv2:bootBuiltins "set" = some (.type "set"))(he:PE X e te)
  (hs:starEach [e] X.env=[(false,eval e X.env)]):PE X (.Call (.Name "sorted" p1) [.Call (.Name "set" p2) [e] [] pos2] [] pos1) (Y5 X.K te):=by
 intro pins s σ H Q I h;refine wpAny_Call_Name_kw (jK I hg hm hv ?_ (by decide) (by decide));refine PyProof.Rows.callWith_builtin1 ?_ rfl rfl;show wpAny _ _ (spliced [(false,eval (.Call (.Name "set" p2) [e] [] pos2) X.env)]) _ _ s;refine Calls.spliced_cons ?_;refine wpAny_Call_Name_kw (jK I Y6 hm2 hv2 ?_ (by decide) (by decide));refine PyProof.Rows.callWith_type1 ?_ hs rfl;show wpAny _ _ (spliced (backTo pos2 (starEach [e] X.env))) _ _ s;rw[hs];show wpAny _ _ (spliced [(false,eval e X.env)]) _ _ s;refine Calls.spliced_cons (cL (he pins s σ H _ I h) λu s1 ⟨x,H1,I1,r1,p,ns,ex,hq,h64,q⟩=>Calls.spliced_nil ?_);subst ex;cases r1;obtain⟨its,rv,pl,hz⟩:=I1.list hq;have hi:=intsAre_of rv;have hl:=hi.length;refine wz hh pl.isList (by simpa using hi) (by show its.toArray.size+1<4096;rw[aas,hl];omega) λh2 tk S k2=>?_;obtain⟨o,es,ep,t,S⟩:=S;refine Calls.spliced_nil ?_;have hk:=wG ns [];have VP:(bD [] ns).length<64:=by simp at hk;omega
 refine yZ (s:={ s1 with heap:=h2,toks:=tk }) hh S VP λh3 VQ d D out e k3 zD eD hout=>?_;have hD:s1.heap.objs.size<=D:=aaK (le_of_lt (aam S.at_)) zD;have hn:H1 D=none:=I1.hok.fresh hD;refine⟨.ref D,_,(I1.draws d).laid (t':=VQ) (λb o z=>k3 b o (k2 b o (aam z) z)) hD (show bF X.prog X.w _ _ _ (.lst ((sortI (bD [] ns)).map V.int)) from⟨?_,out,e,kG hout,eD⟩),rfl,q _ hn⟩;rw[aaf,(sortI_perm _).length_eq,sizeLine_eq];omega
end
end L2
end
section
namespace L2
open PySem PySem.Spec PyProof.Rows PySem.W
end L2
end
section
namespace L2
open PySem PySem.Spec PyProof.Rows
end L2
end
section
namespace L2
open PySem PySem.Spec PyProof.Rows PySem.W
end L2
end
section
namespace L2
open PySem PySem.Spec PyProof.Rows
end L2
end
section
namespace L2
open PySem PySem.Spec PyProof.Rows PySem.W
section
variable {X:Cx}
structure Rw (K:Frag) (C:Addr) (m:Str) (f:Addr):Prop where
 ga:specialIn K (.ref C) "__getattribute__" = some (some (.builtin "type.__getattribute__"))
 rd:PySem.W.readsIn K C (.type "type")=true
 at_:PySem.W.findCls K (.ref C) (.type "type") m=some (.val (.ref f))
 kp:keepIn K (.ref f)=true
structure Xn (K:Frag) (C:Addr):Prop where
 ha:findIn K (.ref C) "__class__" = some (some (.builtin "object.__class__"))
 hn:specialIn K (.builtin "object.__class__") "__get__" = some (some (.builtin "getset_descriptor.__get__"))
 htk:takesIn K (.builtin "object.__class__")=some true
 hm:PySem.W.mroIn K C (.type "object")=some true
end
end L2
end
section
namespace L2
open PySem PySem.Spec PyProof.Rows
section
variable {X:Cx}
def Xo(k:Int):Value->Bool
 |.int a _=>a==k
 |_=>false
def II:V->List V->Hp->VK->Prop:=λx vs H Q=>∃(l:Addr) (ks:List Int) (i:Int),x=.ref l/\vs=[.int i]/\H l=some (.lst (ks.map V.int))/\i∈ks/\Q .non (upd H l (.lst ((ks.map V.int).eraseIdx (ks.idxOf i))))
theorem B7:ML X "list.remove" II:=by
 intro pins s σ H x vs v us Q I rx rv h;obtain⟨l,ks,i,rfl,rfl,hH,hi,q⟩:=h;cases rx;obtain⟨u,rfl,ru⟩:=rv.one;obtain⟨t,rfl⟩:=ru;obtain⟨z,its,n,r,hl,e⟩:=I.MN hH;have hk:ks.length=its.length:=by rw[<-hl,aaf]
 have at':∀m (hm:m<ks.length),∃t,its[m]?=some (.int ks[m] t):=λm hm=>by
  obtain⟨w,hw,t,rfl⟩:=r.get (i:=m) (x:=V.int ks[m]) (by rw[aaF,aav hm];rfl);exact⟨t,hw⟩
 have hj:ks.idxOf i<ks.length:=List.idxOf_lt_length_of_mem hi;have sz:its.toArray.size=ks.length:=by rw[aas,hk]
 have val:∀m (hm:m<its.toArray.size),Xo i its.toArray[m]=(ks[m]'(sz▸hm)==i):=λm hm=>by
  obtain⟨t,q⟩:=at' m (sz▸hm);have q2:its.toArray[m]=.int (ks[m]'(sz▸hm)) t:=by have:=Array.getElem?_eq_getElem hm;rw[List.getElem?_toArray,q]at this;exact(aaH this).symm
  rw[q2];rfl
 refine call_meets F.slot_list_remove ⟨_,e,rfl⟩ F.entry_list_remove (F.args_list_remove_2 _ _)
  (MeetsSeq.list_remove l its.toArray n (.int i t) (Xo i) (λy hy=>?_) (ks.idxOf i) (by rw[sz];exact hj) ?_ ?_ (by rw[aas];omega)) ⟨e,?_⟩
 ·obtain⟨m,hm,rfl⟩:=List.mem_iff_getElem.mp (List.mem_toArray.mp hy);obtain⟨t',q⟩:=at' m (by omega);rw[aav hm]at q;rw[aaH q];exact MeetsSeq.EqGives.int _ _ _ _
 ·rw[val];exact beq_iff_eq.mpr (List.getElem_idxOf hj)
 ·intro m hm h2
  rw[val];exact beq_eq_false_iff_ne.mpr λe=>by
   have:=List.not_of_lt_findIdx (p:=(· == i)) (xs:=ks) (i:=m) h2;exact nomatch this.symm.trans (beq_iff_eq.mpr e)
 refine⟨.non,_,I.MM (its':=its.eraseIdx (ks.idxOf i)) hH e ?_ (r.eraseIdx _) ?_,rfl,q⟩
 ·show its.toArray.eraseIdxIfInBounds _=(its.eraseIdx _).toArray;rw[List.eraseIdxIfInBounds_toArray]
 ·have:=sE (ks.map V.int) (ks.idxOf i);omega
end
section
variable {X:Cx}
def isAscii(x:Str):Bool:=x.cps.all (· < 128)
def gh(x y:Str):List Str:=if (decide (x.length<y.length)||(Builtin.Str.occurrences x y 0 x.length (x.length+1)).isEmpty)=true then [x] else Builtin.Str.partsBetween x (Builtin.Str.occurrences x y 0 x.length (x.length+1)) y.length
def kJ(x y:Str):Bool:=decide (y.length≠0)&&isAscii x&&isAscii y&&decide (x.length<=100000)&&decide ((gh x y).length<=100000)
def MW:V->List V->Hp->VK->Prop:=λx vs H Q=>∃(z y:Str),x=.str z/\vs=[.str y]/\kJ z y=true/\∀l,H l=none->Q (.ref l) (upd H l (.lst ((gh z y).map V.str)))
theorem qz(h:isAscii x=true):Builtin.Str.strKind x=1:=by
 unfold Builtin.Str.strKind;rw[aan];unfold isAscii at h;rw[Array.all_eq_true]at h |-;exact λi hi=>decide_eq_true (lt_trans (aaz (h i hi)) (by decide))
theorem tB:∀(ys:List Str) (t:Nat),Vals (ys.map V.str) (strsFrom t ys)
 |[],_=>.nil
 |y::ys,t=>.cons ⟨t,rfl⟩ (tB ys (t+1))
theorem D0:ML X "str.split" MW:=by
 intro pins s σ H x vs v us Q I rx rv h;obtain⟨z,y,rfl,rfl,hs,q⟩:=h;obtain⟨t,rfl⟩:=rx;obtain⟨u,rfl,ru⟩:=rv.one;obtain⟨t2,rfl⟩:=ru;unfold kJ at hs;simp only[and_eq_true,decide_eq_true_eq]at hs;obtain⟨⟨⟨⟨h1,h3⟩,h4⟩,h6⟩,h7⟩:=hs;have b1:z.length<=sizeLine:=by rw[sizeLine_eq];omega
 have b2:(gh z y).length<=sizeLine:=by rw[sizeLine_eq];omega
 have hn:H s.heap.objs.size=none:=I.hok.fresh (aal _);have q:=q _ hn;have kk:decide (Builtin.Str.strKind z<Builtin.Str.strKind y)=false:=by rw[qz h3,qz h4];rfl
 have itself:gh z y=[z]->EP X pins σ Q (.ref s.heap.objs.size) { s with heap:=s.heap.push { cls:=.type "list",data:=.seq [.str z t].toArray } }:=λe=>by
  rw[e]at q;exact⟨.ref _,_,I.laid (t':=s.toks) (λb o e=>aad _ e) (aal _) (show bF X.prog X.w _ _ _ (.lst [V.str z]) from⟨by rw[sizeLine_eq];simp,[.str z t],0,.cons ⟨t,rfl⟩ .nil,aaq _ rfl⟩),rfl,q⟩
 by_cases c1:z.length<y.length
 ·exact call_meets F.slot_str_split (typeIs_str s z t) F.entry_str_split (F.args_str_split_2 _ _) (meets_str_split_cannot_occur z y t t2 (by rw[decide_eq_true c1];rfl)) (itself (by unfold gh;rw[decide_eq_true c1];rfl))
 have Af:(decide (z.length<y.length)||decide (Builtin.Str.strKind z<Builtin.Str.strKind y))=false:=by rw[decide_eq_false c1,kk];rfl
 have c3:(y.length==0)=false:=beq_eq_false_iff_ne.mpr h1;cases c2:(Builtin.Str.occurrences z y 0 z.length (z.length+1)).isEmpty with
 |true=>exact call_meets F.slot_str_split (typeIs_str s z t) F.entry_str_split (F.args_str_split_2 _ _) (meets_str_split_not_found z y t t2 Af c3 c2) (itself (by unfold gh;rw[c2,Bool.or_true];rfl))
 |false=>
  have e:gh z y=Builtin.Str.partsBetween z (Builtin.Str.occurrences z y 0 z.length (z.length+1)) y.length:=by unfold gh;rw[c2,decide_eq_false c1];rfl
  rw[e]at b2 q;exact call_meets F.slot_str_split (typeIs_str s z t) F.entry_str_split (F.args_str_split_2 _ _) (meets_str_split_sep z y t t2 Af c3 c2 b1 b2) ⟨.ref _,_,I.laid (t':=s.toks+_) (λb o e=>aad _ e) (aal _) (show bF X.prog X.w _ _ _ (.lst (List.map V.str _)) from⟨by rw[aaf];exact b2,_,0,tB _ s.toks,aaq _ rfl⟩),rfl,q⟩
theorem B8:bV X (.type "int") (λxs H Q=>∃(z:Str) (n:Int),xs=[.str z]/\intText? z=some n/\z.length<=640/\Q (.int n) H):=by
 intro pins s σ H xs us Q I r h;obtain⟨z,n,rfl,h1,h2,q⟩:=h;obtain⟨u,rfl,ru⟩:=vals1 r;obtain⟨t,rfl⟩:=ru;exact PySem.W.KIN.call_text h1 h2 ⟨.int n,H,I.tok _,⟨_,rfl⟩,q⟩
def VS(x:Str):It:=⟨λi _=>i<x.cps.size,λi H v H'=>H'=H/\∃c,x.cps[i]?=some c/\v=.str ⟨[c].toArray⟩,λi _=>x.cps.size<=i⟩
theorem B9{P:Program}{w:World}{K:Frag}{tg:Expr}(x:Str)(t:Tok)(it:Addr):Turn P w K tg (VS x) [it] it (λi h=>h.IsStrIter it "str_ascii_iterator" x t i) where
 mem:=by simp
 obj:=λi h st b hb=>by
  have e:b=it:=by simpa using hb
  subst e;obtain⟨o,e,c,d⟩:=st;exact⟨o,e,λv z=>by rw[d]at z;cases z⟩
 keep:=λi h h' st k=>by
  obtain⟨o,e,r⟩:=st;exact⟨o,k it (by simp) o e,r⟩
 item:=by intro X hP hw hK hc i pins s σ H E I hf st hg;subst hP hw hK;obtain⟨f0,f1,f2,f3,f4,f5⟩:=hf it (by simp);have hg:i<x.cps.size:=hg;refine wpAny_pyNext_ascii_item st (c:=x.cps[i]) (by simp[hg]) λh' st' sb=>?_;have I1:Inv X pins σ H { s with heap:=h',toks:=s.toks+1 }:=I.turned (t':=s.toks+1) (λb o hb e=>(sb.2 b hb).trans e) f0 f1 f3 f4 f5;obtain⟨o,e,c,d⟩:=id st';exact⟨_,rfl,z6 (s:={ s with heap:=h',toks:=s.toks+1 }) e c d (by decide) ⟨.str ⟨[x.cps[i]].toArray⟩,H,I1,⟨_,rfl⟩,⟨rfl,x.cps[i],by simp[hg],rfl⟩,st',λb hb=>(hf b hb).1⟩⟩
 done:=by intro X hP hw hK hc i pins s σ H E I hf st hg;subst hP hw hK;obtain⟨f0,f1,f2,f3,f4,f5⟩:=hf it (by simp);have hg:x.cps.size<=i:=hg;exact wpAny_pyNext_ascii_end (I.ok.hd hc) st (by simp[hg]) λh' eb=>⟨rfl,I.turned (t':=s.toks) (λb o hb e=>eb b o hb e) f0 f1 f3 f4 f5⟩
 self:=λ_ _ _ _ _ st h=>wpAny_pyIter_striter_ascii st h
def Rx(tl:TE):TI:=λσ H R=>tl σ H λx H1=>∃z,x=.str z/\isAscii z=true/\R (VS z) H1
theorem IJ(hl:PE X l tl):PI X tg l (Rx tl):=by
 intro pins s σ H R I h;refine cL (hl pins s σ H _ I h) λv s1 aS=>?_;obtain⟨x,H1,I1,r1,q1⟩:=aS;obtain⟨z,rfl,ha,q⟩:=q1;obtain⟨t,rfl⟩:=r1;refine wpAny_pyIter_ascii ha ?_;refine⟨s1.heap.objs.size,[s1.heap.objs.size],_,_,H1,rfl,I1.kept (t':=s1.toks) λb o e=>aad _ e,B9 z t _,⟨_,aaq _ rfl,rfl,rfl⟩,λb hb=>?_,q⟩;have e:b=s1.heap.objs.size:=by simpa using hb
 subst e;exact I1.Dm (aal _) (I1.hok.fresh (aal _))
end
def KD(h h':Heap):Prop:=∀b o,h.get? b=some o->∃o',h'.get? b=some o'/\o'.dict=o.dict
theorem KD.refl:KD h h:=λ_ o e=>⟨o,e,rfl⟩
theorem KD.trans{h h1 h2:Heap}(a:KD h h1)(b:KD h1 h2):KD h h2:=λx o e=>by
 obtain⟨o1,e1,d1⟩:=a x o e;obtain⟨o2,e2,d2⟩:=b x o1 e1;exact⟨o2,e2,d2.trans d1⟩
theorem KD.push(o:Obj):KD h (h.push o):=λb ob e=>⟨ob,aad _ e,rfl⟩
def KF(f:Obj->Obj):Prop:=∀o,o.isFreed=false->(f o).dict=o.dict/\(f o).isFreed=false
theorem KD.update(hf:KF f):KD h (h.update a f):=λb o e=>by
 by_cases c:a=b
 ·subst c;have fr:=(Heap.get?_some_iff.mp e).2;exact⟨f o,aaM f e (hf o fr).2,(hf o fr).1⟩
 ·exact⟨o,(get?_update_other _ _ c).trans e,rfl⟩
def Tame{α:Type}:Sem α -> Prop
 |.pure _=>True
 |.raise _=>True
 |.unsupported _=>True
 |.finish _=>True
 |.rule _ k=>Tame (k ())
 |.at _ k=>Tame (k ())
 |.load _ _ k=>∀o,Tame (k o)
 |.update _ _ f k=>KF f/\Tame (k ())
 |.loadIfAlive _ k=>∀o,Tame (k o)
 |.point _ k=>Tame (k ())
 |.register _ k=>Tame (k ())
 |.alloc _ k=>∀a,Tame (k a)
 |.fresh k=>∀a,Tame (k a)
 |.ask k=>∀a,Tame (k a)
 |.stack k=>∀a,Tame (k a)
 |.handled _ k=>∀a,Tame (k a)
 |_=>False
theorem IK{α:Type}{Q:α -> Pos->Shared->Prop}(h0:Heap):∀(t:Sem α) (p:Pos) (s:Shared),Tame t->KD h0 s.heap->Sem.wp M Γ t Q E p s->Sem.wp M Γ t (λa p' s'=>Q a p' s'/\KD h0 s'.heap) (λe p' s'=>E e p' s'/\KD h0 s'.heap) p s:=by
 intro t
 induction t with
 |pure a=>intro p s _ k h;rw[Sem.wp]at h |-;exact⟨h,k⟩
 |raise e=>intro p s _ k h;rw[Sem.wp]at h |-;exact⟨h,k⟩
 |unsupported w=>intro p s _ k h;rw[Sem.wp]at h;exact h.elim
 |finish w=>intro p s _ k h;rw[Sem.wp]at h;exact h.elim
 |rule _ k ih=>intro p s t kd h;rw[Sem.wp]at h |-;exact ih () p s t kd h
 |«at» _ k ih=>intro p s t kd h;rw[Sem.wp]at h |-;exact ih () _ s t kd h
 |load a _ k ih=>intro p s t kd h;rw[Sem.wp]at h |-;obtain⟨o,e,h⟩:=h;exact⟨o,e,ih o p s (t o) kd h⟩
 |update a _ f k ih=>intro p s t kd h;rw[Sem.wp]at h |-;exact⟨h.1,ih () p _ t.2 (kd.trans (KD.update t.1)) h.2⟩
 |loadIfAlive a k ih=>intro p s t kd h;rw[Sem.wp]at h |-;exact ih _ p s (t _) kd h
 |point _ k ih=>intro p s t kd h;rw[Sem.wp]at h |-;exact ih () p s t kd h
 |register _ k ih=>intro p s t kd h;rw[Sem.wp]at h;exact h.elim
 |alloc o k ih=>intro p s t kd h;rw[Sem.wp]at h |-;exact ih _ p _ (t _) (kd.trans (KD.push o)) h
 |fresh k ih=>intro p s t kd h;rw[Sem.wp]at h |-;exact ih _ p _ (t _) kd h
 |ask k ih=>intro p s t kd h;rw[Sem.wp]at h |-;exact ih _ p s (t _) kd h
 |stack k ih=>intro p s t kd h;rw[Sem.wp]at h |-;exact ih _ p s (t _) kd h
 |handled _ k ih=>intro p s t kd h;rw[Sem.wp]at h |-;exact ih _ p s (t _) kd h
 |choose|os|call|genState|newGen|resume|yield|fork|thread|await=>intro p s t;exact t.elim
theorem Tame.bind{α β:Type}{m:Sem α}{f:α -> Sem β}(hm:Tame m)(hf:∀a,Tame (f a)):Tame (m.bind f):=by
 induction m with
 |pure a=>exact hf a
 |raise e=>trivial
 |unsupported w=>trivial
 |finish w=>trivial
 |rule _ k ih=>exact ih () hm
 |«at» _ k ih=>exact ih () hm
 |load a _ k ih=>exact λo=>ih o (hm o)
 |update a _ f k ih=>exact⟨hm.1,ih () hm.2⟩
 |loadIfAlive a k ih=>exact λo=>ih o (hm o)
 |point _ k ih=>exact ih () hm
 |register _ k ih=>exact ih () hm
 |alloc o k ih=>exact λa=>ih a (hm a)
 |fresh k ih=>exact λa=>ih a (hm a)
 |ask k ih=>exact λa=>ih a (hm a)
 |stack k ih=>exact λa=>ih a (hm a)
 |handled _ k ih=>exact λa=>ih a (hm a)
 |choose|os|call|genState|newGen|resume|yield|fork|thread|await=>exact hm.elim
theorem pL{α:Type}{t:Sem α}{Q:α -> Shared->Prop}(ht:Tame t)(h:wpAny M A t Q E s):wpAny M A t (λa s'=>Q a s'/\KD s.heap s'.heap) (λe s'=>E e s'/\KD s.heap s'.heap) s :=
 fun Γ p hΓ=>IK s.heap t p s ht KD.refl (h Γ p hΓ)
theorem Tame.bind'{α β:Type}{m:Sem α}{f:α -> Sem β}(hm:Tame m)(hf:∀a,Tame (f a)):Tame (m >>= f):=Tame.bind hm hf
theorem nU(a:Addr):Tame (load a):=by
 unfold load
 first|exact λo=>trivial|trivial
theorem rW(v:Value):Tame (fieldsOf v):=by
 unfold fieldsOf
 split
 ·refine Tame.bind' (nU _) λo=>?_
  split<;>trivial
 ·trivial
theorem jq(v:Value)(i:Nat):Tame (field v i):=by
 unfold field;refine Tame.bind' (rW v) λvs=>?_
 split<;>trivial
theorem oR(hf:KF f):Tame (update a f):=⟨hf,trivial⟩
theorem MX(g:Array Value->Array Value):KF (Obj.mapFields g):=λo ho=>by
 obtain⟨c,d,dt,sl⟩:=o;cases dt<;>first|exact⟨rfl,rfl⟩|exact⟨rfl,ho⟩
theorem iE(v:Value)(i:Nat)(x:Value):Tame (setField v i x):=by
 unfold setField
 split
 ·unfold updateField
  refine Tame.bind' (nU _) λo=>?_
  split
  ·split
   ·exact oR (MX _)
   ·trivial
  ·trivial
 ·trivial
theorem jR(e:Value)(f:Option Addr):Tame (setFlight e f):=by
 unfold setFlight;refine Tame.bind' (jq _ _) λtb=>?_
 split
 ·exact iE _ _ _
 ·trivial
theorem pG(f:Addr)(b:Bool):Tame (entryPlaceOf f b):=by
 unfold entryPlaceOf;refine Tame.bind' (by unfold stack;exact λ_=>trivial) λacts=>?_
 split<;>trivial
theorem wH(n:String)(d:Data)(x:Option Addr):Tame (newObj (.type n) d x):=by
 have as:Tame (newObjAsIs (.type n) d x):=by unfold newObjAsIs;exact Tame.bind' (by unfold alloc;exact λ_=>trivial) λ_=>trivial
 unfold newObj;dsimp only
 split<;>first
  |exact as
  |(split<;>first|exact as|trivial)
theorem rX(a b c d e:Value)(pl:List Value):Tame (EntryCells.newEntry a b c d e pl):=by
 unfold EntryCells.newEntry newFields;exact wH _ _ _
theorem qA:∀l:List Env,Tame (readyFrames l)
 |[]=>trivial
 | env::outer=>by
  unfold readyFrames
  split
  ·refine Tame.bind' (nU _) λo=>?_
   split
   ·trivial
   ·refine Tame.bind' ?_ λim=>Tame.bind' ?_ λback=>Tame.bind' (oR λo ho=>?_) λ_=>qA outer
    ·unfold behindIsImport
     split
     ·trivial
     ·split
      ·trivial
      ·exact Tame.bind' (jq _ _) λ_=>trivial
    ·unfold keptBack
     split
     ·split
      ·trivial
      ·refine Tame.bind' ?_ λ_=>trivial;unfold underTheClaimsCaller;exact Tame.bind' (by unfold stack;exact λ_=>trivial) λ_=>trivial
     ·trivial
    ·obtain⟨c,d,dt,sl⟩:=o;cases dt<;>exact⟨rfl,ho⟩
  ·trivial
theorem uK(env:Env):Tame (PySem.frameOf env):=by
 unfold PySem.frameOf;refine Tame.bind' ?_ λenvs=>Tame.bind' ?_ λf=>?_
 ·unfold frameEnvs;exact Tame.bind' (by unfold stack;exact λ_=>trivial) λ_=>trivial
 ·unfold frameObject
  split
  ·trivial
  ·exact Tame.bind' (qA _) λ_=>trivial
 ·split<;>trivial
theorem nV(e:Value)(env:Env):Tame (noteFrame e env):=by
 unfold noteFrame
 split
 ·refine Tame.bind' (jq _ _) λhead=>?_
  have jp:∀f:Addr,Tame (do
    let a <-PySem.frameOf env
    let pl <-entryPlaceOf f (head != Value.none)
    let b <-EntryCells.newEntry head a Value.none (rawInt f) Value.none pl
    setField e 1 b):=λf=>Tame.bind' (uK env) λ_=>Tame.bind' (pG _ _) λ_=>Tame.bind' (rX _ _ _ _ _ _) λ_=>iE _ _ _
  dsimp only
  split
  ·refine Tame.bind' (jq _ _) λx=>?_
   split
   ·trivial
   ·exact Tame.bind' (iE _ _ _) λ_=>jp _
  ·exact jp _
 ·trivial
theorem uL(env:Env)(e:Value):Tame (leaving env e):=by
 unfold leaving;exact Tame.bind' (nV _ _) λ_=>jR _ _
section
variable {K:Frag} {prog:Program} {w:World} {A:Around} {E:Value->Shared->Prop} {h:Heap} {g:Array GenState} {d:Drawn} {t:Nat} {os:OsState}
variable {nm q:Str} {C N:Addr} {bs bm bmB:List Value} {hdct:Bool} {sn:List Str} {sub:List Value} {ab:Bool} {col:Option Bool} {dd:Option Addr} {k0 k1 k2 k3 k5:Option Value} {B newId initId:String}
theorem qB(F:ExcBaseFacts B newId initId bmB)(T:OwnTail h bmB bm){rest:List Value}{fI:Addr}{Q:Fin->Shared->Prop}
  (hC:h.get? C=some (excClassObj nm q C N bs bm hdct sn sub ab col dd k0 k1 k2 k3 k5 newId)) (X:K.In h) (hi:findIn K (.ref C) "__init__" = some (some (.ref fI))) (hf:typeIn K (.ref fI)=some (.type "function"))
  (hq:∀h' e,Heap.MadeExcOf h h' e (.ref C) rest->h.objs.size<=e->wpAny (model prog w) A (call (.ref fI) (.ref e::rest)) (λr s'=>r=.none/\Q (.done (.ret (.ref e))) s') E ⟨h',g,d,t,os⟩) (hrest:rest.length<=sizeLine) :
  wpAny (model prog w) A (Builtin.«type.__call__» ⟨.ref C::rest,[]⟩) Q E ⟨h,g,d,t,os⟩:=by
 repeat (first|with_reducible refine wpAny_loadPart_at hC ?_|with_reducible refine wpAny_madeBy_exc hC ?_|wp_step)
 refine codeAny_call_builtin_code (Code.quiet_builtin _ F.quiet) (wpAny_check_new_subT F T hC ?_);refine codeAny_exc_new_subT F T hC ?_ hrest;show wpAny _ _ _ _ _ _;have kp:∀b o,h.get? b=some o->((h.push { cls:=.type "tuple",data:=.seq rest.toArray }).push { cls:=.ref C,data:=.fields [.ref h.objs.size,.none,.none,.none,.bool false,.none].toArray }).get? b=some o:=λb o e=>aad _ (aad _ e);have hget:((h.push { cls:=.type "tuple",data:=.seq rest.toArray }).push { cls:=.ref C,data:=.fields [.ref h.objs.size,.none,.none,.none,.bool false,.none].toArray }).get? (h.objs.size+1)=some { cls:=.ref C,data:=.fields [.ref h.objs.size,.none,.none,.none,.bool false,.none].toArray }:=by heap_get
 have hcC:(Value.ref C::bm).contains (.ref C)=true:=by simp
 have Y7:=kp _ _ hC;unfold isInstance
 repeat (first|with_reducible refine wpAny_loadPart_at hget ?_|(with_reducible refine wpAny_isSubtype_exc Y7 ?_;rw[hcC])|wp_step)
 show wpAny _ _ (typeLookup (.ref C) _) _ _ _;refine looks_findIn (X.keeps kp) hi _ _ _ _ (λ_ _ e=>e) ?_;refine wpAny_holding (aaa ?_);refine PySem.W.bind_fn (X.keeps kp) (.ref (h.objs.size+1)) hf _ _ _ _ (λ_ _ e=>e) ?_;refine aaa (aaL (hq _ (h.objs.size+1) ⟨kp,Heap.get?_none_of_le (le_succ _),h.objs.size,hget,Heap.get?_none_of_le (aal _),?_⟩ (le_succ _)) (λr s' hr=>?_) λ_ _ x=>x)
 ·exact aad _ (Heap.get?_push_at rfl rfl)
 ·obtain⟨rfl,hQ⟩:=hr
  wp_walk
  exact hQ
theorem Ca(F:ExcBaseFacts B newId initId bmB)(T:OwnTail h bmB bm){rest:List Value}{fI:Addr}{Q:Value->Shared->Prop}
  (hC:h.get? C=some (excClassObj nm q C N bs bm hdct sn sub ab col dd k0 k1 k2 k3 k5 newId)) (X:K.In h) (hi:findIn K (.ref C) "__init__" = some (some (.ref fI))) (hf:typeIn K (.ref fI)=some (.type "function"))
  (hq:∀h' e,Heap.MadeExcOf h h' e (.ref C) rest->h.objs.size<=e->wpAny (model prog w) (A.under (.builtin "type.__call__" ⟨.ref C::rest,[]⟩)) (call (.ref fI) (.ref e::rest)) (λr s'=>r=.none/\Q (.ref e) s') E ⟨h',g,d,t,os⟩) (hrest:rest.length<=sizeLine) :
  wpAny (model prog w) A (call (.ref C) rest) Q E ⟨h,g,d,t,os⟩:=by
 have f1:=tc_lookup;have f2:=tc_bind (.ref C);have hT:(⟨h,g,d,t,os⟩:Shared).TypeIs (.ref C) "type":=⟨_,hC,rfl⟩;refine wpAny_call (codeAny_of_tree ?_);show wpAny _ _ (callAny (.ref C) _) _ _ _
 repeat (any_goals (first|assumption|with_reducible refine wpAny_loadPart_at hC ?_|wp_step))
 refine⟨rfl,?_⟩;exact codeAny_call_builtin_at (Code.quiet_builtin _ (by decide +kernel)) entry_typeCall (wpAny_check_type_call_sub hC (qB F T hC X hi hf hq hrest))
end
structure D3 (K:Frag) (C D:Addr) (cd:ClassData):Prop where
 cls:PySem.W.clsIn K C=some cd
 mro:cd.mro=[.ref C,.ref D,.type "ValueError",.type "Exception",.type "BaseException",.type "object"]
 hd:cd.hasDict=true
 sa:findIn K (.ref C) "__setattr__" = some (some (.builtin "object.__setattr__"))
 ob:PySem.W.mroIn K C (.type "object")=some true
section
variable {prog:Program} {w:World} {A:Around} {E:Value->Shared->Prop} {s:Shared} {K:Frag} {C D x:Addr} {cd:ClassData} {ox:Obj} {name:Str} {v:Value}
theorem IL(X:K.In s.heap)(c:D3 K C D cd)(hn:findIn K (.ref C) name=some none)(hx:s.heap.get? x=some ox)(hcl:ox.cls=.ref C)(hdn:ox.dict=none)(hdat:∃vs,ox.data=.fields vs)
  (h:∀h' tk,h'.get? x=some { ox with dict:=some s.heap.objs.size }->h'.Ns1 s.heap.objs.size (λy=>if y=name then some v else none)->(∀b o,b≠x->s.heap.get? b=some o->h'.get? b=some o)->Q () { s with heap:=h',toks:=tk }) :
  wpAny (model prog w) A (setAttr (.ref x) name v) Q E s:=by
 obtain⟨vs,hdat⟩:=hdat
 have I:PySem.W.InstAt s.heap x ox C none:=⟨hx,hcl,by unfold notCls;rw[hdat],by rw[hdn];trivial⟩;have SF:=PySem.F.store_ValueError;have sub:PySem.W.Looks (model prog w) s.heap (isInstance (.ref x) (.type "object")) true:=I.type.andThen (looks_mroIn X c.ob);have hmL:PySem.W.Looks (model prog w) s.heap (mroOf (.ref C)) cd.mro:=(looks_clsIn X c.cls).andThen .now;refine PySem.W.set_plain X I c.sa ?_;refine codeAny_call_builtin SF.slot.plain SF.entry (@PySem.W.check_slot (model prog w) _ _ _ "object.__setattr__" "object" "__setattr__" (.ref x) [.str name s.toks,v] [] _ SF.kind SF.split sub (SF.args (.ref x) (.str name s.toks) v) ?_);rw[osa_eq,refuse_eq];refine aaa (aaa (I.type _ _ _ _ (λ_ _ e=>e) (aaa (hmL _ _ _ _ (λ_ _ e=>e) ?_))));rw[c.mro,refuseLoop_ref,refuseLoop_ref,SF.passes];refine aag (aaa (I.type _ _ _ _ (λ_ _ e=>e) (aaa (looks_findIn X hn _ _ _ _ (λ_ _ e=>e) (aaa ?_)))));refine aag ?_;dsimp only;have hxs:x≠s.heap.objs.size:=aat (aam hx);have hx1:(s.heap.push { cls:=.type "dict",data:=.dict #[] }).get? x=some ox:=aad _ hx;refine aaa (aag (aaa (aaa (wpAny_loadPart hx ?_))));rw[hcl];refine aaa (looks_clsIn X c.cls _ _ _ _ (λ_ _ e=>e) ?_);rw[c.hd,hdn,hdat];refine aaa (wpAny_alloc' ?_);refine aaa (wpAny_update' hx1 ?_);refine aag ?_;have hgd:((s.heap.push { cls:=.type "dict",data:=.dict #[] }).update x λo=>{ o with dict:=some s.heap.objs.size }).get? s.heap.objs.size=some { cls:=.type "dict",data:=.dict #[] } :=
  (get?_update_ne _ _ _ _ hxs.symm).trans (Heap.get?_push_at rfl rfl)
 have hnd:((s.heap.push { cls:=.type "dict",data:=.dict #[] }).update x λo=>{ o with dict:=some s.heap.objs.size }).Ns s.heap.objs.size (λ_=>none) :=
  ⟨_,#[],_,hgd,rfl,λe he=>absurd he (by simp),λ_=>rfl⟩
 show wpAny _ _ (Builtin.ObjectAttr.storeInDict s.heap.objs.size (.str name _) name v) _ _ _;refine aaa (aag (aaa (wpAny_nsSet1 (Heap.Ns1.of_empty hnd) λh' hn' hs=>?_)));obtain⟨oD,esD,epD,Y8,Y9,IM⟩:=hn'.count (Within.cons name v Within.nil);refine aaa (wpAny_lookBehind Y8 (by rw[Y9];exact pastItsLine_dict (aaK IM (by rw[aaB,length_nil,sizeLine_eq];omega))) ?_);refine aag ?_;have hx':h'.get? x=some { ox with dict:=some s.heap.objs.size }:=by refine(hs.2 x hxs).trans (aaM _ hx1 ?_);obtain⟨oc,od,UD,osl⟩:=ox;cases hdat;rfl
 refine h h' _ hx' hn' λb o hb e=>?_;exact(hs.2 b (aat (aam e))).trans ((get?_update_ne _ _ _ _ hb).trans (aad _ e))
end
abbrev D4(C t:Addr)(d:Option Addr):Obj:={ cls:=.ref C,dict:=d,data:=.fields [.ref t,.none,.none,.none,.bool false,.none].toArray }
def ExcAt(e C t:Addr)(d:Option Addr):Heap->Prop:=λh=>h.get? e=some (D4 C t d)
theorem y9(q:ExcAt e C t d h):bF P w H h e (.ext (ExcAt e C t d)) :=
 ⟨q,⟨_,q⟩,λh1 h2 a k=>k _ a⟩
section
variable {X:Cx} {o value:Expr} {f:Str} {pos pos':Pos} {ta tv:TE} {pins:List (Addr×Obj)} {σ:St} {H:Hp} {s:Shared} {e C D t dx:Addr} {cd:ClassData} {y:V} {u:Value}
def VT(K:Frag)(ta tv:TE)(f:Str):TS:=λEn σ H=>tv σ H λy H1=>ta σ H1 λx H2=>∃e C D t cd,x=.ref e/\H2 e=some (.ext (ExcAt e C t none))/\D3 K C D cd/\findIn K (.ref C) f=some none /\
 ∀dx,H2 dx=none->dx≠e->En.nx σ (upd (upd H2 dx (.xd [(f,y)])) e (.ext (ExcAt e C t (some dx))))
theorem IP(I:Inv X pins σ H s)(he:H e=some (.ext (ExcAt e C t none)))(c:D3 X.K C D cd)(hn:findIn X.K (.ref C) f=some none)(ry:RelV y u)
  (h:∀dx s',H dx=none->dx≠e->Inv X pins σ (upd (upd H dx (.xd [(f,y)])) e (.ext (ExcAt e C t (some dx)))) s'->Q () s'):wpAny (model X.prog X.w) A (setAttr (.ref e) f u) Q E s:=by
 have q:s.heap.get? e=some (D4 C t none):=(I.hok e _ he).1;refine IL I.jJ c hn q rfl rfl ⟨_,rfl⟩ λh' tk hx hns hk=>?_;have nd:H s.heap.objs.size=none:=I.hok.fresh (aal _);have ne:s.heap.objs.size≠e:=ne_of_gt (aam q);obtain⟨od,es,ep,hod,r⟩:=id hns;have fr:od.isFreed=false:=(Heap.get?_some_iff.mp hod).2;have p1:(s.heap.push od).get? s.heap.objs.size=some od:=aaq s.heap fr;have I1:=I.laid (a:=s.heap.objs.size) (o:=.xd [(f,y)]) (h':=s.heap.push od) (t':=s.toks) (λb ob z=>aad _ z) (aal _) (by
  refine⟨_,hns.at λo z=>?_,λg=>?_⟩
  ·rw[hod]at z;cases z;exact p1
  ·show pC (List.lookup g [(f,y)]) (if g=f then some u else none)
   by_cases c:g=f
   ·subst c;rw[aan rfl];simp only[List.lookup,beq_self_eq_true];exact ry
   ·rw[aaj c]
    have:(g==f)=false:=by simpa using c
    simp only[List.lookup,this];trivial)
 have I2:=I1.write (x:=e) (e:=e) (o:=.ext (ExcAt e C t (some s.heap.objs.size))) (h':=h') (t':=tk) (by rw[ao (Ne.symm ne),he];exact True.intro) (.inl rfl) (λb ob hb z=>by
  by_cases cb:b=s.heap.objs.size
  ·subst cb;have z:(s.heap.push od).get? s.heap.objs.size=some ob:=z;rw[p1]at z;cases z;exact hod
  ·exact hk b ob hb (by
    have z:(s.heap.push od).get? b=some ob:=z;exact(Heap.get?_push_cases z).resolve_left λw=>cb w.1)) ⟨_,hx⟩ (y9 hx)
 exact h _ _ nd ne I2
theorem MY(ha:PE X o ta)(hv:PE X value tv)(hs:swapsWith value (some (.Attribute o f pos')) pos.line X.env=pure false):PS X (.Assign [.Attribute o f pos'] value pos) (VT X.K ta tv f):=by
 intro pins s σ H D I h;refine plainObj_wpAny_Assign_Attribute (cL (hv pins s σ H _ I h) λu s1 ⟨y,H1,I1,ry,q⟩=>cL (ha pins s1 σ H1 _ I1 q) λov s2 ⟨x,H2,I2,rx,e,C,D',t,cd,ex,ee,c,n,q2⟩=>?_) hs;subst ex;obtain rfl:ov=Value.ref e:=rx;exact IP I2 ee c n ry λdx s3 nd ne I3=>⟨σ,_,I3,q2 dx nd ne⟩
end
theorem bF.there(x:bF P w H h a o):∃ob,h.get? a=some ob:=by
 cases o with
 |lst xs=>obtain⟨_,_,_,_,e⟩:=x;exact⟨_,e⟩
 |tup xs=>obtain⟨_,_,_,_,e,_⟩:=x;exact⟨_,e⟩
 |dK kvs=>obtain⟨_,_,_,_,o,_,_,e,_⟩:=x;exact⟨_,e⟩
 |dT kvs=>obtain⟨_,_,_,_,o,_,_,e,_⟩:=x;exact⟨_,e⟩
 |set S n=>obtain⟨o,_,_,_,e,_⟩:=x;exact⟨_,e⟩
 |ins C dx fs=>obtain⟨_,_,_,e,_⟩:=x;exact⟨_,e⟩
 |own y=>obtain⟨_,e⟩:=x;exact⟨_,e⟩
 |xd fs=>obtain⟨_,⟨_,_,_,e,_⟩,_⟩:=x;exact⟨_,e⟩
 |rng lo hi=>obtain⟨_,_,_,e⟩:=x;exact⟨_,e⟩
 |pK ob u=>obtain⟨e,_⟩:=x;exact⟨_,e⟩
 |tbl ps=>exact⟨_,(show h.get? a=some _ from x)⟩
 |met f y=>exact⟨_,(show h.get? a=some _ from x)⟩
 |ext φ=>obtain⟨_,⟨_,e⟩,_⟩:=x;exact⟨_,e⟩
theorem uM(x:iO P w H h)(e:h.get? a=none):H a=none:=by
 cases q:H a with
 |none=>rfl
 |some u=>obtain⟨o,z⟩:=bF.there (x a u q);rw[e]at z;cases z
structure uN (H:Hp) (h:Heap) (a:Addr) (dx:Option Addr) (C T:Addr) (v:Value):Prop where
 ob:∃oe vs a0,h.get? a=some oe/\oe.cls=.ref C/\oe.dict=dx/\oe.data=.fields vs/\vs[0]?=some a0/\vs[1]?=some (.ref T)
 tb:∃oT ts,h.get? T=some oT/\oT.data=.fields ts/\ts[3]?=some v
 ne:T≠a
 fa:H a=none
 fT:H T=none
abbrev Qk(H:Hp)(h:Heap)(a:Addr)(dx:Option Addr)(C T:Addr):Prop:=uN H h a dx C T .none
structure Lv (fs:List Addr) (a:Addr) (h h':Heap):Prop where
 keep:∀b o,b≠a->b∉fs->h.get? b=some o->h'.get? b=some o
 slot:∀b o,b∈fs->h.get? b=some o->∃sl,h'.get? b=some { o with slots:=sl }
 there:∀b o,h.get? b=some o->∃o',h'.get? b=some o'
section
variable {P:Program} {w:World} {M:Model} {A:Around} {E:Value->Shared->Prop} {s:Shared} {H:Hp} {base:Heap} {env:Env} {outer:List Env} {L a C T:Addr} {dx:Option Addr}
theorem b9{h:Heap}:∀{l:List Env},h.FunFrames base l->∀b∈frs l,∃o,h.get? b=some o/\∀vs,o.data≠.fields vs
 |[],_,b,hb=>by simp[frs]at hb
 | env::r,⟨_,⟨L,o,hf,_,ho,hd⟩,hr⟩,b,hb=>by
  unfold frs at hb;rw[filterMap_cons,hf]at hb
  rcases aau.mp hb with rfl|hb
  ·exact⟨o,ho,hd⟩
  ·exact b9 hr b hb
theorem iu{h:Heap}{as:List Addr}:∀{l:List Env},h.FunFrames base l->(∀b∈frs l,b∈as)->h.FunFrames (hideAll h as) l
 |[],_,_=>trivial
 | env::r,⟨hk,⟨L,o,hf,_,ho,hd⟩,hr⟩,hin=>by
  have e:frs (env::r)=L::frs r:=by unfold frs;rw[filterMap_cons,hf]
  exact⟨hk,⟨L,o,hf,hideAll_none _ (hin L (by rw[e];exact aah)),ho,hd⟩,iu hr λb hb=>hin b (by rw[e];exact aae _ hb)⟩
theorem Cb(hok:iO P w H s.heap)(hfr:A.frames=some (env::outer))(hl:s.heap.FunFrames base (env::outer))(hf:env.frame=some L){a0:Value}(he:s.heap.get? a=some oe)(hc:oe.cls=.ref C)(hdx:oe.dict=dx)(hd:oe.data=.fields vs)(h0:vs[0]?=some a0)(h1:vs[1]?=some .none)(ha:H a=none)
  (h:∀h' T,Qk H h' a dx C T->s.heap.get? T=none->Lv (frs (env::outer)) a s.heap h'->Q () { s with heap:=h' }):wpAny M A (leaving env (.ref a)) Q E s:=by
 have hin:∀b∈frs (env::outer),b∈a::frs (env::outer):=λb hb=>aae _ hb;have key:=wpAny_leaving_firstW (M:=M) (A:=A) (E:=E) (base:=hideAll s.heap (a::frs (env::outer))) (Q:=λ_ s'=>∃h',s'={ s with heap:=h' }/\Heap.LeftW (hideAll s.heap (a::frs (env::outer))) (env::outer) a oe.cls a0 s.heap h') hfr (iu hl hin) hf he (λb o e=>of_hideAll _ e) (hideAll_none _ aah) hd h1 h0 λh' z=>⟨h',rfl,z⟩;refine aaL (pL (uL env (.ref a)) key) (λ_ s' zz=>?_) λ_ _ zz=>zz.1;obtain⟨⟨h',rfl,st,ff,⟨VU,vs',T,oT,ts,e1,⟨e2,e3⟩,e4,e5,e6,e7,e8,e9,Ll⟩,up⟩,kd⟩:=zz;have Ry:s.heap.get? T=none:=by
  cases q:s.heap.get? T with
  |none=>rfl
  |some o=>
   by_cases c:T∈a::frs (env::outer)
   ·rcases aau.mp c with c|c
    ·exact absurd c e7
    ·obtain⟨o',Cc,h2'⟩:=b9 hl T c;rw[q] at Cc;cases Cc;obtain⟨sl,hs⟩:=up T o q h2';rw[e8]at hs;cases hs;exact absurd e9 (h2' ts)
   ·have:=hideAll_get _ q c;rw[e6]at this;cases this
 have hT:H T=none:=uM hok Ry;refine h h' T ⟨⟨VU,vs',a0,e1,e2.trans hc,?_,e4,e3,e5⟩,⟨oT,ts,e8,e9,Ll⟩,e7,ha,hT⟩ Ry ⟨λb o hb hn e=>?_,λb o hb e=>?_,λb o e=>?_⟩
 ·obtain⟨o',z1,z2⟩:=kd a oe he;have z1:h'.get? a=some o':=z1;rw[e1]at z1;cases z1;rw[z2,hdx]
 ·exact st b o (hideAll_get _ e λz=>(aau.mp z).elim hb hn)
 ·obtain⟨o',Cc,h2'⟩:=b9 hl b hb;rw[e] at Cc;cases Cc;exact up b o e h2'
 ·obtain⟨o',z,_⟩:=kd b o e;exact⟨o',z⟩
theorem frames_at{h h':Heap}(k:∀b o,h.get? b=some o->(∀vs,o.data≠.fields vs)->h'.get? b=some o):∀{l:List Env},h.FunFrames base l->h'.FunFrames base l
 |[],_=>trivial
 |_::_,⟨hk,⟨L,o,hf,e2,ho,hd⟩,hr⟩=>⟨hk,⟨L,o,hf,e2,k _ _ ho hd,hd⟩,frames_at k hr⟩
theorem D5{cls a0 v:Value}(hfr:A.frames=some (env::outer))(hl:s.heap.FunFrames base (env::outer))(hf:env.frame=some L)(tr:s.heap.TracedAtW base e cls a0 v)(hb:base.StaysIn s.heap)(he:base.get? e=none)
  (h:∀h',base.LeftW (env::outer) e cls a0 s.heap h'->Q () { s with heap:=h' }):wpAny M A (noteFrame (.ref e) env) (λ_ s2=>wpAny M A (setFlight (.ref e) none) Q E s2) E s:=by
 have Za:=tr;obtain⟨oe,vs,T,oT,ts,e1,⟨e2,e3⟩,e4,e5,e6,e7,e8,e9,Ll⟩:=tr
 by_cases hv:v=rawInt L
 ·exact wpAny_noteFrame_inFlight hf e1 e4 e5 e8 e9 (by rw[Ll,hv]) (wpAny_setFlight_noneW hb hl Za λh' z1 z2 z3 z4=>h h' ⟨z1,z2,z3,λb o q hn=>⟨o.slots,z4 b o q hn⟩⟩)
 ·unfold noteFrame
  rw[hf];dsimp only;refine aaa (wpAny_field e1 e4 e5 ?_);rw[aan (show (Value.ref T != Value.none)=true from rfl)];refine aaa (wpAny_field e8 e9 Ll ?_);rw[aaj (λz=>hv (eq_of_beq z))];have lt:3<ts.size:=by
   rcases lt_or_ge 3 ts.size with z|z
   ·exact z
   ·rw[getElem?_eq_none z] at Ll;cases Ll
  refine aaa (wpAny_setField e8 e9 lt ?_);have kp:∀b o,b≠T->s.heap.get? b=some o->(s.heap.update T (Obj.mapFields λx=>x.setIfInBounds 3 Value.none)).get? b=some o:=λb o n q=>Heap.get?_update_of_ne _ (Ne.symm n) q;have kn:∀b o,s.heap.get? b=some o->(∀vs,o.data≠.fields vs)->(s.heap.update T (Obj.mapFields λx=>x.setIfInBounds 3 Value.none)).get? b=some o:=λb o q n=>kp b o (λz=>by rw[z,e8]at q;cases q;exact n _ e9) q;exact wpAny_newEntryW (base:=base) hfr (frames_at kn hl) hf (kp _ _ (Ne.symm e7) e1) (λb o q=>kp b o (λz=>by rw[z,e6]at q;cases q) (hb b o q)) he e4 (by
   rcases lt_or_ge 1 vs.size with z|z
   ·exact z
   ·rw[getElem?_eq_none z]at e5;cases e5) e3 λh' z=>h h' (by rw[<-e2];exact⟨z.1,z.2.1,z.2.2.1,λb o q n=>z.2.2.2 b o (kn b o q n) n⟩)
theorem D6{a0 v0 v:Value}(hok:iO P w H h)(hl:h.FunFrames base (env::outer))(F:uN H h a dx C T v0)(st:(hideAll h (T::a::frs (env::outer))).StaysIn h')(tr:h'.TracedAtW (hideAll h (T::a::frs (env::outer))) a (.ref C) a0 v)
  (up:∀b o,h.get? b=some o->(∀vs,o.data≠.fields vs)->∃sl,h'.get? b=some { o with slots:=sl }) (kd:KD h h') :
  ∃T',uN H h' a dx C T' v/\(T'=T\/h.get? T'=none)/\(∀b o,b≠T->b≠a->b∉frs (env::outer)->h.get? b=some o->h'.get? b=some o)/\(∀b o,b∈frs (env::outer)->h.get? b=some o->∃sl,h'.get? b=some { o with slots:=sl })/\∀b o,h.get? b=some o->∃o',h'.get? b=some o':=by
 obtain⟨⟨oe,vs,_,he,hc,hdx,hd,h0,h1⟩,_,ne,fa,fT⟩:=F;obtain⟨VU,vs',T',Zb,ts',e1,⟨e2,e3⟩,e4,e5,e6,e7,e8,e9,Ll⟩:=tr;have Ry:T'=T\/h.get? T'=none:=by
  cases q:h.get? T' with
  |none=>exact .inr rfl
  |some o=>
   by_cases c:T'∈T::a::frs (env::outer)
   ·rcases aau.mp c with c|c
    ·exact .inl c
    rcases aau.mp c with c|c
    ·exact absurd c e7
    ·obtain⟨o',Cc,h2'⟩:=b9 hl T' c;rw[q] at Cc;cases Cc;obtain⟨sl,hs⟩:=up T' o q h2';rw[e8]at hs;cases hs;exact absurd e9 (h2' ts')
   ·have:=hideAll_get _ q c;rw[e6]at this;cases this
 have hT:H T'=none:=by
  rcases Ry with z|z
  ·rw[z];exact fT
  ·exact uM hok z
 refine⟨T',⟨⟨VU,vs',a0,e1,e2,?_,e4,e3,e5⟩,⟨Zb,ts',e8,e9,Ll⟩,e7,fa,hT⟩,Ry,λb o Zc hb hn e=>?_,λb o hb e=>?_,λb o e=>?_⟩
 ·obtain⟨o',z1,z2⟩:=kd a oe he;rw[e1]at z1;cases z1;rw[z2,hdx]
 ·exact st b o (hideAll_get _ e λz=>(aau.mp z).elim Zc λz=>(aau.mp z).elim hb hn)
 ·obtain⟨o',Cc,h2'⟩:=b9 hl b hb;rw[e] at Cc;cases Cc;exact up b o e h2'
 ·obtain⟨o',z,_⟩:=kd b o e;exact⟨o',z⟩
theorem uN.tr(F:uN H h a dx C T v)(as:List Addr):∃a0,h.TracedAtW (hideAll h (T::as)) a (.ref C) a0 v:=by
 obtain⟨⟨oe,vs,a0,he,hc,hdx,hd,h0,h1⟩,⟨oT,ts,g1,g2,g3⟩,ne,fa,fT⟩:=F;exact⟨a0,oe,vs,T,oT,ts,he,⟨hc,h0⟩,hd,h1,hideAll_none _ aah,ne,g1,g2,g3⟩
theorem wI(hok:iO P w H s.heap)(hfr:A.frames=some (env::outer))(hl:s.heap.FunFrames base (env::outer))(hf:env.frame=some L)(F:uN H s.heap a dx C T v)
  (h:∀h' T',Qk H h' a dx C T'->(T'=T\/s.heap.get? T'=none)->(∀b o,b≠T->b≠a->b∉frs (env::outer)->s.heap.get? b=some o->h'.get? b=some o)->(∀b o,b∈frs (env::outer)->s.heap.get? b=some o->∃sl,h'.get? b=some { o with slots:=sl })->(∀b o,s.heap.get? b=some o->∃o',h'.get? b=some o')->Q () { s with heap:=h' }) :
  wpAny M A (noteFrame (.ref a) env) (λ_ s2=>wpAny M A (setFlight (.ref a) none) Q E s2) E s:=by
 obtain⟨a0,tr⟩:=F.tr (a::frs (env::outer));have key:=pL (nV (.ref a) env) (D5 (M:=M) (A:=A) (E:=E) (Q:=λ_ s'=>∃h',s'={ s with heap:=h' }/\Heap.LeftW (hideAll s.heap (T::a::frs (env::outer))) (env::outer) a (.ref C) a0 s.heap h') hfr (iu hl λb hb=>aae _ (aae _ hb)) hf tr (λb o e=>of_hideAll _ e) (hideAll_none _ (aae _ aah)) λh' z=>⟨h',rfl,z⟩);refine aaL key (λ_ s1 zz=>?_) λ_ _ zz=>zz.1;refine aaL (pL (jR (.ref a) none) zz.1) (λ_ s' z2=>?_) λ_ _ z2=>z2.1;obtain⟨⟨h',rfl,st,ff,VW,up⟩,Zd⟩:=z2;obtain⟨T',F',nT,kp,sl,th⟩:=D6 hok hl F st VW up (KD.trans zz.2 Zd);exact h h' T' F' nT kp sl th
theorem wJ(hok:iO P w H s.heap)(hfr:A.frames=some (env::outer))(hl:s.heap.FunFrames base (env::outer))(hf:env.frame=some L)(F:uN H s.heap a dx C T v)
  (h:∀h' T',Qk H h' a dx C T'->(T'=T\/s.heap.get? T'=none)->(∀b o,b≠T->b≠a->b∉frs (env::outer)->s.heap.get? b=some o->h'.get? b=some o)->(∀b o,b∈frs (env::outer)->s.heap.get? b=some o->∃sl,h'.get? b=some { o with slots:=sl })->(∀b o,s.heap.get? b=some o->∃o',h'.get? b=some o')->Q () { s with heap:=h' }):wpAny M A (leaving env (.ref a)) Q E s :=
 aaa (wI hok hfr hl hf F h)
theorem D7(hok:iO P w H s.heap)(hfr:A.frames=some (env::outer))(hl:s.heap.FunFrames base (env::outer))(hf:env.frame=some L)(F:Qk H s.heap a dx C T)
  (h:∀h' T',uN H h' a dx C T' (rawInt L)->(T'=T\/s.heap.get? T'=none)->(∀b o,b≠T->b≠a->b∉frs (env::outer)->s.heap.get? b=some o->h'.get? b=some o)->(∀b o,b∈frs (env::outer)->s.heap.get? b=some o->∃sl,h'.get? b=some { o with slots:=sl })->(∀b o,s.heap.get? b=some o->∃o',h'.get? b=some o')->Q () { s with heap:=h' }):wpAny M A (noteFrame (.ref a) env) Q E s:=by
 obtain⟨a0,tr⟩:=F.tr (a::frs (env::outer));have key:=wpAny_noteFrame_onW (M:=M) (A:=A) (E:=E) (Q:=λ_ s'=>∃h',s'={ s with heap:=h' }/\Heap.NotedW (hideAll s.heap (T::a::frs (env::outer))) (env::outer) a (.ref C) a0 (rawInt L) s.heap h') hfr (iu hl λb hb=>aae _ (aae _ hb)) hf tr (λb o e=>of_hideAll _ e) (hideAll_none _ (aae _ aah)) λh' z=>⟨h',rfl,z⟩;refine aaL (pL (nV (.ref a) env) key) (λ_ s' zz=>?_) λ_ _ zz=>zz.1;obtain⟨⟨h',rfl,st,ff,VW,up⟩,kd⟩:=zz;obtain⟨T',F',nT,kp,sl,th⟩:=D6 hok hl F st VW up kd;exact h h' T' F' nT kp sl th
end
abbrev VB:List Value:=[.type "ValueError",.type "Exception",.type "BaseException",.type "object"]
structure wK (K:Frag) (C D f:Addr) (cd:ClassData):Prop where
 c:D3 K C D cd
 ob:∃nm q N bs hdct sn sub ab col dd k0 k1 k2 k3 k5,K.lookup C=some (excClassObj nm q C N bs (.ref D::VB) hdct sn sub ab col dd k0 k1 k2 k3 k5 "ValueError.__new__")
 up:∃c0 dd cdD sl c1 d1 es ep pH,K.lookup D=some ⟨c0,dd,.cls cdD,sl⟩/\K.lookup cdD.ns=some ⟨c1,d1,.dict es ep,pH⟩/\StrKeys es/\nsFind es "__init__" = none
 init:findIn K (.ref C) "__init__" = some (some (.ref f))
 fn:typeIn K (.ref f)=some (.type "function")
 kp:keepIn K (.ref C)=true
theorem wK.tail{K:Frag}{C D f:Addr}{cd:ClassData}{h:Heap}(M:wK K C D f cd)(X:K.In h):OwnTail h VB (.ref D::VB):=by
 obtain⟨c0,dd,cdD,sl,c1,d1,es,ep,pH,l1,l2,sk,ni⟩:=M.up;exact .own (X _ _ l1) ⟨_,es,ep,X _ _ l2,rfl,sk,λ_=>rfl⟩ ni .base
def Ag(K:Frag)(f:Str):Sp:=λvs H Q _=>∃e y C D t cd,vs=[.ref e,y]/\H e=some (.ext (ExcAt e C t none))/\D3 K C D cd/\findIn K (.ref C) f=some none /\
 ∀dx,H dx=none->dx≠e->Q .non (upd (upd H dx (.xd [(f,y)])) e (.ext (ExcAt e C t (some dx))))
section
variable {X:Cx} {CX:yF} {k:Nat} {f C D:Addr} {fd:FuncData} {ps:List Str} {cd:ClassData} {E:XK} {x g:Str} {pins:List (Addr×Obj)} {σ:St} {H:Hp} {s:Shared}
theorem IQ(M:wK X.K C D f cd)(F:fK X.prog X.w X.K X.mg X.base CX k f fd ps (Ag X.K g))(hr:eN (k+1) X.A)(hb:Binds X.K fd ps [])(hl:ps.length=2)(hx:Passes CX X E)(hn:findIn X.K (.ref C) g=some none)
  (I:Inv X pins σ H s) (ry:RelV y u)
  (h:∀e t dx s',H e=none->H dx=none->dx≠e->s.heap.get? e=none->Inv X pins σ (upd (upd (upd H e (.ext (ExcAt e C t none))) dx (.xd [(g,y)])) e (.ext (ExcAt e C t (some dx)))) s'->Q (.ref e) s') :
  wpAny (model X.prog X.w) X.A (call (.ref C) [u]) Q X.xe s:=by
 obtain⟨nm,q,N,bs,hdct,sn,sub,ab,col,dd,k0,k1,k2,k3,k5,lc⟩:=M.ob;obtain⟨hh,gn,dr,tk,os⟩:=s;refine Ca (K:=X.K) PySem.F.excBase_ValueError (M.tail I.jJ) (I.jJ _ _ lc) I.jJ M.init M.fn (λh' e me le=>?_) (by show 1<=sizeLine;decide);obtain⟨t,ht,_,_⟩:=me.there;have I2:Inv X pins σ (upd H e (.ext (ExcAt e C t none))) ⟨h',gn,dr,tk,os⟩:=I.laid (a:=e) (o:=.ext (ExcAt e C t none)) (h':=h') (t':=tk) me.keeps le (y9 ht);have ne:H e=none:=I.hok.fresh le;refine wpAny_call (codeAny_mono (F.run _ X.stack _ _ ⟨[.ref e,u],[]⟩ [.ref e,u] [.ref e,y] (λv H2=>v=.non/\∃dx,H dx=none/\dx≠e/\H2=upd (upd (upd H e (.ext (ExcAt e C t none))) dx (.xd [(g,y)])) e (.ext (ExcAt e C t (some dx)))) E (hr.make C [u] []) (I2.yH.make C [u] []) ?_ #[rfl,ry] ?_) λr s' hq=>?_)
 ·have:=hb _ [.ref e,u] I2.jJ (by rw[hl];rfl);rw[aaP]at this;exact this
 ·refine⟨e,y,C,D,t,cd,rfl,aD,M.c,hn,λdx nd nx=>⟨rfl,dx,?_,nx,rfl⟩⟩;rw[ao nx]at nd;exact nd
 ·cases r with
  |error e'=>exact hx pins σ _ _ e' s' I2 hq
  |ok fl=>
   cases fl with
   |ret u'=>obtain⟨v,H',I3,rv,ev,dx,nd,nx,eH⟩:=I2.after hq;subst ev;subst eH;exact⟨rv,h e t dx s' ne nd nx me.new I3⟩
   |next=>exact False.elim hq
   |brk=>exact False.elim hq
   |cont=>exact False.elim hq
end
section
variable {M:Model} {A:Around} {E:Value->Shared->Prop} {env:Env} {nm q:Str} {C N:Addr} {bs bm:List Value} {hdct:Bool} {sn:List Str} {sub:List Value} {ab:Bool} {col:Option Bool} {dd:Option Addr} {k0 k1 k2 k3 k5:Option Value} {newId:String}
theorem zb(hbase:bm.contains (.type "BaseException")=true)(hh:A.handled=none)
  (h:wpAny M A x (λv s₁=>∃e t d,v=.ref e/\s₁.heap.get? C=some (excClassObj nm q C N bs bm hdct sn sub ab col dd k0 k1 k2 k3 k5 newId)/\s₁.heap.get? e=some (D4 C t d)/\E (.ref e) s₁) E s) :
  wpAny M A (raiseStmt env (some x) none) Q E s:=by
 have VX:(Value.ref C::bm).contains (.type "BaseException")=true:=by rw[contains_cons,hbase,Bool.or_true]
 unfold raiseStmt;refine aaa (aaL h (λv s₁ h₁=>?_) λ_ _ x=>x);obtain⟨e,t,d,rfl,hC,he,hE⟩:=h₁;obtain⟨hp,g,dr,tk,os⟩:=s₁
 repeat (first|with_reducible refine wpAny_loadPart_at he ?_|with_reducible refine wpAny_loadPart_at hC ?_|(with_reducible refine wpAny_isSubtype_exc hC ?_;rw[VX])|wp_step)
 exact wpAny_raiseNew_none hh hE
theorem D8(hbase:bm.contains (.type "BaseException")=true)(hh:A.handled=none)
  (h:wpAny M A (eval x env) (λv s₁=>∃e t d,v=.ref e/\s₁.heap.get? C=some (excClassObj nm q C N bs bm hdct sn sub ab col dd k0 k1 k2 k3 k5 newId)/\s₁.heap.get? e=some (D4 C t d)/\E (.ref e) s₁) E s) :
  wpAny M A (exec (.Raise (some x) none pos) env) Q E s:=by
 rw[arm_exec_Raise]
 first
  |exact aaa (wpAny_standAt (zb hbase hh (aaa (aaL h (λv s₁ h₁=>aaa (wpAny_standAt (aag h₁))) λ_ _ x=>x))))
  |(simp only[evalOpt,Option.map];exact aaa (wpAny_standAt (zb hbase hh (aaa (aaL h (λv s₁ h₁=>aaa (wpAny_standAt (aag h₁))) λ_ _ x=>x)))))
  |(show wpAny M A (do standAt pos;raiseStmt env (some (do let v <-eval x env;standAt pos;pure v)) none) Q E s;exact aaa (wpAny_standAt (zb hbase hh (aaa (aaL h (λv s₁ h₁=>aaa (wpAny_standAt (aag h₁))) λ_ _ x=>x)))))
end
def D9(H:Hp)(a:Addr):Hp:=λb=>if b=a then none else H b
theorem iF(h:b≠a):D9 H a b=H b:=by unfold D9;rw[aaj h]
theorem jS:D9 H a a=none:=by unfold D9;rw[aan rfl]
theorem Ah(x:iO P w H h)(e:H a=some (.ext φ)):iO P w (D9 H a) h:=λb o q=>by
 have nb:b≠a:=λz=>by rw[z,jS]at q;cases q
 rw[iF nb]at q;refine(x b o q).stay (λ_ _ _ z=>z) (λc z=>?_) λc xs z=>?_
 ·rw[iF λy=>by rw[y,e]at z;cases z];exact z
 ·rw[iF λy=>by rw[y,e]at z;cases z];exact z
def jr(P:Program)(w:World):yF:=λouter H s E e s'=>∃a dx C T H',e=.ref a/\s'.os=s.os/\AllBare s'.gens/\Un (frs outer) [] H H' s.heap s'.heap/\iO P w H' s'.heap/\Qk H' s'.heap a dx C T/\s.heap.get? a=none/\s.heap.get? T=none/\E (.ref C) dx H'
section
variable {P:Program} {w:World} {K:Frag} {mg:Str->Option Value} {base:Heap} {N:List Str} {qual:Str} {scope:Scope} {f:Addr} {cd:Value} {A:Around} {outer:List Env} {s:Shared} {H:Hp} {E:XK} {pins:List (Addr×Obj)} {σ:St} {H3:Hp} {s3:Shared} {e C t:Addr} {dx:Option Addr}
theorem Ai(I:Inv (dM (jr P w) P w K mg base N qual scope f cd A outer s H E) pins σ H3 s3)(he:H3 e=some (.ext (ExcAt e C t dx)))(hn:s.heap.get? e=none)(q:E (.ref C) dx (D9 H3 e)) :
  (dM (jr P w) P w K mg base N qual scope f cd A outer s H E).xe (.ref e) s3:=by
 have ho:s3.heap.get? e=some (D4 C t dx):=(I.hok e _ he).1;have st:s3.heap.FunFrames base (envOfC qual scope s.heap.objs.size f cd::outer):=I.stack;refine Cb (P:=P) (w:=w) (H:=D9 H3 e) (a0:=.ref t) (Ah I.hok he) I.ok.frames st rfl ho rfl rfl rfl rfl rfl jS λh' T F nT L=>?_;have un:Un (frs outer) [] H H3 s.heap s3.heap:=I.base;have ne:∀b o,s.heap.get? b=some o->b≠e:=λb o z y=>by rw[y,hn]at z;cases z
 have nl:∀b o,s.heap.get? b=some o->b∉frs outer->b∉frs (envOfC qual scope s.heap.objs.size f cd::outer):=λb o z nb y=>by
  have y:b∈s.heap.objs.size::frs outer:=y
  rcases aau.mp y with y|y
  ·have:=aam z;rw[y]at this;exact absurd this (aaR _)
  ·exact nb y
 have sT:s.heap.get? T=none:=by
  cases q:s.heap.get? T with
  |none=>rfl
  |some o=>obtain⟨o',z⟩:=un.there T o q (by simp);rw[nT]at z;cases z
 refine⟨e,dx,C,T,D9 H3 e,rfl,I.os,I.bare,⟨λb o z nb nf _=>?_,λb o z nb nf _=>?_,λb o z nb _=>?_,λb o z _=>?_,λb xs z=>?_,λb o u z=>?_,λb ps z=>?_⟩,?_,F,hn,sT,q⟩
 ·exact L.keep b o (ne b o z) (nl b o z nf) (un.keep b o z nb nf (by simp))
 ·obtain⟨sl,z2⟩:=un.slot b o z nb nf (by simp);obtain⟨Mb,z3⟩:=L.slot b _ (aae _ nf) z2;exact⟨Mb,z3⟩
 ·rw[iF (ne b o z)];exact un.free b o z nb (by simp)
 ·obtain⟨o',z2⟩:=un.there b o z (by simp);exact L.there b o' z2
 ·have:=un.tups b xs z;rw[iF λy=>by rw[y,he]at this;cases this];exact this
 ·have:=un.frzs b o u z;rw[iF λy=>by rw[y,he]at this;cases this];exact this
 ·obtain⟨more,this⟩:=un.mw b ps z;exact⟨more,by rw[iF λy=>by rw[y,he]at this;cases this];exact this⟩
 ·have kp:∀c u ob,D9 H3 e c=some u->s3.heap.get? c=some ob->h'.get? c=some ob:=λc u ob z z2=>by
   have nc:c≠e:=λy=>by rw[y,jS]at z;cases z
   rw[iF nc]at z;refine L.keep c ob nc (λy=>?_) z2;have:=I.gZ c y;rw[this]at z;cases z
  exact λb o z=>(Ah I.hok he b o z).stay (λc u y z2=>by
   rcases y with rfl|y
   ·exact kp _ _ _ z z2
   ·exact kp _ _ _ y z2) (λ_ y=>y) λ_ _ y=>y
theorem iw(un:Un fs [] H H' h h'):∀{l:List Env},(∀b∈frs l,H b=none)->h.FunFrames base l->h'.FunFrames base l
 |[],_,_=>trivial
 | env::r,hf,⟨hk,⟨L,o,e1,e2,e3,e4⟩,hr⟩=>by
  have e:frs (env::r)=L::frs r:=by unfold frs;rw[filterMap_cons,e1]
  obtain⟨sl,z⟩:=un.any e3 (hf L (by rw[e];exact aah)) (by simp);exact⟨hk,⟨L,_,e1,e2,z,e4⟩,iw un (λb hb=>hf b (by rw[e];exact aae _ hb)) hr⟩
theorem wL{H1 H':Hp}{s1 s':Shared}(I:Inv (dM (jr P w) P w K mg base N qual scope f cd A outer s H E) pins σ H1 s1)(hos:s'.os=s1.os)(hbare:AllBare s'.gens)
  (un:Un (frs (envOfC qual scope s.heap.objs.size f cd::outer)) [] H1 H' s1.heap s'.heap) (hok:iO P w H' s'.heap) (fa:H' a=none) (fT:H' T=none) (na:s1.heap.get? a=none) (nT:s1.heap.get? T=none) (q:E (.ref C) dx H') (nc:s.heap.get? c=none) (fc:H' c=none)
  (F':Qk H' h' a dx C T') (MZ:T'=T\/s'.heap.get? T'=none\/T'=c) (kp:∀b o,b≠T->b≠a->b≠c->b∉frs (envOfC qual scope s.heap.objs.size f cd::outer)->s'.heap.get? b=some o->h'.get? b=some o)
  (sl:∀b o,b∈frs (envOfC qual scope s.heap.objs.size f cd::outer)->s'.heap.get? b=some o->∃sl,h'.get? b=some { o with slots:=sl }) (th:∀b o,b≠c->s'.heap.get? b=some o->∃o',h'.get? b=some o'):jr P w outer H s E (.ref a) { s' with heap:=h' }:=by
 have st:s1.heap.FunFrames base (envOfC qual scope s.heap.objs.size f cd::outer):=I.stack;have fre:∀b∈frs (envOfC qual scope s.heap.objs.size f cd::outer),H1 b=none:=I.gZ;have u0:Un (frs outer) [] H H1 s.heap s1.heap:=I.base;have ne:∀b o,s1.heap.get? b=some o->b≠a/\b≠T:=λb o z=>⟨(λy=>by rw[y,na]at z;cases z),(λy=>by rw[y,nT]at z;cases z)⟩;have nl:∀b o,s.heap.get? b=some o->b∉frs outer->b∉frs (envOfC qual scope s.heap.objs.size f cd::outer):=λb o z nb y=>by
  have y:b∈s.heap.objs.size::frs outer:=y
  rcases aau.mp y with y|y
  ·have:=aam z;rw[y]at this;exact absurd this (aaR _)
  ·exact nb y
 have sn:∀b,s1.heap.get? b=none->s.heap.get? b=none:=λb z=>by
  cases q:s.heap.get? b with
  |none=>rfl
  |some o=>obtain⟨o',y⟩:=u0.there b o q (by simp);rw[z]at y;cases y
 have sT:s.heap.get? T'=none:=by
  rcases MZ with y|y|y
  ·rw[y];exact sn T nT
  rotate_left
  ·rw[y];exact nc
  ·refine sn T' ?_
   cases q:s1.heap.get? T' with
   |none=>rfl
   |some o=>obtain⟨o',z⟩:=un.there T' o q (by simp);rw[y]at z;cases z
 refine⟨a,dx,C,T',H',rfl,hos.trans I.os,hbare,⟨λb o z nb nf _=>?_,λb o z nb nf _=>?_,λb o z nb _=>?_,λb o z _=>?_,λb xs z=>un.tups b xs (u0.tups b xs z),λb o u z=>un.frzs b o u (u0.frzs b o u z),λb ps z=>?_⟩,?_,F',sn a na,sT,q⟩
 ·have z1:=u0.keep b o z nb nf (by simp);have z2:=un.keep b o z1 (u0.free b o z nb (by simp)) (nl b o z nf) (by simp);exact kp b o (ne b o z1).2 (ne b o z1).1 (λy=>by rw[y,nc]at z;cases z) (nl b o z nf) z2
 ·obtain⟨pH,z1⟩:=u0.slot b o z nb nf (by simp);obtain⟨sl2,z2⟩:=un.slot b _ z1 (u0.free b o z nb (by simp)) (aae _ nf) (by simp);obtain⟨Ze,z3⟩:=sl b _ (aae _ nf) z2;exact⟨Ze,z3⟩
 ·obtain⟨o1,z1⟩:=u0.there b o z (by simp);exact un.free b o1 z1 (u0.free b o z nb (by simp)) (by simp)
 ·obtain⟨o1,z1⟩:=u0.there b o z (by simp);obtain⟨o2,z2⟩:=un.there b o1 z1 (by simp);exact th b o2 (λy=>by rw[y,nc]at z;cases z) z2
 ·obtain⟨m1,z1⟩:=u0.mw b ps z;obtain⟨m2,z2⟩:=un.mw b _ z1;exact⟨m1++m2,by rw[z2,Array.append_assoc]⟩
 ·have nf:∀b u,H' b=some u->b∉frs (envOfC qual scope s.heap.objs.size f cd::outer):=λb u z y=>by
   obtain⟨o,z1,_⟩:=b9 st b y;have:=un.free b o z1 (fre b y) (by simp);rw[this]at z;cases z
  have kk:∀c' u ob,H' c'=some u->s'.heap.get? c'=some ob->h'.get? c'=some ob:=λc' u ob z z2=>
   kp c' ob (λy=>by rw[y,fT]at z;cases z) (λy=>by rw[y,fa]at z;cases z) (λy=>by rw[y,fc]at z;cases z) (nf c' u z) z2
  exact λb o z=>(hok b o z).stay (λc u y z2=>by
   rcases y with rfl|y
   ·exact kk _ _ _ z z2
   ·exact kk _ _ _ y z2) (λ_ y=>y) λ_ _ y=>y
theorem IT:Passes (jr P w) (dM (jr P w) P w K mg base N qual scope f cd A outer s H E) E:=by
 rintro pins σ H1 s1 e' s' I ⟨a,dx,C,T,H',rfl,hos,hbare,un,hok,F,na,nT,q⟩;have un:Un (frs (envOfC qual scope s.heap.objs.size f cd::outer)) [] H1 H' s1.heap s'.heap:=un;refine wJ (P:=P) (w:=w) (H:=H') hok I.ok.frames (iw un I.gZ I.stack) rfl F λh' T' F' MZ kp sl th=>?_;refine wL (c:=a) I hos hbare un hok F.fa F.fT na nT q ?_ F.fa F' (MZ.imp id .inl) (λb o x1 x2 _=>kp b o x1 x2) sl λb o _=>th b o;cases q:s.heap.get? a with
 |none=>rfl
 |some o=>obtain⟨o',y⟩:=I.base.there a o q (by simp[dM]);rw[na]at y;cases y
end
def M0(E:XK)(C:Addr)(g:Str)(t:TA):TS:=λ_ σ H=>t σ H λvs H1=>∃y,vs=[y]/\∀dx,H1 dx=none->E (.ref C) (some dx) (upd H1 dx (.xd [(g,y)]))
section
variable {P:Program} {w:World} {K:Frag} {mg:Str->Option Value} {base:Heap} {N:List Str} {qual:Str} {scope:Scope} {f:Addr} {cdv:Value} {A:Around} {outer:List Env} {s:Shared} {H:Hp} {E:XK} {k:Nat} {fI C D:Addr} {fd:FuncData} {ps:List Str} {cd:ClassData} {x g:Str} {arg:Expr} {p cpos pos:Pos} {t:TA}
theorem Ea(M:wK K C D fI cd)(F:fK P w K mg base Hr k fI fd ps (Ag K g))(hr:eN (k+1) (A.deeper (envOfC qual scope s.heap.objs.size f cdv)))(hb:Binds K fd ps [])(hl:ps.length=2)(hn:findIn K (.ref C) g=some none)
  (hg:Gl (dM (jr P w) P w K mg base N qual scope f cdv A outer s H E) x) (hm:mg x=some (.ref C)) (ha:PA (dM (jr P w) P w K mg base N qual scope f cdv A outer s H E) [arg] t) (hdb:(x==("__debug__":Str))=false)
  (he:starEach [arg] (dM (jr P w) P w K mg base N qual scope f cdv A outer s H E).env=(false,eval arg (dM (jr P w) P w K mg base N qual scope f cdv A outer s H E).env)::starEach [] (dM (jr P w) P w K mg base N qual scope f cdv A outer s H E).env) :
  PS (dM (jr P w) P w K mg base N qual scope f cdv A outer s H E) (.Raise (some (.Call (.Name x p) [arg] [] cpos)) none pos) (M0 E C g t):=by
 intro pins s1 σ H1 En I h;obtain⟨nm,q,N',bs,hdct,sn,sub,ab,col,dd,k0,k1,k2,k3,k5,lc⟩:=M.ob;refine D8 (C:=C) (nm:=nm) (q:=q) (N:=N') (bs:=bs) (bm:=.ref D::VB) (hdct:=hdct) (sn:=sn) (sub:=sub) (ab:=ab) (col:=col) (dd:=dd) (k0:=k0) (k1:=k1) (k2:=k2) (k3:=k3) (k5:=k5) (newId:="ValueError.__new__") rfl (I.ok.hd rfl) ?_;refine wpAny_Call_Name_kw (g9 I hg hm ?_ hdb);refine callWith_K (h₀:=base) I.ok.mod.Qz M.kp (cL (ha cpos pins s1 σ H1 _ I h) λus s2 ⟨vs,H2,I2,r,y,ev,qq⟩=>⟨I2.jJ,?_⟩) he rfl;subst ev;obtain⟨u,rfl,ru⟩:=vals1 r;refine IQ (X:=dM (jr P w) P w K mg base N qual scope f cdv A outer s H E) M F hr hb hl Rg hn I2 ru λe t dx s3 ne nd nx VY I3=>?_;have eH:D9 (upd (upd (upd H2 e (.ext (ExcAt e C t none))) dx (.xd [(g,y)])) e (.ext (ExcAt e C t (some dx)))) e=upd H2 dx (.xd [(g,y)]):=by
  funext b
  by_cases c:b=e
  ·subst c;rw[jS,ao (Ne.symm nx),ne]
  ·rw[iF c,ao c]
   by_cases c2:b=dx
   ·subst c2;rw[aD,aD]
   ·rw[ao c2,ao c2,ao c]
 have sn:s.heap.get? e=none:=by
  cases z:s.heap.get? e with
  |none=>rfl
  |some o=>have un:Un (frs outer) [] H H2 s.heap s2.heap:=I2.base;obtain⟨o',z2⟩:=un.there e o z (by simp);rw[VY]at z2;cases z2
 exact⟨e,t,some dx,rfl,I3.jJ _ _ lc,(I3.hok e _ aD).1,Ai I3 aD sn (by rw[eH];exact qq dx nd)⟩
end
structure tD (K:Frag) (C D:Addr):Prop where
 ob:∃nm q N bs hdct sn sub ab col dd k0 k1 k2 k3 k5 c1 d1 es ep pH,K.lookup C=some (excClassObj nm q C N bs (.ref D::VB) hdct sn sub ab col dd k0 k1 k2 k3 k5 "ValueError.__new__")/\K.lookup N=some ⟨c1,d1,.dict es ep,pH⟩/\StrKeys es/\nsFind es "__init__" = none
 up:∃c0 dd cdD sl c1 d1 es ep pH,K.lookup D=some ⟨c0,dd,.cls cdD,sl⟩/\K.lookup cdD.ns=some ⟨c1,d1,.dict es ep,pH⟩/\StrKeys es/\nsFind es "__init__" = none
 kp:keepIn K (.ref C)=true
theorem tD.tail{K:Frag}{C D:Addr}{h:Heap}(M:tD K C D)(X:K.In h):OwnTail h VB (.ref D::VB):=by
 obtain⟨c0,dd,cdD,sl,c1,d1,es,ep,pH,l1,l2,sk,ni⟩:=M.up;exact .own (X _ _ l1) ⟨_,es,ep,X _ _ l2,rfl,sk,λ_=>rfl⟩ ni .base
theorem Inv.Rz{t':Nat}(I:Inv X pins σ H s)(k:∀b u,s.heap.get? b=some u->h'.get? b=some u)(na:s.heap.get? a=none)(new:bF X.prog X.w (upd H a o) h' a o) :
  Inv X pins σ (upd H a o) { s with heap:=h',toks:=t' }:=by
 have hn:H a=none:=uM I.hok na;have ne:∀b u,s.heap.get? b=some u->b≠a:=λb u q z=>by rw[z,na]at q;cases q
 refine I.un ⟨λb u q _ _ _=>k b u q,λb u q _ _ _=>⟨u.slots,k b u q⟩,λb u q n _=>by rw[ao (ne b u q)];exact n,λb u q _=>⟨u,k b u q⟩,λb xs q=>by rw[ao (aE q hn)];exact q,λb u xs q=>by rw[ao (aE q hn)];exact q,λb ps q=>⟨#[],by rw[ao (aE q hn),q];simp⟩⟩ λb u e=>?_
 by_cases hb:b=a
 ·subst hb;rw[aD]at e;cases e;exact new
 ·rw[ao hb]at e;exact(I.hok b u e).stay (λc v _ q=>k c v q) (λc q=>by rw[ao (aE q hn)];exact q) λc xs q=>by rw[ao (aE q hn)];exact q
theorem Eb(M:tD X.K C D)(I:Inv X pins σ H s)
  (h:∀e t s',H e=none->s.heap.get? e=none->Inv X pins σ (upd H e (.ext (ExcAt e C t none))) s'->Q (.ref e) s'):wpAny (model X.prog X.w) X.A (call (.ref C) []) Q X.xe s:=by
 obtain⟨nm,q,N,bs,hdct,sn,sub,ab,col,dd,k0,k1,k2,k3,k5,c1,d1,es,ep,pH,lc,ln,sk,ni⟩:=M.ob;obtain⟨hh,gn,dr,tk,os⟩:=s;refine wpAny_call_exc_subT (mN:=λx=>nsFind es x) PySem.F.excBase_ValueError (M.tail I.jJ) (I.jJ _ _ lc) ⟨_,es,ep,I.jJ _ _ ln,rfl,sk,λ_=>rfl⟩ ni (λh' e me=>?_) (by show 0<=sizeLine;exact zero_le _);obtain⟨t,ht,_,_⟩:=me.there;exact h e t _ (uM I.hok me.new) me.new (I.Rz (a:=e) (o:=.ext (ExcAt e C t none)) (h':=h') (t':=tk) me.keeps me.new (y9 ht))
def IU(E:XK)(C:Addr):TS:=λ_ _ H=>E (.ref C) none H
section
variable {P:Program} {w:World} {K:Frag} {mg:Str->Option Value} {base:Heap} {N:List Str} {qual:Str} {scope:Scope} {f:Addr} {cdv:Value} {A:Around} {outer:List Env} {s:Shared} {H:Hp} {E:XK} {C D:Addr} {x:Str} {p cpos pos:Pos}
theorem Cd(M:tD K C D)(hg:Gl (dM (jr P w) P w K mg base N qual scope f cdv A outer s H E) x)(hm:mg x=some (.ref C))(hdb:(x==("__debug__":Str))=false) :
  PS (dM (jr P w) P w K mg base N qual scope f cdv A outer s H E) (.Raise (some (.Call (.Name x p) [] [] cpos)) none pos) (IU E C):=by
 intro pins s1 σ H1 En I h;obtain⟨nm,q,N',bs,hdct,sn,sub,ab,col,dd,k0,k1,k2,k3,k5,c1,d1,es,ep,pH,lc,ln,sk,ni⟩:=M.ob;refine D8 (C:=C) (nm:=nm) (q:=q) (N:=N') (bs:=bs) (bm:=.ref D::VB) (hdct:=hdct) (sn:=sn) (sub:=sub) (ab:=ab) (col:=col) (dd:=dd) (k0:=k0) (k1:=k1) (k2:=k2) (k3:=k3) (k5:=k5) (newId:="ValueError.__new__") rfl (I.ok.hd rfl) ?_;refine wpAny_Call_Name_kw (g9 I hg hm ?_ hdb);refine callWith_K0 I.jJ M.kp ?_;refine Eb (X:=dM (jr P w) P w K mg base N qual scope f cdv A outer s H E) M I λe t s3 ne VY I3=>?_;have eH:D9 (upd H1 e (.ext (ExcAt e C t none))) e=H1:=by
  funext b
  by_cases c:b=e
  ·subst c;rw[jS,ne]
  ·rw[iF c,ao c]
 have sn:s.heap.get? e=none:=by
  cases z:s.heap.get? e with
  |none=>rfl
  |some o=>have un:Un (frs outer) [] H H1 s.heap s1.heap:=I.base;obtain⟨o',z2⟩:=un.there e o z (by simp);rw[VY]at z2;cases z2
 exact⟨e,t,none,rfl,I3.jJ _ _ lc,(I3.hok e _ aD).1,Ai I3 aD sn (by rw[eH];exact h)⟩
end
def Ec(a C T:Addr)(dx:Option Addr):Heap->Prop:=λh=>∃oe vs,h.get? a=some oe/\oe.cls=.ref C/\oe.dict=dx/\oe.data=.fields vs/\vs[1]?=some (.ref T)
def Cf(T:Addr):Heap->Prop:=λh=>∃oT ts,h.get? T=some oT/\oT.data=.fields ts/\3<ts.size
theorem RA(q:Ec a C T dx h):bF P w H h a (.ext (Ec a C T dx)) :=
 ⟨q,(let ⟨oe,_,e,_⟩:=q;⟨oe,e⟩),λh1 h2 ⟨oe,vs,e,r⟩ k=>⟨oe,vs,k _ e,r⟩⟩
theorem Lm(q:Cf T h):bF P w H h T (.ext (Cf T)) :=
 ⟨q,(let ⟨oe,_,e,_⟩:=q;⟨oe,e⟩),λh1 h2 ⟨oe,vs,e,r⟩ k=>⟨oe,vs,k _ e,r⟩⟩
def oS(H:Hp)(a C T:Addr)(dx:Option Addr):Hp:=upd (upd H a (.ext (Ec a C T dx))) T (.ext (Cf T))
abbrev Cx.held(X:Cx)(v:Value):Cx:={ X with A:=X.A.mark (some v),calm:=false }
theorem Cx.Ok.held{X:Cx}(ok:X.Ok)(v:Value):(X.held v).Ok :=
 ⟨ok.mod,ok.kind,ok.glob,ok.blt,ok.above,ok.inj,ok.has,ok.Qf,(λz=>by cases z),ok.frames,ok.stk,ok.Ut,ok.bs,ok.HG,ok.BB,ok.BC,ok.nL,ok.Lb⟩
section
variable {X:Cx} {pins:List (Addr×Obj)} {σ:St} {H:Hp} {s:Shared} {v:Value}
theorem Inv.held(I:Inv X pins σ H s)(v:Value):Inv (X.held v) pins σ H s:=⟨I.ok.held v,I.os,I.bare,I.base,I.loc,I.cell,I.free,I.gH,I.pin,I.hok,I.len⟩
theorem Inv.M1(ok:X.Ok)(I:Inv (X.held v) pins σ H s):Inv X pins σ H s:=⟨ok,I.os,I.bare,I.base,I.loc,I.cell,I.free,I.gH,I.pin,I.hok,I.len⟩
end
theorem pM(h1:b≠a)(h2:b≠T):oS H a C T dx b=H b:=by unfold oS;rw[ao h2,ao h1]
theorem Aj:oS H a C T dx T=some (.ext (Cf T)):=by unfold oS;exact aD
theorem tE(h:T≠a):oS H a C T dx a=some (.ext (Ec a C T dx)):=by unfold oS;rw[ao (Ne.symm h),aD]
section
variable {X:Cx} {pins:List (Addr×Obj)} {σ:St} {H:Hp} {s s':Shared} {E:XK} {M:Model} {Ex:Value->Shared->Prop}
theorem uO{e:Value}{Q:Value->Shared->Prop}(hst:X.stack=X.env::X.outer)(hfm:X.env.frame=some X.env.locals)(I:Inv X pins σ H s)(c:jr X.prog X.w X.stack H s E e s')
  (h:∀a C T dx H' s3,E (.ref C) dx H'->H' a=none->H' T=none->T≠a->Inv X pins σ (oS H' a C T dx) s3->Q (.ref a) s3) :
  wpAny M X.A (noteFrame e X.env) (λ_ s2=>wpAny M X.A (setFlight e none) (λ_ s3=>Q e s3) Ex s2) Ex s':=by
 obtain⟨a,dx,C,T,H',rfl,hos,hbare,un,hok,F,na,nT,q⟩:=c;have st:s.heap.FunFrames X.base (X.env::X.outer):=by rw[<-hst];exact I.stack
 have un':Un (frs (X.env::X.outer)) [] H H' s.heap s'.heap:=by rw[<-hst];exact un
 have fre:∀b∈frs (X.env::X.outer),H b=none:=by rw[<-hst];exact I.gZ
 have ne:∀b o,s.heap.get? b=some o->b≠a/\b≠T:=λb o z=>⟨(λy=>by rw[y,na]at z;cases z),(λy=>by rw[y,nT]at z;cases z)⟩;refine wI (P:=X.prog) (w:=X.w) (H:=H') hok (by rw[I.ok.frames,hst]) (iw un' fre st) hfm F λh' T' F' MZ kp sl th=>?_;have neT:∀b o,s.heap.get? b=some o->b≠T':=λb o z y=>by
  rcases MZ with w|w
  ·exact(ne b o z).2 (y.trans w)
  ·obtain⟨o',z2⟩:=un'.there b o z (by simp);rw[y,w]at z2;cases z2
 have out:∀b u,H' b=some u->oS H' a C T' dx b=some u:=λb u z=>by
  rw[pM (λy=>by rw[y,F'.fa]at z;cases z) λy=>by rw[y,F'.fT]at z;cases z];exact z
 have nf:∀b u,H' b=some u->b∉frs (X.env::X.outer):=λb u z y=>by
  obtain⟨o,z1,_⟩:=b9 st b y;have:=un'.free b o z1 (fre b y) (by simp);rw[this]at z;cases z
 have kk:∀c u ob,H' c=some u->s'.heap.get? c=some ob->h'.get? c=some ob:=λc u ob z z2=>
  kp c ob (λy=>by rw[y,F.fT]at z;cases z) (λy=>by rw[y,F.fa]at z;cases z) (nf c u z) z2
 have VZ:iO X.prog X.w (oS H' a C T' dx) h':=λb o z=>by
  by_cases cT:b=T'
  ·subst cT;rw[Aj]at z;cases z;obtain⟨oT,ts,g1,g2,g3⟩:=F'.tb;exact Lm ⟨oT,ts,g1,g2,(Array.getElem?_eq_some_iff.mp g3).1⟩
  by_cases ca:b=a
  ·subst ca;rw[tE F'.ne]at z;cases z;obtain⟨oe,vs,a0,e1,e2,e3,e4,e5,e6⟩:=F'.ob;exact RA ⟨oe,vs,e1,e2,e3,e4,e6⟩
  rw[pM ca cT]at z;exact(hok b o z).stay (λc u y z2=>by
   rcases y with rfl|y
   ·exact kk _ _ _ z z2
   ·exact kk _ _ _ y z2) (λ_ y=>out _ _ y) λ_ _ y=>out _ _ y
 refine h a C T' dx H' _ q F'.fa F'.fT F'.ne (I.Ld (ch:=[]) (s':={ s' with heap:=h' }) hos ?_ VZ hbare λb z=>absurd z (by simp));rw[hst];refine⟨λb o z nb nf _=>?_,λb o z nb nf _=>?_,λb o z nb _=>?_,λb o z _=>?_,λb xs z=>out _ _ (un'.tups b xs z),λb o u z=>out _ _ (un'.frzs b o u z),λb ps z=>?_⟩
 ·exact kp b o (ne b o z).2 (ne b o z).1 nf (un'.keep b o z nb nf (by simp))
 ·obtain⟨pH,z1⟩:=un'.slot b o z nb nf (by simp);obtain⟨sl2,z2⟩:=sl b _ nf z1;exact⟨sl2,z2⟩
 ·rw[pM (ne b o z).1 (neT b o z)];exact un'.free b o z nb (by simp)
 ·obtain⟨o1,z1⟩:=un'.there b o z (by simp);exact th b o1 z1
 ·obtain⟨m1,z1⟩:=un'.mw b ps z;exact⟨m1,out _ _ z1⟩
theorem again(ne:T≠a)(I:Inv X pins σ (oS H a C T dx) s)(h:∀s',Inv X pins σ (oS H a C T dx) s'->Q () s'):wpAny M A (setFlight (.ref a) none) Q Ex s:=by
 obtain⟨⟨oe,vs,e1,e2,e3,e4,e5⟩,_⟩:=I.hok a _ (tE ne);obtain⟨⟨oT,ts,g1,g2,g3⟩,_⟩:=I.hok T _ Aj;refine wpAny_setFlight_none e1 e4 e5 g1 g2 g3 (h _ ?_);have gT:=aaM (Obj.mapFields (·.setIfInBounds 3 Value.none)) g1 (Obj.isFreed_of_fields (Obj.data_mapFields g2 (·.setIfInBounds 3 Value.none)));have same:upd (oS H a C T dx) T (.ext (Cf T))=oS H a C T dx:=by
  funext b
  by_cases c:b=T
  ·subst c;rw[aD,Aj]
  ·rw[ao c]
 have:=I.write (x:=T) (e:=T) (o:=.ext (Cf T)) (h':=s.heap.update T (Obj.mapFields (·.setIfInBounds 3 Value.none))) (t':=s.toks) (by rw[Aj];exact True.intro) (.inl rfl) (λb u hb z=>(get?_update_other _ _ (Ne.symm hb)).trans z) ⟨_,gT⟩
  (Lm ⟨_,_,gT,Obj.data_mapFields g2 _,by rw[Array.size_setIfInBounds];exact g3⟩)
 rw[same]at this;exact this
theorem goes{i:Nat}(hN:X.N.Nodup)(hi:X.N[i]?=some n)(hk:X.env.scope.names.lookup n=some .local)(I:Inv X pins σ H s)(h:∀s',Inv X pins (σ.set i none) H s'->Q () s') :
  wpAny M A (do bindName X.env n .none;unbindBehindTheSuite X.env n pos) Q Ex s:=by
 obtain⟨m,hn,hl⟩:=id I.loc;have hcls:(X.env.scope.kind==.class||(X.env.scope.kind==.module&&X.env.locals != X.env.globals))=false:=by rw[I.ok.kind];rfl
 have Uu:i < σ.length:=by rw[I.len];exact(aai.mp hi).1
 have cne:=I.cne;refine wpAny_nameGoes_keeps hk hn hcls λh' v hn' hs=>?_;obtain⟨oL,_,_,W3,_⟩:=id hn;have tracked:iO X.prog X.w H h':=λb ob e=>by
  refine(I.hok b ob e).stay (λc w' hc q=>(hs.2 c ?_).trans q) (λ_ q=>q) λ_ _ q=>q;rintro rfl
  rcases hc with hc|hc
  ·rw[<-hc,I.free]at e;cases e
  ·rw[I.free]at hc;cases hc
 refine h _ ⟨I.ok,I.os,I.bare,⟨λb o e n hb hx=>?_,λb o e n hb hx=>?_,I.base.free,λb o e hx=>?_,I.base.tups,I.base.frzs,I.base.mw⟩,⟨_,hn',λj y v' e1 e2 e3=>?_⟩,λy c e=>?_,I.free,I.gH,λp hp=>?_,tracked,by simpa using I.len⟩
 ·exact(hs.2 b (aat (aao (aam e) I.ok.above))).trans (I.base.keep b o e n hb hx)
 ·obtain⟨sl,e1⟩:=I.base.slot b o e n hb hx;exact⟨sl,(hs.2 b (aat (aao (aam e) I.ok.above))).trans e1⟩
 ·obtain⟨o',e1⟩:=I.base.there b o e hx;exact⟨o',(hs.2 b (aat (aao (aam e) I.ok.above))).trans e1⟩
 ·by_cases hj:j=i
  ·subst hj;rw[aaw Uu]at e2;cases e2
  ·rw[aak (Ne.symm hj)]at e2
   obtain⟨u',r',q⟩:=hl j y v' e1 e2 e3;refine⟨u',r',?_⟩
   rcases q with ⟨k,e⟩|⟨k,c,e,z⟩
   ·refine .inl ⟨k,?_⟩;have:y≠n:=λe=>hj (pX hN e1 (e▸hi));simp[this,e]
   ·exact .inr ⟨k,c,e,z.sameBut hs (cne y c e)⟩
 ·obtain⟨w',z⟩:=I.cell y c e;exact⟨w',z.sameBut hs (cne y c e)⟩
 ·obtain⟨e,n,ne,nf,d⟩:=I.pin p hp;exact⟨(hs.2 p.1 ne).trans e,n,ne,nf,d⟩
end
section
variable {M:Model} {A:Around} {E:Value->Shared->Prop}
variable {nm q:Str} {C N:Addr} {bs bm:List Value} {hdct:Bool} {sn:List Str} {sub:List Value} {ab:Bool} {col:Option Bool} {dd:Option Addr} {k0 k1 k2 k3 k5:Option Value} {newId:String}
variable {RC q':Str} {C' N':Addr} {bs' bm':List Value} {tF:Bool} {sn':List Str} {sub':List Value} {Ql:Bool} {col':Option Bool} {BR:Option Addr} {j0 j1 j2 j3 j5:Option Value} {newId':String}
theorem oU{h:Heap}{g:Array GenState}{d:Drawn}{t:Nat}{os:OsState}{e:Addr}{oe:Obj}{b:Bool}{Q:Bool->Shared->Prop}
  (hC:h.get? C=some (excClassObj nm q C N bs bm hdct sn sub ab col dd k0 k1 k2 k3 k5 newId)) (Xp:h.get? C'=some (excClassObj RC q' C' N' bs' bm' tF sn' sub' Ql col' BR j0 j1 j2 j3 j5 newId')) (he:h.get? e=some oe) (hcls:oe.cls=.ref C)
  (hbase:bm'.contains (.type "BaseException")=true) (hb:(Value.ref C::bm).contains (.ref C')=b)
  (hq:Q b ⟨h,g,d,t,os⟩):wpAny M A (excMatches (.ref e) (.ref C')) Q E ⟨h,g,d,t,os⟩:=by
 have VX:(Value.ref C'::bm').contains (.type "BaseException")=true:=by rw[contains_cons,hbase,Bool.or_true]
 have f:=tc_notTuple;unfold excMatches
 repeat (first|(with_reducible refine wpAny_loadPart_at he ?_;rw[hcls])|with_reducible refine wpAny_loadPart_at Xp ?_|(with_reducible refine wpAny_isSubtype_exc Xp ?_;rw[VX])|(with_reducible refine wpAny_isSubtype_exc hC ?_;rw[hb])|wp_step)
 cases b<;>(wp_walk;exact hq)
end
def lM(K:Frag)(C C':Addr)(b:Bool):Prop:=(∃nm q N bs bm hdct sn sub ab col dd k0 k1 k2 k3 k5 newId,K.lookup C=some (excClassObj nm q C N bs bm hdct sn sub ab col dd k0 k1 k2 k3 k5 newId)/\(Value.ref C::bm).contains (.ref C')=b) /\
 ∃nm q N bs bm hdct sn sub ab col dd k0 k1 k2 k3 k5 newId,K.lookup C'=some (excClassObj nm q C' N bs bm hdct sn sub ab col dd k0 k1 k2 k3 k5 newId)/\bm.contains (.type "BaseException")=true
def RD(X:Cx)(C:Addr)(hs:List ExceptHandler)(u:Ends->St->Addr->Hp->Prop):Prop:=∀pins s σ H a T dx D,Inv X pins σ (oS H a C T dx) s->T≠a->u D σ a (oS H a C T dx)->wpAny (model X.prog X.w) X.A (handleBy (.ref a) X.env hs) (SP X pins D) X.xe s
def Cg(i:Nat)(u:TS):Ends->St->Addr->Hp->Prop:=λD σ a H=>u { nx:=λσ' H2=>D.nx (σ'.set i none) H2,rt:=λ_ _=>False } (σ.set i (some (.ref a))) H
section
variable {X:Cx} {C C':Addr} {cx n:Str} {cp hp:Pos} {u:TS} {i:Nat} {b0:Stmt} {suite:List Stmt} {rest:List ExceptHandler}
theorem zc(V4:Gl X cx)(V5:X.mg cx=some (.ref C'))(hdc:(cx==("__debug__":Str))=false)(hC:lM X.K C C' true)(hN:X.N.Nodup)(hi:X.N[i]?=some n)(hn:X.env.scope.names.lookup n=some .local)
  (hu:∀a,nM (X.held (.ref a)).HK (b0::suite) u):RD X C (.ExceptHandler (some (.Name cx cp)) (some n) (b0::suite) hp::rest) (Cg i u):=by
 intro pins s3 σ H a T dx D I3 ne q3;obtain⟨⟨nm,q,N,bs,bm,hdct,sn,sub,ab,col,dd,k0,k1,k2,k3,k5,newId,lc,hsub⟩,RC,q',N',bs',bm',tF,sn',sub',Ql,col',BR,j0,j1,j2,j3,j5,newId',V6,hbase⟩:=hC;have J3:=I3.held (.ref a);refine wpAny_handleBy_cons (codeAny_handlers_test (g9 J3 V4 V5 ?_ hdc)) (by intro q;cases q);obtain⟨⟨oe,vs',e1,e2,e3,e4,e5⟩,_⟩:=I3.hok a _ (tE ne);obtain⟨hh,g,d,tk,os⟩:=s3;refine oU (I3.jJ _ _ lc) (I3.jJ _ _ V6) e1 e2 hbase hsub (codeAny_handlers_suite_as ?_);refine again ne J3 λs4 J4=>?_;refine pY (X:=X.held (.ref a)) J4 hN hi (.inl hn) (show RelV (.ref a) (.ref a) from rfl) (λs5 J5=>?_) (.inr hn);refine aaL (hu a pins s5 _ _ _ (J5.gg _) q3) (λfl s6 z=>?_) λ_ _ z=>False.elim z;cases fl with
 |next=>obtain⟨σ',H2,I6,q6⟩:=z;have I6:Inv X pins σ' H2 s6:=Inv.M1 I3.ok I6.fJ;exact goes hN hi hn I6 λs7 I7=>⟨_,H2,I7,q6⟩
 |ret v=>obtain⟨_,_,_,_,_,z⟩:=z;exact False.elim z
 |brk=>obtain⟨_,_,_,z⟩:=z;exact False.elim z
 |cont=>obtain⟨_,_,_,z⟩:=z;exact False.elim z
theorem uP(V4:Gl X cx)(V5:X.mg cx=some (.ref C'))(hdc:(cx==("__debug__":Str))=false)(hC:lM X.K C C' false)(hr:RD X C rest w):RD X C (.ExceptHandler (some (.Name cx cp)) nn body hp::rest) w:=by
 intro pins s3 σ H a T dx D I3 ne q3;obtain⟨⟨nm,q,N,bs,bm,hdct,sn,sub,ab,col,dd,k0,k1,k2,k3,k5,newId,lc,hsub⟩,RC,q',N',bs',bm',tF,sn',sub',Ql,col',BR,j0,j1,j2,j3,j5,newId',V6,hbase⟩:=hC;have J3:=I3.held (.ref a);refine wpAny_handleBy_cons (codeAny_handlers_test (g9 J3 V4 V5 ?_ hdc)) (by intro q;cases q);obtain⟨⟨oe,vs',e1,e2,e3,e4,e5⟩,_⟩:=I3.hok a _ (tE ne);obtain⟨hh,g,d,tk,os⟩:=s3;refine oU (I3.jJ _ _ lc) (I3.jJ _ _ V6) e1 e2 hbase hsub ?_;exact hr pins _ σ H a T dx D (I3.tok _) ne q3
end
def V7(sp:Sp)(t:TA)(w:Addr->Ends->St->Addr->Hp->Prop):TS:=λD σ H=>t σ H λvs H1=>sp vs H1 (λ_ H2=>D.nx σ H2) λc d H'=>∃C,c=.ref C/\∀a T,H' a=none->H' T=none->T≠a->w C D σ a (oS H' a C T d)
section
variable {X:Cx} {k:Nat} {f:Addr} {fd:FuncData} {ps:List Str} {sp:Sp} {x:Str} {p cpos epos pos:Pos} {e0:Expr} {es:List Expr} {t:TA} {h0:ExceptHandler} {hs:List ExceptHandler} {w:Addr->Ends->St->Addr->Hp->Prop}
theorem M3(hst:X.stack=X.env::X.outer)(hfm:X.env.frame=some X.env.locals)(F:fK X.prog X.w X.K X.mg X.base (jr X.prog X.w) k f fd ps sp)(hr:eN k X.A)(hg:Gl X x)(hm:X.mg x=some (.ref f))(hk:keepIn X.K (.ref f)=true)(hb:Binds X.K fd ps [])
  (ha:PA X.HK (e0::es) t) (hdb:(x==("__debug__":Str))=false) (he:starEach (e0::es) X.env=(false,eval e0 X.env)::starEach es X.env) (hpl:(backTo cpos (starEach es X.env)).any (·.1)=false)
  (hsw:swapsWith (.Call (.Name x p) (e0::es) [] cpos) none epos.line X.env=pure false) (hh:∀C,RD X C (h0::hs) (w C)) :
  PS X (.Try [.Expr (.Call (.Name x p) (e0::es) [] cpos) epos] (h0::hs) [] [] pos) (V7 sp t w):=by
 intro pins s σ H D I h;refine wpAny_Try_except (wpAny_execs_cons (wpAny_Expr_any ?_ I.quiet hsw));refine wpAny_Call_Name_kw (g9 I hg hm ?_ hdb);refine callWith_K (h₀:=X.base) I.ok.mod.Qz hk (aaL (ha cpos pins s σ H _ (I.gg _) h) (λus s1 ⟨vs,H1,I1,r,q⟩=>⟨I1.jJ,?_⟩) λ_ _ z=>False.elim z) he hpl;have I1:=I1.fJ;have hl:us.length=ps.length:=by rw[<-r.length];exact F.len _ _ _ _ q
 have UC:=hb s1 us I1.jJ (by rw[aaP];exact hl);rw[aaP] at UC;refine wpAny_call (codeAny_mono (F.run X.A X.stack s1 H1 ⟨us,[]⟩ us vs _ _ hr I1.yH UC r q) λrr s' hq=>?_);cases rr with
 |ok fl=>
  cases fl with
  |ret v=>obtain⟨y,H2,I2,_,q2⟩:=I1.after hq;exact wpAny_execs_nil (wpAny_execs_nil ⟨σ,H2,I2,q2⟩)
  |next=>exact False.elim hq
  |brk=>exact False.elim hq
  |cont=>exact False.elim hq
 |error ev=>unfold CR at hq;dsimp only at hq;refine uO (Q:=λev s3=>wpAny (model X.prog X.w) X.A (handleBy ev X.env (h0::hs)) (SP X pins D) X.xe s3) hst hfm I1 hq ?_;rintro a C' T dx H' s3 ⟨C,ec,q3⟩ fa fT ne I3;cases ec;exact hh C' pins s3 σ H' a T dx D I3 ne (q3 a T fa fT ne)
end
def gaOf(x:Addr)(name:Str)(tk:Tok):Sem Fin:=PySem.Builtin.«object.__getattribute__» (Args.mk [.ref x,.str name tk] [])
def Ak(P:Value->Shared->Prop)(fin:Fin)(s:Shared):Prop:=match fin with|.done (.ret v)=>P v s|_=>False
section
variable {prog:Program} {w:World} {A:Around} {E:Value->Shared->Prop} {s:Shared} {K:Frag} {x C:Addr} {ox:Obj} {od:Option Obj} {name:Str}
theorem getx_by{fill expr:Bool}(X:K.In s.heap)(I:PySem.W.InstAt s.heap x ox C od)(hga:findIn K (.ref C) "__getattribute__" = some (some (.builtin "BaseException.__getattribute__")))
  (Zf:findIn K (.ref C) "__getattr__" = some none) (hm:PySem.W.mroIn K C (.type "BaseException")=some true)
  (h:∀A',wpAny (model prog w) A' (gaOf x name tk) (Ak λv s'=>wpAny (model prog w) A (handedOut v) Q E s') (λ_ _=>False) s) :
  wpAny (model prog w) A (getAttrBy (.ref x) (.str name tk) fill expr) Q E s:=by
 obtain⟨hh,g,d,t,os⟩:=s;have L0:=I.type (M:=model prog w);have L1:=looks_findIn (M:=model prog w) X hga;have L2:=looks_findIn (M:=model prog w) X Zf;have sub:PySem.W.Looks (model prog w) hh (isInstance (.ref x) (.type "BaseException")) true:=I.type.andThen (looks_mroIn X hm);have hx2:(Value.builtin "BaseException.__getattribute__" == Value.builtin "object.__getattribute__")=false:=by decide +kernel
 have hx1:¬ ((onTheHeap (Value.ref C)&&Value.builtin "BaseException.__getattribute__" == Value.builtin "object.__getattribute__")=true):=by rw[hx2];simp
 have hx0:¬ ((expr&&onTheHeap (Value.builtin "BaseException.__getattribute__"))=true):=by cases expr<;>simp[onTheHeap]
 have f3:=(PySem.F.attr_ValueError).ga.bind (.ref x);unfold getAttrBy;refine wpAny_holding (aaa (L0.at (aaa (L1.at ?_))));dsimp only;rw[aaj hx1];unfold getAttrByItsOwn hookBefore;refine aaa ?_;show wpAny _ _ (typeLookup (.ref C) "__getattr__") _ _ _;refine L2.at (aaa (wpAny_attempt (wpAny_holding ?_)));unfold callGetattribute;rw[aaj hx0];unfold boundAndCalled;rw[f3];refine aaa (aag (wpAny_call ?_));have hk:builtinKind "BaseException.__getattribute__" = some .slot:=by decide +kernel
 have hsp:splitId "BaseException.__getattribute__" = some ("BaseException","__getattribute__"):=by decide +kernel
 refine codeAny_call_builtin (PySem.F.attr_ValueError).ga.plain F.entry_bexc_ga (@PySem.W.check_slot (model prog w) _ _ _ "BaseException.__getattribute__" "BaseException" "__getattribute__" (.ref x) [.str name tk] [] _ hk hsp sub (F.args_bexc_ga _ _) ?_);refine aaL (show wpAny _ _ (PySem.Builtin.«object.__getattribute__» (Args.mk [.ref x,.str name tk] [])) _ _ _ from h _) (λfin s' z=>?_) λ_ _ z=>z.elim;unfold Ak at z
 rcases fin with (_|_|_|_)|_<;>first|exact z|exact z.elim
theorem Ed(X:K.In s.heap)(I:PySem.W.InstAt s.heap x ox C od)(hf:findObj K C od name=some (.value v))(h:P v s):wpAny (model prog w) A' (gaOf x name tk) (Ak P) E s:=by
 obtain⟨hh,g,d,t,os⟩:=s;have L0:=I.type (M:=model prog w);have L1:=looks_find (M:=model prog w) X I hf;unfold gaOf Builtin.«object.__getattribute__»;refine aaa (aag ?_);refine aaa (aag ?_);refine aaa (L0.at (aaa (L1.at ?_)));exact aag h
theorem IV{g0 a0:Value}(X:K.In s.heap)(I:PySem.W.InstAt s.heap x ox C od)(hf:findObj K C od name=some (.bind g0 a0))(h:wpAny (model prog w) A' (call g0 [a0,.ref x,.ref C]) P E s):wpAny (model prog w) A' (gaOf x name tk) (Ak P) E s:=by
 obtain⟨hh,g,d,t,os⟩:=s;have L0:=I.type (M:=model prog w);have L1:=looks_find (M:=model prog w) X I hf;unfold gaOf Builtin.«object.__getattribute__»;refine aaa (aag ?_);refine aaa (aag ?_);refine aaa (L0.at (aaa (L1.at ?_)));show wpAny _ _ (holding [a0] (call g0 [a0,.ref x,.ref C]) >>= ret) _ _ _;exact aaa (wpAny_holding (aaL h (λv s' z=>aag z) λ_ _ z=>z))
end
structure lO (K:Frag) (C:Addr):Prop where
 ga:findIn K (.ref C) "__getattribute__" = some (some (.builtin "BaseException.__getattribute__"))
 gn:findIn K (.ref C) "__getattr__" = some none
 mb:PySem.W.mroIn K C (.type "BaseException")=some true
 hd:hasDictIn K C=true
 ha:findIn K (.ref C) "__class__" = some (some (.builtin "object.__class__"))
 hn:specialIn K (.builtin "object.__class__") "__get__" = some (some (.builtin "getset_descriptor.__get__"))
 htk:takesIn K (.builtin "object.__class__")=some true
 hm:PySem.W.mroIn K C (.type "object")=some true
section
variable {prog:Program} {w:World} {A:Around} {E:Value->Shared->Prop} {s:Shared} {K:Frag} {x C:Addr} {ox od:Obj} {name:Str}
theorem V8{expr:Bool}(X:K.In s.heap)(I:PySem.W.InstAt s.heap x ox C (some od))(G:lO K C)(hn:findIn K (.ref C) name=some none)(hl:lookIn name od=some (some v))(hv:handedIn v=true)(h:Q v { s with toks:=s.toks+1 }) :
  wpAny (model prog w) A (getAttr (.ref x) name expr) Q E s:=by
 obtain⟨hh,g,d,t,os⟩:=s;unfold getAttr;refine aaa (wpAny_mkText (getx_by (K:=K) X I G.ga G.gn G.mb λA'=>Ed X I (PySem.W.findObj_own G.hd hn rfl hl) ?_));rw[PySem.W.handedOut_of hv];exact aag h
theorem Ci{od:Option Obj}{a g:Value}(hc:(PySem.W.clsIn K C).isSome=true)(ha:findIn K (.ref C) name=some (some a))(hg:specialIn K a "__get__" = some (some g))(ht:takesIn K a=some true):findObj K C od name=some (.bind g a):=by
 obtain⟨cd,hc⟩:=Option.isSome_iff_exists.mp hc;unfold findObj;rw[hc,bind_some,ha,bind_some];simp[hg,ht]
theorem Ef{od:Option Obj}{Q:Option Value->Shared->Prop}(X:K.In s.heap)(I:PySem.W.InstAt s.heap x ox C od)(G:lO K C)(h:Q (some (.ref C)) { s with toks:=s.toks+1 }) :
  wpAny (model prog w) A (getAttr? (.ref x) "__class__") Q E s:=by
 have hf:findObj K C od "__class__" = some (.bind (.builtin "getset_descriptor.__get__") (.builtin "object.__class__")):=Ci (by obtain⟨cd,hc,_⟩:=any_some G.hd;rw[hc];rfl) G.ha G.hn G.htk;obtain⟨hh,g,d,t,os⟩:=s;unfold getAttr? getAttrBy?;refine aaa (wpAny_mkText (aaa (wpAny_attempt (getx_by (K:=K) X I G.ga G.gn G.mb λA'=>IV X I hf ?_))));refine wpAny_call (PySem.W.class_get (ox:=ox) (od:=od) X I G.hm ?_);refine aag ?_;exact aag h
theorem wN(G:lO K C):PySem.W.KitX K (.ref x) (.ref C) (λh=>∃ox od,PySem.W.InstAt h x ox C od) where
 ty:=λ_ _ _ ⟨_,_,I⟩=>I.type
 it:=λ_ _ X _=>by
  obtain⟨cdD,IM,_⟩:=any_some G.hd;unfold PySem.W.clsIn at IM;split at IM
  ·rename_i c' d' Zg Mb ho;intro A' Q' E' s' k q;unfold isType loadHead;exact aaa (wpAny_loadPart (k _ _ (X _ _ ho)) (aag q))
  ·cases IM
 ne:=λh tp dd its n sl X htp=>by
  obtain⟨cdD,IM,_⟩:=any_some G.hd;refine Bool.eq_false_iff.mpr λq=>?_;have e:C=tp:=Value.ref.inj (beq_iff_eq.mp q);subst e;unfold PySem.W.clsIn at IM;split at IM
  ·rename_i c' d' Zg Mb ho;have z:=(X _ _ ho).symm.trans htp;cases z
  ·cases IM
 ca:=λX ⟨_,_,I⟩ k=>Ef X I G k
end
section
variable {X:Cx} {pins:List (Addr×Obj)} {σ:St} {H:Hp} {s:Shared} {A:Around} {E:Value->Shared->Prop} {e:Expr} {f:Str} {pos:Pos} {ta:TE}
def Zh(a C:Addr)(dx:Option Addr)(h:Heap):Prop:=∃oe vs,h.get? a=some oe/\oe.cls=.ref C/\oe.dict=dx/\oe.data=.fields vs
def Lo(H:Hp)(a C:Addr)(dx:Option Addr):Prop:=∃φ,H a=some (.ext φ)/\∀h,φ h->Zh a C dx h
theorem Lo.uO(e:H a=some (.ext (Ec a C T dx))):Lo H a C dx:=⟨_,e,λh ⟨oe,vs,e1,e2,e3,e4,_⟩=>⟨oe,vs,e1,e2,e3,e4⟩⟩
theorem Am(I:Inv X pins σ H s)(ha:Lo H a C (some dx))(hd:H dx=some (.xd fs)) :
  ∃ox od,PySem.W.InstAt s.heap a ox C (some od)/\∀f v,fs.lookup f=some v->∃u,RelV v u/\lookIn f od=some (some u):=by
 obtain⟨φ,ha,hx⟩:=ha;obtain⟨oe,vs,e1,e2,e3,e4⟩:=hx _ (I.hok a _ ha).1;obtain⟨mA,n,r⟩:=I.hok dx _ hd;obtain⟨od,ho,hl⟩:=BL n;refine⟨oe,od,⟨e1,e2,by unfold notCls;rw[e4],by rw[e3];exact ho⟩,λf v z=>?_⟩;obtain⟨u,hu,ru⟩:=pC.some_of (v:=v) (o:=mA f) (by rw[<-z];exact r f);exact⟨u,ru,by rw[hl,hu]⟩
def tXf(K:Frag)(ta:TE)(f:Str):TE:=λσ H Q=>ta σ H λx H1=>∃a C dx fs v,x=.ref a/\Lo H1 a C (some dx)/\H1 dx=some (.xd fs)/\lO K C/\findIn K (.ref C) f=some none/\fs.lookup f=some v/\Q v H1
theorem pe_xf(he:PE X e ta)(hb:attributeBase e f X.env (eval e X.env)=eval e X.env):PE X (.Attribute e f pos) (tXf X.K ta f):=by
 intro pins s σ H Q I h;refine attr_of hb (cL (he pins s σ H _ I h) λu s1 aS=>?_);obtain⟨x,H1,I1,rx,a,C,dx,fs,v,ex,ea,ed,G,n,l,q⟩:=aS;subst ex;obtain rfl:u=Value.ref a:=rx;obtain⟨ox,od,J,hv⟩:=Am I1 ea ed;obtain⟨u',ru,hl⟩:=hv f v l;exact V8 I1.jJ J G n hl (BN ru) ⟨v,H1,I1.tok _,ru,q⟩
theorem wO:∀{cs:List Addr} {its:List Value},Vals (cs.map V.ref) its->its=cs.map Value.ref
 |[],_,.nil=>rfl
 |_::_,_,.cons a b=>by rw[wO b];cases (show _=Value.ref _ from a);rfl
def V9(H:Hp):Option Addr->Prop
 |none=>True
 |some d=>∃fs,H d=some (.xd fs)
theorem An(I:Inv X pins σ H s)(ha:Lo H a C dx)(hd:V9 H dx):∃ox od,PySem.W.InstAt s.heap a ox C od:=by
 cases dx with
 |some d=>obtain⟨fs,hd⟩:=hd;obtain⟨ox,od,J,_⟩:=Am I ha hd;exact⟨ox,_,J⟩
 |none=>obtain⟨φ,ha,hx⟩:=ha;obtain⟨oe,vs,e1,e2,e3,e4⟩:=hx _ (I.hok a _ ha).1;exact⟨oe,none,⟨e1,e2,by unfold notCls;rw[e4],by rw[e3];trivial⟩⟩
def M4(K:Frag)(H:Hp)(x:V)(C:Addr):Prop:=∃a dx,x=.ref a/\Lo H a C dx/\V9 H dx/\lO K C
theorem Eg:bV X (.builtin "isinstance") (λxs H Q=>∃(x c:V) (cv:Value) (C:Addr) (b:Bool),xs=[x,c]/\(∀u,RelV c u->u=cv)/\M4 X.K H x C/\kitOne X.K (.ref C) cv=some b/\Q (.bl b) H):=by
 intro pins s σ H xs us Q I r h;obtain⟨x,c,cv,C,b,rfl,hc,⟨a,dx,rfl,ea,ed,G⟩,e,q⟩:=h;obtain⟨u,w',rfl,r1,r2⟩:=vals2 r;obtain rfl:u=Value.ref a:=r1;obtain rfl:=hc _ r2;obtain⟨ox,od,J⟩:=An I ea ed;exact kia_one (wN G) I.jJ ⟨ox,od,J⟩ e (λz=>nomatch z) λtk=>⟨.bl b,H,I.tok _,rfl,q⟩
theorem Eh:bV X (.builtin "isinstance") (λxs H Q=>∃(x:V) (tp:Addr) (cs:List Addr) (C:Addr) (b:Bool),xs=[x,.ref tp]/\H tp=some (.tup (cs.map V.ref))/\M4 X.K H x C/\kitAny X.K (.ref C) (cs.map Value.ref)=some b/\Q (.bl b) H):=by
 intro pins s σ H xs us Q I r h;obtain⟨x,tp,cs,C,b,rfl,et,⟨a,dx,rfl,ea,ed,G⟩,e,q⟩:=h;obtain⟨u,w',rfl,r1,r2⟩:=vals2 r;obtain rfl:u=Value.ref a:=r1;obtain rfl:w'=Value.ref tp:=r2;obtain⟨ox,od,J⟩:=An I ea ed;obtain⟨_,its,hi,o,h1,h2,n,h3⟩:=(show bF X.prog X.w H s.heap tp (.tup (cs.map V.ref)) from I.hok tp _ et);have ei:=wO hi;subst ei;obtain⟨oc,odd,UD,osl⟩:=o;obtain rfl:oc=_:=h2;obtain rfl:UD=_:=h3;exact PySem.W.kia_tup (wN G) I.jJ ⟨ox,od,J⟩ h1 e (λz=>nomatch z) λtk=>⟨.bl b,H,I.tok _,rfl,q⟩
end
section
variable {K:Frag} {C D:Addr} {o:Obj} {nm q:Str} {N:Addr} {bs bm:List Value} {hdct:Bool} {sn:List Str} {sub:List Value} {ab:Bool} {col:Option Bool} {dd:Option Addr} {k0 k1 k2 k3 k5:Option Value} {newId:String}
theorem excOb(h:K.lookup C=some o)(e:o=excClassObj nm q C N bs (.ref D::VB) hdct sn sub ab col dd k0 k1 k2 k3 k5 "ValueError.__new__"):∃nm q N bs hdct sn sub ab col dd k0 k1 k2 k3 k5,K.lookup C=some (excClassObj nm q C N bs (.ref D::VB) hdct sn sub ab col dd k0 k1 k2 k3 k5 "ValueError.__new__") :=
 ⟨nm,q,N,bs,hdct,sn,sub,ab,col,dd,k0,k1,k2,k3,k5,by rw[h,e]⟩
def Ei(es:Array DictEntry):Bool:=es.toList.all λe=>match e.key with|.str _ _=>true|_=>false
theorem excUp{c0 c1:Value}{d0 d1:Option Addr}{sl pH:Array (Option Value)}{ep:Nat}{o1 o2:Obj}(h1:K.lookup D=some o1)(e1:o1=⟨c0,d0,.cls cdD,sl⟩)(h2:K.lookup cdD.ns=some o2)(e2:o2=⟨c1,d1,.dict es ep,pH⟩)(h3:Ei es=true)(h4:nsFind es "__init__" = none) :
  ∃c0 dd cdD sl c1 d1 es ep pH,K.lookup D=some ⟨c0,dd,.cls cdD,sl⟩/\K.lookup cdD.ns=some ⟨c1,d1,.dict es ep,pH⟩/\StrKeys es/\nsFind es "__init__" = none:=by
 refine⟨c0,d0,cdD,sl,c1,d1,es,ep,pH,by rw[h1,e1],by rw[h2,e2],λe he=>?_,h4⟩;unfold Ei at h3;rw[aaQ]at h3;have:=h3 e (by simpa using he);split at this
 ·rename_i x t hk;first|exact⟨x,t,hk⟩|exact⟨x,hk⟩|(rw[hk];rfl)|simp[hk]
 ·cases this
theorem excS{tF:Bool}{Ql:Bool}{j0 j1 j2 j3 j5:Option Value}{newId':String}{b:Bool}(h:K.lookup C=some o)(e:o=excClassObj nm q C N bs bm hdct sn sub ab col dd k0 k1 k2 k3 k5 newId)(hb:(Value.ref C::bm).contains (.ref C')=b)
  (h':K.lookup C'=some o') (e':o'=excClassObj RC q' C' N' bs' bm' tF sn' sub' Ql col' BR j0 j1 j2 j3 j5 newId') (b':bm'.contains (.type "BaseException")=true):lM K C C' b :=
 ⟨⟨nm,q,N,bs,bm,hdct,sn,sub,ab,col,dd,k0,k1,k2,k3,k5,newId,by rw[h,e],hb⟩,RC,q',N',bs',bm',tF,sn',sub',Ql,col',BR,j0,j1,j2,j3,j5,newId',by rw[h',e'],b'⟩
theorem Cj(h3:Ei es=true):StrKeys es:=λe he=>by
 unfold Ei at h3;rw[aaQ]at h3;have:=h3 e (by simpa using he);split at this
 ·rename_i x t hk;first|exact⟨x,t,hk⟩|exact⟨x,hk⟩|(rw[hk];rfl)|simp[hk]
 ·cases this
theorem excOb0{c1:Value}{d1:Option Addr}{ep:Nat}{pH:Array (Option Value)}{o2:Obj}(h:K.lookup C=some o)(e:o=excClassObj nm q C N bs (.ref D::VB) hdct sn sub ab col dd k0 k1 k2 k3 k5 "ValueError.__new__")(h2:K.lookup N=some o2)(e2:o2=⟨c1,d1,.dict es ep,pH⟩)(h3:Ei es=true)(h4:nsFind es "__init__" = none) :
  ∃nm q N bs hdct sn sub ab col dd k0 k1 k2 k3 k5 c1 d1 es ep pH,K.lookup C=some (excClassObj nm q C N bs (.ref D::VB) hdct sn sub ab col dd k0 k1 k2 k3 k5 "ValueError.__new__")/\K.lookup N=some ⟨c1,d1,.dict es ep,pH⟩/\StrKeys es/\nsFind es "__init__" = none :=
 ⟨nm,q,N,bs,hdct,sn,sub,ab,col,dd,k0,k1,k2,k3,k5,c1,d1,es,ep,pH,by rw[h,e],by rw[h2,e2],Cj h3,h4⟩
end
def UH(X:Cx)(scope:Scope)(N':List Str)(E:XK)(cl:List (Str×Addr))(fp:List Addr)(C:Addr)(s:Shared)(H:Hp)(e:Value)(s':Shared):Prop :=
 ∃pins σ H5 s5,Inv (aT X scope N' cl C s H fp) pins σ H5 s5/\jr X.prog X.w X.stack H5 s5 E e s'
theorem Ck:Passes (jr X.prog X.w) ((aT X scope N' cl C s H fp).gg (UH X scope N' E cl fp C s H)) E :=
 λpins σ H5 s5 e s' I h=>⟨pins,σ,H5,s5,I.fJ,h⟩
theorem tG{base h h':Heap}:∀{l:List Env},(∀b∈frs l,∀o,h.get? b=some o->∃sl,h'.get? b=some { o with slots:=sl })->h.FunFrames base l->h'.FunFrames base l
 |[],_,_=>trivial
 | env::r,k,⟨hk,⟨L,o,e1,e2,e3,e4⟩,hr⟩=>by
  have e:frs (env::r)=L::frs r:=by unfold frs;rw[filterMap_cons,e1]
  obtain⟨sl,z⟩:=k L (by rw[e];exact aah) o e3;exact⟨hk,⟨L,_,e1,e2,z,e4⟩,tG (λb hb=>k b (by rw[e];exact aae _ hb)) hr⟩
section
variable {P:Program} {w:World} {K:Frag} {mg:Str->Option Value} {base:Heap} {N:List Str} {qual:Str} {sc:Scope} {f:Addr} {cd:Value} {A:Around} {outer:List Env} {s0:Shared} {H0:Hp} {E:XK}
theorem zd{s2:Shared}{H2:Hp}(I:Inv (dM (jr P w) P w K mg base N qual sc f cd A outer s0 H0 E) pins σ H2 s2)
  (hfp:∀b∈fp,kU (dM (jr P w) P w K mg base N qual sc f cd A outer s0 H0 E) pins H2 b) (h:UH (dM (jr P w) P w K mg base N qual sc f cd A outer s0 H0 E) scope N' E cl fp s2.heap.objs.size s2 H2 e s') :
  notedBy (model P w) (dM (jr P w) P w K mg base N qual sc f cd A outer s0 H0 E).A (dM (jr P w) P w K mg base N qual sc f cd A outer s0 H0 E).env (λe s''=>uG (model P w) (dM (jr P w) P w K mg base N qual sc f cd A outer s0 H0 E).A (dM (jr P w) P w K mg base N qual sc f cd A outer s0 H0 E).xe s2.heap.objs.size e s'') e s':=by
 obtain⟨Lc,σ',H5,s5,J,a,dx,Ce,T,H',rfl,hos,hbare,un,hok,F,na,nT,q⟩:=h;have J0:Inv (aT (dM (jr P w) P w K mg base N qual sc f cd A outer s0 H0 E) scope N' cl s2.heap.objs.size s2 H2 fp) [] σ' H5 s5:=J.uh λp hp=>absurd hp (by simp);have I5:=sM I hfp J0;obtain⟨m,⟨oC,es,ep,gC,rC⟩,_⟩:=J.loc;have gC:s5.heap.get? s2.heap.objs.size=some oC:=gC;have fC:H5 s2.heap.objs.size=none:=J.free;have st2:s2.heap.FunFrames base (envOfC qual sc s0.heap.objs.size f cd::outer):=I.stack;have cf:s2.heap.objs.size∉frs (envOfC qual sc s0.heap.objs.size f cd::outer):=λy=>by
  obtain⟨o,z,_⟩:=b9 st2 _ y;exact absurd (aam z) (aaR _)
 have un:Un (frs (envOfC qual sc s0.heap.objs.size f cd::outer)) [] H5 H' s5.heap s'.heap:=un;have Xq:s'.heap.get? s2.heap.objs.size=some oC:=un.keep _ _ gC fC cf (by simp);have Xr:H' s2.heap.objs.size=none:=un.free _ _ gC fC (by simp);have Wa:s2.heap.objs.size≠a:=λy=>by rw[y,na]at gC;cases gC
 have Xs:s2.heap.objs.size≠T:=λy=>by rw[y,nT]at gC;cases gC
 have st':s'.heap.FunFrames base (envOfC qual sc s0.heap.objs.size f cd::outer):=iw un I5.gZ I5.stack;unfold notedBy;refine D7 (P:=P) (w:=w) (H:=H') hok I.ok.frames st' rfl F λh1 T1 F1 Wb kp sl th=>?_;have Zi:s2.heap.objs.size≠T1:=λy=>by
  rcases Wb with z|z
  ·exact Xs (y.trans z)
  ·rw[<-y,Xq]at z;cases z
 refine⟨m,⟨oC,es,ep,kp _ _ Xs Wa cf Xq,rC⟩,λh2 VD cenv hcl=>?_⟩;obtain⟨⟨oe,vs,a0,he,hc,hdx,hd,h0,hv1⟩,⟨oT,ts,gT,gd,g3⟩,ne,fa,fT⟩:=F1;have k2:∀b o,b≠s2.heap.objs.size->h1.get? b=some o->h2.get? b=some o:=λb o n z=>(VD.2 b n).trans z;have lt:3<ts.size:=by
  rcases lt_or_ge 3 ts.size with z|z
  ·exact z
  ·rw[getElem?_eq_none z]at g3;cases g3
 have Xu:=k2 _ _ (Ne.symm Wa) he;have hT1:=k2 _ _ (Ne.symm Zi) gT;have nn:¬ ((Value.ref T1==Value.none)=true):=λz=>nomatch (eq_of_beq z:Value.ref T1=Value.none)
 unfold PySem.passOn;refine aaa (wpAny_field Xu hd hv1 ?_);rw[aaj nn];unfold setFlight;refine aaa (aaa (wpAny_field Xu hd hv1 ?_));rw[aan (show (Value.ref T1 != Value.none)=true from rfl)];refine wpAny_setField hT1 gd lt (wpAny_throw ?_);generalize (Option.elim cenv.frame Value.none λf=>rawInt ↑f)=v;have k3:∀b o,b≠s2.heap.objs.size->b≠T1->h1.get? b=some o->(h2.update T1 (Obj.mapFields λx=>x.setIfInBounds 3 v)).get? b=some o:=λb o n n1 z=>Heap.get?_update_of_ne _ (Ne.symm n1) (k2 b o n z);have Zj:∃o3,(h2.update T1 (Obj.mapFields λx=>x.setIfInBounds 3 v)).get? T1=some o3/\o3.data=.fields (ts.setIfInBounds 3 v):=by obtain⟨c1,d1,da,pH⟩:=oT;obtain rfl:da=.fields ts:=gd;exact⟨_,aaM _ hT1 rfl,rfl⟩
 obtain⟨o3,Xv,Zk⟩:=Zj;have F3:uN H' (h2.update T1 (Obj.mapFields λx=>x.setIfInBounds 3 v)) a dx Ce T1 v:=⟨⟨oe,vs,a0,k3 _ _ (Ne.symm Wa) (Ne.symm ne) he,hc,hdx,hd,h0,hv1⟩,⟨o3,_,Xv,Zk,by rw[Array.getElem?_setIfInBounds_self_of_lt lt]⟩,ne,fa,fT⟩;have nT1':∀b o,b≠T->s'.heap.get? b=some o->b≠T1:=λb o n z y=>by
  rcases Wb with y'|y'
  ·exact n (y.trans y')
  ·rw[<-y,z]at y';cases y'
 have fr3:∀b∈frs (envOfC qual sc s0.heap.objs.size f cd::outer),∀o,s'.heap.get? b=some o->b≠T1/\∃sl,(h2.update T1 (Obj.mapFields λx=>x.setIfInBounds 3 v)).get? b=some { o with slots:=sl }:=λb hb o z=>by
  obtain⟨pH,z1⟩:=sl b o hb z;have n1:b≠T1:=nT1' b o (λy=>by
   obtain⟨o',y1,y2⟩:=b9 st' b hb;obtain⟨oT0,ts0,g1,g2,_⟩:=F.tb;rw[y,g1]at y1;cases y1;exact y2 _ g2) z
  exact⟨n1,pH,k3 b _ (λy=>cf (y▸hb)) n1 z1⟩
 have nf:∀b u,H' b=some u->b∉frs (envOfC qual sc s0.heap.objs.size f cd::outer):=λb u z y=>by
  obtain⟨o,z1,_⟩:=b9 (show s5.heap.FunFrames base (envOfC qual sc s0.heap.objs.size f cd::outer) from I5.stack) b y;have:=un.free b o z1 (I5.gZ b y) (by simp);rw[this]at z;cases z
 have kk:∀c u ob,H' c=some u->s'.heap.get? c=some ob->(h2.update T1 (Obj.mapFields λx=>x.setIfInBounds 3 v)).get? c=some ob:=λc u ob z z2=>by
  have c1:c≠T:=λy=>by rw[y,F.fT]at z;cases z
  exact k3 c ob (λy=>by rw[y,Xr]at z;cases z) (λy=>by rw[y,fT]at z;cases z) (kp c ob c1 (λy=>by rw[y,F.fa]at z;cases z) (nf c u z) z2)
 have Wc:iO P w H' (h2.update T1 (Obj.mapFields λx=>x.setIfInBounds 3 v)):=λb o z=>(hok b o z).stay (λc u y z2=>by
  rcases y with rfl|y
  ·exact kk _ _ _ z z2
  ·exact kk _ _ _ y z2) (λ_ y=>y) λ_ _ y=>y
 refine wJ (P:=P) (w:=w) (H:=H') (s:={ s' with heap:=h2.update T1 (Obj.mapFields λx=>x.setIfInBounds 3 v) }) Wc I.ok.frames (tG (λb hb o z=>(fr3 b hb o z).2) st') rfl F3 λh' T' F' MZ Zl Mb th'=>?_;have Zm:s0.heap.get? s2.heap.objs.size=none:=by
  cases z:s0.heap.get? s2.heap.objs.size with
  |none=>rfl
  |some o=>exact absurd (aao (aam z) I.sz) (aaR _)
 have Xw:∀b o,b≠s2.heap.objs.size->s'.heap.get? b=some o->∃o',(h2.update T1 (Obj.mapFields λx=>x.setIfInBounds 3 v)).get? b=some o':=λb o n z=>by
  by_cases c:b=T1
  ·rw[c];exact⟨_,Xv⟩
  ·obtain⟨o',z'⟩:=th b o z;exact⟨o',k3 b o' n c z'⟩
 refine wL (s':=s') (c:=s2.heap.objs.size) I5 hos hbare un hok F.fa F.fT na nT q Zm Xr F' ?_ (λb o x1 x2 x3 x4 z=>?_) (λb o hb z=>?_) λb o n z=>?_
 ·rcases MZ with y|y
  ·rw[y];exact Wb.imp id .inl
  ·by_cases c:T'=s2.heap.objs.size
   ·exact .inr (.inr c)
   ·refine .inr (.inl ?_)
    cases z:s'.heap.get? T' with
    |none=>rfl
    |some o=>obtain⟨o',z'⟩:=Xw T' o c z;rw[show _=none from y]at z';cases z'
 ·exact Zl b o (nT1' b o x1 z) x2 x4 (k3 b o x3 (nT1' b o x1 z) (kp b o x1 x2 x4 z))
 ·obtain⟨pH,z1⟩:=(fr3 b hb o z).2;obtain⟨sl2,z2⟩:=Mb b _ hb z1;exact⟨sl2,z2⟩
 ·obtain⟨o',z'⟩:=Xw b o n z;exact th' b o' z'
end
section
variable {X:Cx}
def oW(z:Str)(lo hi:Option Int):List Nat:=Builtin.Str.strSliceIndices lo hi 1 z.length
def iG(z:Str)(lo hi:Option Int):Str:=if ((oW z lo hi).length==z.length)=true then z else ⟨((oW z lo hi).filterMap λk=>z.cps[k]?).toArray⟩
theorem M5:Q7 X (λx lo hi H Q=>∃z,x=.str z/\(iG z lo hi).length<=sizeLine/\Q (.str (iG z lo hi)) H):=by
 intro pins s σ H x v vl vu lo hi sl Q I rx hs pl pu h;obtain⟨z,rfl,hz,q⟩:=h;obtain⟨t,rfl⟩:=rx;have part:∀{v:Value} {o:Option Int},IsPart v o->∃p:Option (Int×Tok),v=partValue p/\p.map (·.1)=o:=λp=>by
  cases p with
  |none=>exact⟨none,rfl,rfl⟩
  |int i t=>exact⟨some (i,t),rfl,rfl⟩
 obtain⟨l,rfl,el⟩:=part pl;obtain⟨u,rfl,eu⟩:=part pu;obtain⟨o,h1,h2,h3⟩:=hs;refine⟨"str",_,slot_str_getitem.lookup,typeIs_str s z t,wpAny_getItem_str_slice (l:=l) (u:=u) (st:=none) ⟨o,h1,h2,h3⟩ rfl ?_⟩;unfold sliceMade slicePicked;rw[el,eu];unfold iG oW at hz q;cases c:((Builtin.Str.strSliceIndices lo hi 1 z.length).length==z.length) with
 |true=>rw[c,aan rfl]at q;rw[aan (by simpa using c)];exact⟨.str z,H,I,⟨_,rfl⟩,q⟩
 |false=>rw[c,aaj aab]at q hz;rw[aaj (by simpa using c)];unfold Made.post;exact⟨hz,.str _,H,I.tok _,⟨_,rfl⟩,q⟩
theorem Cm:ML X "str.index" (λx vs H Q=>∃(z y:Str) (i:Nat) (r:List Nat),x=.str z/\vs=[.str y]/\Builtin.Str.occurrences z y 0 z.length 1=i::r/\Q (.int i) H):=by
 intro pins s σ H x vs v us Q I rx rv h;obtain⟨z,y,i,r,rfl,rfl,e,q⟩:=h;obtain⟨t,rfl⟩:=rx;obtain⟨u,rfl,ru⟩:=rv.one;obtain⟨t2,rfl⟩:=ru;refine call_meets F.slot_str_index (typeIs_str s z t) F.entry_str_index (F.args_str_index_2 _ _) (gives_str_index z y t t2 i r e).meets ?_;show (Made.int (i:Int)).post _ s;unfold Made.post;exact⟨.int i,H,I.tok _,⟨_,rfl⟩,q⟩
theorem Cn(hu:X.A.units+64<cLine):ML X "list.index" (λx vs H Q=>∃(l:Addr) (xs:List V) (j:Nat),x=.ref l/\vs=[.non]/\gD X.K H l xs/\(∀y∈xs,y=.non\/∃a ts,y=.ref a/\iP X.K H a ts)/\xs[j]?=some .non/\(∀m,m<j->xs[m]?≠some .non)/\Q (.int j) H):=by
 intro pins s σ H x vs v us Q I rx rv h;obtain⟨l,xs,j,rfl,rfl,hH,hy,hj,hm,q⟩:=h;cases rx;obtain⟨u,rfl,ru⟩:=rv.one;obtain rfl:u=.none:=ru;obtain⟨its,r,⟨ob,nn,e,e1,_,e2⟩,z⟩:=I.list hH;have hl:=r.length;obtain⟨oc,od,Xk,osl⟩:=ob;obtain rfl:oc=.type "list":=e1;obtain rfl:Xk=.seq its.toArray nn:=e2;have at':∀(m:Nat) (h:m<its.length),(its[m]=.none↔xs[m]?=some .non)/\SeqAt.EqAt X.A.in1 s its[m] .none (its[m]==.none):=λm h=>by
  have hx:m<xs.length:=by omega
  obtain⟨u,h1,h2⟩:=r.get (aav hx);rw[aav h]at h1;have h1:=aaH h1;rw[aav hx]
  rcases hy _ (List.getElem_mem hx) with y|⟨a,ts,y,hs⟩
  ·rw[y]at h2;obtain rfl:u=.none:=h2;rw[y,h1];exact⟨⟨λ_=>rfl,λ_=>rfl⟩,SeqAt.EqAt.same _⟩
  ·rw[y]at h2;obtain rfl:u=.ref a:=h2;rw[y,h1];obtain⟨ys,_,tp,_⟩:=I.tuple hs;exact⟨⟨λz=>(by cases z),λz=>(by cases z)⟩,SeqAt.EqAt.tuple_none tp (by show X.A.units+1<cLine;omega)⟩
 have hjl:j<its.length:=by rw[<-hl];exact(aai.mp hj).1
 refine call_meets F.slot_list_index ⟨_,e,rfl⟩ F.entry_list_index (F.args_list_index_2 _ _) (SeqAt.list_indexAt l its.toArray nn od osl .none (λy=>y==.none) j (by simpa using hjl) ?_ ?_ ?_) ⟨e,λy hy'=>?_,⟨.int j,H,I.tok _,⟨_,rfl⟩,q⟩⟩
 ·have:=nO;have:(its.length:Nat)<=sizeLine:=by omega
  omega
 ·rw[List.getElem_toArray,(at' j hjl).1.mpr hj];rfl
 ·intro m hm' hlt;rw[List.getElem_toArray];refine beq_eq_false_iff_ne.mpr λz=>hm m hlt ((at' m (by simpa using hm')).1.mp z)
 ·obtain⟨m,h,rfl⟩:=List.mem_iff_getElem.mp (List.mem_toArray.mp hy');exact(at' m h).2
end
end L2
end
section
namespace Hv
open PySem L2 PyProof.Rows
inductive Val
 |non|bl (b:Bool)|int (i:Int)|str (x:Str)|tup (vs:List Val)|rl (vs:List Val)|dc (ks:List Key) (vs:List Val)|ob (c:Nat) (xs:List Str) (vs:List Val)|ref (i:Nat)
inductive Ob
 |lst (xs:List Val)|dct (kvs:List (Key×Val))|ins (c:Nat) (fs:List (Str×Val))
abbrev Hs:=List Ob
inductive Out (α:Type)
 |ok (a:α) (h:Hs)|exc (c:Nat) (vs:List Val) (h:Hs)|no
abbrev M(α:Type):=Hs->Out α
def ret{α:Type}(a:α):M α:=λh=>.ok a h
def bnd{α β:Type}(m:M α)(f:α -> M β):M β:=λh=>match m h with
 |.ok a h'=>f a h'
 |.exc c vs h'=>.exc c vs h'
 |.no=>.no
def bu{α:Type}(o:Option α):M α:=λh=>match o with
 |some a=>.ok a h
 |none=>.no
def ask{α:Type}(f:Hs->Option α):M α:=λh=>bu (f h) h
def new(o:Ob):M Val:=λh=>.ok (.ref h.length) (h++[o])
def put(i:Nat)(o:Ob):M Unit:=λh=>.ok () (h.set i o)
def cg{α β:Type}(f:α -> Option β):List α -> Option (List β)
 |[]=>some []
 |a::r=>(f a).bind λb=>(cg f r).bind λbs=>some (b::bs)
inductive Lp|add|sub|mul|fdiv|mod|pow
 deriving DecidableEq
inductive Lq|eq|ne|lt|le|gt|ge|isn|ntn|pN|nin
 deriving DecidableEq
inductive Bl|len|min|max|sorted|list|tuple|str|int|all|any|isin (T:String)
 deriving DecidableEq
inductive Me|join|append|extend|remove|pop
 deriving DecidableEq
inductive wQ|one (i:Nat)|tup (is:List Nat)
 deriving DecidableEq
inductive Ik|seq|range|enum|zip
 deriving DecidableEq
mutual
inductive IE
 |var (i:Nat)|cst (d:Val)|con (x:Str) (d:Val)|no
 |bin (o:Lp) (a b:IE)|neg (a:IE)|cmp (o:Lq) (a b:IE)|chn (o p:Lq) (a b c:IE)
 |and (a b:IE)|or (a b:IE)|not (a:IE)|ite (c a b:IE)
 |tup (es:jU)|lst (es:jU)|idx (a b:IE)|slc (a lo hi:IE)
 |call (j:Nat) (es:jU)|blt (b:Bl) (es:jU)|met (m:Me) (a:IE) (es:jU)
 |comp (N:List Str) (js:List (Option Nat)) (pat:wQ) (k:Ik) (it:jU) (c elt:IE)
 |dct0
 |sset (a:IE)
 |dget (d k x:IE)
 |dct1 (k v:IE)
 |lkeys (d:IE)
 |sdef (d k x:IE)
 |svals (d:IE)
 |skeys (d:IE)
 |fld (n:Nat) (a:IE) (x:Str)
 |mth (a:IE) (m:Str) (js:List (Nat×Nat)) (es:jU)
 |rev (a s:IE)
 |dflt (N:List Str) (js:List (Option Nat)) (p q:Nat) (d w:IE)
 |isc (a:IE) (x:Str) (bs:List Bool)
inductive jU|nil|cons (e:IE) (es:jU)
end
abbrev Env:=List (Option Val)
mutual
inductive IS
 |expr (e:IE)|asg (p:wQ) (e:IE)|aug (i:Nat) (o:Lp) (e:IE)|jD (o i v:IE)
 |iff (c:IE) (a b:dY)|for (p:wQ) (k:Ik) (it:jU) (body:dY)|whl (n:Nat) (c:IE) (body:dY)
 |ret (e:IE)|IW|brk|cnt|pass|never|setF (n:Nat) (a:IE) (x:Str) (v:IE)
inductive dY|nil|cons (s:IS) (r:dY)
end
def aF(h:Hs):Val->Option (List Val)
 |.rl vs=>some vs
 | .ref i=>match h[i]? with
  |some (.lst xs)=>some xs
  |_=>none
 |_=>none
def cQ(h:Hs):Val->Option (List Val)
 |.tup vs=>some vs
 |v=>aF h v
def Ao(_:Hs):Val->Option (List Val)
 |.tup vs=>some vs
 |_=>none
def bw:List Val->Option (List Int):=cg λv=>match v with
 |.int i=>some i
 |_=>none
def strs?:List Val->Option (List Str):=cg λv=>match v with
 |.str i=>some i
 |_=>none
def cz:List Val->Option (List Bool):=cg λv=>match v with
 |.bl i=>some i
 |_=>none
def lA:List Val->Option (List (List Int)):=cg λv=>match v with
 |.tup vs=>if vs.isEmpty then none else bw vs
 |_=>none
def toD:Nat->Hs->Val->Option PyData
 |0,_,_=>none
 |_+1,_,.non=>some .none
 |_+1,_,.bl b=>some (.bool b)
 |_+1,_,.int i=>some (.int i)
 |_+1,_,.str x=>if PyData.strOk x=true then some (.str x) else none
 |n+1,h,.tup vs=>(cg (toD n h) vs).bind λds=>some (.tuple ds)
 |n+1,h,.rl vs=>(cg (toD n h) vs).bind λds=>some (.list ds)
 |_+1,_,.dc _ _=>none
 |_+1,_,.ob _ _ _=>none
 |n+1,h,.ref i=>(aF h (.ref i)).bind λxs=>(cg (toD n h) xs).bind λds=>some (.list ds)
def ze(h:Hs)(v w:Val):Option Bool:=(toD 16 h v).bind λd=>(toD 16 h w).bind λe=>some (PyData.eqv d e)
def uQ(x:List Int):List (List Int)->List (List Int)
 |[]=>[x]
 |y::r=>if HT.lexLt y x=true then y::uQ x r else x::y::r
def mR:List (List Int)->List (List Int)
 |[]=>[]
 |x::r=>uQ x (mR r)
def gx(ks:List Int):Val:=.tup (ks.map .int)
def gJ(xs:List Val):Option (List Val) :=
 if xs.length<64 then
  match bw xs with
  |some ns=>some ((sortI ns).map .int)
  |none=>(lA xs).bind λpO=>some ((mR pO).map gx)
 else none
def uR:List Int->Option Val
 |[]=>none
 |a::r=>some (.int (r.foldl min a))
def uS:List Int->Option Val
 |[]=>none
 |a::r=>some (.int (r.foldl max a))
def fD(i j:Int):Bool:=(decide (-(2 ^ 64)<i)&&decide (i<2 ^ 64))||(decide (-(2 ^ 64)<j)&&decide (j<2 ^ 64))
def aH{α:Type}(c:Bool)(m:M α):M α:=λh=>if c=true then m h else .no
def mU(b:Int):Bool:=decide (0<b/\b<1606938044258990275541962092341162602522202993782792835301376)
def Qm:Lp->Val->Val->M Val
 |.add,.int a,.int b=>ret (.int (a+b))
 |.add,.str a,.str b=>aH (decide (a.length+b.length<=sizeLine)) (ret (.str (a++b)))
 |.add,.tup a,.tup b=>aH (!a.isEmpty&&decide (a.length+b.length<=sizeLine)) (ret (.tup (a++b)))
 |.add,v,w=>bnd (ask λh=>aF h v) λa=>bnd (ask λh=>aF h w) λb=>aH (decide (a.length+b.length<=sizeLine)) (new (.lst (a++b)))
 |.sub,.int a,.int b=>ret (.int (a-b))
 |.mul,.int a,.int b=>aH (fD a b) (ret (.int (a*b)))
 |.fdiv,.int a,.int b=>aH (mU b) (ret (.int (a/b)))
 |.mod,.int a,.int b=>aH (decide (0<b)) (ret (.int (a%b)))
 |.pow,.int a,.int b=>aH (decide (0<=b/\b<=1000000/\a.natAbs<2 ^ 64)) (ret (.int (a ^ b.toNat)))
 |_,_,_=>bu none
def qC:Val->Bool
 |.non=>true
 |_=>false
def gi(kvs:List (Key×Val))(k:Key):Option Val:=(kvs.find? λkv=>decide (kv.1=k)).map (·.2)
def fM(kvs:List (Key×Val))(k:Key)(v:Val):List (Key×Val) :=
 if (kvs.any λkv=>decide (kv.1=k))=true then kvs.map (λkv=>if kv.1=k then (kv.1,v) else kv) else kvs++[(k,v)]
def keyOf:Val->Option Key
 |.int i=>some (.inl i)
 |.str x=>some (.inr x)
 |_=>none
def M6(f d:PyData):Option Bool:=match f with
 |.list ds=>some (ds.any λy=>PyData.eqv y d)
 |.tuple ds=>some (ds.any λy=>PyData.eqv y d)
 |_=>none
def memD(h:Hs)(v w:Val):Option Bool:=(toD 16 h w).bind λf=>(toD 16 h v).bind λd=>M6 f d
def IX(h:Hs)(v:Val)(i:Nat):Ob->Option Bool
 |.dct kvs=>(keyOf v).bind λk=>some (gi kvs k).isSome
 |_=>memD h v (.ref i)
def uT(h:Hs):Val->Val->Option Bool
 |.str a,.str b=>some (!(Builtin.Str.occurrences b a 0 b.length 1).isEmpty)
 |v,.ref i=>(h[i]?).bind (IX h v i)
 |v,.dc ks _=>(keyOf v).bind λk=>some (ks.any λj=>decide (j=k))
 |v,w=>memD h v w
def Lr(v w:Val):Option Bool:=match w with
 |.non=>some (qC v)
 |_=>none
def cop(h:Hs):Lq->Val->Val->Option Bool
 |.eq,v,w=>ze h v w
 |.ne,v,w=>(ze h v w).map (!·)
 |.lt,.int a,.int b=>some (decide (a<b))
 |.le,.int a,.int b=>some (decide (a<=b))
 |.gt,.int a,.int b=>some (decide (b<a))
 |.ge,.int a,.int b=>some (decide (b<=a))
 |.isn,v,w=>Lr v w
 |.ntn,v,w=>(Lr v w).map (!·)
 |.pN,v,w=>uT h v w
 |.nin,v,w=>(uT h v w).map (!·)
 |_,_,_=>none
def fS(_:Hs):Val->Option Bool
 |.bl b=>some b
 |_=>none
def jt(h:Hs):Val->Val->Option Val
 |.str x,.int i=>if x.length<=sizeLine then (jC x.cps.toList i).map λc=>.str ⟨[c].toArray⟩ else none
 |.tup vs,.int i=>jC vs i
 |.rl vs,.int i=>jC vs i
 | .ref j,.int i=>match h[j]? with
  |some (.dct kvs)=>gi kvs (.inl i)
  |_=>(aF h (.ref j)).bind λxs=>jC xs i
 |.dc ks vs,.int i=>gi (ks.zip vs) (.inl i)
 |_,_=>none
def cV{α:Type}(ds:List α)(lo hi:Option Int):List α:=(ds.drop (HT.eG ds.length 0 lo)).take (HT.eG ds.length ds.length hi-HT.eG ds.length 0 lo)
def IY:Str:="0123456789"
def IZ:Val->Option Nat
 |.str y=>(Builtin.Str.occurrences IY y 0 IY.length 1).head?
 |_=>none
def okN:Val->Bool
 |.non=>true
 |.tup _=>true
 |_=>false
def gp:List Val->Option Nat
 |[]=>none
 | v::r=>match v with
  |.non=>if r.all okN=true then some 0 else none
  |.tup _=>(gp r).map (· + 1)
  |_=>none
def rY(v:Val)(lo hi:Option Int):M Val:=match v with
 |.str z=>aH (decide ((iG z lo hi).length<=sizeLine)) (ret (.str (iG z lo hi)))
 |.tup vs=>aH (!(decide (HT.eG vs.length 0 lo=0)&&decide (HT.eG vs.length vs.length hi=vs.length))) (ret (.tup (cV vs lo hi)))
 |v=>bnd (ask λh=>aF h v) λxs=>new (.lst (cV xs lo hi))
def wR(h:Hs):Val->Option String
 |.non=>some "NoneType" | .bl _=>some "bool" | .int _=>some "int" | .str _=>some "str" | .tup _=>some "tuple" | .rl _=>some "list" | .dc _ _=>some "dict" | .ob _ _ _=>none
 | .ref i=>match h[i]? with
  |some (.lst _)=>some "list"
  |some (.dct _)=>some "dict"
  |_=>none
def wU(T:String)(t:String):Option Bool :=
 if ["list","tuple","str","bool","int","dict"].contains T=true then some (decide (T=t\/(T = "int" /\ t = "bool"))) else none
def kW(h:Hs):Val->Option Nat
 |.str x=>if x.length<=sizeLine then some x.length else none
 |.tup vs=>some vs.length
 |.rl vs=>some vs.length
 |.dc ks _=>some ks.length
 | .ref i=>match h[i]? with
  |some (.lst xs)=>some xs.length
  |some (.dct xs)=>some xs.length
  |_=>none
 |_=>none
def blt:Bl->List Val->M Val
 |.len,[v]=>bnd (ask λh=>kW h v) λn=>ret (.int n)
 |.min,[.int a,.int b]=>ret (.int (if b<a then b else a))
 |.max,[.int a,.int b]=>ret (.int (if b>a then b else a))
 |.min,[v]=>bnd (ask λh=>cQ h v) λxs=>bu ((bw xs).bind uR)
 |.max,[v]=>bnd (ask λh=>cQ h v) λxs=>bu ((bw xs).bind uS)
 |.sorted,[v]=>bnd (ask λh=>aF h v) λxs=>bnd (bu (gJ xs)) λys=>new (.lst ys)
 |.list,[v]=>bnd (ask λh=>cQ h v) λxs=>new (.lst xs)
 |.tuple,[v]=>bnd (ask λh=>cQ h v) λxs=>ret (.tup xs)
 |.str,[.int i]=>aH (decide (i.natAbs.log2<1920)) (ret (.str (toString i)))
 |.int,[.bl b]=>ret (.int (if b=true then 1 else 0))
 |.int,[.int i]=>ret (.int i)
 |.int,[.str x]=>bnd (bu (intText? x)) λn=>aH (decide (x.length<=640)) (ret (.int n))
 |.all,[v]=>bnd (ask λh=>aF h v) λxs=>bnd (bu (cz xs)) λbs=>ret (.bl (bs.all id))
 |.any,[v]=>bnd (ask λh=>aF h v) λxs=>bnd (bu (cz xs)) λbs=>ret (.bl (bs.any id))
 |.isin T,[v]=>bnd (ask λh=>wR h v) λt=>bnd (bu (wU T t)) λb=>ret (.bl b)
 |_,_=>bu none
def met:Me->Val->List Val->M Val
 |.join,.str z,[v]=>bnd (ask λh=>aF h v) λxs=>bnd (bu (strs? xs)) λys=>aH (decide ((ys.map (·.length)).sum+ys.length*z.length<=16777216)) (ret (.str (Txt.join z ys)))
 |.append,.ref i,[v]=>bnd (ask λh=>match h[i]? with|some (.lst xs)=>some xs|_=>none) λxs=>aH (decide (xs.length<sizeLine)) (bnd (put i (.lst (xs++[v]))) λ_=>ret .non)
 |.extend,.ref i,[v]=>bnd (ask λh=>match h[i]? with|some (.lst xs)=>some xs|_=>none) λxs=>bnd (ask λh=>Ao h v) λys=>aH (decide (xs.length+ys.length<=sizeLine)) (bnd (put i (.lst (xs++ys))) λ_=>ret .non)
 |.remove,.ref i,[.int k]=>bnd (ask λh=>match h[i]? with|some (.lst xs)=>some xs|_=>none) λxs=>bnd (bu (bw xs)) λks=>aH (decide (k∈ks)) (bnd (put i (.lst (xs.eraseIdx (ks.idxOf k)))) λ_=>ret .non)
 |.pop,.str z,[.str y]=>aH (L2.kJ z y) (new (.lst ((L2.gh z y).map .str)))
 |_,_,_=>bu none
def recv(h:Hs):Me->Val->Option Unit
 |.join,.str _=>some ()
 |.append,.ref i=>match h[i]? with|some (.lst _)=>some ()|_=>none
 |.extend,.ref i=>match h[i]? with|some (.lst _)=>some ()|_=>none
 |.remove,.ref i=>match h[i]? with|some (.lst _)=>some ()|_=>none
 |.pop,.str _=>some ()
 |_,_=>none
inductive Src
 |fix (xs:List Val)|live (i:Nat)|enum (i:Nat)|zip (v w:Val)
def cR:Nat->List Val->List Val
 |_,[]=>[]
 |i,d::r=>.tup [.int i,d]::cR (i+1) r
def RE:List Val->List Val->List Val
 |a::r,b::t=>.tup [a,b]::RE r t
 |_,_=>[]
def aU(lo:Int)(n:Nat):List Val:=(List.range n).map λ(i:Nat)=>Val.int (lo+(i:Int))
def inR(i:Int):Bool:=decide (-(2 ^ 62)<=i)&&decide (i<2 ^ 62)
def signs(x:Str):List Val:=x.cps.toList.map λc=>.str ⟨[c].toArray⟩
def srcOf:Ik->List Val->Option Src
 |.seq,[.str x]=>if L2.isAscii x=true then some (.fix (signs x)) else none
 |.seq,[.tup vs]=>some (.fix vs)
 |.seq,[.rl vs]=>some (.fix vs)
 |.seq,[.ref i]=>some (.live i)
 |.range,[.int n]=>if inR n then some (.fix (aU 0 n.toNat)) else none
 |.range,[.int a,.int b]=>if inR a&&inR b then some (.fix (aU a (b-a).toNat)) else none
 |.enum,[.rl vs]=>some (.fix (cR 0 vs))
 |.enum,[.ref i]=>some (.enum i)
 |.zip,[v,w]=>some (.zip v w)
 |_,_=>none
def Src.items(h:Hs):Src->Option (List Val)
 |.fix xs=>some xs
 |.live i=>aF h (.ref i)
 |.enum i=>(aF h (.ref i)).map (cR 0)
 |.zip v w=>(aF h v).bind λxs=>(aF h w).map λys=>RE xs ys
def bindAll:List Nat->List Val->Env->Option Env
 |[],[],env=>some env
 |i::is,d::ds,env=>bindAll is ds (env.set i (some d))
 |_,_,_=>none
def gq:wQ->Val->Env->Option Env
 |.one i,d,env=>some (env.set i (some d))
 |.tup is,.tup ds,env=>bindAll is ds env
 |_,_,_=>none
def jE(js:List (Option Nat))(env:Env):Env:=js.map λo=>match o with
 |none=>none
 | some j=>match env[j]? with
  |some (some d)=>some d
  |_=>none
def fF(src:Src)(f:Val->M (Option Val)):Nat->Nat->List Val->M (List Val)
 |0,i,acc=>bnd (ask λh=>src.items h) λxs=>aH (decide (xs.length<=i)) (ret acc)
 | n+1,i,acc=>bnd (ask λh=>src.items h) λxs=>match xs[i]? with
  |none=>ret acc
  |some x=>bnd (f x) λo=>fF src f n (i+1) (match o with|some e=>acc++[e]|none=>acc)
def cJ:IE->Bool
 |.no=>true
 |_=>false
def mV:Val->Option Int
 |.int i=>some i
 |_=>none
def oY:Val->M Bool
 |.bl b=>ret b
 |_=>bu none
def calm{α:Type}(m:M α):M α:=λh=>match m h with
 |.ok a h'=>.ok a h'
 |.exc _ _ _=>.no
 |.no=>.no
def uU(c:Nat)(g:Str)(vs:List Val):M Val:=λh=>match vs with
 |[.int i]=>.exc c [.str g,.int i] h
 |_=>.no
def wV(c:Nat)(vs:List Val):M Val:=λh=>match vs with
 |[]=>.exc c [] h
 |_=>.no
mutual
noncomputable def aN(Φ:Nat->List Val->M Val):IE->Env->M Val
 | .var i,env=>bu (match env[i]? with
  |some (some d)=>some d
  |_=>none)
 |.cst d,_=>ret d
 |.con _ d,_=>ret d
 |.no,_=>bu none
 |.bin o a b,env=>bnd (aN Φ a env) λx=>bnd (aN Φ b env) λy=>Qm o x y
 | .neg a,env=>bnd (aN Φ a env) λx=>match x with
  |.int i=>ret (.int (-i))
  |_=>bu none
 |.cmp o a b,env=>bnd (aN Φ a env) λx=>bnd (aN Φ b env) λy=>bnd (ask λh=>cop h o x y) λt=>ret (.bl t)
 |.chn o p a b c,env=>bnd (aN Φ a env) λx=>bnd (aN Φ b env) λy=>bnd (ask λh=>cop h o x y) λt=>
  if t=true then bnd (aN Φ c env) λz=>bnd (ask λh=>cop h p y z) λt=>ret (.bl t) else ret (.bl false)
 |.and a b,env=>bnd (aN Φ a env) λx=>bnd (oY x) λt=>if t=true then bnd (aN Φ b env) λy=>bnd (oY y) λu=>ret (.bl u) else ret (.bl false)
 |.or a b,env=>bnd (aN Φ a env) λx=>bnd (oY x) λt=>if t=true then ret (.bl true) else bnd (aN Φ b env) λy=>bnd (oY y) λu=>ret (.bl u)
 |.not a,env=>bnd (aN Φ a env) λx=>bnd (oY x) λt=>ret (.bl (!t))
 |.ite _ _ _,_=>bu none
 |.tup es,env=>bnd (bJ Φ es env) λds=>aH (decide (ds.length<=sizeLine)) (ret (.tup ds))
 |.lst es,env=>bnd (bJ Φ es env) λds=>aH (decide (ds.length<=sizeLine)) (new (.lst ds))
 |.idx a b,env=>bnd (aN Φ a env) λx=>bnd (aN Φ b env) λy=>ask λh=>jt h x y
 |.slc a lo hi,env=>bnd (aN Φ a env) λx=>bnd (if cJ lo=true then ret none else bnd (aN Φ lo env) λv=>bnd (bu (mV v)) λi=>ret (some i)) λl=>
   bnd (if cJ hi=true then ret none else bnd (aN Φ hi env) λv=>bnd (bu (mV v)) λi=>ret (some i)) λu=>rY x l u
 |.call j es,env=>bnd (bJ Φ es env) λds=>Φ j ds
 |.blt b es,env=>bnd (bJ Φ es env) λds=>blt b ds
 |.met m a es,env=>bnd (aN Φ a env) λx=>bnd (ask λh=>recv h m x) λ_=>bnd (bJ Φ es env) λds=>met m x ds
 | .comp _ js pat k it c elt,env=>calm (bnd (bJ Φ it env) λits=>bnd (bu (srcOf k its)) λsrc=>bnd (ask λh=>src.items h) λxs=>aH (decide (xs.length<=100000))
   (bnd (fF src (λd=>bnd (bu (gq pat d (jE js env))) λenv'=>bnd (if cJ c=true then ret true else bnd (aN Φ c env') λv=>ask λh=>fS h v) λt=>
    if t=true then bnd (aN Φ elt env') λe=>ret (some e) else ret none) xs.length 0 []) λys=>new (.lst ys)))
 |.dct0,_=>new (.dct [])
 |.sset a,env=>bnd (aN Φ a env) λv=>bnd (ask λh=>aF h v) λxs=>bnd (bu (bw xs)) λns=>aH (decide (ns.length<64)) (new (.lst ((sortI (L2.bD [] ns)).map .int)))
 |.dget _ _ _,_=>bu none
 |.dct1 k v,env=>bnd (aN Φ k env) λx=>bnd (bu (keyOf x)) λkk=>bnd (aN Φ v env) λy=>bnd (bu (keyOf y)) λk2=>new (.dct (fM [(kk,.bl true)] k2 (.bl true)))
 |.lkeys _,_=>bu none
 |.sdef _ _ _,_=>bu none
 |.svals a,env=>bnd (aN Φ a env) λv=>bnd (ask λh=>(aF h v).bind gp) λj=>ret (.int (j:Nat))
 |.skeys a,env=>bnd (aN Φ a env) λv=>bnd (bu (IZ v)) λj=>ret (.int (j:Nat))
 |.fld _ _ _,_=>bu none
 |.mth _ _ _ _,_=>bu none
 |.rev _ _,_=>bu none
 |.dflt _ _ _ _ _ _,_=>bu none
 |.isc _ _ _,_=>bu none
noncomputable def bJ(Φ:Nat->List Val->M Val):jU->Env->M (List Val)
 |.nil,_=>ret []
 |.cons e es,env=>bnd (aN Φ e env) λd=>bnd (bJ Φ es env) λds=>ret (d::ds)
end
inductive Fl
 |nx (env:Env)|rt (v:Val)|bk (env:Env)|ct (env:Env)
def forM(src:Src)(body:Val->Env->M Fl):Nat->Nat->Env->M Fl
 |0,i,env=>bnd (ask λh=>src.items h) λxs=>aH (decide (xs.length<=i)) (ret (.nx env))
 | n+1,i,env=>bnd (ask λh=>src.items h) λxs=>match xs[i]? with
  |none=>ret (.nx env)
  | some x=>bnd (body x env) λf=>match f with
   |.nx env'=>forM src body n (i+1) env'
   |.ct env'=>forM src body n (i+1) env'
   |.bk env'=>ret (.nx env')
   |.rt v=>ret (.rt v)
def Aq(o i v:Val):M Unit:=match o with
 | .ref j=>bnd (ask λh=>h[j]?) λob=>match ob with
  |.dct kvs=>bnd (bu (keyOf i)) λk=>aH (decide (kvs.length<sizeLine)) (put j (.dct (fM kvs k v)))
  |_=>bu none
 |_=>bu none
def Ej(Φ:Nat->List Val->M Val)(js:List (Option Nat))(pat:wQ)(k:Ik)(it:jU)(c elt:IE)(env:Env):M Val:=bnd (bJ Φ it env) λits=>bnd (bu (srcOf k its)) λsrc=>bnd (ask λh=>src.items h) λxs=>aH (decide (xs.length<=100000))
   (bnd (fF src (λd=>bnd (bu (gq pat d (jE js env))) λenv'=>bnd (if cJ c=true then ret true else bnd (aN Φ c env') λv=>ask λh=>fS h v) λt=>
    if t=true then bnd (aN Φ elt env') λe=>ret (some e) else ret none) xs.length 0 []) λys=>new (.lst ys))
mutual
noncomputable def gW(Φ:Nat->List Val->M Val):IS->Env->M Fl
 |.expr e,env=>bnd (aN Φ e env) λ_=>ret (.nx env)
 |.asg p e,env=>bnd (aN Φ e env) λv=>bnd (bu (gq p v env)) λenv'=>ret (.nx env')
 | .aug i _ e,env=>match e with
  |.comp _ js pat k it c elt=>bnd (Ej Φ js pat k it c elt env) λv=>bnd (bu (gq (.one i) v env)) λenv'=>ret (.nx env')
  |_=>bu none
 |.jD o i v,env=>bnd (aN Φ v env) λx=>bnd (aN Φ o env) λy=>bnd (aN Φ i env) λz=>bnd (Aq y z x) λ_=>ret (.nx env)
 |.iff c a b,env=>bnd (aN Φ c env) λx=>bnd (ask λh=>fS h x) λt=>if t=true then gX Φ a env else gX Φ b env
 |.for p k it body,env=>bnd (bJ Φ it env) λits=>bnd (bu (srcOf k its)) λsrc=>bnd (ask λh=>src.items h) λxs=>
   forM src (λx env=>bnd (bu (gq p x env)) λenv'=>gX Φ body env') xs.length 0 env
 |.whl _ _ _,_=>bu none
 |.ret e,env=>bnd (aN Φ e env) λv=>ret (.rt v)
 |.IW,_=>ret (.rt .non)
 |.brk,env=>ret (.bk env)
 |.cnt,env=>ret (.ct env)
 |.pass,env=>ret (.nx env)
 |.never,_=>bu none
 |.setF _ a _ _,env=>bnd (aN Φ a env) λ_=>bu none
noncomputable def gX(Φ:Nat->List Val->M Val):dY->Env->M Fl
 |.nil,env=>ret (.nx env)
 | .cons s r,env=>bnd (gW Φ s env) λf=>match f with
  |.nx env'=>gX Φ r env'
  |f=>ret f
end
def mq(Φ:Nat->List Val->M Val)(n:Nat)(body:dY)(vs:List Val):M Val :=
 bnd (gX Φ body (vs.map some++replicate (n-vs.length) none)) λf=>match f with
  |.nx _=>ret .non
  |.rt v=>ret v
  |_=>bu none
theorem jV{b:Bool}(ho:o=.lt\/o=.le\/o=.gt\/o=.ge)(e:cop h o v w=some b):∃i j,v=.int i/\w=.int j:=by
 cases v with
 |int i=>
  cases w with
  |int j=>exact⟨i,j,rfl,rfl⟩
  |_=>rcases ho with rfl|rfl|rfl|rfl<;>cases e
 |_=>rcases ho with rfl|rfl|rfl|rfl<;>cases e
structure Bd where
 K:Frag
 cl:Nat->Addr
def Ls(K:Frag)(H:Hp)(a:Addr)(xs:List V):Prop :=
 (∃o,H a=some (.pK o (.lst xs)))\/gD K (λ_=>none) a xs
theorem Ls.sq{K:Frag}{H:Hp}{a:Addr}{xs:List V}(h:Ls K H a xs):gD K H a xs:=by
 rcases h with ⟨o,h⟩|(h|⟨o,h⟩)|h
 ·exact .inl (.inr ⟨o,h⟩)
 ·cases h
 ·cases h
 ·exact .inr h
mutual
noncomputable def VR(K:Frag)(ρ:List Addr)(H:Hp):Val->V->Prop
 |.non,x=>x=.non
 |.bl b,x=>x=.bl b
 |.int i,x=>x=.int i
 |.str s,x=>x=.str s
 |.tup vs,x=>∃a xs,x=.ref a/\iP K H a xs/\av K ρ H vs xs
 |.rl vs,x=>∃a xs,x=.ref a/\Ls K H a xs/\av K ρ H vs xs
 |.dc _ _,_=>False
 |.ob _ _ _,_=>False
 |.ref i,x=>∃a,x=.ref a /\ ρ[i]?=some a
noncomputable def av(K:Frag)(ρ:List Addr)(H:Hp):List Val->List V->Prop
 |[],xs=>xs=[]
 |v::vs,xs=>∃x r,xs=x::r/\VR K ρ H v x/\av K ρ H vs r
end
def jh(K:Frag)(ρ:List Addr)(H:Hp):List (Key×Val)->List (Key×V)->Prop
 |[],xs=>xs=[]
 |(k,v)::vs,xs=>∃x r,xs=(k,x)::r/\VR K ρ H v x/\jh K ρ H vs r
def M7(K:Frag)(ρ:List Addr)(H:Hp):List (Str×Val)->List (Str×V)->Prop
 |[],xs=>xs=[]
 |(k,v)::vs,xs=>∃x r,xs=(k,x)::r/\VR K ρ H v x/\M7 K ρ H vs r
def OR(B:Bd)(ρ:List Addr)(H:Hp)(a:Addr):Ob->Prop
 |.lst xs=>∃ys,H a=some (.lst ys)/\av B.K ρ H xs ys
 |.dct kvs=>∃ks,H a=some (.dK ks)/\jh B.K ρ H kvs ks
 |.ins c fs=>∃dx gs,H a=some (.ins (B.cl c) dx gs)/\M7 B.K ρ H fs gs
structure HR (B:Bd) (ρ:List Addr) (h:Hs) (H:Hp):Prop where
 len:ρ.length=h.length
 nd:ρ.Nodup
 ob:∀(i:Nat) (o:Ob) (a:Addr),h[i]?=some o -> ρ[i]?=some a->OR B ρ H a o
def Mu:HO->Bool
 |.lst _=>true|.dK _=>true|.ins ..=>true
 |_=>false
structure Gw (ρ:List Addr) (H:Hp) (ρ':List Addr) (H':Hp):Prop where
 pre:ρ <+: ρ'
 firm:∀a o,H a=some o->Mu o=false->H' a=some o
structure Gr (ρ:List Addr) (H:Hp) (ρ':List Addr) (H':Hp):Prop where
 pre:ρ <+: ρ'
 keep:∀a o,H a=some o->a ∉ ρ -> H' a=some o
 firm:∀a o,H a=some o->Mu o=false->H' a=some o
 fresh:∀a,a ∈ ρ'->a ∉ ρ -> H a=none
section
variable {K:Frag} {B:Bd} {ρ ρ' ρ1 ρ2:List Addr} {H H' H1 H2:Hp} {h h':Hs}
theorem Gr.w(g:Gr ρ H ρ' H'):Gw ρ H ρ' H':=⟨g.pre,g.firm⟩
theorem Gr.refl:Gr ρ H ρ H:=⟨aaC _,λ_ _ e _=>e,λ_ _ e _=>e,λ_ e n=>absurd e n⟩
theorem Gr.trans(g:Gr ρ H ρ1 H1)(k:Gr ρ1 H1 ρ2 H2):Gr ρ H ρ2 H2 where
 pre:=g.pre.trans k.pre
 keep a o e n:=k.keep a o (g.keep a o e n) λz=>by rw[g.fresh a z n]at e;cases e
 firm a o e n:=k.firm a o (g.firm a o e n) n
 fresh a z n:=by
  by_cases hb:a ∈ ρ1
  ·exact g.fresh a hb n
  ·cases e:H a with
   |none=>rfl
   |some o=>have e1:=g.keep a o e n;rw[k.fresh a z hb]at e1;cases e1
theorem Ar{i:Nat}(p:ρ <+: ρ')(e:ρ[i]?=some a):ρ'[i]?=some a:=by
 obtain⟨t,rfl⟩:=p;have hi:i < ρ.length:=(aai.mp e).1;rw[aax hi];exact e
theorem Gw.UI(g:Gw ρ H ρ' H')(e:iP K H a xs):iP K H' a xs:=by
 rcases e with (e|⟨o,e⟩)|e
 ·exact .inl (.inl (g.firm _ _ e rfl))
 ·exact .inl (.inr ⟨o,g.firm _ _ e rfl⟩)
 ·exact .inr e
theorem Gw.M8(g:Gw ρ H ρ' H')(e:Ls K H a xs):Ls K H' a xs:=by
 rcases e with ⟨o,e⟩|e
 ·exact .inl ⟨o,g.firm _ _ e rfl⟩
 ·exact .inr e
mutual
theorem VR.lD(g:Gw ρ H ρ' H'):∀(v:Val) (x:V),VR K ρ H v x->VR K ρ' H' v x
 |.non,x,e=>by rw[VR]at e |-;exact e
 |.bl b,x,e=>by rw[VR]at e |-;exact e
 |.int b,x,e=>by rw[VR]at e |-;exact e
 |.str b,x,e=>by rw[VR]at e |-;exact e
 | .tup vs,x,e=>by
  rw[VR]at e |-;obtain⟨a,xs,rfl,q1,q2⟩:=e;exact⟨a,xs,rfl,g.UI q1,av.lD g vs xs q2⟩
 | .rl vs,x,e=>by
  rw[VR]at e |-;obtain⟨a,xs,rfl,q1,q2⟩:=e;exact⟨a,xs,rfl,g.M8 q1,av.lD g vs xs q2⟩
 |.dc _ _,x,e=>by rw[VR]at e;exact e.elim
 |.ob _ _ _,x,e=>by rw[VR]at e;exact e.elim
 | .ref i,x,e=>by
  rw[VR]at e |-;obtain⟨a,rfl,q⟩:=e;exact⟨a,rfl,Ar g.pre q⟩
theorem av.lD(g:Gw ρ H ρ' H'):∀(vs:List Val) (xs:List V),av K ρ H vs xs->av K ρ' H' vs xs
 |[],xs,e=>by rw[av]at e |-;exact e
 | v::vs,xs,e=>by
  rw[av]at e |-;obtain⟨x,r,rfl,q1,q2⟩:=e;exact⟨x,r,rfl,VR.lD g v x q1,av.lD g vs r q2⟩
end
theorem jh.lD(g:Gw ρ H ρ' H'):∀(vs:List (Key×Val)) (xs:List (Key×V)),jh K ρ H vs xs->jh K ρ' H' vs xs
 |[],xs,e=>e
 |(k,v)::vs,xs,⟨x,r,e,q1,q2⟩=>⟨x,r,e,VR.lD g v x q1,jh.lD g vs r q2⟩
theorem M7.lD(g:Gw ρ H ρ' H'):∀(vs:List (Str×Val)) (xs:List (Str×V)),M7 K ρ H vs xs->M7 K ρ' H' vs xs
 |[],xs,e=>e
 |(k,v)::vs,xs,⟨x,r,e,q1,q2⟩=>⟨x,r,e,VR.lD g v x q1,M7.lD g vs r q2⟩
theorem VR.up(g:Gr ρ H ρ' H')(v:Val)(x:V)(e:VR K ρ H v x):VR K ρ' H' v x:=VR.lD g.w v x e
theorem av.up(g:Gr ρ H ρ' H')(v:List Val)(x:List V)(e:av K ρ H v x):av K ρ' H' v x:=av.lD g.w v x e
theorem jh.up(g:Gr ρ H ρ' H')(v:List (Key×Val))(x:List (Key×V))(e:jh K ρ H v x):jh K ρ' H' v x:=jh.lD g.w v x e
theorem av.nil:av K ρ H [] []:=by rw[av]
theorem av.cons{v:Val}{vs:List Val}{x:V}{xs:List V}(a:VR K ρ H v x)(b:av K ρ H vs xs):av K ρ H (v::vs) (x::xs):=by rw[av];exact⟨x,xs,rfl,a,b⟩
theorem av.length:∀{vs:List Val} {xs:List V},av K ρ H vs xs->vs.length=xs.length
 |[],xs,e=>by rw[av]at e;subst e;rfl
 |v::vs,xs,e=>by rw[av]at e;obtain⟨x,r,rfl,_,q⟩:=e;simp[av.length q]
theorem av.get:∀{vs:List Val} {xs:List V} {i:Nat} {v:Val},av K ρ H vs xs->vs[i]?=some v->∃x,xs[i]?=some x/\VR K ρ H v x
 |[],xs,i,v,e,q=>by simp at q
 | w::vs,xs,0,v,e,q=>by
  rw[av]at e;obtain⟨x,r,rfl,a,_⟩:=e;simp at q;subst q;exact⟨x,rfl,a⟩
 | w::vs,xs,i+1,v,e,q=>by
  rw[av]at e;obtain⟨x,r,rfl,_,b⟩:=e;simp at q;obtain⟨y,q1,q2⟩:=av.get b q;exact⟨y,by simpa using q1,q2⟩
theorem av.append:∀{vs ws:List Val} {xs ys:List V},av K ρ H vs xs->av K ρ H ws ys->av K ρ H (vs++ws) (xs++ys)
 |[],ws,xs,ys,e,q=>by rw[av]at e;subst e;exact q
 | w::vs,ws,xs,ys,e,q=>by
  rw[av]at e;obtain⟨x,r,rfl,a,b⟩:=e;exact av.cons a (av.append b q)
theorem av.take:∀{vs:List Val} {xs:List V} (n:Nat),av K ρ H vs xs->av K ρ H (vs.take n) (xs.take n)
 |_,_,0,_=>by simp;exact av.nil
 |[],xs,n+1,e=>by rw[av]at e;subst e;simp;exact av.nil
 | w::vs,xs,n+1,e=>by
  rw[av]at e;obtain⟨x,r,rfl,a,b⟩:=e;exact av.cons a (av.take n b)
theorem av.drop:∀{vs:List Val} {xs:List V} (n:Nat),av K ρ H vs xs->av K ρ H (vs.drop n) (xs.drop n)
 |_,_,0,e=>by simpa using e
 |[],xs,n+1,e=>by rw[av]at e;subst e;simp;exact av.nil
 | w::vs,xs,n+1,e=>by
  rw[av]at e;obtain⟨x,r,rfl,a,b⟩:=e;exact av.drop n b
theorem av.cut(lo hi:Option Int)(e:av K ρ H vs xs):av K ρ H (cV vs lo hi) (vY xs lo hi):=by
 unfold cV vY;rw[e.length];exact av.take _ (av.drop _ e)
theorem av.jC{i:Int}(e:av K ρ H vs xs)(q:L2.jC vs i=some v):∃x,L2.jC xs i=some x/\VR K ρ H v x:=by
 unfold L2.jC at q |-;rw[e.length]at q;cases hi:L2.Hq xs.length i with
 |none=>rw[hi]at q;cases q
 |some n=>rw[hi]at q;exact av.get e q
theorem av.one(e:av K ρ H [v] xs):∃x,xs=[x]/\VR K ρ H v x:=by
 rw[av]at e;obtain⟨x,r,rfl,a,b⟩:=e;rw[av]at b;subst b;exact⟨x,rfl,a⟩
theorem av.two(e:av K ρ H [v,w] xs):∃x y,xs=[x,y]/\VR K ρ H v x/\VR K ρ H w y:=by
 rw[av]at e;obtain⟨x,r,rfl,a,b⟩:=e;obtain⟨y,rfl,c⟩:=av.one b;exact⟨x,y,rfl,a,c⟩
theorem VR.int{i:Int}:VR K ρ H (.int i) (.int i):=by rw[VR]
theorem VR.str:VR K ρ H (.str i) (.str i):=by rw[VR]
theorem VR.bl{i:Bool}:VR K ρ H (.bl i) (.bl i):=by rw[VR]
theorem VR.non:VR K ρ H .non .non:=by rw[VR]
theorem VR.tup(q:iP K H a xs)(e:av K ρ H vs xs):VR K ρ H (.tup vs) (.ref a):=by rw[VR];exact⟨a,xs,rfl,q,e⟩
theorem VR.ref{i:Nat}(q:ρ[i]?=some a):VR K ρ H (.ref i) (.ref a):=by rw[VR];exact⟨a,rfl,q⟩
theorem av.ints:∀{ns:List Int} {xs:List V},av K ρ H (ns.map Val.int) xs↔xs=ns.map V.int
 |[],xs=>by simp[av]
 | n::ns,xs=>by
  simp only[map_cons];rw[av];constructor
  ·rintro⟨x,r,rfl,a,b⟩;rw[VR]at a;subst a;rw[(av.ints (ns:=ns)).mp b]
  ·rintro rfl;exact⟨_,_,rfl,VR.int,(av.ints (ns:=ns)).mpr rfl⟩
theorem av.strs:∀{ns:List Str} {xs:List V},av K ρ H (ns.map Val.str) xs↔xs=ns.map V.str
 |[],xs=>by simp[av]
 | n::ns,xs=>by
  simp only[map_cons];rw[av];constructor
  ·rintro⟨x,r,rfl,a,b⟩;rw[VR]at a;subst a;rw[(av.strs (ns:=ns)).mp b]
  ·rintro rfl;exact⟨_,_,rfl,VR.str,(av.strs (ns:=ns)).mpr rfl⟩
theorem av.bools:∀{ns:List Bool} {xs:List V},av K ρ H (ns.map Val.bl) xs↔xs=ns.map V.bl
 |[],xs=>by simp[av]
 | n::ns,xs=>by
  simp only[map_cons];rw[av];constructor
  ·rintro⟨x,r,rfl,a,b⟩;rw[VR]at a;subst a;rw[(av.bools (ns:=ns)).mp b]
  ·rintro rfl;exact⟨_,_,rfl,VR.bl,(av.bools (ns:=ns)).mpr rfl⟩
theorem av.tups:∀{pO:List (List Int)} {xs:List V},av K ρ H (pO.map gx) xs->∃rs:List (Addr×List Int),xs=rs.map (λr=>V.ref r.1)/\pO=rs.map (·.2)/\∀r∈rs,iP K H r.1 (r.2.map V.int)
 |[],xs,e=>by simp only[map_nil]at e;rw[av]at e;exact⟨[],e,rfl,λ_ z=>nomatch z⟩
 | ks::pO,xs,e=>by
  simp only[map_cons]at e;rw[av]at e;obtain⟨x,r,rfl,a,b⟩:=e;obtain⟨rs,e1,e2,e3⟩:=av.tups b;unfold gx at a;rw[VR]at a;obtain⟨p,ys,rfl,g1,g2⟩:=a;rw[av.ints.mp g2]at g1;refine⟨(p,ks)::rs,by rw[e1];rfl,by rw[e2];rfl,λr hr=>?_⟩
  rcases aau.mp hr with z|z
  ·rw[z];exact g1
  ·exact e3 r z
theorem av.As:∀{rs:List (Addr×List Int)},(∀r∈rs,iP K H r.1 (r.2.map V.int))->av K ρ H ((rs.map (·.2)).map gx) (rs.map λr=>V.ref r.1)
 |[],_=>av.nil
 |r::rs,e=>av.cons (VR.tup (e r aah) (av.ints.mpr rfl)) (av.As λq hq=>e q (aae _ hq))
theorem OR.mu(q:OR B ρ H a o):∃u,H a=some u/\Mu u=true:=by
 cases o with
 |lst xs=>obtain⟨ys,e,_⟩:=q;exact⟨_,e,rfl⟩
 |dct xs=>obtain⟨ys,e,_⟩:=q;exact⟨_,e,rfl⟩
 |ins c fs=>obtain⟨dx,ys,e,_⟩:=q;exact⟨_,e,rfl⟩
theorem HR.mu(r:HR B ρ h H)(e:a ∈ ρ):∃u,H a=some u/\Mu u=true:=by
 obtain⟨i,hi,rfl⟩:=List.getElem_of_mem e;have hi':i<h.length:=by rw[<-r.len];exact hi
 exact(r.ob i _ _ (aav hi') (aav hi)).mu
theorem HR.out(r:HR B ρ h H)(e:H p=none):p ∉ ρ:=λz=>by
 obtain⟨u,q,_⟩:=r.mu z;rw[e]at q;cases q
theorem OR.lD(g:Gw ρ H ρ' H')(e:H' a=H a)(q:OR B ρ H a o):OR B ρ' H' a o:=by
 cases o with
 |lst xs=>obtain⟨ys,e1,e2⟩:=q;exact⟨ys,e.trans e1,av.lD g _ _ e2⟩
 |dct xs=>obtain⟨ys,e1,e2⟩:=q;exact⟨ys,e.trans e1,jh.lD g _ _ e2⟩
 |ins c fs=>obtain⟨dx,ys,e1,e2⟩:=q;exact⟨dx,ys,e.trans e1,M7.lD g _ _ e2⟩
theorem OR.up(g:Gr ρ H ρ' H')(e:H' a=H a)(q:OR B ρ H a o):OR B ρ' H' a o:=OR.lD g.w e q
theorem Gr.side(e:H p=none):Gr ρ H ρ (upd H p o) where
 pre:=aaC _
 keep a u q _:=by rw[ao (aE q e)];exact q
 firm a u q _:=by rw[ao (aE q e)];exact q
 fresh a z n:=absurd z n
theorem HR.side(r:HR B ρ h H)(e:H p=none):HR B ρ h (upd H p o) where
 len:=r.len
 nd:=r.nd
 ob i u a q1 q2:=by refine OR.up (Gr.side e) ?_ (r.ob i u a q1 q2);refine ao λz=>?_;subst z;exact r.out e (aaA q2)
theorem Gw.other(e:H p=some u)(hm:Mu u=true):Gw ρ H ρ (upd H p o) where
 pre:=aaC _
 firm a w q n:=by
  have:a≠p:=λz=>by subst z;rw[e]at q;cases q;rw[hm]at n;cases n
  rw[ao this];exact q
theorem HR.other(r:HR B ρ h H)(hp:p ∉ ρ)(e:H p=some u)(hm:Mu u=true):HR B ρ h (upd H p o) where
 len:=r.len
 nd:=r.nd
 ob i w a q1 q2:=OR.lD (Gw.other e hm) (ao λz=>by subst z;exact hp (aaA q2)) (r.ob i w a q1 q2)
theorem Gr.new(e:H p=none):Gr ρ H (ρ ++ [p]) (upd H p o) where
 pre:=prefix_append _ _
 keep a u q _:=by rw[ao (aE q e)];exact q
 firm a u q _:=by rw[ao (aE q e)];exact q
 fresh a z n:=by
  rcases mem_append.mp z with z|z
  ·exact absurd z n
  ·rw[aay.mp z];exact e
theorem HR.new(r:HR B ρ h H)(e:H p=none)(q:OR B (ρ ++ [p]) (upd H p o) p u):HR B (ρ ++ [p]) (h++[u]) (upd H p o) where
 len:=by simp[r.len]
 nd:=by rw[nodup_append];refine⟨r.nd,by simp,λa ha b hb=>?_⟩;rw[aay.mp hb];rintro rfl;exact r.out e ha
 ob i v a q1 q2:=by
  by_cases hi:i<h.length
  ·rw[aax hi]at q1;rw[aax (by rw[r.len];exact hi)]at q2;refine OR.up (Gr.new e) (ao λz=>?_) (r.ob i v a q1 q2);subst z;exact r.out e (aaA q2)
  ·rw[aaG (by omega)]at q1
   rw[aaG (by rw[r.len];omega)]at q2;have hi0:i-h.length=0:=by have:=(aai.mp q1).1;simp at this;omega
   rw[hi0]at q1;rw[r.len,hi0]at q2;simp at q1 q2;subst q1;subst q2;exact q
theorem Au(r:HR B ρ h H):VR K (ρ ++ [p]) H' (.ref h.length) (.ref p):=VR.ref (by rw[<-r.len];simp)
theorem Lu{α:Type}:∀{l:List α} {i j:Nat} {a:α},l.Nodup->l[i]?=some a->l[j]?=some a->i=j
 |[],i,j,a,_,e,_=>by simp at e
 |b::l,0,0,a,_,_,_=>rfl
 | b::l,0,j+1,a,n,e,f=>by
  simp at e f;subst e;exact absurd (aaA f) (nodup_cons.mp n).1
 | b::l,i+1,0,a,n,e,f=>by
  simp at e f;subst f;exact absurd (aaA e) (nodup_cons.mp n).1
 | b::l,i+1,j+1,a,n,e,f=>by
  simp at e f;rw[Lu (nodup_cons.mp n).2 e f]
theorem Gr.put(hp:p ∈ ρ)(e:H p=some u)(hm:Mu u=true):Gr ρ H ρ (upd H p o) where
 pre:=aaC _
 keep a w q n:=by rw[ao λz=>n (by rw[z];exact hp)];exact q
 firm a w q n:=by
  have:a≠p:=λz=>by subst z;rw[e]at q;cases q;rw[hm]at n;cases n
  rw[ao this];exact q
 fresh a z n:=absurd z n
theorem HR.put{i:Nat}(r:HR B ρ h H)(hi:ρ[i]?=some p)(e:h[i]?=some w)(q:OR B ρ (upd H p o) p u):HR B ρ (h.set i u) (upd H p o) where
 len:=by simp[r.len]
 nd:=r.nd
 ob j v a q1 q2:=by
  obtain⟨z,k1,k2⟩:=(r.ob i w p e hi).mu
  by_cases hj:j=i
  ·subst hj;rw[hi]at q2;cases q2;have hlt:j<h.length:=(aai.mp e).1;rw[aaw hlt]at q1;cases q1;exact q
  ·rw[aak (λz=>hj z.symm)]at q1;refine OR.up (Gr.put (aaA hi) k1 k2) (ao λz=>?_) (r.ob j v a q1 q2);subst z;exact hj (Lu r.nd q2 hi)
theorem dG(r:HR B ρ h H)(q:VR B.K ρ H v x)(e:aF h v=some xs):∃a ys,x=.ref a/\gD B.K H a ys/\av B.K ρ H xs ys:=by
 cases v with
 |rl vs=>simp only[aF]at e;cases e;rw[VR]at q;obtain⟨a,ys,rfl,k1,k2⟩:=q;exact⟨a,ys,rfl,k1.sq,k2⟩
 |ref i=>
  simp only[aF]at e;split at e
  ·rename_i zs e1;cases e;rw[VR]at q;obtain⟨a,rfl,k1⟩:=q;obtain⟨ys,k2,k3⟩:=r.ob i _ a e1 k1;exact⟨a,ys,rfl,.inl (.inl k2),k3⟩
  ·cases e
 |_=>cases e
theorem pP{i:Nat}(r:HR B ρ h H)(q:VR B.K ρ H (.ref i) x)(e:h[i]?=some (.lst xs)):∃a ys,x=.ref a /\ ρ[i]?=some a/\H a=some (.lst ys)/\av B.K ρ H xs ys:=by
 rw[VR]at q;obtain⟨a,rfl,k1⟩:=q;obtain⟨ys,k2,k3⟩:=r.ob i _ a e k1;exact⟨a,ys,rfl,k1,k2,k3⟩
theorem uV(r:HR B ρ h H)(q:VR B.K ρ H v x)(e:cQ h v=some xs):∃a ys,x=.ref a/\(gD B.K H a ys\/iP B.K H a ys)/\av B.K ρ H xs ys:=by
 cases v with
 |tup vs=>simp only[cQ]at e;cases e;rw[VR]at q;obtain⟨a,ys,rfl,k1,k2⟩:=q;exact⟨a,ys,rfl,.inr k1,k2⟩
 |rl vs=>obtain⟨a,ys,e1,k1,k2⟩:=dG r q (show aF h (.rl vs)=some xs from e);exact⟨a,ys,e1,.inl k1,k2⟩
 |ref vs=>obtain⟨a,ys,e1,k1,k2⟩:=dG r q (show aF h (.ref vs)=some xs from e);exact⟨a,ys,e1,.inl k1,k2⟩
 |_=>cases e
theorem nW(r:HR B ρ h H):∀(n:Nat) (v:Val) (x:V) (d:PyData),VR B.K ρ H v x->toD n h v=some d->Den B.K H d x/\d.canLay0=true/\d.depth<=n:=by
 intro n
 induction n with
 |zero=>intro v x d _ e;simp only[toD]at e;cases e
 |succ n ih=>
  have all:∀(vs:List Val) (xs:List V) (ds:List PyData),av B.K ρ H vs xs->cg (toD n h) vs=some ds->eL B.K H ds xs/\PyData.canLayAll0 ds=true/\PyData.depthAll ds<=n:=by
   intro vs
   induction vs with
   |nil=>intro xs ds q e;simp only[cg]at e;cases e;rw[av]at q;subst q;exact⟨eL.nil,rfl,by simp[PyData.depthAll]⟩
   |cons v vs Zn=>intro xs ds q e;simp only[cg]at e;obtain⟨d,e1,e⟩:=aac.mp e;obtain⟨ds',e2,e⟩:=aac.mp e;cases e;rw[av]at q;obtain⟨x,r,rfl,q1,q2⟩:=q;obtain⟨a1,a2,a3⟩:=ih v x d q1 e1;obtain⟨b1,b2,b3⟩:=Zn r ds' q2 e2;refine⟨eL.cons a1 b1,by simp[PyData.canLayAll0,a2,b2],?_⟩;simp only[PyData.depthAll];omega
  intro v x d q e;cases v with
  |non=>simp only[toD]at e;cases e;rw[VR]at q;subst q;exact⟨Den.none,rfl,by simp[PyData.depth]⟩
  |bl b=>simp only[toD]at e;cases e;rw[VR]at q;subst q;exact⟨Den.bool,rfl,by simp[PyData.depth]⟩
  |int b=>simp only[toD]at e;cases e;rw[VR]at q;subst q;exact⟨Den.int,rfl,by simp[PyData.depth]⟩
  |str b=>
   simp only[toD]at e;split at e
   ·rename_i hs;cases e;rw[VR]at q;subst q;exact⟨Den.str,by simp[PyData.canLay0,hs],by simp[PyData.depth]⟩
   ·cases e
  |tup vs=>simp only[toD]at e;obtain⟨ds,e1,e⟩:=aac.mp e;cases e;rw[VR]at q;obtain⟨a,xs,rfl,q1,q2⟩:=q;obtain⟨b1,b2,b3⟩:=all vs xs ds q2 e1;exact⟨Den.tuple q1 b1,by simp[PyData.canLay0,b2],by simp only[PyData.depth];omega⟩
  |rl vs=>simp only[toD]at e;obtain⟨ds,e1,e⟩:=aac.mp e;cases e;rw[VR]at q;obtain⟨a,xs,rfl,q1,q2⟩:=q;obtain⟨b1,b2,b3⟩:=all vs xs ds q2 e1;exact⟨Den.list q1.sq b1,by simp[PyData.canLay0,b2],by simp only[PyData.depth];omega⟩
  |dc _ _=>rw[VR]at q;exact q.elim
  |ob _ _ _=>rw[VR]at q;exact q.elim
  |ref i=>simp only[toD]at e;obtain⟨vs,e0,e⟩:=aac.mp e;obtain⟨ds,e1,e⟩:=aac.mp e;cases e;obtain⟨a,xs,rfl,q1,q2⟩:=dG r q e0;obtain⟨b1,b2,b3⟩:=all vs xs ds q2 e1;exact⟨Den.list q1 b1,by simp[PyData.canLay0,b2],by simp only[PyData.depth];omega⟩
end
theorem nX(x:List Int):∀l,(uQ x l).Perm (x::l)
 |[]=>.refl _
 | y::r=>by
  unfold uQ;split
  ·exact((nX x r).cons y).trans (.swap _ _ _)
  ·exact .refl _
theorem qD:∀l,(mR l).Perm l
 |[]=>.refl _
 |x::r=>(nX x _).trans ((qD r).cons x)
theorem wW{a b c:List Int}(h1:HT.lexLt b a=false)(h2:HT.lexLt c b=false):HT.lexLt c a=false:=by
 cases e:HT.lexLt c a with
 |false=>rfl
 |true=>
  rcases rN.sP c b a e with z|z
  ·rw[h2]at z;cases z
  ·rw[h1]at z;cases z
theorem wX{a b:List Int}(h:HT.lexLt a b=true):HT.lexLt b a=false:=by
 cases e:HT.lexLt b a with
 |false=>rfl
 |true=>have:=rN.ig _ _ _ h e;rw[rN.jo]at this;cases this
theorem Av(x:List Int):∀l:List (List Int),l.Pairwise (λa b=>HT.lexLt b a=false)->(uQ x l).Pairwise (λa b=>HT.lexLt b a=false)
 |[],_=>by simp[uQ]
 | y::r,h=>by
  obtain⟨h1,h2⟩:=pairwise_cons.mp h;unfold uQ
  split
  ·rename_i hlt
   refine pairwise_cons.mpr ⟨λz hz=>?_,Av x r h2⟩
   rcases aau.mp ((nX x r).mem_iff.mp hz) with rfl|hz
   ·exact wX hlt
   ·exact h1 z hz
  ·rename_i hlt
   refine pairwise_cons.mpr ⟨λz hz=>?_,h⟩;have hxy:HT.lexLt y x=false:=by simpa using hlt
   rcases aau.mp hz with rfl|hz
   ·exact hxy
   ·exact wW hxy (h1 z hz)
theorem wY:∀l,(mR l).Pairwise (λa b=>HT.lexLt b a=false)
 |[]=>.nil
 |x::r=>Av x _ (wY r)
theorem Ek(hp:l.Perm pO)(hs:l.Pairwise (λa b=>HT.lexLt b a=false)):l=mR pO :=
 List.Perm.eq_of_pairwise (λa b _ _ h1 h2=>rN.ie a b h2 h1) hs (wY pO) (hp.trans (qD pO).symm)
theorem Co{ns:List Int}{m:Int}(h:m∈ns)(h2:∀a∈ns,m<=a):uR ns=some (.int m):=by
 cases ns with
 |nil=>cases h
 |cons a r=>
  have key:∀(r:List Int) (a:Int),(r.foldl min a)∈a::r/\∀b∈a::r,r.foldl min a<=b:=by
   intro r
   induction r with
   |nil=>intro a;simp
   |cons c r ih=>
    intro a;obtain⟨q1,q2⟩:=ih (min a c);refine⟨?_,λb hb=>?_⟩
    ·show List.foldl min (min a c) r∈_
     rcases aau.mp q1 with z|z
     ·rw[z]
      rcases Int.le_total a c with hc|hc
      ·rw[Int.min_eq_left hc];exact aah
      ·rw[Int.min_eq_right hc];exact aae _ aah
     ·exact aae _ (aae _ z)
    ·show List.foldl min (min a c) r<=b
     have q3:=q2 (min a c) aah
     rcases aau.mp hb with z|z
     ·subst z;omega
     ·rcases aau.mp z with z|z
      ·subst z;omega
      ·exact q2 b (aae _ z)
  obtain⟨q1,q2⟩:=key r a;show some (Val.int (r.foldl min a))=_;rw[Int.le_antisymm (q2 m h) (h2 _ q1)]
theorem Cp{ns:List Int}{m:Int}(h:m∈ns)(h2:∀a∈ns,a<=m):uS ns=some (.int m):=by
 cases ns with
 |nil=>cases h
 |cons a r=>
  have key:∀(r:List Int) (a:Int),(r.foldl max a)∈a::r/\∀b∈a::r,b<=r.foldl max a:=by
   intro r
   induction r with
   |nil=>intro a;simp
   |cons c r ih=>
    intro a;obtain⟨q1,q2⟩:=ih (max a c);refine⟨?_,λb hb=>?_⟩
    ·show List.foldl max (max a c) r∈_
     rcases aau.mp q1 with z|z
     ·rw[z]
      rcases Int.le_total a c with hc|hc
      ·rw[Int.max_eq_right hc];exact aae _ aah
      ·rw[Int.max_eq_left hc];exact aah
     ·exact aae _ (aae _ z)
    ·show b<=List.foldl max (max a c) r
     have q3:=q2 (max a c) aah
     rcases aau.mp hb with z|z
     ·subst z;omega
     ·rcases aau.mp z with z|z
      ·subst z;omega
      ·exact q2 b (aae _ z)
  obtain⟨q1,q2⟩:=key r a;show some (Val.int (r.foldl max a))=_;rw[Int.le_antisymm (h2 _ q1) (q2 m h)]
def Post(B:Bd)(EX:Nat->List V->Hp->Prop)(ρ:List Addr)(H:Hp){α:Type}(W:α -> Hs->List Addr->Hp->Prop):Out α -> Prop
 |.ok a h'=>∀ρ' H',Gr ρ H ρ' H'->HR B ρ' h' H'->W a h' ρ' H'
 |.exc c vs h'=>∀ρ' H' xs,Gr ρ H ρ' H'->HR B ρ' h' H'->av B.K ρ' H' vs xs->EX c xs H'
 |.no=>False
def WV(K:Frag)(Q:VK):Val->Hs->List Addr->Hp->Prop:=λv _ ρ' H'=>∀x,VR K ρ' H' v x->Q x H'
section
variable {B:Bd} {EX:Nat->List V->Hp->Prop} {ρ ρ':List Addr} {H H':Hp} {α β:Type} {W:β -> Hs->List Addr->Hp->Prop} {h h':Hs} {Q:VK}
theorem Post.up(g:Gr ρ H ρ' H')(p:Post B EX ρ H W o):Post B EX ρ' H' W o:=by
 cases o with
 |ok a h'=>exact λρ2 H2 g2 r=>p ρ2 H2 (g.trans g2) r
 |exc c vs h'=>exact λρ2 H2 xs g2 r=>p ρ2 H2 xs (g.trans g2) r
 |no=>exact p
theorem aG{c:Bool}(p:Post B EX ρ H W (aH c m h)):c=true/\Post B EX ρ H W (m h):=by
 unfold aH at p;split at p
 ·rename_i e;exact⟨e,p⟩
 ·exact p.elim
theorem aA(p:Post B EX ρ H W (bnd (ask f) g h)):∃a,f h=some a/\Post B EX ρ H W (g a h):=by
 unfold bnd ask bu at p;cases e:f h with
 |none=>rw[e]at p;exact p.elim
 |some a=>rw[e]at p;exact⟨a,rfl,p⟩
theorem cP(r:HR B ρ h H)(p:Post B EX ρ H W (ask f h)):∃a,f h=some a/\W a h ρ H:=by
 unfold ask bu at p;cases e:f h with
 |none=>rw[e]at p;exact p.elim
 |some a=>rw[e]at p;exact⟨a,rfl,p ρ H Gr.refl r⟩
theorem bG(p:Post B EX ρ H W (bnd (bu o) g h)):∃a,o=some a/\Post B EX ρ H W (g a h):=by
 unfold bnd bu at p;cases e:o with
 |none=>rw[e]at p;exact p.elim
 |some a=>rw[e]at p;exact⟨a,rfl,p⟩
theorem cA(r:HR B ρ h H)(p:Post B EX ρ H W (bu o h)):∃a,o=some a/\W a h ρ H:=by
 unfold bu at p;cases e:o with
 |none=>rw[e]at p;exact p.elim
 |some a=>rw[e]at p;exact⟨a,rfl,p ρ H Gr.refl r⟩
theorem aj(r:HR B ρ h H)(p:Post B EX ρ H W (ret a h)):W a h ρ H:=p ρ H Gr.refl r
theorem wZ(r:HR B ρ h H)(hp:H p=none)(q:OR B (ρ ++ [p]) (upd H p O) p o)(w:Post B EX ρ H (WV B.K Q) (new o h)):Q (.ref p) (upd H p O) :=
 w (ρ ++ [p]) (upd H p O) (Gr.new hp) (r.new hp q) _ (Au r)
theorem eF(r:HR B ρ h H)(hp:H p=none)(q:av B.K ρ H xs ys)(w:Post B EX ρ H (WV B.K Q) (new (.lst xs) h)):Q (.ref p) (upd H p (.lst ys)) :=
 wZ (o:=.lst xs) (O:=.lst ys) r hp ⟨ys,aD,av.up (Gr.new hp) _ _ q⟩ w
theorem mW(r:HR B ρ h H)(hp:H p=none)(q:av B.K ρ H xs ys)(w:Post B EX ρ H (WV B.K Q) (ret (Val.tup xs) h)):Q (.ref p) (upd H p (.tup ys)) :=
 w ρ (upd H p (.tup ys)) (Gr.side hp) (r.side hp) _ (VR.tup (iP.of aD) (av.up (Gr.side hp) _ _ q))
theorem au(p:Post B EX ρ H W (bnd m f h))(k:∀v h1 ρ1 x H1,Gr ρ H ρ1 H1->HR B ρ1 h1 H1->VR B.K ρ1 H1 v x->Post B EX ρ1 H1 W (f v h1)->Q x H1):Post B EX ρ H (WV B.K Q) (m h):=by
 unfold bnd at p;cases e:m h with
 |ok v h1=>rw[e]at p;exact λρ1 H1 g r x q=>k v h1 ρ1 x H1 g r q (Post.up g p)
 |exc c vs h1=>rw[e]at p;exact p
 |no=>rw[e]at p;exact p
theorem bQ(p:Post B EX ρ H W (bnd m f h))(k:∀v h1 ρ1 H1,Gr ρ H ρ1 H1->HR B ρ1 h1 H1->Post B EX ρ1 H1 W (f v h1)->W' v h1 ρ1 H1):Post B EX ρ H W' (m h):=by
 unfold bnd at p;cases e:m h with
 |ok v h1=>rw[e]at p;exact λρ1 H1 g r=>k v h1 ρ1 H1 g r (Post.up g p)
 |exc c vs h1=>rw[e]at p;exact p
 |no=>rw[e]at p;exact p
end
theorem fO:∀{ds:List Val} {ns:List Int},bw ds=some ns->ds=ns.map .int
 |[],ns,e=>by simp only[bw,cg]at e;cases e;rfl
 | v::r,ns,e=>by
  simp only[bw,cg]at e;obtain⟨i,e1,e⟩:=aac.mp e;obtain⟨is,e2,e⟩:=aac.mp e;cases e;cases v<;>first|cases e1|skip
  rw[fO (show bw r=some is from e2)];rfl
theorem tH:∀{ds:List Val} {ns:List Str},strs? ds=some ns->ds=ns.map .str
 |[],ns,e=>by simp only[strs?,cg]at e;cases e;rfl
 | v::r,ns,e=>by
  simp only[strs?,cg]at e;obtain⟨i,e1,e⟩:=aac.mp e;obtain⟨is,e2,e⟩:=aac.mp e;cases e;cases v<;>first|cases e1|skip
  rw[tH (show strs? r=some is from e2)];rfl
theorem lU:∀{ds:List Val} {ns:List Bool},cz ds=some ns->ds=ns.map .bl
 |[],ns,e=>by simp only[cz,cg]at e;cases e;rfl
 | v::r,ns,e=>by
  simp only[cz,cg]at e;obtain⟨i,e1,e⟩:=aac.mp e;obtain⟨is,e2,e⟩:=aac.mp e;cases e;cases v<;>first|cases e1|skip
  rw[lU (show cz r=some is from e2)];rfl
theorem tK:∀{ds:List Val} {pO:List (List Int)},lA ds=some pO->ds=pO.map gx/\∀ks∈pO,ks≠[]
 |[],ns,e=>by simp only[lA,cg]at e;cases e;exact⟨rfl,λ_ z=>nomatch z⟩
 | v::r,ns,e=>by
  simp only[lA,cg]at e;obtain⟨i,e1,e⟩:=aac.mp e;obtain⟨is,e2,e⟩:=aac.mp e;cases e;cases v<;>first|cases e1|skip
  rename_i vs;dsimp only at e1;split at e1
  ·cases e1
  ·rename_i hne
   obtain⟨q1,q2⟩:=tK (show lA r=some is from e2);have e3:=fO e1;subst e3;refine⟨by rw[q1];rfl,λks hk=>?_⟩
   rcases aau.mp hk with z|z
   ·subst z;intro z;subst z;exact hne rfl
   ·exact q2 ks z
section
variable {X:Cx} {cl:Nat->Addr} {EX:Nat->List V->Hp->Prop}
abbrev bd(X:Cx)(cl:Nat->Addr):Bd:=⟨X.K,cl⟩
theorem I0:k9 X (binaryOp .Add) (λx y H Q=>∃a b xs ys,x=.ref a/\y=.ref b/\gD X.K H a xs/\gD X.K H b ys/\xs.length+ys.length<=sizeLine/\∀p,H p=none->Q (.ref p) (upd H p (.lst (xs++ys)))):=by
 intro pins s σ H x y v u Q I rx ry h;obtain⟨l,l',xs,ys,rfl,rfl,q1,q3,hl,q⟩:=h;cases rx;cases ry;obtain⟨its,r1,Zo,z1⟩:=I.list q1;obtain⟨its',r2,Zp,z2⟩:=I.list q3;have l1:=r1.length;have l2:=r2.length;obtain⟨⟨oc,od,UD,osl⟩,n1,e1,e2,_,e4⟩:=Zo;obtain⟨⟨oc',od',Zq,Wd⟩,n2,f1,f2,_,f4⟩:=Zp;cases e2;cases e4;cases f2;cases f4;refine concat_meets ⟨_,e1,rfl⟩ ⟨_,f1,rfl⟩ noFill_list_add seq_list_add PySem.F.slot_list_add PySem.F.entry_list_add (PySem.F.args_list_add_2 _ _) (list_addW l l' its.toArray its'.toArray n1 n2 od od' osl Wd (by simp only[size_toArray];omega)) ⟨e1,f1,?_⟩;have ea:its.toArray++its'.toArray=(its++its').toArray:=by simp
 rw[ea];have hn:H s.heap.objs.size=none:=I.hok.fresh (aal _);exact⟨.ref s.heap.objs.size,_,I.Vs (t':=s.toks) (its:=its++its') (r1.append r2) (by rw[aaE];omega),rfl,q _ hn⟩
def El:Lp->Operator
 |.add=>.Add|.sub=>.Sub|.mul=>.Mult|.fdiv=>.FloorDiv|.mod=>.Mod|.pow=>.Pow
def oZ:Lq->CmpOp
 |.eq=>.Eq|.ne=>.NotEq|.lt=>.Lt|.le=>.LtE|.gt=>.Gt|.ge=>.GtE|.isn=>.Is|.ntn=>.IsNot|.pN=>.In|.nin=>.NotIn
def rB(B:Bd)(EX:Nat->List V->Hp->Prop)(o:Lp):R2:=λx y H Q=>∃ρ h v w,HR B ρ h H/\VR B.K ρ H v x/\VR B.K ρ H w y/\Post B EX ρ H (WV B.K Q) (Qm o v w h)
theorem mU.log{j:Int}(h:mU j=true):0<j/\j.natAbs.log2<9000:=by
 have h:=aaz h;refine⟨h.1,(Nat.log2_lt (by omega)).mpr ?_⟩;have e:j.natAbs<2 ^ 200:=by
  have:(2:Nat) ^ 200=1606938044258990275541962092341162602522202993782792835301376:=by decide
  omega
 exact aao e (Nat.pow_le_pow_right (by decide) (by decide))
theorem Em:k9 X (binaryOp .FloorDiv) (rI (λ_ j=>mU j=true) λi j=>.int (i/j)):=UA λi j _ _ _ _ _ hc q=>by
 obtain⟨h1,h2⟩:=mU.log hc;exact PyProof.Rows.floordiv_int (by omega) (by rw[Int.fdiv_eq_ediv_of_nonneg i (by omega)];exact q) (.inl (PyProof.noPylong_of_log2 h2))
theorem qE(ho:o≠.add)(v w:Val)(h:Hs):(∃i j,v=.int i/\w=.int j)\/Qm o v w h=.no:=by
 cases v with
 |int i=>
  cases w with
  |int j=>exact .inl ⟨i,j,rfl,rfl⟩
  |_=>right;cases o<;>first|rfl|exact absurd rfl ho
 |_=>right;cases o<;>first|rfl|exact absurd rfl ho
theorem M9(o:Lp):k9 X (binaryOp (El o)) (rB (bd X cl) EX o):=by
 intro pins s σ H x y v' u' Q I rx ry hh;obtain⟨ρ,h,v,w,r,hv,hw,p⟩:=hh;have lists:Post (bd X cl) EX ρ H (WV X.K Q) (bnd (ask λh=>aF h v) (λa=>bnd (ask λh=>aF h w) λb=>aH (decide (a.length+b.length<=sizeLine)) (new (.lst (a++b)))) h)->wpAny (model X.prog X.w) X.A (binaryOp .Add v' u') (EP X pins σ Q) X.xe s:=by intro p;obtain⟨a,e1,p⟩:=aA p;obtain⟨b,e2,p⟩:=aA p;obtain⟨e3,p⟩:=aG p;have e3:=aaz e3;obtain⟨a1,RG,rfl,k1,k2⟩:=dG r hv e1;obtain⟨a2,We,rfl,k3,k4⟩:=dG r hw e2;exact I0 pins s σ H _ _ v' u' Q I rx ry ⟨a1,a2,RG,We,rfl,rfl,k1,k3,by rw[<-k2.length,<-k4.length];exact e3,λq hq=>eF r hq (av.append k2 k4) p⟩
 cases o with
 |add=>
  cases v<;>cases w<;>first
   |exact lists p
   |skip
  ·rename_i a b;rw[VR]at hv hw;subst hv;subst hw;exact Mv pins s σ H _ _ _ _ Q I rx ry ⟨a,b,rfl,rfl,aj r p _ VR.int⟩
  ·rename_i a b;rw[VR]at hv hw;subst hv;subst hw;obtain⟨e,p⟩:=aG p;exact yC pins s σ H _ _ _ _ Q I rx ry ⟨a,b,rfl,rfl,aaz e,aj r p _ VR.str⟩
  ·rename_i a b
   rw[VR]at hv hw;obtain⟨a1,RG,rfl,k1,k2⟩:=hv;obtain⟨a2,We,rfl,k3,k4⟩:=hw;obtain⟨e,p⟩:=aG p;simp only[and_eq_true,not_eq_true',decide_eq_true_eq]at e;refine Ic pins s σ H _ _ _ _ Q I rx ry ⟨a1,a2,RG,We,rfl,rfl,k1,k3,?_,by rw[<-k2.length,<-k4.length];exact e.2,λz=>?_,λ_ q hq=>mW r hq (av.append k2 k4) p⟩
   ·intro z;subst z
    have:=k2.length;cases a with
    |nil=>simp at e
    |cons _ _=>simp at this
   ·subst z
    have hb:b=[]:=by cases b with|nil=>rfl|cons _ _=>have:=k4.length;simp at this
    subst hb;rw[aaP]at p;exact aj r p _ (VR.tup k1 k2)
 |sub=>
  rcases qE (o:=.sub) (by intro z;cases z) v w h with ⟨i,j,rfl,rfl⟩|z
  case inr=>rw[z]at p;exact p.elim
  rw[VR]at hv hw;subst hv;subst hw;exact Mw pins s σ H _ _ _ _ Q I rx ry ⟨_,_,rfl,rfl,aj r p _ VR.int⟩
 |mul=>
  rcases qE (o:=.mul) (by intro z;cases z) v w h with ⟨i,j,rfl,rfl⟩|z
  case inr=>rw[z]at p;exact p.elim
  rw[VR]at hv hw;subst hv;subst hw;obtain⟨hm,p⟩:=aG p;refine Mx pins s σ H _ _ _ _ Q I rx ry ⟨_,_,rfl,rfl,?_,aj r p _ VR.int⟩;unfold fD at hm;simp only[or_eq_true,and_eq_true,decide_eq_true_eq]at hm;exact hm
 |fdiv=>
  rcases qE (o:=.fdiv) (by intro z;cases z) v w h with ⟨i,j,rfl,rfl⟩|z
  case inr=>rw[z]at p;exact p.elim
  rw[VR]at hv hw;subst hv;subst hw;obtain⟨hm,p⟩:=aG p;exact Em pins s σ H _ _ _ _ Q I rx ry ⟨_,_,rfl,rfl,hm,aj r p _ VR.int⟩
 |mod=>
  rcases qE (o:=.mod) (by intro z;cases z) v w h with ⟨i,j,rfl,rfl⟩|z
  case inr=>rw[z]at p;exact p.elim
  rw[VR]at hv hw;subst hv;subst hw;obtain⟨hm,p⟩:=aG p;exact My pins s σ H _ _ _ _ Q I rx ry ⟨_,_,rfl,rfl,aaz hm,aj r p _ VR.int⟩
 |pow=>
  rcases qE (o:=.pow) (by intro z;cases z) v w h with ⟨i,j,rfl,rfl⟩|z
  case inr=>rw[z]at p;exact p.elim
  rw[VR]at hv hw;subst hv;subst hw;obtain⟨hm,p⟩:=aG p;have hm:=aaz hm;exact Mz pins s σ H _ _ _ _ Q I rx ry ⟨_,_,rfl,rfl,hm,aj r p _ VR.int⟩
end
section
variable {X:Cx} {cl:Nat->Addr} {EX:Nat->List V->Hp->Prop}
theorem xg{b:Bool}(e:ze h v w=some b):∃d f,toD 16 h v=some d/\toD 16 h w=some f/\b=PyData.eqv d f:=by
 unfold ze at e;obtain⟨d,e1,e⟩:=aac.mp e;obtain⟨f,e2,e⟩:=aac.mp e;exact⟨d,f,e1,e2,(aaH e).symm⟩
theorem Aw{K:Frag}{ρ:List Addr}{H:Hp}{v:Val}{x:V}(q:VR K ρ H v x):decide (x=.non)=qC v:=by
 cases v<;>rw[VR]at q
 ·subst q;rfl
 ·subst q;rfl
 ·subst q;rfl
 ·subst q;rfl
 ·obtain⟨a,xs,rfl,_⟩:=q;rfl
 ·obtain⟨a,xs,rfl,_⟩:=q;rfl
 ·exact q.elim
 ·exact q.elim
 ·obtain⟨a,rfl,_⟩:=q;rfl
theorem Na(hu:X.A.units+64<cLine)(neg:Bool):k9 X (compareOp (if neg=true then .NotIn else .In)) (λx y H Q=>∃d f ds,Den X.K H d x/\Den X.K H f y/\d.canLay0=true/\f.canLay0=true/\d.depth<=16/\(f=.list ds\/f=.tuple ds)/\Q (.bl (if neg=true then !(ds.any λy=>PyData.eqv y d) else ds.any λy=>PyData.eqv y d)) H):=by
 intro pins s σ H x y v u Q I rx ry hh;obtain⟨d,f,ds,hd,hf,c1,c2,hz,e,q⟩:=hh;obtain⟨as,ra⟩:=Den.reads I d x v c1 hd rx;obtain⟨bs,rb⟩:=Den.reads I f y u c2 hf ry;have UJ:X.A.units+1+min (PyData.depthAll ds) d.depth<cLine:=by have:=Nat.min_le_right (PyData.depthAll ds) d.depth;omega
 rcases e with rfl|rfl
 ·have c3:PyData.canLayAll0 ds=true:=by simpa [PyData.canLay0] using c2
  cases neg with
  |true=>exact SeqAt.notIn_list_reads rb ra c3 c1 UJ ⟨.bl _,H,I,rfl,q⟩
  |false=>exact SeqAt.in_list_reads rb ra c3 c1 UJ ⟨.bl _,H,I,rfl,q⟩
 ·have c3:PyData.canLayAll0 ds=true:=by simpa [PyData.canLay0] using c2
  cases neg with
  |true=>exact SeqAt.notIn_tuple_reads rb ra c3 c1 UJ ⟨.bl _,H,I,rfl,q⟩
  |false=>exact SeqAt.in_tuple_reads rb ra c3 c1 UJ ⟨.bl _,H,I,rfl,q⟩
theorem jh.val{K:Frag}{ρ:List Addr}{H:Hp}(k:Key):∀{kvs:List (Key×Val)} {ks:List (Key×V)},jh K ρ H kvs ks->(gi kvs k=none->jl ks k=none)/\∀v,gi kvs k=some v->∃x,jl ks k=some x/\VR K ρ H v x
 | [],ks,e=>by
  have:ks=[]:=e;subst this;exact⟨λ_=>rfl,λv z=>by simp[gi]at z⟩
 | (k',v')::kvs,ks,⟨x,r,e,q1,q2⟩=>by
  subst e;obtain⟨a,b⟩:=jh.val k q2
  by_cases hk:k'=k
  ·subst hk;refine⟨λz=>by simp[gi]at z,λv z=>⟨x,by simp[jl],?_⟩⟩;simp[gi]at z;subst z;exact q1
  ·have e1:gi ((k',v')::kvs) k=gi kvs k:=by simp[gi,hk]
   have e2:jl ((k',x)::r) k=jl r k:=by simp[jl,hk]
   rw[e1,e2];exact⟨a,b⟩
theorem jh.length{K:Frag}{ρ:List Addr}{H:Hp}:∀{kvs:List (Key×Val)} {ks:List (Key×V)},jh K ρ H kvs ks->kvs.length=ks.length
 |[],ks,e=>by have:ks=[]:=e;subst this;rfl
 |(k',v')::kvs,ks,⟨x,r,e,q1,q2⟩=>by subst e;simp[jh.length q2]
theorem jh.any{K:Frag}{ρ:List Addr}{H:Hp}(k:Key):∀{kvs:List (Key×Val)} {ks:List (Key×V)},jh K ρ H kvs ks->(kvs.any λkv=>decide (kv.1=k))=(ks.any λkv=>decide (kv.1=k))
 |[],ks,e=>by have:ks=[]:=e;subst this;rfl
 |(k',v')::kvs,ks,⟨x,r,e,q1,q2⟩=>by subst e;simp only[any_cons];rw[jh.any k q2]
theorem jh.repl{K:Frag}{ρ:List Addr}{H:Hp}(k:Key){v:Val}{y:V}(q:VR K ρ H v y):∀{kvs:List (Key×Val)} {ks:List (Key×V)},jh K ρ H kvs ks->jh K ρ H (kvs.map λkv=>if kv.1=k then (kv.1,v) else kv) (ks.map λkv=>if kv.1=k then (kv.1,y) else kv)
 |[],ks,e=>by have:ks=[]:=e;subst this;rfl
 | (k',v')::kvs,ks,⟨x,r,e,q1,q2⟩=>by
  subst e;simp only[map_cons]
  by_cases hk:k'=k
  ·rw[aan hk,aan hk];exact⟨y,_,rfl,q,jh.repl k q q2⟩
  ·rw[aaj hk,aaj hk];exact⟨x,_,rfl,q1,jh.repl k q q2⟩
theorem jh.snoc{K:Frag}{ρ:List Addr}{H:Hp}(k:Key){v:Val}{y:V}(q:VR K ρ H v y):∀{kvs:List (Key×Val)} {ks:List (Key×V)},jh K ρ H kvs ks->jh K ρ H (kvs++[(k,v)]) (ks++[(k,y)])
 |[],ks,e=>by have:ks=[]:=e;subst this;exact⟨y,[],rfl,q,rfl⟩
 |(k',v')::kvs,ks,⟨x,r,e,q1,q2⟩=>by subst e;exact⟨x,_,rfl,q1,jh.snoc k q q2⟩
theorem jh.put{K:Frag}{ρ:List Addr}{H:Hp}(k:Key){v:Val}{y:V}(q:VR K ρ H v y){kvs:List (Key×Val)}{ks:List (Key×V)}(e:jh K ρ H kvs ks):jh K ρ H (fM kvs k v) (putK ks k y):=by
 unfold fM putK;rw[jh.any k e]
 split
 ·exact jh.repl k q e
 ·exact jh.snoc k q e
theorem Eo{K:Frag}{ρ:List Addr}{H:Hp}{v:Val}{x:V}{k:Key}(q:VR K ρ H v x)(e:keyOf v=some k):x=kV k:=by
 cases v<;>simp only[keyOf]at e<;>first|cases e|skip
 ·rw[VR]at q;exact q
 ·rw[VR]at q;exact q
theorem Ja(hu:X.A.units+64<cLine):Qj X (λx y H Q=>∃a v,x=.ref a/\qh H a y (some v)/\Q v H):=by
 intro value slice pins s σ H x y v u Q I rx ry h hs;obtain⟨a,z,rfl,g,q⟩:=h;cases rx;have hT:=v7 I g;unfold subscriptTail;refine aaa ?_;rw[getitemInPython_of_ne hT.not_modules];refine aaa (wpAny_specialOf hT PySem.F.slot_dict_getitem.lookup ?_);have fin:wpAny (model X.prog X.w) X.A (subscripted slice false (.ref a) u) (λr s₃=>wpAny (model X.prog X.w) X.A (letTemporaryGo value (.ref a) r >>= λ_=>pure r) (EP X pins σ Q) X.xe s₃) X.xe s:=by rw[hs];exact wpAny_operating (BP (by omega) I g ry λw' s' I' r'=>aaa (wpAny_letTemporaryGo (aag ⟨z,H,I',r',q⟩)))
 first
  |exact aag (aaa fin)
  |exact aaa (aag (aaa fin))
  |exact aaa fin
def rC(B:Bd)(o:Lq):R2:=λx y H Q=>∃ρ h v w b,HR B ρ h H/\VR B.K ρ H v x/\VR B.K ρ H w y/\cop h o v w=some b/\Q (.bl b) H
theorem mX{b:Bool}(e:memD h v w=some b):∃d f ds,toD 16 h v=some d/\toD 16 h w=some f/\(f=.list ds\/f=.tuple ds)/\b=ds.any λy=>PyData.eqv y d:=by
 unfold memD at e;obtain⟨f,e1,e⟩:=aac.mp e;obtain⟨d,e2,e⟩:=aac.mp e;cases f<;>simp only[M6]at e<;>first|cases e|skip
 ·exact⟨d,_,_,e2,e1,.inl rfl,rfl⟩
 ·exact⟨d,_,_,e2,e1,.inr rfl,rfl⟩
theorem Cq{b:Bool}(hw:∀ks vs,w≠.dc ks vs)(e:uT h v w=some b):(∃x y,v=.str x/\w=.str y/\b = !(Builtin.Str.occurrences y x 0 y.length 1).isEmpty)\/(∃i kvs k,w=.ref i/\h[i]?=some (.dct kvs)/\keyOf v=some k/\b=(gi kvs k).isSome) \/
  ∃d f ds,toD 16 h v=some d/\toD 16 h w=some f/\(f=.list ds\/f=.tuple ds)/\b=ds.any λy=>PyData.eqv y d:=by
 cases w with
 |ref i=>
  have e':(h[i]?).bind (IX h v i)=some b:=by cases v<;>exact e
  obtain⟨ob,e1,e2⟩:=aac.mp e';cases ob with
  |dct kvs=>obtain⟨k,e3,e4⟩:=aac.mp (show (keyOf v).bind _=some b from e2);exact .inr (.inl ⟨i,kvs,k,rfl,e1,e3,(aaH e4).symm⟩)
  |lst xs=>exact .inr (.inr (mX e2))
  |ins c fs=>exact .inr (.inr (mX e2))
 |dc ks vs=>exact absurd rfl (hw ks vs)
 |str y=>
  cases v with
  |str x=>exact .inl ⟨x,y,rfl,rfl,(aaH e).symm⟩
  |_=>exact .inr (.inr (mX e))
 |_=>exact .inr (.inr (mX (by cases v<;>exact e)))
theorem nY(hu:X.A.units+64<cLine)(o:Lq):k9 X (compareOp (oZ o)) (rC (bd X cl) o):=by
 intro pins s σ H x y v' u' Q I rx ry hh;obtain⟨ρ,h,v,w,b,r,hv,hw,e,q⟩:=hh;have mem:∀(neg:Bool),uT h v w=some (if neg=true then !b else b)->wpAny (model X.prog X.w) X.A (compareOp (if neg=true then .NotIn else .In) v' u') (EP X pins σ Q) X.xe s:=by
  intro neg e;have nd:∀ks vs,w≠.dc ks vs:=λks vs z=>by subst z;rw[VR]at hw;exact hw.elim
  rcases Cq nd e with ⟨a,c,rfl,rfl,eb⟩|⟨i,kvs,k,rfl,e1,e2,eb⟩|⟨d,f,ds,e1,e2,e3,eb⟩
  ·rw[VR]at hv;rw[VR]at hw;subst hv;subst hw
   cases neg with
   |true=>refine uu pins s σ H _ _ v' u' Q I rx ry ⟨a,c,rfl,rfl,?_⟩;rw[aan rfl]at eb;rw[<-eb,Bool.not_not];exact q
   |false=>refine BI pins s σ H _ _ v' u' Q I rx ry ⟨a,c,rfl,rfl,?_⟩;rw[aaj aab]at eb;rw[<-eb];exact q
  ·rw[VR]at hw
   obtain⟨a,rfl,k1⟩:=hw;obtain⟨ks,k2,k3⟩:=r.ob i _ a e1 k1;have ex:=Eo hv e2;subst ex;have es:(jl ks k).isSome=(gi kvs k).isSome:=by
    obtain⟨z1,z2⟩:=jh.val k k3;cases e4:gi kvs k with
    |none=>rw[z1 e4];rfl
    |some z=>obtain⟨x,z3,_⟩:=z2 z e4;rw[z3];rfl
   cases ry;cases neg with
   |true=>refine Ij (by omega) I (qh.k (k:=k) k2) rx λs' I'=>⟨.bl _,H,I',rfl,?_⟩;rw[aan rfl]at eb;rw[es,<-eb,Bool.not_not];exact q
   |false=>refine Vt (by omega) I (qh.k (k:=k) k2) rx λs' I'=>⟨.bl _,H,I',rfl,?_⟩;rw[aaj aab]at eb;rw[es,<-eb];exact q
  ·obtain⟨a1,a2,a3⟩:=nW r 16 v x d hv e1
   obtain⟨b1,b2,b3⟩:=nW r 16 w y f hw e2;refine Na hu neg pins s σ H x y v' u' Q I rx ry ⟨d,f,ds,a1,b1,a2,b2,a3,e3,?_⟩;cases neg with
   |true=>rw[aan rfl]at eb |-;rw[<-eb,Bool.not_not];exact q
   |false=>rw[aaj aab]at eb |-;rw[<-eb];exact q
 cases o with
 |eq=>obtain⟨d,f,e1,e2,rfl⟩:=xg (show ze h v w=some b by exact e);obtain⟨a1,a2,a3⟩:=nW r 16 v x d hv e1;obtain⟨b1,b2,b3⟩:=nW r 16 w y f hw e2;exact MU hu pins s σ H x y v' u' Q I rx ry ⟨d,f,a1,b1,a2,b2,by omega,q⟩
 |ne=>have e':(ze h v w).map (!·)=some b:=e;obtain⟨c,e3,rfl⟩:=aaD.mp e';obtain⟨d,f,e1,e2,rfl⟩:=xg e3;obtain⟨a1,a2,a3⟩:=nW r 16 v x d hv e1;obtain⟨b1,b2,b3⟩:=nW r 16 w y f hw e2;exact MV hu pins s σ H x y v' u' Q I rx ry ⟨d,f,a1,b1,a2,b2,by omega,q⟩
 |lt=>obtain⟨i,j,rfl,rfl⟩:=jV (.inl rfl) e;cases e;rw[VR]at hv;rw[VR]at hw;subst hv;subst hw;exact QZ pins s σ H _ _ v' u' Q I rx ry ⟨_,_,rfl,rfl,q⟩
 |le=>obtain⟨i,j,rfl,rfl⟩:=jV (.inr (.inl rfl)) e;cases e;rw[VR]at hv;rw[VR]at hw;subst hv;subst hw;exact Q0 pins s σ H _ _ v' u' Q I rx ry ⟨_,_,rfl,rfl,q⟩
 |gt=>obtain⟨i,j,rfl,rfl⟩:=jV (.inr (.inr (.inl rfl))) e;cases e;rw[VR]at hv;rw[VR]at hw;subst hv;subst hw;exact Q2 pins s σ H _ _ v' u' Q I rx ry ⟨_,_,rfl,rfl,q⟩
 |ge=>obtain⟨i,j,rfl,rfl⟩:=jV (.inr (.inr (.inr rfl))) e;cases e;rw[VR]at hv;rw[VR]at hw;subst hv;subst hw;exact Q3 pins s σ H _ _ v' u' Q I rx ry ⟨_,_,rfl,rfl,q⟩
 |isn=>
  have e:Lr v w=some b:=e;cases w<;>first|(cases e;done)|skip
  ·cases e;rw[VR]at hw;subst hw;refine MA pins s σ H x _ v' u' Q I rx ry ⟨rfl,?_⟩;rw[Aw hv];exact q
 |ntn=>
  have e:(Lr v w).map (!·)=some b:=e;cases w<;>first|(cases e;done)|skip
  ·cases e;rw[VR]at hw;subst hw;refine HU pins s σ H x _ v' u' Q I rx ry ⟨rfl,?_⟩;rw[Aw hv];exact q
 |pN=>exact mem false (by rw[aaj aab];exact e)
 |nin=>have e':(uT h v w).map (!·)=some b:=e;obtain⟨c,e3,rfl⟩:=aaD.mp e';exact mem true (by rw[e3];simp)
theorem Nb{b:Bool}(r:HR B ρ h H)(q:VR B.K ρ H v x)(e:fS h v=some b):MB B.K x H b:=by
 cases v<;>first|(cases e;done)|skip
 rw[VR]at q;subst q;exact(aaH e).symm
def Wf(B:Bd):R2:=λx y H Q=>∃ρ h v w z,HR B ρ h H/\VR B.K ρ H v x/\VR B.K ρ H w y/\jt h v w=some z/\∀u,VR B.K ρ H z u->Q u H
theorem Nc(hu:X.A.units+64<cLine):Qj X (Wf (bd X cl)):=by
 intro value slice pins s σ H x y v' u' Q I rx ry hh hs;obtain⟨ρ,h,v,w,z,r,hv,hw,e,q⟩:=hh;cases v with
 |str t=>
  cases w<;>first|cases e|skip
  rename_i i;change (if t.length<=sizeLine then (jC t.cps.toList i).map (λc=>Val.str ⟨[c].toArray⟩) else none)=some z at e;split at e
  ·rename_i hl;obtain⟨c,e1,rfl⟩:=aaD.mp e;rw[VR]at hv;rw[VR]at hw;subst hv;subst hw;exact MJ value slice pins s σ H _ _ v' u' Q I rx ry ⟨t,i,c,rfl,rfl,hl,e1,q _ VR.str⟩ hs
  ·cases e
 |tup vs=>
  cases w<;>first|cases e|skip
  rename_i i;rw[VR]at hv;rw[VR]at hw;subst hw;obtain⟨a,xs,rfl,q1,q2⟩:=hv;obtain⟨t,e2,q3⟩:=av.jC q2 e;exact MI value slice pins s σ H _ _ v' u' Q I rx ry ⟨a,xs,i,t,rfl,rfl,q1,e2,q _ q3⟩ hs
 |rl vs=>
  cases w<;>first|cases e|skip
  rename_i i;rw[VR]at hv;rw[VR]at hw;subst hw;obtain⟨a,xs,rfl,q1,q2⟩:=hv;obtain⟨t,e2,q3⟩:=av.jC q2 e;exact Aa value slice pins s σ H _ _ v' u' Q I rx ry ⟨a,xs,i,t,rfl,rfl,q1.sq,e2,q _ q3⟩ hs
 |ref j=>
  cases w with
  |int i=>
   change (match h[j]? with|some (.dct kvs)=>gi kvs (.inl i)|_=>(aF h (.ref j)).bind λxs=>jC xs i)=some z at e;split at e
   ·rename_i kvs e1;rw[VR]at hv;obtain⟨a,rfl,q1⟩:=hv;obtain⟨ks,k1,k2⟩:=r.ob j _ a e1 q1;obtain⟨t,e2,q3⟩:=(jh.val (.inl i) k2).2 z e;have g:qh H a (kV (.inl i)) (jl ks (.inl i)):=qh.k k1;rw[e2]at g;rw[VR]at hw;subst hw;exact Ja hu value slice pins s σ H _ _ v' u' Q I rx ry ⟨a,t,rfl,g,q _ q3⟩ hs
   ·obtain⟨vs,e1,e⟩:=aac.mp e;obtain⟨a,xs,rfl,q1,q2⟩:=dG r hv e1;rw[VR]at hw;subst hw;obtain⟨t,e2,q3⟩:=av.jC q2 e;exact Aa value slice pins s σ H _ _ v' u' Q I rx ry ⟨a,xs,i,t,rfl,rfl,q1,e2,q _ q3⟩ hs
  |_=>cases e
 |dc _ _=>rw[VR]at hv;exact hv.elim
 |_=>cases w<;>cases e
def Zr(B:Bd)(EX:Nat->List V->Hp->Prop):V->Option Int->Option Int->Hp->VK->Prop:=λx lo hi H Q=>∃ρ h v,HR B ρ h H/\VR B.K ρ H v x/\Post B EX ρ H (WV B.K Q) (rY v lo hi h)
theorem Nd:Q7 X (Zr (bd X cl) EX):=by
 intro pins s σ H x v' vl vu lo hi sl Q I rx hs pl pu hh;obtain⟨ρ,h,v,r,hv,p⟩:=hh;have lists:Post (bd X cl) EX ρ H (WV X.K Q) (bnd (ask λh=>aF h v) (λxs=>new (.lst (cV xs lo hi))) h)->∃T id,typeLookup (.type T) "__getitem__" = pure (some (.builtin id))/\s.TypeIs v' T/\wpAny (model X.prog X.w) X.A (getItem v' (.ref sl)) (EP X pins σ Q) X.xe s:=by intro p;obtain⟨a,e1,p⟩:=aA p;obtain⟨a1,RG,rfl,k1,k2⟩:=dG r hv e1;exact Ig pins s σ H _ v' vl vu lo hi sl Q I rx hs pl pu ⟨a1,RG,rfl,k1,λq hq=>eF r hq (av.cut lo hi k2) p⟩
 cases v with
 |str z=>rw[VR]at hv;subst hv;obtain⟨e,p⟩:=aG p;exact M5 pins s σ H _ v' vl vu lo hi sl Q I rx hs pl pu ⟨z,rfl,aaz e,aj r p _ VR.str⟩
 |tup vs=>simp only[rY]at p;rw[VR]at hv;obtain⟨a,xs,rfl,q1,q2⟩:=hv;obtain⟨e,p⟩:=aG p;refine MG pins s σ H _ v' vl vu lo hi sl Q I rx hs pl pu ⟨a,xs,rfl,q1,?_,λq hq=>mW r hq (av.cut lo hi q2) p⟩;rw[<-q2.length];simp only[not_eq_true',Bool.and_eq_false_iff,decide_eq_false_iff_not]at e;rintro⟨z1,z2⟩;exact e.elim (λk=>k z1) λk=>k z2
 |_=>exact lists p
end
end Hv
end
section
set_option backward.match.sparseCases false
namespace Hv
open PySem L2 PyProof.Rows
section
variable {X:Cx} {cl:Nat->Addr} {EX:Nat->List V->Hp->Prop}
def Hw(B:Bd)(EX:Nat->List V->Hp->Prop)(b:Bl):List V->Hp->VK->Prop:=λxs H Q=>∃ρ h vs,HR B ρ h H/\av B.K ρ H vs xs/\Post B EX ρ H (WV B.K Q) (blt b vs h)
theorem Nf:bV X (.builtin "len") (Hw (bd X cl) EX .len):=by
 intro pins s σ H xs us Q I rr hh;obtain⟨ρ,h,vs,r,hv,p⟩:=hh
 match vs,p with
 |[v],p=>
  obtain⟨n,e,p⟩:=aA p;obtain⟨x,rfl,hx⟩:=av.one hv;have fin:=aj r p _ VR.int;cases v with
  |str z=>
   simp only[kW]at e;split at e
   ·rename_i hl;cases e;rw[VR]at hx;subst hx;exact L2.mE pins s σ H _ us Q I rr ⟨_,z.length,rfl,⟨hl,rfl⟩,fin⟩
   ·cases e
  |tup vs=>simp only[kW]at e;cases e;rw[VR]at hx;obtain⟨a,ys,rfl,q1,q2⟩:=hx;refine L2.mE pins s σ H _ us Q I rr ⟨_,ys.length,rfl,.inr ⟨ys,q1,rfl⟩,?_⟩;rw[<-q2.length];exact fin
  |rl vs=>simp only[kW]at e;cases e;rw[VR]at hx;obtain⟨a,ys,rfl,q1,q2⟩:=hx;refine L2.mE pins s σ H _ us Q I rr ⟨_,ys.length,rfl,.inl ⟨ys,q1.sq,rfl⟩,?_⟩;rw[<-q2.length];exact fin
  |dc _ _=>rw[VR]at hx;exact hx.elim
  |ob _ _ _=>rw[VR]at hx;exact hx.elim
  |ref i=>
   rw[VR]at hx;obtain⟨a,rfl,q1⟩:=hx;simp only[kW]at e;split at e
   ·rename_i vs e1;cases e;obtain⟨ys,k1,k2⟩:=r.ob i _ a e1 q1;refine L2.mE pins s σ H _ us Q I rr ⟨_,ys.length,rfl,.inl ⟨ys,.inl (.inl k1),rfl⟩,?_⟩;rw[<-k2.length];exact fin
   ·rename_i vs e1;cases e;obtain⟨ks,k1,k2⟩:=r.ob i _ a e1 q1;refine BV pins s σ H _ us Q I rr ⟨a,ks,rfl,k1,?_⟩;rw[<-k2.length];exact fin
   ·cases e
  |_=>simp only[kW]at e;cases e
theorem Ng(hc:X.calm=true):bV X (.builtin "min") (Hw (bd X cl) EX .min):=by
 intro pins s σ H xs us Q I rr hh;obtain⟨ρ,h,vs,r,hv,p⟩:=hh;have seq:∀v,vs=[v]->Post (bd X cl) EX ρ H (WV X.K Q) (bnd (ask λh=>cQ h v) (λxs=>bu ((bw xs).bind uR)) h)->wpAny (model X.prog X.w) X.A (call (.builtin "min") us) (EP X pins σ Q) X.xe s:=by
  rintro v rfl p;obtain⟨zs,e,p⟩:=aA p;obtain⟨x,rfl,hx⟩:=av.one hv;obtain⟨a,ys,rfl,q1,q2⟩:=uV r hx e;obtain⟨m,e1,p⟩:=cA r p;obtain⟨ns,e2,e3⟩:=aac.mp e1;rw[fO e2]at q2;rw[av.ints.mp q2]at q1;have hne:0<ns.length:=by cases ns with|nil=>cases e3|cons _ _=>simp
  refine uH hc pins s σ H _ us Q I rr ⟨a,ns,rfl,q1,hne,λm hm hmin=>?_⟩;rw[Co hm hmin]at e3;cases e3;exact p _ VR.int
 match vs,p with
 |[.int a,.int b],p=>obtain⟨x,y,rfl,hx,hy⟩:=av.two hv;rw[VR]at hx;rw[VR]at hy;subst hx;subst hy;exact BK hc pins s σ H _ us Q I rr ⟨a,b,rfl,aj r p _ VR.int⟩
 |[v],p=>exact seq v rfl (by cases v<;>exact p)
theorem Nh(hc:X.calm=true):bV X (.builtin "max") (Hw (bd X cl) EX .max):=by
 intro pins s σ H xs us Q I rr hh;obtain⟨ρ,h,vs,r,hv,p⟩:=hh;have seq:∀v,vs=[v]->Post (bd X cl) EX ρ H (WV X.K Q) (bnd (ask λh=>cQ h v) (λxs=>bu ((bw xs).bind uS)) h)->wpAny (model X.prog X.w) X.A (call (.builtin "max") us) (EP X pins σ Q) X.xe s:=by
  rintro v rfl p;obtain⟨zs,e,p⟩:=aA p;obtain⟨x,rfl,hx⟩:=av.one hv;obtain⟨a,ys,rfl,q1,q2⟩:=uV r hx e;obtain⟨m,e1,p⟩:=cA r p;obtain⟨ns,e2,e3⟩:=aac.mp e1;rw[fO e2]at q2;rw[av.ints.mp q2]at q1;have hne:0<ns.length:=by cases ns with|nil=>cases e3|cons _ _=>simp
  refine uI hc pins s σ H _ us Q I rr ⟨a,ns,rfl,q1,hne,λm hm hmin=>?_⟩;rw[Cp hm hmin]at e3;cases e3;exact p _ VR.int
 match vs,p with
 |[.int a,.int b],p=>obtain⟨x,y,rfl,hx,hy⟩:=av.two hv;rw[VR]at hx;rw[VR]at hy;subst hx;subst hy;exact BJ hc pins s σ H _ us Q I rr ⟨a,b,rfl,aj r p _ VR.int⟩
 |[v],p=>exact seq v rfl (by cases v<;>exact p)
theorem Cr:bV X (.builtin "sorted") (Hw (bd X cl) EX .sorted):=by
 intro pins s σ H xs us Q I rr hh;obtain⟨ρ,h,vs,r,hv,p⟩:=hh
 match vs,p with
 |[v],p=>
  obtain⟨zs,e,p⟩:=aA p;obtain⟨out,e1,p⟩:=bG p;obtain⟨x,rfl,hx⟩:=av.one hv;obtain⟨a,ys,rfl,q1,q2⟩:=dG r hx e;unfold gJ at e1;split at e1
  ·rename_i h64
   cases e2:bw zs with
   |some ns=>rw[e2]at e1;cases e1;rw[fO e2]at q2 h64;rw[av.ints.mp q2]at q1;rw[aaf]at h64;exact nQ pins s σ H _ us Q I rr ⟨a,ns,rfl,q1,h64,λl hl=>eF r hl (av.ints.mpr rfl) p⟩
   |none=>rw[e2]at e1;obtain⟨pO,e3,e4⟩:=aac.mp e1;cases e4;obtain⟨g1,g2⟩:=tK e3;rw[g1]at q2 h64;obtain⟨rs,r1,r2,r3⟩:=av.tups q2;rw[r1]at q1;rw[aaf,r2,aaf]at h64;refine nR pins s σ H _ us Q I rr ⟨a,rs,rfl,q1,h64,λp hp=>⟨r3 p hp,g2 _ (by rw[r2];exact List.mem_map_of_mem hp)⟩,λl qs hl hp hs=>?_⟩;have e4:qs.map (·.2)=mR pO:=Ek (by rw[r2];exact hp.map _) (pairwise_map.mpr hs);rw[<-e4]at p;exact eF r hl (av.As λz hz=>r3 z (hp.mem_iff.mp hz)) p
  ·cases e1
theorem Jb:bV X (.type "list") (Hw (bd X cl) EX .list):=by
 intro pins s σ H xs us Q I rr hh;obtain⟨ρ,h,vs,r,hv,p⟩:=hh
 match vs,p with
 |[v],p=>obtain⟨zs,e,p⟩:=aA p;obtain⟨x,rfl,hx⟩:=av.one hv;obtain⟨a,ys,rfl,q1,q2⟩:=uV r hx e;exact uz pins s σ H _ us Q I rr ⟨a,ys,rfl,q1,λl hl=>eF r hl q2 p⟩
theorem Ep:bV X (.type "tuple") (Hw (bd X cl) EX .tuple):=by
 intro pins s σ H xs us Q I rr hh;obtain⟨ρ,h,vs,r,hv,p⟩:=hh
 match vs,p with
 |[v],p=>
  obtain⟨zs,e,p⟩:=aA p;obtain⟨x,rfl,hx⟩:=av.one hv;obtain⟨a,ys,rfl,q1,q2⟩:=uV r hx e
  rcases q1 with q1|q1
  ·exact lq pins s σ H _ us Q I rr ⟨a,ys,rfl,.inl ⟨q1,λl hl=>mW r hl q2 p⟩⟩
  ·exact lq pins s σ H _ us Q I rr ⟨a,ys,rfl,.inr ⟨q1,aj r p _ (VR.tup q1 q2)⟩⟩
theorem Ni:bV X (.type "str") (Hw (bd X cl) EX .str):=by
 intro pins s σ H xs us Q I rr hh;obtain⟨ρ,h,vs,r,hv,p⟩:=hh
 match vs,p with
 |[.int i],p=>obtain⟨e,p⟩:=aG p;obtain⟨x,rfl,hx⟩:=av.one hv;rw[VR]at hx;subst hx;exact uv pins s σ H _ us Q I rr ⟨i,rfl,aaz e,aj r p _ VR.str⟩
theorem Nj:bV X (.type "int") (Hw (bd X cl) EX .int):=by
 intro pins s σ H xs us Q I rr hh;obtain⟨ρ,h,vs,r,hv,p⟩:=hh
 match vs,p with
 |[.int i],p=>obtain⟨x,rfl,hx⟩:=av.one hv;rw[VR]at hx;subst hx;exact sf pins s σ H _ us Q I rr (.inl ⟨i,rfl,aj r p _ VR.int⟩)
 |[.bl i],p=>obtain⟨x,rfl,hx⟩:=av.one hv;rw[VR]at hx;subst hx;exact sf pins s σ H _ us Q I rr (.inr ⟨i,rfl,aj r p _ VR.int⟩)
 |[.str z],p=>obtain⟨x,rfl,hx⟩:=av.one hv;rw[VR]at hx;subst hx;obtain⟨n,e1,p⟩:=bG p;obtain⟨e2,p⟩:=aG p;exact B8 pins s σ H _ us Q I rr ⟨z,n,rfl,e1,aaz e2,aj r p _ VR.int⟩
theorem nZ(hc:X.calm=true):bV X (.builtin "all") (Hw (bd X cl) EX .all):=by
 intro pins s σ H xs us Q I rr hh;obtain⟨ρ,h,vs,r,hv,p⟩:=hh
 match vs,p with
 |[v],p=>obtain⟨zs,e,p⟩:=aA p;obtain⟨bs,e1,p⟩:=bG p;obtain⟨x,rfl,hx⟩:=av.one hv;obtain⟨a,ys,rfl,q1,q2⟩:=dG r hx e;rw[lU e1]at q2;rw[av.bools.mp q2]at q1;exact rS hc pins s σ H _ us Q I rr ⟨a,bs,rfl,q1,aj r p _ VR.bl⟩
theorem Nk(hc:X.calm=true):bV X (.builtin "any") (Hw (bd X cl) EX .any):=by
 intro pins s σ H xs us Q I rr hh;obtain⟨ρ,h,vs,r,hv,p⟩:=hh
 match vs,p with
 |[v],p=>obtain⟨zs,e,p⟩:=aA p;obtain⟨bs,e1,p⟩:=bG p;obtain⟨x,rfl,hx⟩:=av.one hv;obtain⟨a,ys,rfl,q1,q2⟩:=dG r hx e;rw[lU e1]at q2;rw[av.bools.mp q2]at q1;exact rT hc pins s σ H _ us Q I rr ⟨a,bs,rfl,q1,aj r p _ VR.bl⟩
def Zs(B:Bd)(EX:Nat->List V->Hp->Prop)(T:String):List V->Hp->VK->Prop:=λxs H Q=>∃ρ h v x,xs=[x,.ty T]/\HR B ρ h H/\VR B.K ρ H v x/\Post B EX ρ H (WV B.K Q) (blt (.isin T) [v] h)
theorem Jc(K:Frag)(t T:String)(ht:t∈["NoneType","bool","int","str","list","tuple","dict"])(hT:T∈["list","tuple","str","bool","int","dict"]) :
  kitOne K (.type t) (.type T)=some (decide (T=t\/(T = "int" /\ t = "bool"))):=by
 simp only[mem_cons,not_mem_nil,or_false]at ht hT
 rcases ht with rfl|rfl|rfl|rfl|rfl|rfl|rfl<;>rcases hT with rfl|rfl|rfl|rfl|rfl|rfl<;>rfl
theorem Jd{T:String}:bV X (.builtin "isinstance") (Zs (bd X cl) EX T):=by
 intro pins s σ H xs us Q I rr hh;obtain⟨ρ,h,v,x,rfl,r,hx,p⟩:=hh;obtain⟨u,w',rfl,r1,r2⟩:=vals2 rr;cases r2;obtain⟨t,e,p⟩:=aA p;obtain⟨b,e1,p⟩:=bG p;have q:=aj r p _ VR.bl;unfold wU at e1;split at e1
 ·rename_i Zt
  have hT:T∈["list","tuple","str","bool","int","dict"]:=by simpa using Zt
  cases e1;have fin:∀tk,EP X pins σ Q (.bool (decide (T=t\/(T = "int" /\ t = "bool")))) { s with toks:=tk }:=λtk=>⟨.bl _,H,I.tok _,rfl,q⟩;have tab:=λht=>Jc X.K t T ht hT;cases v with
  |non=>rw[VR]at hx;subst hx;cases r1;simp only[wR]at e;cases e;exact kia_one PySem.W.kitx_none I.jJ True.intro (tab (by simp)) (λz=>nomatch z) fin
  |bl c=>rw[VR]at hx;subst hx;cases r1;simp only[wR]at e;cases e;exact kia_one PySem.W.kitx_bool I.jJ True.intro (tab (by simp)) (λz=>nomatch z) fin
  |int i=>rw[VR]at hx;subst hx;obtain⟨t',rfl⟩:=r1;simp only[wR]at e;cases e;exact kia_one PySem.W.kitx_int I.jJ True.intro (tab (by simp)) (λz=>nomatch z) fin
  |str i=>rw[VR]at hx;subst hx;obtain⟨t',rfl⟩:=r1;simp only[wR]at e;cases e;exact kia_one PySem.W.kitx_str I.jJ True.intro (tab (by simp)) (λz=>nomatch z) fin
  |tup vs=>rw[VR]at hx;obtain⟨a,ys,rfl,q1,_⟩:=hx;cases r1;simp only[wR]at e;cases e;obtain⟨_,_,⟨o,e1,e2,_⟩,_⟩:=I.tuple q1;exact kia_one PySem.W.kitx_tuple I.jJ ⟨o,e1,e2⟩ (tab (by simp)) (λz=>nomatch z) fin
  |rl vs=>rw[VR]at hx;obtain⟨a,ys,rfl,q1,_⟩:=hx;cases r1;simp only[wR]at e;cases e;obtain⟨_,_,⟨o,n,e1,e2,_⟩,_⟩:=I.list q1.sq;exact kia_one kitx_list I.jJ ⟨o,e1,e2⟩ (tab (by simp)) (λz=>nomatch z) fin
  |dc _ _=>rw[VR]at hx;exact hx.elim
  |ob _ _ _=>rw[VR]at hx;exact hx.elim
  |ref i=>
   rw[VR]at hx;obtain⟨a,rfl,q1⟩:=hx;cases r1;simp only[wR]at e;split at e
   ·rename_i vs e1;cases e;obtain⟨ys,k1,k2⟩:=r.ob i _ a e1 q1;obtain⟨_,_,⟨o,n,e1,e2,_⟩,_⟩:=I.list (xs:=ys) (.inl (.inl k1));exact kia_one kitx_list I.jJ ⟨o,e1,e2⟩ (tab (by simp)) (λz=>nomatch z) fin
   ·rename_i vs e1;cases e;obtain⟨ks,k1,k2⟩:=r.ob i _ a e1 q1;obtain⟨_,_,vs,_,p⟩:=(show bF X.prog X.w H s.heap a (.dK ks) from I.hok a _ k1);obtain⟨o,es,ep,h1,h2,_⟩:=p;exact kia_one PySem.W.kitx_dict I.jJ ⟨o,h1,h2.1⟩ (tab (by simp)) (λz=>nomatch z) fin
   ·cases e
 ·cases e1
def Qn(B:Bd)(EX:Nat->List V->Hp->Prop)(m:Me):V->List V->Hp->VK->Prop:=λx xs H Q=>∃ρ h v vs,HR B ρ h H/\VR B.K ρ H v x/\av B.K ρ H vs xs/\Post B EX ρ H (WV B.K Q) (met m v vs h)
theorem Je:MH X "str.join" (Qn (bd X cl) EX .join):=by
 intro pins s σ H x xs v' us Q I rx rv hh;obtain⟨ρ,h,v,vs,r,hv,hvs,p⟩:=hh
 match v,vs,p with
 |.str z,[w],p=>obtain⟨zs,e,p⟩:=aA p;obtain⟨ys,e1,p⟩:=bG p;obtain⟨e2,p⟩:=aG p;rw[VR]at hv;subst hv;obtain⟨y,rfl,hy⟩:=av.one hvs;obtain⟨a,ws,rfl,q1,q2⟩:=dG r hy e;rw[tH e1]at q2;rw[av.strs.mp q2]at q1;exact ID pins s σ H _ _ v' us Q I rx rv ⟨z,a,ys,rfl,rfl,q1,aaz e2,aj r p _ VR.str⟩
theorem qF{i:Nat}(r:HR B ρ h H)(hi:ρ[i]?=some a)(e:h[i]?=some u)(eU:H a=some U)(hm:Mu U=true)(q:OR B ρ (upd H a O) a o)
  (p:Post B EX ρ H (WV B.K Q) (bnd (put i o) (λ_=>ret Val.non) h)):Q .non (upd H a O) :=
 p ρ (upd H a O) (Gr.put (aaA hi) eU hm) (r.put hi e q) _ VR.non
theorem Cs:MH X "list.append" (Qn (bd X cl) EX .append):=by
 intro pins s σ H x xs v' us Q I rx rv hh;obtain⟨ρ,h,v,vs,r,hv,hvs,p⟩:=hh
 match v,vs,p with
 |.ref i,[w],p=>
  obtain⟨zs,e,p⟩:=aA p;split at e
  ·rename_i zs' e1;cases e;obtain⟨e2,p⟩:=aG p;obtain⟨a,ys,rfl,q0,q1,q2⟩:=pP r hv e1;obtain⟨y,rfl,hy⟩:=av.one hvs;refine sG pins s σ H _ _ v' us Q I rx rv ⟨a,ys,y,rfl,rfl,q1,by rw[<-q2.length];exact aaz e2,?_⟩;have g:Gr ρ H ρ (upd H a (.lst (ys++[y]))):=Gr.put (aaA q0) q1 rfl;exact qF (o:=.lst (zs++[w])) r q0 e1 q1 rfl ⟨_,aD,av.append (av.up g _ _ q2) (av.up g _ _ (av.cons hy av.nil))⟩ p
  ·cases e
theorem Ct:MH X "list.extend" (Qn (bd X cl) EX .extend):=by
 intro pins s σ H x xs v' us Q I rx rv hh;obtain⟨ρ,h,v,vs,r,hv,hvs,p⟩:=hh
 match v,vs,p with
 |.ref i,[w],p=>
  obtain⟨zs,e,p⟩:=aA p;split at e
  ·rename_i zs' e1;cases e
   obtain⟨ws,e3,p⟩:=aA p;obtain⟨e2,p⟩:=aG p;have e2:=aaz e2;obtain⟨a,ys,rfl,q0,q1,q2⟩:=pP r hv e1;obtain⟨y,rfl,hy⟩:=av.one hvs;have fin:∀(bs:List V),av X.K ρ H ws bs->Q .non (upd H a (.lst (ys++bs))):=λbs hb=>by
    have g:Gr ρ H ρ (upd H a (.lst (ys++bs))):=Gr.put (aaA q0) q1 rfl;exact qF (o:=.lst (zs++ws)) r q0 e1 q1 rfl ⟨_,aD,av.append (av.up g _ _ q2) (av.up g _ _ hb)⟩ p
   cases w with
   |tup ts=>simp only[Ao]at e3;cases e3;rw[VR]at hy;obtain⟨b,bs,rfl,k1,k2⟩:=hy;exact yR pins s σ H _ _ v' us Q I rx rv ⟨a,b,ys,bs,rfl,rfl,q1,k1,by rw[<-q2.length,<-k2.length];exact e2,fin bs k2⟩
   |_=>simp only[Ao]at e3;cases e3
  ·cases e
theorem av.era{K:Frag}{ρ:List Addr}{H:Hp}:∀{vs:List Val} {xs:List V} (n:Nat),av K ρ H vs xs->av K ρ H (vs.eraseIdx n) (xs.eraseIdx n)
 |[],_,n,e=>by rw[av]at e;subst e;exact av.nil
 | _::_,_,n,e=>by
  rw[av]at e;obtain⟨x,r,rfl,e1,e2⟩:=e;cases n with
  |zero=>exact e2
  |succ n=>exact av.cons e1 (av.era n e2)
theorem Cu:MH X "list.remove" (Qn (bd X cl) EX .remove):=by
 intro pins s σ H x xs v' us Q I rx rv hh;obtain⟨ρ,h,v,vs,r,hv,hvs,p⟩:=hh
 match v,vs,p with
 |.ref i,[.int k],p=>
  obtain⟨zs,e,p⟩:=aA p;split at e
  ·rename_i zs' e1;cases e;obtain⟨ks,e3,p⟩:=bG p;obtain⟨e2,p⟩:=aG p;have e3:=fO e3;subst e3;obtain⟨a,ys,rfl,q0,q1,q2⟩:=pP r hv e1;have hys:=av.ints.mp q2;subst hys;obtain⟨y,rfl,hy⟩:=av.one hvs;rw[VR]at hy;subst hy;refine B7 pins s σ H _ _ v' us Q I rx rv ⟨a,ks,k,rfl,rfl,q1,aaz e2,?_⟩;have g:Gr ρ H ρ (upd H a (.lst ((ks.map V.int).eraseIdx (ks.idxOf k)))):=Gr.put (aaA q0) q1 rfl;exact qF (o:=.lst ((ks.map Val.int).eraseIdx (ks.idxOf k))) r q0 e1 q1 rfl ⟨_,aD,av.era _ (av.up g _ _ q2)⟩ p
  ·cases e
theorem Nl:MH X "str.split" (Qn (bd X cl) EX .pop):=by
 intro pins s σ H x xs v' us Q I rx rv hh;obtain⟨ρ,h,v,vs,r,hv,hvs,p⟩:=hh
 match v,vs,p with
 |.str z,[.str y],p=>obtain⟨e2,p⟩:=aG p;rw[VR]at hv;subst hv;obtain⟨w,rfl,hy⟩:=av.one hvs;rw[VR]at hy;subst hy;exact D0 pins s σ H _ _ v' us Q I rx rv ⟨z,y,rfl,rfl,e2,λl hl=>eF r hl (av.strs.mpr rfl) p⟩
end
def tL(f:Str->Pos->Bool):Expr->Bool
 |.Name a b=>f a b
 |_=>false
theorem pQ{f:Str->Pos->Bool}{P:Expr->Prop}{e:Expr}(h:tL f e=true)(H:∀a b,f a b=true->P (.Name a b)):P e:=by
 cases e<;>first|exact H _ _ h|exact(aab h).elim
def zf(f:Const->Nat->Pos->Bool):Expr->Bool
 |.Constant a b c=>f a b c
 |_=>false
theorem xh{f:Const->Nat->Pos->Bool}{P:Expr->Prop}{e:Expr}(h:zf f e=true)(H:∀a b c,f a b c=true->P (.Constant a b c)):P e:=by
 cases e<;>first|exact H _ _ _ h|exact(aab h).elim
def RH(f:Expr->Operator->Expr->Pos->Bool):Expr->Bool
 |.BinOp a b c d=>f a b c d
 |_=>false
theorem Nm{f:Expr->Operator->Expr->Pos->Bool}{P:Expr->Prop}{e:Expr}(h:RH f e=true)(H:∀a b c d,f a b c d=true->P (.BinOp a b c d)):P e:=by
 cases e<;>first|exact H _ _ _ _ h|exact(aab h).elim
def Wg(f:UnaryOp->Expr->Pos->Bool):Expr->Bool
 |.UnaryOp a b c=>f a b c
 |_=>false
theorem Lw{f:UnaryOp->Expr->Pos->Bool}{P:Expr->Prop}{e:Expr}(h:Wg f e=true)(H:∀a b c,f a b c=true->P (.UnaryOp a b c)):P e:=by
 cases e<;>first|exact H _ _ _ h|exact(aab h).elim
def Np(f:Expr->List CmpOp->List Expr->Pos->Bool):Expr->Bool
 |.Compare a b c d=>f a b c d
 |_=>false
theorem Er{f:Expr->List CmpOp->List Expr->Pos->Bool}{P:Expr->Prop}{e:Expr}(h:Np f e=true)(H:∀a b c d,f a b c d=true->P (.Compare a b c d)):P e:=by
 cases e<;>first|exact H _ _ _ _ h|exact(aab h).elim
def uW(f:BoolOp->List Expr->Pos->Bool):Expr->Bool
 |.BoolOp a b c=>f a b c
 |_=>false
theorem tN{f:BoolOp->List Expr->Pos->Bool}{P:Expr->Prop}{e:Expr}(h:uW f e=true)(H:∀a b c,f a b c=true->P (.BoolOp a b c)):P e:=by
 cases e<;>first|exact H _ _ _ h|exact(aab h).elim
def RI(f:List Expr->Nat->Pos->Bool):Expr->Bool
 |.Tuple a b c=>f a b c
 |_=>false
theorem Nq{f:List Expr->Nat->Pos->Bool}{P:Expr->Prop}{e:Expr}(h:RI f e=true)(H:∀a b c,f a b c=true->P (.Tuple a b c)):P e:=by
 cases e<;>first|exact H _ _ _ h|exact(aab h).elim
def RJ(f:List Expr->Pos->Bool):Expr->Bool
 |.List a b=>f a b
 |_=>false
theorem Nr{f:List Expr->Pos->Bool}{P:Expr->Prop}{e:Expr}(h:RJ f e=true)(H:∀a b,f a b=true->P (.List a b)):P e:=by
 cases e<;>first|exact H _ _ h|exact(aab h).elim
def Jf(f:Expr->Expr->Pos->Bool):Expr->Bool
 |.Subscript a b c=>f a b c
 |_=>false
theorem zg{f:Expr->Expr->Pos->Bool}{P:Expr->Prop}{e:Expr}(h:Jf f e=true)(H:∀a b c,f a b c=true->P (.Subscript a b c)):P e:=by
 cases e<;>first|exact H _ _ _ h|exact(aab h).elim
def RK(f:Option Expr->Option Expr->Option Expr->Pos->Bool):Expr->Bool
 |.Slice a b c d=>f a b c d
 |_=>false
theorem Nt{f:Option Expr->Option Expr->Option Expr->Pos->Bool}{P:Expr->Prop}{e:Expr}(h:RK f e=true)(H:∀a b c d,f a b c d=true->P (.Slice a b c d)):P e:=by
 cases e<;>first|exact H _ _ _ _ h|exact(aab h).elim
def Es(f:Expr->List Expr->List Keyword->Pos->Bool):Expr->Bool
 |.Call a b c d=>f a b c d
 |_=>false
theorem Ax{f:Expr->List Expr->List Keyword->Pos->Bool}{P:Expr->Prop}{e:Expr}(h:Es f e=true)(H:∀a b c d,f a b c d=true->P (.Call a b c d)):P e:=by
 cases e<;>first|exact H _ _ _ _ h|exact(aab h).elim
def Lx(f:Expr->Str->Pos->Bool):Expr->Bool
 |.Attribute a b c=>f a b c
 |_=>false
theorem Jg{f:Expr->Str->Pos->Bool}{P:Expr->Prop}{e:Expr}(h:Lx f e=true)(H:∀a b c,f a b c=true->P (.Attribute a b c)):P e:=by
 cases e<;>first|exact H _ _ _ h|exact(aab h).elim
def Et(f:Expr->List Comprehension->Scope->Pos->Bool):Expr->Bool
 |.ListComp a b c d=>f a b c d
 |_=>false
theorem Jh{f:Expr->List Comprehension->Scope->Pos->Bool}{P:Expr->Prop}{e:Expr}(h:Et f e=true)(H:∀a b c d,f a b c d=true->P (.ListComp a b c d)):P e:=by
 cases e<;>first|exact H _ _ _ _ h|exact(aab h).elim
def Eu(f:List (Option Expr)->List Expr->Pos->Bool):Expr->Bool
 |.Dict a b c=>f a b c
 |_=>false
theorem Ay{f:List (Option Expr)->List Expr->Pos->Bool}{P:Expr->Prop}{e:Expr}(h:Eu f e=true)(H:∀a b c,f a b c=true->P (.Dict a b c)):P e:=by
 cases e<;>first|exact H _ _ _ h|exact(aab h).elim
section
variable {α:Type} {f:α -> Bool} {g:α -> List α -> Bool} {P:List α -> Prop} {Q:Option α -> Prop} {l:List α} {b:Bool} {o:Option α}
def qG(l:List α)(b:Bool):Bool:=l.isEmpty&&b
theorem lW(h:qG l b=true)(H:b=true->P []):P l:=by
 cases l with
 |nil=>exact H h
 |cons _ _=>cases h
def kC(f:α -> List α -> Bool):List α -> Bool
 |a::r=>f a r
 |[]=>false
theorem zh(h:kC g l=true)(H:∀a r,g a r=true->P (a::r)):P l:=by
 cases l with
 |nil=>cases h
 |cons a r=>exact H a r h
def k1(f:α -> Bool):List α -> Bool:=kC λa r=>qG r (f a)
theorem n6(h:k1 f l=true)(H:∀a,f a=true->P [a]):P l:=by
 apply zh h;intro a r h;apply lW h;intro h;exact H a h
def k2(f:α -> α -> Bool):List α -> Bool:=kC λa r=>k1 (f a) r
theorem Ji{f:α -> α -> Bool}(h:k2 f l=true)(H:∀a b,f a b=true->P [a,b]):P l:=by
 apply zh h;intro a r h;apply n6 h;intro b h;exact H a b h
def Ew(l:Option α)(b:Bool):Bool:=l.isNone&&b
theorem Az(h:Ew o b=true)(H:b=true->Q none):Q o:=by
 cases o with
 |none=>exact H h
 |some _=>cases h
def AA(f:α -> Bool)(l:Option α):Bool:=l.any f
theorem uX(h:AA f o=true)(H:∀a,f a=true->Q (some a)):Q o:=by
 cases o with
 |none=>cases h
 |some a=>exact H a h
def Nu[DecidableEq α](a b:α)(c:Bool):Bool:=decide (a=b)&&c
theorem xj[DecidableEq α]{P:α -> Prop}{a d:α}(h:Nu a d b=true)(H:b=true->P d):P a:=by
 rw[Nu,and_eq_true,decide_eq_true_eq]at h;rw[h.1];exact H h.2
end
def Jj(f:Str->Pos->List Expr->Pos->Bool):Expr->Bool:=Es λg l k p=>tL (λx q=>qG k (f x q l p)) g
theorem qH{f:Str->Pos->List Expr->Pos->Bool}{P:Expr->Prop}{e:Expr}(h:Jj f e=true)(H:∀x q l p,f x q l p=true->P (.Call (.Name x q) l [] p)):P e:=by
 apply Ax h;intro g l k p h;apply pQ h;intro x q h;apply lW h;intro h;exact H x q l p h
def Qo(f:Expr->Str->Pos->List Expr->Pos->Bool):Expr->Bool:=Es λg l k p=>Lx (λo x q=>qG k (f o x q l p)) g
theorem Ey{f:Expr->Str->Pos->List Expr->Pos->Bool}{P:Expr->Prop}{e:Expr}(h:Qo f e=true)(H:∀o x q l p,f o x q l p=true->P (.Call (.Attribute o x q) l [] p)):P e:=by
 apply Ax h;intro g l k p h;apply Jg h;intro o x q h;apply lW h;intro h;exact H o x q l p h
def RL(f:Expr->Expr->List Expr->Int->Bool)(c:Comprehension):Bool:=f c.target c.iter c.ifs c.is_async
theorem Nv{f:Expr->Expr->List Expr->Int->Bool}{P:Comprehension->Prop}{c:Comprehension}(h:RL f c=true)(H:∀a b d i,f a b d i=true->P ⟨a,b,d,i⟩):P c:=by
 cases c;exact H _ _ _ _ h
def RM(f:Str->Bool):Const->Bool
 |.str s=>f s
 |_=>false
theorem Nx{f:Str->Bool}{P:Const->Prop}{e:Const}(h:RM f e=true)(H:∀s,f s=true->P (.str s)):P e:=by
 cases e<;>first|exact H _ h|exact(aab h).elim
theorem Xx{a b:Bool}(h:(a||b)=true):a=true\/b=true:=by
 cases a with
 |true=>exact .inl rfl
 |false=>exact .inr h
def Ez(f:Expr->Pos->Bool):Stmt->Bool
 |.Expr a b=>f a b
 |_=>false
theorem AB{f:Expr->Pos->Bool}{P:Stmt->Prop}{e:Stmt}(h:Ez f e=true)(H:∀a b,f a b=true->P (.Expr a b)):P e:=by
 cases e<;>first|exact H _ _ h|exact(aab h).elim
def Jk(f:List Expr->Expr->Pos->Bool):Stmt->Bool
 |.Assign a b c=>f a b c
 |_=>false
theorem zj{f:List Expr->Expr->Pos->Bool}{P:Stmt->Prop}{e:Stmt}(h:Jk f e=true)(H:∀a b c,f a b c=true->P (.Assign a b c)):P e:=by
 cases e<;>first|exact H _ _ _ h|exact(aab h).elim
def Xy(f:Expr->List Stmt->List Stmt->Pos->Bool):Stmt->Bool
 |.If a b c d=>f a b c d
 |_=>false
theorem RO{f:Expr->List Stmt->List Stmt->Pos->Bool}{P:Stmt->Prop}{e:Stmt}(h:Xy f e=true)(H:∀a b c d,f a b c d=true->P (.If a b c d)):P e:=by
 cases e<;>first|exact H _ _ _ _ h|exact(aab h).elim
def RP(f:Expr->Expr->List Stmt->List Stmt->Pos->Bool):Stmt->Bool
 |.For a b c d i=>f a b c d i
 |_=>false
theorem Ny{f:Expr->Expr->List Stmt->List Stmt->Pos->Bool}{P:Stmt->Prop}{e:Stmt}(h:RP f e=true)(H:∀a b c d i,f a b c d i=true->P (.For a b c d i)):P e:=by
 cases e<;>first|exact H _ _ _ _ _ h|exact(aab h).elim
def Nz(f:Expr->List Stmt->List Stmt->Pos->Bool):Stmt->Bool
 |.While a b c d=>f a b c d
 |_=>false
def NB(f:Option Expr->Pos->Bool):Stmt->Bool
 |.Return a b=>f a b
 |_=>false
theorem EA{f:Option Expr->Pos->Bool}{P:Stmt->Prop}{e:Stmt}(h:NB f e=true)(H:∀a b,f a b=true->P (.Return a b)):P e:=by
 cases e<;>first|exact H _ _ h|exact(aab h).elim
def Jl(f:Str->List Expr->Bool):Stmt->Bool
 |.Raise (some (.Call (.Name x _) es [] _)) none _=>f x es
 |_=>false
theorem NC{f:Str->List Expr->Bool}{P:Stmt->Prop}{e:Stmt}(h:Jl f e=true)(H:∀x p es cp pos,f x es=true->P (.Raise (some (.Call (.Name x p) es [] cp)) none pos)):P e:=by
 unfold Jl at h;split at h
 ·exact H _ _ _ _ _ h
 ·cases h
def Wh(f:Nat->jU->Bool):IE->Bool
 |.call j es=>f j es
 |_=>false
def RQ(f:Pos->Bool):Stmt->Bool
 |.Break a=>f a
 |_=>false
theorem ND{f:Pos->Bool}{P:Stmt->Prop}{e:Stmt}(h:RQ f e=true)(H:∀a,f a=true->P (.Break a)):P e:=by
 cases e<;>first|exact H _ h|exact(aab h).elim
def RS(f:Pos->Bool):Stmt->Bool
 |.Continue a=>f a
 |_=>false
theorem NF{f:Pos->Bool}{P:Stmt->Prop}{e:Stmt}(h:RS f e=true)(H:∀a,f a=true->P (.Continue a)):P e:=by
 cases e<;>first|exact H _ h|exact(aab h).elim
def Ly(f:Pos->Bool):Stmt->Bool
 |.Pass a=>f a
 |_=>false
theorem Jm{f:Pos->Bool}{P:Stmt->Prop}{e:Stmt}(h:Ly f e=true)(H:∀a,f a=true->P (.Pass a)):P e:=by
 cases e<;>first|exact H _ h|exact(aab h).elim
end Hv
end
section
namespace Hv
open PySem L2 PyProof.Rows
structure Tb where
 nc:Nat
 RT:List Str
 Hx:List (Nat×Str×Nat)
 Hy:List (Str×Str×Nat)
 isc:List (Str×List Bool)
structure rO where
 N:List Str
 sc:Scope
 fns:List (Str×Nat)
 cons:List (Str×Val)
 tb:Tb
def NG(sc:Scope)(x:Str):Bool:=(sc.names.lookup x==some .local||sc.names.lookup x==some .cell||sc.names.lookup x==some .free) && !(x==("__debug__":Str)) && !(x==("__classdict__":Str))
def xm(sc:Scope)(x:Str):Bool:=sc.names.lookup x==some .globalImplicit && !(x==("__debug__":Str)) && !(x==("__name__":Str))
def EB:Const->Val->Bool
 |.none,.non=>true
 |.bool a,.bl b=>a==b
 |.int a,.int b=>a==b
 |.str a,.str b=>a==b
 |_,_=>false
def RU(o:Lp)(op:Operator):Bool:=decide (op=El o)
def Jo(o:Lq)(op:CmpOp):Bool:=decide (op=oZ o)
def RW:Bl->Str
 |.len=>"len" | .min=>"min" | .max=>"max" | .sorted=>"sorted" | .list=>"list" | .tuple=>"tuple" | .str=>"str" | .int=>"int" | .all=>"all" | .any=>"any" | .isin _=>"isinstance"
def noStar:Expr->Bool
 |.Starred ..=>false
 |_=>true
def pR:Expr->Bool
 |.Slice ..=>false
 |_=>true
def Jp:Expr->Bool
 |.Name ..=>true|.Call ..=>true|.Subscript ..=>true|.List ..=>true|.Tuple ..=>true|.ListComp ..=>true|.Attribute ..=>true|.BinOp ..=>true
 |_=>false
def superB:Expr->Bool
 |.Call (.Name _ _) [] [] _=>false
 |_=>true
def EC(scope xsc:Scope):Scope :=
 { scope with names:=scope.names.map λ(n,k)=>if (k==.free&&xsc.kind==.function&&xsc.names.lookup n==some .cell) then (n,.cell) else (n,k) }
def rO.NH(Γ:rO)(scope:Scope)(N':List Str):rO:={ Γ with N:=N',sc:=EC scope Γ.sc }
def Cv(Γ:rO):wQ->Expr->Bool
 |.one i,.Name x _=>Γ.N[i]?==some x && Γ.sc.names.lookup x==some .local
 | .tup is,.Tuple es _ _=>es.length==is.length&&(is.zip es).all λp=>match p.2 with
  |.Name x _=>Γ.N[p.1]?==some x && Γ.sc.names.lookup x==some .local
  |_=>false
 |_,_=>false
def xq:wQ->List Nat
 |.one i=>[i]
 |.tup is=>is
def Zu:Me->Str
 |.join=>"join" | .append=>"append" | .extend=>"extend" | .remove=>"remove" | .pop=>"split"
def zk:Val->Val->Bool
 |.non,.non=>true
 |.bl a,.bl b=>a==b
 |.int a,.int b=>a==b
 |.str a,.str b=>a==b
 |_,_=>false
def NI:jU->Bool
 |.nil=>true
 |.cons ..=>false
theorem ED{b:Bool}(h:(NI es&&b)=true):es=.nil/\b=true:=by
 cases es with
 |nil=>exact⟨rfl,h⟩
 |cons _ _=>cases h
def NJ(e:Expr):Bool:=match e with
 |.Constant .none _ _=>true
 |_=>false
theorem NK(h:NJ e=true):∃j p,e=.Constant .none j p:=by
 unfold NJ at h;split at h
 ·exact⟨_,_,rfl⟩
 ·cases h
def NL(e:Expr):Bool:=match e with
 |.Constant (.str x) _ _=>x==IY
 |_=>false
theorem NN(h:NL e=true):∃j p,e=.Constant (.str IY) j p:=by
 unfold NL at h;split at h
 ·exact⟨_,_,by rw[eq_of_beq h]⟩
 ·cases h
def AD(e:Expr):Bool:=match e with
 |.Constant (.bool true) _ _=>true
 |_=>false
theorem AE(h:AD e=true):∃j p,e=.Constant (.bool true) j p:=by
 unfold AD at h;split at h
 ·exact⟨_,_,rfl⟩
 ·cases h
mutual
noncomputable def bH(Γ:rO):IE->Expr->Bool
 |.var i,e=>tL (λx _=>Γ.N[i]?==some x&&NG Γ.sc x) e
 |.cst d,e=>zf (λc _ _=>EB c d) e
 |.con x d,e=>tL (λy _=>x==y&&xm Γ.sc x && Γ.cons.any λp=>p.1==x&&zk p.2 d) e
 |.no,_=>false
 |.bin o a b,e=>RH (λl op r _=>RU o op&&bH Γ a l&&bH Γ b r) e
 |.neg a,e=>Wg (λq1 l _=>Nu q1 .USub (bH Γ a l)) e
 |.cmp o a b,e=>Np (λl q1 q2 _=>k1 (λop=>k1 (λr=>Jo o op && !behindInMarks op r&&bH Γ a l&&bH Γ b r) q2) q1) e
 |.chn o p a b c,e=>Np (λl q1 q2 _=>k2 (λop op'=>k2 (λm r=>Jo o op&&Jo p op' && !behindInMarks op m && !behindInMarks op' r&&bH Γ a l&&bH Γ b m&&bH Γ c r) q2) q1) e
 |.and a b,e=>uW (λq1 q2 pos=>Nu q1 .And (kC (λl q3=>kC (λm r=>bH Γ a l&&(match r with|[]=>bH Γ b m|n::r'=>bH Γ b (.BoolOp .And (m::n::r') pos))) q3) q2)) e
 |.or a b,e=>uW (λq1 q2 pos=>Nu q1 .Or (kC (λl q3=>kC (λm r=>bH Γ a l&&(match r with|[]=>bH Γ b m|n::r'=>bH Γ b (.BoolOp .Or (m::n::r') pos))) q3) q2)) e
 |.not a,e=>Wg (λq1 l _=>Nu q1 .Not (bH Γ a l)) e
 |.ite _ _ _,_=>false
 |.tup es,e=>RI (λls _ _=>aV Γ es ls) e
 |.lst es,e=>RJ (λls _=>aV Γ es ls) e
 |.idx a b,e=>Jf (λl r _=>pR r&&bH Γ a l&&bH Γ b r) e
 |.slc a lo hi,e=>Jf (λl q1 _=>RK (λl' h' q2 _=>Ew q2 (bH Γ a l&&(match l' with|none=>cJ lo|some e=>!cJ lo&&bH Γ lo e)&&(match h' with|none=>cJ hi|some e=>!cJ hi&&bH Γ hi e))) q1) e
 |.call j es,e=>Jj (λx _ args _=>xm Γ.sc x && Γ.fns[j]?==some (x,args.length)&&decide (args.length<1000)&&aV Γ es args) e
 | .blt b es,e=>Jj (λx _ args _=>xm Γ.sc x&&x==RW b&&(match b with
   |.isin T=>(match args with|[a,.Name y _]=>xm Γ.sc y&&y==(T:Str)&&["list","tuple","str","bool","int","dict"].contains T&&aV Γ es [a]|_=>false)
   |_=>!args.isEmpty&&aV Γ es args)) e
 |.met m a es,e=>Qo (λo x ap args cp=>x==Zu m&&superB o && !args.isEmpty&&decide (args.length<29)&&ap.endLine==cp.line&&bH Γ a o&&aV Γ es args) e
 | .comp N' js pat k it c elt,e=>Et (λe q1 scope _=>k1 (λq2=>RL (λtg iter ifs q3=>Nu q3 0 (ic Γ.N Γ.sc scope N' js&&AF Γ k it iter&&decide (N'.Nodup)&&Cv (Γ.NH scope N') pat tg&&((xq pat).all λi=>js[i]?==some none)&&(match k,pat with|.enum,.one _=>false|.zip,.one _=>false|_,_=>true) &&
   (match ifs with|[]=>cJ c|[t]=>!cJ c&&bH (Γ.NH scope N') c t|_=>false)&&bH (Γ.NH scope N') elt e)) q2) q1) e
 |.dct0,e=>Eu (λq1 q2 _=>qG q1 (qG q2 (true))) e
 |.sset a,e=>Jj (λx _ q1 _=>k1 (λq2=>Jj (λy _ q3 _=>k1 (λl=>x==("sorted":Str)&&y==("set":Str)&&xm Γ.sc x&&xm Γ.sc y&&noStar l&&bH Γ a l) q3) q2) q1) e
 |.dget d k x,e=>Qo (λo m ap q1 cp=>k2 (λa b=>m==("get":Str)&&superB o&&noStar a&&noStar b&&ap.endLine==cp.line&&bH Γ d o&&bH Γ k a&&bH Γ x b) q1) e
 |.dct1 k v,e=>Eu (λq1 q2 _=>k2 (λq3 q4=>AA (λa=>AA (λb=>k2 (λva vb=>bH Γ k a&&bH Γ v b&&AD va&&AD vb) q2) q4) q3) q1) e
 |.lkeys d,e=>Jj (λx _ q1 _=>k1 (λq2=>Qo (λo m ap q3 cp=>qG q3 (x==("list":Str)&&m==("keys":Str)&&xm Γ.sc x&&superB o&&ap.endLine==cp.line&&bH Γ d o)) q2) q1) e||Jj (λx _ q1 _=>k1 (λq2=>tL (λy q=>x==("list":Str)&&xm Γ.sc x&&bH Γ d (.Name y q)) q2) q1) e
 |.sdef _ _ _,_=>false
 |.svals a,e=>Qo (λo m ap q cp=>k1 (λl=>NJ l&&m==("index":Str)&&superB o&&ap.endLine==cp.line&&bH Γ a o) q) e
 |.skeys a,e=>Qo (λo m ap q cp=>k1 (λl=>NL o&&m==("index":Str)&&ap.endLine==cp.line&&noStar l&&bH Γ a l) q) e
 |.fld _ _ _,_=>false
 |.rev _ _,_=>false
 |.dflt _ _ _ _ _ _,_=>false
 |.isc _ _ _,_=>false
 |.mth _ _ _ _,_=>false
noncomputable def aV(Γ:rO):jU->List Expr->Bool
 |.nil,ls=>ls.isEmpty
 | .cons e es,ls=>match ls with
  |l::ls=>noStar l&&bH Γ e l&&aV Γ es ls
  |[]=>false
noncomputable def AF(Γ:rO)(k:Ik):jU->Expr->Bool
 |.nil,_=>false
 | .cons e es,l=>match k with
  |.seq=>NI es&&(Jp l&&bH Γ e l)
  |.range=>Jj (λx _ as _=>kC (λa args=>x==("range":Str)&&xm Γ.sc x&&noStar a&&bH Γ e a&&aV Γ es args&&decide (args.length<2)) as) l
  |.enum=>NI es&&Jj (λx _ as _=>k1 (λa=>x==("enumerate":Str)&&xm Γ.sc x&&noStar a&&bH Γ e a) as) l
  |.zip=>false
end
abbrev Fn:=Nat->List Val->M Val
def cU(K:Frag)(ρ:List Addr)(env:Env)(σ:L2.St)(H:Hp):Prop:=∀(i:Nat) (v:Val),env[i]?=some (some v)->∃x,σ[i]?=some (some x)/\VR K ρ H v x
theorem cU.lD{K:Frag}{ρ ρ':List Addr}{env:Env}{σ:L2.St}{H H':Hp}(e:cU K ρ env σ H)(g:Gw ρ H ρ' H'):cU K ρ' env σ H':=λi v q=>by
 obtain⟨x,q1,q2⟩:=e i v q;exact⟨x,q1,VR.lD g v x q2⟩
theorem cU.up{K:Frag}{ρ ρ':List Addr}{env:Env}{σ:L2.St}{H H':Hp}(e:cU K ρ env σ H)(g:Gr ρ H ρ' H'):cU K ρ' env σ H':=e.lD g.w
def Zv(K:Frag)(Q:List V->Hp->Prop):List Val->Hs->List Addr->Hp->Prop:=λvs _ ρ' H'=>∀xs,av K ρ' H' vs xs->Q xs H'
def WT(Q:Bool->Hp->Prop):Bool->Hs->List Addr->Hp->Prop:=λb _ _ H'=>Q b H'
def Lz(Φ:Fn)(ir:IE)(env:Env):M Bool:=bnd (aN Φ ir env) λx=>ask λh=>fS h x
def tV(Φ:Fn)(B:Bd)(EX:Nat->List V->Hp->Prop)(ir:IE):TE:=λσ H Q=>∃ρ env h,cU B.K ρ env σ H/\HR B ρ h H/\Post B EX ρ H (WV B.K Q) (aN Φ ir env h)
def Xz(Φ:Fn)(B:Bd)(EX:Nat->List V->Hp->Prop)(fG:jU):TA:=λσ H Q=>∃ρ env h,cU B.K ρ env σ H/\HR B ρ h H/\Post B EX ρ H (Zv B.K Q) (bJ Φ fG env h)
def tT(Φ:Fn)(B:Bd)(EX:Nat->List V->Hp->Prop)(ir:IE):TT:=λσ H Q=>∃ρ env h,cU B.K ρ env σ H/\HR B ρ h H/\Post B EX ρ H (WT Q) (Lz Φ ir env h)
theorem _root_.L2.PE.imp(h:PE X e t)(i:∀σ H Q,t' σ H Q->t σ H Q):PE X e t':=λpins s σ H Q I hw=>h pins s σ H Q I (i σ H Q hw)
theorem _root_.L2.PT.imp(h:PT X e t)(i:∀σ H Q,t' σ H Q->t σ H Q):PT X e t':=λpins s σ H Q I hw=>h pins s σ H Q I (i σ H Q hw)
theorem _root_.L2.PA.imp(h:PA X es t)(i:∀σ H Q,t' σ H Q->t σ H Q):PA X es t':=λpos pins s σ H Q I hw=>h pos pins s σ H Q I (i σ H Q hw)
theorem _root_.L2.PO.imp(h:PO X e t)(i:∀σ H Q,t' σ H Q->t σ H Q):PO X e t':=λpins s σ H Q I hw=>h pins s σ H Q I (i σ H Q hw)
theorem _root_.L2.PI.imp(h:PI X tg iter t)(i:∀σ H R,t' σ H R->t σ H R):PI X tg iter t':=λpins s σ H R I hw=>h pins s σ H R I (i σ H R hw)
theorem aO{α β γ:Type}(m:M α)(f:α -> M β)(g:β -> M γ):bnd (bnd m f) g=bnd m λx=>bnd (f x) g:=by
 funext h;show (match (match m h with|.ok a h'=>f a h'|.exc c vs h'=>.exc c vs h'|.no=>.no) with|.ok a h'=>g a h'|.exc c vs h'=>.exc c vs h'|.no=>.no)=(match m h with|.ok a h'=>bnd (f a) g h'|.exc c vs h'=>.exc c vs h'|.no=>.no);cases m h<;>rfl
theorem cB{α β:Type}(a:α)(f:α -> M β):bnd (ret a) f=f a:=rfl
def NX:Nat->List V->Hp->Prop:=λ_ _ _=>False
def n8(cl:Nat->Addr)(E:XK):Nat->List V->Hp->Prop:=λc xs H=>(∃g y,xs=[.str g,y]/\∀dx,H dx=none->E (.ref (cl (1000+c))) (some dx) (upd H dx (.xd [(g,y)])))\/(xs=[]/\E (.ref (cl (1000+c))) none H)
def Cw(B:Bd)(n:Nat)(φ:List Val->M Val):Sp:=λxs H Q E=>∃ρ h vs,vs.length=n/\HR B ρ h H/\av B.K ρ H vs xs/\Post B (n8 B.cl E) ρ H (WV B.K Q) (φ vs h)
def NO(P:Program)(w:World)(B:Bd)(mg:Str->Option Value)(base:Heap)(k:Nat)(x:Str)(C:Addr)(g:Str):Prop:=mg x=some (.ref C)/\∃(D fI:Addr) (cd:ClassData) (fd:FuncData) (ps:List Str),wK B.K C D fI cd/\fK P w B.K mg base Hr k fI fd ps (Ag B.K g)/\Binds B.K fd ps []/\ps.length=2/\findIn B.K (.ref C) g=some none
def EE(B:Bd)(mg:Str->Option Value)(x:Str)(C:Addr):Prop:=mg x=some (.ref C)/\∃D,tD B.K C D
def Qp(P:Program)(w:World)(B:Bd)(mg:Str->Option Value)(base:Heap)(k:Nat)(j:Nat)(x:Str)(n:Nat)(φ:List Val->M Val):Prop :=
 (n<1000/\∃(f:Addr) (fd:FuncData) (ps:List Str),ps.length=n/\mg x=some (.ref f)/\keepIn B.K (.ref f)=true/\Binds B.K fd ps []/\fK P w B.K mg base (jr P w) k f fd ps (Cw B n φ)) \/
 (n=2001/\∃g,φ = uU j g/\NO P w B mg base k x (B.cl (1000+j)) g)\/(n=2000 /\ φ = wV j/\EE B mg x (B.cl (1000+j)))
def bltNames:List Str:=["len","min","max","sorted","list","tuple","str","all","any","isinstance","range","enumerate","int","bool","dict","set","zip"]
structure Ctx (Φ:Fn) (Γ:rO) (k:Nat) (X:Cx) (cl:Nat->Addr) (EX:Nat->List V->Hp->Prop):Prop where
 N:X.N = Γ.N
 sc:X.env.scope = Γ.sc
 calm:X.calm=true
 room:eN (k+1) X.A
 Wi:∃E:XK,Passes (jr X.prog X.w) X E/\∀c xs H,EX c xs H->n8 cl E c xs H
 fns:∀j x n,Γ.fns[j]?=some (x,n)->Qp X.prog X.w (bd X cl) X.mg X.base k j x n (Φ j)
 cls:∀c,c < Γ.tb.nc->W5 X.K (cl c)/\∀x ∈ Γ.tb.RT,Du X.K (cl c) x
 Hx:∀p ∈ Γ.tb.Hx,Meth X.K (cl p.1) p.2.1 (cl (1000+p.2.2))
 Hy:∀p ∈ Γ.tb.Hy,∃C,X.mg p.1=some (.ref C)/\Rw X.K C p.2.1 (cl (1000+p.2.2))
 isc:∀p ∈ Γ.tb.isc,∃C,X.mg p.1=some (.ref C)/\∀c b,p.2[c]?=some b->Xn X.K (cl c)/\kitOne X.K (.ref (cl c)) (.ref C)=some b
 cons:∀p ∈ Γ.cons,∃v u,X.mg p.1=some u/\RelV v u/\∀K ρ H,VR K ρ H p.2 v
 blt:∀x∈bltNames,X.mg x=none
section
variable {Φ:Fn} {Γ:rO} {k:Nat} {X:Cx} {cl:Nat->Addr} {EX:Nat->List V->Hp->Prop}
theorem Ctx.units(c:Ctx Φ Γ k X cl EX):X.A.units+64<cLine:=c.room.units
theorem Ctx.vis(c:Ctx Φ Γ k X cl EX)(h:NG Γ.sc x=true):QA X.env.scope x/\(x==("__debug__":Str))=false/\(x==("__classdict__":Str))=false:=by
 unfold NG at h;simp only[and_eq_true,or_eq_true,beq_iff_eq,not_eq_true']at h;obtain⟨⟨h1,h2⟩,h3⟩:=h;refine⟨?_,h2,h3⟩;unfold QA;rw[c.sc]
 rcases h1 with (z|z)|z
 ·exact .inl z
 ·exact .inr (.inl z)
 ·exact .inr (.inr z)
theorem Ctx.gl(c:Ctx Φ Γ k X cl EX)(h:xm Γ.sc x=true):Gl X x/\(x==("__debug__":Str))=false/\x ≠ "__name__":=by
 unfold xm at h;simp only[and_eq_true,beq_iff_eq,not_eq_true']at h;obtain⟨⟨h1,h2⟩,h3⟩:=h;refine⟨?_,h2,λz=>by rw[z]at h3;simp at h3⟩;show X.env.scope.names.lookup x=_;rw[c.sc];exact h1
theorem AG:Passes (jr X.prog X.w) X (λ_ _ _=>False):=λpins σ H s e s' I h=>by
 obtain⟨_,_,_,_,_,_,_,_,_,_,_,_,_,z⟩:=h;exact z.elim
theorem Ctx.no(c:Ctx Φ Γ k X cl EX):Ctx Φ Γ k X cl NX :=
 { N:=c.N,sc:=c.sc,calm:=c.calm,room:=c.room,Wi:=⟨_,AG,λ_ _ _ z=>False.elim z⟩,fns:=c.fns,cls:=c.cls,Hx:=c.Hx,Hy:=c.Hy,isc:=c.isc,cons:=c.cons,blt:=c.blt }
theorem Ctx.NH(c:Ctx Φ Γ k X cl EX)(scope:Scope)(N':List Str)(cls:List (Str×Addr))(C:Addr)(s:Shared)(H:Hp)(fp:List Addr):Ctx Φ (Γ.NH scope N') k (aT X scope N' cls C s H fp) cl NX:=by
 refine⟨rfl,?_,c.calm,c.room,⟨_,AG,λ_ _ _ z=>False.elim z⟩,c.fns,c.cls,c.Hx,c.Hy,c.isc,c.cons,c.blt⟩;show relabel scope X.env=EC scope Γ.sc;rw[<-c.sc];rfl
theorem aK(h:noStar e=true):starEach (e::es) env=(false,eval e env)::starEach es env:=by
 cases e<;>first|rfl|(simp[noStar]at h)
theorem jW:∀{es:List Expr} {fG:jU},aV Γ fG es=true->(backTo pos (starEach es env)).any (·.1)=false
 |[],_,_=>rfl
 |e::es,.nil,h=>by simp[aV]at h
 | e::es,.cons i fG,h=>by
  simp only[aV,and_eq_true]at h;rw[aK h.1.1];show (false||(backTo pos (starEach es env)).any (·.1))=false;rw[jW (fG:=fG) h.2];rfl
theorem EF(h:aV Γ fG es=true):(backTo pos (starEach es env)).all (λx=>!x.1)=true:=by
 have q:=jW (pos:=pos) (env:=env) h;rw[aaQ];intro x hx;have:=List.any_eq_false.mp q x hx;simpa using this
theorem zm(h:pR e=true):z9 e:=by
 intro o i;cases e<;>first|rfl|(simp[pR]at h)
theorem super_ok(h:superB e=true):attributeBase e x env whole=whole:=by
 cases e<;>first
  |rfl
  |skip
 rename_i f args kws pos;cases f<;>first
  |rfl
  |skip
 cases args with
 |cons a r=>rfl
 |nil=>
  cases kws with
  |cons a r=>rfl
  |nil=>simp[superB]at h
theorem eX(q:PE X e (tV Φ (bd X cl) EX ir))(he:∀whole,isTrue e X.env whole=(do let v <-whole;standAt e.pos;holding [v] (truthy v))):PT X e (tT Φ (bd X cl) EX ir) :=
 (Dt q he).imp λσ H Q ⟨ρ,env,h,hE,r,p⟩=>⟨ρ,env,h,hE,r,au p λv h1 ρ1 x H1 g1 r1 q1 p1=>by
  obtain⟨b,e,w⟩:=cP r1 p1;exact⟨b,Nb r1 q1 e,w⟩⟩
theorem Dp:Uy X (unaryOp .USub) (λx H Q=>∃i,x=.int i/\Q (.int (-i)) H):=by
 intro pins s σ H x v Q I rx h;obtain⟨i,rfl,q⟩:=h;obtain⟨t,rfl⟩:=rx;exact neg_int ⟨.int (-i),H,I.tok _,⟨_,rfl⟩,q⟩
theorem LA(h:PT X (.BoolOp op vs pos) t):PW X (.BoolOp op vs pos) t:=λwhole pins s σ H Q I hw=>h pins s σ H Q I hw
def b8(Φ:Fn)(ir:IE):Prop:=∀(Γ:rO) (k:Nat) (X:Cx) (cl:Nat->Addr) (EX:Nat->List V->Hp->Prop) (e:Expr),Ctx Φ Γ k X cl EX->bH Γ ir e=true->PE X e (tV Φ (bd X cl) EX ir)/\PT X e (tT Φ (bd X cl) EX ir)
def jX(Φ:Fn)(fG:jU):Prop:=(∀(Γ:rO) (k:Nat) (X:Cx) (cl:Nat->Addr) (EX:Nat->List V->Hp->Prop) (es:List Expr),Ctx Φ Γ k X cl EX->aV Γ fG es=true->PA X es (Xz Φ (bd X cl) EX fG))/\match fG with
 |.nil=>True
 | .cons e r=>b8 Φ e/\match r with
  |.nil=>True
  |.cons e' _=>b8 Φ e'
theorem Jq(h:RU o op=true):op=El o:=aaz h
theorem uY(h:Jo o op=true):op=oZ o:=aaz h
theorem AH(hs:∀env h,aN Φ ir env h=.no):b8 Φ ir:=by
 intro Γ k X cl EX e c h;exact⟨λpins s σ H Q I ⟨ρ,env,h,hE,r,p⟩=>by rw[hs]at p;exact p.elim,λpins s σ H Q I ⟨ρ,env,h,hE,r,p⟩=>by unfold Lz bnd at p;rw[hs]at p;exact p.elim⟩
theorem lY(hs:∀env h,aN Φ ir env h=.no):b8 Φ ir:=by
 intro Γ k X cl EX e c h;exact⟨λpins s σ H Q I ⟨ρ,env,h,hE,r,p⟩=>by rw[hs]at p;exact p.elim,λpins s σ H Q I ⟨ρ,env,h,hE,r,p⟩=>by unfold Lz bnd at p;rw[hs]at p;exact p.elim⟩
theorem NP{i:Nat}:b8 Φ (.var i):=by
 intro Γ k X cl EX e c h;apply pQ h;intro x pos h;simp only[and_eq_true,beq_iff_eq]at h;obtain⟨v1,v2,v3⟩:=c.vis h.2;have q:PE X (.Name x pos) (tV Φ (bd X cl) EX (.var i)):=by refine(nN (by rw[c.N];exact h.1) v1 v2 v3).imp λσ H Q aS=>?_;obtain⟨ρ,env,h,hE,r,p⟩:=aS;rw[aN.eq_def]at p;dsimp only at p;obtain⟨d,e1,w⟩:=cA r p;split at e1<;>cases e1;rename_i e1;obtain⟨x,e2,e3⟩:=hE i d e1;exact⟨x,e2,w x e3⟩
 exact⟨q,eX q λ_=>rfl⟩
theorem NQ:b8 Φ (.cst d):=by
 intro Γ k X cl EX e c h;apply xh h;intro cc j pos h;have q:PE X (.Constant cc j pos) (tV Φ (bd X cl) EX (.cst d)):=by
  unfold EB at h;split at h<;>first|cases h|skip
  ·refine Dg.imp λσ H Q aS=>?_;obtain⟨ρ,env,h,hE,r,p⟩:=aS;simp only[aN]at p;exact aj r p _ VR.non
  ·cases eq_of_beq h;refine zY.imp λσ H Q aS=>?_;obtain⟨ρ,env,h,hE,r,p⟩:=aS;simp only[aN]at p;exact aj r p _ VR.bl
  ·cases eq_of_beq h;refine Df.imp λσ H Q aS=>?_;obtain⟨ρ,env,h,hE,r,p⟩:=aS;simp only[aN]at p;exact aj r p _ VR.int
  ·cases eq_of_beq h;refine pZ.imp λσ H Q aS=>?_;obtain⟨ρ,env,h,hE,r,p⟩:=aS;simp only[aN]at p;exact aj r p _ VR.str
 exact⟨q,eX q λ_=>rfl⟩
theorem Cy(h:zk a b=true):a=b:=by
 unfold zk at h;split at h<;>first|rfl|(cases eq_of_beq h;rfl)|cases h
theorem NR:b8 Φ (.con x d):=by
 intro Γ k X cl EX e c h;apply pQ h;intro y pos h;simp only[and_eq_true,beq_iff_eq]at h;obtain⟨⟨h1,h2⟩,h3⟩:=h;subst h1;obtain⟨g1,g2,g3⟩:=c.gl h2;obtain⟨p,hp,h4⟩:=List.any_eq_true.mp h3;simp only[and_eq_true,beq_iff_eq]at h4;obtain⟨v,u,m1,m2,m3⟩:=c.cons p hp;rw[h4.1]at m1;have q:PE X (.Name x pos) (tV Φ (bd X cl) EX (.con x d)):=by refine(um g1 m1 m2 g2).imp λσ H Q aS=>?_;obtain⟨ρ,env,h,hE,r,p⟩:=aS;simp only[aN]at p;exact aj r p _ (by rw[<-Cy h4.2];exact m3 _ _ _)
 exact⟨q,eX q λ_=>rfl⟩
theorem RX:b8 Φ .no:=by
 intro Γ k X cl EX e c h
 (conv at h=>lhs;whnf);cases h
theorem EG:jX Φ .nil:=by
 refine⟨fun Γ k X cl EX es c h=>?_,trivial⟩;rw[aV]at h;cases es with
 |cons a r=>cases h
 |nil=>refine jL.imp λσ H Q aS=>?_;obtain⟨ρ,env,h,hE,r,p⟩:=aS;simp only[bJ]at p;exact aj r p _ av.nil
theorem AI(h1:b8 Φ e)(h2:jX Φ es):jX Φ (.cons e es):=by
 refine⟨fun Γ k X cl EX ls c h=>?_,h1,?_⟩
 ·rw[aV.eq_def]at h;dsimp only at h
  cases ls with
  |nil=>cases h
  |cons l ls=>simp only[and_eq_true]at h;refine(eO (h1 Γ k X cl EX l c h.1.2).1 (h2.1 Γ k X cl EX ls c h.2) (aK h.1.1)).imp λσ H Q aS=>?_;obtain⟨ρ,env,h,hE,r,p⟩:=aS;simp only[bJ]at p;refine⟨ρ,env,h,hE,r,au p λv h1 ρ1 x H1 g1 r1 q1 p1=>⟨ρ1,env,h1,hE.up g1,r1,bQ p1 λvs h2 ρ2 H2 g2 r2 p2 xs q2=>?_⟩⟩;exact aj r2 p2 _ (av.cons (VR.up g2 _ _ q1) q2)
 ·cases es with
  |nil=>trivial
  |cons e' r=>exact h2.2.1
theorem NS(ha:b8 Φ a)(hb:b8 Φ b):b8 Φ (.bin o a b):=by
 intro Γ k X cl EX e c h;apply Nm h;intro l op r pos h;simp only[and_eq_true]at h;obtain⟨⟨h1,h2⟩,h3⟩:=h;have eo:op=El o:=Jq h1;subst eo;have q:PE X (.BinOp l (El o) r pos) (tV Φ (bd X cl) EX (.bin o a b)):=by refine(QW (M9 (cl:=cl) (EX:=EX) o) (ha Γ k X cl EX l c h2).1 (hb Γ k X cl EX r c h3).1).imp λσ H Q aS=>?_;obtain⟨ρ,env,h,hE,r,p⟩:=aS;simp only[aN]at p;exact⟨ρ,env,h,hE,r,au p λv h1 ρ1 x H1 g1 r1 q1 p1=>⟨ρ1,env,h1,hE.up g1,r1,au p1 λw h2 ρ2 y H2 g2 r2 q2 p2=>⟨ρ2,h2,v,w,r2,VR.up g2 _ _ q1,q2,p2⟩⟩⟩
 exact⟨q,eX q λ_=>rfl⟩
theorem NT(ha:b8 Φ a):b8 Φ (.neg a):=by
 intro Γ k X cl EX e c h;apply Lw h;intro q1 l pos h;apply xj h;intro h;have q:PE X (.UnaryOp .USub l pos) (tV Φ (bd X cl) EX (.neg a)):=by
  refine(QX Dp (ha Γ k X cl EX l c h).1).imp λσ H Q aS=>?_;obtain⟨ρ,env,h,hE,r,p⟩:=aS;simp only[aN]at p;refine⟨ρ,env,h,hE,r,au p λv h1 ρ1 x H1 g1 r1 q1 p1=>?_⟩;cases v<;>first|exact p1.elim|skip
  rw[VR]at q1;exact⟨_,q1,aj r1 p1 _ VR.int⟩
 exact⟨q,eX q λ_=>rfl⟩
theorem NU(ha:b8 Φ a)(hb:b8 Φ b):b8 Φ (.cmp o a b):=by
 intro Γ k X cl EX e c h;apply Er h;intro l q1 q2 pos h;apply n6 h;intro op h;apply n6 h;intro r h;simp only[and_eq_true,not_eq_true']at h;obtain⟨⟨⟨h1,h4⟩,h2⟩,h3⟩:=h;have eo:op=oZ o:=uY h1;subst eo;refine⟨(HV (nY (cl:=cl) c.units o) (ha Γ k X cl EX l c h2).1 (hb Γ k X cl EX r c h3).1 h4).imp λσ H Q ⟨ρ,env,h,hE,r,p⟩=>?_,(HW (nY (cl:=cl) c.units o) (ha Γ k X cl EX l c h2).1 (hb Γ k X cl EX r c h3).1 h4).imp λσ H Q ⟨ρ,env,h,hE,r,p⟩=>?_⟩
 ·simp only[aN]at p;refine⟨ρ,env,h,hE,r,au p λv h1 ρ1 x H1 g1 r1 q1 p1=>⟨ρ1,env,h1,hE.up g1,r1,au p1 λw h2 ρ2 y H2 g2 r2 q2 p2=>?_⟩⟩;obtain⟨t,e,p3⟩:=aA p2;exact⟨ρ2,h2,v,w,t,r2,VR.up g2 _ _ q1,q2,e,aj r2 p3 _ VR.bl⟩
 ·simp only[Lz,aN,aO,cB]at p;refine⟨ρ,env,h,hE,r,au p λv h1 ρ1 x H1 g1 r1 q1 p1=>⟨ρ1,env,h1,hE.up g1,r1,au p1 λw h2 ρ2 y H2 g2 r2 q2 p2=>?_⟩⟩;obtain⟨t,e,p3⟩:=aA p2;obtain⟨t',e',w'⟩:=cP r2 p3;cases (show some t=some t' from e');exact⟨ρ2,h2,v,w,t,r2,VR.up g2 _ _ q1,q2,e,t,rfl,w'⟩
theorem NV(ha:b8 Φ a)(hb:b8 Φ b)(hd:b8 Φ d):b8 Φ (.chn o o' a b d):=by
 intro Γ k X cl EX e c h;apply Er h;intro l q1 q2 pos h;apply Ji h;intro op op' h;apply Ji h;intro m r h;simp only[and_eq_true,not_eq_true']at h;obtain⟨⟨⟨⟨⟨⟨h1,h2⟩,h3⟩,h4⟩,h5⟩,h6⟩,h7⟩:=h;have eo:op=oZ o:=uY h1;have ep:op'=oZ o':=uY h2;subst eo;subst ep;have hm:lastMarks [oZ o,oZ o'] [m,r]=false:=h4;refine⟨(Dr (nY (cl:=cl) c.units o) (nY (cl:=cl) c.units o') (ha Γ k X cl EX l c h5).1 (hb Γ k X cl EX m c h6).1 (hd Γ k X cl EX r c h7).1 hm).imp λσ H Q ⟨ρ,env,h,hE,r,p⟩=>?_,
  (Ds (nY (cl:=cl) c.units o) (nY (cl:=cl) c.units o') (ha Γ k X cl EX l c h5).1 (hb Γ k X cl EX m c h6).1 (hd Γ k X cl EX r c h7).1 hm).imp λσ H Q ⟨ρ,env,h,hE,r,p⟩=>?_⟩
 ·simp only[aN]at p
  refine⟨ρ,env,h,hE,r,au p λv h1 ρ1 x H1 g1 r1 q1 p1=>⟨ρ1,env,h1,hE.up g1,r1,au p1 λw h2 ρ2 y H2 g2 r2 q2 p2=>?_⟩⟩;obtain⟨t,e,p3⟩:=aA p2;refine⟨ρ2,h2,v,w,t,r2,VR.up g2 _ _ q1,q2,e,t,rfl,?_⟩;cases t with
  |false=>rw[aaj aab]at p3 |-;exact aj r2 p3 _ VR.bl
  |true=>rw[aan rfl]at p3 |-;refine⟨ρ2,env,h2,(hE.up g1).up g2,r2,au p3 λw' h3 ρ3 z H3 g3 r3 q3 p4=>?_⟩;obtain⟨t',e',p5⟩:=aA p4;exact⟨ρ3,h3,w,w',t',r3,VR.up g3 _ _ q2,q3,e',aj r3 p5 _ VR.bl⟩
 ·simp only[Lz,aN,aO,cB]at p
  refine⟨ρ,env,h,hE,r,au p λv h1 ρ1 x H1 g1 r1 q1 p1=>⟨ρ1,env,h1,hE.up g1,r1,au p1 λw h2 ρ2 y H2 g2 r2 q2 p2=>?_⟩⟩;obtain⟨t,e,p3⟩:=aA p2;refine⟨ρ2,h2,v,w,t,r2,VR.up g2 _ _ q1,q2,e,t,rfl,?_⟩;cases t with
  |false=>rw[aaj aab]at p3 |-;rw[cB]at p3;obtain⟨t',e',w'⟩:=cP r2 p3;cases (show some false=some t' from e');exact⟨false,rfl,w'⟩
  |true=>rw[aan rfl]at p3 |-;simp only[aO,cB]at p3;refine⟨ρ2,env,h2,(hE.up g1).up g2,r2,au p3 λw' h3 ρ3 z H3 g3 r3 q3 p4=>?_⟩;obtain⟨t',e',p5⟩:=aA p4;obtain⟨t2,e2,w2⟩:=cP r3 p5;cases (show some t'=some t2 from e2);exact⟨ρ3,h3,w,w',t',r3,VR.up g3 _ _ q2,q3,e',t',rfl,w2⟩
end
section
variable {B:Bd} {EX:Nat->List V->Hp->Prop} {ρ:List Addr} {H:Hp} {β:Type} {W:β -> Hs->List Addr->Hp->Prop} {h:Hs}
theorem post_bool(p:Post B EX ρ H W (bnd (oY v) f h)):∃t,v=.bl t/\Post B EX ρ H W (f t h):=by
 cases v with
 |bl t=>exact⟨t,rfl,p⟩
 |_=>exact p.elim
theorem n9(p:Post B EX ρ H W (bnd m F h))(k:∀v h1,Post B EX ρ H W (F v h1)->∃t,fS h1 v=some t/\∀ρ1 H1,Gr ρ H ρ1 H1->HR B ρ1 h1 H1->Q t H1) :
  Post B EX ρ H (WT Q) (bnd m (λx=>ask λh=>fS h x) h):=by
 unfold bnd at p |-;cases e:m h with
 |ok v h1=>
  rw[e]at p;obtain⟨t,e1,q⟩:=k v h1 p;show Post B EX ρ H (WT Q) (ask (λh=>fS h v) h1);have e2:ask (λh=>fS h v) h1=.ok t h1:=by unfold ask bu;dsimp only;rw[e1]
  rw[e2];exact λρ1 H1 g r=>q ρ1 H1 g r
 |exc c vs h1=>rw[e]at p;exact p
 |no=>rw[e]at p;exact p
end
section
variable {Φ:Fn} {Γ:rO} {k:Nat} {X:Cx} {cl:Nat->Addr} {EX:Nat->List V->Hp->Prop}
theorem NW(ha:b8 Φ a)(hb:b8 Φ b):b8 Φ (.and a b):=by
 intro Γ k X cl EX e c h;apply tN h;intro q1 q2 pos h;apply xj h;intro h;apply zh h;intro l q3 h;apply zh h;intro m r h;simp only[and_eq_true]at h;obtain⟨h1,h2⟩:=h;have hB:PE X (.BoolOp .And (m::r) pos) (tV Φ (bd X cl) EX b)/\PW X (.BoolOp .And (m::r) pos) (tT Φ (bd X cl) EX b):=by
  cases r with
  |nil=>exact⟨uo (hb Γ k X cl EX m c h2).1,HJ (hb Γ k X cl EX m c h2).2⟩
  |cons n r'=>exact⟨(hb Γ k X cl EX _ c h2).1,LA (hb Γ k X cl EX _ c h2).2⟩
 refine⟨(yv (ha Γ k X cl EX l c h1).1 hB.1).imp λσ H Q ⟨ρ,env,h,hE,r,p⟩=>?_,(Mg (ha Γ k X cl EX l c h1).2 hB.2).pt.imp λσ H Q ⟨ρ,env,h,hE,r,p⟩=>?_⟩
 ·simp only[aN]at p
  refine⟨ρ,env,h,hE,r,au p λv h1 ρ1 x H1 g1 r1 q1 p1=>?_⟩;obtain⟨t,rfl,p2⟩:=post_bool p1;rw[VR]at q1;refine⟨t,q1,?_⟩;cases t with
  |true=>rw[aan rfl]at p2 |-;refine⟨ρ1,env,h1,hE.up g1,r1,au p2 λw h2 ρ2 y H2 g2 r2 q2 p3=>?_⟩;obtain⟨u,rfl,p4⟩:=post_bool p3;exact aj r2 p4 _ q2
  |false=>rw[aaj aab]at p2 |-;exact aj r1 p2 _ VR.bl
 ·simp only[Lz,aN,aO]at p
  refine⟨ρ,env,h,hE,r,n9 p λv h1 p1=>?_⟩;obtain⟨t,rfl,p2⟩:=post_bool p1;refine⟨t,rfl,λρ1 H1 g1 r1=>?_⟩;have p2:=Post.up g1 p2;cases t with
  |true=>rw[aan rfl]at p2 |-;simp only[aO,cB]at p2;refine⟨ρ1,env,h1,hE.up g1,r1,n9 p2 λw h2 p3=>?_⟩;obtain⟨u,rfl,p4⟩:=post_bool p3;exact⟨u,rfl,λρ2 H2 g2 r2=>by obtain⟨t',e',w'⟩:=cP r2 (Post.up g2 p4);cases (show some u=some t' from e');exact w'⟩
  |false=>rw[aaj aab]at p2 |-;obtain⟨t',e',w'⟩:=cP r1 (show Post _ _ ρ1 H1 _ (ask (λh=>fS h (.bl false)) h1) from p2);cases (show some false=some t' from e');exact w'
theorem RY(ha:b8 Φ a)(hb:b8 Φ b):b8 Φ (.or a b):=by
 intro Γ k X cl EX e c h;apply tN h;intro q1 q2 pos h;apply xj h;intro h;apply zh h;intro l q3 h;apply zh h;intro m r h;simp only[and_eq_true]at h;obtain⟨h1,h2⟩:=h;have hB:PE X (.BoolOp .Or (m::r) pos) (tV Φ (bd X cl) EX b)/\PW X (.BoolOp .Or (m::r) pos) (tT Φ (bd X cl) EX b):=by
  cases r with
  |nil=>exact⟨uo (hb Γ k X cl EX m c h2).1,Mf (hb Γ k X cl EX m c h2).2⟩
  |cons n r'=>exact⟨(hb Γ k X cl EX _ c h2).1,LA (hb Γ k X cl EX _ c h2).2⟩
 refine⟨(QG (ha Γ k X cl EX l c h1).1 hB.1).imp λσ H Q ⟨ρ,env,h,hE,r,p⟩=>?_,(QD (ha Γ k X cl EX l c h1).2 hB.2).pt.imp λσ H Q ⟨ρ,env,h,hE,r,p⟩=>?_⟩
 ·simp only[aN]at p
  refine⟨ρ,env,h,hE,r,au p λv h1 ρ1 x H1 g1 r1 q1 p1=>?_⟩;obtain⟨t,rfl,p2⟩:=post_bool p1;rw[VR]at q1;refine⟨t,q1,?_⟩;cases t with
  |false=>rw[aaj aab]at p2 |-;refine⟨ρ1,env,h1,hE.up g1,r1,au p2 λw h2 ρ2 y H2 g2 r2 q2 p3=>?_⟩;obtain⟨u,rfl,p4⟩:=post_bool p3;exact aj r2 p4 _ q2
  |true=>rw[aan rfl]at p2 |-;exact aj r1 p2 _ VR.bl
 ·simp only[Lz,aN,aO]at p
  refine⟨ρ,env,h,hE,r,n9 p λv h1 p1=>?_⟩;obtain⟨t,rfl,p2⟩:=post_bool p1;refine⟨t,rfl,λρ1 H1 g1 r1=>?_⟩;have p2:=Post.up g1 p2;cases t with
  |false=>rw[aaj aab]at p2 |-;simp only[aO,cB]at p2;refine⟨ρ1,env,h1,hE.up g1,r1,n9 p2 λw h2 p3=>?_⟩;obtain⟨u,rfl,p4⟩:=post_bool p3;exact⟨u,rfl,λρ2 H2 g2 r2=>by obtain⟨t',e',w'⟩:=cP r2 (Post.up g2 p4);cases (show some u=some t' from e');exact w'⟩
  |true=>rw[aan rfl]at p2 |-;obtain⟨t',e',w'⟩:=cP r1 (show Post _ _ ρ1 H1 _ (ask (λh=>fS h (.bl true)) h1) from p2);cases (show some true=some t' from e');exact w'
theorem NY(ha:b8 Φ a):b8 Φ (.not a):=by
 intro Γ k X cl EX e c h;apply Lw h;intro q1 l pos h;apply xj h;intro h;refine⟨(yw (ha Γ k X cl EX l c h).1).imp λσ H Q ⟨ρ,env,h,hE,r,p⟩=>?_,(Mh (ha Γ k X cl EX l c h).2).imp λσ H Q ⟨ρ,env,h,hE,r,p⟩=>?_⟩
 ·simp only[aN]at p;refine⟨ρ,env,h,hE,r,au p λv h1 ρ1 x H1 g1 r1 q1 p1=>?_⟩;obtain⟨t,rfl,p2⟩:=post_bool p1;rw[VR]at q1;exact⟨t,q1,aj r1 p2 _ VR.bl⟩
 ·simp only[Lz,aN,aO]at p;refine⟨ρ,env,h,hE,r,n9 p λv h1 p1=>?_⟩;obtain⟨t,rfl,p2⟩:=post_bool p1;refine⟨t,rfl,λρ1 H1 g1 r1=>?_⟩;obtain⟨t',e',w'⟩:=cP r1 (show Post _ _ ρ1 H1 _ (ask (λh=>fS h (.bl (!t))) h1) from Post.up g1 p2);cases (show some (!t)=some t' from e');exact w'
theorem NZ(ht:b8 Φ t)(ha:b8 Φ a)(hb:b8 Φ b):b8 Φ (.ite t a b):=lY λ_ _=>rfl
theorem N1(hs:jX Φ es):b8 Φ (.tup es):=by
 intro Γ k X cl EX e c h;apply Nq h;intro ls x1 pos h;have q:PE X (.Tuple ls x1 pos) (tV Φ (bd X cl) EX (.tup es)):=by refine(Dv (hs.1 Γ k X cl EX ls c h)).imp λσ H Q aS=>?_;obtain⟨ρ,env,h,hE,r,p⟩:=aS;simp only[aN]at p;refine⟨ρ,env,h,hE,r,bQ p λvs h1 ρ1 H1 g1 r1 p1 xs q1=>?_⟩;obtain⟨e1,p2⟩:=aG p1;exact⟨by rw[<-q1.length];exact aaz e1,λq hq=>mW r1 hq q1 p2⟩
 exact⟨q,eX q λ_=>rfl⟩
theorem N2(hs:jX Φ es):b8 Φ (.lst es):=by
 intro Γ k X cl EX e c h;apply Nr h;intro ls pos h;have q:PE X (.List ls pos) (tV Φ (bd X cl) EX (.lst es)):=by refine(MD (hs.1 Γ k X cl EX ls c h)).imp λσ H Q aS=>?_;obtain⟨ρ,env,h,hE,r,p⟩:=aS;simp only[aN]at p;refine⟨ρ,env,h,hE,r,bQ p λvs h1 ρ1 H1 g1 r1 p1 xs q1=>?_⟩;obtain⟨e1,p2⟩:=aG p1;exact⟨by rw[<-q1.length];exact aaz e1,λq hq=>eF r1 hq q1 p2⟩
 exact⟨q,eX q λ_=>rfl⟩
theorem Jr:b8 Φ .dct0:=by
 intro Γ k X cl EX e c h;apply Ay h;intro q1 q2 pos h;apply lW h;intro h;apply lW h;intro h;have q:PE X (.Dict [] [] pos) (tV Φ (bd X cl) EX .dct0):=by refine(DG (X:=X) (pos:=pos)).imp λσ H Q aS=>?_;obtain⟨ρ,env,h,hE,r,p⟩:=aS;simp only[aN]at p;exact λa ha=>wZ (o:=.dct []) (O:=.dK []) r ha ⟨[],aD,(by rw[jh])⟩ p
 exact⟨q,eX q λ_=>rfl⟩
theorem N3(ha:b8 Φ a)(hb:b8 Φ b):b8 Φ (.idx a b):=by
 intro Γ k X cl EX e c h;apply zg h;intro l r pos h;simp only[and_eq_true]at h;have q:PE X (.Subscript l r pos) (tV Φ (bd X cl) EX (.idx a b)):=by refine(Q9 (Nc (cl:=cl) c.units) (ha Γ k X cl EX l c h.1.2).1 (hb Γ k X cl EX r c h.2).1 (zm h.1.1)).imp λσ H Q aS=>?_;obtain⟨ρ,env,h,hE,r,p⟩:=aS;simp only[aN]at p;refine⟨ρ,env,h,hE,r,au p λv h1 ρ1 x H1 g1 r1 q1 p1=>⟨ρ1,env,h1,hE.up g1,r1,au p1 λw h2 ρ2 y H2 g2 r2 q2 p2=>?_⟩⟩;obtain⟨z,e,w'⟩:=cP r2 p2;exact⟨ρ2,h2,v,w,z,r2,VR.up g2 _ _ q1,q2,e,w'⟩
 exact⟨q,eX q λ_=>rfl⟩
def RZ(Φ:Fn)(ir:IE)(env:Env):M (Option Int):=if cJ ir=true then ret none else bnd (aN Φ ir env) λv=>bnd (bu (mV v)) λi=>ret (some i)
def tP(Φ:Fn)(B:Bd)(EX:Nat->List V->Hp->Prop)(ir:IE):TO:=λσ H Q=>∃ρ env h,cU B.K ρ env σ H/\HR B ρ h H/\Post B EX ρ H (λo _ _ H'=>Q o H') (RZ Φ ir env h)
theorem Cz{i:Int}(h:mV d=some i):d=.int i:=by cases d<;>cases h;rfl
theorem AJ(hi:b8 Φ ir)(c:Ctx Φ Γ k X cl EX)(h:(match o with|none=>cJ ir|some e=>!cJ ir&&bH Γ ir e)=true):PO X o (tP Φ (bd X cl) EX ir):=by
 cases o with
 |none=>refine Ia.imp λσ H Q aS=>?_;obtain⟨ρ,env,h',hE,r,p⟩:=aS;unfold RZ at p;rw[aan h]at p;exact aj r p
 |some e=>simp only[and_eq_true,not_eq_true']at h;refine(Ib (hi Γ k X cl EX e c h.2).1).imp λσ H Q aS=>?_;obtain⟨ρ,env,h',hE,r,p⟩:=aS;unfold RZ at p;rw[aaj (by rw[h.1];exact aab)]at p;refine⟨ρ,env,h',hE,r,au p λv h1 ρ1 x H1 g1 r1 q1 p1=>?_⟩;obtain⟨i,e1,p2⟩:=bG p1;cases Cz e1;rw[VR]at q1;exact⟨i,q1,aj r1 p2⟩
theorem N4{a lo hi:IE}(ha:b8 Φ a)(hl:b8 Φ lo)(hh:b8 Φ hi):b8 Φ (.slc a lo hi):=by
 intro Γ k X cl EX e c h;apply zg h;intro l q1 pos h;apply Nt h;intro l' h' q2 p2 h;apply Az h;intro h;simp only[and_eq_true]at h;have q:PE X (.Subscript l (.Slice l' h' none p2) pos) (tV Φ (bd X cl) EX (.slc a lo hi)):=by refine(DC (Nd (cl:=cl) (EX:=EX)) (ha Γ k X cl EX l c h.1.1).1 (AJ hl c h.1.2) (AJ hh c h.2)).imp λσ H Q aS=>?_;obtain⟨ρ,env,h,hE,r,p⟩:=aS;simp only[aN]at p;refine⟨ρ,env,h,hE,r,au p λv h1 ρ1 x H1 g1 r1 q1 p1=>⟨ρ1,env,h1,hE.up g1,r1,bQ (m:=RZ Φ lo env) p1 λlo' h2 ρ2 H2 g2 r2 p3=>⟨ρ2,env,h2,(hE.up g1).up g2,r2,bQ (m:=RZ Φ hi env) p3 λhi' h3 ρ3 H3 g3 r3 p4=>?_⟩⟩⟩;exact⟨ρ3,h3,v,r3,VR.up (g2.trans g3) _ _ q1,p4⟩
 exact⟨q,eX q λ_=>rfl⟩
theorem N5(ha:b8 Φ a)(hs:b8 Φ sx):b8 Φ (.rev a sx):=lY λ_ _=>rfl
theorem qI:∀{fG:jU} {ls:List Expr} {vs:List Val} {h h':Hs},aV Γ fG ls=true->bJ Φ fG env h=.ok vs h'->vs.length=ls.length:=by
 intro fG
 induction fG using jU.rec (motive_1:=λ_=>True) with
 |nil=>
  intro ls ds h h' a b;rw[aV]at a;simp only[bJ,ret]at b;cases b;cases ls with
  |nil=>rfl
  |cons _ _=>cases a
 |cons e es _ ih=>
  intro ls ds h h' a b;rw[aV.eq_def]at a;dsimp only at a;cases ls with
  |nil=>cases a
  |cons l ls=>
   simp only[and_eq_true]at a;simp only[bJ,bnd]at b;cases e1:aN Φ e env h with
   |ok v h1=>
    rw[e1]at b;dsimp only at b;cases e2:bJ Φ es env h1 with
    |ok vs h2=>rw[e2]at b;cases b;simp[ih a.2 e2]
    |exc _ _ _=>rw[e2]at b;cases b
    |no=>rw[e2]at b;cases b
   |exc _ _ _=>rw[e1]at b;cases b
   |no=>rw[e1]at b;cases b
 |_=>trivial
theorem gE{α β:Type}{W:β -> Hs->List Addr->Hp->Prop}{W':α -> Hs->List Addr->Hp->Prop}{m:M α}{f:α -> M β}(p:Post B EX ρ H W (bnd m f h))(k:∀v h1 ρ1 H1,m h=.ok v h1->Gr ρ H ρ1 H1->HR B ρ1 h1 H1->Post B EX ρ1 H1 W (f v h1)->W' v h1 ρ1 H1):Post B EX ρ H W' (m h):=by
 unfold bnd at p;cases e:m h with
 |ok v h1=>rw[e]at p;exact λρ1 H1 g r=>k v h1 ρ1 H1 e g r (Post.up g p)
 |exc c vs h1=>rw[e]at p;exact p
 |no=>rw[e]at p;exact p
theorem tO{α:Type}{W:α -> Hs->List Addr->Hp->Prop}{o:Out α}(n:∀c xs H,EX c xs H->vM c xs H)(p:Post B EX ρ H W o):Post B vM ρ H W o:=by
 cases o with
 |ok a h'=>exact p
 |exc c vs h'=>exact λρ' H' xs g r q=>n _ _ _ (p ρ' H' xs g r q)
 |no=>exact p
theorem CA{α:Type}{W:α -> Hs->List Addr->Hp->Prop}{m:M α}(p:Post B EX ρ H W (calm m h)):Post B NX ρ H W (m h):=by
 unfold calm at p;cases e:m h with
 |ok a h'=>rw[e]at p;exact p
 |exc c vs h'=>rw[e]at p;exact p.elim
 |no=>rw[e]at p;exact p.elim
theorem Js{j:Nat}{k:Nat}(hs:jX Φ es)(c:Ctx Φ Γ k X cl EX)
  (h:(xm Γ.sc x && Γ.fns[j]?==some (x,args.length)&&decide (args.length<1000)&&aV Γ es args)=true):PE X (.Call (.Name x p) args [] pos) (tV Φ (bd X cl) EX (.call j es))/\PT X (.Call (.Name x p) args [] pos) (tT Φ (bd X cl) EX (.call j es)):=by
 simp only[and_eq_true,beq_iff_eq,decide_eq_true_eq]at h;obtain⟨⟨⟨h1,h2⟩,h3⟩,h4⟩:=h;obtain⟨g1,g2,g3⟩:=c.gl h1;have room:eN k X.A:=c.room.mono (le_succ k);have q:PE X (.Call (.Name x p) args [] pos) (tV Φ (bd X cl) EX (.call j es)):=by
  obtain⟨E,hx,hX⟩:=c.Wi
  rcases c.fns j x _ h2 with ⟨_,f,fd,ps,f1,f2,f3,f4,f5⟩|⟨z,_⟩|⟨z,_⟩
  ·cases args with
   |nil=>
    cases es with
    |cons i fG=>rw[aV.eq_def]at h4;cases h4
    |nil=>refine(Dy f5 room g1 f2 f3 f4 .nil hx g2).imp λσ H Q aS=>?_;obtain⟨ρ,env,h,hE,r,p⟩:=aS;simp only[aN,bJ,cB]at p;exact⟨ρ,h,[],rfl,r,av.nil,tO hX p⟩
   |cons l ls=>
    cases es with
    |nil=>rw[aV]at h4;cases h4
    |cons i fG=>have h5:=h4;rw[aV.eq_def]at h5;dsimp only at h5;simp only[and_eq_true]at h5;refine(HX f5 room g1 f2 f3 f4 .nil hx (hs.1 Γ k X cl EX _ c h4) g2 (aK h5.1.1) (jW h5.2)).imp λσ H Q aS=>?_;obtain⟨ρ,env,h,hE,r,p⟩:=aS;simp only[aN]at p;refine⟨ρ,env,h,hE,r,gE p λvs h1 ρ1 H1 e1 g1 r1 p1 xs q1=>⟨ρ1,h1,vs,qI h4 e1,r1,by rw[aaP];exact q1,tO hX p1⟩⟩
  ·omega
  ·omega
 exact⟨q,eX q λ_=>rfl⟩
theorem Jt{j:Nat}(hs:jX Φ es):b8 Φ (.call j es):=by
 intro Γ k X cl EX e c h;apply qH h;intro x _ args _ h;exact Js hs c h
theorem N6{n:Nat}(ha:b8 Φ a):b8 Φ (.fld n a x):=AH λ_ _=>rfl
theorem N7(ha:b8 Φ a)(hs:jX Φ es):b8 Φ (.mth a m js es):=AH λ_ _=>rfl
end
section
variable {Φ:Fn} {Γ:rO} {k:Nat} {X:Cx} {cl:Nat->Addr} {EX:Nat->List V->Hp->Prop}
theorem N8:bootBuiltins "all" = some (.builtin "all"):=by decide +kernel
theorem N9:bootBuiltins "any" = some (.builtin "any"):=by decide +kernel
theorem tQ:bootBuiltins "sorted" = some (.builtin "sorted"):=by decide +kernel
theorem Oa:bootBuiltins "min" = some (.builtin "min"):=by decide +kernel
theorem Oc:bootBuiltins "max" = some (.builtin "max"):=by decide +kernel
theorem AK:bootBuiltins "list" = some (.type "list"):=by decide +kernel
theorem xr:bootBuiltins "tuple" = some (.type "tuple"):=by decide +kernel
theorem EH:bootBuiltins "str" = some (.type "str"):=by decide +kernel
theorem EI:bootBuiltins "int" = some (.type "int"):=by decide +kernel
theorem Ju:bootBuiltins "bool" = some (.type "bool"):=by decide +kernel
theorem Jv:bootBuiltins "dict" = some (.type "dict"):=by decide +kernel
theorem Jw:bootBuiltins "isinstance" = some (.builtin "isinstance"):=by decide +kernel
theorem xu:bJ Φ #[e] env=bnd (aN Φ e env) λd=>ret [d]:=by
 simp only[bJ,cB]
theorem six{T:String}(h:["list","tuple","str","bool","int","dict"].contains T=true):T = "list" \/ T = "tuple" \/ T = "str" \/ T = "bool" \/ T = "int" \/ T = "dict":=by simpa using h
theorem Jx{T:String}(h:["list","tuple","str","bool","int","dict"].contains T=true):(T:Str)∈bltNames/\bootBuiltins (T:Str)=some (.type T)/\(T:Str) ≠ "__name__" /\ ((T:Str)==("__debug__":Str))=false:=by
 rcases six h with rfl|rfl|rfl|rfl|rfl|rfl
 ·exact⟨by decide,AK,by decide,by decide⟩
 ·exact⟨by decide,xr,by decide,by decide⟩
 ·exact⟨by decide,EH,by decide,by decide⟩
 ·exact⟨by decide,Ju,by decide,by decide⟩
 ·exact⟨by decide,EI,by decide,by decide⟩
 ·exact⟨by decide,Jv,by decide,by decide⟩
theorem Jy{T:String}(hs:jX Φ es):b8 Φ (.blt (.isin T) es):=by
 intro Γ k X cl EX e c h;apply qH h;intro x p args pos h;simp only[and_eq_true,beq_iff_eq]at h;obtain⟨⟨h1,h2⟩,h3⟩:=h;subst h2;obtain⟨g1,g2,g3⟩:=c.gl h1;split at h3<;>first|cases h3|skip
 rename_i a y yp;simp only[and_eq_true,beq_iff_eq]at h3;obtain⟨⟨⟨k1,k2⟩,k3⟩,k4⟩:=h3;obtain⟨b1,b2,b3,b4⟩:=Jx k3;obtain⟨y1,y2,y3⟩:=c.gl k1;subst k2;cases es with
 |nil=>rw[aV]at k4;cases k4
 |cons i fG=>
  rw[aV.eq_def]at k4;dsimp only at k4;simp only[and_eq_true]at k4;cases fG with
  |cons j fG=>have:=k4.2;rw[aV.eq_def]at this;cases this
  |nil=>
   have q:PE X (.Call (.Name (RW (.isin T)) p) [a,.Name (T:Str) yp] [] pos) (tV Φ (bd X cl) EX (.blt (.isin T) #[i])):=by refine(eT (Jd (cl:=cl) (EX:=EX) (T:=T)) g1 (c.blt _ (show ("isinstance":Str)∈bltNames by decide)) Jw (eO (hs.2.1 Γ k X cl EX a c k4.1.2).1 (eO (HH (v:=.ty T) y1 (c.blt _ b1) b2 rfl b3 b4) jL) (aK k4.1.1)) g3 g2 (aK k4.1.1)).imp λσ H Q aS=>?_;obtain⟨ρ,env,h,hE,r,p⟩:=aS;simp only[aN,xu,aO,cB]at p;exact⟨ρ,env,h,hE,r,au p λv h1 ρ1 x H1 g1 r1 q1 p1=>⟨ρ1,h1,v,x,rfl,r1,q1,p1⟩⟩
   exact⟨q,eX q λ_=>rfl⟩
theorem Od:bootBuiltins "set" = some (.type "set"):=by decide +kernel
theorem Jz(ha:b8 Φ a):b8 Φ (.sset a):=by
 intro Γ k X cl EX e c h;apply qH h;intro x p1 q1 pos1 h;apply n6 h;intro q2 h;apply qH h;intro y p2 q3 pos2 h;apply n6 h;intro l h;simp only[and_eq_true,beq_iff_eq]at h;obtain⟨⟨⟨⟨⟨h1,h2⟩,h3⟩,h4⟩,h5⟩,h6⟩:=h;subst h1;subst h2;have q:PE X (.Call (.Name "sorted" p1) [.Call (.Name "set" p2) [l] [] pos2] [] pos1) (tV Φ (bd X cl) EX (.sset a)):=by have qe:=(ha Γ k X cl EX l c h6).1;intro pins s σ H Q I hh;have hd:X.A.handled=none:=I.ok.hd c.calm;refine((IG hd (c.gl h3).1 (c.blt _ (by decide)) (c.gl h4).1 (c.blt _ (by decide)) tQ Od qe (aK (env:=X.env) (es:=[]) h5)).imp λσ H Q ⟨ρ,env,h,hE,r,p⟩=>?_) pins s σ H Q I hh;simp only[aN]at p;refine⟨ρ,env,h,hE,r,au p λv h1 ρ1 x H1 g1 r1 q1 p1=>?_⟩;obtain⟨zs,e,p1⟩:=aA p1;obtain⟨ns,e1,p1⟩:=bG p1;obtain⟨e2,p1⟩:=aG p1;obtain⟨b,ys,rfl,q2,q3⟩:=dG r1 q1 e;rw[fO e1]at q3;rw[av.ints.mp q3]at q2;exact⟨b,ns,rfl,q2,aaz e2,λl hl=>eF r1 hl (av.ints.mpr rfl) p1⟩
 exact⟨q,eX q λ_=>rfl⟩
theorem JA{d k x:IE}(hd:b8 Φ d)(hk:b8 Φ k)(hx:b8 Φ x):b8 Φ (.dget d k x):=lY λ_ _=>rfl
theorem EJ(hd:b8 Φ d):b8 Φ (.lkeys d):=lY λ_ _=>rfl
theorem JB{d k x:IE}(hd:b8 Φ d)(hk:b8 Φ k)(hx:b8 Φ x):b8 Φ (.sdef d k x):=lY λ_ _=>rfl
theorem R0(st:starEach [l] env=[(false,eval l env)]):((backTo cp (starEach [l] env)).all (λx=>!x.1)&&(backToKw cp (keywordEach [] env)).all (λx=>x.1.isSome)
   && decide ([l].length+([]:List Keyword).length+(if ([]:List Keyword).isEmpty then 0 else 1)<30))=true:=by rw[st];rfl
theorem EK(ha:b8 Φ a):b8 Φ (.skeys a):=by
 intro Γ k X cl EX e c h;apply Ey h;intro o m ap q cp h;apply n6 h;intro l h;simp only[and_eq_true,beq_iff_eq]at h;obtain⟨⟨⟨⟨h1,h2⟩,h3⟩,h4⟩,h5⟩:=h;subst h2;obtain⟨j,p,rfl⟩:=NN h1;have st:=aK (env:=X.env) (es:=[]) h4;refine(λq=>⟨q,eX q λ_=>rfl⟩) ?_;refine(qc PySem.F.plainAttrs_str PySem.F.slot_str_index PySem.F.type_str_index Cm pZ (eO (ha Γ k X cl EX l c h5).1 jL st) (super_ok rfl) (R0 st) (by rw[h3];exact beq_self_eq_true _) st rfl).imp λσ H Q ⟨ρ,env,h,hE,r,p⟩=>?_;simp only[aN]at p;refine⟨rfl,ρ,env,h,hE,r,au p λv h1 ρ1 x H1 g1 r1 q1 p1=>?_⟩;obtain⟨n,e1,p2⟩:=bG p1;cases v<;>first|(cases e1;done)|skip
 rename_i y;rw[VR]at q1;change (Builtin.Str.occurrences IY y 0 IY.length 1).head?=some n at e1;cases eo:Builtin.Str.occurrences IY y 0 IY.length 1 with
 |nil=>rw[eo]at e1;cases e1
 |cons i rr=>rw[eo]at e1;cases e1;exact⟨IY,y,n,rr,rfl,by rw[q1],eo,aj r1 p2 _ VR.int⟩
theorem AL{K:Frag}{ρ:List Addr}{H:Hp}:∀{vs:List Val} {xs:List V} {j:Nat},av K ρ H vs xs->gp vs=some j->(∀y∈xs,y=.non\/∃a ts,y=.ref a/\iP K H a ts)/\xs[j]?=some .non/\∀m,m<j->xs[m]?≠some .non
 |[],_,_,_,e=>by cases e
 | v::vs,xs,j,q,e=>by
  rw[av]at q;obtain⟨x,r,rfl,q1,q2⟩:=q;cases v with
  |non=>
   change (if vs.all okN=true then some 0 else none)=some j at e;split at e
   ·rename_i ha;cases e
    rw[VR]at q1;subst q1;refine⟨λy hy=>?_,rfl,λm z=>absurd z (Nat.not_lt_zero m)⟩
    rcases aau.mp hy with z|z
    ·exact .inl z
    ·obtain⟨i,hi,rfl⟩:=List.mem_iff_getElem.mp z
     have hv:i<vs.length:=by rw[q2.length];exact hi
     obtain⟨y,g1,g2⟩:=q2.get (aav hv);rw[aav hi]at g1;rw[aaH g1];have:=aaQ.mp ha _ (List.getElem_mem hv);revert g2 this;generalize vs[i]=u;intro g2 this;cases u<;>first|(cases this;done)|skip
     ·rw[VR]at g2;exact .inl g2
     ·rw[VR]at g2;obtain⟨a,ts,e1,e2,_⟩:=g2;exact .inr ⟨a,ts,e1,e2⟩
   ·cases e
  |tup ws=>
   change (gp vs).map (· + 1)=some j at e;obtain⟨i,e1,rfl⟩:=aaD.mp e;obtain⟨k1,k2,k3⟩:=AL q2 e1;rw[VR]at q1;obtain⟨a,ts,rfl,e2,_⟩:=q1;refine⟨λy hy=>?_,k2,λm z=>?_⟩
   ·rcases aau.mp hy with z|z
    ·exact .inr ⟨a,ts,z,e2⟩
    ·exact k1 y z
   ·cases m with
    |zero=>exact λy=>by cases y
    |succ m=>exact k3 m (Nat.lt_of_succ_lt_succ z)
  |_=>cases e
theorem EL(ha:b8 Φ a):b8 Φ (.svals a):=by
 intro Γ k X cl EX e c h;apply Ey h;intro o m ap q cp h;apply n6 h;intro l h;simp only[and_eq_true,beq_iff_eq]at h;obtain⟨⟨⟨⟨h1,h2⟩,h3⟩,h4⟩,h5⟩:=h;subst h2;obtain⟨j,p,rfl⟩:=NK h1;refine(λq=>⟨q,eX q λ_=>rfl⟩) ?_;refine(qc PySem.F.plainAttrs_list PySem.F.slot_list_index PySem.F.type_list_index (Cn c.units) (ha Γ k X cl EX o c h5).1 (eO Dg jL rfl) (super_ok h3) (R0 rfl) (by rw[h4];exact beq_self_eq_true _) rfl rfl).imp λσ H Q ⟨ρ,env,h,hE,r,p⟩=>?_;simp only[aN]at p;refine⟨ρ,env,h,hE,r,au p λv h1 ρ1 x H1 g1 r1 q1 p1=>?_⟩;obtain⟨n,e1,p1⟩:=aA p1;obtain⟨vs,e2,e1⟩:=aac.mp e1;obtain⟨a,ys,rfl,k1,k2⟩:=dG r1 q1 e2;obtain⟨i1,i2,i3⟩:=AL k2 e1;exact⟨.inl ⟨rfl,ys,k1⟩,a,ys,n,rfl,rfl,k1,i1,i2,i3,aj r1 p1 _ VR.int⟩
theorem Oe(hs:jX Φ es):b8 Φ (.blt b es):=by
 cases b with
 |isin T=>exact Jy hs
 |_=>
  intro Γ k X cl EX e c h;apply qH h;intro x p args pos h;simp only[and_eq_true,beq_iff_eq]at h;obtain⟨⟨h1,h2⟩,h3⟩:=h;subst h2;obtain⟨g1,g2,g3⟩:=c.gl h1;cases args with
  |nil=>cases h3.1
  |cons l ls=>
   cases es with
   |nil=>have:=h3.2;rw[aV]at this;cases this
   |cons i fG=>
    have h5:=h3.2;rw[aV.eq_def]at h5;dsimp only at h5;simp only[and_eq_true]at h5;have hA:=hs.1 Γ k X cl EX _ c h3.2;have st:=aK (env:=X.env) (es:=ls) h5.1.1;have an:=jW (pos:=pos) (env:=X.env) h5.2;refine(λq=>⟨q,eX q λ_=>rfl⟩) ?_
    first
     |refine(eT (Nf (cl:=cl) (EX:=EX)) g1 (c.blt _ (by decide)) PySem.boot_len hA g3 g2 st an).imp λσ H Q ⟨ρ,env,h,hE,r,p⟩=>?_
     |refine(eT (Ng (cl:=cl) (EX:=EX) c.calm) g1 (c.blt _ (by decide)) Oa hA g3 g2 st an).imp λσ H Q ⟨ρ,env,h,hE,r,p⟩=>?_
     |refine(eT (Nh (cl:=cl) (EX:=EX) c.calm) g1 (c.blt _ (by decide)) Oc hA g3 g2 st an).imp λσ H Q ⟨ρ,env,h,hE,r,p⟩=>?_
     |refine(eT (Cr (cl:=cl) (EX:=EX)) g1 (c.blt _ (by decide)) tQ hA g3 g2 st an).imp λσ H Q ⟨ρ,env,h,hE,r,p⟩=>?_
     |refine(eT (nZ (cl:=cl) (EX:=EX) c.calm) g1 (c.blt _ (by decide)) N8 hA g3 g2 st an).imp λσ H Q ⟨ρ,env,h,hE,r,p⟩=>?_
     |refine(eT (Nk (cl:=cl) (EX:=EX) c.calm) g1 (c.blt _ (by decide)) N9 hA g3 g2 st an).imp λσ H Q ⟨ρ,env,h,hE,r,p⟩=>?_
     |refine(kF (Jb (cl:=cl) (EX:=EX)) g1 (c.blt _ (by decide)) AK hA g3 g2 st an).imp λσ H Q ⟨ρ,env,h,hE,r,p⟩=>?_
     |refine(kF (Ep (cl:=cl) (EX:=EX)) g1 (c.blt _ (by decide)) xr hA g3 g2 st an).imp λσ H Q ⟨ρ,env,h,hE,r,p⟩=>?_
     |refine(kF (Ni (cl:=cl) (EX:=EX)) g1 (c.blt _ (by decide)) EH hA g3 g2 st an).imp λσ H Q ⟨ρ,env,h,hE,r,p⟩=>?_
     |refine(kF (Nj (cl:=cl) (EX:=EX)) g1 (c.blt _ (by decide)) EI hA g3 g2 st an).imp λσ H Q ⟨ρ,env,h,hE,r,p⟩=>?_
    simp only[aN]at p;exact⟨ρ,env,h,hE,r,bQ p λvs h1 ρ1 H1 g1 r1 p1 xs q1=>⟨ρ1,h1,vs,r1,q1,p1⟩⟩
def XA:Me->String
 |.join=>"str" | .append=>"list" | .extend=>"list" | .remove=>"list" | .pop=>"str"
theorem JC(r:HR B ρ h H)(q:VR B.K ρ H v x)(e:recv h m v=some ()):Vr B.K (XA m) x H:=by
 cases m<;>cases v<;>simp only[recv]at e<;>first|cases e|skip
 ·rw[VR]at q;subst q;rfl
 all_goals first|(rw[VR]at q;subst q;rfl)|skip
 all_goals
  split at e
  ·rename_i xs e1;obtain⟨a,ys,rfl,q0,q1,q2⟩:=pP r q e1;exact .inl ⟨rfl,ys,.inl (.inl q1)⟩
  ·cases e
theorem Of(ha:b8 Φ a)(hs:jX Φ es):b8 Φ (.met m a es):=by
 intro Γ k X cl EX e c h;apply Ey h;intro o x ap args cp h;simp only[and_eq_true,beq_iff_eq]at h;obtain⟨⟨⟨⟨⟨⟨h1,h2⟩,h3⟩,h4⟩,h5⟩,h6⟩,h7⟩:=h;subst h1;cases args with
 |nil=>cases h3
 |cons l ls=>
  have hA:=hs.1 Γ k X cl EX _ c h7;have h8:noStar l=true/\∃fG,aV Γ fG ls=true:=by
   cases es with
   |nil=>rw[aV]at h7;cases h7
   |cons i fG=>rw[aV.eq_def]at h7;dsimp only at h7;simp only[and_eq_true]at h7;exact⟨h7.1.1,fG,h7.2⟩
  obtain⟨n1,fG,n2⟩:=h8;have st:=aK (env:=X.env) (es:=ls) n1;have an:=jW (pos:=cp) (env:=X.env) n2;have few:((backTo cp (starEach (l::ls) X.env)).all (λx=>!x.1)&&(backToKw cp (keywordEach [] X.env)).all (λx=>x.1.isSome)
   && decide ((l::ls).length+([]:List Keyword).length+(if ([]:List Keyword).isEmpty then 0 else 1)<30))=true:=by
   rw[EF h7];have:(l::ls).length<29:=aaz h4;simp only[Bool.true_and,and_eq_true];exact⟨rfl,decide_eq_true (by simp at this |-;omega)⟩
  have hl:(ap.endLine==cp.line)=true:=by rw[h5];exact beq_self_eq_true _
  refine(λq=>⟨q,eX q λ_=>rfl⟩) ?_;have fin:∀(T:String) (r:V->List V->Hp->VK->Prop),(∀x xs H Q,Qn (bd X cl) EX m x xs H Q->r x xs H Q)->T=XA m->∀σ H Q,tV Φ (bd X cl) EX (.met m a es) σ H Q->W9 X.K T r (tV Φ (bd X cl) EX a) (Xz Φ (bd X cl) EX es) σ H Q:=by rintro T rr hr rfl σ H Q ⟨ρ,env,h,hE,r,p⟩;simp only[aN]at p;refine⟨ρ,env,h,hE,r,au p λv h1 ρ1 x H1 g1 r1 q1 p1=>?_⟩;obtain⟨_,e1,p2⟩:=aA p1;refine⟨JC r1 q1 e1,ρ1,env,h1,hE.up g1,r1,bQ p2 λvs h2 ρ2 H2 g2 r2 p3 xs q2=>hr _ _ _ _ ⟨ρ2,h2,v,vs,r2,VR.up g2 _ _ q1,q2,p3⟩⟩
  cases m with
  |join=>exact(qc PySem.F.plainAttrs_str PySem.F.slot_str_join PySem.F.type_str_join (Je (cl:=cl) (EX:=EX)) (ha Γ k X cl EX o c h6).1 hA (super_ok h2) few hl st an).imp (fin _ _ (λ_ _ _ _ z=>z) rfl)
  |append=>exact(qc PySem.F.plainAttrs_list PySem.F.slot_list_append PySem.F.type_list_append (Cs (cl:=cl) (EX:=EX)) (ha Γ k X cl EX o c h6).1 hA (super_ok h2) few hl st an).imp (fin _ _ (λ_ _ _ _ z=>z) rfl)
  |extend=>exact(qc PySem.F.plainAttrs_list PySem.F.slot_list_extend PySem.F.type_list_extend (Ct (cl:=cl) (EX:=EX)) (ha Γ k X cl EX o c h6).1 hA (super_ok h2) few hl st an).imp (fin _ _ (λ_ _ _ _ z=>z) rfl)
  |remove=>exact(qc PySem.F.plainAttrs_list PySem.F.slot_list_remove PySem.F.type_list_remove (Cu (cl:=cl) (EX:=EX)) (ha Γ k X cl EX o c h6).1 hA (super_ok h2) few hl st an).imp (fin _ _ (λ_ _ _ _ z=>z) rfl)
  |pop=>exact(qc PySem.F.plainAttrs_str PySem.F.slot_str_split PySem.F.type_str_split (Nl (cl:=cl) (EX:=EX)) (ha Γ k X cl EX o c h6).1 hA (super_ok h2) few hl st an).imp (fin _ _ (λ_ _ _ _ z=>z) rfl)
end
theorem _root_.L2.PI.or(h:PI X tg iter t)(h':PI X tg iter t'):PI X tg iter (λσ H R=>t σ H R\/t' σ H R):=λpins s σ H R I hw=>hw.elim (h pins s σ H R I) (h' pins s σ H R I)
structure Walks (B:Bd) (src:Src) (J:It) (ρ1:List Addr) (H1:Hp):Prop where
 stop:∀{ρ h H i xs},Gw ρ1 H1 ρ H->HR B ρ h H->src.items h=some xs->xs.length<=i->J.stop i H
 go:∀{ρ h H i xs v},Gw ρ1 H1 ρ H->HR B ρ h H->src.items h=some xs->xs[i]?=some v->J.go i H
 yr:∀{ρ h H i xs v y H'},Gw ρ1 H1 ρ H->HR B ρ h H->src.items h=some xs->xs[i]?=some v->J.yr i H y H'->Gr ρ H ρ H'/\HR B ρ h H'/\VR B.K ρ H' v y
section
variable {B:Bd} {ρ1:List Addr} {H1:Hp} {a:Addr}
theorem CB(q:iP B.K H1 a xs)(e:av B.K ρ1 H1 vs xs):Walks B (.fix vs) (Vd B.K a) ρ1 H1 where
 stop:=λg r hi hl=>by
  cases hi;exact⟨xs,g.UI q,by rw[<-e.length];exact hl⟩
 go:=λg r hi hv=>by
  cases hi;obtain⟨x,k1,_⟩:=e.get hv;exact⟨xs,x,g.UI q,k1⟩
 yr:=λg r hi hv y=>by
  cases hi;obtain⟨rfl,y⟩:=y;obtain⟨x,k1,k2⟩:=e.get hv;have:=y xs (g.UI q);rw[k1]at this;cases this;exact⟨Gr.refl,r,VR.lD g _ _ k2⟩
theorem EM(q:Ls B.K H1 a xs)(e:av B.K ρ1 H1 vs xs):Walks B (.fix vs) (Uw B.K a) ρ1 H1 where
 stop:=λg r hi hl=>by
  cases hi;exact⟨xs,(g.M8 q).sq,by rw[<-e.length];exact hl⟩
 go:=λg r hi hv=>by
  cases hi;obtain⟨x,k1,_⟩:=e.get hv;exact⟨xs,x,(g.M8 q).sq,k1⟩
 yr:=λg r hi hv y=>by
  cases hi;obtain⟨rfl,y⟩:=y;obtain⟨x,k1,k2⟩:=e.get hv;have:=y xs (g.M8 q).sq;rw[k1]at this;cases this;exact⟨Gr.refl,r,VR.lD g _ _ k2⟩
theorem kK{i:Nat}(q:ρ1[i]?=some a)(g:Gw ρ1 H1 ρ H)(r:HR B ρ h H)(hi:(Src.live i).items h=some xs):∃ys,gD B.K H a ys/\av B.K ρ H xs ys:=by
 obtain⟨b,ys,e,k1,k2⟩:=dG r (VR.ref (Ar g.pre q)) (show aF h (.ref i)=some xs from hi);cases e;exact⟨ys,k1,k2⟩
theorem zo{i:Nat}(q:ρ1[i]?=some a):Walks B (.live i) (Uw B.K a) ρ1 H1 where
 stop:=λg r hi hl=>by
  obtain⟨ys,k1,k2⟩:=kK q g r hi;exact⟨ys,k1,by rw[<-k2.length];exact hl⟩
 go:=λg r hi hv=>by
  obtain⟨ys,k1,k2⟩:=kK q g r hi;obtain⟨x,k3,_⟩:=k2.get hv;exact⟨ys,x,k1,k3⟩
 yr:=λg r hi hv y=>by
  obtain⟨ys,k1,k2⟩:=kK q g r hi;obtain⟨rfl,y⟩:=y;obtain⟨x,k3,k4⟩:=k2.get hv;have:=y ys k1;rw[k3]at this;cases this;exact⟨Gr.refl,r,k4⟩
theorem signs_get{i:Nat}:(signs x)[i]?=(x.cps[i]?).map λc=>Val.str ⟨[c].toArray⟩:=by
 unfold signs;rw[aaF,getElem?_toList]
theorem tR(x:Str):(signs x).length=x.cps.size:=by unfold signs;simp
theorem zp:Walks B (.fix (signs x)) (VS x) ρ1 H1 where
 stop:=λg r hi hl=>by
  cases hi;rw[tR]at hl;exact hl
 go:=λg r hi hv=>by
  cases hi;have:=(aai.mp hv).1;rw[tR]at this;exact this
 yr:=λ{ρ h H i xs v y H'} g r hi hv y'=>by
  cases hi;obtain⟨rfl,c,e1,rfl⟩:=y';rw[signs_get,e1]at hv;cases hv;exact⟨Gr.refl,r,VR.str⟩
theorem iH(lo:Int)(n:Nat):(aU lo n).length=n:=by unfold aU;simp
theorem o4{lo:Int}{n:Nat}:Walks B (.fix (aU lo n)) (QS lo n) ρ1 H1 where
 stop:=λg r hi hl=>by
  cases hi;rw[iH]at hl;exact hl
 go:=λg r hi hv=>by
  cases hi;have:=(aai.mp hv).1;rw[iH]at this;exact this
 yr:=λ{ρ h H i xs v y H'} g r hi hv y'=>by
  cases hi;obtain⟨rfl,rfl⟩:=y';have hl:=(aai.mp hv).1;rw[iH]at hl;have e:(aU lo n)[i]?=some (.int (lo+i)):=by unfold aU;simp[hl]
  rw[e]at hv;cases hv;exact⟨Gr.refl,r,VR.int⟩
theorem gy:∀(i:Nat) (ds:List Val),(cR i ds).length=ds.length
 |_,[]=>rfl
 |i,d::r=>by simp[cR,gy (i+1) r]
theorem tU:∀(k:Nat) (ds:List Val) (i:Nat) (d:Val),ds[i]?=some d->(cR k ds)[i]?=some (.tup [.int ((k+i:Nat):Int),d])
 |_,[],_,_,h=>by simp at h
 |k,e::r,0,d,h=>by simp at h;subst h;simp[cR]
 | k,e::r,i+1,d,h=>by
  have:=tU (k+1) r i d (by simpa using h);simp only[cR,getElem?_cons_succ];rw[this];have e1:k+1+i=k+(i+1):=by omega
  rw[e1]
theorem oh{i:Nat}(e:(cR 0 ds)[i]?=some v):∃d,ds[i]?=some d/\v=.tup [.int (i:Int),d]:=by
 have hl:=(aai.mp e).1;rw[gy]at hl;have e1:=tU 0 ds i ds[i] (aav hl);rw[e]at e1;cases e1;exact⟨ds[i],aav hl,by rw[zero_add]⟩
theorem xw{i:Nat}(r:HR B ρ h H)(k1:gD B.K H a ys)(k2:av B.K ρ H xs ys)(hv:(cR 0 xs)[i]?=some v)(hy:(Rm B.K a).yr i H y H'):Gr ρ H ρ H'/\HR B ρ h H'/\VR B.K ρ H' v y:=by
 obtain⟨p,w,hn,rfl,rfl,hy⟩:=hy;obtain⟨d,e1,rfl⟩:=oh hv;obtain⟨x,k3,k4⟩:=k2.get e1;have:=hy ys k1;rw[k3]at this;cases this;exact⟨Gr.side hn,r.side hn,VR.tup (iP.of aD) (av.cons VR.int (av.cons (VR.up (Gr.side hn) _ _ k4) av.nil))⟩
theorem xx(q:Ls B.K H1 a xs)(e:av B.K ρ1 H1 vs xs):Walks B (.fix (cR 0 vs)) (Rm B.K a) ρ1 H1 where
 stop:=λg r hi hl=>by
  cases hi;rw[gy]at hl;exact⟨xs,(g.M8 q).sq,by rw[<-e.length];exact hl⟩
 go:=λg r hi hv=>by
  cases hi;obtain⟨d,e1,_⟩:=oh hv;obtain⟨x,k1,_⟩:=e.get e1;exact⟨xs,x,(g.M8 q).sq,k1⟩
 yr:=λg r hi hv y=>by
  cases hi;exact xw r (g.M8 q).sq (av.lD g _ _ e) hv y
theorem xy{i:Nat}(q:ρ1[i]?=some a):Walks B (.enum i) (Rm B.K a) ρ1 H1 where
 stop:=λg r hi hl=>by
  obtain⟨zs,e1,rfl⟩:=aaD.mp hi;obtain⟨ys,k1,k2⟩:=kK q g r e1;rw[gy]at hl;exact⟨ys,k1,by rw[<-k2.length];exact hl⟩
 go:=λg r hi hv=>by
  obtain⟨zs,e1,rfl⟩:=aaD.mp hi;obtain⟨ys,k1,k2⟩:=kK q g r e1;obtain⟨d,e2,_⟩:=oh hv;obtain⟨x,k3,_⟩:=k2.get e2;exact⟨ys,x,k1,k3⟩
 yr:=λg r hi hv y=>by
  obtain⟨zs,e1,rfl⟩:=aaD.mp hi;obtain⟨ys,k1,k2⟩:=kK q g r e1;exact xw r k1 k2 hv y
end
section
variable {Φ:Fn} {Γ:rO} {k:Nat} {X:Cx} {cl:Nat->Addr} {EX:Nat->List V->Hp->Prop}
def Qq(Φ:Fn)(ik:Ik)(it:jU)(env:Env):M Src:=bnd (bJ Φ it env) λits=>bu (srcOf ik its)
def tI(Φ:Fn)(B:Bd)(EX:Nat->List V->Hp->Prop)(ik:Ik)(it:jU):TI:=λσ H R=>∃ρ env h,cU B.K ρ env σ H/\HR B ρ h H /\
 Post B EX ρ H (λsrc h' ρ' H'=>(∃xs,src.items h'=some xs)/\∀J,Walks B src J ρ' H'->R J H') (Qq Φ ik it env h)
theorem LB(hs:jX Φ it)(c:Ctx Φ Γ k X cl EX)(h:AF Γ ik it iter=true)(ht:ik=.enum\/ik=.zip->∃es kk pos,tg=.Tuple es kk pos):PI X tg iter (tI Φ (bd X cl) EX ik it)/\∀x,foldedSetIterable iter X.env x=pure x:=by
 cases it with
 |nil=>rw[AF]at h;cases h
 |cons e es=>
  cases ik with
  |seq=>
   replace h:=ED h;obtain⟨rfl,h⟩:=h;simp only[and_eq_true]at h;have q:=(hs.2.1 Γ k X cl EX iter c h.2).1;refine⟨(((HQ q).or (Mq q)).or (IJ q)).imp λσ H R ⟨ρ,env,h,hE,r,p⟩=>?_,λx=>?_⟩
   ·simp only[Qq,xu,aO,cB]at p
    have key:∀(Q:VK),(∀v h1 ρ1 x H1,aN Φ e env h=.ok v h1->Gr ρ H ρ1 H1->HR (bd X cl) ρ1 h1 H1->VR X.K ρ1 H1 v x->Post (bd X cl) EX ρ1 H1 (λsrc h' ρ' H'=>(∃xs,src.items h'=some xs)/\∀J,Walks (bd X cl) src J ρ' H'->R J H') (bu (srcOf .seq [v]) h1)->Q x H1)->tV Φ (bd X cl) EX e σ H Q:=λQ kk=>
     ⟨ρ,env,h,hE,r,gE p λv h1 ρ1 H1 e1 g1 r1 p1 x q1=>kk v h1 ρ1 x H1 e1 g1 r1 q1 p1⟩
    cases ev:aN Φ e env h with
    |ok v h1=>
     cases v with
     |tup vs=>refine .inl (.inr (key _ λv h1 ρ1 x H1 e1 g1 r1 q1 p1=>?_));rw[ev]at e1;cases e1;obtain⟨src,e2,w1,w2⟩:=cA r1 p1;cases e2;rw[VR]at q1;obtain⟨a,xs,rfl,k1,k2⟩:=q1;exact⟨a,rfl,⟨xs,k1⟩,w2 _ (CB k1 k2)⟩
     |rl vs=>refine .inl (.inl (key _ λv h1 ρ1 x H1 e1 g1 r1 q1 p1=>?_));rw[ev]at e1;cases e1;obtain⟨src,e2,w1,w2⟩:=cA r1 p1;cases e2;rw[VR]at q1;obtain⟨a,xs,rfl,k1,k2⟩:=q1;exact⟨a,rfl,⟨xs,k1.sq⟩,w2 _ (EM k1 k2)⟩
     |ref i=>refine .inl (.inl (key _ λv h1 ρ1 x H1 e1 g1 r1 q1 p1=>?_));rw[ev]at e1;cases e1;obtain⟨src,e2,⟨zs,w1⟩,w2⟩:=cA r1 p1;cases e2;have q0:=q1;rw[VR]at q1;obtain⟨a,rfl,k1⟩:=q1;obtain⟨b,ys,e3,k2,k3⟩:=dG r1 q0 (show aF h1 (.ref i)=some zs from w1);cases e3;exact⟨a,rfl,⟨ys,k2⟩,w2 _ (zo k1)⟩
     |str z=>
      refine .inr (key _ λv h1 ρ1 x H1 e1 g1 r1 q1 p1=>?_);rw[ev]at e1;cases e1;obtain⟨src,e2,w1,w2⟩:=cA r1 p1;change (if L2.isAscii z=true then some (Src.fix (signs z)) else none)=some src at e2;split at e2
      ·rename_i ha;cases e2;rw[VR]at q1;exact⟨z,q1,ha,w2 _ zp⟩
      ·cases e2
     |_=>refine .inl (.inl (key _ λv h1 ρ1 x H1 e1 g1 r1 q1 p1=>?_));rw[ev]at e1;cases e1;obtain⟨src,e2,_⟩:=cA r1 p1;cases e2
    |exc _ _ _=>exact .inl (.inl (key _ λv h1 ρ1 x H1 e1=>by rw[ev]at e1;cases e1))
    |no=>exact .inl (.inl (key _ λv h1 ρ1 x H1 e1=>by rw[ev]at e1;cases e1))
   ·cases iter<;>first|rfl|(exact absurd h.1 aab)
  |range=>
   apply qH h;intro x xp q1 pos h;apply zh h;intro a args h;simp only[and_eq_true,beq_iff_eq]at h;obtain⟨⟨⟨⟨⟨h1,h2⟩,h3⟩,h4⟩,h5⟩,h6⟩:=h;subst h1;obtain⟨g1,g2,g3⟩:=c.gl h2;have hm:=c.blt _ (show ("range":Str)∈bltNames by decide);refine⟨?_,λx=>rfl⟩;have hA:=hs.1 Γ k X cl EX (a::args) c (by rw[aV.eq_def];simp[h3,h4,h5]);cases args with
   |nil=>
    cases es with
    |cons i fG=>rw[aV.eq_def]at h5;cases h5
    |nil=>
     refine(BF g1 hm hA (aK h3)).imp λσ H R aS=>?_;obtain⟨ρ,env,h,hE,r,p⟩:=aS;refine⟨ρ,env,h,hE,r,gE p λvs h1 ρ1 H1 e1 XC r1 p1 xs q1=>?_⟩;obtain⟨src,e2,w1,w2⟩:=cA r1 p1
     match vs,e2 with
     |[.int n],e2=>
      change (if inR n=true then some (Src.fix (aU 0 n.toNat)) else none)=some src at e2;split at e2
      ·rename_i hn;cases e2;simp only[inR,and_eq_true,decide_eq_true_eq]at hn;obtain⟨x,rfl,hx⟩:=av.one q1;rw[VR]at hx;subst hx;exact⟨n,rfl,hn.1,hn.2,w2 _ o4⟩
      ·cases e2
     |[.int _,.int _],e2=>have:=qI (Γ:=Γ) (ls:=[a]) (by rw[aV.eq_def];simp[h3,h4,aV]) e1;simp at this
   |cons b args=>
    cases args with
    |cons _ _=>have:=aaz h6;simp only[length_cons]at this;omega
    |nil=>
     have hb:noStar b=true:=by
      cases es with
      |nil=>rw[aV]at h5;cases h5
      |cons i fG=>rw[aV.eq_def]at h5;dsimp only at h5;simp only[and_eq_true]at h5;exact h5.1.1
     refine(BG g1 hm hA (by rw[aK h3,aK hb];rfl) (by rw[aK hb];rfl)).imp λσ H R aS=>?_;obtain⟨ρ,env,h,hE,r,p⟩:=aS;refine⟨ρ,env,h,hE,r,gE p λvs h1 ρ1 H1 e1 XC r1 p1 xs q1=>?_⟩;obtain⟨src,e2,w1,w2⟩:=cA r1 p1
     match vs,e2 with
     |[.int _],e2=>have:=qI (Γ:=Γ) (ls:=[a,b]) (by rw[aV.eq_def];simp[h3,h4,h5]) e1;simp at this
     |[.int lo,.int hi],e2=>
      change (if (inR lo&&inR hi)=true then some (Src.fix (aU lo (hi-lo).toNat)) else none)=some src at e2;split at e2
      ·rename_i hn;cases e2;simp only[inR,and_eq_true,decide_eq_true_eq]at hn;obtain⟨x,y,rfl,hx,hy⟩:=av.two q1;rw[VR]at hx;rw[VR]at hy;subst hx;subst hy;exact⟨lo,hi,rfl,⟨hn.1.1,hn.1.2,hn.2.1,hn.2.2⟩,w2 _ o4⟩
      ·cases e2
  |enum=>
   replace h:=ED h;obtain⟨rfl,h⟩:=h;apply qH h;intro x xp q1 pos h;apply n6 h;intro a h;simp only[and_eq_true,beq_iff_eq]at h;obtain⟨⟨⟨h1,h2⟩,h3⟩,h4⟩:=h;subst h1;obtain⟨g1,g2,g3⟩:=c.gl h2;have hm:=c.blt _ (show ("enumerate":Str)∈bltNames by decide);obtain⟨tes,tk,tp,rfl⟩:=ht (.inl rfl);refine⟨?_,λx=>rfl⟩;have hA:=hs.1 Γ k X cl EX [a] c (by rw[aV.eq_def];simp[h3,h4,aV]);refine(Iv g1 hm hA (aK h3)).imp λσ H R aS=>?_;obtain⟨ρ,env,h,hE,r,p⟩:=aS;refine⟨ρ,env,h,hE,r,gE p λvs h1 ρ1 H1 e1 XC r1 p1 xs q1=>?_⟩;obtain⟨src,e2,⟨zs,w1⟩,w2⟩:=cA r1 p1
   match vs,e2 with
   |[.rl ws],e2=>cases e2;obtain⟨x,rfl,hx⟩:=av.one q1;rw[VR]at hx;obtain⟨b,ys,rfl,k1,k2⟩:=hx;exact⟨b,rfl,⟨ys,k1.sq⟩,w2 _ (xx k1 k2)⟩
   |[.ref i],e2=>cases e2;obtain⟨x,rfl,hx⟩:=av.one q1;obtain⟨us,w3,_⟩:=aaD.mp w1;obtain⟨b,ys,rfl,k2,k3⟩:=dG r1 hx w3;rw[VR]at hx;obtain⟨b',e3,k1⟩:=hx;cases e3;exact⟨b,rfl,⟨ys,k2⟩,w2 _ (xy k1)⟩
  |zip=>cases h
end
section
variable {Φ:Fn} {Γ:rO} {k:Nat} {X:Cx} {cl:Nat->Addr} {EX:Nat->List V->Hp->Prop}
def qJ:List Nat->Qg
 |[]=>QM
 |i::is=>Le (oN i) (qJ is)
def CC(K:Frag):wQ->TG
 |.one i=>oN i
 |.tup is=>QN K is.length (qJ is)
def iI:List Nat->List V->L2.St->L2.St
 |i::is,v::vs,σ=>iI is vs (σ.set i (some v))
 |_,_,σ=>σ
theorem oj:∀{is:List Nat} {vs:List V} {σ:L2.St} {H:Hp} {Q:L2.St->Hp->Prop},vs.length=is.length->Q (iI is vs σ) H->qJ is vs σ H Q
 |[],[],_,_,_,_,h=>⟨rfl,h⟩
 |i::is,v::vs,σ,H,Q,hl,h=>⟨v,vs,rfl,oj (by simpa using hl) h⟩
theorem tW(hnd:X.N.Nodup):∀{is:List Nat} {es:List Expr},es.length=is.length->(∀p∈is.zip es,∃x pos,p.2=.Name x pos/\X.N[p.1]?=some x/\X.env.scope.names.lookup x=some .local)->Qh X es (qJ is)
 |[],[],_,_=>zZ
 | i::is,e::es,hl,h=>by
  obtain⟨x,pos,rfl,h1,h2⟩:=h (i,e) (by simp);exact vV (mz hnd h1 (.inl h2) (.inr h2)) (tW hnd (by simpa using hl) λp hp=>h p (by simp[hp]))
theorem gK:∀{es:List Expr},(∀e∈es,∃x pos,e=.Name x pos)->(assignEach es env).length=es.length/\(assignEach es env).findIdx? (·.1)=none
 |[],_=>⟨rfl,rfl⟩
 | e::es,h=>by
  obtain⟨x,pos,rfl⟩:=h e aah;obtain⟨h1,h2⟩:=gK (env:=env) (es:=es) λe he=>h e (aae _ he);have e1:assignEach (Expr.Name x pos::es) env=(false,assign (Expr.Name x pos) env)::assignEach es env:=rfl;rw[e1];refine⟨by simp[h1],?_⟩;rw[List.findIdx?_cons,h2];rfl
theorem EN{i:Nat}(h:Cv Γ (.one i) tg=true):∃x p,tg=.Name x p:=by
 cases tg<;>first|exact⟨_,_,rfl⟩|exact absurd h aab
theorem xA{is:List Nat}(h:Cv Γ (.tup is) tg=true):∃es k p,tg=.Tuple es k p:=by
 cases tg<;>first|exact⟨_,_,_,rfl⟩|exact absurd h aab
theorem Og(c:Ctx Φ Γ k X cl EX)(hnd:X.N.Nodup)(h:Cv Γ pat tg=true):PG X tg (CC X.K pat):=by
 cases pat with
 |one i=>obtain⟨x,xp,rfl⟩:=EN h;simp only[Cv,and_eq_true,beq_iff_eq]at h;obtain⟨h1,h2⟩:=h;exact mz hnd (by rw[c.N];exact h1) (.inl (by rw[c.sc];exact h2)) (.inr (by rw[c.sc];exact h2))
 |tup is=>
  obtain⟨es,kk,pos,rfl⟩:=xA h
  ·
   simp only[Cv,and_eq_true,beq_iff_eq,List.all_eq_true]at h;obtain⟨h1,h2⟩:=h;have names:∀p∈is.zip es,∃x pos,p.2=.Name x pos/\X.N[p.1]?=some x/\X.env.scope.names.lookup x=some .local:=λp hp=>by
    have q:=h2 p hp;cases ep:p.2<;>rw[ep]at q<;>simp at q;rename_i x pos';exact⟨x,pos',rfl,by rw[c.N];exact q.1,by rw[c.sc];exact q.2⟩
   have all:∀e∈es,∃x pos,e=.Name x pos:=λe he=>by
    obtain⟨n,hn,rfl⟩:=List.getElem_of_mem he;have hm:(is[n]'(by omega),es[n])∈is.zip es:=List.mem_iff_getElem?.mpr ⟨n,by rw[List.getElem?_zip_eq_some];simp[hn]⟩;obtain⟨x,pos,q,_⟩:=names _ hm;exact⟨x,pos,q⟩
   obtain⟨l1,l2⟩:=gK (env:=X.env) all;exact Dj c.calm (tW hnd h1 names) (by rw[l1,h1]) l2
def xB(Γ:rO):wQ->Expr->Bool
 |.one i,.Name x _=>Γ.N[i]?==some x&&(Γ.sc.names.lookup x==some .local || Γ.sc.names.lookup x==some .cell)
 | .tup is,.Tuple es _ _=>es.length==is.length&&(is.zip es).all λp=>match p.2 with
  |.Name x _=>Γ.N[p.1]?==some x&&(Γ.sc.names.lookup x==some .local || Γ.sc.names.lookup x==some .cell)
  |_=>false
 |_,_=>false
theorem qK(hfn:∀x,X.fn x=true)(hnd:X.N.Nodup):∀{is:List Nat} {es:List Expr},es.length=is.length->(∀p∈is.zip es,∃x pos,p.2=.Name x pos/\X.N[p.1]?=some x/\Loc X.env.scope x)->Qh X es (qJ is)
 |[],[],_,_=>zZ
 | i::is,e::es,hl,h=>by
  obtain⟨x,pos,rfl,h1,h2⟩:=h (i,e) (by simp);exact vV (mz hnd h1 h2 (.inl (hfn x))) (qK hfn hnd (by simpa using hl) λp hp=>h p (by simp[hp]))
theorem qL{i:Nat}(h:xB Γ (.one i) tg=true):∃x p,tg=.Name x p:=by
 cases tg<;>first|exact⟨_,_,rfl⟩|exact absurd h aab
theorem mY{is:List Nat}(h:xB Γ (.tup is) tg=true):∃es k p,tg=.Tuple es k p:=by
 cases tg<;>first|exact⟨_,_,_,rfl⟩|exact absurd h aab
theorem AM(c:Ctx Φ Γ k X cl EX)(hfn:∀x,X.fn x=true)(hnd:X.N.Nodup)(h:xB Γ pat tg=true):PG X tg (CC X.K pat):=by
 have loc:∀x,(Γ.sc.names.lookup x==some .local || Γ.sc.names.lookup x==some .cell)=true->Loc X.env.scope x:=λx e=>by
  unfold L2.Loc;rw[c.sc];simpa using e
 cases pat with
 |one i=>obtain⟨x,pos,rfl⟩:=qL h;simp only[xB,and_eq_true,beq_iff_eq]at h;obtain⟨h1,h2⟩:=h;exact mz hnd (by rw[c.N];exact h1) (loc _ h2) (.inl (hfn _))
 |tup is=>
  obtain⟨es,kk,pos,rfl⟩:=mY h
  ·
   simp only[xB,and_eq_true,beq_iff_eq,List.all_eq_true]at h;obtain⟨h1,h2⟩:=h;have names:∀p∈is.zip es,∃x pos,p.2=.Name x pos/\X.N[p.1]?=some x/\Loc X.env.scope x:=λp hp=>by
    have q:=h2 p hp;cases ep:p.2<;>rw[ep]at q<;>first|cases q|skip
    rename_i x pos';simp only[and_eq_true,beq_iff_eq]at q;exact⟨x,pos',rfl,by rw[c.N];exact q.1,loc _ q.2⟩
   have all:∀e∈es,∃x pos,e=.Name x pos:=λe he=>by
    obtain⟨n,hn,rfl⟩:=List.getElem_of_mem he;have hm:(is[n]'(by omega),es[n])∈is.zip es:=List.mem_iff_getElem?.mpr ⟨n,by rw[List.getElem?_zip_eq_some];simp[hn]⟩;obtain⟨x,pos,q,_⟩:=names _ hm;exact⟨x,pos,q⟩
   obtain⟨l1,l2⟩:=gK (env:=X.env) all;exact Dj c.calm (qK hfn hnd h1 names) (by rw[l1,h1]) l2
theorem cU.set{K:Frag}{ρ:List Addr}{env:Env}{σ:L2.St}{H:Hp}{i:Nat}{v:Val}{x:V}(e:cU K ρ env σ H)(hl:env.length = σ.length)(q:VR K ρ H v x):cU K ρ (env.set i (some v)) (σ.set i (some x)) H:=λj w hj=>by
 by_cases hij:i=j
 ·subst hij
  have hi:i<env.length:=by have:=(aai.mp hj).1;simpa using this
  rw[aaw hi]at hj;cases hj;exact⟨x,by rw[aaw (by rw[<-hl];exact hi)],q⟩
 ·rw[aak hij]at hj;rw[aak hij];exact e j w hj
theorem lZ{K:Frag}{ρ:List Addr}{H:Hp}:∀{is:List Nat} {ds:List Val} {xs:List V} {env env':Env} {σ:L2.St},bindAll is ds env=some env'->av K ρ H ds xs->cU K ρ env σ H->env.length = σ.length->cU K ρ env' (iI is xs σ) H/\env'.length=(iI is xs σ).length/\(iI is xs σ).length = σ.length/\xs.length=is.length
 | [],[],xs,env,env',σ,e,q,hE,hl=>by
  rw[av]at q;subst q;simp only[bindAll]at e;cases e;exact⟨hE,hl,rfl,rfl⟩
 | i::is,d::ds,xs,env,env',σ,e,q,hE,hl=>by
  rw[av]at q;obtain⟨x,r,rfl,q1,q2⟩:=q;simp only[bindAll]at e;obtain⟨a1,a2,a3,a4⟩:=lZ e q2 (hE.set hl q1) (by simp[hl]);exact⟨a1,a2,by rw[show iI (i::is) (x::r) σ = iI is r (σ.set i (some x)) from rfl,a3];simp,by simp[a4]⟩
 |[],_::_,_,_,_,_,e,_,_,_=>by simp[bindAll]at e
 |_::_,[],_,_,_,_,e,_,_,_=>by simp[bindAll]at e
theorem uZ{K:Frag}{ρ:List Addr}{H:Hp}{pat:wQ}{v:Val}{x:V}{env env':Env}{σ:L2.St}{Q:L2.St->Hp->Prop}(e:gq pat v env=some env')(q:VR K ρ H v x)(hE:cU K ρ env σ H)(hl:env.length = σ.length)
  (kk:∀σ',cU K ρ env' σ' H->env'.length = σ'.length -> σ'.length = σ.length->Q σ' H):CC K pat x σ H Q:=by
 cases pat with
 |one i=>simp only[gq]at e;cases e;exact kk _ (hE.set hl q) (by simp[hl]) (by simp)
 |tup is=>
  cases v<;>simp only[gq]at e<;>first|cases e|skip
  rw[VR]at q;obtain⟨a,xs,rfl,q1,q2⟩:=q;obtain⟨a1,a2,a3,a4⟩:=lZ e q2 hE hl;exact⟨a,xs,rfl,q1,a4,oj a4 (kk _ a1 a2 a3)⟩
theorem kL{α β:Type}{W:β -> Hs->List Addr->Hp->Prop}{W':α -> Hs->List Addr->Hp->Prop}{m:M α}{f:α -> M β}(g:Gr ρ H ρ' H')(p:Post B EX ρ H W (bnd m f h))
  (kk:∀v h1 ρ2 H2,m h=.ok v h1->Post B EX ρ H W (f v h1)->Gr ρ' H' ρ2 H2->HR B ρ2 h1 H2->W' v h1 ρ2 H2):Post B EX ρ' H' W' (m h):=by
 unfold bnd at p;cases e:m h with
 |ok v h1=>rw[e]at p;exact λρ2 H2 g2 r2=>kk v h1 ρ2 H2 e p g2 r2
 |exc c vs h1=>rw[e]at p;exact λρ2 H2 xs g2 r2 q=>p ρ2 H2 xs (g.trans g2) r2 q
 |no=>rw[e]at p;exact p
theorem HR.adopt(r:HR B ρ h H)(hD:D ∉ ρ)(q:OR B (ρ ++ [D]) H D u):HR B (ρ ++ [D]) (h++[u]) H where
 len:=by simp[r.len]
 nd:=by rw[nodup_append];refine⟨r.nd,by simp,λa ha b hb=>?_⟩;rw[aay.mp hb];rintro rfl;exact hD ha
 ob i v a q1 q2:=by
  by_cases hi:i<h.length
  ·rw[aax hi]at q1;rw[aax (by rw[r.len];exact hi)]at q2;exact OR.lD ⟨prefix_append _ _,λ_ _ e _=>e⟩ rfl (r.ob i v a q1 q2)
  ·rw[aaG (by omega)]at q1
   rw[aaG (by rw[r.len];omega)]at q2;have hi0:i-h.length=0:=by have:=(aai.mp q1).1;simp at this;omega
   rw[hi0]at q1;rw[r.len,hi0]at q2;simp at q1 q2;subst q1;subst q2;exact q
theorem Gr.over(g:Gr ρ H ρ' H')(hD:H D=none):Gr ρ H ρ' (upd H' D o) where
 pre:=g.pre
 keep a u e n:=by rw[ao (aE e hD)];exact g.keep a u e n
 firm a u e n:=by rw[ao (aE e hD)];exact g.firm a u e n
 fresh:=g.fresh
theorem Gr.adopt(g:Gr ρ H ρ' H')(hD:H D=none):Gr ρ H (ρ'++[D]) H' where
 pre:=g.pre.trans (prefix_append _ _)
 keep:=g.keep
 firm:=g.firm
 fresh a z n:=by
  rcases mem_append.mp z with z|z
  ·exact g.fresh a z n
  ·rw[aay.mp z];exact hD
theorem JD{K:Frag}{ρ:List Addr}{env:Env}{σ:L2.St}{H:Hp}{js:List (Option Nat)}(e:cU K ρ env σ H):cU K ρ (jE js env) (jn js σ) H:=λi v q=>by
 unfold jE at q;rw[aaF]at q;cases hj:js[i]? with
 |none=>rw[hj]at q;cases q
 |some o=>
  rw[hj]at q;simp only[map_some]at q;cases o with
  |none=>cases q
  |some j=>
   dsimp only at q;cases ej:env[j]? with
   |none=>rw[ej]at q;cases q
   |some w=>
    cases w with
    |none=>rw[ej]at q;cases q
    |some d=>rw[ej]at q;cases q;obtain⟨x,q1,q2⟩:=e j _ ej;refine⟨x,?_,q2⟩;unfold jn;rw[aaF,hj];simp only[map_some];rw[q1]
theorem EO{K:Frag}{ρ:List Addr}{env:Env}{σ σ':L2.St}{H:Hp}{js:List (Option Nat)}{pat:wQ}(hp:(xq pat).all (λi=>js[i]?==some none)=true)(e:cU K ρ (jE js env) σ H)(hs:∀i,i∉xq pat -> σ'[i]? = σ[i]?):cU K ρ (jE js env) σ' H:=λi v q=>by
 have hi:i∉xq pat:=λz=>by
  have h1:=aaQ.mp hp i z;have h2:js[i]?=some none:=eq_of_beq h1;unfold jE at q;rw[aaF,h2]at q;cases q
 obtain⟨x,q1,q2⟩:=e i v q;exact⟨x,(hs i hi).trans q1,q2⟩
theorem qM:∀{is:List Nat} {xs:List V} {σ:L2.St} {i:Nat},i∉is->(iI is xs σ)[i]? = σ[i]?
 |[],xs,σ,i,_=>by cases xs<;>rfl
 |j::is,[],σ,i,_=>rfl
 | j::is,x::xs,σ,i,h=>by
  rw[show iI (j::is) (x::xs) σ = iI is xs (σ.set j (some x)) from rfl,qM λz=>h (aae _ z),aak λz=>h (by rw[z];exact aah)]
theorem ES{K:Frag}{ρ:List Addr}{H:Hp}{pat:wQ}{v:Val}{x:V}{env env':Env}{σ:L2.St}{Q:L2.St->Hp->Prop}(e:gq pat v env=some env')(q:VR K ρ H v x)(hE:cU K ρ env σ H)(hl:env.length = σ.length)
  (kk:∀σ',cU K ρ env' σ' H -> σ'.length = σ.length->(∀i,i∉xq pat -> σ'[i]? = σ[i]?)->Q σ' H):CC K pat x σ H Q:=by
 cases pat with
 |one i=>simp only[gq]at e;cases e;exact kk _ (hE.set hl q) (by simp) λj hj=>aak λz=>hj (by rw[z];exact aay.mpr rfl)
 |tup is=>
  cases v<;>simp only[gq]at e<;>first|cases e|skip
  rw[VR]at q;obtain⟨a,xs,rfl,q1,q2⟩:=q;obtain⟨a1,a2,a3,a4⟩:=lZ e q2 hE hl;exact⟨a,xs,rfl,q1,a4,oj a4 (kk _ a1 a3 λj hj=>qM hj)⟩
theorem o5{N':List Str}{js:List (Option Nat)}{pat:wQ}{ik:Ik}{it:jU}{t elt:IE}(hs:jX Φ it)(hc:b8 Φ t)(he:b8 Φ elt){vM:Nat->List V->Hp->Prop}{ce:Scope->List (Str×Addr)->List Addr->Addr->Shared->Hp->Value->Shared->Prop}(c:Ctx Φ Γ k X cl vM)(c':∀scope cls C s H fp,Ctx Φ (Γ.NH scope N') k ((aT X scope N' cls C s H fp).gg (ce scope cls fp C s H)) cl vM){e:Expr}(h:bH Γ (.comp N' js pat ik it t elt) e=true) :
  ∃e' tg iter ifs scope pos wi g tt te,e=.ListComp e' [⟨tg,iter,ifs,0⟩] scope pos/\ic X.N X.env.scope scope N' js=true/\PI X tg iter wi/\(∀cls C s H fp,PG ((aT X scope N' cls C s H fp).gg (ce scope cls fp C s H)) tg g)/\(∀cls C s H fp,DK ((aT X scope N' cls C s H fp).gg (ce scope cls fp C s H)) ifs tt) /\
   (∀cls C s H fp,PE ((aT X scope N' cls C s H fp).gg (ce scope cls fp C s H)) e' te)/\(∀x,foldedSetIterable iter X.env x=pure x)/\∀σ H Q,(∃ρ env h,cU X.K ρ env σ H/\HR (bd X cl) ρ h H/\Post (bd X cl) vM ρ H (WV X.K Q) (Ej Φ js pat ik it t elt env h))->wg wi js g tt te σ H Q:=by
 apply Jh h;intro e' q1 scope pos h;apply n6 h;intro q2 h;apply Nv h;intro tg iter ifs q3 h;apply xj h;intro h;simp only[and_eq_true]at h;obtain⟨⟨⟨⟨⟨⟨⟨h1,h2⟩,h3⟩,h4⟩,h5⟩,h6⟩,h7⟩,h8⟩:=h;have hnd:N'.Nodup:=aaz h3;have hen:ik=.enum\/ik=.zip->∃es kk pos,tg=.Tuple es kk pos:=by
  intro hz;cases pat with
  |one i=>rcases hz with rfl|rfl<;>cases h6
  |tup is=>exact xA h4
 obtain⟨hi,hf⟩:=LB hs c h2 hen
 let tt:TT:=if cJ t=true then we else tT Φ (bd X cl) vM t
 have Vl:∀cls C s H fp,DK ((aT X scope N' cls C s H fp).gg (ce scope cls fp C s H)) ifs tt:=λcls C s H fp=>by
  have c':=c' scope cls C s H fp;cases ifs with
  |nil=>have:cJ t=true:=h7;show DK _ [] (if cJ t=true then we else tT Φ (bd X cl) vM t);rw[aan this];exact Ip
  |cons a r=>
   cases r with
   |cons _ _=>cases h7
   |nil=>simp only[and_eq_true,not_eq_true']at h7;show DK _ [a] (if cJ t=true then we else tT Φ (bd X cl) vM t);rw[aaj (by rw[h7.1];exact aab)];exact Iq (hc _ _ _ _ _ _ c' h7.2).2
 refine⟨e',tg,iter,ifs,scope,pos,_,CC X.K pat,tt,tV Φ (bd X cl) vM elt,rfl,by rw[c.N,c.sc];exact h1,hi,λcls C s H fp=>Og (c' scope cls C s H fp) hnd h4,Vl,λcls C s H fp=>(he _ _ _ _ _ _ (c' scope cls C s H fp) h8).1,hf,λσ H Q ⟨ρ,env,h,hE,r,p⟩=>?_⟩
 ·skip
  unfold Ej at p
  let f:Val->M (Option Val):=λd=>bnd (bu (gq pat d (jE js env))) λenv'=>bnd (if cJ t=true then ret true else bnd (aN Φ t env') λv=>ask λh=>fS h v) λt=>
    if t=true then bnd (aN Φ elt env') λe=>ret (some e) else ret none
  have p':Post (bd X cl) vM ρ H (WV X.K Q) (bnd (Qq Φ ik it env) (λsrc=>bnd (ask λh=>src.items h) λxs=>aH (decide (xs.length<=100000)) (bnd (fF src f xs.length 0 []) λys=>new (.lst ys))) h):=by unfold Qq;rw[aO];exact p
  refine⟨ρ,env,h,hE,r,bQ p' λsrc h1 ρ1 H1 g1 r1 p1=>?_⟩;obtain⟨xs,e1,p2⟩:=aA p1;obtain⟨e2,p3⟩:=aG p2;have e2:=aaz e2;refine⟨⟨xs,e1⟩,λJ wk D hD=>?_⟩;have hDl:(100000:Nat)<sizeLine:=by rw[sizeLine_eq];decide
  refine⟨λi m σ' H'=>∃ρ' h' acc ys,Gr ρ1 H1 ρ' H'/\HR (bd X cl) ρ' h' H'/\D ∉ ρ'/\H' D=some (.lst ys)/\av X.K ρ' H' acc ys/\cU X.K ρ' (jE js env) σ' H' /\ σ'.length=js.length/\acc.length<=i/\i+m=xs.length /\
   Post (bd X cl) vM ρ1 H1 (WV X.K Q) (bnd (fF src f m i acc) (λys=>new (.lst ys)) h'),⟨xs.length,ρ1,h1,[],[],Gr.side hD,r1.side hD,r1.out hD,aD,av.nil,(JD (hE.up g1)).up (Gr.side hD),ly js σ,aal _,by omega,p3⟩,?_⟩
  rintro i m σ' H' ⟨ρ',h',acc,ys,w1,w2,w3,w4,w5,w6,w7,w8,w9,u5⟩;have fin:∀p:Post (bd X cl) vM ρ1 H1 (WV X.K Q) (new (.lst acc) h'),Q (.ref D) H':=λp=>by
   refine p (ρ'++[D]) H' (w1.adopt hD) (w2.adopt w3 ⟨ys,w4,av.lD ⟨prefix_append _ _,λ_ _ e _=>e⟩ _ _ w5⟩) _ (VR.ref (by rw[<-w2.len];simp))
  cases m with
  |zero=>
   simp only[fF,aO]at u5;obtain⟨xs',k1,u5⟩:=aA u5;have R1:Post (bd X cl) vM ρ1 H1 (WV X.K Q) (bnd (aH (decide (xs'.length<=i)) (ret acc)) (λys=>new (.lst ys)) h'):=u5;unfold aH at R1
   by_cases hl:xs'.length<=i
   ·have:bnd (λh=>if decide (xs'.length<=i)=true then ret acc h else Out.no) (λys=>new (.lst ys)) h'=new (.lst acc) h':=by
     unfold bnd;dsimp only;rw[aan (decide_eq_true hl)];rfl
    rw[this] at R1;exact .inl ⟨wk.stop w1.w w2 k1 hl,fin R1⟩
   ·have:bnd (λh=>if decide (xs'.length<=i)=true then ret acc h else Out.no) (λys=>new (.lst ys)) h'=Out.no:=by
     unfold bnd;dsimp only;rw[aaj (by rw[decide_eq_false hl];exact aab)]
    rw[this] at R1;exact R1.elim
  |succ m=>
   simp only[fF,aO]at u5;obtain⟨xs',k1,u5⟩:=aA u5;cases hx:xs'[i]? with
   |none=>rw[hx]at u5;exact .inl ⟨wk.stop w1.w w2 k1 (List.getElem?_eq_none_iff.mp hx),fin u5⟩
   |some v=>
    rw[hx]at u5;dsimp only at u5;refine .inr ⟨wk.go w1.w w2 k1 hx,_,λC8 MQ w=>⟨m,lt_succ_self _,w⟩,λy H2 hy=>?_⟩;obtain⟨z1,z2,z3⟩:=wk.yr w1.w w2 k1 hx hy;simp only[aO]at u5;simp only[f,aO]at u5;obtain⟨env',k2,u5⟩:=bG u5;refine ES k2 z3 (w6.up z1) (by rw[w7];simp[jE]) λσ2 UK hl2 hout=>?_;have R3:H2 D=some (.lst ys):=z1.keep _ _ w4 w3;have G2:Gr ρ1 H1 ρ' H2:=w1.trans z1;have body:∀(b:Bool) (h3:Hs) (ρ3:List Addr) (H3:Hp),Gr ρ' H2 ρ3 H3->HR (bd X cl) ρ3 h3 H3->Post (bd X cl) vM ρ1 H1 (WV X.K Q) (bnd (if b=true then bnd (aN Φ elt env') λe=>ret (some e) else ret none) (λo=>bnd (fF src f m (i+1) (match o with|some e=>acc++[e]|none=>acc)) λys=>new (.lst ys)) h3) ->
      (if b=true then tV Φ (bd X cl) vM elt σ2 H3 (λy H4=>∃ys,H4 D=some (.lst ys)/\ys.length<sizeLine/\(λσ' H'=>∃ρ' h' acc ys,Gr ρ1 H1 ρ' H'/\HR (bd X cl) ρ' h' H'/\D ∉ ρ'/\H' D=some (.lst ys)/\av X.K ρ' H' acc ys/\cU X.K ρ' (jE js env) σ' H' /\ σ'.length=js.length/\acc.length<=i+1/\i+1+m=xs.length /\
       Post (bd X cl) vM ρ1 H1 (WV X.K Q) (bnd (fF src f m (i+1) acc) (λys=>new (.lst ys)) h')) σ2 (upd H4 D (.lst (ys++[y]))))
      else (λσ' H'=>∃ρ' h' acc ys,Gr ρ1 H1 ρ' H'/\HR (bd X cl) ρ' h' H'/\D ∉ ρ'/\H' D=some (.lst ys)/\av X.K ρ' H' acc ys/\cU X.K ρ' (jE js env) σ' H' /\ σ'.length=js.length/\acc.length<=i+1/\i+1+m=xs.length /\
       Post (bd X cl) vM ρ1 H1 (WV X.K Q) (bnd (fF src f m (i+1) acc) (λys=>new (.lst ys)) h')) σ2 H3):=by
     intro b h3 ρ3 H3 g3 r3 p5;have Wj:D ∉ ρ3:=λz=>by have:=g3.fresh D z w3;rw[R3]at this;cases this
     have Wk:H3 D=some (.lst ys):=g3.keep _ _ R3 w3;have E3:cU X.K ρ3 (jE js env) σ2 H3:=(EO h5 (w6.up z1) hout).up g3;cases b with
     |true=>
      rw[aan rfl]at p5 |-;simp only[aO,cB]at p5;refine⟨ρ3,env',h3,UK.up g3,r3,kL (G2.trans g3) p5 λv4 h4 ρ4 H4 _ p6 g4 r4 y4 q4=>?_⟩;have XD:D ∉ ρ4:=λz=>by have:=g4.fresh D z Wj;rw[Wk]at this;cases this
      have Wl:H4 D=some (.lst ys):=g4.keep _ _ Wk Wj;have gw:Gw ρ4 H4 ρ4 (upd H4 D (.lst (ys++[y4]))):=Gw.other Wl rfl;have la:=w5.length;refine⟨ys,Wl,by omega,ρ4,h4,acc++[v4],ys++[y4],((G2.trans g3).trans g4).over hD,r4.other XD Wl rfl,XD,aD,av.append (av.lD gw _ _ (av.up ((z1.trans g3).trans g4) _ _ w5)) (av.lD gw _ _ (av.cons q4 av.nil)),(E3.up g4).lD gw,by rw[hl2,w7],by simp;omega,by omega,p6⟩
     |false=>rw[aaj aab]at p5 |-;exact⟨ρ3,h3,acc,ys,G2.trans g3,r3,Wj,Wk,av.up (z1.trans g3) _ _ w5,E3,by rw[hl2,w7],by omega,by omega,p5⟩
    show (if cJ t=true then we else tT Φ (bd X cl) vM t) σ2 H2 _
    by_cases hn:cJ t=true
    ·rw[aan hn];rw[aan hn,cB]at u5;exact body true h' ρ' H2 Gr.refl z2 u5
    ·rw[aaj hn];rw[aaj hn]at u5;exact⟨ρ',env',h',UK,z2,kL G2 u5 λb h3 ρ3 H3 _ p5 g3 r3=>body b h3 ρ3 H3 g3 r3 p5⟩
theorem qN(hs:jX Φ it)(hc:b8 Φ t)(he:b8 Φ elt)(c:Ctx Φ Γ k X cl EX)(h:bH Γ (.comp N' js pat ik it t elt) e=true) :
  ∃e' tg iter ifs scope pos wi g tt te,e=.ListComp e' [⟨tg,iter,ifs,0⟩] scope pos/\ic X.N X.env.scope scope N' js=true/\PI X tg iter wi/\(∀cls C s H fp,PG (aT X scope N' cls C s H fp) tg g)/\(∀cls C s H fp,DK (aT X scope N' cls C s H fp) ifs tt) /\
   (∀cls C s H fp,PE (aT X scope N' cls C s H fp) e' te)/\(∀x,foldedSetIterable iter X.env x=pure x)/\∀σ H Q,tV Φ (bd X cl) EX (.comp N' js pat ik it t elt) σ H Q->wg wi js g tt te σ H Q:=by
 obtain⟨e',tg,iter,ifs,scope,pos,wi,g,tt,te,q0,q1,q2,q3,q4,q5,q6,q7⟩:=o5 (ce:=λ_ _ _ _ _ _ _ _=>False) hs hc he c.no (λscope cls C s H fp=>c.NH scope N' cls C s H fp) h;refine⟨e',tg,iter,ifs,scope,pos,wi,g,tt,te,q0,q1,q2,q3,q4,q5,q6,λσ H Q ⟨ρ,env,h,hE,r,p⟩=>q7 σ H Q ⟨ρ,env,h,hE,r,?_⟩⟩;simp only[aN]at p;exact CA p
theorem JE(hs:jX Φ it)(hc:b8 Φ t)(he:b8 Φ elt):b8 Φ (.comp N' js pat ik it t elt):=by
 intro Γ k X cl EX e c h;obtain⟨e',tg,iter,ifs,scope,pos,wi,g,tt,te,rfl,h1,h2,h3,h4,h5,h6,h7⟩:=qN hs hc he c h;have q:=(Ir (pos:=pos) h1 c.calm h2 h3 h4 h5 h6).imp h7;exact⟨q,eX q λ_=>rfl⟩
theorem JF{k:Key}:fM [(k,.bl true)] k (.bl true)=[(k,.bl true)]:=by simp[fM]
theorem JG{k l:Key}(h:k≠l):fM [(k,.bl true)] l (.bl true)=[(k,.bl true),(l,.bl true)]:=by simp[fM,h]
theorem JH{k:Key}:jm [] [(k,.bl true),(k,.bl true)]=[(k,.bl true)]:=by simp[jm,putK]
theorem JI{k l:Key}(h:k≠l):jm [] [(k,.bl true),(l,.bl true)]=[(k,.bl true),(l,.bl true)]:=by simp[jm,putK,h]
theorem JJ{k v:IE}(hk:b8 Φ k)(hv:b8 Φ v):b8 Φ (.dct1 k v):=by
 intro Γ n X cl EX e c h;apply Ay h;intro q1 q2 pos h;apply Ji h;intro q3 q4 h;apply uX h;intro a h;apply uX h;intro b h;apply Ji h;intro va vb h;simp only[and_eq_true]at h;obtain⟨⟨⟨h1,h2⟩,h3⟩,h4⟩:=h;obtain⟨j3,p3,rfl⟩:=AE h3;obtain⟨j4,p4,rfl⟩:=AE h4;have q:PE X (.Dict [some a,some b] [.Constant (.bool true) j3 p3,.Constant (.bool true) j4 p4] pos) (tV Φ (bd X cl) EX (.dct1 k v)):=by
  refine(Im (v9 (hk Γ n X cl EX a c h1).1 zY (v9 (hv Γ n X cl EX b c h2).1 zY Il)) rfl rfl (by simp) (by simp)).imp λσ H Q aS=>?_;obtain⟨ρ,env,h,hE,r,p⟩:=aS;intro D hD;have g0:Gr ρ H ρ (upd H D (.dK [])):=Gr.side hD;simp only[aN]at p;refine⟨ρ,env,h,hE.up g0,r.side hD,kL g0 p λx h1 ρ1 H1 _ p1 g1 r1 y1 q1=>?_⟩;obtain⟨kk,e1,p1⟩:=bG p1;refine⟨ρ1,env,h1,(hE.up g0).up g1,r1,kL (g0.trans g1) p1 λy h2 ρ2 H2 _ p2 g2 r2 y2 q2=>?_⟩;obtain⟨k2,e3,p2⟩:=bG p2;have XE:D ∉ ρ:=r.out hD;have R3:D ∉ ρ2:=λz=>by have:=(g1.trans g2).fresh D z XE;rw[aD]at this;cases this
  have e2:H2 D=some (.dK []):=(g1.trans g2).keep D _ aD XE;have ek:y1=kV kk:=by
   cases x<;>first|(cases e1;done)|skip
   ·cases e1;rw[VR]at q1;exact q1
   ·cases e1;rw[VR]at q1;exact q1
  have Zw:y2=kV k2:=by
   cases y<;>first|(cases e3;done)|skip
   ·cases e3;rw[VR]at q2;exact q2
   ·cases e3;rw[VR]at q2;exact q2
  refine⟨e2,[(kk,.bl true),(k2,.bl true)],by rw[ek,Zw];rfl,by simp,?_⟩;have Wm:∀H,VR X.K (ρ2++[D]) H (.bl true) (.bl true):=λH=>by rw[VR]
  refine p2 (ρ2++[D]) _ ((((g0.trans g1).trans g2).over hD).adopt hD) ((r2.other R3 e2 rfl).adopt R3 ⟨_,aD,?_⟩) _ (Au r2)
  by_cases ce:kk=k2
  ·subst ce;rw[JF,JH];exact⟨.bl true,[],rfl,Wm _,rfl⟩
  ·rw[JG ce,JI ce];exact⟨.bl true,_,rfl,Wm _,.bl true,[],rfl,Wm _,rfl⟩
 exact⟨q,eX q λ_=>rfl⟩
theorem JK{p q:Nat}:b8 Φ (.dflt N' js p q d w):=lY λ_ _=>rfl
theorem Oh(ha:b8 Φ a):b8 Φ (.isc a x bs):=lY λ_ _=>rfl
theorem iJ:(∀ir,b8 Φ ir)/\∀fG,jX Φ fG:=by
 have one:∀ir,b8 Φ ir:=by
  intro ir;exact IE.rec (motive_1:=λir=>b8 Φ ir) (motive_2:=λfG=>jX Φ fG) (λ_=>NP) (λ_=>NQ) (λ_ _=>NR) RX (λ_ _ _ a b=>NS a b) (λ_ a=>NT a) (λ_ _ _ a b=>NU a b) (λ_ _ _ _ _ a b c=>NV a b c)
   (λ_ _ a b=>NW a b) (λ_ _ a b=>RY a b) (λ_ a=>NY a) (λ_ _ _ a b c=>NZ a b c) (λ_ a=>N1 a) (λ_ a=>N2 a) (λ_ _ a b=>N3 a b) (λ_ _ _ a b c=>N4 a b c) (λ_ _ a=>Jt a) (λ_ _ a=>Oe a)
   (λ_ _ _ a b=>Of a b) (λ_ _ _ _ _ _ _ a b c=>JE a b c) Jr (λ_ a=>Jz a) (λ_ _ _ a b c=>JA a b c) (λ_ _ a b=>JJ a b) (λ_ a=>EJ a) (λ_ _ _ a b c=>JB a b c) (λ_ a=>EL a) (λ_ a=>EK a) (λ_ _ _ a=>N6 a) (λ_ _ _ _ a b=>N7 a b) (λ_ _ a b=>N5 a b) (λ_ _ _ _ _ _ _ _=>JK) (λ_ _ _ a=>Oh a) EG (λ_ _ a b=>AI a b) ir
 refine⟨one,λfG=>?_⟩
 induction fG using jU.rec (motive_1:=λ_=>True) with
 |nil=>exact EG
 |cons e es _ ih=>exact AI (one e) ih
 |_=>trivial
end
def qO:Expr->Bool
 |.ListComp ..=>false|.SetComp ..=>false|.DictComp ..=>false
 |_=>true
def R4:Expr->Bool
 |.Tuple ..=>false
 |_=>true
def Wn:Expr->Bool
 |.SetComp ..=>false|.DictComp ..=>false
 |_=>true
def Wo:IE->Bool
 |.comp ..=>true
 |_=>false
mutual
noncomputable def JL(Γ:rO):IS->Stmt->Bool
 |.expr e,s=>Ez (λx _=>qO x&&bH Γ e x) s
 |.asg p e,s=>Jk (λq1 x _=>k1 (λtg=>xB Γ p tg&&bH Γ e x&&(match p with|.one _=>Wn x|.tup _=>qO x&&R4 x)) q1) s
 |.aug i _ e,s=>Jk (λq1 v _=>k1 (λtg=>tL (λx tp=>Γ.N[i]?==some x && Γ.sc.names.lookup x==some .local&&Wo e&&Et (λ_ _ scope p2=>tp.line==p2.line && !(scope.names.any λ(n,k)=>n==x&&(k==.local||k==.cell))) v&&bH Γ e v) tg) q1) s
 |.jD o i v,s=>Jk (λq1 x _=>k1 (λq2=>Jf (λa b _=>pR b&&qO x&&bH Γ o a&&bH Γ i b&&bH Γ v x) q2) q1) s
 |.iff c a b,s=>Xy (λt x y _=>bH Γ c t&&bz Γ a x&&bz Γ b y) s
 |.for p k it body,s=>RP (λtg iter x q1 _=>qG q1 (xB Γ p tg&&AF Γ k it iter&&(match k,p with|.enum,.one _=>false|.zip,.one _=>false|_,_=>true)&&bz Γ body x)) s
 |.whl _ c body,s=>Nz (λt x q1 _=>qG q1 (bH Γ c t&&bz Γ body x)) s
 |.ret e,s=>NB (λq1 _=>AA (λx=>bH Γ e x) q1) s
 |.IW,s=>NB (λq1 _=>Ew q1 (true)) s
 |.brk,s=>RQ (λ_=>true) s
 |.cnt,s=>RS (λ_=>true) s
 |.pass,s=>Ly (λ_=>true) s||Ez (λq1 _=>zf (λq2 _ _=>RM (λ_=>true) q2) q1) s
 |.never,_=>true
 |.setF _ a _ _,s=>Wh (λj es=>Jl (λx ls=>k1 (λl=>xm Γ.sc x && Γ.fns[j]?==some (x,2001)&&noStar l&&aV Γ es [l]) ls||qG ls (xm Γ.sc x && Γ.fns[j]?==some (x,2000)&&aV Γ es [])) s) a
noncomputable def bz(Γ:rO):dY->List Stmt->Bool
 |.nil,ls=>ls.isEmpty
 | .cons s r,ls=>match ls with
  |l::ls=>JL Γ s l&&bz Γ r ls
  |[]=>false
end
def Zx(X:Cx)(cl:Nat->Addr)(EX:Nat->List V->Hp->Prop):Prop:=∃E:XK,(∀c xs H,EX c xs H->n8 cl E c xs H)/\∀pins σ scope N' cls fp s H e s',Inv X pins σ H s->(∀b∈fp,kU X pins H b)->UH X scope N' E cls fp s.heap.objs.size s H e s' ->
 notedBy (model X.prog X.w) X.A X.env (λe s''=>uG (model X.prog X.w) X.A X.xe s.heap.objs.size e s'') e s'
structure JM (Φ:Fn) (Γ:rO) (k:Nat) (X:Cx) (cl:Nat->Addr) (EX:Nat->List V->Hp->Prop):Prop extends Ctx Φ Γ k X cl EX where
 fn:∀x,X.fn x=true
 nd:X.N.Nodup
 kind:X.env.scope.kind=.function
 xe:PassesOwn (model X.prog X.w) X.A X.env X.xe
 rc:Zx X cl EX
 rs:∀(j:Nat) (x g:Str) (arg:Expr) (p cp pos:Pos) (t:TA),NO X.prog X.w (bd X cl) X.mg X.base k x (cl (1000+j)) g->Gl X x->(x==("__debug__":Str))=false->PA X [arg] t->starEach [arg] X.env=(false,eval arg X.env)::starEach [] X.env ->
  PS X (.Raise (some (.Call (.Name x p) [arg] [] cp)) none pos) λ_ σ H=>t σ H λvs H1=>∃y,vs=[y]/\EX j [.str g,y] H1
 XF:∀(j:Nat) (x:Str) (p cp pos:Pos),EE (bd X cl) X.mg x (cl (1000+j))->Gl X x->(x==("__debug__":Str))=false->PS X (.Raise (some (.Call (.Name x p) [] [] cp)) none pos) λ_ σ H=>EX j [] H
def WF(K:Frag)(D:Ends):Fl->Hs->List Addr->Hp->Prop
 |.nx env',_,ρ',H'=>∀σ',cU K ρ' env' σ' H'->env'.length = σ'.length->D.nx σ' H'
 |.rt v,_,ρ',H'=>∀x,VR K ρ' H' v x->D.rt x H'
 |.bk env',_,ρ',H'=>∀σ',cU K ρ' env' σ' H'->env'.length = σ'.length->D.bk σ' H'
 |.ct env',_,ρ',H'=>∀σ',cU K ρ' env' σ' H'->env'.length = σ'.length->D.ct σ' H'
def tS(Φ:Fn)(B:Bd)(EX:Nat->List V->Hp->Prop)(ir:IS):TS:=λD σ H=>∃ρ env h,cU B.K ρ env σ H/\env.length = σ.length/\HR B ρ h H/\Post B EX ρ H (WF B.K D) (gW Φ ir env h)
def Wq(Φ:Fn)(B:Bd)(EX:Nat->List V->Hp->Prop)(ir:dY):TS:=λD σ H=>∃ρ env h,cU B.K ρ env σ H/\env.length = σ.length/\HR B ρ h H/\Post B EX ρ H (WF B.K D) (gX Φ ir env h)
theorem _root_.L2.PS.imp(h:PS X e t)(i:∀D σ H,t' D σ H->t D σ H):PS X e t':=λpins s σ H D I hw=>h pins s σ H D I (i D σ H hw)
theorem _root_.L2.nM.imp(h:nM X e t)(i:∀D σ H,t' D σ H->t D σ H):nM X e t':=λpins s σ H D I hw=>h pins s σ H D I (i D σ H hw)
section
variable {Φ:Fn} {Γ:rO} {k:Nat} {X:Cx} {cl:Nat->Addr} {EX:Nat->List V->Hp->Prop}
def xC(Φ:Fn)(ir:IS):Prop:=∀(Γ:rO) (k:Nat) (X:Cx) (cl:Nat->Addr) (EX:Nat->List V->Hp->Prop) (st:Stmt),JM Φ Γ k X cl EX->JL Γ ir st=true->PS X st (tS Φ (bd X cl) EX ir)
def u6(Φ:Fn)(fG:dY):Prop:=∀(Γ:rO) (k:Nat) (X:Cx) (cl:Nat->Addr) (EX:Nat->List V->Hp->Prop) (st:List Stmt),JM Φ Γ k X cl EX->bz Γ fG st=true->nM X st (Wq Φ (bd X cl) EX fG)
theorem jY{n:Nat}(h:qO e=true):swapsWith e t n env=pure false:=by
 cases e<;>first|rfl|(exact absurd h aab)
theorem Qs(ir:IE)(c:Ctx Φ Γ k X cl EX)(h:bH Γ ir e=true):PE X e (tV Φ (bd X cl) EX ir):=(iJ.1 ir Γ k X cl EX e c h).1
theorem Zy(ir:IE)(c:Ctx Φ Γ k X cl EX)(h:bH Γ ir e=true):PT X e (tT Φ (bd X cl) EX ir):=(iJ.1 ir Γ k X cl EX e c h).2
theorem R5(hs:∀env h,gW Φ ir env h=.no):xC Φ ir:=by
 intro Γ k X cl EX st c h;refine p7.imp λD σ H ⟨ρ,env,h,hE,hl,r,p⟩=>?_;rw[hs]at p;exact p.elim
theorem Oi:xC Φ (.expr e):=by
 intro Γ k X cl EX st c h;apply AB h;intro x _ h;simp only[and_eq_true]at h;refine(HN (Qs e c.toCtx h.2) (jY h.1)).imp λD σ H aS=>?_;obtain⟨ρ,env,h,hE,hl,r,p⟩:=aS;simp only[gW]at p;exact⟨ρ,env,h,hE,r,au p λv h1 ρ1 x H1 g1 r1 q1 p1=>aj r1 p1 σ (hE.up g1) hl⟩
theorem R6:xC Φ (.asg p e):=by
 intro Γ k X cl EX st c h;apply zj h;intro q1 x pos h;apply n6 h;intro tg h;simp only[and_eq_true]at h;obtain⟨⟨h1,h2⟩,h3⟩:=h;have hg:=AM c.toCtx c.fn c.nd h1;have he:=Qs e c.toCtx h2;have fin:∀D σ H,tS Φ (bd X cl) EX (.asg p e) D σ H->Dk (tV Φ (bd X cl) EX e) (CC X.K p) D σ H:=λD σ H ⟨ρ,env,h,hE,hl,r,pp⟩=>by
  simp only[gW]at pp;refine⟨ρ,env,h,hE,r,au pp λv h1 ρ1 x H1 g1 r1 q1 p1=>?_⟩;obtain⟨env',e1,p2⟩:=bG p1;exact uZ e1 q1 (hE.up g1) hl λσ' Qt hl' _=>aj r1 p2 σ' Qt hl'
 have Cc:(assignEach [tg] X.env).map (·.2)=[assign tg X.env]:=by
  cases p with
  |one i=>obtain⟨t,tp,rfl⟩:=qL h1;rfl
  |tup is=>obtain⟨es,kk,tp,rfl⟩:=mY h1;rfl
 cases p with
 |tup is=>
  simp only[and_eq_true]at h3;refine(iC he hg ?_ ?_ Cc).imp fin
  ·show swapsWith x (some tg) _ _=_;exact jY h3.1
  ·obtain⟨es,kk,tp,rfl⟩:=mY h1;cases x<;>first|rfl|(exact absurd h3.2 aab)
 |one i=>
  obtain⟨t,tp,rfl⟩:=qL h1
  ·
   simp only[xB,and_eq_true,beq_iff_eq]at h1;have loc:L2.Loc X.env.scope t:=by unfold L2.Loc;rw[c.sc];simpa using h1.2
   have pl:qO x=true->PS X (.Assign [.Name t tp] x pos) (tS Φ (bd X cl) EX (.asg (.one i) e)):=λhx=>(Dl c.nd (by rw[c.N];exact h1.1) loc he (jY hx) (.inl (c.fn t))).imp fin;cases x with
   |ListComp e' gens scope p2=>
    cases hb:(X.env.kindOf t==some .local&&tp.line==p2.line && !(scope.names.any λ(n,k)=>n==t&&(k==.local||k==.cell))) with
    |false=>
     refine(Dl c.nd (by rw[c.N];exact h1.1) loc he ?_ (.inl (c.fn t))).imp fin;have bk:(X.env.blockKind==.function)=true:=by unfold Env.blockKind;rw[c.kind];rfl
     show (pure (X.env.blockKind==.function&&X.env.kindOf t==some .local&&tp.line==p2.line && !(scope.names.any λ(n,k)=>n==t&&(k==.local||k==.cell))):Sem Bool)=pure false;rw[bk,Bool.true_and,hb]
    |true=>
     have bk:(X.env.blockKind==.function)=true:=by unfold Env.blockKind;rw[c.kind];rfl
     have hsw:swapsWith (.ListComp e' gens scope p2) (some (.Name t tp)) pos.line X.env=pure true:=by show (pure (X.env.blockKind==.function&&X.env.kindOf t==some .local&&tp.line==p2.line && !(scope.names.any λ(n,k)=>n==t&&(k==.local||k==.cell))):Sem Bool)=pure true;rw[bk,Bool.true_and,hb]
     cases e with
     |comp N' js pat ik it Oj elt=>obtain⟨e2,XG,iter,ifs,qP,pos2,wi,g,tt,te,q0,q1,q2,q3,q4,q5,q6,q7⟩:=qN (iJ.2 it) (iJ.1 Oj) (iJ.1 elt) c.toCtx h2;cases q0;refine(Iu c.nd (by rw[c.N];exact h1.1) loc q1 c.calm q2 q3 q4 q5 hsw (.inl (c.fn t)) q6).imp λD σ H hh=>?_;exact q7 σ H _ (fin D σ H hh)
     |dflt N' js p q d w=>refine p7.imp λD σ H hh=>?_;obtain⟨ρ,env,h,hE,hl,r,pp⟩:=hh;simp only[gW,aN]at pp;exact pp.elim
     |_=>first|exact absurd h2 aab|(rw[bH.eq_def]at h2;cases h2)
   |SetComp _ _ _ _=>exact absurd h3 aab
   |DictComp _ _ _ _ _=>exact absurd h3 aab
   |_=>exact pl rfl
theorem R7{i:Nat}:xC Φ (.aug i o e):=by
 intro Γ k X cl EX st c h;apply zj h;intro q1 x pos h;apply n6 h;intro tg h;apply pQ h;intro t tp h;simp only[and_eq_true]at h;obtain⟨⟨⟨⟨h1,h2⟩,h3⟩,h4⟩,h5⟩:=h;have h1:=eq_of_beq h1;have h2:=eq_of_beq h2;cases e with
 |comp N' js pat ik it Oj elt=>
  obtain⟨E,hX,hE⟩:=c.rc;obtain⟨e2,XG,iter,ifs,qP,pos2,wi,g,tt,te,rfl,q1,q2,q3,q4,q5,q6,q7⟩:=o5 (ce:=λscope cls fp C s H=>UH X scope N' E cls fp C s H) (iJ.2 it) (iJ.1 Oj) (iJ.1 elt) c.toCtx (λscope cls C s H fp=>⟨rfl,(by show relabel scope X.env=EC scope Γ.sc;rw[<-c.sc];rfl),c.calm,c.room,⟨E,Ck,hX⟩,c.fns,c.cls,c.Hx,c.Hy,c.isc,c.cons,c.blt⟩) h5;have h4:=Bool.and_eq_true_iff.mp (show (tp.line==pos2.line && !(qP.names.any λ(n,k)=>n==t&&(k==.local||k==.cell)))=true from h4);have loc:L2.Loc X.env.scope t:=.inl (by rw[c.sc];exact h2);have bk:(X.env.blockKind==.function)=true:=by unfold Env.blockKind;rw[c.kind];rfl
  have kd:(X.env.kindOf t==some .local)=true:=by show (X.env.scope.names.lookup t==some .local)=true;rw[c.sc,h2];rfl
  have hsw:swapsWith (.ListComp e2 [⟨XG,iter,ifs,0⟩] qP pos2) (some (.Name t tp)) pos.line X.env=pure true:=by show (pure (X.env.blockKind==.function&&X.env.kindOf t==some .local&&tp.line==pos2.line && !(qP.names.any λ(n,k)=>n==t&&(k==.local||k==.cell))):Sem Bool)=pure true;rw[bk,kd,h4.1,h4.2];rfl
  refine(wm c.nd (by rw[c.N];exact h1) loc q1 c.calm q2 q3 q4 q5 (λpins σ cls fp s H e s' I f z=>hE pins σ qP N' cls fp s H e s' I f z) hsw (.inl (c.fn t)) q6).imp λD σ H hh=>?_;obtain⟨ρ,env,h,Qt,hl,r,pp⟩:=hh;simp only[gW]at pp;refine q7 σ H _ ⟨ρ,env,h,Qt,r,au pp λv h1 ρ1 x H1 g1 r1 q1 p1=>?_⟩;obtain⟨env',e1,p2⟩:=bG p1;exact uZ (pat:=.one i) e1 q1 (Qt.up g1) hl λσ' Wr hl' _=>aj r1 p2 σ' Wr hl'
 |_=>exact absurd h3 aab
def R8(B:Bd)(EX:Nat->List V->Hp->Prop):Mn:=λo i v H Q=>∃ρ h a b w,HR B ρ h H/\VR B.K ρ H a o/\VR B.K ρ H b i/\VR B.K ρ H w v/\Post B EX ρ H (λ_ _ _ H'=>Q H') (Aq a b w h)
theorem Ol(hu:X.A.units+64<cLine):QL X (R8 (bd X cl) EX):=by
 intro pins s σ H o i v ov iv u Q I ro ri rv hh;obtain⟨ρ,h,a,b,w,r,ha,hb,hw,p⟩:=hh;cases a with
 |ref j=>
  simp only[Aq]at p;obtain⟨ob,e1,p⟩:=aA p;have dict:∀kvs,ob=.dct kvs->Post (bd X cl) EX ρ H (λ_ _ _ H'=>Q H') (bnd (bu (keyOf b)) (λk=>aH (decide (kvs.length<sizeLine)) (put j (.dct (fM kvs k w)))) h)->wpAny (model X.prog X.w) X.A (setItem ov iv u) (λ_ s'=>∃H',L2.Inv X pins σ H' s'/\Q H') X.xe s:=by rintro kvs rfl p;obtain⟨kk,e2,p⟩:=bG p;obtain⟨e3,p⟩:=aG p;have e3:=aaz e3;rw[VR]at ha;obtain⟨A,rfl,k1⟩:=ha;obtain⟨ks,k2,k3⟩:=r.ob j _ A e1 k1;cases ro;have ek:=Eo hb e2;subst ek;refine BQ (by omega) I (Ii.k (v:=v) k2 (by rw[<-k3.length];exact e3)) ri rv λs' I'=>⟨_,I',?_⟩;have g:Gr ρ H ρ (upd H A (.dK (putK ks kk v))):=Gr.put (aaA k1) k2 rfl;exact p ρ _ g (r.put k1 e1 (u:=.dct (fM kvs kk w)) ⟨_,aD,jh.put kk (VR.up g _ _ hw) (jh.up g _ _ k3)⟩)
  cases ob with
  |dct kvs=>exact dict kvs rfl p
  |_=>exact p.elim
 |_=>exact p.elim
theorem Om:xC Φ (.jD o i v):=by
 intro Γ k X cl EX st c h;apply zj h;intro q1 x pos h;apply n6 h;intro q2 h;apply zg h;intro a b sp h;simp only[and_eq_true]at h;obtain⟨⟨⟨⟨h1,h2⟩,h3⟩,h4⟩,h5⟩:=h;have Zz:PG X (.Subscript a b sp) (QO (tV Φ (bd X cl) EX o) (tV Φ (bd X cl) EX i) (R8 (bd X cl) EX)):=Mp (Qs o c.toCtx h3) (Qs i c.toCtx h4) (Ol c.units) (by
  intro v;cases b<;>first|rfl|(exact absurd h1 aab))
 refine(iC (Qs v c.toCtx h5) Zz (jY (t:=some (.Subscript a b sp)) (n:=pos.line) (env:=X.env) h2) (by cases x<;>rfl) rfl).imp λD σ H aS=>?_;obtain⟨ρ,env,h,hE,hl,r,p⟩:=aS;simp only[gW]at p;refine⟨ρ,env,h,hE,r,au p λw h1 ρ1 x1 H1 g1 r1 q1 p1=>⟨ρ1,env,h1,hE.up g1,r1,au p1 λw2 h2 ρ2 x2 H2 g2 r2 q2 p2=>⟨ρ2,env,h2,(hE.up g1).up g2,r2,au p2 λw3 h3 ρ3 x3 H3 g3 r3 q3 p3=>?_⟩⟩⟩;refine⟨ρ3,h3,w2,w3,w,r3,VR.up g3 _ _ q2,q3,VR.up (g2.trans g3) _ _ q1,bQ p3 λ_ h4 ρ4 H4 g4 r4 p4=>?_⟩;exact aj r4 p4 σ (((hE.up g1).up g2).up g3 |>.up g4) hl
theorem R9(ha:u6 Φ a)(hb:u6 Φ b):xC Φ (.iff t a b):=by
 intro Γ k X cl EX st c h;apply RO h;intro tt x y pos h;simp only[and_eq_true]at h;refine(QK (Zy t c.toCtx h.1.1) (ha Γ k X cl EX x c h.1.2) (hb Γ k X cl EX y c h.2)).imp λD σ H aS=>?_;obtain⟨ρ,env,h,hE,hl,r,p⟩:=aS;simp only[gW]at p;refine⟨ρ,env,h,hE,r,n9 p λv h1 p1=>?_⟩;obtain⟨s,e1,p2⟩:=aA p1;refine⟨s,e1,λρ1 H1 g1 r1=>?_⟩;have p2:=Post.up g1 p2;cases s with
 |true=>rw[aan rfl]at p2 |-;exact⟨ρ1,env,h1,hE.up g1,hl,r1,p2⟩
 |false=>rw[aaj aab]at p2 |-;exact⟨ρ1,env,h1,hE.up g1,hl,r1,p2⟩
theorem Sa(hb:u6 Φ body):xC Φ (.for p ik it body):=by
 intro Γ k X cl EX st c h;apply Ny h;intro tg iter x q1 pos h;apply lW h;intro h;simp only[and_eq_true]at h;obtain⟨⟨⟨h1,h2⟩,h3⟩,h4⟩:=h;have hen:ik=.enum\/ik=.zip->∃es kk pos,tg=.Tuple es kk pos:=by
  intro hz;cases p with
  |one i=>rcases hz with rfl|rfl<;>cases h3
  |tup is=>exact mY h1
 obtain⟨hi,hf⟩:=LB (iJ.2 it) c.toCtx h2 hen;refine(Mr c.xe c.calm hi (AM c.toCtx c.fn c.nd h1) (hb Γ k X cl EX x c h4) hf).imp λD σ H aS=>?_;obtain⟨ρ,env,h,hE,hl,r,pp⟩:=aS;simp only[gW]at pp;have p':Post (bd X cl) EX ρ H (WF X.K D) (bnd (Qq Φ ik it env) (λsrc=>bnd (ask λh=>src.items h) λxs=>forM src (λx env=>bnd (bu (gq p x env)) λenv'=>gX Φ body env') xs.length 0 env) h):=by unfold Qq;rw[aO];exact pp
 refine⟨ρ,env,h,hE,r,bQ p' λsrc h1 ρ1 H1 g1 r1 p1=>?_⟩;obtain⟨xs,e1,p2⟩:=aA p1;refine⟨⟨xs,e1⟩,λJ wk=>?_⟩;refine⟨λi m σ' H'=>∃ρ' env' h',Gr ρ1 H1 ρ' H'/\cU X.K ρ' env' σ' H'/\env'.length = σ'.length/\HR (bd X cl) ρ' h' H'/\Post (bd X cl) EX ρ' H' (WF X.K D) (forM src (λx env=>bnd (bu (gq p x env)) λenv'=>gX Φ body env') m i env' h'),
  ⟨xs.length,ρ1,env,h1,Gr.refl,hE.up g1,hl,r1,p2⟩,?_⟩
 rintro i m σ' H' ⟨ρ',env',h',w1,w2,w3,w4,w5⟩;cases m with
 |zero=>simp only[forM]at w5;obtain⟨xs',k1,w5⟩:=aA w5;obtain⟨k2,w5⟩:=aG w5;exact .inl ⟨wk.stop w1.w w4 k1 (aaz k2),aj w4 w5 σ' w2 w3⟩
 |succ m=>
  simp only[forM]at w5;obtain⟨xs',k1,w5⟩:=aA w5;cases hx:xs'[i]? with
  |none=>rw[hx]at w5;exact .inl ⟨wk.stop w1.w w4 k1 (List.getElem?_eq_none_iff.mp hx),aj w4 w5 σ' w2 w3⟩
  |some v=>
   rw[hx]at w5;dsimp only at w5;refine .inr ⟨wk.go w1.w w4 k1 hx,_,λC8 MQ w=>⟨m,lt_succ_self _,w⟩,λy H2 hy=>?_⟩;obtain⟨z1,z2,z3⟩:=wk.yr w1.w w4 k1 hx hy;rw[aO]at w5;obtain⟨iK,k2,w5⟩:=bG w5;refine uZ k2 z3 (w2.up z1) w3 λσ2 UK hl2 _=>⟨ρ',iK,h',UK,hl2,z2,bQ (Post.up z1 w5) λf h3 ρ3 H3 g3 r3 p3=>?_⟩;cases f with
   |nx JN=>exact λσ3 Sb hl3=>⟨ρ3,JN,h3,(w1.trans z1).trans g3,Sb,hl3,r3,p3⟩
   |ct JN=>exact λσ3 Sb hl3=>⟨ρ3,JN,h3,(w1.trans z1).trans g3,Sb,hl3,r3,p3⟩
   |bk JN=>exact λσ3 Sb hl3=>aj r3 p3 σ3 Sb hl3
   |rt v=>exact(aj r3 p3:WF X.K D (.rt v) h3 ρ3 H3)
theorem Sd{n:Nat}(hb:u6 Φ body):xC Φ (.whl n t body):=R5 λ_ _=>rfl
theorem Se:xC Φ (.ret e):=by
 intro Γ k X cl EX st c h;apply EA h;intro q1 _ h;apply uX h;intro x h;refine(Ml (Qs e c.toCtx h)).imp λD σ H aS=>?_;obtain⟨ρ,env,h,hE,hl,r,p⟩:=aS;simp only[gW]at p;exact⟨ρ,env,h,hE,r,au p λv h1 ρ1 x H1 g1 r1 q1 p1=>aj r1 p1 x q1⟩
theorem Oo:xC Φ .IW:=by
 intro Γ k X cl EX st c h;apply EA h;intro q1 _ h;apply Az h;intro h;refine HP.imp λD σ H aS=>?_;obtain⟨ρ,env,h,hE,hl,r,p⟩:=aS;simp only[gW]at p;exact aj r p _ VR.non
theorem Sf:xC Φ .brk:=by
 intro Γ k X cl EX st c h;apply ND h;intro _ h;refine Di.imp λD σ H aS=>?_;obtain⟨ρ,env,h,hE,hl,r,p⟩:=aS;simp only[gW]at p;exact aj r p σ hE hl
theorem Sg:xC Φ .cnt:=by
 intro Γ k X cl EX st c h;apply NF h;intro _ h;refine vU.imp λD σ H aS=>?_;obtain⟨ρ,env,h,hE,hl,r,p⟩:=aS;simp only[gW]at p;exact aj r p σ hE hl
theorem Oq:xC Φ .pass:=by
 intro Γ k X cl EX st c h
 rcases Xx h with h|h
 ·apply Jm h;intro _ h;refine HM.imp λD σ H aS=>?_;obtain⟨ρ,env,h,hE,hl,r,p⟩:=aS;simp only[gW]at p;exact aj r p σ hE hl
 ·apply AB h;intro q1 _ h;apply xh h;intro q2 _ _ h;apply Nx h;intro _ h;refine Mj.imp λD σ H aS=>?_;obtain⟨ρ,env,h,hE,hl,r,p⟩:=aS;simp only[gW]at p;exact aj r p σ hE hl
theorem JO:xC Φ .never:=by
 intro Γ k X cl EX st c h;refine p7.imp λD σ H aS=>?_;obtain⟨ρ,env,h,hE,hl,r,p⟩:=aS;simp only[gW]at p;exact p.elim
theorem Ot{n:Nat}:xC Φ (.setF n a x v):=by
 intro Γ k X cl EX st c h;revert h;change JL Γ (.setF n a x v) st=true->PS X st λD σ H=>∃ρ env h,cU X.K ρ env σ H/\env.length = σ.length/\HR (bd X cl) ρ h H/\Post (bd X cl) EX ρ H (WF X.K D) (gW Φ (.setF n a x v) env h);intro h;rw[JL.eq_def]at h;dsimp only at h;revert h;cases a<;>first|(intro h;exact(aab h).elim)|skip
 rename_i j es;intro h;apply NC (show Jl (λx ls=>k1 (λl=>xm Γ.sc x && Γ.fns[j]?==some (x,2001)&&noStar l&&aV Γ es [l]) ls||qG ls (xm Γ.sc x && Γ.fns[j]?==some (x,2000)&&aV Γ es [])) st=true from h);intro x p ls cp pos h
 rcases Xx h with h|h
 rotate_left
 ·apply lW h;intro h
  simp only[and_eq_true,beq_iff_eq]at h;obtain⟨⟨h1,h2⟩,h4⟩:=h;obtain⟨g1,g2,g3⟩:=c.gl h1
  rcases c.fns j x _ h2 with ⟨z,_⟩|⟨z,_⟩|⟨_,e0,R⟩
  ·omega
  ·omega
  refine(c.XF j x p cp pos R g1 g2).imp λD σ H aS=>?_;obtain⟨ρ,env,h9,hE,hl,r,p⟩:=aS;cases es with
  |cons i fG=>rw[aV.eq_def]at h4;cases h4
  |nil=>simp only[gW,aN,bJ,aO,cB]at p;rw[e0]at p;exact(show Post (bd X cl) EX ρ H (WF X.K D) (.exc j [] h9) from p) ρ H [] Gr.refl r av.nil
 apply n6 h;intro l h;simp only[and_eq_true,beq_iff_eq]at h;obtain⟨⟨⟨h1,h2⟩,h3⟩,h4⟩:=h;obtain⟨g1,g2,g3⟩:=c.gl h1
 rcases c.fns j x _ h2 with ⟨z,_⟩|⟨_,g,e0,R⟩|⟨z,_⟩
 ·omega
 rotate_left
 ·omega
 refine(c.rs j x g l p cp pos _ R g1 g2 ((iJ.2 es).1 Γ k X cl EX _ c.toCtx h4) (aK h3)).imp λD σ H aS=>?_;obtain⟨ρ,env,h,hE,hl,r,p⟩:=aS;simp only[gW,aN,aO]at p;refine⟨ρ,env,h,hE,r,gE p λvs h1 ρ1 H1 e1 g1 r1 p1 xs q1=>?_⟩;rw[e0]at p1;have p2:Post (bd X cl) EX ρ1 H1 (WF X.K D) (bnd (uU j g vs) (λ_=>bu none) h1):=p1
 match vs,q1,p2 with
 |[.int i],q1,p2=>have ex:xs=[V.int i]:=(av.ints (ns:=[i])).mp q1;exact⟨_,ex,p2 ρ1 H1 [.str g,.int i] Gr.refl r1 (av.cons VR.str (av.cons (by rw[VR]) av.nil))⟩
 |[],_,p2=>exact p2.elim
 |[.bl _],_,p2=>exact p2.elim
 |[.str _],_,p2=>exact p2.elim
 |[.non],_,p2=>exact p2.elim
 |[.tup _],_,p2=>exact p2.elim
 |[.rl _],_,p2=>exact p2.elim
 |[.ref _],_,p2=>exact p2.elim
 |[.dc _ _],_,p2=>exact p2.elim
 |[.ob _ _ _],_,p2=>exact p2.elim
 |a::b::r,_,p2=>
  have e:bnd (uU j g (a::b::r)) (λ_=>bu (none:Option Fl)) h1=.no:=by cases a<;>rfl
  rw[e]at p2;exact p2.elim
theorem Ou:u6 Φ .nil:=by
 intro Γ k X cl EX st c h;rw[bz]at h;cases st with
 |cons _ _=>cases h
 |nil=>refine HL.imp λD σ H aS=>?_;obtain⟨ρ,env,h,hE,hl,r,p⟩:=aS;simp only[gX]at p;exact aj r p σ hE hl
theorem JP(h1:xC Φ s)(h2:u6 Φ ss):u6 Φ (.cons s ss):=by
 intro Γ k X cl EX st c h;rw[bz.eq_def]at h;dsimp only at h;cases st with
 |nil=>cases h
 |cons l ls=>
  simp only[and_eq_true]at h;refine(fR (h1 Γ k X cl EX l c h.1) (h2 Γ k X cl EX ls c h.2)).imp λD σ H aS=>?_;obtain⟨ρ,env,h,hE,hl,r,p⟩:=aS;simp only[gX]at p;refine⟨ρ,env,h,hE,hl,r,bQ p λf h1 ρ1 H1 g1 r1 p1=>?_⟩;cases f with
  |nx env'=>exact λσ' Qt hl'=>⟨ρ1,env',h1,Qt,hl',r1,p1⟩
  |rt v=>exact(aj r1 p1:WF X.K D (.rt v) h1 ρ1 H1)
  |bk env'=>exact(aj r1 p1:WF X.K D (.bk env') h1 ρ1 H1)
  |ct env'=>exact(aj r1 p1:WF X.K D (.ct env') h1 ρ1 H1)
theorem xD:∀fG,u6 Φ fG:=by
 intro fG;exact dY.rec (motive_1:=λs=>xC Φ s) (motive_2:=λss=>u6 Φ ss) (λ_=>Oi) (λ_ _=>R6) (λ_ _ _=>R7) (λ_ _ _=>Om) (λ_ _ _ a b=>R9 a b) (λ_ _ _ _ a=>Sa a) (λ_ _ _ a=>Sd a) (λ_=>Se) Oo Sf Sg Oq JO (λ_ _ _ _=>Ot)
  Ou (λ_ _ a b=>JP a b) fG
end
abbrev Row:=Str×Nat×(List Val->M Val)
def look(fs:List Row)(j:Nat):List Val->M Val:=match fs[j]? with
 |some r=>r.2.2
 |none=>λ_=>bu none
def cj(P:Program)(w:World)(B:Bd)(mg:Str->Option Value)(base:Heap)(k:Nat)(fs:List Row):Prop:=∀(j:Nat) (r:Row),fs[j]?=some r->Qp P w B mg base k j r.1 r.2.1 r.2.2
def aQ(N P:List Str)(sc:Scope):Bool :=
 sc.kind==.function && !sc.isCoroutine && !sc.isGenerator&&decide N.Nodup&&N.take P.length==P&&(P.all λx=>sc.names.lookup x==some .local||sc.names.lookup x==some .cell)&&(sc.names.all λy=>y.2 != .free)
theorem qQ(h:aQ N P sc=true):mF N P sc:=by
 unfold aQ at h;simp only[and_eq_true,beq_iff_eq,not_eq_true',decide_eq_true_eq,List.all_eq_true,or_eq_true,bne_iff_ne]at h;obtain⟨⟨⟨⟨⟨⟨h1,h2⟩,h3⟩,h4⟩,h5⟩,h6⟩,h7⟩:=h;exact⟨h1,h2,h3,h4,h5,h6,h7⟩
structure Base (K:Frag) (cl:Nat->Addr) (mg:Str->Option Value) (cons:List (Str×Val)) (tb:Tb):Prop where
 blt:∀x∈bltNames,mg x=none
 cons:∀p∈cons,∃v u,mg p.1=some u/\RelV v u/\∀K ρ H,VR K ρ H p.2 v
 cls:∀c,c<tb.nc->W5 K (cl c)/\∀x∈tb.RT,Du K (cl c) x
 Hx:∀p∈tb.Hx,Meth K (cl p.1) p.2.1 (cl (1000+p.2.2))
 Hy:∀p∈tb.Hy,∃C,mg p.1=some (.ref C)/\Rw K C p.2.1 (cl (1000+p.2.2))
 isc:∀p∈tb.isc,∃C,mg p.1=some (.ref C)/\∀c b,p.2[c]?=some b->Xn K (cl c)/\kitOne K (.ref (cl c)) (.ref C)=some b
section
variable {P:Program} {w:World} {K:Frag} {cl:Nat->Addr} {mg:Str->Option Value} {base:Heap} {k:Nat} {fs:List Row} {cons:List (Str×Val)} {tb:Tb}
theorem AN(T:Base K cl mg cons tb)(A:cj P w ⟨K,cl⟩ mg base k fs)(S:mF N ps sc)(hr:eN (k+1) (A'.deeper (envOfC qual sc s.heap.objs.size f cdv))) :
  JM (look fs) ⟨N,sc,fs.map (λr=>(r.1,r.2.1)),cons,tb⟩ k (dM (jr P w) P w K mg base N qual sc f cdv A' outer s H E) cl (n8 cl E):=by
 refine { N:=rfl,sc:=rfl,calm:=rfl,room:=hr,Wi:=⟨E,IT,λ_ _ _ z=>z⟩,fns:=λj x n e=>?_,cls:=T.cls,Hx:=T.Hx,Hy:=T.Hy,isc:=T.isc,cons:=T.cons,blt:=T.blt,fn:=λ_=>rfl,nd:=S.nd,kind:=S.kind,xe:=PassesOwn.leaving,rc:=⟨E,λ_ _ _ z=>z,λ_ _ _ _ _ _ _ _ _ _ I f z=>zd I f z⟩,rs:=λj x g arg p cp pos t R hg hd ha he=>?_,XF:=λj x p cp pos R hg hd=>?_ }
 ·have e':(fs.map (λr=>(r.1,r.2.1)))[j]?=some (x,n):=e
  rw[aaF]at e';cases er:fs[j]? with
  |none=>rw[er]at e';cases e'
  |some r=>rw[er]at e';cases e';have:=A j r er;unfold look;rw[er];exact this
 ·obtain⟨hm,D,fI,cd,fd,ps,M,F,hb,hl,hn⟩:=R
  refine(Ea (g:=g) M F hr hb hl hn hg hm ha hd he).imp λD σ H q=>?_;have e:(λvs H1=>∃y,vs=[y]/\n8 cl E j [.str g,y] H1)=λ(vs:List V) H1=>∃y,vs=[y]/\∀dx,H1 dx=none->E (.ref (cl (1000+j))) (some dx) (upd H1 dx (.xd [(g,y)])):=by
   funext vs H1;refine propext ⟨λ⟨y,e1,z⟩=>?_,λ⟨y,e1,z⟩=>⟨y,e1,.inl ⟨g,y,rfl,z⟩⟩⟩
   rcases z with ⟨g',y',e2,z⟩|⟨e2,_⟩
   ·cases e2;exact⟨y,e1,z⟩
   ·cases e2
  rw[e]at q;exact q
 ·obtain⟨hm,D,M⟩:=R
  refine(Cd M hg hm hd).imp λD' σ H q=>?_
  rcases q with ⟨g',y',e2,z⟩|⟨_,z⟩
  ·cases e2
  ·exact z
theorem ET{x qual:Str}{st:Stmt}{f:Addr}{fd:FuncData}{N ps:List Str}{body:dY}(T:Base K cl mg cons tb)(A:cj P w ⟨K,cl⟩ mg base k fs)(F:Ht K x qual st f fd)(hS:aQ N ps (ai st)=true)
  (hc:bz ⟨N,ai st,fs.map (λr=>(r.1,r.2.1)),cons,tb⟩ body (az st)=true):fK P w K mg base (jr P w) (k+2) f fd ps (Cw ⟨K,cl⟩ ps.length (mq (look fs) N.length body)):=by
 have S:=qQ hS;obtain⟨oc,od,kV,doc,pm,an,cdv,ct,osl,rfl,lk,hcd⟩:=F.ex;refine Dz lk hcd S (λvs H Q E h=>?_) λA' outer s H vs Q E hr h=>?_
 ·obtain⟨ρ,h,ws,h1,_,h2,_⟩:=h;rw[<-h2.length,h1]
 ·obtain⟨ρ,h,ws,hl,r,hv,p⟩:=h
  have lv:=hv.length
  let X:Cx:=dM (jr P w) P w K mg base N qual (ai st) f cdv A' outer s H E
  have c:JM (look fs) ⟨N,ai st,fs.map (λr=>(r.1,r.2.1)),cons,tb⟩ k X cl (n8 cl E):=AN T A S hr;refine⟨_,xD body _ k X cl _ (az st) c hc,ρ,ws.map some++replicate (N.length-ws.length) none,h,λi v e=>?_,?_,r,bQ p λfl h1 ρ1 H1 g1 r1 p1=>?_⟩
  ·by_cases hi:i<ws.length
   ·rw[aax (by simpa using hi)]at e
    rw[aaF]at e;cases ei:ws[i]? with
    |none=>rw[ei]at e;cases e
    |some w'=>rw[ei]at e;cases e;obtain⟨y,q1,q2⟩:=hv.get ei;refine⟨y,?_,q2⟩;show (vs.map some++_)[i]?=_;rw[aax (by rw[aaf,<-lv];exact hi),aaF,q1];rfl
   ·rw[aaG (by simp;omega)]at e;have:=aaA e;rw[List.mem_replicate]at this;exact absurd this.2 (by simp)
  ·show _=(vs.map some++_).length;simp[lv]
  ·cases fl with
   |nx env'=>exact λσ' _ _=>aj r1 p1 _ VR.non
   |rt v=>exact(aj r1 p1:WV K Q v h1 ρ1 H1)
   |bk env'=>exact p1.elim
   |ct env'=>exact p1.elim
theorem _root_.Hv.Qp.mono{j:Nat}{n:Nat}(g:Qp P w B mg base k j x n φ):Qp P w B mg base (k+2) j x n φ:=by
 have le:k<=k+2:=Nat.le_add_right _ _
 rcases g with ⟨h,f,fd,ps,q1,q2,q3,q4,q5⟩|⟨h,g,e,m,D,fI,cd,fd,ps,q1,q2,q3⟩|g
 ·exact .inl ⟨h,f,fd,ps,q1,q2,q3,q4,q5.mono le⟩
 ·exact .inr (.inl ⟨h,g,e,m,D,fI,cd,fd,ps,q1,q2.mono le,q3⟩)
 ·exact .inr (.inr g)
theorem all_nil:cj P w ⟨K,cl⟩ mg base k []:=λj r e=>by simp at e
theorem pS{r0:Row}(A:cj P w ⟨K,cl⟩ mg base k fs)(g:Qp P w ⟨K,cl⟩ mg base (k+2) fs.length r0.1 r0.2.1 r0.2.2):cj P w ⟨K,cl⟩ mg base (k+2) (fs++[r0]):=λj r e=>by
 by_cases hj:j<fs.length
 ·rw[aax hj]at e;exact(A j r e).mono
 ·rw[aaG (by omega)]at e
  have hj0:j-fs.length=0:=by have:=(aai.mp e).1;simp at this;omega
  rw[hj0]at e;simp at e;subst e;rw[show j=fs.length by omega];exact g
theorem EU{x qual:Str}{st:Stmt}{f:Addr}{fd:FuncData}{N ps:List Str}{body:dY}(T:Base K cl mg cons tb)(A:cj P w ⟨K,cl⟩ mg base k fs)(F:Ht K x qual st f fd)(hm:mg x=some (.ref f))(hb:Binds K fd ps [])(EW:ps.length<1000)(hS:aQ N ps (ai st)=true)
  (hc:bz ⟨N,ai st,fs.map (λr=>(r.1,r.2.1)),cons,tb⟩ body (az st)=true):cj P w ⟨K,cl⟩ mg base (k+2) (fs++[(x,ps.length,mq (look fs) N.length body)]) :=
 pS (r0:=(x,ps.length,mq (look fs) N.length body)) A (.inl ⟨EW,f,fd,ps,rfl,hm,F.kp,hb,ET T A F hS hc⟩)
theorem u7(A:cj P w ⟨K,cl⟩ mg base k fs)(R:NO P w ⟨K,cl⟩ mg base (k+2) x (cl (1000+fs.length)) g):cj P w ⟨K,cl⟩ mg base (k+2) (fs++[(x,2001,uU fs.length g)]) :=
 pS (r0:=(x,2001,uU fs.length g)) A (.inr (.inl ⟨rfl,g,rfl,R⟩))
theorem EY(A:cj P w ⟨K,cl⟩ mg base k fs)(R:EE ⟨K,cl⟩ mg x (cl (1000+fs.length))):cj P w ⟨K,cl⟩ mg base (k+2) (fs++[(x,2000,wV fs.length)]) :=
 pS (r0:=(x,2000,wV fs.length)) A (.inr (.inr ⟨rfl,rfl,R⟩))
theorem JQ(F:fK P w K mg base (jr P w) k f fd ps sp):fK P w K mg base Hr k f fd ps λvs H Q _=>sp vs H Q λ_ _ _=>False :=
 ⟨λvs H Q _ h=>F.len vs H Q _ h,λA outer s H args us vs Q E hr e0 hb r h=>codeAny_mono (F.run A outer s H args us vs Q _ hr e0 hb r h) λrr s' hq=>by
  cases rr with
  |ok fl=>cases fl<;>exact hq
  |error e=>obtain⟨_,_,_,_,_,_,_,_,_,_,_,_,_,z⟩:=hq;exact z.elim⟩
end
def l0(K:Frag)(x qual:Str)(st:Stmt)(f:Addr):Prop:=∃fd,Ht K x qual st f fd
theorem l0.kp{K:Frag}{x qual:Str}{st:Stmt}{f:Addr}(F:l0 K x qual st f):keepIn K (.ref f)=true:=F.elim λ_ F=>F.kp
section
variable {α:Type} {p:List α -> Prop}
theorem EZ:∀{us:List α},us.length=1->(∀a,p [a])->p us
 |[a],_,h=>h a
theorem ln2:∀{us:List α},us.length=2->(∀a b,p [a,b])->p us
 |[a,b],_,h=>h a b
theorem Ws:∀{us:List α},us.length=3->(∀a b c,p [a,b,c])->p us
 |[a,b,c],_,h=>h a b c
theorem XH:∀{us:List α},us.length=4->(∀a b c d,p [a,b,c,d])->p us
 |[a,b,c,d],_,h=>h a b c d
end
def ZA(x qual:Str)(st:Stmt)(ps:List Str):Prop:=∀(kV doc pm:Value) (an:Option Addr) (cdv ct:Value) (us:List Value),us.length=ps.length->bindArgs (fnOf x qual (mJ st) (az st) (ai st) .none kV doc pm an cdv ct) ⟨us,[]⟩=pure (ps.zip us)
section
variable {P:Program} {w:World} {K:Frag} {cl:Nat->Addr} {mg:Str->Option Value} {base:Heap} {k:Nat} {fs:List Row} {cons:List (Str×Val)} {tb:Tb} {x i y qual:Str} {st:Stmt} {f:Addr} {N ps:List Str} {body:dY} (T:Base K cl mg cons tb) (A:cj P w ⟨K,cl⟩ mg base k fs)
include T A
theorem cW(F:l0 K x qual st f)(hm:mg x=some (.ref f))(hS:aQ N ps (ai st)=true)
  (hc:bz ⟨N,ai st,fs.map (λr=>(r.1,r.2.1)),cons,tb⟩ body (az st)=true) (EW:ps.length<1000) (hb:ZA x qual st ps):cj P w ⟨K,cl⟩ mg base (k+2) (fs++[(x,ps.length,mq (look fs) N.length body)]):=F.elim λ_ F=>EU T A F hm (F.binds hb) EW hS hc
end
theorem Ov{K:Frag}{cl:Nat->Addr}{φ:List Val->M Val}{H:Hp}{a:Addr}{ns:List Int}(hO:DH H)(hS:gD K H a (ns.map V.int))(h:∃h',φ [.rl (ns.map .int)] []=.ok (.bl true) h') :
  Cw ⟨K,cl⟩ 1 φ [.ref a] H (λv _=>v=.bl true) λ_ _ _=>False:=by
 obtain⟨h',e⟩:=h;have sr:Ls K H a (ns.map V.int):=by
  rcases hS with (z|z)|z
  ·rcases hO a with y|⟨o,xs,y⟩
   ·rw[y]at z;cases z
   ·rw[y]at z;cases z
  ·exact .inl z
  ·exact .inr (.inr z)
 refine⟨[],[],[.rl (ns.map .int)],rfl,⟨rfl,nodup_nil,λi o a e=>by simp at e⟩,av.cons (by rw[VR];exact⟨a,_,rfl,sr,av.ints.mpr rfl⟩) av.nil,?_⟩;rw[e];intro ρ' H' g r x q;rw[VR]at q;exact q
def UL(K:Frag):Sp:=λvs H Q _=>∃(a:Addr) (ns:List Int),vs=[.ref a]/\DH H/\gD K H a (ns.map V.int)/\ns.length<=63/\∀H',Q (.bl true) H'
theorem Ow{K:Frag}{cl:Nat->Addr}{φ:List Val->M Val}(hφ:∀ns:List Int,ns.length<=63->∃h',φ [.rl (ns.map .int)] []=.ok (.bl true) h')(vs:List V)(H:Hp)(Q:VK)(E:XK)(h:UL K vs H Q E):Cw ⟨K,cl⟩ 1 φ vs H Q λ_ _ _=>False:=by
 obtain⟨a,ns,rfl,hO,hS,hl,hq⟩:=h;obtain⟨ρ,h,vs,q1,q2,q3,q4⟩:=Ov (cl:=cl) hO hS (hφ ns hl);refine⟨ρ,h,vs,q1,q2,q3,?_⟩;revert q4;cases φ vs h with
 |ok v h'=>exact λq4 ρ' H' g r x hx=>by rw[show x=_ from q4 ρ' H' g r x hx];exact hq H'
 |exc c ws h'=>exact λq4=>q4
 |no=>exact λq4=>q4
theorem walk{l:PySem.W.OpenLaw}{q:Program}{loose:List Str}{XP:(Str->Option Value)->Heap->Prop}{YP:World->Heap->Prop}{d:DefRec}{K:Params->Frag}{k:Nat}{x:Str}(hn:l.most=some 63)(hdf:d.params.defaults=[])(hr:eN k callerA)
  (hY:∀(w:World) (h:Heap),YP w h->(K w.params).In h)
  (F:∀(w:World) (mg:Str->Option Value) (fa:Addr) (h:Heap),(K w.params).In h->h.Ns mainGlobals mg->mg d.name=some (.ref fa) ->
   ∃fd:FuncData,(∀(s:Shared) (u:Value),BindsTo s fd ⟨[u],[]⟩ [(x,u)])/\∀base:Heap,(K w.params).In base->base.Ns mainGlobals mg->fK l.prog w (K w.params) mg base Hr k fa fd [x] (UL (K w.params))) :
  PySem.W.WalkO q loose XP YP l.row.toRowW d [] (λf vs=>PySem.call f vs) :=
 L2.Io (n:=63) (k:=k) (x:=x) (CX:=λ_=>Hr) (sp:=λw=>UL (K w.params)) hn (by decide) hdf hr hY F (λ_ _ a ns hl hO hS=>⟨a,ns,rfl,hO,hS,hl,λ_=>rfl⟩) λ_ _ _ _ _ z=>z
end Hv
end
section
namespace Hv
open PySem L2
inductive Pr (α:Type)
 |ok (a:α)|exc (c:Nat) (ds:List Val)|no
def pb{α β:Type}(m:Pr α)(f:α -> Pr β):Pr β:=match m with
 |.ok a=>f a
 |.exc c ds=>.exc c ds
 |.no=>.no
def pl{α:Type}(o:Option α):Pr α:=match o with
 |some a=>.ok a
 |none=>.no
def pg{α:Type}(c:Bool)(m:Pr α):Pr α:=if c=true then m else .no
inductive Mk
 |sh|nw|ow
def vN:Mk->Bool
 |.ow=>false
 |_=>true
def Qu:Mk->Bool
 |.nw=>true
 |_=>false
abbrev bh:=List (Option (Mk×Val))
abbrev FV:=Bool×Val
mutual
noncomputable def l6:Val->Bool
 |.rl _=>false
 |.dc _ _=>false
 |.ob _ _ _=>false
 |.ref _=>false
 |.tup vs=>bU vs
 |.non=>true
 |.bl _=>true
 |.int _=>true
 |.str _=>true
noncomputable def bU:List Val->Bool
 |[]=>true
 |v::vs=>l6 v&&bU vs
end
def gz(f:Bool)(d:Val):Mk:=if (f && !l6 d)=true then .nw else .sh
def putD(ks:List Key)(ds:List Val)(k:Key)(d:Val):Val:=.dc ((fM (ks.zip ds) k d).map (·.1)) ((fM (ks.zip ds) k d).map (·.2))
def di:Lp->Val->Val->Pr FV
 |.add,.int a,.int b=>.ok (true,.int (a+b))
 |.add,.str a,.str b=>pg (decide (a.length+b.length<=sizeLine)) (.ok (true,.str (a++b)))
 |.add,.tup a,.tup b=>pg (!a.isEmpty&&decide (a.length+b.length<=sizeLine)) (.ok (bU (a++b),.tup (a++b)))
 |.add,.rl a,.rl b=>pg (decide (a.length+b.length<=sizeLine)) (.ok (bU (a++b),.rl (a++b)))
 |.sub,.int a,.int b=>.ok (true,.int (a-b))
 |.mul,.int a,.int b=>pg (fD a b) (.ok (true,.int (a*b)))
 |.fdiv,.int a,.int b=>pg (mU b) (.ok (true,.int (a/b)))
 |.mod,.int a,.int b=>pg (decide (0<b)) (.ok (true,.int (a%b)))
 |.pow,.int a,.int b=>pg (decide (0<=b/\b<=1000000/\a.natAbs<2 ^ 64)) (.ok (true,.int (a ^ b.toNat)))
 |_,_,_=>.no
def rZ(v:Val)(lo hi:Option Int):Pr FV:=match v with
 |.str z=>pg (decide ((iG z lo hi).length<=sizeLine)) (.ok (true,.str (iG z lo hi)))
 |.tup vs=>pg (!(decide (HT.eG vs.length 0 lo=0)&&decide (HT.eG vs.length vs.length hi=vs.length))) (.ok (bU (cV vs lo hi),.tup (cV vs lo hi)))
 |.rl vs=>.ok (bU (cV vs lo hi),.rl (cV vs lo hi))
 |_=>.no
def fy:Bl->List Val->Pr FV
 |.len,[v]=>pb (pl (kW [] v)) λn=>.ok (true,.int n)
 |.min,[.int a,.int b]=>.ok (true,.int (if b<a then b else a))
 |.max,[.int a,.int b]=>.ok (true,.int (if b>a then b else a))
 |.min,[v]=>pb (pl (cQ [] v)) λxs=>pb (pl ((bw xs).bind uR)) λm=>.ok (true,m)
 |.max,[v]=>pb (pl (cQ [] v)) λxs=>pb (pl ((bw xs).bind uS)) λm=>.ok (true,m)
 |.sorted,[.rl xs]=>pb (pl (gJ xs)) λys=>.ok (true,.rl ys)
 |.list,[v]=>pb (pl (cQ [] v)) λxs=>.ok (bU xs,.rl xs)
 |.tuple,[v]=>pb (pl (cQ [] v)) λxs=>.ok (bU xs,.tup xs)
 |.str,[.int i]=>pg (decide (i.natAbs.log2<1920)) (.ok (true,.str (toString i)))
 |.int,[.bl b]=>.ok (true,.int (if b=true then 1 else 0))
 |.int,[.int i]=>.ok (true,.int i)
 |.int,[.str x]=>pb (pl (intText? x)) λn=>pg (decide (x.length<=640)) (.ok (true,.int n))
 |.all,[.rl xs]=>pb (pl (cz xs)) λbs=>.ok (true,.bl (bs.all id))
 |.any,[.rl xs]=>pb (pl (cz xs)) λbs=>.ok (true,.bl (bs.any id))
 |.isin T,[v]=>pb (pl (wR [] v)) λt=>pb (pl (wU T t)) λb=>.ok (true,.bl b)
 |_,_=>.no
def E1:Val->List Val->Pr FV
 |.str z,[.rl xs]=>pb (pl (strs? xs)) λys=>pg (decide ((ys.map (·.length)).sum+ys.length*z.length<=16777216)) (.ok (true,.str (Txt.join z ys)))
 |_,_=>.no
def E2:Val->List Val->Pr FV
 |.str z,[.str y]=>pg (L2.kJ z y) (.ok (true,.rl ((L2.gh z y).map .str)))
 |_,_=>.no
def gA:Ik->List Val->Option (List Val)
 |.seq,[.str x]=>if L2.isAscii x=true then some (signs x) else none
 |.seq,[.tup vs]=>some vs
 |.seq,[.rl vs]=>some vs
 |.range,[.int n]=>if inR n then some (aU 0 n.toNat) else none
 |.range,[.int a,.int b]=>if inR a&&inR b then some (aU a (b-a).toNat) else none
 |.enum,[.rl vs]=>some (cR 0 vs)
 |_,_=>none
def pI(k:Ik)(ds:List Val):Option (List Val):=match k with
 |.zip=>none
 |k=>gA k ds
def cM:List Nat->List Val->bh->Option bh
 |[],[],env=>some env
 |i::is,d::ds,env=>cM is ds (env.set i (some (.sh,d)))
 |_,_,_=>none
def bE:wQ->Val->bh->Option bh
 |.one i,d,env=>some (env.set i (some (.sh,d)))
 |.tup is,.tup ds,env=>cM is ds env
 |_,_,_=>none
def fH(js:List (Option Nat))(env:bh):bh:=js.map λo=>match o with
 |none=>none
 | some j=>match env[j]? with
  |some (some d)=>some d
  |_=>none
def cX(f:Val->Pr (Option FV)):List Val->Pr (Bool×List Val)
 |[]=>.ok (true,[])
 |x::r=>pb (f x) λo=>pb (cX f r) λp=>.ok (match o with|some e=>(e.1&&p.1,e.2::p.2)|none=>p)
def qR:Val->Pr Bool
 |.bl b=>.ok b
 |_=>.no
def jZ(env:bh):IE->Option FV
 | .var i=>match env[i]? with
  |some (some (_,d))=>some (l6 d,d)
  |_=>none
 |_=>none
def isVar:IE->Bool
 |.var _=>true
 |_=>false
def E4{α:Type}:Pr α -> Pr α
 |.ok a=>.ok a
 |.exc _ _=>.no
 |.no=>.no
theorem E5{α:Type}{a:α}:E4 (.ok a)=.ok a:=rfl
def LC(c:Nat):List Val->Pr FV
 |[]=>.exc c []
 |_=>.no
def JR(c:Nat)(g:Str):List Val->Pr FV
 |[.int i]=>.exc c [.str g,.int i]
 |_=>.no
mutual
noncomputable def aL(Ψ:Nat->List Val->Pr FV):IE->bh->Pr FV
 | .var i,env=>match env[i]? with
  |some (some (m,d))=>pg (vN m) (.ok (l6 d,d))
  |_=>.no
 |.cst d,_=>.ok (l6 d,d)
 |.con _ d,_=>.ok (l6 d,d)
 |.no,_=>.no
 |.bin o a b,env=>pb (if isVar a=true then pl (jZ env a) else aL Ψ a env) λx=>pb (if isVar b=true then pl (jZ env b) else aL Ψ b env) λy=>di o x.2 y.2
 | .neg a,env=>pb (aL Ψ a env) λx=>match x.2 with
  |.int i=>.ok (true,.int (-i))
  |_=>.no
 |.cmp o a b,env=>pb (if isVar a=true then pl (jZ env a) else aL Ψ a env) λx=>pb (if isVar b=true then pl (jZ env b) else aL Ψ b env) λy=>pb (pl (cop [] o x.2 y.2)) λt=>.ok (true,.bl t)
 |.chn o p a b c,env=>pb (aL Ψ a env) λx=>pb (aL Ψ b env) λy=>pb (pl (cop [] o x.2 y.2)) λt=>
  if t=true then pb (aL Ψ c env) λz=>pb (pl (cop [] p y.2 z.2)) λt=>.ok (true,.bl t) else .ok (true,.bl false)
 |.and a b,env=>pb (aL Ψ a env) λx=>pb (qR x.2) λt=>if t=true then pb (aL Ψ b env) λy=>pb (qR y.2) λu=>.ok (true,.bl u) else .ok (true,.bl false)
 |.or a b,env=>pb (aL Ψ a env) λx=>pb (qR x.2) λt=>if t=true then .ok (true,.bl true) else pb (aL Ψ b env) λy=>pb (qR y.2) λu=>.ok (true,.bl u)
 |.not a,env=>pb (aL Ψ a env) λx=>pb (qR x.2) λt=>.ok (true,.bl (!t))
 |.ite _ _ _,_=>.no
 |.tup es,env=>pb (om Ψ es env) λp=>pg (decide (p.2.length<=sizeLine)) (.ok (p.1,.tup p.2))
 |.lst es,env=>pb (om Ψ es env) λp=>pg (decide (p.2.length<=sizeLine)) (.ok (p.1,.rl p.2))
 |.idx a b,env=>pb (if isVar a=true then pl (jZ env a) else aL Ψ a env) λx=>pb (aL Ψ b env) λy=>pb (pl (jt [] x.2 y.2)) λz=>.ok (l6 z,z)
 |.slc a lo hi,env=>pb (if isVar a=true then pl (jZ env a) else aL Ψ a env) λx=>pb (if cJ lo=true then .ok none else pb (aL Ψ lo env) λv=>pb (pl (mV v.2)) λi=>.ok (some i)) λl=>
   pb (if cJ hi=true then .ok none else pb (aL Ψ hi env) λv=>pb (pl (mV v.2)) λi=>.ok (some i)) λu=>rZ x.2 l u
 |.call j es,env=>pb (om Ψ es env) λp=>Ψ j p.2
 |.blt b es,env=>pb (fB Ψ es env) λds=>fy b ds
 | .met m a es,env=>match m with
  |.join=>pb (aL Ψ a env) λx=>pb (pl (recv [] .join x.2)) λ_=>pb (fB Ψ es env) λds=>E1 x.2 ds
  |.pop=>pb (aL Ψ a env) λx=>pb (pl (recv [] .pop x.2)) λ_=>pb (fB Ψ es env) λds=>E2 x.2 ds
  |_=>.no
 | .comp _ js pat k it c elt,env=>E4 (pb (fB Ψ it env) λits=>pb (pl (pI k its)) λxs=>pg (decide (xs.length<=100000))
   (pb (cX (λd=>pb (pl (bE pat d (fH js env))) λenv'=>pb (if cJ c=true then .ok true else pb (aL Ψ c env') λv=>pl (fS [] v.2)) λt=>
    if t=true then pb (aL Ψ elt env') λe=>.ok (some e) else .ok none) xs) λp=>.ok (p.1,.rl p.2)))
 |.dct0,_=>.ok (true,.dc [] [])
 | .sset a,env=>pb (if isVar a=true then pl (jZ env a) else aL Ψ a env) λx=>match x.2 with
  |.rl xs=>pb (pl (bw xs)) λns=>pg (decide (ns.length<64)) (.ok (true,.rl ((sortI (L2.bD [] ns)).map .int)))
  |_=>.no
 |.dget _ _ _,_=>.no
 |.dct1 k v,env=>pb (aL Ψ k env) λx=>pb (pl (keyOf x.2)) λkk=>pb (aL Ψ v env) λy=>pb (pl (keyOf y.2)) λk2=>.ok (true,putD [kk] [.bl true] k2 (.bl true))
 |.lkeys _,_=>.no
 |.sdef ..,_=>.no
 |.svals a,env=>pb (if isVar a=true then pl (jZ env a) else aL Ψ a env) λx=>pb (pl (match x.2 with|.rl ds=>gp ds|_=>none)) λj=>.ok (true,.int (j:Nat))
 |.skeys a,env=>pb (aL Ψ a env) λx=>pb (pl (IZ x.2)) λj=>.ok (true,.int (j:Nat))
 |.fld _ _ _,_=>.no
 |.mth _ _ _ _,_=>.no
 |.rev _ _,_=>.no
 |.dflt _ _ _ _ _ _,_=>.no
 |.isc _ _ _,_=>.no
noncomputable def om(Ψ:Nat->List Val->Pr FV):jU->bh->Pr (Bool×List Val)
 |.nil,_=>.ok (true,[])
 |.cons e es,env=>pb (aL Ψ e env) λd=>pb (om Ψ es env) λp=>.ok (d.1&&p.1,d.2::p.2)
noncomputable def fB(Ψ:Nat->List Val->Pr FV):jU->bh->Pr (List Val)
 |.nil,_=>.ok []
 |.cons e es,env=>pb (if isVar e=true then pl (jZ env e) else aL Ψ e env) λd=>pb (fB Ψ es env) λp=>.ok (d.2::p)
end
def u9(Ψ:Nat->List Val->Pr FV)(e:IE)(env:bh):Pr FV:=if isVar e=true then pl (jZ env e) else aL Ψ e env
inductive JS
 |nx (env:bh)|rt (p:FV)|bk (env:bh)|ct (env:bh)
mutual
noncomputable def vc:IS->List Nat
 |.expr (.met .append (.var i) _)=>[i]
 |.expr (.met .extend (.var i) _)=>[i]
 |.jD (.var i) _ _=>[i]
 |.iff _ a b=>cF a++cF b
 |.for _ _ _ b=>cF b
 |.whl _ _ b=>cF b
 |_=>[]
noncomputable def cF:dY->List Nat
 |.nil=>[]
 |.cons s r=>vc s++cF r
end
def stored:wQ->List Nat
 |.one i=>[i]
 |.tup is=>is
mutual
noncomputable def oq:IS->List Nat
 |.asg p _=>stored p
 |.aug i _ _=>[i]
 |.iff _ a b=>lF a++lF b
 |.for p _ _ b=>stored p++lF b
 |.whl _ _ b=>lF b
 |_=>[]
noncomputable def lF:dY->List Nat
 |.nil=>[]
 |.cons s r=>oq s++lF r
end
def Wt:IE->Bool
 |.lst _=>true
 |.comp ..=>true
 |.slc ..=>true
 |.blt .list _=>true
 |.blt .sorted _=>true
 |.dct0=>true
 |.dct1 ..=>true
 |_=>false
def iR(body:Val->bh->Pr JS):List Val->bh->Pr JS
 |[],env=>.ok (.nx env)
 | x::r,env=>pb (body x env) λf=>match f with
  |.nx env'=>iR body r env'
  |.ct env'=>iR body r env'
  |.bk env'=>.ok (.nx env')
  |.rt p=>.ok (.rt p)
def XI:Mk->Mk
 |.ow=>.sh
 |m=>m
def XJ:Option (Mk×Val)->Option (Mk×Val)
 |none=>none
 |some (m,d)=>some (XI m,d)
def pK(env:bh):bh:=env.map XJ
def JT(env:bh):jU->Option (Val×Val)
 | .cons (.var i) #[.var j]=>match env[i]?,env[j]? with
  |some (some (.nw,d)),some (some (.nw,e))=>some (d,e)
  |_,_=>none
 |_=>none
def JU(Ψ:Nat->List Val->Pr FV)(es:jU)(env:bh):Pr FV:=match JT env es with
 |some p=>.ok (true,.tup [p.1,p.2])
 |none=>aL Ψ (.tup es) (pK env)
def E6(Ψ:Nat->List Val->Pr FV)(e:IE)(env:bh):Pr FV:=match e with
 | .var i=>match env[i]? with
  | some (some (m,d))=>if vN m=true then .ok (l6 d||Qu m,d) else match d with
   |.rl ds=>.ok (bU ds,.rl ds)
   |.dc ks ds=>.ok (bU ds,.dc ks ds)
   |_=>.no
  |_=>.no
 |.call j es=>aL Ψ (.call j es) (pK env)
 |.bin o a b=>aL Ψ (.bin o a b) (pK env)
 |.tup es=>JU Ψ es env
 |e=>aL Ψ e env
def AO(p:wQ)(it:jU)(body:dY):Bool:=match it with
 |.cons (.var i) .nil=>!(cF body).contains i && !(lF body).contains i && !(stored p).contains i
 |_=>true
def CD(Ψ:Nat->List Val->Pr FV)(js:List (Option Nat))(pat:wQ)(k:Ik)(it:jU)(c elt:IE)(env:bh):Pr FV:=pb (fB Ψ it env) λits=>pb (pl (pI k its)) λxs=>pg (decide (xs.length<=100000))
   (pb (cX (λd=>pb (pl (bE pat d (fH js env))) λenv'=>pb (if cJ c=true then .ok true else pb (aL Ψ c env') λv=>pl (fS [] v.2)) λt=>
    if t=true then pb (aL Ψ elt env') λe=>.ok (some e) else .ok none) xs) λp=>.ok (p.1,.rl p.2))
mutual
noncomputable def aZ(Ψ:Nat->List Val->Pr FV)(ms:List Nat):IS->bh->Pr JS
 | .expr e,env=>match e with
  | .met .append (.var i) #[a]=>match env[i]? with
   |some (some (.ow,.rl ds))=>pb (aL Ψ a env) λx=>pg (decide (ds.length<sizeLine)) (.ok (.nx (env.set i (some (.ow,.rl (ds++[x.2]))))))
   |_=>.no
  | .met .extend (.var i) #[a]=>match env[i]? with
   | some (some (.ow,.rl ds))=>pb (aL Ψ a env) λx=>match x.2 with
    |.tup vs=>pg (decide (ds.length+vs.length<=sizeLine)) (.ok (.nx (env.set i (some (.ow,.rl (ds++vs))))))
    |_=>.no
   |_=>.no
  |e=>pb (aL Ψ e env) λ_=>.ok (.nx env)
 | .asg p e,env=>match p with
  | .one i=>if ms.contains i=true then pg (Wt e) (pb (aL Ψ e env) λx=>match x.2 with
    |.rl ds=>.ok (.nx (env.set i (some (.ow,.rl ds))))
    |.dc ks ds=>.ok (.nx (env.set i (some (.ow,.dc ks ds))))
    |_=>.no) else pb (aL Ψ e env) λx=>.ok (.nx (env.set i (some (gz x.1 x.2,x.2))))
  |.tup is=>pg (is.all λi=>!ms.contains i) (pb (aL Ψ e env) λx=>pb (pl (bE (.tup is) x.2 env)) λenv'=>.ok (.nx env'))
 | .aug i _ e,env=>pg (!ms.contains i) (match e with
  |.comp _ js pat k it c elt=>pb (CD Ψ js pat k it c elt env) λz=>.ok (.nx (env.set i (some (.sh,z.2))))
  |_=>.no)
 | .jD o i v,env=>match o with
  | .var j=>pb (aL Ψ v env) λx=>match env[j]? with
   |some (some (.ow,.dc ks ds))=>pb (aL Ψ i env) λz=>pb (pl (keyOf z.2)) λk=>pg (decide (ks.length<sizeLine)) (.ok (.nx (env.set j (some (.ow,putD ks ds k x.2)))))
   |_=>.no
  |_=>.no
 |.iff c a b,env=>pb (u9 Ψ c env) λx=>pb (pl (fS [] x.2)) λt=>if t=true then aB Ψ ms a env else aB Ψ ms b env
 |.for p k it body,env=>pg (AO p it body&&(stored p).all λi=>!ms.contains i) (pb (fB Ψ it env) λits=>pb (pl (gA k its)) λxs=>
   iR (λx env=>pb (pl (bE p x env)) λenv'=>aB Ψ ms body env') xs env)
 |.whl _ _ _,_=>.no
 |.ret e,env=>pb (E6 Ψ e env) λp=>.ok (.rt p)
 |.IW,_=>.ok (.rt (true,.non))
 |.brk,env=>.ok (.bk env)
 |.cnt,env=>.ok (.ct env)
 |.pass,env=>.ok (.nx env)
 |.never,_=>.no
 |.setF _ a _ _,env=>pb (aL Ψ a env) λ_=>.no
noncomputable def aB(Ψ:Nat->List Val->Pr FV)(ms:List Nat):dY->bh->Pr JS
 |.nil,env=>.ok (.nx env)
 | .cons s r,env=>pb (aZ Ψ ms s env) λf=>match f with
  |.nx env'=>aB Ψ ms r env'
  |f=>.ok f
end
def cD(Ψ:Nat->List Val->Pr FV)(n:Nat)(body:dY)(ds:List Val):Pr FV :=
 pb (aB Ψ (cF body) body (ds.map (λd=>some (.sh,d))++replicate (n-ds.length) none)) λf=>match f with
  |.nx _=>.ok (true,.non)
  |.rt p=>.ok p
  |_=>.no
abbrev AP:=Option Nat->Prop
def Fr(n:Nat):AP:=λo=>match o with
 |none=>False
 |some k=>n<=k
theorem Fr.le{n m:Nat}(h:n<=m):∀o,Fr m o->Fr n o
 |none,e=>e
 |some k,e=>aaK h e
mutual
noncomputable def Dn(A:AP)(h:Hs):Val->Val->Prop
 |.non,v=>v=.non
 |.bl b,v=>v=.bl b
 |.int i,v=>v=.int i
 |.str x,v=>v=.str x
 |.tup ds,v=>∃vs,v=.tup vs/\ay A h ds vs
 |.rl ds,v=>(∃vs,v=.rl vs/\A none/\ay A h ds vs)\/∃i vs,v=.ref i/\A (some i)/\h[i]?=some (.lst vs)/\ay A h ds vs
 |.dc ks ds,v=>∃i kvs,v=.ref i/\A (some i)/\h[i]?=some (.dct kvs)/\kvs.map (·.1)=ks/\ay A h ds (kvs.map (·.2))
 |.ob c xs ds,v=>∃i fs,v=.ref i/\A (some i)/\h[i]?=some (.ins c fs)/\fs.map (·.1)=xs/\ay A h ds (fs.map (·.2))
 |.ref _,_=>False
noncomputable def ay(A:AP)(h:Hs):List Val->List Val->Prop
 |[],vs=>vs=[]
 |d::ds,vs=>∃v r,vs=v::r/\Dn A h d v/\ay A h ds r
end
section
variable {A A':AP} {h h' h1:Hs}
mutual
theorem Dn.mono(hA:∀i,A i->A' i)(hh:∀(i:Nat) (o:Ob),A (some i)->h[i]?=some o->h'[i]?=some o):∀(d v:Val),Dn A h d v->Dn A' h' d v
 |.non,v,e=>by rw[Dn]at e |-;exact e
 |.bl _,v,e=>by rw[Dn]at e |-;exact e
 |.int _,v,e=>by rw[Dn]at e |-;exact e
 |.str _,v,e=>by rw[Dn]at e |-;exact e
 | .tup ds,v,e=>by
  rw[Dn]at e |-;obtain⟨vs,rfl,q⟩:=e;exact⟨vs,rfl,ay.mono hA hh ds vs q⟩
 | .rl ds,v,e=>by
  rw[Dn]at e |-
  rcases e with ⟨vs,rfl,n,q⟩|⟨i,vs,rfl,a,g,q⟩
  ·exact .inl ⟨vs,rfl,hA _ n,ay.mono hA hh ds vs q⟩
  ·exact .inr ⟨i,vs,rfl,hA _ a,hh i _ a g,ay.mono hA hh ds vs q⟩
 | .dc ks ds,v,e=>by
  rw[Dn]at e |-;obtain⟨i,kvs,rfl,a,g,k,q⟩:=e;exact⟨i,kvs,rfl,hA _ a,hh i _ a g,k,ay.mono hA hh ds _ q⟩
 | .ob c xs ds,v,e=>by
  rw[Dn]at e |-;obtain⟨i,kvs,rfl,a,g,k,q⟩:=e;exact⟨i,kvs,rfl,hA _ a,hh i _ a g,k,ay.mono hA hh ds _ q⟩
 |.ref _,v,e=>by rw[Dn]at e;exact e.elim
theorem ay.mono(hA:∀i,A i->A' i)(hh:∀(i:Nat) (o:Ob),A (some i)->h[i]?=some o->h'[i]?=some o):∀(ds vs:List Val),ay A h ds vs->ay A' h' ds vs
 |[],vs,e=>by rw[ay]at e |-;exact e
 | d::ds,vs,e=>by
  rw[ay]at e |-;obtain⟨v,r,rfl,q1,q2⟩:=e;exact⟨v,r,rfl,Dn.mono hA hh d v q1,ay.mono hA hh ds r q2⟩
end
theorem j6{i:Nat}(p:h<+:h')(e:h[i]?=some o):h'[i]?=some o:=by
 obtain⟨t,rfl⟩:=p;have hi:i<h.length:=(aai.mp e).1;rw[aax hi];exact e
theorem Dn.ext(p:h<+:h')(e:Dn A h d v):Dn A h' d v:=Dn.mono (λ_ a=>a) (λ_ _ _ q=>j6 p q) d v e
theorem ay.ext(p:h<+:h')(e:ay A h d v):ay A h' d v:=ay.mono (λ_ a=>a) (λ_ _ _ q=>j6 p q) d v e
theorem Dn.gF(hA:∀i,A i->A' i)(e:Dn A h d v):Dn A' h d v:=Dn.mono hA (λ_ _ _ q=>q) d v e
theorem ay.gF(hA:∀i,A i->A' i)(e:ay A h d v):ay A' h d v:=ay.mono hA (λ_ _ _ q=>q) d v e
mutual
theorem ju:∀(d v:Val),l6 d=true->(Dn A h d v↔v=d)
 |.non,v,_=>by rw[Dn]
 |.bl _,v,_=>by rw[Dn]
 |.int _,v,_=>by rw[Dn]
 |.str _,v,_=>by rw[Dn]
 | .tup ds,v,e=>by
  rw[l6]at e;rw[Dn];constructor
  ·rintro⟨vs,rfl,q⟩;rw[(bx ds vs e).mp q]
  ·rintro rfl;exact⟨ds,rfl,(bx ds ds e).mpr rfl⟩
 |.rl _,v,e=>by rw[l6]at e;cases e
 |.dc _ _,v,e=>by rw[l6]at e;cases e
 |.ob _ _ _,v,e=>by rw[l6]at e;cases e
 |.ref _,v,e=>by rw[l6]at e;cases e
theorem bx:∀(ds vs:List Val),bU ds=true->(ay A h ds vs↔vs=ds)
 |[],vs,_=>by rw[ay]
 | d::ds,vs,e=>by
  rw[bU,and_eq_true]at e;rw[ay];constructor
  ·rintro⟨v,r,rfl,q1,q2⟩;rw[(ju d v e.1).mp q1,(bx ds r e.2).mp q2]
  ·rintro rfl;exact⟨d,ds,rfl,(ju d d e.1).mpr rfl,(bx ds ds e.2).mpr rfl⟩
end
theorem ay.nil:ay A h [] []:=by rw[ay]
theorem ay.cons{d v:Val}{ds vs:List Val}(a:Dn A h d v)(b:ay A h ds vs):ay A h (d::ds) (v::vs):=by rw[ay];exact⟨v,vs,rfl,a,b⟩
theorem ay.length:∀{ds vs:List Val},ay A h ds vs->ds.length=vs.length
 |[],vs,e=>by rw[ay]at e;subst e;rfl
 |d::ds,vs,e=>by rw[ay]at e;obtain⟨v,r,rfl,_,q⟩:=e;simp[ay.length q]
theorem ay.get:∀{ds vs:List Val} {i:Nat} {d:Val},ay A h ds vs->ds[i]?=some d->∃v,vs[i]?=some v/\Dn A h d v
 |[],vs,i,d,e,q=>by simp at q
 | c::ds,vs,0,d,e,q=>by
  rw[ay]at e;obtain⟨v,r,rfl,a,_⟩:=e;simp at q;subst q;exact⟨v,rfl,a⟩
 | c::ds,vs,i+1,d,e,q=>by
  rw[ay]at e;obtain⟨v,r,rfl,_,b⟩:=e;simp at q;obtain⟨w,q1,q2⟩:=ay.get b q;exact⟨w,by simpa using q1,q2⟩
theorem ay.append:∀{ds es vs ws:List Val},ay A h ds vs->ay A h es ws->ay A h (ds++es) (vs++ws)
 |[],es,vs,ws,e,q=>by rw[ay]at e;subst e;exact q
 | d::ds,es,vs,ws,e,q=>by
  rw[ay]at e;obtain⟨v,r,rfl,a,b⟩:=e;exact ay.cons a (ay.append b q)
theorem ay.take:∀{ds vs:List Val} (n:Nat),ay A h ds vs->ay A h (ds.take n) (vs.take n)
 |_,_,0,_=>by simp;exact ay.nil
 |[],vs,n+1,e=>by rw[ay]at e;subst e;simp;exact ay.nil
 | d::ds,vs,n+1,e=>by
  rw[ay]at e;obtain⟨v,r,rfl,a,b⟩:=e;exact ay.cons a (ay.take n b)
theorem ay.drop:∀{ds vs:List Val} (n:Nat),ay A h ds vs->ay A h (ds.drop n) (vs.drop n)
 |_,_,0,e=>by simpa using e
 |[],vs,n+1,e=>by rw[ay]at e;subst e;simp;exact ay.nil
 | d::ds,vs,n+1,e=>by
  rw[ay]at e;obtain⟨v,r,rfl,a,b⟩:=e;exact ay.drop n b
theorem ay.cut(lo hi:Option Int)(e:ay A h ds vs):ay A h (cV ds lo hi) (cV vs lo hi):=by
 unfold cV;rw[e.length];exact ay.take _ (ay.drop _ e)
theorem ay.jC{i:Int}(e:ay A h ds vs)(q:L2.jC ds i=some d):∃v,L2.jC vs i=some v/\Dn A h d v:=by
 unfold L2.jC at q |-;rw[e.length]at q;cases hi:L2.Hq vs.length i with
 |none=>rw[hi]at q;cases q
 |some n=>rw[hi]at q;exact ay.get e q
def OD(A:AP)(h:Hs)(d:Val)(a:Nat):Prop:=match d with
 |.rl ds=>∃vs,h[a]?=some (.lst vs)/\ay A h ds vs
 |.dc ks ds=>∃kvs,h[a]?=some (.dct kvs)/\kvs.map (·.1)=ks/\ay A h ds (kvs.map (·.2))
 |_=>False
theorem OD.mono{a:Nat}(e:OD A h d a)(ho:∀o,h[a]?=some o->h'[a]?=some o)(hq:∀ds vs,ay A h ds vs->ay A' h' ds vs):OD A' h' d a:=by
 cases d with
 |rl ds=>obtain⟨vs,g,q⟩:=e;exact⟨vs,ho _ g,hq _ _ q⟩
 |dc ks ds=>obtain⟨kvs,g,k,q⟩:=e;exact⟨kvs,ho _ g,k,hq _ _ q⟩
 |_=>exact False.elim e
theorem OD.ext{a:Nat}(p:h<+:h')(e:OD A h d a):OD A h' d a:=e.mono (λ_ g=>j6 p g) λ_ _ q=>q.ext p
theorem OD.lt{a:Nat}(e:OD A h d a):a<h.length:=by
 cases d with
 |rl ds=>obtain⟨vs,g,q⟩:=e;exact(aai.mp g).1
 |dc ks ds=>obtain⟨kvs,g,k,q⟩:=e;exact(aai.mp g).1
 |_=>exact False.elim e
theorem OD.dn{a:Nat}(e:OD A h d a)(ha:A (.some a)):Dn A h d (.ref a):=by
 cases d with
 |rl ds=>obtain⟨vs,g,q⟩:=e;rw[Dn];exact .inr ⟨a,vs,rfl,ha,g,q⟩
 |dc ks ds=>obtain⟨kvs,g,k,q⟩:=e;rw[Dn];exact⟨a,kvs,rfl,ha,g,k,q⟩
 |_=>exact False.elim e
def OB(A:AP)(h:Hs)(d:Val)(o:Ob):Prop:=match d with
 |.rl ds=>∃vs,o=.lst vs/\ay A h ds vs
 |.dc ks ds=>∃kvs,o=.dct kvs/\kvs.map (·.1)=ks/\ay A h ds (kvs.map (·.2))
 |_=>False
theorem OB.od{a:Nat}(e:OB A h d o)(g:h'[a]?=.some o)(hq:∀ds vs,ay A h ds vs->ay A' h' ds vs):OD A' h' d a:=by
 cases d with
 |rl ds=>obtain⟨vs,rfl,q⟩:=e;exact⟨vs,g,hq _ _ q⟩
 |dc ks ds=>obtain⟨kvs,rfl,k,q⟩:=e;exact⟨kvs,g,k,hq _ _ q⟩
 |_=>exact False.elim e
def DB(A:AP)(h:Hs)(d v:Val):Prop:=Dn A h d v\/∃i,v=.ref i/\OD A h d i
theorem DB.all(e:DB A h d v):Dn (λ_=>True) h d v:=by
 rcases e with e|⟨i,rfl,q⟩
 ·exact e.gF λ_ _=>trivial
 ·exact(q.mono (A':=λ_=>True) (λ_ g=>g) λ_ _ z=>z.gF λ_ _=>trivial).dn trivial
theorem DB.ext(p:h<+:h')(e:DB A h d v):DB A h' d v:=by
 rcases e with e|⟨i,rfl,q⟩
 ·exact .inl (e.ext p)
 ·exact .inr ⟨i,rfl,q.ext p⟩
theorem DB.dc(e:DB A h (.dc ks ds) v):∃i kvs,v=.ref i/\h[i]?=some (.dct kvs)/\kvs.map (·.1)=ks/\ay A h ds (kvs.map (·.2)):=by
 rcases e with e|⟨i,rfl,kvs,g,k,q⟩
 ·rw[Dn]at e;obtain⟨i,kvs,rfl,_,g,k,q⟩:=e;exact⟨i,kvs,rfl,g,k,q⟩
 ·exact⟨i,kvs,rfl,g,k,q⟩
theorem DB.lst(e:DB A h (.rl ds) v):∃vs,aF h v=some vs/\ay A h ds vs:=by
 rcases e with e|⟨i,rfl,vs,g,q⟩
 ·rw[Dn]at e
  rcases e with ⟨vs,rfl,_,q⟩|⟨i,vs,rfl,_,g,q⟩
  ·exact⟨vs,rfl,q⟩
  ·exact⟨vs,by simp[aF,g],q⟩
 ·exact⟨vs,by simp[aF,g],q⟩
theorem DB.seq(e:DB A h d v)(q:cQ [] d=some ds):∃vs,cQ h v=some vs/\ay A h ds vs:=by
 cases d with
 |tup es=>
  simp only[cQ]at q;cases q
  rcases e with e|⟨_,_,e1⟩
  ·rw[Dn]at e;obtain⟨vs,rfl,q⟩:=e;exact⟨vs,rfl,q⟩
  ·exact False.elim e1
 |rl es=>simp only[cQ,aF]at q;cases q;obtain⟨vs,q1,q2⟩:=e.lst;refine⟨vs,?_,q2⟩;cases v<;>first|(simp[aF]at q1;done)|exact q1
 |ref i=>simp[cQ,aF]at q
 |_=>simp[cQ,aF]at q
theorem DB.int{i:Int}(e:DB A h (.int i) v):v=.int i:=by
 rcases e with e|⟨_,_,e1⟩
 ·rw[Dn]at e;exact e
 ·exact False.elim e1
theorem DB.str(e:DB A h (.str i) v):v=.str i:=by
 rcases e with e|⟨_,_,e1⟩
 ·rw[Dn]at e;exact e
 ·exact False.elim e1
theorem DB.bl{i:Bool}(e:DB A h (.bl i) v):v=.bl i:=by
 rcases e with e|⟨_,_,e1⟩
 ·rw[Dn]at e;exact e
 ·exact False.elim e1
theorem DB.tup(e:DB A h (.tup ds) v):∃vs,v=.tup vs/\ay A h ds vs:=by
 rcases e with e|⟨_,_,e1⟩
 ·rw[Dn]at e;exact e
 ·exact False.elim e1
theorem vd:∀(n:Nat) (d v:Val) (p:PyData),Dn (λ_=>True) h d v->toD n [] d=some p->toD n h v=some p:=by
 intro n
 induction n with
 |zero=>intro d v p _ e;simp[toD]at e
 |succ n ih=>
  have all:∀(ds vs:List Val) (ps:List PyData),ay (λ_=>True) h ds vs->cg (toD n []) ds=some ps->cg (toD n h) vs=some ps:=by
   intro ds
   induction ds with
   |nil=>intro vs ps q e;rw[ay]at q;subst q;exact e
   |cons d ds ZC=>intro vs ps q e;rw[ay]at q;obtain⟨v,r,rfl,q1,q2⟩:=q;simp only[cg]at e |-;obtain⟨x,e1,e⟩:=aac.mp e;obtain⟨xs,e2,e⟩:=aac.mp e;rw[ih d v x q1 e1,ZC r xs q2 e2];exact e
  intro d v p q e;cases d with
  |non=>rw[Dn]at q;subst q;exact e
  |bl b=>rw[Dn]at q;subst q;exact e
  |int b=>rw[Dn]at q;subst q;exact e
  |str b=>rw[Dn]at q;subst q;exact e
  |tup ds=>rw[Dn]at q;obtain⟨vs,rfl,q⟩:=q;simp only[toD]at e |-;obtain⟨ps,e1,e⟩:=aac.mp e;rw[all ds vs ps q e1];exact e
  |rl ds=>
   rw[Dn]at q;simp only[toD]at e;obtain⟨ps,e1,e⟩:=aac.mp e
   rcases q with ⟨vs,rfl,_,q⟩|⟨i,vs,rfl,_,g,q⟩
   ·simp only[toD];rw[all ds vs ps q e1];exact e
   ·simp only[toD,aF,g,bind_some];rw[all ds vs ps q e1];exact e
  |dc ks ds=>simp[toD]at e
  |ob c xs ds=>simp[toD]at e
  |ref i=>rw[Dn]at q;exact q.elim
theorem LD{b:Bool}(a:DB A h d v)(c:DB A h e w)(q:ze [] d e=some b):ze h v w=some b:=by
 unfold ze at q |-;obtain⟨x,e1,q⟩:=aac.mp q;obtain⟨y,e2,q⟩:=aac.mp q;rw[vd 16 d v x a.all e1,vd 16 e w y c.all e2];exact q
theorem E7(a:DB A h d v):qC v=qC d:=by
 rcases a with a|⟨i,rfl,q⟩
 ·cases d<;>rw[Dn]at a
  ·subst a;rfl
  ·subst a;rfl
  ·subst a;rfl
  ·subst a;rfl
  ·obtain⟨vs,rfl,_⟩:=a;rfl
  ·rcases a with ⟨vs,rfl,_⟩|⟨i,vs,rfl,_⟩<;>rfl
  ·obtain⟨i,kvs,rfl,_⟩:=a;rfl
  ·obtain⟨i,kvs,rfl,_⟩:=a;rfl
  ·exact a.elim
 ·cases d<;>first|exact False.elim q|rfl
theorem E8{b:Bool}(q:memD h v (.str y)=some b):False:=by
 unfold memD at q;obtain⟨x,e1,q⟩:=aac.mp q;obtain⟨z,e2,q⟩:=aac.mp q;simp only[toD]at e1;split at e1<;>cases e1;simp[M6]at q
theorem E9{b:Bool}(a:DB A h d v)(c:DB A h e w)(q:uT [] d e=some b):uT h v w=some b:=by
 have data:memD [] d e=some b->memD h v w=some b:=λq=>by
  unfold memD at q |-;obtain⟨x,e1,q⟩:=aac.mp q;obtain⟨y,e2,q⟩:=aac.mp q;rw[vd 16 e w x c.all e1,vd 16 d v y a.all e2];exact q
 cases e with
 |str y=>
  have:=c.str;subst this;cases d with
  |str x=>have:=a.str;subst this;exact q
  |_=>exact(E8 (data q)).elim
 |tup es=>obtain⟨ws,rfl,_⟩:=c.tup;have q':=data (by cases d<;>exact q);cases v<;>exact q'
 |rl es=>
  have q':=data (by cases d<;>exact q)
  rcases c with c|⟨i,rfl,vs,g,q2⟩
  ·rw[Dn]at c
   rcases c with ⟨ws,rfl,_⟩|⟨i,ws,rfl,_,g,_⟩
   ·cases v<;>exact q'
   ·cases v<;>(show (h[i]?).bind _=_;rw[g];exact q')
  ·cases v<;>(show (h[i]?).bind _=_;rw[g];exact q')
 |dc ks es=>
  obtain⟨i,kvs,rfl,g,hk,_⟩:=c.dc
  ·skip
   have q':(keyOf d).bind (λk=>some (ks.any λj=>decide (j=k)))=some b:=by cases d<;>exact q
   obtain⟨kk,e1,q'⟩:=aac.mp q';have ev:keyOf v=some kk:=by
    cases d<;>simp only[keyOf]at e1<;>first|(cases e1;done)|skip
    ·have:=a.int;subst this;exact e1
    ·have:=a.str;subst this;exact e1
   have:(gi kvs kk).isSome=(ks.any λj=>decide (j=kk)):=by
    subst hk;unfold gi;rw[isSome_map,any_map];have key:∀l:List (Key×Val),(List.find? (λkv=>decide (kv.fst=kk)) l).isSome=l.any ((λj=>decide (j=kk))∘λx=>x.fst):=by
     intro l
     induction l with
     |nil=>rfl
     |cons x l ih=>
      rw[find?_cons,any_cons]
      by_cases hx:x.1=kk
      ·simp[hx]
      ·simp[hx];simpa using ih
    exact key kvs
   have fin:IX h v i (.dct kvs)=some b:=by simp only[IX,ev,bind_some,this];exact q'
   cases v<;>(show (h[i]?).bind _=_;rw[g];exact fin)
 |ref i=>
  rcases c with c|⟨_,_,e1⟩
  ·rw[Dn]at c;exact c.elim
  ·exact False.elim e1
 |ob cc xs es=>
  have q':memD [] d (.ob cc xs es)=some b:=by cases d<;>exact q
  unfold memD at q';obtain⟨x,e1,q'⟩:=aac.mp q';simp[toD]at e1
 |non=>
  have q':=data (by cases d<;>exact q);have:w=.non:=by
   rcases c with c|⟨_,_,e1⟩
   ·rw[Dn]at c;exact c
   ·exact False.elim e1
  subst this;cases v<;>exact q'
 |bl x=>
  have q':=data (by cases d<;>exact q);have:w=.bl x:=by
   rcases c with c|⟨_,_,e1⟩
   ·rw[Dn]at c;exact c
   ·exact False.elim e1
  subst this;cases v<;>exact q'
 |int x=>
  have q':=data (by cases d<;>exact q);have:w=.int x:=by
   rcases c with c|⟨_,_,e1⟩
   ·rw[Dn]at c;exact c
   ·exact False.elim e1
  subst this;cases v<;>exact q'
theorem Fb{b:Bool}(a:DB A h d v)(c:DB A h e w)(q:Lr d e=some b):Lr v w=some b:=by
 cases e<;>first|(cases q;done)|skip
 ·have:w=.non:=by
   rcases c with c|⟨_,_,e1⟩
   ·rw[Dn]at c;exact c
   ·exact False.elim e1
  subst this;show some (qC v)=_;rw[E7 a];exact q
theorem zq{b:Bool}(a:DB A h d v)(c:DB A h e w)(q:cop [] o d e=some b):cop h o v w=some b:=by
 cases o with
 |eq=>exact LD a c q
 |ne=>obtain⟨x,e1,e2⟩:=aaD.mp (show (ze [] d e).map _=some b from q);show (ze h v w).map _=_;rw[LD a c e1];exact congrArg some e2
 |isn=>exact Fb a c q
 |ntn=>obtain⟨x,e1,e2⟩:=aaD.mp (show (Lr d e).map _=some b from q);show (Lr v w).map _=_;rw[Fb a c e1];exact congrArg some e2
 |pN=>exact E9 a c q
 |nin=>obtain⟨x,e1,e2⟩:=aaD.mp (show (uT [] d e).map _=some b from q);show (uT h v w).map _=_;rw[E9 a c e1];exact congrArg some e2
 |lt=>obtain⟨i,j,rfl,rfl⟩:=jV (.inl rfl) q;have:=a.int;subst this;have:=c.int;subst this;exact q
 |le=>obtain⟨i,j,rfl,rfl⟩:=jV (.inr (.inl rfl)) q;have:=a.int;subst this;have:=c.int;subst this;exact q
 |gt=>obtain⟨i,j,rfl,rfl⟩:=jV (.inr (.inr (.inl rfl))) q;have:=a.int;subst this;have:=c.int;subst this;exact q
 |ge=>obtain⟨i,j,rfl,rfl⟩:=jV (.inr (.inr (.inr rfl))) q;have:=a.int;subst this;have:=c.int;subst this;exact q
theorem zu{b:Bool}(a:DB A h d v)(q:fS [] d=some b):fS h v=some b:=by
 cases d<;>first|(cases q;done)|skip
 have:=a.bl;subst this;exact q
theorem Ox{n:Nat}(a:DB A h d v)(q:kW [] d=some n):kW h v=some n:=by
 cases d with
 |rl ds=>
  obtain⟨vs,q1,q2⟩:=a.lst;have l:=q2.length;simp only[kW]at q;rw[l]at q;cases v<;>simp only[aF]at q1<;>first|(cases q1;done)|skip
  ·cases q1;exact q
  ·split at q1<;>cases q1;rename_i g;simp only[kW,g];exact q
 |tup ds=>obtain⟨vs,rfl,q2⟩:=a.tup;simp only[kW]at q |-;rw[<-q2.length];exact q
 |dc ks ds=>obtain⟨i,kvs,rfl,g,hk,_⟩:=a.dc;subst hk;simp only[kW,g]at q |-;rw[<-q];simp
 |str b=>have:=a.str;subst this;exact q
 |_=>simp[kW]at q
theorem Sh{t:String}(a:DB A h d v)(q:wR [] d=some t):wR h v=some t:=by
 cases d with
 |rl ds=>
  obtain⟨vs,q1,q2⟩:=a.lst;cases v<;>simp only[aF]at q1<;>first|(cases q1;done)|skip
  ·exact q
  ·split at q1<;>cases q1;rename_i g;simp only[wR,g];exact q
 |tup ds=>obtain⟨vs,rfl,q2⟩:=a.tup;exact q
 |dc ks ds=>obtain⟨i,kvs,rfl,g,hk,_⟩:=a.dc;simp only[wR,g]at q |-;exact q
 |ob c xs ds=>cases q
 |ref i=>
  rcases a with a|⟨_,_,e1⟩
  ·rw[Dn]at a;exact a.elim
  ·exact False.elim e1
 |non=>
  rcases a with a|⟨_,_,e1⟩
  ·rw[Dn]at a;subst a;exact q
  ·exact False.elim e1
 |bl b=>have:=a.bl;subst this;exact q
 |int b=>have:=a.int;subst this;exact q
 |str b=>have:=a.str;subst this;exact q
theorem AQ:∀{kvs:List (Key×Val)} {ks:List Key} {ds:List Val} {z:Val},kvs.map (·.1)=ks->ay A h ds (kvs.map (·.2))->gi (ks.zip ds) k=some z->∃v,gi kvs k=some v/\Dn A h z v
 |[],ks,ds,z,hk,q,e=>by subst hk;simp[gi]at e
 | (k',v')::kvs,ks,ds,z,hk,q,e=>by
  subst hk;have l:=q.length;cases ds with
  |nil=>simp at l
  |cons d ds=>
   simp only[map_cons]at q;rw[ay]at q;obtain⟨v,r,e1,q1,q2⟩:=q;cases e1
   by_cases hkk:k'=k
   ·subst hkk;simp[gi]at e |-;subst e;exact q1
   ·have e':gi ((kvs.map (·.1)).zip ds) k=some z:=by simpa [gi,hkk] using e
    obtain⟨w,a1,a2⟩:=AQ rfl q2 e';exact⟨w,by simpa [gi,hkk] using a1,a2⟩
theorem DB.LF{j:Nat}(c:DB A h (.ref j) v):False:=by
 rcases c with c|⟨_,_,e1⟩
 ·rw[Dn]at c;exact c
 ·exact e1
theorem ve(a:Dn A h d v)(e:keyOf d=some kk):keyOf v=some kk:=by
 cases d<;>first|(cases e;done)|skip
 ·rw[Dn]at a;subst a;exact e
 ·rw[Dn]at a;subst a;exact e
theorem Oz(a:DB A h d v)(c:Dn A h e w)(q:jt [] d e=some z):∃u,jt h v w=some u/\Dn A h z u:=by
 cases e with
 |int i=>
  rw[Dn]at c;subst c;cases d with
  |str x=>
   have:=a.str;subst this;refine⟨z,q,?_⟩;change (if x.length<=sizeLine then (jC x.cps.toList i).map (λc=>Val.str ⟨[c].toArray⟩) else none)=some z at q;split at q
   ·obtain⟨c,_,rfl⟩:=aaD.mp q;rw[Dn]
   ·cases q
  |tup ds=>obtain⟨vs,rfl,q2⟩:=a.tup;exact q2.jC q
  |rl ds=>
   obtain⟨vs,q1,q2⟩:=a.lst;obtain⟨u,q3,q4⟩:=q2.jC q;refine⟨u,?_,q4⟩;cases v<;>simp only[aF]at q1<;>first|(cases q1;done)|skip
   ·cases q1;exact q3
   ·split at q1<;>cases q1;rename_i g;unfold jt;simp only[aF,g,bind_some];exact q3
  |dc ks ds=>obtain⟨i',kvs,rfl,g,hk,q2⟩:=a.dc;obtain⟨u,q3,q4⟩:=AQ hk q2 q;refine⟨u,?_,q4⟩;show (match h[i']? with|some (.dct kvs)=>gi kvs (.inl i)|_=>(aF h (.ref i')).bind λxs=>jC xs i)=_;rw[g];exact q3
  |ref j=>exact(DB.LF a).elim
  |_=>cases q
 |_=>cases d<;>first|(cases q;done)|exact(DB.LF a).elim
end
def Up(A:AP)(h:Hs):Prop:=∀k,h.length<=k->A (some k)
def Rel(A:AP)(h:Hs){α β:Type}(R:α -> Hs -> β -> Prop)(o:Out β):Pr α -> Prop
 |.ok a=>∃b h',o=.ok b h'/\h<+:h'/\R a h' b
 |.exc c es=>∃ws h',o=.exc c ws h'/\h<+:h'/\ay A h' es ws
 |.no=>True
def RV(A:AP)(h:Hs):FV->Hs->Val->Prop:=λx h' v=>Dn A h' x.2 v/\(x.1=true->Dn (Fr h.length) h' x.2 v)
def ZD(A:AP)(h:Hs):Bool×List Val->Hs->List Val->Prop:=λx h' v=>ay A h' x.2 v/\(x.1=true->ay (Fr h.length) h' x.2 v)
def Wu(A:AP):FV->Hs->Val->Prop:=λx h' v=>DB A h' x.2 v
def Hz(A:AP)(h:Hs):List Val->List Val->Prop
 |[],vs=>vs=[]
 |d::ds,vs=>∃v r,vs=v::r/\DB A h d v/\Hz A h ds r
def ER(A:AP)(aa:bh)(env:Env)(h:Hs):Prop:=∀(i:Nat) (f:Mk) (d:Val),aa[i]?=some (some (f,d)) ->
 if vN f=false then ∃a,env[i]?=some (some (.ref a))/\OD A h d a else ∃v,env[i]?=some (some v)/\Dn A h d v
section
variable {A:AP} {h h1:Hs} {α β γ δ:Type}
theorem Up.ext(u:Up A h)(p:h<+:h1):Up A h1:=λk hk=>u k (aaK p.length_le hk)
theorem ER.ext(e:ER A aa env h)(p:h<+:h1):ER A aa env h1:=λi f d q=>by
 have:=e i f d q;revert this;generalize vN f=t;intro this;cases t with
 |false=>rw[aan rfl]at this |-;obtain⟨a,k2,k3⟩:=this;exact⟨a,k2,k3.ext p⟩
 |true=>rw[aaj (by decide)]at this |-;obtain⟨v,k1,k2⟩:=this;exact⟨v,k1,k2.ext p⟩
theorem ah(r:Rel A h R (m h) p)(k:∀a h1 b,h<+:h1->R a h1 b->Rel A h1 R' (f b h1) (F a)):Rel A h R' (bnd m f h) (pb p F):=by
 unfold bnd;cases p with
 |ok a=>
  obtain⟨b,h1,e,q,r⟩:=r;rw[e];show Rel A h R' (f b h1) (F a);have:=k a h1 b q r;cases e2:F a with
  |ok c=>rw[e2]at this;obtain⟨d,h2,e3,q2,r2⟩:=this;exact⟨d,h2,e3,q.trans q2,r2⟩
  |exc c es=>rw[e2]at this;obtain⟨d,h2,e3,q2,r2⟩:=this;exact⟨d,h2,e3,q.trans q2,r2⟩
  |no=>trivial
 |exc c es=>obtain⟨ws,h1,e,q,r⟩:=r;rw[e];exact⟨ws,h1,rfl,q,r⟩
 |no=>trivial
theorem aq(r:R a h b):Rel A h R (ret b h) (.ok a):=⟨b,h,rfl,aaC _,r⟩
theorem aW(r:∀a,o=some a->∃b,o'=some b/\R a h b):Rel A h R (bu o' h) (pl o):=by
 cases o with
 |none=>trivial
 |some a=>obtain⟨b,rfl,q⟩:=r a rfl;exact⟨b,h,rfl,aaC _,q⟩
theorem cu(r:∀a,o=some a->∃b,f h=some b/\R a h b):Rel A h R (ask f h) (pl o):=aW r
theorem aY{c c':Bool}(e:c=true->c'=true)(r:c=true->Rel A h R (m h) p):Rel A h R (aH c' m h) (pg c p):=by
 unfold aH pg;cases c with
 |true=>rw[aan (e rfl),aan rfl];exact r rfl
 |false=>rw[aaj aab];trivial
theorem xE(r:Rel A h R o p)(k:∀a h' b,h<+:h'->R a h' b->R' a h' b):Rel A h R' o p:=by
 cases p with
 |ok a=>obtain⟨b,h',e,q,r⟩:=r;exact⟨b,h',e,q,k a h' b q r⟩
 |exc c es=>exact r
 |no=>trivial
theorem dN(o:Ob):h<+:h++[o]:=prefix_append _ _
theorem fU(o:Ob):(h++[o])[h.length]?=some o:=by simp
theorem iy{f:Bool}{h0:Hs}(u:Up A h)(p:h0<+:h)(q:ay A h xs vs)(g:f=true->ay (Fr h0.length) h xs vs):Rel A h (RV A h0) (new (.lst vs) h) (.ok (f,.rl xs)):=by
 refine⟨_,_,rfl,dN _,?_,λhf=>?_⟩
 ·show Dn A _ (.rl xs) _;rw[Dn];exact .inr ⟨_,vs,rfl,u _ (aal _),fU _,q.ext (dN _)⟩
 ·show Dn _ _ (.rl xs) _;rw[Dn];exact .inr ⟨_,vs,rfl,p.length_le,fU _,(g hf).ext (dN _)⟩
theorem vf{h0:Hs}(q:Dn A h d v):RV A h0 (l6 d,d) h v:=⟨q,λhi=>(ju d v hi).mpr ((ju d v hi).mp q)⟩
theorem fV(q:ay A h ds vs)(hi:bU ds=true):ay A' h' ds vs:=(bx ds vs hi).mpr ((bx ds vs hi).mp q)
theorem fP{i:Int}{h0:Hs}{f:Bool}:RV A h0 (f,.int i) h (.int i):=⟨by rw[Dn],λ_=>by rw[Dn]⟩
theorem j7{i:Bool}{h0:Hs}{f:Bool}:RV A h0 (f,.bl i) h (.bl i):=⟨by rw[Dn],λ_=>by rw[Dn]⟩
theorem zv{h0:Hs}{f:Bool}:RV A h0 (f,.str i) h (.str i):=⟨by rw[Dn],λ_=>by rw[Dn]⟩
theorem RV.br{h0:Hs}(r:RV A h0 x h v):Wu A x h v:=.inl r.1
theorem JV(ho:o≠.add)(v w:Val):(∃i j,v=.int i/\w=.int j)\/di o v w=.no:=by
 cases v with
 |int i=>
  cases w with
  |int j=>exact .inl ⟨i,j,rfl,rfl⟩
  |_=>right;cases o<;>first|rfl|exact absurd rfl ho
 |_=>right;cases o<;>first|rfl|exact absurd rfl ho
theorem JW{h0:Hs}(u:Up A h)(p:h0<+:h)(a:DB A h d v)(c:DB A h e w):Rel A h (RV A h0) (Qm o v w h) (di o d e):=by
 have ii:o≠.add->(∃i j,d=.int i/\e=.int j)\/di o d e=.no:=λho=>JV ho d e;cases o with
 |add=>
  cases d<;>cases e<;>first|trivial|skip
  ·have:=a.int;subst this;have:=c.int;subst this;exact aq fP
  ·have:=a.str;subst this;have:=c.str;subst this;exact aY (λz=>z) λ_=>aq zv
  ·rename_i xs ys
   obtain⟨vs,rfl,q1⟩:=a.tup;obtain⟨ws,rfl,q2⟩:=c.tup;have l1:=q1.length;have l2:=q2.length;refine aY (λz=>?_) λ_=>aq ⟨?_,λhi=>?_⟩
   ·rw[l1,l2]at z
    have:xs.isEmpty=vs.isEmpty:=by cases xs<;>cases vs<;>simp_all
    rw[<-this];exact z
   ·show Dn A h (.tup _) _;rw[Dn];exact⟨_,rfl,q1.append q2⟩
   ·show Dn _ h (.tup _) _;rw[Dn];exact⟨_,rfl,fV (q1.append q2) hi⟩
  ·rename_i xs ys
   obtain⟨vs,e1,q1⟩:=a.lst;obtain⟨ws,e2,q2⟩:=c.lst;have eb:Qm .add v w=bnd (ask λh=>aF h v) λa=>bnd (ask λh=>aF h w) λb=>aH (decide (a.length+b.length<=sizeLine)) (new (.lst (a++b))):=by
    cases v<;>simp only[aF]at e1<;>first|(cases e1;done)|skip
    all_goals cases w<;>simp only[aF]at e2<;>first|(cases e2;done)|rfl
   have ev:Qm .add v w h=aH (decide (vs.length+ws.length<=sizeLine)) (new (.lst (vs++ws))) h:=by rw[eb];unfold bnd ask bu;dsimp only;rw[e1];dsimp only;rw[e2]
   rw[ev];refine aY (λz=>?_) λ_=>iy u p (q1.append q2) λhi=>fV (q1.append q2) hi;rw[<-q1.length,<-q2.length];exact z
 |_=>
  rcases ii (by intro z;cases z) with ⟨i,j,rfl,rfl⟩|z
  case inr=>rw[z];trivial
  have:=a.int;subst this;have:=c.int;subst this
  first
   |exact aq fP
   |exact aY (λz=>z) λ_=>aq fP
theorem JX{lo hi:Option Int}{h0:Hs}(u:Up A h)(p:h0<+:h)(a:DB A h d v):Rel A h (RV A h0) (rY v lo hi h) (rZ d lo hi):=by
 cases d with
 |str z=>have:=a.str;subst this;exact aY (λz=>z) λ_=>aq ⟨(by show Dn A h (.str _) _;rw[Dn]),λ_=>(by show Dn _ h (.str _) _;rw[Dn])⟩
 |tup ds=>
  obtain⟨vs,rfl,q⟩:=a.tup;have l:=q.length;simp only[rZ,rY];refine aY (λz=>?_) λ_=>aq ⟨?_,λhi=>?_⟩
  ·rw[l]at z;exact z
  ·show Dn A h (.tup _) _;rw[Dn];exact⟨_,rfl,q.cut lo hi⟩
  ·show Dn _ h (.tup _) _;rw[Dn];exact⟨_,rfl,fV (q.cut _ _) hi⟩
 |rl ds=>
  obtain⟨vs,e1,q⟩:=a.lst;have ev:rY v lo hi h=new (.lst (cV vs lo hi)) h:=by
   have:rY v lo hi=bnd (ask λh=>aF h v) λxs=>new (.lst (cV xs lo hi)):=by cases v<;>simp only[aF]at e1<;>first|(cases e1;done)|rfl
   rw[this];unfold bnd ask bu;dsimp only;rw[e1]
  rw[ev];exact iy u p (q.cut lo hi) λhh=>fV (q.cut lo hi) hh
 |_=>trivial
theorem Hz.one(e:Hz A h [d] vs):∃v,vs=[v]/\DB A h d v:=by
 obtain⟨v,r,rfl,a,b⟩:=e;cases (show r=[] from b);exact⟨v,rfl,a⟩
theorem JY{ns:List Int}(q:ay A h ds vs)(e:bw ds=some ns):vs=ds:=by
 have:bU ds=true:=by
  clear q
  induction ds generalizing ns with
  |nil=>rfl
  |cons d ds ih=>
   simp only[bw,cg]at e;obtain⟨i,e1,e⟩:=aac.mp e;obtain⟨is,e2,e⟩:=aac.mp e;cases d<;>first|(cases e1;done)|skip
   rw[bU,l6,Bool.true_and];exact ih e2
 exact(bx ds vs this).mp q
theorem JZ(q:ay A h ds vs)(e:strs? ds=some ns):vs=ds:=by
 have:bU ds=true:=by
  clear q
  induction ds generalizing ns with
  |nil=>rfl
  |cons d ds ih=>
   simp only[strs?,cg]at e;obtain⟨i,e1,e⟩:=aac.mp e;obtain⟨is,e2,e⟩:=aac.mp e;cases d<;>first|(cases e1;done)|skip
   rw[bU,l6,Bool.true_and];exact ih e2
 exact(bx ds vs this).mp q
theorem xF(q:ay A h ds vs)(e:cz ds=some ns):vs=ds:=by
 have:bU ds=true:=by
  clear q
  induction ds generalizing ns with
  |nil=>rfl
  |cons d ds ih=>
   simp only[cz,cg]at e;obtain⟨i,e1,e⟩:=aac.mp e;obtain⟨is,e2,e⟩:=aac.mp e;cases d<;>first|(cases e1;done)|skip
   rw[bU,l6,Bool.true_and];exact ih e2
 exact(bx ds vs this).mp q
theorem qS:∀{ds:List Val} {ns:List Int},bw ds=some ns->bU ds=true
 |[],_,_=>rfl
 | d::ds,ns,e=>by
  simp only[bw,cg]at e;obtain⟨i,e1,e⟩:=aac.mp e;obtain⟨is,e2,e⟩:=aac.mp e;cases d<;>first|(cases e1;done)|skip
  rw[bU,l6,Bool.true_and];exact qS (show bw ds=some is from e2)
theorem xG:∀{ds:List Val} {ns:List (List Int)},lA ds=some ns->bU ds=true
 |[],_,_=>rfl
 | d::ds,ns,e=>by
  simp only[lA,cg]at e;obtain⟨i,e1,e⟩:=aac.mp e;obtain⟨is,e2,e⟩:=aac.mp e;cases d<;>first|(cases e1;done)|skip
  rename_i vs;dsimp only at e1;split at e1
  ·cases e1
  ·rw[bU,l6,qS e1,Bool.true_and];exact xG (show lA ds=some is from e2)
theorem cG:∀ns:List Int,bU (ns.map .int)=true
 |[]=>rfl
 |n::ns=>by rw[aar,bU,l6,Bool.true_and];exact cG ns
theorem mZ:∀pO:List (List Int),bU (pO.map gx)=true
 |[]=>rfl
 |n::ns=>by rw[aar,bU,gx,l6,cG,Bool.true_and];exact mZ ns
theorem tX(e:gJ xs=some ys):bU xs=true/\bU ys=true:=by
 unfold gJ at e;split at e
 ·cases e2:bw xs with
  |some ns=>rw[e2]at e;cases e;exact⟨qS e2,cG _⟩
  |none=>rw[e2]at e;obtain⟨pO,e3,e4⟩:=aac.mp e;cases e4;exact⟨xG e3,mZ _⟩
 ·cases e
theorem J1{h0:Hs}(u:Up A h)(p:h0<+:h)(a:Hz A h ds vs):Rel A h (RV A h0) (blt b vs h) (fy b ds):=by
 have mm:∀(f:List Int->Option Val) (d:Val),(∀ns m,f ns=some m->∃i,m=.int i)->∀v,DB A h d v->Rel A h (RV A h0) (bnd (ask λh=>cQ h v) (λxs=>bu ((bw xs).bind f)) h) (pb (pl (cQ [] d)) λxs=>pb (pl ((bw xs).bind f)) λm=>.ok (true,m)):=by
  intro f d hf v hv;refine ah (R:=λxs h' ws=>ay A h' xs ws) (cu λxs e=>hv.seq e) λxs h1 ws q1 q=>?_;have:bu ((bw ws).bind f) h1=bnd (bu ((bw ws).bind f)) (λm=>ret m) h1:=by unfold bnd bu;cases (bw ws).bind f<;>rfl
  rw[this];refine ah (R:=λm _ m'=>m'=m/\∃i,m=.int i) (aW λm e=>?_) λm h2 m' _ hm=>?_
  ·obtain⟨ns,e1,e2⟩:=aac.mp e;rw[JY q e1];exact⟨m,e,rfl,hf ns m e2⟩
  ·obtain⟨rfl,i,rfl⟩:=hm;exact aq fP
 have hmin:∀ns m,uR ns=some m->∃i,m=Val.int i:=λns m e=>by cases ns<;>simp[uR]at e;exact⟨_,e.symm⟩
 have Wv:∀ns m,uS ns=some m->∃i,m=Val.int i:=λns m e=>by cases ns<;>simp[uS]at e;exact⟨_,e.symm⟩
 match ds,a with
 |[],a=>cases b<;>trivial
 |[d],a=>
  obtain⟨v,rfl,hv⟩:=a.one;cases b with
  |len=>exact ah (R:=λn _ m=>m=n) (cu λn e=>⟨n,Ox hv e,rfl⟩) λn h1 m _ e=>by subst e;exact aq fP
  |min=>
   have e1:fy .min [d]=pb (pl (cQ [] d)) λxs=>pb (pl ((bw xs).bind uR)) λm=>.ok (true,m):=by cases d<;>rfl
   have e2:blt .min [v]=bnd (ask λh=>cQ h v) λxs=>bu ((bw xs).bind uR):=by cases v<;>rfl
   rw[e1,e2];exact mm uR d hmin v hv
  |max=>
   have e1:fy .max [d]=pb (pl (cQ [] d)) λxs=>pb (pl ((bw xs).bind uS)) λm=>.ok (true,m):=by cases d<;>rfl
   have e2:blt .max [v]=bnd (ask λh=>cQ h v) λxs=>bu ((bw xs).bind uS):=by cases v<;>rfl
   rw[e1,e2];exact mm uS d Wv v hv
  |sorted=>
   cases d<;>first|trivial|skip
   rename_i xs;obtain⟨ws,e1,q⟩:=hv.lst;have ev:bnd (ask λh=>aF h v) (λxs=>bnd (bu (gJ xs)) λys=>new (.lst ys)) h=bnd (bu (gJ ws)) (λys=>new (.lst ys)) h:=by unfold bnd ask bu;dsimp only;rw[e1]
   show Rel A h (RV A h0) (bnd (ask λh=>aF h v) (λxs=>bnd (bu (gJ xs)) λys=>new (.lst ys)) h) _;rw[ev];refine ah (R:=λys _ zs=>zs=ys/\bU ys=true) (aW λys e=>?_) λys h1 zs q1 hz=>?_
   ·obtain⟨i1,i2⟩:=tX e;rw[(bx xs ws i1).mp q];exact⟨ys,e,rfl,i2⟩
   ·obtain⟨rfl,hi⟩:=hz;exact iy (u.ext q1) (p.trans q1) ((bx _ _ hi).mpr rfl) λ_=>(bx _ _ hi).mpr rfl
  |list=>refine ah (R:=λxs h' ws=>ay A h' xs ws) (cu λxs e=>hv.seq e) λxs h1 ws q1 q=>?_;exact iy (u.ext q1) (p.trans q1) q λhi=>fV q hi
  |tuple=>
   refine ah (R:=λxs h' ws=>ay A h' xs ws) (cu λxs e=>hv.seq e) λxs h1 ws q1 q=>?_;refine aq ⟨?_,λhi=>?_⟩
   ·show Dn A h1 (.tup _) _;rw[Dn];exact⟨_,rfl,q⟩
   ·show Dn _ h1 (.tup _) _;rw[Dn];exact⟨_,rfl,fV q hi⟩
  |str=>
   cases d<;>first|trivial|skip
   have:=hv.int;subst this;exact aY (λz=>z) λ_=>aq zv
  |int=>
   cases d<;>first|trivial|skip
   ·have:=hv.bl;subst this;exact aq fP
   ·have:=hv.int;subst this;exact aq fP
   ·have:=hv.str;subst this;exact ah (R:=λn _ m=>m=n) (aW λn e=>⟨n,e,rfl⟩) λn h1 m p1 e=>by subst e;exact aY (λz=>z) λ_=>aq fP
  |all=>
   cases d<;>first|trivial|skip
   rename_i xs;obtain⟨ws,e1,q⟩:=hv.lst;have ev:bnd (ask λh=>aF h v) (λxs=>bnd (bu (cz xs)) λbs=>ret (Val.bl (bs.all id))) h=bnd (bu (cz ws)) (λbs=>ret (Val.bl (bs.all id))) h:=by unfold bnd ask bu;dsimp only;rw[e1]
   show Rel A h (RV A h0) (bnd (ask λh=>aF h v) (λxs=>bnd (bu (cz xs)) λbs=>ret (Val.bl (bs.all id))) h) _;rw[ev];exact ah (R:=λys _ zs=>zs=ys) (aW λys e=>⟨ys,by rw[xF q e];exact e,rfl⟩) λys h1 zs q1 hz=>by subst hz;exact aq j7
  |any=>
   cases d<;>first|trivial|skip
   rename_i xs;obtain⟨ws,e1,q⟩:=hv.lst;have ev:bnd (ask λh=>aF h v) (λxs=>bnd (bu (cz xs)) λbs=>ret (Val.bl (bs.any id))) h=bnd (bu (cz ws)) (λbs=>ret (Val.bl (bs.any id))) h:=by unfold bnd ask bu;dsimp only;rw[e1]
   show Rel A h (RV A h0) (bnd (ask λh=>aF h v) (λxs=>bnd (bu (cz xs)) λbs=>ret (Val.bl (bs.any id))) h) _;rw[ev];exact ah (R:=λys _ zs=>zs=ys) (aW λys e=>⟨ys,by rw[xF q e];exact e,rfl⟩) λys h1 zs q1 hz=>by subst hz;exact aq j7
  |isin T=>refine ah (R:=λn _ m=>m=n) (cu λn e=>⟨n,Sh hv e,rfl⟩) λn h1 m _ e=>?_;subst e;exact ah (R:=λn _ m=>m=n) (aW λn e=>⟨n,e,rfl⟩) λn h1 m _ e=>by subst e;exact aq j7
 |[d,e],a=>
  obtain⟨v,r,rfl,hv,hr⟩:=a;obtain⟨w,rfl,hw⟩:=Hz.one hr;cases b<;>first|trivial|(cases d<;>trivial)|skip
  ·cases d<;>cases e<;>first|trivial|skip
   have:=hv.int;subst this;have:=hw.int;subst this;exact aq fP
  ·cases d<;>cases e<;>first|trivial|skip
   have:=hv.int;subst this;have:=hw.int;subst this;exact aq fP
 |x::y::z::t,a=>cases b<;>first|trivial|(cases x<;>trivial)|(cases x<;>cases y<;>trivial)
theorem Fc{h0:Hs}(a:Dn A h d v)(b:Hz A h ds vs):Rel A h (RV A h0) (met .join v vs h) (E1 d ds):=by
 cases d<;>first|trivial|skip
 rw[Dn]at a;subst a
 match ds,b with
 |[],_=>trivial
 |[d],b=>
  cases d<;>first|trivial|skip
  obtain⟨v,rfl,hv⟩:=b.one;obtain⟨ws,e1,q⟩:=hv.lst;rename_i z xs _;have ev:met .join (.str z) [v] h=bnd (bu (strs? ws)) (λys=>aH (decide ((ys.map (·.length)).sum+ys.length*z.length<=16777216)) (ret (.str (Txt.join z ys)))) h:=by show bnd (ask λh=>aF h v) (λxs=>bnd (bu (strs? xs)) λys=>aH (decide ((ys.map (·.length)).sum+ys.length*z.length<=16777216)) (ret (Val.str (Txt.join z ys)))) h=_;unfold bnd ask bu;dsimp only;rw[e1]
  rw[ev];exact ah (R:=λys _ zs=>zs=ys) (aW λys e=>⟨ys,by rw[JZ q e];exact e,rfl⟩) λys h1 zs q1 hz=>by subst hz;exact aY (λz=>z) λ_=>aq zv
 |x::y::_,_=>cases x<;>trivial
end
def Imp(φ:List Val->M Val)(ψ:List Val->Pr FV):Prop:=∀(A:AP) (h:Hs) (ds vs:List Val),Up A h->ay A h ds vs->Rel A h (RV A h) (φ vs h) (ψ ds)
section
variable {Φ:Nat->List Val->M Val} {Ψ:Nat->List Val->Pr FV} {A:AP} {h h1:Hs}
theorem gj{x y:Bool}(f:(x&&y)=true):x=true/\y=true:=Bool.and_eq_true_iff.mp f
theorem r6{x y z:Bool}(f:(x&&y&&z)=true):(x=true/\y=true)/\z=true:=⟨gj (gj f).1,(gj f).2⟩
def bW(Φ:Nat->List Val->M Val)(Ψ:Nat->List Val->Pr FV)(ir:IE):Prop:=∀(aa:bh) (env:Env) (A:AP) (h:Hs),Up A h->ER A aa env h->Rel A h (RV A h) (aN Φ ir env h) (aL Ψ ir aa)
def j8(Φ:Nat->List Val->M Val)(Ψ:Nat->List Val->Pr FV)(fG:jU):Prop:=(∀(aa:bh) (env:Env) (A:AP) (h:Hs),Up A h->ER A aa env h->Rel A h (ZD A h) (bJ Φ fG env h) (om Ψ fG aa)) /\
 ∀(aa:bh) (env:Env) (A:AP) (h:Hs),Up A h->ER A aa env h->Rel A h (λds h' vs=>Hz A h' ds vs) (bJ Φ fG env h) (fB Ψ fG aa)
theorem RV.up{h0 h':Hs}(p:h0<+:h)(r:RV A h x h' v):RV A h0 x h' v:=⟨r.1,λf=>(r.2 f).gF (Fr.le p.length_le)⟩
theorem OA{h0:Hs}(p:h0<+:h)(r:Rel A h (RV A h) o x):Rel A h (RV A h0) o x:=xE r λ_ _ _ _ q=>q.up p
theorem Si{i:Nat}(e:ER A aa env h):Rel A h (Wu A) (aN Φ (.var i) env h) (pl (jZ aa (.var i))):=by
 rw[aN];refine aW λx hx=>?_;simp only[jZ]at hx;split at hx
 ·rename_i f d hd
  cases hx;have:=e i f d hd;revert this;generalize vN f=t;intro this;cases t with
  |false=>rw[aan rfl]at this;obtain⟨a,k2,k3⟩:=this;exact⟨.ref a,by rw[k2],.inr ⟨a,rfl,k3⟩⟩
  |true=>rw[aaj (by decide)]at this;obtain⟨v,k1,k2⟩:=this;exact⟨v,by rw[k1],.inl k2⟩
 ·cases hx
theorem qT(o:bW Φ Ψ ir)(u:Up A h)(e:ER A aa env h):Rel A h (Wu A) (aN Φ ir env h) (if isVar ir=true then pl (jZ aa ir) else aL Ψ ir aa):=by
 by_cases hv:isVar ir=true
 ·rw[aan hv];cases ir<;>first|(cases hv;done)|exact Si e
 ·rw[aaj hv];exact xE (o aa env A h u e) λ_ _ _ _ q=>q.br
theorem J2{α β:Type}{R:α -> Hs -> β -> Prop}{c:Bool}{o:Out β}{p:Pr α}(r:c=true->Rel A h R o p):Rel A h R o (pg c p):=by
 unfold pg;cases c with
 |true=>rw[aan rfl];exact r rfl
 |false=>rw[aaj aab];trivial
theorem v_var{i:Nat}:bW Φ Ψ (.var i):=λaa env A h u e=>by
 rw[aN,aL];cases hv:aa[i]? with
 |none=>trivial
 |some o=>
  cases o with
  |none=>trivial
  |some fd=>
   obtain⟨f,d⟩:=fd;refine J2 λhf=>?_
   ·have:=e i f d hv;rw[aaj (by simp[hf])]at this;obtain⟨v,k1,k2⟩:=this;rw[k1];exact⟨v,h,rfl,aaC _,vf k2⟩
theorem J6{α:Type}{f:Hs->Option α}:ask f h=bnd (ask f) (λz=>ret z) h:=by unfold bnd ask bu;cases f h<;>rfl
theorem AR(f:l6 d=true):Dn A h d d:=(ju d d f).mpr rfl
theorem Sj(f:l6 d=true):bW Φ Ψ (.cst d):=λaa env A h u e=>by rw[aN,aL];exact aq (vf (AR f))
theorem Sk(f:l6 d=true):bW Φ Ψ (.con x d):=λaa env A h u e=>by rw[aN,aL];exact aq (vf (AR f))
theorem Ww:bW Φ Ψ .no:=λaa env A h u e=>by rw[aL];trivial
theorem Sl(ha:bW Φ Ψ a)(hb:bW Φ Ψ b):bW Φ Ψ (.bin o a b):=λaa env A h u e=>by
 rw[aN,aL];exact ah (qT ha u e) λx h1 v p1 q1=>ah (qT hb (u.ext p1) (e.ext p1)) λy h2 w p2 q2=>JW ((u.ext p1).ext p2) (p1.trans p2) (DB.ext p2 q1) q2
theorem Sn(ha:bW Φ Ψ a):bW Φ Ψ (.neg a):=λaa env A h u e=>by
 rw[aN,aL];refine ah (ha aa env A h u e) λx h1 v p1 q1=>?_;obtain⟨f,d⟩:=x;have q:=q1.1;cases d<;>dsimp only<;>first|trivial|skip
 dsimp only at q;rw[Dn]at q;subst q;exact aq fP
theorem So(ha:bW Φ Ψ a)(hb:bW Φ Ψ b):bW Φ Ψ (.cmp o a b):=λaa env A h u e=>by
 rw[aN,aL];exact ah (qT ha u e) λx h1 v p1 q1=>ah (qT hb (u.ext p1) (e.ext p1)) λy h2 w p2 q2=>
  ah (R:=λt _ t'=>t'=t) (cu λt et=>⟨t,zq (DB.ext p2 q1) q2 et,rfl⟩) λt h3 t' p3 et=>by subst et;exact aq j7
theorem Sq(ha:bW Φ Ψ a)(hb:bW Φ Ψ b)(hc:bW Φ Ψ c):bW Φ Ψ (.chn o o' a b c):=λaa env A h u e=>by
 rw[aN,aL];refine ah (ha aa env A h u e) λx h1 v p1 q1=>ah (hb aa env A h1 (u.ext p1) (e.ext p1)) λy h2 w p2 q2=>
  ah (R:=λt _ t'=>t'=t) (cu λt et=>⟨t,zq (DB.ext p2 q1.br) q2.br et,rfl⟩) λt h3 t' p3 et=>?_
 subst et;cases t' with
 |true=>
  rw[aan rfl,aan rfl];exact ah (hc aa env A h3 (((u.ext p1).ext p2).ext p3) (((e.ext p1).ext p2).ext p3)) λz h4 w' p4 q4=>
   ah (R:=λt _ t'=>t'=t) (cu λt et=>⟨t,zq (DB.ext (p3.trans p4) q2.br) q4.br et,rfl⟩) λt h3 t' p3 et=>by subst et;exact aq j7
 |false=>rw[aaj aab,aaj aab];exact aq j7
theorem j9(q:Dn A h d v):Rel A h (λt _ t'=>t'=t) (oY v h) (qR d):=by
 cases d<;>first|trivial|skip
 rw[Dn]at q;subst q;exact aq rfl
theorem v_and(ha:bW Φ Ψ a)(hb:bW Φ Ψ b):bW Φ Ψ (.and a b):=λaa env A h u e=>by
 rw[aN,aL];refine ah (ha aa env A h u e) λx h1 v p1 q1=>ah (j9 q1.1) λt h2 t' p2 et=>?_;subst et;cases t' with
 |true=>rw[aan rfl,aan rfl];exact ah (hb aa env A h2 ((u.ext p1).ext p2) ((e.ext p1).ext p2)) λy h3 w p3 q3=>ah (j9 q3.1) λt h2 t' p2 et=>by subst et;exact aq j7
 |false=>rw[aaj aab,aaj aab];exact aq j7
theorem v_or(ha:bW Φ Ψ a)(hb:bW Φ Ψ b):bW Φ Ψ (.or a b):=λaa env A h u e=>by
 rw[aN,aL];refine ah (ha aa env A h u e) λx h1 v p1 q1=>ah (j9 q1.1) λt h2 t' p2 et=>?_;subst et;cases t' with
 |false=>rw[aaj aab,aaj aab];exact ah (hb aa env A h2 ((u.ext p1).ext p2) ((e.ext p1).ext p2)) λy h3 w p3 q3=>ah (j9 q3.1) λt h2 t' p2 et=>by subst et;exact aq j7
 |true=>rw[aan rfl,aan rfl];exact aq j7
theorem v_not(ha:bW Φ Ψ a):bW Φ Ψ (.not a):=λaa env A h u e=>by
 rw[aN,aL];exact ah (ha aa env A h u e) λx h1 v p1 q1=>ah (j9 q1.1) λt h2 t' p2 et=>by subst et;exact aq j7
theorem v_ite(hc:bW Φ Ψ c)(ha:bW Φ Ψ a)(hb:bW Φ Ψ b):bW Φ Ψ (.ite c a b):=λaa env A h u e=>by rw[aL];trivial
theorem LG:j8 Φ Ψ .nil:=⟨λaa env A h u e=>by rw[bJ,om];exact aq ⟨ay.nil,λ_=>ay.nil⟩,λaa env A h u e=>by rw[bJ,fB];exact aq rfl⟩
theorem Fd(he:bW Φ Ψ e)(hs:j8 Φ Ψ es):j8 Φ Ψ (.cons e es):=by
 refine⟨λaa env A h u er=>?_,λaa env A h u er=>?_⟩
 ·rw[bJ,om]
  refine ah (he aa env A h u er) λx h1 v p1 q1=>ah (hs.1 aa env A h1 (u.ext p1) (er.ext p1)) λy h2 vs p2 q2=>?_;refine aq ⟨ay.cons (q1.1.ext p2) q2.1,λhf=>?_⟩;have hf':x.1=true/\y.1=true:=by simpa using hf
  exact ay.cons ((q1.2 hf'.1).ext p2) ((q2.2 hf'.2).gF (Fr.le p1.length_le))
 ·rw[bJ,fB];refine ah (qT he u er) λx h1 v p1 q1=>ah (hs.2 aa env A h1 (u.ext p1) (er.ext p1)) λy h2 vs p2 q2=>?_;exact aq ⟨v,vs,rfl,DB.ext p2 q1,q2⟩
theorem Ss(hs:j8 Φ Ψ es):bW Φ Ψ (.tup es):=λaa env A h u e=>by
 rw[aN,aL];refine ah (hs.1 aa env A h u e) λx h1 vs p1 q1=>aY (λz=>by rw[<-q1.1.length];exact z) λ_=>aq ⟨?_,λhf=>?_⟩
 ·show Dn A h1 (.tup _) _;rw[Dn];exact⟨vs,rfl,q1.1⟩
 ·show Dn _ h1 (.tup _) _;rw[Dn];exact⟨vs,rfl,q1.2 hf⟩
theorem OC:bW Φ Ψ .dct0:=λaa env A h u e=>by
 rw[aN,aL];refine⟨_,_,rfl,dN _,?_,λhf=>?_⟩
 ·show Dn A _ (.dc [] []) _;rw[Dn];exact⟨_,[],rfl,u _ (aal _),fU _,rfl,ay.nil⟩
 ·show Dn _ _ (.dc [] []) _;rw[Dn];exact⟨_,[],rfl,aal _,fU _,rfl,ay.nil⟩
theorem AS:putD [k] [.bl true] k (.bl true)=.dc [k] [.bl true]:=by simp[putD,fM]
theorem AU(h:k≠l):putD [k] [.bl true] l (.bl true)=.dc [k,l] [.bl true,.bl true]:=by simp[putD,fM,h]
theorem AV:fM [(k,.bl true)] k (.bl true)=[(k,.bl true)]:=by simp[fM]
theorem AW(h:k≠l):fM [(k,.bl true)] l (.bl true)=[(k,.bl true),(l,.bl true)]:=by simp[fM,h]
theorem vg:Dn A h (.bl true) (.bl true):=by rw[Dn]
theorem OE(hk:bW Φ Ψ k)(hv:bW Φ Ψ v):bW Φ Ψ (.dct1 k v):=λaa env A h u e=>by
 rw[aN,aL];refine ah (hk aa env A h u e) λx h1 w p1 q1=>ah (R:=λkk _ kk'=>kk'=kk) (aW λkk ek=>⟨kk,ve q1.1 ek,rfl⟩) λkk h2 kk' p2 hkk=>?_;subst hkk;refine ah (hv aa env A h2 ((u.ext p1).ext p2) ((e.ext p1).ext p2)) λy h3 z p3 q3=>ah (R:=λkk _ kk'=>kk'=kk) (aW λkk ek=>⟨kk,ve q3.1 ek,rfl⟩) λk2 h4 k2' p4 hk2=>?_;subst hk2;have p:=((p1.trans p2).trans p3).trans p4
 by_cases ce:kk'=k2'
 ·subst ce
  rw[AS,AV];refine⟨_,_,rfl,dN _,?_,λhf=>?_⟩
  ·show Dn A _ (.dc [kk'] [.bl true]) _;rw[Dn];exact⟨_,[(kk',.bl true)],rfl,u _ p.length_le,fU _,rfl,ay.cons vg ay.nil⟩
  ·show Dn _ _ (.dc [kk'] [.bl true]) _;rw[Dn];exact⟨_,[(kk',.bl true)],rfl,p.length_le,fU _,rfl,ay.cons vg ay.nil⟩
 ·rw[AU ce,AW ce]
  refine⟨_,_,rfl,dN _,?_,λhf=>?_⟩
  ·show Dn A _ (.dc [kk',k2'] [.bl true,.bl true]) _;rw[Dn];exact⟨_,[(kk',.bl true),(k2',.bl true)],rfl,u _ p.length_le,fU _,rfl,ay.cons vg (ay.cons vg ay.nil)⟩
  ·show Dn _ _ (.dc [kk',k2'] [.bl true,.bl true]) _;rw[Dn];exact⟨_,[(kk',.bl true),(k2',.bl true)],rfl,p.length_le,fU _,rfl,ay.cons vg (ay.cons vg ay.nil)⟩
theorem OF(hd:bW Φ Ψ d)(hk:bW Φ Ψ k)(hx:bW Φ Ψ x):bW Φ Ψ (.dget d k x):=λaa env A h u e=>by rw[aL];trivial
theorem J7(hd:bW Φ Ψ d):bW Φ Ψ (.lkeys d):=λaa env A h u e=>by rw[aL];trivial
theorem J8(ha:bW Φ Ψ a):bW Φ Ψ (.skeys a):=λaa env A h u e=>by
 rw[aN,aL];refine ah (ha aa env A h u e) λx h1 v p1 q1=>ah (R:=λn _ m=>m=n) (aW λn en=>?_) λn h2 m p2 em=>by subst em;exact aq fP
 obtain⟨f,d⟩:=x;have q:=q1.1;cases d<;>first|(cases en;done)|skip
 dsimp only at q;rw[Dn]at q;subst q;exact⟨n,en,rfl⟩
theorem AX:∀{ds vs:List Val},ay A h ds vs->gp ds≠none->gp vs=gp ds
 |[],vs,q,_=>by rw[ay]at q;subst q;rfl
 | d::ds,vs,q,n=>by
  rw[ay]at q;obtain⟨v,r,rfl,q1,q2⟩:=q;cases d with
  |non=>
   rw[Dn]at q1;subst q1;have ak:∀{ds vs:List Val},ay A h ds vs->ds.all okN=true->vs.all okN=true:=λ{ds}=>by
    induction ds with
    |nil=>intro vs q _;rw[ay]at q;subst q;rfl
    |cons d ds ih=>
     intro vs q ha;rw[ay]at q;obtain⟨v,r,rfl,q1,q2⟩:=q;rw[all_cons]at ha |-;have ha:=gj ha;rw[ih q2 ha.2,Bool.and_true];have h0:=ha.1;cases d<;>first|(cases h0;done)|skip
     ·rw[Dn]at q1;subst q1;rfl
     ·rw[Dn]at q1;obtain⟨ws,rfl,_⟩:=q1;rfl
   change (if ds.all okN=true then some 0 else none)≠none at n;change (if r.all okN=true then some 0 else none)=if ds.all okN=true then some 0 else none
   by_cases c:ds.all okN=true
   ·rw[aan c,aan (ak q2 c)]
   ·rw[aaj c]at n;exact absurd rfl n
  |tup es=>rw[Dn]at q1;obtain⟨ws,rfl,_⟩:=q1;change (gp r).map (· + 1)=(gp ds).map (· + 1);rw[AX q2 λz=>n (by show (gp ds).map (· + 1)=none;rw[z];rfl)]
  |_=>exact absurd rfl n
theorem J9(ha:bW Φ Ψ a):bW Φ Ψ (.svals a):=λaa env A h u e=>by
 rw[aN,aL];refine ah (qT ha u e) λx h1 v p1 q1=>ah (R:=λn _ m=>m=n) (cu λn en=>?_) λn h2 m p2 em=>by subst em;exact aq fP
 obtain⟨f,d⟩:=x;cases d<;>first|(cases en;done)|skip
 obtain⟨vs,e1,q⟩:=DB.lst q1;have en:gp _=some n:=en;exact⟨n,by rw[e1];show gp vs=some n;rw[AX q (by rw[en];exact λz=>nomatch z)];exact en,rfl⟩
theorem xH:∀{xs:List Val} {ns:List Int},bw xs=some ns->xs=ns.map .int
 |[],ns,e=>by cases e;rfl
 | x::xs,ns,e=>by
  unfold bw at e;rw[cg]at e;obtain⟨i,e1,e⟩:=aac.mp e;obtain⟨r,e2,e⟩:=aac.mp e;cases e;cases x<;>simp at e1;subst e1;rw[xH e2];rfl
theorem OG{p q:Nat}(hd:bW Φ Ψ d)(hw:bW Φ Ψ w):bW Φ Ψ (.dflt N' js p q d w):=λaa env A h u e=>by rw[aL];trivial
theorem Su(ha:bW Φ Ψ a):bW Φ Ψ (.isc a x bs):=λaa env A h u e=>by rw[aL];trivial
theorem OH(ha:bW Φ Ψ a):bW Φ Ψ (.sset a):=λaa env A h u e=>by
 rw[aN,aL];refine ah (qT ha u e) λx h1 v p1 q1=>?_;obtain⟨f,d⟩:=x;cases d<;>first|trivial|skip
 rename_i xs;obtain⟨vs,e1,e2⟩:=DB.lst q1;have ea:∀(F:List Val->M Val),bnd (ask λh=>aF h v) F h1=F vs h1:=λF=>by unfold bnd ask bu;dsimp only;rw[e1]
 rw[ea];show Rel A h1 _ _ (pb (pl (bw xs)) _);refine ah (R:=λns h' ns'=>ns'=ns) (aW λns en=>⟨ns,?_,rfl⟩) λns h2 ns' p2 en=>?_
 ·have ei:=xH en;subst ei;rw[(bx _ _ (cG ns)).mp e2];exact en
 ·subst en;refine aY (λz=>z) λ_=>?_;have hi:∀ms:List Int,ay A h2 (ms.map Val.int) (ms.map Val.int):=λms=>(bx _ _ (cG ms)).mpr rfl;exact iy ((u.ext p1).ext p2) (p1.trans p2) (hi _) λ_=>(bx _ _ (cG _)).mpr rfl
theorem Sv(hs:j8 Φ Ψ es):bW Φ Ψ (.lst es):=λaa env A h u e=>by
 rw[aN,aL];exact ah (hs.1 aa env A h u e) λx h1 vs p1 q1=>aY (λz=>by rw[<-q1.1.length];exact z) λ_=>iy (u.ext p1) p1 q1.1 q1.2
theorem Sw(ha:bW Φ Ψ a)(hb:bW Φ Ψ b):bW Φ Ψ (.idx a b):=λaa env A h u e=>by
 rw[aN,aL];refine ah (qT ha u e) λx h1 v p1 q1=>ah (hb aa env A h1 (u.ext p1) (e.ext p1)) λy h2 w p2 q2=>?_;rw[J6];exact ah (R:=λz h' z'=>Dn A h' z z') (cu λz ez=>Oz (DB.ext p2 q1) q2.1 ez) λz h3 z' p3 q3=>aq (vf q3)
theorem m6(o:bW Φ Ψ ir)(u:Up A h)(e:ER A aa env h) :
  Rel A h (λ(t:Option Int) _ t'=>t'=t) ((if cJ ir=true then ret none else bnd (aN Φ ir env) λv=>bnd (bu (mV v)) λi=>ret (some i)) h) (if cJ ir=true then .ok none else pb (aL Ψ ir aa) λv=>pb (pl (mV v.2)) λi=>.ok (some i)):=by
 by_cases hn:cJ ir=true
 ·rw[aan hn,aan hn];exact aq rfl
 ·rw[aaj hn,aaj hn]
  refine ah (o aa env A h u e) λx h1 v p1 q1=>ah (R:=λt _ t'=>t'=t) (aW λi ei=>?_) λt h2 t' p2 et=>by subst et;exact aq rfl
  obtain⟨f,d⟩:=x;have q:=q1.1;cases d<;>first|(cases ei;done)|skip
  dsimp only at q;rw[Dn]at q;subst q;exact⟨i,ei,rfl⟩
theorem Sx(ha:bW Φ Ψ a)(hl:bW Φ Ψ lo)(hh:bW Φ Ψ hi):bW Φ Ψ (.slc a lo hi):=λaa env A h u e=>by
 rw[aN,aL];refine ah (qT ha u e) λx h1 v p1 q1=>ah (m6 hl (u.ext p1) (e.ext p1)) λl h2 l' p2 el=>ah (m6 hh ((u.ext p1).ext p2) ((e.ext p1).ext p2)) λr h3 r' p3 er=>?_;subst el;subst er;exact JX (((u.ext p1).ext p2).ext p3) ((p1.trans p2).trans p3) (DB.ext (p2.trans p3) q1)
theorem Sy(ha:bW Φ Ψ a)(hs:bW Φ Ψ sx):bW Φ Ψ (.rev a sx):=λaa env A h u e=>by rw[aL];trivial
theorem OI{j:Nat}(hΦ:∀j,Imp (Φ j) (Ψ j))(hs:j8 Φ Ψ es):bW Φ Ψ (.call j es):=λaa env A h u e=>by
 rw[aN,aL];exact ah (hs.1 aa env A h u e) λx h1 vs p1 q1=>OA p1 (hΦ j A h1 x.2 vs (u.ext p1) q1.1)
theorem Sz{n:Nat}(ha:bW Φ Ψ a):bW Φ Ψ (.fld n a x):=λaa env A h u e=>by rw[aL];trivial
theorem SA(hΦ:∀j,Imp (Φ j) (Ψ j))(ha:bW Φ Ψ a)(hs:j8 Φ Ψ es):bW Φ Ψ (.mth a m js es):=λaa env A h u e=>by rw[aL];trivial
theorem SD(hs:j8 Φ Ψ es):bW Φ Ψ (.blt b es):=λaa env A h u e=>by
 rw[aN,aL];exact ah (hs.2 aa env A h u e) λx h1 vs p1 q1=>J1 (u.ext p1) p1 q1
theorem iz:∀ys:List Str,bU (ys.map Val.str)=true
 |[]=>rfl
 |y::ys=>by rw[aar,bU,iz ys];rfl
theorem SE(ha:bW Φ Ψ a)(hs:j8 Φ Ψ es):bW Φ Ψ (.met m a es):=λaa env A h u e=>by
 cases m with
 |join=>
  rw[aN,aL];refine ah (ha aa env A h u e) λx h1 v p1 q1=>ah (R:=λ_ _ _=>True) (cu λt et=>?_) λ_ h2 _ p2 _=>?_
  ·obtain⟨f,d⟩:=x
   have q:=q1.1;cases d<;>first|(cases et;done)|skip
   dsimp only at q;rw[Dn]at q;subst q;exact⟨(),rfl,trivial⟩
  ·exact ah (hs.2 aa env A h2 ((u.ext p1).ext p2) ((e.ext p1).ext p2)) λds h3 vs p3 q3=>Fc (q1.1.ext (p2.trans p3)) q3
 |append=>exact True.intro
 |extend=>exact True.intro
 |remove=>exact True.intro
 |pop=>
  rw[aN,aL];refine ah (ha aa env A h u e) λx h1 v p1 q1=>ah (R:=λ_ _ _=>True) (cu λt et=>?_) λ_ h2 _ p2 _=>?_
  ·obtain⟨f,d⟩:=x
   have q:=q1.1;cases d<;>first|(cases et;done)|skip
   dsimp only at q;rw[Dn]at q;subst q;exact⟨(),rfl,trivial⟩
  ·refine ah (hs.2 aa env A h2 ((u.ext p1).ext p2) ((e.ext p1).ext p2)) λds h3 vs p3 q3=>?_
   obtain⟨f,d⟩:=x;have q:=q1.1;cases d<;>first|trivial|skip
   dsimp only at q;rw[Dn]at q;subst q;cases ds with
   |nil=>trivial
   |cons d r=>
    cases r with
    |cons _ _=>cases d<;>trivial
    |nil=>
     cases d<;>first|trivial|skip
     obtain⟨w,rfl,hw⟩:=q3.one;have:=hw.str;subst this;exact aY (λz=>z) λ_=>iy (((u.ext p1).ext p2).ext p3) ((p1.trans p2).trans p3) ((bx _ _ (iz _)).mpr rfl) λ_=>(bx _ _ (iz _)).mpr rfl
def SrcR(A:AP)(h:Hs)(xs:List Val)(src:Src):Prop:=∃ws,ay A h xs ws/\∀h',h<+:h'->src.items h'=some ws
theorem kO{lo:Int}{n:Nat}:ay A h (aU lo n) (aU lo n):=by
 unfold aU;generalize List.range n=l
 induction l with
 |nil=>exact ay.nil
 |cons a l ih=>exact ay.cons (by rw[Dn]) ih
theorem iS:∀{xs ws:List Val} (i:Nat),ay A h xs ws->ay A h (cR i xs) (cR i ws)
 |[],ws,i,q=>by rw[ay]at q;subst q;exact ay.nil
 | x::xs,ws,i,q=>by
  rw[ay]at q;obtain⟨w,r,rfl,a,b⟩:=q;exact ay.cons (by rw[Dn];exact⟨_,rfl,ay.cons (by rw[Dn]) (ay.cons a ay.nil)⟩) (iS (i+1) b)
theorem AY{ds vs:List Val}(a:DB A h (.rl ds) v):∃ws,ay A h ds ws/\((v=.rl ws)\/∃i,v=.ref i/\∀h',h<+:h'->aF h' (.ref i)=some ws):=by
 rcases a with a|⟨i,rfl,vs,g,q⟩
 ·rw[Dn]at a
  rcases a with ⟨vs,rfl,_,q⟩|⟨i,vs,rfl,_,g,q⟩
  ·exact⟨vs,q,.inl rfl⟩
  ·exact⟨vs,q,.inr ⟨i,rfl,λh' p=>by simp[aF,j6 p g]⟩⟩
 ·exact⟨vs,q,.inr ⟨i,rfl,λh' p=>by simp[aF,j6 p g]⟩⟩
theorem AZ(a:Hz A h ds vs):Rel A h (λxs h' src=>SrcR A h' xs src) (bu (srcOf k vs) h) (pl (pI k ds)):=by
 refine aW λxs e=>?_;cases k with
 |seq=>
  match ds,e with
  |[.str z],e=>
   obtain⟨v,rfl,hv⟩:=a.one;have:=hv.str;subst this;change (if L2.isAscii z=true then some (signs z) else none)=some _ at e;split at e
   ·rename_i hn;cases e
    refine⟨.fix _,aan hn,signs z,?_,λ_ _=>rfl⟩;unfold signs;generalize z.cps.toList=l
    induction l with
    |nil=>exact ay.nil
    |cons a l ih=>exact ay.cons (by rw[Dn]) ih
   ·cases e
  |[.tup es],e=>cases e;obtain⟨v,rfl,hv⟩:=a.one;obtain⟨ws,rfl,q⟩:=hv.tup;exact⟨.fix ws,rfl,ws,q,λ_ _=>rfl⟩
  |[.rl es],e=>
   cases e;obtain⟨v,rfl,hv⟩:=a.one;obtain⟨ws,q,rfl|⟨i,rfl,g⟩⟩:=AY (vs:=[]) hv
   ·exact⟨.fix ws,rfl,ws,q,λ_ _=>rfl⟩
   ·exact⟨.live i,rfl,ws,q,λh' p=>g h' p⟩
 |range=>
  match ds,e with
  |[.int n],e=>
   obtain⟨v,rfl,hv⟩:=a.one;have:=hv.int;subst this;change (if inR n=true then some (aU 0 n.toNat) else none)=some _ at e;split at e
   ·rename_i hn;cases e;exact⟨.fix _,aan hn,_,kO,λ_ _=>rfl⟩
   ·cases e
  |[.int n,.int m],e=>
   obtain⟨v,r,rfl,hv,hr⟩:=a;obtain⟨w,rfl,hw⟩:=Hz.one hr;have:=hv.int;subst this;have:=hw.int;subst this;change (if (inR n&&inR m)=true then some (aU n (m-n).toNat) else none)=some _ at e;split at e
   ·rename_i hn;cases e;exact⟨.fix _,aan hn,_,kO,λ_ _=>rfl⟩
   ·cases e
 |enum=>
  match ds,e with
  |[.rl es],e=>
   cases e;obtain⟨v,rfl,hv⟩:=a.one;obtain⟨ws,q,rfl|⟨i,rfl,g⟩⟩:=AY (vs:=[]) hv
   ·exact⟨.fix _,rfl,_,iS 0 q,λ_ _=>rfl⟩
   ·exact⟨.enum i,rfl,_,iS 0 q,λh' p=>by simp[Src.items,g h' p]⟩
 |zip=>cases e
theorem Ba:∀{is:List Nat} {ds vs:List Val} {aa aJ:bh} {env:Env},cM is ds aa=some aJ->ay A h ds vs->ER A aa env h->(∀i∈is,i<aa.length->i<env.length)->∃env',bindAll is vs env=some env'/\ER A aJ env' h
 | [],[],vs,aa,aJ,env,e,q,er,_=>by
  rw[ay]at q;subst q;simp only[cM]at e;cases e;exact⟨env,rfl,er⟩
 | i::is,d::ds,vs,aa,aJ,env,e,q,er,hl=>by
  rw[ay]at q;obtain⟨v,r,rfl,q1,q2⟩:=q;simp only[cM]at e;have ZE:ER A (aa.set i (some (.sh,d))) (env.set i (some v)) h:=λj f d' hj=>by
   by_cases hij:i=j
   ·subst hij
    have hi:i<aa.length:=by have:=(aai.mp hj).1;simpa using this
    rw[aaw hi]at hj;cases hj;rw[aaj (by decide)];exact⟨v,by rw[aaw (hl i aah hi)],q1⟩
   ·rw[aak hij]at hj;rw[aak hij];exact er j f d' hj
  simp only[bindAll];exact Ba e q2 ZE λj hj hl'=>by simpa using hl j (aae _ hj) (by simpa using hl')
 |[],_::_,_,_,_,_,e,_,_,_=>by simp[cM]at e
 |_::_,[],_,_,_,_,e,_,_,_=>by simp[cM]at e
theorem xJ(e:bE p d aa=some aJ)(q:Dn A h d v)(er:ER A aa env h)(hl:aa.length<=env.length):∃env',gq p v env=some env'/\ER A aJ env' h:=by
 cases p with
 |one i=>
  simp only[bE]at e;cases e;refine⟨_,rfl,λj f d' hj=>?_⟩
  by_cases hij:i=j
  ·subst hij
   have hi:i<aa.length:=by have:=(aai.mp hj).1;simpa using this
   rw[aaw hi]at hj;cases hj;rw[aaj (by decide)];exact⟨v,by rw[aaw (by omega)],q⟩
  ·rw[aak hij]at hj;rw[aak hij];exact er j f d' hj
 |tup is=>
  cases d<;>simp only[bE]at e<;>first|(cases e;done)|skip
  rw[Dn]at q;obtain⟨vs,rfl,q⟩:=q;exact Ba e q er λi _ hi=>by omega
theorem Bb(e:ER A aa env h):ER A (fH js aa) (jE js env) h:=λi f d q=>by
 unfold fH at q;rw[aaF]at q;cases hj:js[i]? with
 |none=>rw[hj]at q;cases q
 |some o=>
  rw[hj]at q;simp only[map_some]at q;cases o with
  |none=>cases q
  |some j=>
   dsimp only at q;cases ej:aa[j]? with
   |none=>rw[ej]at q;cases q
   |some w=>
    cases w with
    |none=>rw[ej]at q;cases q
    |some fd=>
     rw[ej]at q;cases q;have:=e j f d ej;revert this;generalize vN f=t;intro this;cases t with
     |false=>rw[aan rfl]at this |-;obtain⟨a,k2,k3⟩:=this;refine⟨a,?_,k3⟩;unfold jE;rw[aaF,hj];simp only[map_some];rw[k2]
     |true=>rw[aaj (by decide)]at this |-;obtain⟨v,k1,k2⟩:=this;refine⟨v,?_,k2⟩;unfold jE;rw[aaF,hj];simp only[map_some];rw[k1]
theorem qU :
  ∀(xs:List Val) (vs:List Val) (i:Nat) (acc:List Val) (h:Hs),hb<+:h->Up A h->(∀h',h<+:h'->src.items h'=some ws)->ws.drop i=vs->ay A h xs vs ->
   (∀x v h',h<+:h'->Dn A h' x v->Rel A h' (λo h'' o'=>match o,o' with|some e,some e'=>RV A hb e h'' e'|none,none=>True|_,_=>False) (f v h') (g x)) ->
   Rel A h (λp h' ys=>∃zs,ys=acc++zs/\ay A h' p.2 zs/\(p.1=true->ay (Fr hb.length) h' p.2 zs)) (fF src f vs.length i acc h) (cX g xs)
 | [],vs,i,acc,h,XM,u,hi,hd,q,hf=>by
  rw[ay]at q;subst q;have hl:ws.length<=i:=List.drop_eq_nil_iff.mp hd;have ev:fF src f ([]:List Val).length i acc h=.ok acc h:=by show fF src f 0 i acc h=_;simp only[fF];unfold bnd ask bu aH;dsimp only;rw[hi h (aaC _)];dsimp only;rw[aan (decide_eq_true hl)];rfl
  rw[ev,cX];exact⟨acc,h,rfl,aaC _,[],by simp,ay.nil,λ_=>ay.nil⟩
 | x::xs,vs,i,acc,h,XM,u,hi,hd,q,hf=>by
  rw[ay]at q;obtain⟨v,r,rfl,q1,q2⟩:=q;have hv:ws[i]?=some v:=by have:=congrArg (λl=>l[0]?) hd;simpa using this
  have hr:ws.drop (i+1)=r:=by
   have:ws.drop (i+1)=(ws.drop i).drop 1:=by rw[List.drop_drop]
   rw[this,hd];rfl
  have ev:fF src f (v::r).length i acc h=bnd (f v) (λo=>fF src f r.length (i+1) (match o with|some e=>acc++[e]|none=>acc)) h:=by show fF src f (r.length+1) i acc h=_;simp only[fF];unfold bnd ask bu;dsimp only;rw[hi h (aaC _)];dsimp only;rw[hv];try rfl
  rw[ev,cX];refine ah (hf x v h (aaC _) q1) λo h1 o' p1 ho=>?_;have ih:=λacc'=>qU xs r (i+1) acc' h1 (XM.trans p1) (u.ext p1) (λh' p=>hi h' (p1.trans p)) hr (q2.ext p1) λx v h' p=>hf x v h' (p1.trans p);cases o' with
  |some e'=>
   cases o with
   |none=>exact ho.elim
   |some e=>
    have ih:=ih (acc++[e']);cases e2:cX g xs with
    |ok p=>
     rw[e2]at ih;obtain⟨ys,h2,e3,p2,zs,rfl,z1,z2⟩:=ih;refine⟨_,h2,e3,p2,e'::zs,by simp,ay.cons (ho.1.ext p2) z1,λhp=>?_⟩;have XO:e.1=true/\p.1=true:=by simpa using hp
     exact ay.cons ((ho.2 XO.1).ext p2) (z2 XO.2)
    |exc c es=>rw[e2]at ih;exact ih
    |no=>trivial
  |none=>
   cases o with
   |some e'=>exact ho.elim
   |none=>
    have ih:=ih acc;cases e2:cX g xs with
    |ok p=>rw[e2]at ih;obtain⟨ys,h2,e3,p2,zs,rfl,z1,z2⟩:=ih;exact⟨_,h2,e3,p2,zs,rfl,z1,z2⟩
    |exc c es=>rw[e2]at ih;exact ih
    |no=>trivial
theorem xK{α β:Type}{R:α -> Hs -> β -> Prop}{m:M β}{p:Pr α}(r:Rel A h R (m h) p):Rel A h R (calm m h) (E4 p):=by
 cases p with
 |ok a=>obtain⟨b,h1,e,q⟩:=r;unfold calm;rw[e];exact⟨b,h1,rfl,q⟩
 |exc c es=>trivial
 |no=>trivial
theorem Fe{c:Nat}:Imp (wV c) (LC c):=λA h ds vs u q=>by
 have l:=q.length
 match ds,vs,l,q with
 |[],[],_,_=>exact⟨[],h,rfl,aaC _,rfl⟩
 |_::_,_,_,_=>trivial
theorem vh{c:Nat}:Imp (uU c g) (JR c g):=λA h ds vs u q=>by
 have l:=q.length
 match ds,vs,l,q with
 |[],_,_,_=>trivial
 |a::b::r,_,_,_=>cases a<;>trivial
 |[d],[v],_,q=>
  cases d with
  |int i=>
   have e:v=.int i:=by obtain⟨y,r,z,q2,_⟩:=q;cases z;rw[Dn]at q2;exact q2
   subst e;have d1:Dn A h (.str g) (.str g):=by rw[Dn]
   have d2:Dn A h (.int i) (.int i):=by rw[Dn]
   exact⟨[.str g,.int i],h,rfl,aaC _,⟨_,_,rfl,d1,⟨_,_,rfl,d2,rfl⟩⟩⟩
  |_=>trivial
theorem LH(hs:j8 Φ Ψ it)(hc:bW Φ Ψ c)(he:bW Φ Ψ elt)(aa:bh)(env:Env)(A:AP)(h:Hs)(u:Up A h)(e:ER A aa env h):Rel A h (RV A h) (Ej Φ js pat k it c elt env h) (CD Ψ js pat k it c elt aa):=by
 unfold Ej CD;refine ah (hs.2 aa env A h u e) λds h1 vs p1 q1=>ah (AZ q1) λxs h2 src p2 q2=>?_;obtain⟨ws,q3,q4⟩:=q2;have l:=q3.length;have ev:∀(F:List Val->M Val),bnd (ask λh=>src.items h) F h2=F ws h2:=λF=>by unfold bnd ask bu;dsimp only;rw[q4 h2 (aaC _)]
 rw[ev];refine aY (λz=>by rw[<-l];exact z) λ_=>?_;have u2:=(u.ext p1).ext p2;have e2:=(e.ext p1).ext p2;refine ah (qU (hb:=h) xs ws 0 [] h2 (p1.trans p2) u2 q4 rfl q3 λx v h' p' qx=>?_) λp h3 ys p3 hp=>?_
 ·refine ah (R:=λaJ _ env'=>∃_:ER A aJ env' h',True) (aW λaJ ev'=>?_) λaJ h4 env' p4 he'=>?_
  ·obtain⟨env',a1,a2⟩:=xJ ev' qx (Bb (e2.ext p')) (by simp[fH,jE]);exact⟨env',a1,a2,trivial⟩
  ·obtain⟨er,_⟩:=he'
   have er:=er.ext p4;have u4:=(u2.ext p').ext p4;have Oj:Rel A h4 (λt _ t'=>t'=t) ((if cJ c=true then ret true else bnd (aN Φ c env') λv=>ask λh=>fS h v) h4) (if cJ c=true then .ok true else pb (aL Ψ c aJ) λv=>pl (fS [] v.2)):=by
    by_cases hn:cJ c=true
    ·rw[aan hn,aan hn];exact aq rfl
    ·rw[aaj hn,aaj hn];exact ah (hc aJ env' A h4 u4 er) λy h5 w p5 q5=>cu λt et=>⟨t,zu q5.br et,rfl⟩
   refine ah Oj λt h5 t' p5 et=>?_;subst et;cases t' with
   |true=>rw[aan rfl,aan rfl];exact ah (he aJ env' A h5 (u4.ext p5) (er.ext p5)) λy h6 w p6 q6=>aq (q6.up ((p1.trans p2).trans (p'.trans (p4.trans p5))))
   |false=>rw[aaj aab,aaj aab];exact aq trivial
 ·obtain⟨zs,rfl,z1,z2⟩:=hp;exact iy (u2.ext p3) ((p1.trans p2).trans p3) z1 z2
theorem OJ(hs:j8 Φ Ψ it)(hc:bW Φ Ψ c)(he:bW Φ Ψ elt):bW Φ Ψ (.comp N js pat k it c elt):=λaa env A h u e=>by
 rw[aN,aL];exact xK (LH hs hc he aa env A h u e)
mutual
noncomputable def dX:IE->Bool
 |.cst d=>l6 d
 |.con _ d=>l6 d
 |.bin _ a b=>dX a&&dX b
 |.neg a=>dX a
 |.cmp _ a b=>dX a&&dX b
 |.chn _ _ a b c=>dX a&&dX b&&dX c
 |.and a b=>dX a&&dX b
 |.or a b=>dX a&&dX b
 |.not a=>dX a
 |.ite a b c=>dX a&&dX b&&dX c
 |.tup es=>m7 es
 |.lst es=>m7 es
 |.idx a b=>dX a&&dX b
 |.slc a b c=>dX a&&dX b&&dX c
 |.call _ es=>m7 es
 |.blt _ es=>m7 es
 |.met _ a es=>dX a&&m7 es
 |.comp _ _ _ _ es a b=>m7 es&&dX a&&dX b
 |.var _=>true
 |.no=>true
 |.dct0=>true
 |.sset a=>dX a
 |.dget a b c=>dX a&&dX b&&dX c
 |.dct1 a b=>dX a&&dX b
 |.lkeys a=>dX a
 |.sdef ..=>false
 |.svals a=>dX a
 |.skeys a=>dX a
 |.fld _ a _=>dX a
 |.mth a _ _ es=>dX a&&m7 es
 |.rev a b=>dX a&&dX b
 |.dflt _ _ _ _ a b=>dX a&&dX b
 |.isc a _ _=>dX a
noncomputable def m7:jU->Bool
 |.nil=>true
 |.cons e es=>dX e&&m7 es
end
theorem v_all(hΦ:∀j,Imp (Φ j) (Ψ j)):(∀ir,dX ir=true->bW Φ Ψ ir)/\∀fG,m7 fG=true->j8 Φ Ψ fG:=by
 have one:∀ir,dX ir=true->bW Φ Ψ ir:=by
  intro ir;refine IE.rec (motive_1:=λir=>dX ir=true->bW Φ Ψ ir) (motive_2:=λfG=>m7 fG=true->j8 Φ Ψ fG) ?_ ?_ ?_ ?_ ?_ ?_ ?_ ?_ ?_ ?_ ?_ ?_ ?_ ?_ ?_ ?_ ?_ ?_ ?_ ?_ ?_ ?_ ?_ ?_ ?_ ?_ ?_ ?_ ?_ ?_ ?_ ?_ ?_ ?_ ?_ ir
  ·exact λ_ _=>v_var
  ·exact λ_ f=>Sj f
  ·exact λ_ _ f=>Sk f
  ·exact λ_=>Ww
  ·intro _ _ _ a b f;have f:=gj f;exact Sl (a f.1) (b f.2)
  ·intro _ a f;exact Sn (a f)
  ·intro _ _ _ a b f;have f:=gj f;exact So (a f.1) (b f.2)
  ·intro _ _ _ _ _ a b c f;have f:=r6 f;exact Sq (a f.1.1) (b f.1.2) (c f.2)
  ·intro _ _ a b f;have f:=gj f;exact v_and (a f.1) (b f.2)
  ·intro _ _ a b f;have f:=gj f;exact v_or (a f.1) (b f.2)
  ·intro _ a f;exact v_not (a f)
  ·intro _ _ _ a b c f;have f:=r6 f;exact v_ite (a f.1.1) (b f.1.2) (c f.2)
  ·intro _ a f;exact Ss (a f)
  ·intro _ a f;exact Sv (a f)
  ·intro _ _ a b f;have f:=gj f;exact Sw (a f.1) (b f.2)
  ·intro _ _ _ a b c f;have f:=r6 f;exact Sx (a f.1.1) (b f.1.2) (c f.2)
  ·intro _ _ a f;exact OI hΦ (a f)
  ·intro _ _ a f;exact SD (a f)
  ·intro _ _ _ a b f;have f:=gj f;exact SE (a f.1) (b f.2)
  ·intro _ _ _ _ _ _ _ a b c f;have f:=r6 f;exact OJ (a f.1.1) (b f.1.2) (c f.2)
  ·exact λ_=>OC
  ·intro _ a f;exact OH (a f)
  ·intro _ _ _ a b c f;have f:=r6 f;exact OF (a f.1.1) (b f.1.2) (c f.2)
  ·intro _ _ a b f;have f:=gj f;exact OE (a f.1) (b f.2)
  ·intro _ a f;exact J7 (a f)
  ·intro _ _ _ _ _ _ f;exact nomatch (show false=true from f)
  ·intro _ a f;exact J9 (a f)
  ·intro _ a f;exact J8 (a f)
  ·intro _ _ _ a f;exact Sz (a f)
  ·intro _ _ _ _ a b f;have f:=gj f;exact SA hΦ (a f.1) (b f.2)
  ·intro _ _ a b f;have f:=gj f;exact Sy (a f.1) (b f.2)
  ·intro _ _ _ _ _ _ a b f;have f:=gj f;exact OG (a f.1) (b f.2)
  ·intro _ _ _ a f;exact Su (a f)
  ·exact λ_=>LG
  ·intro _ _ a b f;have f:=gj f;exact Fd (a f.1) (b f.2)
 refine⟨one,λfG=>?_⟩
 induction fG using jU.rec (motive_1:=λ_=>True) with
 |nil=>exact λ_=>LG
 |cons e es _ ih=>exact λf=>by have f:=gj f;exact Fd (one e f.1) (ih f.2)
 |_=>trivial
end
section
variable {A A':AP} {h h':Hs}
mutual
theorem Dn.move(hn:A none->A' none)(hh:∀(i:Nat) (o:Ob),A (some i)->h[i]?=some o->A' (some i)/\h'[i]?=some o):∀(d v:Val),Dn A h d v->Dn A' h' d v
 |.non,v,e=>by rw[Dn]at e |-;exact e
 |.bl _,v,e=>by rw[Dn]at e |-;exact e
 |.int _,v,e=>by rw[Dn]at e |-;exact e
 |.str _,v,e=>by rw[Dn]at e |-;exact e
 | .tup ds,v,e=>by
  rw[Dn]at e |-;obtain⟨vs,rfl,q⟩:=e;exact⟨vs,rfl,ay.move hn hh ds vs q⟩
 | .rl ds,v,e=>by
  rw[Dn]at e |-
  rcases e with ⟨vs,rfl,n,q⟩|⟨i,vs,rfl,a,g,q⟩
  ·exact .inl ⟨vs,rfl,hn n,ay.move hn hh ds vs q⟩
  ·exact .inr ⟨i,vs,rfl,(hh i _ a g).1,(hh i _ a g).2,ay.move hn hh ds vs q⟩
 | .dc ks ds,v,e=>by
  rw[Dn]at e |-;obtain⟨i,kvs,rfl,a,g,k,q⟩:=e;exact⟨i,kvs,rfl,(hh i _ a g).1,(hh i _ a g).2,k,ay.move hn hh ds _ q⟩
 | .ob c xs ds,v,e=>by
  rw[Dn]at e |-;obtain⟨i,kvs,rfl,a,g,k,q⟩:=e;exact⟨i,kvs,rfl,(hh i _ a g).1,(hh i _ a g).2,k,ay.move hn hh ds _ q⟩
 |.ref _,v,e=>by rw[Dn]at e;exact e.elim
theorem ay.move(hn:A none->A' none)(hh:∀(i:Nat) (o:Ob),A (some i)->h[i]?=some o->A' (some i)/\h'[i]?=some o):∀(ds vs:List Val),ay A h ds vs->ay A' h' ds vs
 |[],vs,e=>by rw[ay]at e |-;exact e
 | d::ds,vs,e=>by
  rw[ay]at e |-;obtain⟨v,r,rfl,q1,q2⟩:=e;exact⟨v,r,rfl,Dn.move hn hh d v q1,ay.move hn hh ds r q2⟩
end
end
def Al(A0:AP)(O:Nat->Option Nat):AP:=λo=>A0 o/\∀i,o.isSome=true->O i≠o
structure SR (A0:AP) (h0:Hs) (aa:bh) (env:Env) (h:Hs) (O:Nat->Option Nat):Prop where
 len:aa.length=env.length
 sh:∀(i:Nat) (m:Mk) (d:Val),aa[i]?=some (some (m,d))->vN m=true->∃v,env[i]?=some (some v)/\Dn (Al A0 O) h d v/\(Qu m=true->Dn (Al (Fr h0.length) O) h d v)
 ow:∀(i:Nat) (d:Val),aa[i]?=some (some (.ow,d))->∃a,env[i]?=some (some (.ref a))/\O i=some a/\OD (Al A0 O) h d a
 own:∀i a,O i=some a->h0.length<=a/\a<h.length/\∃d,aa[i]?=some (some (.ow,d))
 inj:∀i j a,O i=some a->O j=some a->i=j
 pre:h0<+:h
 up:Up A0 h0
structure Fm (m:List Nat) (aa:bh) (env:Env) (h:Hs) (O:Nat->Option Nat) (aJ:bh) (env':Env) (h':Hs) (O':Nat->Option Nat):Prop where
 le:h.length<=h'.length
 keep:∀k,k<h.length->(∀i,O i≠some k)->h'[k]?=h[k]?/\∀i,O' i≠some k
 stay:∀i,i∉m->O' i=O i/\aJ[i]?=aa[i]?/\env'[i]?=env[i]?/\∀a,O i=some a->h'[a]?=h[a]?
def RF(A0:AP)(h0:Hs)(m:List Nat)(aa:bh)(env:Env)(h:Hs)(O:Nat->Option Nat):JS->Hs->Fl->Prop
 |.nx aJ,h',.nx env'=>∃O',SR A0 h0 aJ env' h' O'/\Fm m aa env h O aJ env' h' O'
 |.bk aJ,h',.bk env'=>∃O',SR A0 h0 aJ env' h' O'/\Fm m aa env h O aJ env' h' O'
 |.ct aJ,h',.ct env'=>∃O',SR A0 h0 aJ env' h' O'/\Fm m aa env h O aJ env' h' O'
 |.rt p,h',.rt v=>Dn A0 h' p.2 v/\(p.1=true->Dn (Fr h0.length) h' p.2 v)/\h0<+:h'
 |_,_,_=>False
def gY(A0:AP)(h0:Hs){α β:Type}(R:α -> Hs -> β -> Prop)(o:Out β):Pr α -> Prop
 |.ok f=>∃g h',o=.ok g h'/\R f h' g
 |.exc c es=>∃ws h',o=.exc c ws h'/\h0<+:h'/\ay A0 h' es ws
 |.no=>True
section
variable {A0:AP} {h0:Hs} {aa:bh} {env:Env} {h h1:Hs} {O:Nat->Option Nat} {m:List Nat}
theorem SR.er(s:SR A0 h0 aa env h O):ER (Al A0 O) aa env h:=λi f d e=>by
 cases f with
 |ow=>rw[aan (show vN .ow=false by decide)];obtain⟨a,k2,_,k3⟩:=s.ow i d e;exact⟨a,k2,k3⟩
 |sh=>rw[aaj (by decide)];obtain⟨v,k1,k2,_⟩:=s.sh i _ d e rfl;exact⟨v,k1,k2⟩
 |nw=>rw[aaj (by decide)];obtain⟨v,k1,k2,_⟩:=s.sh i _ d e rfl;exact⟨v,k1,k2⟩
theorem SR.Bc(s:SR A0 h0 aa env h O):Up (Al A0 O) h:=λk hk=>⟨s.up k (aaK s.pre.length_le hk),λi _ e=>by have:=(s.own i k e).2.1;omega⟩
theorem SR.ext(s:SR A0 h0 aa env h O)(p:h<+:h1):SR A0 h0 aa env h1 O where
 len:=s.len
 sh i m d e hm:=by obtain⟨v,k1,k2,k3⟩:=s.sh i m d e hm;exact⟨v,k1,k2.ext p,λz=>(k3 z).ext p⟩
 ow i d e:=by obtain⟨a,k2,k3,k4⟩:=s.ow i d e;exact⟨a,k2,k3,k4.ext p⟩
 own i a e:=by obtain⟨k1,k2,k3⟩:=s.own i a e;exact⟨k1,aao k2 p.length_le,k3⟩
 inj:=s.inj
 pre:=s.pre.trans p
 up:=s.up
theorem m8(p:h<+:h1){k:Nat}(hk:k<h.length):h1[k]?=h[k]?:=by
 obtain⟨t,rfl⟩:=p;rw[aax hk]
theorem Fm.refl(s:SR A0 h0 aa env h O)(p:h<+:h1):Fm m aa env h O aa env h1 O where
 le:=p.length_le
 keep k hk n:=⟨m8 p hk,n⟩
 stay i _:=⟨rfl,rfl,rfl,λa e=>m8 p (s.own i a e).2.1⟩
theorem Fm.trans{m9 o6:bh}{vj iK:Env}{h2:Hs}{O1 O2:Nat->Option Nat}(a:Fm m aa env h O m9 vj h1 O1)(b:Fm m m9 vj h1 O1 o6 iK h2 O2):Fm m aa env h O o6 iK h2 O2 where
 le:=aaK a.le b.le
 keep k hk n:=by obtain⟨a1,a2⟩:=a.keep k hk n;obtain⟨b1,b2⟩:=b.keep k (aao hk a.le) a2;exact⟨b1.trans a1,b2⟩
 stay i hi:=by obtain⟨a1,a2,a3,a4⟩:=a.stay i hi;obtain⟨b1,b2,b3,b4⟩:=b.stay i hi;exact⟨b1.trans a1,b2.trans a2,b3.trans a3,λc e=>(b4 c (a1.trans e)).trans (a4 c e)⟩
theorem Fm.gF{m':List Nat}(hm:∀i∈m,i∈m')(a:Fm m aa env h O aJ env' h1 O'):Fm m' aa env h O aJ env' h1 O':=⟨a.le,a.keep,λi hi=>a.stay i λz=>hi (hm i z)⟩
theorem RF.pre(s:SR A0 h0 aa env h O)(p:h<+:h1)(r:RF A0 h0 m aa env h1 O f h' g):RF A0 h0 m aa env h O f h' g:=by
 cases f<;>cases g<;>first|exact r.elim|exact r|(obtain⟨O',a,b⟩:=r;exact⟨O',a,(Fm.refl s p).trans b⟩)
theorem RF.gF{m':List Nat}(hm:∀i∈m,i∈m')(r:RF A0 h0 m aa env h O f h' g):RF A0 h0 m' aa env h O f h' g:=by
 cases f<;>cases g<;>first|exact r.elim|exact r|(obtain⟨O',a,b⟩:=r;exact⟨O',a,b.gF hm⟩)
theorem RF.seq{m9:bh}{vj:Env}{O1:Nat->Option Nat}(a:Fm m aa env h O m9 vj h1 O1)(r:RF A0 h0 m m9 vj h1 O1 f h' g):RF A0 h0 m aa env h O f h' g:=by
 cases f<;>cases g<;>first|exact r.elim|exact r|(obtain⟨O',b,c⟩:=r;exact⟨O',b,a.trans c⟩)
theorem bM{α β γ δ:Type}{R:α -> Hs -> β -> Prop}{R':γ -> Hs -> δ -> Prop}{mm:M β}{f:β -> M δ}{p:Pr α}{F:α -> Pr γ}(s:SR A0 h0 aa env h O)(r:Rel (Al A0 O) h R (mm h) p)(k:∀a h1 b,h<+:h1->R a h1 b->gY A0 h0 R' (f b h1) (F a)):gY A0 h0 R' (bnd mm f h) (pb p F):=by
 unfold bnd;cases p with
 |ok a=>obtain⟨b,h1,e,q,r⟩:=r;rw[e];exact k a h1 b q r
 |exc c es=>obtain⟨ws,h1,e,q,r⟩:=r;rw[e];exact⟨ws,h1,rfl,s.pre.trans q,r.gF λ_ z=>z.1⟩
 |no=>trivial
theorem bB{α β:Type}{R:α -> Hs -> β -> Prop}{a:α}{b:β}(r:R a h b):gY A0 h0 R (ret b h) (.ok a):=⟨b,h,rfl,r⟩
theorem iT{α β:Type}{R R':α -> Hs -> β -> Prop}{o:Out β}{p:Pr α}(r:gY A0 h0 R o p)(k:∀a h' b,R a h' b->R' a h' b):gY A0 h0 R' o p:=by
 cases p with
 |ok a=>obtain⟨b,h',e,r⟩:=r;exact⟨b,h',e,k a h' b r⟩
 |exc c es=>exact r
 |no=>trivial
theorem qV{α β γ δ:Type}{R:α -> Hs -> β -> Prop}{R':γ -> Hs -> δ -> Prop}{mm:M β}{f:β -> M δ}{p:Pr α}{F:α -> Pr γ}(r:gY A0 h0 R (mm h) p)(k:∀a h1 b,R a h1 b->gY A0 h0 R' (f b h1) (F a)):gY A0 h0 R' (bnd mm f h) (pb p F):=by
 unfold bnd;cases p with
 |ok a=>obtain⟨b,h1,e,r⟩:=r;rw[e];exact k a h1 b r
 |exc c es=>obtain⟨ws,h1,e,q,r⟩:=r;rw[e];exact⟨ws,h1,rfl,q,r⟩
 |no=>trivial
theorem iA{α β:Type}{R:α -> Hs -> β -> Prop}{c:Bool}{o:Out β}{p:Pr α}(r:c=true->gY A0 h0 R o p):gY A0 h0 R o (pg c p):=by
 unfold pg;cases c with
 |true=>rw[aan rfl];exact r rfl
 |false=>rw[aaj aab];trivial
def gr(O:Nat->Option Nat)(i:Nat):Nat->Option Nat:=λj=>if j=i then none else O j
theorem pT:Al A0 O none->Al A0 O none:=id
theorem kc:Al A0 O none->Al A0 O' none:=λh=>⟨h.1,λ_ z=>by cases z⟩
theorem jv{i:Nat}:∀k,Al A0 O k->Al A0 (gr O i) k:=λk ⟨a,b⟩=>⟨a,λj z=>by unfold gr;split;(cases k<;>simp_all);exact b j z⟩
theorem SR.setM(s:SR A0 h0 aa env h O){i:Nat}{mk:Mk}{d v:Val}(ZF:vN mk=true)(q:Dn (Al A0 O) h d v)(qn:Qu mk=true->Dn (Al (Fr h0.length) O) h d v):SR A0 h0 (aa.set i (some (mk,d))) (env.set i (some v)) h (gr O i)/\Fm [i] aa env h O (aa.set i (some (mk,d))) (env.set i (some v)) h (gr O i):=by
 refine⟨⟨by simp[s.len],λj m' d' e hm'=>?_,λj d' e=>?_,λj a e=>?_,λj l a e1 e2=>?_,s.pre,s.up⟩,aal _,λk hk n=>⟨rfl,λj=>?_⟩,λj hj=>?_⟩
 ·by_cases hij:i=j
  ·subst hij
   have hi:i<aa.length:=by have:=(aai.mp e).1;simpa using this
   rw[aaw hi]at e;cases e;exact⟨v,by rw[aaw (by rw[<-s.len];exact hi)],q.gF jv,λz=>(qn z).gF jv⟩
  ·rw[aak hij]at e;rw[aak hij];obtain⟨w,k1,k2,k3⟩:=s.sh j m' d' e hm';exact⟨w,k1,k2.gF jv,λz=>(k3 z).gF jv⟩
 ·by_cases hij:i=j
  ·subst hij
   have hi:i<aa.length:=by have:=(aai.mp e).1;simpa using this
   rw[aaw hi]at e;cases e;cases ZF
  ·rw[aak hij]at e;rw[aak hij];obtain⟨a,k2,k3,k4⟩:=s.ow j d' e;exact⟨a,k2,by unfold gr;rw[aaj (λz=>hij z.symm)];exact k3,k4.mono (λ_ g=>g) λ_ _ z=>z.gF jv⟩
 ·unfold gr at e
  split at e
  ·cases e
  ·rename_i hj;obtain⟨k1,k2,d',k3⟩:=s.own j a e;exact⟨k1,k2,d',by rw[aak (λz=>hj z.symm)];exact k3⟩
 ·unfold gr at e1 e2
  split at e1
  ·cases e1
  ·split at e2
   ·cases e2
   ·exact s.inj j l a e1 e2
 ·unfold gr;split;simp;exact n j
 ·have hj':j≠i:=by simpa using hj
  exact⟨by unfold gr;rw[aaj hj'],aak (λz=>hj' z.symm),aak (λz=>hj' z.symm),λ_ _=>rfl⟩
theorem SR.set(s:SR A0 h0 aa env h O){i:Nat}(q:Dn (Al A0 O) h d v):SR A0 h0 (aa.set i (some (.sh,d))) (env.set i (some v)) h (gr O i)/\Fm [i] aa env h O (aa.set i (some (.sh,d))) (env.set i (some v)) h (gr O i):=s.setM rfl q λz=>nomatch z
theorem SR.binds:∀{is:List Nat} {ds vs:List Val} {aa:bh} {env:Env} {O:Nat->Option Nat} {aJ:bh},SR A0 h0 aa env h O->cM is ds aa=some aJ->ay (Al A0 O) h ds vs ->
  ∃env' O',bindAll is vs env=some env'/\SR A0 h0 aJ env' h O'/\Fm is aa env h O aJ env' h O'
 | [],[],vs,aa,env,O,aJ,s,e,q=>by
  rw[ay]at q;subst q;simp only[cM]at e;cases e;exact⟨env,O,rfl,s,Fm.refl s (aaC _)⟩
 | i::is,d::ds,vs,aa,env,O,aJ,s,e,q=>by
  rw[ay]at q;obtain⟨v,r,rfl,q1,q2⟩:=q;simp only[cM]at e;obtain⟨s1,f1⟩:=s.set (i:=i) q1;obtain⟨env',O',b1,b2,b3⟩:=SR.binds s1 e (q2.gF jv);refine⟨env',O',by simp only[bindAll];exact b1,b2,(f1.gF λj hj=>?_).trans (b3.gF λj hj=>aae _ hj)⟩;rw[aay.mp hj];exact aah
 |[],_::_,_,_,_,_,_,_,e,_=>by simp[cM]at e
 |_::_,[],_,_,_,_,_,_,e,_=>by simp[cM]at e
theorem SR.bind(s:SR A0 h0 aa env h O)(e:bE p d aa=some aJ)(q:Dn (Al A0 O) h d v):∃env' O',gq p v env=some env'/\SR A0 h0 aJ env' h O'/\Fm (stored p) aa env h O aJ env' h O':=by
 cases p with
 |one i=>simp only[bE]at e;cases e;obtain⟨s1,f1⟩:=s.set (i:=i) q;exact⟨_,_,rfl,s1,f1⟩
 |tup is=>
  cases d<;>simp only[bE]at e<;>first|(cases e;done)|skip
  rw[Dn]at q;obtain⟨vs,rfl,q⟩:=q;exact s.binds e q
theorem Ka{a:Nat}(p:h0<+:h)(ha:h0.length<=a):h0<+:h.set a o:=by
 obtain⟨t,rfl⟩:=p;rw[List.set_append_right _ _ ha];exact prefix_append _ _
theorem SR.put(s:SR A0 h0 aa env h O){i a:Nat}{d d1:Val}(e:aa[i]?=some (some (.ow,d)))(ha:O i=some a)(q:OB (Al A0 O) h d1 ob) :
  SR A0 h0 (aa.set i (some (.ow,d1))) env (h.set a ob) O/\Fm [i] aa env h O (aa.set i (some (.ow,d1))) env (h.set a ob) O:=by
 obtain⟨o1,o2,_⟩:=s.own i a ha;have hi:i<aa.length:=(aai.mp e).1;have mv:∀{A0:AP} (k:Nat) (o:Ob),Al A0 O k->h[k]?=some o->Al A0 O k/\(h.set a ob)[k]?=some o:=λk o hk g=>⟨hk,by rw[aak λz=>hk.2 i rfl (by rw[<-z];exact ha)];exact g⟩;obtain⟨a0,e2,e3,_⟩:=s.ow i d e;refine⟨⟨by simp[s.len],λj m' d' ej hm'=>?_,λj d' ej=>?_,λj b ej=>?_,s.inj,Ka s.pre o1,s.up⟩,by simp,λk hk n=>⟨?_,n⟩,λj hj=>?_⟩
 ·by_cases hij:i=j
  ·subst hij;rw[aaw hi]at ej;cases ej;cases hm'
  ·rw[aak hij]at ej;obtain⟨w,k1,k2,k3⟩:=s.sh j m' d' ej hm';exact⟨w,k1,Dn.move pT mv _ _ k2,λz=>Dn.move pT mv _ _ (k3 z)⟩
 ·by_cases hij:i=j
  ·subst hij;rw[aaw hi]at ej;cases ej;rw[ha]at e3;cases e3;exact⟨a,e2,ha,q.od (by rw[aaw o2]) λ_ _ z=>ay.move pT mv _ _ z⟩
  ·rw[aak hij]at ej;obtain⟨a1,k2,k3,k4⟩:=s.ow j d' ej;have:a≠a1:=λz=>hij (s.inj i j a ha (by rw[z];exact k3));exact⟨a1,k2,k3,k4.mono (λ_ g=>by rw[aak this];exact g) λ_ _ z=>ay.move pT mv _ _ z⟩
 ·obtain⟨k1,k2,d',k3⟩:=s.own j b ej
  refine⟨k1,by simp[k2],?_⟩
  by_cases hij:i=j
  ·subst hij;exact⟨_,by rw[aaw hi]⟩
  ·exact⟨d',by rw[aak hij];exact k3⟩
 ·rw[aak λz=>n i (by rw[<-z];exact ha)]
 ·have hj':j≠i:=by simpa using hj
  exact⟨rfl,aak (λz=>hj' z.symm),rfl,λb eb=>by rw[aak λz=>hj' (s.inj j i b eb (by rw[<-z];exact ha))]⟩
def r8(O:Nat->Option Nat)(i a:Nat):Nat->Option Nat:=λj=>if j=i then some a else O j
theorem SR.fresh(s:SR A0 h0 aa env h O){i:Nat}{d1:Val}{h2:Hs}(p:h<+:h2)(q:OB (Al A0 O) h2 d1 ob) :
  SR A0 h0 (aa.set i (some (.ow,d1))) (env.set i (some (.ref h2.length))) (h2++[ob]) (if i<aa.length then r8 O i h2.length else gr O i) /\
   Fm [i] aa env h O (aa.set i (some (.ow,d1))) (env.set i (some (.ref h2.length))) (h2++[ob]) (if i<aa.length then r8 O i h2.length else gr O i):=by
 have pp:h<+:h2++[ob]:=p.trans (prefix_append _ _);have s2:=s.ext p;have mv:∀{A0:AP} (j:Nat),∀(k:Nat) (o:Ob),Al A0 O k->h2[k]?=some o->Al A0 (if i<aa.length then r8 O i h2.length else gr O i) k/\(h2++[ob])[k]?=some o:=λ{A0} j k o hk g=>by
  have hlt:k<h2.length:=(aai.mp g).1;refine⟨?_,by rw[aax hlt];exact g⟩
  split
  ·refine⟨hk.1,λl _=>?_⟩
   unfold r8
   split
   ·intro z;cases z;omega
   ·exact hk.2 l rfl
  ·exact jv k hk
 by_cases hi:i<aa.length
 ·rw[aan hi]at mv |-
  refine⟨⟨by simp[s.len],λj m' d' ej hm'=>?_,λj d' ej=>?_,λj b ej=>?_,λj l b e1 e2=>?_,s.pre.trans pp,s.up⟩,pp.length_le,λk hk n=>⟨m8 pp hk,λl=>?_⟩,λj hj=>?_⟩
  ·by_cases hij:i=j
   ·subst hij;rw[aaw hi]at ej;cases ej;cases hm'
   ·rw[aak hij]at ej;rw[aak hij];obtain⟨w,k1,k2,k3⟩:=s2.sh j m' d' ej hm';exact⟨w,k1,Dn.move kc (mv 0) _ _ k2,λz=>Dn.move kc (mv 0) _ _ (k3 z)⟩
  ·by_cases hij:i=j
   ·subst hij;rw[aaw hi]at ej;cases ej;exact⟨h2.length,by rw[aaw (by rw[<-s.len];exact hi)],by unfold r8;rw[aan rfl],q.od (by simp) λ_ _ z=>ay.move kc (mv 0) _ _ z⟩
   ·rw[aak hij]at ej;rw[aak hij];obtain⟨a1,k2,k3,k4⟩:=s2.ow j d' ej;have hlt:a1<h2.length:=k4.lt;exact⟨a1,k2,by unfold r8;rw[aaj λz=>hij z.symm];exact k3,k4.mono (λ_ g=>by rw[aax hlt];exact g) λ_ _ z=>ay.move kc (mv 0) _ _ z⟩
  ·unfold r8 at ej
   split at ej
   ·rename_i hj;cases ej;subst hj;exact⟨aaK s.pre.length_le p.length_le,by simp,_,by rw[aaw hi]⟩
   ·rename_i hj;obtain⟨k1,k2,d',k3⟩:=s2.own j b ej;exact⟨k1,by simp;omega,d',by rw[aak λz=>hj z.symm];exact k3⟩
  ·unfold r8 at e1 e2
   split at e1
   ·rename_i h1;cases e1
    split at e2
    ·rename_i h3;rw[h1,h3]
    ·have:=(s2.own l _ e2).2.1;omega
   ·split at e2
    ·cases e2;have:=(s2.own j _ e1).2.1;omega
    ·exact s.inj j l b e1 e2
  ·unfold r8;split
   ·intro z;cases z;have:=p.length_le;omega
   ·exact n l
  ·have hj':j≠i:=by simpa using hj
   exact⟨by unfold r8;rw[aaj hj'],aak (λz=>hj' z.symm),aak (λz=>hj' z.symm),λb eb=>m8 pp (s.own j b eb).2.1⟩
 ·rw[aaj hi]at mv |-
  have e1:aa.set i (some (.ow,d1))=aa:=List.set_eq_of_length_le (by omega);have e2:env.set i (some (.ref h2.length))=env:=List.set_eq_of_length_le (by rw[<-s.len];omega);have e3:gr O i=O:=by
   funext j;unfold gr;split
   ·rename_i hj;subst hj
    cases e:O j with
    |none=>rfl
    |some a=>obtain⟨_,_,d,k⟩:=s.own j a e;exact absurd (aai.mp k).1 hi
   ·rfl
  rw[e1,e2,e3];exact⟨s.ext pp,Fm.refl s pp⟩
end
section
variable {Φ:Nat->List Val->M Val} {Ψ:Nat->List Val->Pr FV} {A:AP} {h h1:Hs}
def isRef:Val->Bool
 |.rl _=>true
 |.dc _ _=>true
 |_=>false
def RN(A:AP)(h:Hs):FV->Hs->Val->Prop:=λx h' v=>isRef x.2=true->∃h2 o,h'=h2++[o]/\v=.ref h2.length/\h<+:h2/\OB A h2 x.2 o
def LI(Φ:Nat->List Val->M Val)(Ψ:Nat->List Val->Pr FV)(ir:IE):Prop:=∀(aa:bh) (env:Env) (A:AP) (h:Hs),Up A h->ER A aa env h->Rel A h (RN A h) (aN Φ ir env h) (aL Ψ ir aa)
theorem kg{f:Bool}{h0:Hs}(p:h0<+:h)(q:ay A h xs vs):Rel A h (RN A h0) (new (.lst vs) h) (.ok (f,.rl xs)) :=
 ⟨_,_,rfl,dN _,λ_=>⟨h,.lst vs,rfl,rfl,p,vs,rfl,q⟩⟩
theorem OL:LI Φ Ψ .dct0:=λaa env A h u e=>by
 rw[aN,aL];exact⟨_,_,rfl,dN _,λ_=>⟨h,.dct [],rfl,rfl,aaC _,[],rfl,rfl,ay.nil⟩⟩
theorem OM(hk:bW Φ Ψ k)(hv:bW Φ Ψ v):LI Φ Ψ (.dct1 k v):=λaa env A h u e=>by
 rw[aN,aL];refine ah (hk aa env A h u e) λx h1 w p1 q1=>ah (R:=λkk _ kk'=>kk'=kk) (aW λkk ek=>⟨kk,ve q1.1 ek,rfl⟩) λkk h2 kk' p2 hkk=>?_;subst hkk;refine ah (hv aa env A h2 ((u.ext p1).ext p2) ((e.ext p1).ext p2)) λy h3 z p3 q3=>ah (R:=λkk _ kk'=>kk'=kk) (aW λkk ek=>⟨kk,ve q3.1 ek,rfl⟩) λk2 h4 k2' p4 hk2=>?_;subst hk2;have p:=((p1.trans p2).trans p3).trans p4
 by_cases ce:kk'=k2'
 ·subst ce;rw[AS,AV];exact⟨_,_,rfl,dN _,λ_=>⟨h4,.dct [(kk',.bl true)],rfl,rfl,p,[(kk',.bl true)],rfl,rfl,ay.cons vg ay.nil⟩⟩
 ·rw[AU ce,AW ce];exact⟨_,_,rfl,dN _,λ_=>⟨h4,.dct [(kk',.bl true),(k2',.bl true)],rfl,rfl,p,[(kk',.bl true),(k2',.bl true)],rfl,rfl,ay.cons vg (ay.cons vg ay.nil)⟩⟩
theorem SG(hs:j8 Φ Ψ es):LI Φ Ψ (.lst es):=λaa env A h u e=>by
 rw[aN,aL];exact ah (hs.1 aa env A h u e) λx h1 vs p1 q1=>aY (λz=>by rw[<-q1.1.length];exact z) λ_=>kg p1 q1.1
theorem SH(ha:bW Φ Ψ a)(hl:bW Φ Ψ lo)(hh:bW Φ Ψ hi):LI Φ Ψ (.slc a lo hi):=λaa env A h u e=>by
 rw[aN,aL];refine ah (qT ha u e) λx h1 v p1 q1=>ah (m6 hl (u.ext p1) (e.ext p1)) λl h2 l' p2 el=>ah (m6 hh ((u.ext p1).ext p2) ((e.ext p1).ext p2)) λr h3 r' p3 er=>?_;subst el;subst er;have q1:=DB.ext (p2.trans p3) q1;obtain⟨f,d⟩:=x;cases d with
 |str z=>have:=DB.str q1;subst this;exact aY (λz=>z) λ_=>aq λe=>by cases e
 |tup ds=>obtain⟨vs,rfl,q⟩:=DB.tup q1;have l:=q.length;simp only[rZ,rY];exact aY (λz=>by rw[l]at z;exact z) λ_=>aq λe=>by cases e
 |rl ds=>
  obtain⟨vs,e1,q⟩:=DB.lst q1;have ev:rY v l' r' h3=new (.lst (cV vs l' r')) h3:=by
   have:rY v l' r'=bnd (ask λh=>aF h v) λxs=>new (.lst (cV xs l' r')):=by cases v<;>simp only[aF]at e1<;>first|(cases e1;done)|rfl
   rw[this];unfold bnd ask bu;dsimp only;rw[e1]
  rw[ev];exact kg ((p1.trans p2).trans p3) (q.cut l' r')
 |_=>trivial
theorem ON(hs:j8 Φ Ψ es):LI Φ Ψ (.blt .list es):=λaa env A h u e=>by
 rw[aN,aL];refine ah (hs.2 aa env A h u e) λds h1 vs p1 q1=>?_
 match ds,q1 with
 |[],q1=>trivial
 |[d],q1=>obtain⟨v,rfl,hv⟩:=q1.one;exact ah (R:=λxs h' ws=>ay A h' xs ws) (cu λxs e=>hv.seq e) λxs h2 ws p2 q=>kg (p1.trans p2) q
 |_::_::_,_=>trivial
theorem Ff(hs:j8 Φ Ψ es):LI Φ Ψ (.blt .sorted es):=λaa env A h u e=>by
 rw[aN,aL];refine ah (hs.2 aa env A h u e) λds h1 vs p1 q1=>?_
 match ds,q1 with
 |[],q1=>trivial
 |[d],q1=>
  obtain⟨v,rfl,hv⟩:=q1.one;cases d<;>first|trivial|skip
  rename_i xs;obtain⟨ws,e1,q⟩:=hv.lst;have ev:bnd (ask λh=>aF h v) (λxs=>bnd (bu (gJ xs)) λys=>new (.lst ys)) h1=bnd (bu (gJ ws)) (λys=>new (.lst ys)) h1:=by unfold bnd ask bu;dsimp only;rw[e1]
  show Rel A h1 (RN A h) (bnd (ask λh=>aF h v) (λxs=>bnd (bu (gJ xs)) λys=>new (.lst ys)) h1) _;rw[ev];refine ah (R:=λys _ zs=>zs=ys/\bU ys=true) (aW λys e=>?_) λys h2 zs p2 hz=>?_
  ·obtain⟨i1,i2⟩:=tX e;rw[(bx xs ws i1).mp q];exact⟨ys,e,rfl,i2⟩
  ·obtain⟨rfl,hi⟩:=hz;exact kg (p1.trans p2) ((bx _ _ hi).mpr rfl)
 |x::_::_,_=>cases x<;>trivial
theorem OO(hs:j8 Φ Ψ it)(hc:bW Φ Ψ c)(he:bW Φ Ψ elt):LI Φ Ψ (.comp N js pat k it c elt):=λaa env A h u e=>by
 rw[aN,aL];refine xK ?_;refine ah (hs.2 aa env A h u e) λds h1 vs p1 q1=>ah (AZ q1) λxs h2 src p2 q2=>?_;obtain⟨ws,q3,q4⟩:=q2;have l:=q3.length;have ev:∀(F:List Val->M Val),bnd (ask λh=>src.items h) F h2=F ws h2:=λF=>by unfold bnd ask bu;dsimp only;rw[q4 h2 (aaC _)]
 rw[ev];refine aY (λz=>by rw[<-l];exact z) λ_=>?_;have u2:=(u.ext p1).ext p2;have e2:=(e.ext p1).ext p2;refine ah (qU (hb:=h) xs ws 0 [] h2 (p1.trans p2) u2 q4 rfl q3 λx v h' p' qx=>?_) λp h3 ys p3 hp=>?_
 ·refine ah (R:=λaJ _ env'=>∃_:ER A aJ env' h',True) (aW λaJ ev'=>?_) λaJ h4 env' p4 he'=>?_
  ·obtain⟨env',a1,a2⟩:=xJ ev' qx (Bb (e2.ext p')) (by simp[fH,jE]);exact⟨env',a1,a2,trivial⟩
  ·obtain⟨er,_⟩:=he'
   have er:=er.ext p4;have u4:=(u2.ext p').ext p4;have Oj:Rel A h4 (λt _ t'=>t'=t) ((if cJ c=true then ret true else bnd (aN Φ c env') λv=>ask λh=>fS h v) h4) (if cJ c=true then .ok true else pb (aL Ψ c aJ) λv=>pl (fS [] v.2)):=by
    by_cases hn:cJ c=true
    ·rw[aan hn,aan hn];exact aq rfl
    ·rw[aaj hn,aaj hn];exact ah (hc aJ env' A h4 u4 er) λy h5 w p5 q5=>cu λt et=>⟨t,zu q5.br et,rfl⟩
   refine ah Oj λt h5 t' p5 et=>?_;subst et;cases t' with
   |true=>rw[aan rfl,aan rfl];exact ah (he aJ env' A h5 (u4.ext p5) (er.ext p5)) λy h6 w p6 q6=>aq (q6.up ((p1.trans p2).trans (p'.trans (p4.trans p5))))
   |false=>rw[aaj aab,aaj aab];exact aq trivial
 ·obtain⟨zs,rfl,z1,z2⟩:=hp;exact kg ((p1.trans p2).trans p3) z1
theorem SJ(hΦ:∀j,Imp (Φ j) (Ψ j))(hf:Wt e=true)(ho:dX e=true):LI Φ Ψ e:=by
 have V:=v_all hΦ;cases e<;>first|(cases hf;done)|skip
 ·exact SG (V.2 _ ho)
 ·have ho:=r6 ho;exact SH (V.1 _ ho.1.1) (V.1 _ ho.1.2) (V.1 _ ho.2)
 ·rename_i b es
  change m7 _=true at ho;cases b<;>first|(cases hf;done)|skip
  ·exact Ff (V.2 _ ho)
  ·exact ON (V.2 _ ho)
 ·have ho:=r6 ho;exact OO (V.2 _ ho.1.1) (V.1 _ ho.1.2) (V.1 _ ho.2)
 ·exact OL
 ·have ho:=gj ho;exact OM (V.1 _ ho.1) (V.1 _ ho.2)
mutual
noncomputable def XQ:IS->Bool
 |.expr e=>dX e
 |.asg _ e=>dX e
 |.aug _ _ e=>dX e
 |.jD o i v=>dX o&&dX i&&dX v
 |.iff c a b=>dX c&&xM a&&xM b
 |.for _ _ it b=>m7 it&&xM b
 |.whl _ c b=>dX c&&xM b
 |.ret e=>dX e
 |.setF _ a _ _=>dX a
 |_=>true
noncomputable def xM:dY->Bool
 |.nil=>true
 |.cons s r=>XQ s&&xM r
end
def mS(s:IS):List Nat:=vc s++oq s
def Kc(s:dY):List Nat:=cF s++lF s
variable {ms:List Nat}
def Be(Φ:Nat->List Val->M Val)(Ψ:Nat->List Val->Pr FV)(ms:List Nat)(s:IS):Prop:=∀(A0:AP) (h0:Hs) (aa:bh) (env:Env) (h:Hs) (O:Nat->Option Nat),SR A0 h0 aa env h O->gY A0 h0 (RF A0 h0 (mS s) aa env h O) (gW Φ s env h) (aZ Ψ ms s aa)
def vm(Φ:Nat->List Val->M Val)(Ψ:Nat->List Val->Pr FV)(ms:List Nat)(s:dY):Prop:=∀(A0:AP) (h0:Hs) (aa:bh) (env:Env) (h:Hs) (O:Nat->Option Nat),SR A0 h0 aa env h O->gY A0 h0 (RF A0 h0 (Kc s) aa env h O) (gX Φ s env h) (aB Ψ ms s aa)
theorem Fg(he:bW Φ Ψ e)(hx:∀aa,aZ Ψ ms (.expr e) aa=pb (aL Ψ e aa) λ_=>.ok (.nx aa)):Be Φ Ψ ms (.expr e):=λA0 h0 aa env h O s=>by
 rw[gW,hx];exact bM s (he aa env _ h s.Bc s.er) λx h1 v p1 q1=>bB ⟨O,s.ext p1,Fm.refl s p1⟩
theorem bK{α β γ:Type}(m:M α)(f:α -> M β)(g:β -> M γ):bnd (bnd m f) g=bnd m λx=>bnd (f x) g:=by
 funext h;show (match (match m h with|.ok a h'=>f a h'|.exc c vs h'=>.exc c vs h'|.no=>.no) with|.ok a h'=>g a h'|.exc c vs h'=>.exc c vs h'|.no=>.no)=(match m h with|.ok a h'=>bnd (f a) g h'|.exc c vs h'=>.exc c vs h'|.no=>.no);cases m h<;>rfl
theorem eY{α β:Type}{m:M α}{f:α -> M β}{a:α}{h h1:Hs}(e:m h=.ok a h1):bnd m f h=f a h1:=by unfold bnd;rw[e]
theorem jw{i:Nat}(e:env[i]?=some (some v)):aN Φ (.var i) env h=.ok v h:=by rw[aN,e];rfl
theorem CF{i:Nat}(ha:bW Φ Ψ a):Be Φ Ψ ms (.expr (.met .append (.var i) #[a])):=λA0 h0 aa env h O s=>by
 rw[gW,aZ];try dsimp only
 split
 ·rename_i ds hv
  obtain⟨b,e2,e3,vs,e4,e5⟩:=s.ow i _ hv;have ev:bnd (aN Φ (.met .append (.var i) #[a]) env) (λ_=>ret (Fl.nx env)) h=bnd (aN Φ a env) (λv=>bnd (met .append (.ref b) [v]) λ_=>ret (Fl.nx env)) h:=by
   rw[aN,bK,eY (jw e2)];rw[bK,eY (a:=()) (h1:=h) (by unfold ask bu;simp[recv,e4])];rw[bK,bJ,bK]
   congr 1
  rw[ev];refine bM s (ha aa env _ h s.Bc s.er) λx h1 v p1 q1=>iA λhg=>?_;have s1:=s.ext p1;obtain⟨s2,f2⟩:=s1.put (d1:=.rl (ds++[x.2])) (ob:=.lst (vs++[v])) hv e3 ⟨_,rfl,(e5.ext p1).append (ay.cons q1.1 ay.nil)⟩;have l:=e5.length;refine⟨.nx env,h1.set b (.lst (vs++[v])),?_,O,s2,(Fm.refl s p1).trans (f2.gF λj hj=>?_)⟩
  ·have g:=j6 p1 e4;unfold met bnd ask bu aH put ret;dsimp only;rw[g];dsimp only;rw[aan (by rw[<-l];exact hg)]
  ·rw[aay.mp hj];exact mem_append_left _ aah
 ·trivial
theorem CG{i:Nat}(ha:bW Φ Ψ a):Be Φ Ψ ms (.expr (.met .extend (.var i) #[a])):=λA0 h0 aa env h O s=>by
 rw[gW,aZ];try dsimp only
 split
 ·rename_i ds hv
  obtain⟨b,e2,e3,vs,e4,e5⟩:=s.ow i _ hv;have ev:bnd (aN Φ (.met .extend (.var i) #[a]) env) (λ_=>ret (Fl.nx env)) h=bnd (aN Φ a env) (λv=>bnd (met .extend (.ref b) [v]) λ_=>ret (Fl.nx env)) h:=by
   rw[aN,bK,eY (jw e2)];rw[bK,eY (a:=()) (h1:=h) (by unfold ask bu;simp[recv,e4])];rw[bK,bJ,bK]
   congr 1
  rw[ev];refine bM s (ha aa env _ h s.Bc s.er) λx h1 v p1 q1=>?_;obtain⟨f,d⟩:=x;cases d<;>first|trivial|skip
  rename_i ts;have q:=q1.1;dsimp only at q;rw[Dn]at q;obtain⟨ws,rfl,q⟩:=q;refine iA λhg=>?_;have s1:=s.ext p1;obtain⟨s2,f2⟩:=s1.put (d1:=.rl (ds++ts)) (ob:=.lst (vs++ws)) hv e3 ⟨_,rfl,(e5.ext p1).append q⟩;have l:=e5.length;have l2:=q.length;refine⟨.nx env,h1.set b (.lst (vs++ws)),?_,O,s2,(Fm.refl s p1).trans (f2.gF λj hj=>?_)⟩
  ·have g:=j6 p1 e4;unfold met bnd ask bu aH put ret Ao;dsimp only;rw[g];dsimp only;rw[aan (by rw[<-l,<-l2];exact hg)]
  ·rw[aay.mp hj];exact mem_append_left _ aah
 ·trivial
theorem Kd(hΦ:∀j,Imp (Φ j) (Ψ j))(ho:dX e=true):Be Φ Ψ ms (.expr e):=by
 have V:=v_all hΦ;have gen:(∀aa,aZ Ψ ms (.expr e) aa=pb (aL Ψ e aa) λ_=>.ok (.nx aa))->Be Φ Ψ ms (.expr e):=λhx=>Fg (V.1 e ho) hx;cases e with
 |met m a es=>
  cases m with
  |join=>exact gen λaa=>by rw[aZ]<;>(intros;simp_all)
  |append=>
   cases a with
   |var i=>
    cases es with
    |nil=>exact gen λaa=>by rw[aZ]<;>(intros;simp_all)
    |cons x r=>
     cases r with
     |nil=>exact CF (V.1 x (gj (gj ho).2).1)
     |cons _ _=>exact gen λaa=>by rw[aZ]<;>(intros;simp_all)
   |_=>exact gen λaa=>by rw[aZ]<;>(intros;simp_all)
  |extend=>
   cases a with
   |var i=>
    cases es with
    |nil=>exact gen λaa=>by rw[aZ]<;>(intros;simp_all)
    |cons x r=>
     cases r with
     |nil=>exact CG (V.1 x (gj (gj ho).2).1)
     |cons _ _=>exact gen λaa=>by rw[aZ]<;>(intros;simp_all)
   |_=>exact gen λaa=>by rw[aZ]<;>(intros;simp_all)
  |remove=>exact gen λaa=>by rw[aZ]<;>(intros;simp_all)
  |pop=>exact gen λaa=>by rw[aZ]<;>(intros;simp_all)
 |_=>exact gen λaa=>by rw[aZ]<;>(intros;simp_all)
end
section
variable {Φ:Nat->List Val->M Val} {Ψ:Nat->List Val->Pr FV} {ms:List Nat}
theorem Fi{i:Nat}{l:List Nat}(h:i∈l):∀j∈[i],j∈l:=λj hj=>by rw[aay.mp hj];exact h
theorem OP(hΦ:∀j,Imp (Φ j) (Ψ j))(ho:dX e=true):Be Φ Ψ ms (.asg p e):=λA0 h0 aa env h O s=>by
 have V:=(v_all hΦ).1 e ho;cases p with
 |one i=>
  rw[gW,aZ];try dsimp only
  split
  ·refine iA λhf=>?_
   refine bM s (SJ hΦ hf ho aa env _ h s.Bc s.er) λx h1 v p1 q1=>?_;obtain⟨f,d⟩:=x;cases d<;>first|trivial|skip
   ·obtain⟨h2,vs,rfl,rfl,p2,q2⟩:=q1 rfl;obtain⟨s2,f2⟩:=s.fresh (i:=i) p2 q2;exact⟨_,_,rfl,_,s2,f2.gF (Fi (by simp[mS,oq,stored]))⟩
   ·obtain⟨h2,vs,rfl,rfl,p2,q2⟩:=q1 rfl;obtain⟨s2,f2⟩:=s.fresh (i:=i) p2 q2;exact⟨_,_,rfl,_,s2,f2.gF (Fi (by simp[mS,oq,stored]))⟩
  ·refine bM s (V aa env _ h s.Bc s.er) λx h1 v p1 q1=>?_
   have hnw:Qu (gz x.1 x.2)=true->Dn (Al (Fr h0.length) O) h1 x.2 v:=λz=>by
    have hx:x.1=true:=by
     unfold gz at z;split at z
     ·rename_i hh;simp only[and_eq_true]at hh;exact hh.1
     ·cases z
    refine(q1.2 hx).gF λo ho=>?_;cases o with
    |none=>exact ho.elim
    |some k=>exact⟨aaK s.pre.length_le ho,λj _ e=>by have:=(s.own j k e).2.1;have ho':h.length<=k:=ho;omega⟩
   have hrd:vN (gz x.1 x.2)=true:=by unfold gz;split<;>rfl
   obtain⟨s2,f2⟩:=(s.ext p1).setM (i:=i) hrd q1.1 hnw;exact⟨_,_,rfl,_,s2,(Fm.refl s p1).trans (f2.gF (Fi (by simp[mS,oq,stored])))⟩
 |tup is=>
  rw[gW,aZ];try dsimp only
  refine iA λhf=>bM s (V aa env _ h s.Bc s.er) λx h1 v p1 q1=>?_;have s1:=s.ext p1;refine bM s1 (R:=λaJ h' env'=>∃O',SR A0 h0 aJ env' h' O'/\Fm (stored (.tup is)) aa env h1 O aJ env' h' O') (aW λaJ ev=>?_) λaJ h2 env' p2 hh=>?_
  ·obtain⟨env',O',b1,b2,b3⟩:=s1.bind ev q1.1;exact⟨env',b1,O',b2,b3⟩
  ·obtain⟨O',b2,b3⟩:=hh;exact bB ⟨O',b2,(Fm.refl s p1).trans (b3.gF λj hj=>by simp only[mS,oq];exact aaJ _ hj)⟩
theorem OQ{i:Nat}(hΦ:∀j,Imp (Φ j) (Ψ j))(ho:dX e=true):Be Φ Ψ ms (.aug i o e):=λA0 h0 aa env h O s=>by
 cases e with
 |comp N js pat k it c elt=>
  have f:=r6 ho;rw[gW,aZ];try dsimp only
  refine iA λhf=>bM s (LH ((v_all hΦ).2 it f.1.1) ((v_all hΦ).1 c f.1.2) ((v_all hΦ).1 elt f.2) aa env _ h s.Bc s.er) λx h1 v p1 q1=>?_;obtain⟨s2,f2⟩:=(s.ext p1).set (i:=i) q1.1;exact⟨_,_,rfl,_,s2,(Fm.refl s p1).trans (f2.gF (Fi (by simp[mS,oq])))⟩
 |_=>exact(show gY A0 h0 _ _ (pg (!ms.contains i) .no) from iA λ_=>trivial)
theorem Bf(k:Key)(l:List (Key×Val)):(l.any λkv=>decide (kv.1=k))=((l.map (·.1)).any λx=>decide (x=k)):=by
 rw[any_map];rfl
theorem Bg(e:Dn A h d v):∀{kvs:List (Key×Val)} {ds:List Val},ay A h ds (kvs.map (·.2)) ->
  ay A h ((((kvs.map (·.1)).zip ds).map λkv=>if kv.1=k then (kv.1,d) else kv).map (·.2)) ((kvs.map λkv=>if kv.1=k then (kv.1,v) else kv).map (·.2))
 |[],ds,q=>by simp only[map_nil,List.zip_nil_left];exact ay.nil
 | (k',v')::kvs,ds,q=>by
  have l:=q.length;cases ds with
  |nil=>simp at l
  |cons d' ds=>
   simp only[map_cons]at q;rw[ay]at q;obtain⟨v1,r,e1,q1,q2⟩:=q;cases e1;simp only[map_cons,List.zip_cons_cons];refine ay.cons ?_ (Bg e q2)
   by_cases hk:k'=k
   ·rw[aan hk,aan hk];exact e
   ·rw[aaj hk,aaj hk];exact q1
theorem o7(k:Key)(d:Val)(l:List (Key×Val)):(l.map λkv=>if kv.1=k then (kv.1,d) else kv).map (·.1)=l.map (·.1):=by
 rw[map_map];refine map_congr_left λx _=>?_;show (if x.1=k then (x.1,d) else x).1=x.1
 split<;>rfl
theorem Ke(hk:kvs.map (·.1)=ks)(q:ay A h ds (kvs.map (·.2)))(e:Dn A h d v) :
  (fM kvs k v).map (·.1)=(fM (ks.zip ds) k d).map (·.1)/\ay A h ((fM (ks.zip ds) k d).map (·.2)) ((fM kvs k v).map (·.2)):=by
 subst hk;have l:=q.length;rw[aaf]at l;have z1:((kvs.map (·.1)).zip ds).map (·.1)=kvs.map (·.1):=List.map_fst_zip (by rw[aaf];omega);have z2:((kvs.map (·.1)).zip ds).map (·.2)=ds:=List.map_snd_zip (by rw[aaf];omega);unfold fM;rw[Bf,Bf,z1]
 split
 ·rw[o7,o7,z1];exact⟨rfl,Bg e q⟩
 ·rw[map_append,map_append,map_append,map_append,z1,z2];exact⟨rfl,q.append (ay.cons e ay.nil)⟩
theorem Kf(hΦ:∀j,Imp (Φ j) (Ψ j))(ho:dX o=true)(hi:dX i=true)(hv:dX v=true):Be Φ Ψ ms (.jD o i v):=λA0 h0 aa env h O s=>by
 have V:=(v_all hΦ).1;cases o with
 |var j=>
  rw[gW,aZ];refine bM s (V v hv aa env _ h s.Bc s.er) λx h1 w p1 q1=>?_;have s1:=s.ext p1
  split
  ·rename_i ks ds hj
   obtain⟨b,e2,e3,kvs,e4,ek,e5⟩:=s1.ow j _ hj;rw[eY (jw e2)];refine bM s1 (V i hi aa env _ h1 s1.Bc s1.er) λz h2 u p2 q2=>?_;have s2:=s1.ext p2;obtain⟨f,d⟩:=z;have q:=q2.1;dsimp only at q;show gY A0 h0 _ _ (pb (pl (keyOf d)) _);cases hk:keyOf d with
   |none=>trivial
   |some kk=>
    have hu:keyOf u=some kk:=by
     cases d<;>simp only[keyOf]at hk<;>first|(cases hk;done)|skip
     all_goals (rw[Dn]at q;subst q;exact hk)
    show gY A0 h0 _ _ (pg _ _);refine iA λhl=>?_;have g:=j6 p2 e4;obtain⟨k1,k2⟩:=Ke (k:=kk) ek (e5.ext p2) (q1.1.ext p2);obtain⟨s3,f3⟩:=s2.put (d1:=putD ks ds kk x.2) (ob:=.dct (fM kvs kk w)) hj e3 ⟨_,rfl,k1,k2⟩;refine⟨.nx env,h2.set b (.dct (fM kvs kk w)),?_,O,s3,(Fm.refl s (p1.trans p2)).trans (f3.gF (Fi (by simp[mS,vc])))⟩;have hl':decide (kvs.length<sizeLine)=true:=by rw[<-ek,aaf]at hl;exact hl
    simp only[Aq];unfold bnd ask bu put ret aH;dsimp only;rw[g];dsimp only;rw[hu];dsimp only;rw[aan hl']
  ·trivial
 |_=>rw[aZ]<;>first|trivial|(intros;simp_all)
theorem OS(hΦ:∀j,Imp (Φ j) (Ψ j))(hc:dX c=true)(ha:vm Φ Ψ ms a)(hb:vm Φ Ψ ms b):Be Φ Ψ ms (.iff c a b):=λA0 h0 aa env h O s=>by
 have V:=(v_all hΦ).1 c hc;rw[gW,aZ];refine bM s (qT V s.Bc s.er) λx h1 v p1 q1=>?_;have s1:=s.ext p1;refine bM s1 (R:=λt _ t'=>t'=t) (cu λt et=>⟨t,zu q1 et,rfl⟩) λt h2 t' p2 et=>?_;subst et;have s2:=s1.ext p2;cases t' with
 |true=>
  rw[aan rfl,aan rfl];refine iT (ha A0 h0 aa env h2 O s2) λf h' g r=>(r.pre s (p1.trans p2)).gF λi hi=>?_;simp only[Kc,mS,vc,oq,mem_append]at hi |-
  rcases hi with z|z
  ·exact .inl (.inl z)
  ·exact .inr (.inl z)
 |false=>
  rw[aaj aab,aaj aab];refine iT (hb A0 h0 aa env h2 O s2) λf h' g r=>(r.pre s (p1.trans p2)).gF λi hi=>?_;simp only[Kc,mS,vc,oq,mem_append]at hi |-
  rcases hi with z|z
  ·exact .inl (.inr z)
  ·exact .inr (.inr z)
def zw(h:Hs)(O:Nat->Option Nat)(m:List Nat)(src:Src)(ws:List Val):Prop :=
 ∀h':Hs,(∀k,k<h.length->(∀i,O i≠some k)->h'[k]?=h[k]?)->(∀i,i∉m->∀a,O i=some a->h'[a]?=h[a]?)->src.items h'=some ws
theorem jx{i:Nat}(e:h[i]?=some (.lst ws)):(Src.live i).items h=some ws:=by simp[Src.items,aF,e]
theorem jy{i:Nat}(e:h[i]?=some (.lst ws)):(Src.enum i).items h=some (cR 0 ws):=by simp[Src.items,aF,e]
theorem xN{A0:AP}{h0:Hs}{m:List Nat}(hb:∀aa env h O x v,SR A0 h0 aa env h O->Dn (Al A0 O) h x v->gY A0 h0 (RF A0 h0 m aa env h O) (body v env h) (bodyV x aa))
  {m9:bh} {vj:Env} {h1:Hs} {O1:Nat->Option Nat} (st:zw h1 O1 m src ws) :
  ∀(xs vs:List Val) (i:Nat) (aa:bh) (env:Env) (h:Hs) (O:Nat->Option Nat),SR A0 h0 aa env h O->Fm m m9 vj h1 O1 aa env h O->ws.drop i=vs->ay (Al A0 O) h xs vs ->
   gY A0 h0 (RF A0 h0 m m9 vj h1 O1) (forM src body vs.length i env h) (iR bodyV xs aa)
 | [],vs,i,aa,env,h,O,s,f,hd,q=>by
  rw[ay]at q;subst q;have hl:ws.length<=i:=List.drop_eq_nil_iff.mp hd;have hi:=st h (λk hk n=>(f.keep k hk n).1) (λj hj a e=>(f.stay j hj).2.2.2 a e);rw[iR];refine⟨.nx env,h,?_,O,s,f⟩;show forM src body 0 i env h=_;simp only[forM];unfold bnd ask bu aH;dsimp only;rw[hi];dsimp only;rw[aan (decide_eq_true hl)];rfl
 | x::xs,vs,i,aa,env,h,O,s,f,hd,q=>by
  rw[ay]at q;obtain⟨v,r,rfl,q1,q2⟩:=q;have hv:ws[i]?=some v:=by have:=congrArg (λl=>l[0]?) hd;simpa using this
  have hr:ws.drop (i+1)=r:=by
   have:ws.drop (i+1)=(ws.drop i).drop 1:=by rw[List.drop_drop]
   rw[this,hd];rfl
  have hi:=st h (λk hk n=>(f.keep k hk n).1) (λj hj a e=>(f.stay j hj).2.2.2 a e);have ev:forM src body (v::r).length i env h=bnd (body v env) (λf=>match f with
   |.nx env'=>forM src body r.length (i+1) env'
   |.ct env'=>forM src body r.length (i+1) env'
   |.bk env'=>ret (.nx env')
   |.rt v=>ret (.rt v)) h:=by
   show forM src body (r.length+1) i env h=_;simp only[forM];unfold bnd ask bu;dsimp only;rw[hi];dsimp only;rw[hv];try rfl
  rw[ev,iR];refine qV (hb aa env h O x v s q1) λfl h2 gl hr2=>?_;have go:∀aJ env' O',SR A0 h0 aJ env' h2 O'->Fm m aa env h O aJ env' h2 O'->gY A0 h0 (RF A0 h0 m m9 vj h1 O1) (forM src body r.length (i+1) env' h2) (iR bodyV xs aJ):=λaJ env' O' s' f'=>by
   refine xN hb st xs r (i+1) aJ env' h2 O' s' (f.trans f') hr (ay.move kc (λk o hk g=>?_) _ _ q2);have hlt:k<h.length:=(aai.mp g).1;obtain⟨a1,a2⟩:=f'.keep k hlt λi=>hk.2 i rfl;exact⟨⟨hk.1,λi _=>a2 i⟩,a1.trans g⟩
  cases fl<;>cases gl<;>first|exact hr2.elim|skip
  ·obtain⟨O',s',f'⟩:=hr2;exact go _ _ O' s' f'
  ·exact bB hr2
  ·obtain⟨O',s',f'⟩:=hr2;exact bB ⟨O',s',f.trans f'⟩
  ·obtain⟨O',s',f'⟩:=hr2;exact go _ _ O' s' f'
theorem Fj{A0:AP}{m:List Nat}(q:Dn (Al A0 O) h d v)(e:gA k [d]=some xs):∃src ws,srcOf k [v]=some src/\ay (Al A0 O) h xs ws/\src.items h=some ws/\zw h O m src ws:=by
 have lst:∀es,d=.rl es->(∃ws,v=.rl ws/\ay (Al A0 O) h es ws)\/∃a ws,v=.ref a/\h[a]?=some (.lst ws)/\ay (Al A0 O) h es ws/\∀h':Hs,(∀k,k<h.length->(∀i,O i≠some k)->h'[k]?=h[k]?)->h'[a]?=some (Ob.lst ws):=by
  rintro es rfl;rw[Dn]at q
  rcases q with ⟨ws,rfl,_,q⟩|⟨a,ws,rfl,al,g,q⟩
  ·exact .inl ⟨ws,rfl,q⟩
  ·exact .inr ⟨a,ws,rfl,g,q,λh' hk=>(hk a (aai.mp g).1 λi=>al.2 i rfl).trans g⟩
 cases k with
 |seq=>
  cases d<;>first|(cases e;done)|skip
  ·rename_i z
   change (if L2.isAscii z=true then some (signs z) else none)=some xs at e;rw[Dn]at q;subst q;split at e
   ·rename_i hn;cases e
    refine⟨.fix (signs z),signs z,aan hn,?_,rfl,λ_ _ _=>rfl⟩;unfold signs;generalize z.cps.toList=l
    induction l with
    |nil=>exact ay.nil
    |cons a l ih=>exact ay.cons (by rw[Dn]) ih
   ·cases e
  ·cases e;rw[Dn]at q;obtain⟨ws,rfl,q⟩:=q;exact⟨.fix ws,ws,rfl,q,rfl,λ_ _ _=>rfl⟩
  ·cases e
   rcases lst _ rfl with ⟨ws,rfl,q'⟩|⟨a,ws,rfl,g,q',st⟩
   ·exact⟨.fix ws,ws,rfl,q',rfl,λ_ _ _=>rfl⟩
   ·exact⟨.live a,ws,rfl,q',jx g,λh' hk _=>jx (st h' hk)⟩
 |range=>
  cases d<;>first|(cases e;done)|skip
  rw[Dn]at q;subst q;rename_i n;change (if inR n=true then some (aU 0 n.toNat) else none)=some _ at e;split at e
  ·rename_i hn;cases e;exact⟨.fix _,_,aan hn,kO,rfl,λ_ _ _=>rfl⟩
  ·cases e
 |enum=>
  cases d<;>first|(cases e;done)|skip
  cases e
  rcases lst _ rfl with ⟨ws,rfl,q'⟩|⟨a,ws,rfl,g,q',st⟩
  ·exact⟨.fix _,_,rfl,iS 0 q',rfl,λ_ _ _=>rfl⟩
  ·exact⟨.enum a,_,rfl,iS 0 q',jy g,λh' hk _=>jy (st h' hk)⟩
 |zip=>cases e
theorem Fo{α β γ δ:Type}{R:α -> Hs -> β -> Prop}{R':γ -> Hs -> δ -> Prop}{m:M β}{f:β -> M δ}{p:Pr α}{F:α -> Pr γ}(r:Rel A h R (m h) p)(k:∀a h1 b,p=.ok a->h<+:h1->R a h1 b->Rel A h1 R' (f b h1) (F a)):Rel A h R' (bnd m f h) (pb p F):=by
 unfold bnd;cases p with
 |ok a=>
  obtain⟨b,h1,e,q,r⟩:=r;rw[e];show Rel A h R' (f b h1) (F a);have:=k a h1 b rfl q r;cases e2:F a with
  |ok c=>rw[e2]at this;obtain⟨d,h2,e3,q2,r2⟩:=this;exact⟨d,h2,e3,q.trans q2,r2⟩
  |exc c es=>rw[e2]at this;obtain⟨d,h2,e3,q2,r2⟩:=this;exact⟨d,h2,e3,q.trans q2,r2⟩
  |no=>trivial
 |exc c es=>obtain⟨ws,h1,e,q,r⟩:=r;rw[e];exact⟨ws,h1,rfl,q,r⟩
 |no=>trivial
theorem Fp{e e2:IE}(h:fB Ψ (.cons e (.cons e2 r)) aa=.ok ds):2<=ds.length:=by
 rw[fB,fB]at h;cases h1:(if isVar e=true then pl (jZ aa e) else aL Ψ e aa) with
 |ok a=>
  rw[h1]at h;cases h2:(if isVar e2=true then pl (jZ aa e2) else aL Ψ e2 aa) with
  |ok b=>
   rw[h2]at h;cases h3:fB Ψ r aa with
   |ok c=>rw[h3]at h;cases h;simp
   |exc _ _=>rw[h3]at h;cases h
   |no=>rw[h3]at h;cases h
  |exc _ _=>rw[h2]at h;cases h
  |no=>rw[h2]at h;cases h
 |exc _ _=>rw[h1]at h;cases h
 |no=>rw[h1]at h;cases h
theorem Fq{d1 d2:Val}(ex:gA k [d1,d2]=some xs):k=.range/\∃n m,d1=.int n/\d2=.int m/\(inR n&&inR m)=true/\xs=aU n (m-n).toNat:=by
 cases k with
 |seq=>cases d1<;>cases ex
 |enum=>cases d1<;>cases ex
 |zip=>cases ex
 |range=>
  cases d1<;>first|(cases ex;done)|skip
  cases d2<;>first|(cases ex;done)|skip
  rename_i n m;change (if (inR n&&inR m)=true then some (aU n (m-n).toNat) else none)=some xs at ex
  by_cases hn:(inR n&&inR m)=true
  ·rw[aan hn]at ex;cases ex;exact⟨rfl,n,m,rfl,rfl,hn,rfl⟩
  ·rw[aaj hn]at ex;cases ex
theorem zx{d1 d2 d3:Val}:gA k (d1::d2::d3::r)=none:=by
 cases k with
 |seq=>cases d1<;>rfl
 |enum=>cases d1<;>rfl
 |zip=>rfl
 |range=>cases d1<;>first|rfl|(cases d2<;>rfl)
theorem Kg{A0:AP}{h0:Hs}{m:List Nat}(hΦ:∀j,Imp (Φ j) (Ψ j))(hi:m7 it=true)(s:SR A0 h0 aa env h O)(hm:∀i,it=.cons (.var i) .nil->i∉m) :
  Rel (Al A0 O) h (λxs h' src=>∃ws,ay (Al A0 O) h' xs ws/\src.items h'=some ws/\zw h' O m src ws) (bnd (bJ Φ it env) (λits=>bu (srcOf k its)) h) (pb (fB Ψ it aa) λits=>pl (gA k its)):=by
 have V:=v_all hΦ;cases it with
 |nil=>rw[fB];cases k<;>trivial
 |cons e es=>
  cases es with
  |nil=>
   replace hi:=gj hi
   by_cases hv:isVar e=true
   ·cases e<;>first|(cases hv;done)|skip
    rename_i i;rw[fB,fB,aan hv];simp only[jZ];cases hx:aa[i]? with
    |none=>trivial
    |some o=>
     cases o with
     |none=>trivial
     |some fd=>
      obtain⟨f,d⟩:=fd;show Rel _ _ _ _ (pl (gA k [d]));cases hf:vN f with
      |false=>
       have hf:f=.ow:=by cases f<;>first|rfl|cases hf
       subst hf;obtain⟨a,e2,e3,e4⟩:=s.ow i d hx;have ev:bnd (bJ Φ #[.var i] env) (λits=>bu (srcOf k its)) h=bu (srcOf k [.ref a]) h:=by rw[bJ,bJ,bK,eY (jw e2)];rfl
       rw[ev];refine aW λxs ex=>?_;have hd:∃ds,d=.rl ds:=by cases d<;>first|exact⟨_,rfl⟩|exact False.elim e4|(cases k<;>cases ex)
       obtain⟨ds,rfl⟩:=hd;obtain⟨vs,e4,e5⟩:=e4;have st:∀h':Hs,(∀i,i∉m->∀a,O i=some a->h'[a]?=h[a]?)->h'[a]?=some (Ob.lst vs):=λh' hs=>(hs i (hm i rfl) a e3).trans e4;cases k with
       |seq=>cases ex;exact⟨.live a,rfl,vs,e5,jx e4,λh' _ hs=>jx (st h' hs)⟩
       |range=>cases ex
       |enum=>cases ex;exact⟨.enum a,rfl,_,iS 0 e5,jy e4,λh' _ hs=>jy (st h' hs)⟩
       |zip=>cases ex
      |true=>
       obtain⟨v,e1,e2,_⟩:=s.sh i f d hx hf;have ev:bnd (bJ Φ #[.var i] env) (λits=>bu (srcOf k its)) h=bu (srcOf k [v]) h:=by rw[bJ,bJ,bK,eY (jw e1)];rfl
       rw[ev];refine aW λxs ex=>?_;obtain⟨src,ws,a1,a2,a3,a4⟩:=Fj (m:=m) e2 ex;exact⟨src,a1,ws,a2,a3,a4⟩
   ·rw[fB,fB,aaj hv]
    have ev:bnd (bJ Φ #[e] env) (λits=>bu (srcOf k its)) h=bnd (aN Φ e env) (λv=>bu (srcOf k [v])) h:=by rw[bJ,bJ,bK];rfl
    rw[ev];have ep:(pb (pb (aL Ψ e aa) λd=>pb (Pr.ok ([]:List Val)) λp=>Pr.ok (d.2::p)) λits=>pl (gA k its))=pb (aL Ψ e aa) λd=>pl (gA k [d.2]):=by cases aL Ψ e aa<;>rfl
    rw[ep];refine ah (V.1 e hi.1 aa env _ h s.Bc s.er) λx h1 v p1 q1=>aW λxs ex=>?_;obtain⟨src,ws,a1,a2,a3,a4⟩:=Fj (m:=m) q1.1 ex;exact⟨src,a1,ws,a2,a3,a4⟩
  |cons e2 r=>
   have V2:=V.2 _ hi;refine Fo (V2.2 aa env _ h s.Bc s.er) λds h1 vs eb p1 q1=>aW λxs ex=>?_;have hl:2<=ds.length:=Fp eb
   match ds,q1 with
   |[],q1=>cases k<;>cases ex
   |[d],q1=>simp at hl
   |[d1,d2],q1=>obtain⟨v,rr,rfl,hv,hr⟩:=q1;obtain⟨w,rfl,hw⟩:=Hz.one hr;obtain⟨rfl,n,m',rfl,rfl,hn,rfl⟩:=Fq ex;have:=hv.int;subst this;have:=hw.int;subst this;exact⟨.fix _,aan hn,_,kO,rfl,λ_ _ _=>rfl⟩
   |d1::d2::d3::dr,q1=>rw[zx]at ex;cases ex
theorem OT(hΦ:∀j,Imp (Φ j) (Ψ j))(hi:m7 it=true)(hb:vm Φ Ψ ms body):Be Φ Ψ ms (.for p k it body):=λA0 h0 aa env h O s=>by
 rw[gW,aZ];refine iA λhg=>?_;rw[and_eq_true]at hg;have hm:∀i,it=.cons (.var i) .nil->i∉mS (.for p k it body):=by
  rintro i rfl z;simp only[AO,and_eq_true,not_eq_true',List.contains_eq_mem,decide_eq_false_iff_not]at hg;simp only[mS,vc,oq,mem_append]at z
  rcases z with z|z|z
  ·exact hg.1.1.1 z
  ·exact hg.1.2 z
  ·exact hg.1.1.2 z
 have ev:∀(F:Src->M Fl),bnd (bJ Φ it env) (λits=>bnd (bu (srcOf k its)) F) h=bnd (bnd (bJ Φ it env) λits=>bu (srcOf k its)) F h:=λF=>by rw[bK]
 have ep:∀(F:List Val->Pr JS),pb (fB Ψ it aa) (λits=>pb (pl (gA k its)) F)=pb (pb (fB Ψ it aa) λits=>pl (gA k its)) F:=λF=>by cases fB Ψ it aa<;>rfl
 rw[ev,ep];refine bM s (Kg (m:=mS (.for p k it body)) hΦ hi s hm) λxs h1 src p1 hx=>?_;obtain⟨ws,q1,q2,st⟩:=hx;have s1:=s.ext p1;have l:=q1.length;have ZG:∀(F:List Val->M Fl),bnd (ask λh=>src.items h) F h1=F ws h1:=λF=>by unfold bnd ask bu;dsimp only;rw[q2]
 rw[ZG];refine iT (xN (m:=mS (.for p k it body)) (λaJ env' h' O' x v s' qx=>?_) st xs ws 0 aa env h1 O s1 (Fm.refl s1 (aaC _)) rfl q1) λf h' g r=>r.pre s p1;refine bM s' (R:=λo6 h2 iK=>∃O2,SR A0 h0 o6 iK h2 O2/\Fm (stored p) aJ env' h' O' o6 iK h2 O2) (aW λo6 e2=>?_) λo6 h2 iK p2 hh=>?_
 ·obtain⟨iK,O2,b1,b2,b3⟩:=s'.bind e2 qx;exact⟨iK,b1,O2,b2,b3⟩
 ·obtain⟨O2,b2,b3⟩:=hh
  refine iT (hb A0 h0 o6 iK h2 O2 b2) λf h'' g r=>RF.seq (b3.gF λi hi=>?_) (r.gF λi hi=>?_)
  ·simp only[mS,vc,oq,mem_append];exact .inr (.inl hi)
  ·simp only[Kc,mS,vc,oq,mem_append]at hi |-
   rcases hi with z|z
   ·exact .inl z
   ·exact .inr (.inr z)
theorem OU{n:Nat}(hΦ:∀j,Imp (Φ j) (Ψ j))(hc:dX c=true)(hb:vm Φ Ψ ms body):Be Φ Ψ ms (.whl n c body):=λA0 h0 aa env h O s=>by rw[aZ];trivial
theorem LJ:vN (XI m)=true:=by cases m<;>rfl
theorem SR.fr{A0:AP}{h0:Hs}(s:SR A0 h0 aa env h O):ER A0 (pK aa) env h:=λi f d e=>by
 unfold pK at e;rw[aaF]at e;cases hx:aa[i]? with
 |none=>rw[hx]at e;cases e
 |some o=>
  rw[hx]at e;cases o with
  |none=>cases e
  |some fd=>
   obtain⟨m,d'⟩:=fd;cases e;rw[aaj (by rw[LJ];decide)];cases hm:vN m with
   |false=>
    have hm:m=.ow:=by cases m<;>first|rfl|cases hm
    subst hm;obtain⟨a,e2,e3,e4⟩:=s.ow i d hx;exact⟨_,e2,(e4.mono (A':=A0) (λ_ g=>g) λ_ _ z=>z.gF λ_ y=>y.1).dn (s.up a (s.own i a e3).1)⟩
   |true=>obtain⟨v,e1,e2,_⟩:=s.sh i m d hx hm;exact⟨v,e1,e2.gF λ_ z=>z.1⟩
theorem ou{A0:AP}{h0:Hs}{α β γ δ:Type}{R:α -> Hs -> β -> Prop}{R':γ -> Hs -> δ -> Prop}{mm:M β}{f:β -> M δ}{p:Pr α}{F:α -> Pr γ}(s:SR A0 h0 aa env h O)(r:Rel A0 h R (mm h) p)(k:∀a h1 b,h<+:h1->R a h1 b->gY A0 h0 R' (f b h1) (F a)):gY A0 h0 R' (bnd mm f h) (pb p F):=by
 unfold bnd;cases p with
 |ok a=>obtain⟨b,h1,e,q,r⟩:=r;rw[e];exact k a h1 b q r
 |exc c es=>obtain⟨ws,h1,e,q,r⟩:=r;rw[e];exact⟨ws,h1,rfl,s.pre.trans q,r⟩
 |no=>trivial
theorem CH(h:JT env es=some p):∃i j,es=.cons (.var i) #[.var j]/\env[i]?=some (some (.nw,p.1))/\env[j]?=some (some (.nw,p.2)):=by
 unfold JT at h;split at h
 ·split at h
  ·rename_i a b;cases h;exact⟨_,_,rfl,a,b⟩
  ·cases h
 ·cases h
theorem OV(hΦ:∀j,Imp (Φ j) (Ψ j))(ho:dX e=true):Be Φ Ψ ms (.ret e):=λA0 h0 aa env h O s=>by
 have V:=(v_all hΦ).1 e ho;have gen:E6 Ψ e aa=aL Ψ e aa->gY A0 h0 (RF A0 h0 (mS (.ret e)) aa env h O) (gW Φ (.ret e) env h) (aZ Ψ ms (.ret e) aa):=λhe=>by
  rw[gW,aZ,he];exact bM s (V aa env _ h s.Bc s.er) λx h1 v p1 q1=>bB ⟨q1.1.gF λ_ z=>z.1,λf=>(q1.2 f).gF (Fr.le s.pre.length_le),s.pre.trans p1⟩
 cases e with
 |var i=>
  rw[gW,aZ];simp only[E6];cases hx:aa[i]? with
  |none=>trivial
  |some o=>
   cases o with
   |none=>trivial
   |some fd=>
    obtain⟨f,d⟩:=fd;cases hf:vN f with
    |false=>
     have hf:f=.ow:=by cases f<;>first|rfl|cases hf
     subst hf;obtain⟨a,e2,e3,e4⟩:=s.ow i d hx;rw[eY (jw e2)];have ha:=s.own i a e3;cases d<;>first|exact False.elim e4|skip
     ·refine⟨_,h,rfl,?_,λhi=>?_,s.pre⟩
      ·exact(e4.mono (A':=A0) (λ_ g=>g) λ_ _ z=>z.gF λ_ y=>y.1).dn (s.up a ha.1)
      ·obtain⟨vs,e4,e5⟩:=e4;show Dn _ h (.rl _) (.ref a);rw[Dn];exact .inr ⟨a,vs,rfl,ha.1,e4,fV e5 hi⟩
     ·refine⟨_,h,rfl,?_,λhi=>?_,s.pre⟩
      ·exact(e4.mono (A':=A0) (λ_ g=>g) λ_ _ z=>z.gF λ_ y=>y.1).dn (s.up a ha.1)
      ·obtain⟨kvs,e4,ek,e5⟩:=e4;show Dn _ h (.dc _ _) (.ref a);rw[Dn];exact⟨a,kvs,rfl,ha.1,e4,ek,fV e5 hi⟩
    |true=>
     obtain⟨v,e1,e2,e3⟩:=s.sh i f d hx hf;rw[eY (jw e1)];dsimp only;rw[aan hf];refine⟨_,h,rfl,e2.gF λ_ z=>z.1,λhi=>?_,s.pre⟩
     rcases(or_eq_true _ _).mp hi with hi|hi
     ·exact(ju d v hi).mpr ((ju d v hi).mp e2)
     ·exact(e3 hi).gF λ_ z=>z.1
 |bin o a b=>rw[gW,aZ];exact ou s (V (pK aa) env A0 h (s.up.ext s.pre) s.fr) λx h1 v p1 q1=>bB ⟨q1.1,λf=>(q1.2 f).gF (Fr.le s.pre.length_le),s.pre.trans p1⟩
 |call j es=>rw[gW,aZ];exact ou s (V (pK aa) env A0 h (s.up.ext s.pre) s.fr) λx h1 v p1 q1=>bB ⟨q1.1,λf=>(q1.2 f).gF (Fr.le s.pre.length_le),s.pre.trans p1⟩
 |tup es=>
  rw[gW,aZ];change gY A0 h0 _ _ (pb (JU Ψ es aa) _);unfold JU
  split
  ·rename_i pp hp
   obtain⟨i,j,he,hi,hj⟩:=CH hp;subst he;obtain⟨v,e1,e2,e3⟩:=s.sh i .nw _ hi rfl;obtain⟨w,k1,k2,k3⟩:=s.sh j .nw _ hj rfl;have ev:aN Φ (.tup #[.var i,.var j]) env h=.ok (.tup [v,w]) h:=by rw[aN,bJ,bJ,bJ];rw[eY (a:=[v,w]) (h1:=h) (by rw[eY (jw e1),eY (a:=[w]) (h1:=h) (by rw[eY (jw k1)];rfl)];rfl)];rfl
   rw[eY ev];refine⟨_,h,rfl,?_,λ_=>?_,s.pre⟩
   ·show Dn A0 h (.tup _) _;rw[Dn];exact⟨_,rfl,ay.cons (e2.gF λ_ z=>z.1) (ay.cons (k2.gF λ_ z=>z.1) ay.nil)⟩
   ·show Dn (Fr h0.length) h (.tup _) _;rw[Dn];exact⟨_,rfl,ay.cons ((e3 rfl).gF λ_ z=>z.1) (ay.cons ((k3 rfl).gF λ_ z=>z.1) ay.nil)⟩
  exact ou s (V (pK aa) env A0 h (s.up.ext s.pre) s.fr) λx h1 v p1 q1=>bB ⟨q1.1,λf=>(q1.2 f).gF (Fr.le s.pre.length_le),s.pre.trans p1⟩
 |_=>exact gen rfl
theorem OW:vm Φ Ψ ms .nil:=λA0 h0 aa env h O s=>by rw[gX,aB];exact bB ⟨O,s,Fm.refl s (aaC _)⟩
theorem Kh(ha:Be Φ Ψ ms a)(hr:vm Φ Ψ ms r):vm Φ Ψ ms (.cons a r):=λA0 h0 aa env h O s=>by
 rw[gX,aB];have w1:∀i∈mS a,i∈Kc (.cons a r):=λi hi=>by
  simp only[mS,Kc,cF,lF,mem_append]at hi |-
  rcases hi with z|z
  ·exact .inl (.inl z)
  ·exact .inr (.inl z)
 have w2:∀i∈Kc r,i∈Kc (.cons a r):=λi hi=>by
  simp only[Kc,cF,lF,mem_append]at hi |-
  rcases hi with z|z
  ·exact .inl (.inr z)
  ·exact .inr (.inr z)
 refine qV (ha A0 h0 aa env h O s) λf h1 g rr=>?_;have rr:=rr.gF w1;cases f<;>cases g<;>first|exact rr.elim|skip
 ·obtain⟨O',s',f'⟩:=rr;exact iT (hr A0 h0 _ _ h1 O' s') λf h' g r'=>RF.seq f' (r'.gF w2)
 ·exact bB rr
 ·exact bB rr
 ·exact bB rr
theorem SK(hΦ:∀j,Imp (Φ j) (Ψ j)):∀ss,xM ss=true->vm Φ Ψ ms ss:=by
 intro ss;refine dY.rec (motive_1:=λs=>XQ s=true->Be Φ Ψ ms s) (motive_2:=λss=>xM ss=true->vm Φ Ψ ms ss) ?_ ?_ ?_ ?_ ?_ ?_ ?_ ?_ ?_ ?_ ?_ ?_ ?_ ?_ ?_ ?_ ss
 ·exact λe f=>Kd hΦ f
 ·exact λp e f=>OP hΦ f
 ·exact λi o e f=>OQ hΦ f
 ·intro o i v f;have f:=r6 f;exact Kf hΦ f.1.1 f.1.2 f.2
 ·intro c a b ia ib f;have f:=r6 f;exact OS hΦ f.1.1 (ia f.1.2) (ib f.2)
 ·intro p k it b ib f;have f:=gj f;exact OT hΦ f.1 (ib f.2)
 ·intro n c b ib f;have f:=gj f;exact OU hΦ f.1 (ib f.2)
 ·exact λe f=>OV hΦ f
 ·exact λ_ A0 h0 aa env h O s=>by rw[gW,aZ];exact bB ⟨by rw[Dn],λ_=>by rw[Dn],s.pre⟩
 ·exact λ_ A0 h0 aa env h O s=>by rw[gW,aZ];exact bB ⟨O,s,Fm.refl s (aaC _)⟩
 ·exact λ_ A0 h0 aa env h O s=>by rw[gW,aZ];exact bB ⟨O,s,Fm.refl s (aaC _)⟩
 ·exact λ_ A0 h0 aa env h O s=>by rw[gW,aZ];exact bB ⟨O,s,Fm.refl s (aaC _)⟩
 ·exact λ_ A0 h0 aa env h O s=>by rw[aZ];trivial
 ·exact λ_ e _ _ f A0 h0 aa env h O s=>by rw[gW,aZ];exact bM s (((v_all hΦ).1 e f) aa env _ h s.Bc s.er) λx h1 v p1 q1=>trivial
 ·exact λ_=>OW
 ·intro a r ia ir f;have f:=gj f;exact Kh (ia f.1) (ir f.2)
theorem SM{n:Nat}(u:Up A h)(q:ay A h ds vs):SR A h (ds.map (λd=>some (.sh,d))++replicate (n-ds.length) none) (vs.map some++replicate (n-vs.length) none) h (λ_=>none):=by
 have l:=q.length;have al:∀k,A k->Al A (λ_=>none) k:=λk hk=>⟨hk,λi z e=>by subst e;cases z⟩;have get:∀(i:Nat) (f:Mk) (d:Val),(ds.map (λd=>some (.sh,d))++replicate (n-ds.length) none:bh)[i]?=some (some (f,d))->f=.sh/\ds[i]?=some d:=λi f d e=>by
  by_cases hi:i<ds.length
  ·rw[aax (by simpa using hi),aaF]at e
   cases ei:ds[i]? with
   |none=>rw[ei]at e;cases e
   |some d'=>rw[ei]at e;cases e;exact⟨rfl,rfl⟩
  ·rw[aaG (by simp;omega)]at e;have:=aaA e;rw[List.mem_replicate]at this;exact absurd this.2 (by simp)
 refine⟨by simp[l],λi m d e hm=>?_,λi d e=>?_,(λi a e=>nomatch e),(λi j a e=>nomatch e),aaC _,u⟩
 ·obtain⟨hm',e⟩:=get i m d e;obtain⟨v,k1,k2⟩:=q.get e;have hi:i<vs.length:=(aai.mp k1).1;exact⟨v,by rw[aax (by simpa using hi),aaF,k1];rfl,k2.gF al,λz=>by subst hm';cases z⟩
 ·obtain⟨z,_⟩:=get i .ow d e;cases z
theorem bO{n:Nat}(hΦ:∀j,Imp (Φ j) (Ψ j))(ho:xM body=true):Imp (mq Φ n body) (cD Ψ n body):=λA h ds vs u q=>by
 have l:=q.length;have s:=SM (n:=n) u q;unfold mq cD;have r:=qV (R':=λx h' v=>h<+:h'/\RV A h x h' v) (SK (ms:=cF body) hΦ body ho A h _ _ h _ s) (f:=λf=>match f with
  |.nx _=>ret .non
  |.rt v=>ret v
  |_=>bu none) (F:=λf=>match f with
  |.nx _=>.ok (true,.non)
  |.rt p=>.ok p
  | _=>.no) λf h1 g rr=>by
   cases f<;>cases g<;>first|exact rr.elim|skip
   ·obtain⟨O',s',_⟩:=rr;exact bB ⟨s'.pre,by show Dn _ _ Val.non _;rw[Dn],λ_=>by show Dn _ _ Val.non _;rw[Dn]⟩
   ·exact bB ⟨rr.2.2,rr.1,rr.2.1⟩
   ·trivial
   ·trivial
 revert r;generalize (pb (aB Ψ (cF body) body (ds.map (λd=>some (.sh,d))++replicate (n-ds.length) none)) _)=p;intro r;cases p with
 |ok x=>obtain⟨v,h',e,a,b⟩:=r;exact⟨v,h',e,a,b⟩
 |exc c es=>exact r
 |no=>trivial
end
abbrev bq:=List Val->Pr FV
def af(gs:List bq)(j:Nat):bq:=match gs[j]? with
 |some g=>g
 |none=>λ_=>.no
def dH(fs:List Row)(gs:List bq):Prop:=fs.length=gs.length/\∀(j:Nat) (r:Row) (g:bq),fs[j]?=some r->gs[j]?=some g->Imp r.2.2 g
theorem Ft:dH [] []:=⟨rfl,λj r g e=>by simp at e⟩
theorem aI(a:dH fs gs)(j:Nat):Imp (look fs j) (af gs j):=by
 unfold look af;cases e:fs[j]? with
 |none=>
  have:gs[j]?=none:=by have:=List.getElem?_eq_none_iff.mp e;exact List.getElem?_eq_none_iff.mpr (by rw[<-a.1];exact this)
  rw[this];exact λ_ _ _ _ _ _=>trivial
 |some r=>
  cases e2:gs[j]? with
  |none=>exact λ_ _ _ _ _ _=>trivial
  |some g=>exact a.2 j r g e e2
theorem aC{k:Nat}(a:dH fs gs)(i:Imp f g):dH (fs++[(x,k,f)]) (gs++[g]):=by
 refine⟨by simp[a.1],λj r g' e1 e2=>?_⟩
 by_cases hj:j<fs.length
 ·rw[aax hj]at e1;rw[aax (by rw[<-a.1];exact hj)]at e2;exact a.2 j r g' e1 e2
 ·rw[aaG (by omega)]at e1
  rw[aaG (by rw[<-a.1];omega)]at e2;have hj0:j-fs.length=0:=by have:=(aai.mp e1).1;simp at this;omega
  rw[<-a.1]at e2;rw[hj0]at e1 e2;simp at e1 e2;subst e1;subst e2;exact i
theorem Fv(i:Imp φ ψ){ns:List Int}{f:Bool}(e:ψ [.rl (ns.map .int)]=.ok (f,.bl true)):∃h',φ [.rl (ns.map .int)] []=.ok (.bl true) h':=by
 have r:=i (λ_=>True) [] [.rl (ns.map .int)] [.rl (ns.map .int)] (λ_ _=>trivial) (ay.cons (by rw[Dn];exact .inl ⟨_,rfl,trivial,(bx _ _ (cG ns)).mpr rfl⟩) ay.nil);rw[e]at r;obtain⟨v,h',e1,_,q⟩:=r;have q:=q.1;dsimp only at q;rw[Dn]at q;subst q;exact⟨h',e1⟩
section
variable {α β γ:Type}
theorem aR(a:α)(f:α -> Pr β):pb (.ok a) f=f a:=rfl
theorem gk(c:Nat)(ds:List Val)(f:α -> Pr β):pb (.exc c ds) f=.exc c ds:=rfl
theorem OX(c:Prop)[Decidable c](m n:Pr α)(f:α -> Pr β):pb (if c then m else n) f=if c then pb m f else pb n f:=by split<;>rfl
theorem Fw(m:Pr α)(f:α -> Pr β)(g:β -> Pr γ):pb (pb m f) g=pb m λx=>pb (f x) g:=by cases m<;>rfl
theorem eZ(a:α):pl (some a)=.ok a:=rfl
theorem Kl(m:Pr α):pg true m=m:=rfl
theorem OY(c:Prop)[Decidable c](m:Pr α):pg (decide c) m=if c then m else .no:=by unfold pg;simp
theorem d7{c:Bool}(h:c=true)(m:Pr α):pg c m=m:=by rw[h];rfl
end
theorem SN{f:Bool}:vN (gz f d)=true:=by unfold gz;split<;>rfl
theorem SO:vN .sh=true:=rfl
theorem SQ:vN .nw=true:=rfl
theorem SS:vN .ow=false:=rfl
theorem SV:Qu .sh=false:=rfl
theorem SW:Qu .nw=true:=rfl
theorem Fx{f:Bool}{i:Int}:gz f (.int i)=.sh:=by cases f<;>rfl
theorem SX{f:Bool}{i:Bool}:gz f (.bl i)=.sh:=by cases f<;>rfl
theorem OZ{f:Bool}:gz f (.str i)=.sh:=by cases f<;>rfl
theorem O0{f:Bool}:gz f .non=.sh:=by cases f<;>rfl
theorem Wx:gz false d=.sh:=rfl
theorem SY:gz true (.rl ds)=.nw:=rfl
theorem S0:gz true (.dc ks ds)=.nw:=rfl
section
variable {a b:Int} {x y:Str} {t:Bool} {vs ws:List Val} {v:Val}
theorem S4:di .add (.int a) (.int b)=.ok (true,.int (a+b)):=rfl
theorem S5:di .sub (.int a) (.int b)=.ok (true,.int (a-b)):=rfl
theorem qW(h:fD a b=true):di .mul (.int a) (.int b)=.ok (true,.int (a*b)):=by simp only[di];exact d7 h _
theorem oz(h:mU b=true):di .fdiv (.int a) (.int b)=.ok (true,.int (a/b)):=by simp only[di];exact d7 h _
theorem iU(h:decide (0<b)=true):di .mod (.int a) (.int b)=.ok (true,.int (a%b)):=by simp only[di];exact d7 h _
theorem xO(h:decide (0<=b/\b<=1000000/\a.natAbs<2 ^ 64)=true):di .pow (.int a) (.int b)=.ok (true,.int (a ^ b.toNat)):=by simp only[di];exact d7 h _
theorem LK(h:decide (x.length+y.length<=sizeLine)=true):di .add (.str x) (.str y)=.ok (true,.str (x++y)):=by simp only[di];exact d7 h _
theorem add_l(h:decide (vs.length+ws.length<=sizeLine)=true):di .add (.rl vs) (.rl ws)=.ok (bU (vs++ws),.rl (vs++ws)):=by simp only[di];exact d7 h _
theorem Wy:cop [] .lt (.int a) (.int b)=some (decide (a<b)):=rfl
theorem Wz:cop [] .le (.int a) (.int b)=some (decide (a<=b)):=rfl
theorem WA:cop [] .gt (.int a) (.int b)=some (decide (b<a)):=rfl
theorem WB:cop [] .ge (.int a) (.int b)=some (decide (b<=a)):=rfl
theorem WC:cop [] .eq (.int a) (.int b)=some (decide (a=b)):=by
 show some (a==b)=_
 congr 1
theorem S6:cop [] .ne (.int a) (.int b)=some (!decide (a=b)):=by
 show some (!(a==b))=_
 congr 1
theorem S7:cop [] .isn v .non=some (qC v):=by cases v<;>rfl
theorem S8:cop [] .ntn v .non=some (!qC v):=by cases v<;>rfl
theorem Fy:fS [] (.bl t)=some t:=rfl
theorem S9:fy .len [.rl vs]=.ok (true,.int vs.length):=rfl
theorem Tc:fy .len [.tup vs]=.ok (true,.int vs.length):=rfl
theorem lG(h:x.length<=sizeLine):fy .len [.str x]=.ok (true,.int x.length):=by
 show pb (pl (kW [] (.str x))) _=_;rw[show kW [] (.str x)=some x.length from aan h];rfl
theorem Td:fy .min [.int a,.int b]=.ok (true,.int (if b<a then b else a)):=rfl
theorem Te:fy .max [.int a,.int b]=.ok (true,.int (if b>a then b else a)):=rfl
theorem O3:fy .min [.tup [.int a,.int b]]=.ok (true,.int (min a b)):=rfl
theorem O4:fy .max [.tup [.int a,.int b]]=.ok (true,.int (max a b)):=rfl
theorem O5:fy .list [.rl vs]=.ok (bU vs,.rl vs):=rfl
theorem O6:fy .list [.tup vs]=.ok (bU vs,.rl vs):=rfl
theorem Km:fy .tuple [.rl vs]=.ok (bU vs,.tup vs):=rfl
theorem LL(h:decide (a.natAbs.log2<1920)=true):fy .str [.int a]=.ok (true,.str (toString a)):=by simp only[fy];exact d7 h _
theorem Tf:fy .int [.bl t]=.ok (true,.int (if t=true then 1 else 0)):=rfl
theorem fW(h:jC vs a=some v):jt [] (.rl vs) (.int a)=some v:=h
theorem jB(h:jC vs a=some v):jt [] (.tup vs) (.int a)=some v:=h
end
theorem jF:jC (v::vs) (0:Int)=some v:=by
 have:=jk (xs:=v::vs) (j:=0) (v:=v) rfl;exact this
theorem CI:jC (u::v::vs) (1:Int)=some v:=by
 have:=jk (xs:=u::v::vs) (j:=1) (v:=v) rfl;exact this
theorem oA{T:String}{t:String}(h1:wR [] v=some t)(h2:wU T t=some true):fy (.isin T) [v]=.ok (true,.bl true):=by
 show pb (pl (wR [] v)) _=_;rw[h1,eZ,aR,h2];rfl
theorem zy{T:String}{t:String}(h1:wR [] v=some t)(h2:wU T t=some false):fy (.isin T) [v]=.ok (true,.bl false):=by
 show pb (pl (wR [] v)) _=_;rw[h1,eZ,aR,h2];rfl
theorem eq_self(h:toD 16 [] d=some p)(hp:p.canLay0=true):cop [] .eq d d=some true:=by
 simp only[cop,ze,h,bind_some];rw[SeqAt.eqv_refl p hp]
theorem ne_self(h:toD 16 [] d=some p)(hp:p.canLay0=true):cop [] .ne d d=some false:=by
 simp only[cop,ze,h,bind_some];rw[SeqAt.eqv_refl p hp];rfl
theorem CJ:recv [] .join (.str x)=some ():=rfl
theorem LM:gA .seq [.tup vs]=some vs:=rfl
theorem gu:gA .seq [.rl vs]=some vs:=rfl
theorem O7:pI .seq ds=gA .seq ds:=rfl
theorem zA:pI .range ds=gA .range ds:=rfl
theorem O8:pI .enum ds=gA .enum ds:=rfl
theorem Tg:gA .enum [.rl vs]=some (cR 0 vs):=rfl
theorem kh{lo hi:Option Int}:rZ (.rl vs) lo hi=.ok (bU (cV vs lo hi),.rl (cV vs lo hi)):=rfl
theorem bC{i:Nat}:bE (.one i) d env=some (env.set i (some (.sh,d))):=rfl
theorem O9{i j:Nat}:bE (.tup [i,j]) (.tup [d,e]) env=some ((env.set i (some (.sh,d))).set j (some (.sh,e))):=rfl
theorem ng{α β:Type}(f:α -> β)(ds:List α)(lo hi:Option Int):cV (ds.map f) lo hi=(cV ds lo hi).map f:=by
 unfold cV;simp only[length_map,List.map_take,List.map_drop]
theorem oB:∀(i:Nat) (ds:List Val),(cR i ds).length=ds.length
 |_,[]=>rfl
 |i,d::r=>by rw[cR,aaB,oB (i+1) r,aaB]
theorem fX{α β γ:Type}{f:β -> Option γ}{g:α -> β}{k:α -> γ}:∀(xs:List α),(∀x∈xs,f (g x)=some (k x))->cg f (xs.map g)=some (xs.map k)
 |[],_=>rfl
 | x::r,h=>by
  rw[aar,cg,h x aah,fX r λy hy=>h y (aae _ hy)];rfl
theorem ints_map(xs:List Int):bw (xs.map .int)=some xs:=by
 have:=fX (f:=λv=>match v with|.int i=>some i|_=>none) (g:=Val.int) (k:=id) xs λ_ _=>rfl;rw[map_id]at this;exact this
theorem zB(pO:List (List Int))(h:∀k∈pO,k≠[])(hl:pO.length<64):gJ (pO.map gx)=some ((mR pO).map gx):=by
 unfold gJ;rw[aan (by rw[aaf];exact hl)];cases pO with
 |nil=>rfl
 |cons k r=>
  have e:bw (List.map gx (k::r))=none:=by unfold bw ;rw[aar,cg];rfl
  rw[e];have e2:lA (List.map gx (k::r))=some (k::r):=by
   have:=fX (f:=λv=>match v with|.tup vs=>if vs.isEmpty then none else bw vs|_=>none) (g:=gx) (k:=id) (k::r) λx hx=>by
    have hx:=h x hx;show (if (x.map Val.int).isEmpty=true then none else bw (x.map .int))=some x;rw[aaj (by simpa using hx),ints_map]
   rw[map_id]at this;exact this
  show (lA (List.map gx (k::r))).bind _=_;rw[e2];rfl
theorem zC{α:Type}(xs:List α):cz (xs.map λ_=>Val.bl true)=some (xs.map λ_=>true):=fX (g:=λ_=>Val.bl true) (k:=λ_=>true) xs λ_ _=>rfl
theorem all_true{α:Type}(xs:List α):fy .all [.rl (xs.map λ_=>Val.bl true)]=.ok (true,.bl true):=by
 show pb (pl (cz _)) _=_;rw[zC,eZ,aR]
 congr 3
 simp
theorem strs_map{α:Type}(f:α -> Str)(xs:List α):strs? (xs.map λa=>Val.str (f a))=some (xs.map f):=fX (g:=λa=>Val.str (f a)) (k:=f) xs λ_ _=>rfl
def nh(i:Int):Str:=Str.ofString (toString i)
theorem bS(s:String):PyData.strOk (Str.ofString s)=true:=by
 have:=PyProof.Rows.signs_ofString s;unfold PyData.strOk;rw[<-all_toList,this,aaQ];intro c hc;obtain⟨d,_,rfl⟩:=mem_map.mp hc;have:=d.valid;simp only[decide_eq_true_eq];show d.val.toNat<1114112;unfold UInt32.isValidChar Nat.isValidChar at this;omega
theorem Fz{i:Int}{k:Nat}(hk:1<=k)(h0:0<=i)(h1:i<10 ^ k):(nh i).length<=k:=by
 obtain⟨m,rfl⟩:=Int.eq_ofNat_of_zero_le h0;have e:=PySem.W.KIN.signs_num m;have:(nh m).length=(Nat.toDigits 10 m).length:=by show (Str.ofString (toString ((m:Nat):Int))).cps.size=_;rw[<-aaI,e,aaf]
 rw[this];refine PyProof.Rows.digits10_le hk ?_;have:((10 ^ k:Nat):Int)=10 ^ k:=by simp
 omega
theorem vn{n:Nat}(e:PyData.strOk x=true):toD (n+1) h (.str x)=some (.str x):=aan e
theorem vo{α:Type}{n:Nat}(f:α -> Val)(g:α -> PyData)(xs:List α)(e:∀x∈xs,toD n h (f x)=some (g x)):toD (n+1) h (.rl (xs.map f))=some (.list (xs.map g)):=by
 show (cg (toD n h) _).bind _=_;rw[fX xs e];rfl
theorem Kn{α:Type}{n:Nat}(f:α -> Val)(g:α -> PyData)(xs:List α)(e:∀x∈xs,toD n h (f x)=some (g x)):toD (n+1) h (.tup (xs.map f))=some (.tuple (xs.map g)):=by
 show (cg (toD n h) _).bind _=_;rw[fX xs e];rfl
theorem xP{n:Nat}(ks:List Int):toD (n+2) h (gx ks)=some (.tuple (ks.map .int)):=Kn _ _ ks λ_ _=>rfl
theorem jz{α:Type}(g:α -> PyData):∀(xs:List α),(∀x∈xs,(g x).canLay0=true)->PyData.canLayAll0 (xs.map g)=true
 |[],_=>by simp[PyData.canLayAll0]
 | x::r,h=>by
  rw[aar,PyData.canLayAll0,h x aah,jz g r λy hy=>h y (aae _ hy)];rfl
theorem iV{α:Type}(enc:α -> Val)(Q:List α -> bh->Prop):∀(us done:List α) (env:bh),Q done env->(∀(pre:List α) (u:α) (post:List α) (env:bh),done++us=pre++u::post->Q pre env->∃env',body (enc u) env=.ok (.nx env')/\Q (pre++[u]) env')->∃env',iR body (us.map enc) env=.ok (.nx env')/\Q (done++us) env'
 |[],done,env,q,_=>⟨env,rfl,by rw[aaP];exact q⟩
 | x::xs,done,env,q,h=>by
  obtain⟨env',e,q'⟩:=h done x xs env rfl q;have eq:done++x::xs=done++[x]++xs:=by simp
  obtain⟨iK,e2,q2⟩:=iV enc Q xs (done++[x]) env' q' (by rw[<-eq];exact h);refine⟨iK,?_,by rw[eq];exact q2⟩;rw[aar,iR,e,aR];exact e2
theorem oE{α:Type}(enc:α -> Val){us:List α}{yH:bh}{β:Type}{k:JS->Pr β}(G:Pr β -> Prop)(Q:List α -> bh->Prop)(h0:Q [] yH)
  (step:∀(pre:List α) (u:α) (post:List α) (env:bh),us=pre++u::post->Q pre env->∃env',body (enc u) env=.ok (.nx env')/\Q (pre++[u]) env')
  (post:∀env',Q us env'->G (k (.nx env'))):G (pb (iR body (us.map enc) yH) k):=by
 obtain⟨env',e,q⟩:=iV enc Q us [] yH h0 (λpre x post env ep q=>step pre x post env ep q);rw[e,aR];exact post env' q
abbrev nj(xs:List Int)(g:Int->Val):Val:=.dc (xs.map Sum.inl) (xs.map g)
def vp(g:Int->Val)(x:Int)(v:Val):Int->Val:=λy=>if y=x then v else g y
theorem FA(xs:List Int)(g:Int->Val):(xs.map (Sum.inl:Int->Key)).zip (xs.map g)=xs.map λx=>((Sum.inl x:Key),g x):=by
 induction xs with
 |nil=>rfl
 |cons x r ih=>simp only[map_cons,List.zip_cons_cons,ih]
theorem LN{xs:List Int}{x:Int}:cop [] .pN (.int x) (nj xs g)=some (decide (x∈xs)):=by
 show some ((xs.map (Sum.inl:Int->Key)).any λj=>decide (j=Sum.inl x))=_
 congr 1
 induction xs with
 |nil=>rfl
 |cons y r ih=>
  rw[aar,any_cons,ih]
  by_cases e:y=x
  ·subst e;simp
  ·have e':¬ x=y:=λh=>e h.symm;simp[e,e']
theorem FD(xs:List Int)(g:Int->Val)(x:Int):((xs.map λx=>((Sum.inl x:Key),g x)).any λkv=>decide (kv.1=Sum.inl x))=decide (x∈xs):=by
 induction xs with
 |nil=>rfl
 |cons y r ih=>
  rw[aar,any_cons,ih]
  by_cases e:y=x
  ·subst e;simp
  ·have e':¬ x=y:=λh=>e h.symm;simp[e,e']
theorem Ko{xs:List Int}{x:Int}(h:x∈xs):putD (xs.map Sum.inl) (xs.map g) (.inl x) v=nj xs (vp g x v):=by
 unfold putD fM;rw[FA,FD,aan (by simpa using h)];unfold nj;rw[map_map,map_map]
 congr 1
 ·refine map_congr_left λy _=>?_
  show ((if (Sum.inl y:Key)=Sum.inl x then ((Sum.inl y:Key),v) else (Sum.inl y,g y)).1)=_
  split<;>rfl
 ·rw[map_map,map_map]
  refine map_congr_left λy _=>?_;show ((if (Sum.inl y:Key)=Sum.inl x then ((Sum.inl y:Key),v) else (Sum.inl y,g y)).2)=_;unfold vp
  by_cases e:y=x
  ·rw[aan (by rw[e]),aan e]
  ·rw[aaj (by simpa using e),aaj e]
theorem Bh{xs:List Int}{x:Int}(h:x∉xs):putD (xs.map Sum.inl) (xs.map g) (.inl x) v=nj (xs++[x]) (vp g x v):=by
 unfold putD fM;rw[FA,FD,aaj (by simpa using h)];unfold nj;simp only[map_append,map_map,map_cons,map_nil]
 congr 1
 congr 1
 ·refine map_congr_left λy hy=>?_;show g y=vp g x v y;unfold vp;rw[aaj (λe:y=x=>h (e▸hy))]
 ·simp[vp]
theorem oF{xs:List Int}(h:∀x∈xs,g x=g' x):nj xs g=nj xs g':=by
 unfold nj;rw[map_congr_left h]
theorem Th{x:Int}:keyOf (.int x)=some (.inl x):=rfl
theorem Kp(a b:Int):PyData.eqv (.int a) (.int b)=decide (a=b):=by
 show (a==b)=_
 by_cases h:a=b<;>simp[h]
theorem Ti{xs:List Int}{x:Int}:cop [] .pN (.int x) (.rl (xs.map .int))=some (decide (x∈xs)):=by
 show (toD 16 [] (.rl (xs.map .int))).bind _=_;rw[vo Val.int PyData.int xs λ_ _=>rfl];show some ((xs.map PyData.int).any λy=>PyData.eqv y (.int x))=_
 congr 1
 induction xs with
 |nil=>rfl
 |cons y r ih=>
  rw[aar,any_cons,ih,Kp]
  by_cases e:y=x
  ·subst e;simp
  ·have e':¬ x=y:=λh=>e h.symm;simp[e,e']
theorem xQ(x:Int):∀(ns ks:List Int),x∈bD ks ns↔x∈ks\/x∈ns
 |[],ks=>by simp[bD]
 | k::r,ks=>by
  rw[bD,xQ x r,jQ]
  split
  ·rename_i h
   constructor
   ·rintro(h'|h')
    ·exact .inl h'
    ·exact .inr (aae _ h')
   ·rintro(h'|h')
    ·exact .inl h'
    ·rcases aau.mp h' with h'|h'
     ·exact .inl (h'▸h)
     ·exact .inr h'
  ·simp[or_assoc]
theorem l7:∀(ns ks:List Int),ks.Nodup->(bD ks ns).Nodup
 |[],ks,h=>h
 | k::r,ks,h=>by
  rw[bD];refine l7 r _ ?_;rw[jQ]
  split
  ·exact h
  ·rename_i hk;rw[nodup_append];exact⟨h,by simp,λa ha b hb=>by simp at hb;subst hb;exact λe=>hk (e▸ha)⟩
def jD(ns:List Int):List Int:=sortI (bD [] ns)
theorem xR(x:Int)(ns:List Int):x∈jD ns↔x∈ns:=by
 unfold jD;rw[(sortI_perm _).mem_iff,xQ];simp
theorem zE(ns:List Int):(jD ns).Nodup:=by
 unfold jD;rw[(sortI_perm _).nodup_iff];exact l7 ns [] nodup_nil
abbrev T3:=Int×Int×Int
def l3(t:T3):List Int:=[t.1,t.2.1,t.2.2]
def aM(t:T3):Val:=.tup [.int t.1,.int t.2.1,.int t.2.2]
def CK(x:T3):List T3->List T3
 |[]=>[x]
 |y::r=>if HT.lexLt (l3 y) (l3 x)=true then y::CK x r else x::y::r
def gO:List T3->List T3
 |[]=>[]
 |x::r=>CK x (gO r)
theorem xS(x:T3):∀l:List T3,uQ (l3 x) (l.map l3)=(CK x l).map l3
 |[]=>rfl
 | y::r=>by
  rw[aar,uQ,CK]
  split
  ·rw[aar,xS x r]
  ·rfl
theorem tY:∀l:List T3,mR (l.map l3)=(gO l).map l3
 |[]=>rfl
 |x::r=>by rw[aar,mR,tY r,xS];rfl
theorem tZ(x:T3):∀l:List T3,(CK x l).Perm (x::l)
 |[]=>.refl _
 | y::r=>by
  rw[CK]
  split
  ·exact((tZ x r).cons y).trans (List.Perm.swap ..)
  ·exact .refl _
theorem gP:∀l:List T3,(gO l).Perm l
 |[]=>.refl _
 |x::r=>(tZ x _).trans ((gP r).cons x)
theorem Kq(ts:List T3)(hl:ts.length<64):gJ (ts.map aM)=some ((gO ts).map aM):=by
 have e:∀us:List T3,us.map aM=(us.map l3).map gx:=λus=>by rw[map_map];rfl
 rw[e,zB _ (λk hk=>by obtain⟨t,_,rfl⟩:=mem_map.mp hk;simp[l3]) (by rw[aaf];exact hl),tY,e]
theorem xT(hl:ts.length<64):fy .sorted [.rl (ts.map aM)]=.ok (true,.rl ((gO ts).map aM)):=by
 show pb (pl (gJ _)) _=_;rw[Kq ts hl];rfl
def turnT(t:T3):T3:=(t.1,if t.2.2<t.2.1 then t.2.2 else t.2.1,if t.2.2>t.2.1 then t.2.2 else t.2.1)
def iL(p q:Int)(ts:List T3):Val:=.tup [.tup [.int p,.int q],.rl (ts.map aM)]
theorem Kr(p q:Int)(ts:List T3):cop [] .ne (iL p q ts) (iL p q ts)=some false:=by
 have h1:toD 15 [] (.tup [.int p,.int q])=some (.tuple [.int p,.int q]):=rfl;have h2:toD 15 [] (.rl (ts.map aM))=some (.list (ts.map λt=>.tuple ((l3 t).map .int))):=vo aM _ ts λt _=>xP (l3 t);have h:toD 16 [] (iL p q ts)=some (.tuple [.tuple [.int p,.int q],.list (ts.map λt=>.tuple ((l3 t).map .int))]):=by show (cg (toD 15 []) _).bind _=_;rw[cg,h1,cg,h2,cg];rfl
 refine ne_self h ?_;have hi:∀xs:List Int,PyData.canLayAll0 (xs.map PyData.int)=true:=λxs=>jz _ _ λ_ _=>by rw[PyData.canLay0]
 have h3:PyData.canLayAll0 (ts.map λt=>.tuple ((l3 t).map .int))=true:=jz _ _ λt _=>by rw[PyData.canLay0];exact hi _
 have h4:=hi [p,q];simp only[map_cons,map_nil]at h4;rw[PyData.canLay0,PyData.canLayAll0,PyData.canLay0,h4,PyData.canLayAll0,PyData.canLay0,h3,PyData.canLayAll0];rfl
theorem vq{i j k:Nat}:bE (.tup [i,j,k]) (aM t) env=some (((env.set i (some (.sh,.int t.1))).set j (some (.sh,.int t.2.1))).set k (some (.sh,.int t.2.2))):=rfl
theorem CL{α:Type}(ds:List α)(lo:Int)(n:Nat)(h:0<=lo):(cV ds (some lo) (some (lo+n))).length<=n:=by
 unfold cV HT.eG;dsimp only;rw[aaj (by omega),aaj (by omega)];simp only[length_take,length_drop];omega
theorem Pa:rZ (aM t) (some 1) none=.ok (true,.tup [.int t.2.1,.int t.2.2]):=rfl
theorem qX{α:Type}(enc:α -> Val)(g:α -> FV):∀(us:List α),(∀u∈us,f (enc u)=.ok (some (g u)))->cX f (us.map enc)=.ok (us.all λu=>(g u).1,us.map λu=>(g u).2)
 |[],_=>rfl
 | x::xs,h=>by
  rw[aar,cX,h x aah,aR,qX enc g xs λy hy=>h y (aae _ hy),aR];rfl
theorem bL{α:Type}(enc dec:α -> Val)(us:List α)(h:∀u∈us,f (enc u)=.ok (some (true,dec u))):cX f (us.map enc)=.ok (true,us.map dec):=by
 rw[qX enc (λu=>(true,dec u)) us h];simp
end Hv
end
section
namespace Hv
open PySem L2 PyProof.Rows
def Ks(b:List Stmt)(g:Str):Prop:=∃p1 p2 p3 p4,b=[.Assign [.Attribute (.Name "self" p1) g p2] (.Name g p3) p4]
section
variable {P:Program} {w:World} {K:Frag} {cl:Nat->Addr} {mg:Str->Option Value} {base:Heap} {k:Nat} {fs:List Row} {cons:List (Str×Val)} {tb:Tb}
theorem zF{x qual g:Str}{st:Stmt}{f:Addr}{fd:FuncData}(F:Ht K x qual st f fd)(hS:aQ ["self",g] ["self",g] (ai st)=true)(hg:g ≠ "self")(hb:Ks (az st) g)(hd:(g==("__debug__":Str))=false)(hcd:(g==("__classdict__":Str))=false):fK P w K mg base Hr (k+1) f fd ["self",g] (Ag K g):=by
 have S:=qQ hS;obtain⟨p1,p2,p3,p4,hb⟩:=hb;refine F.ok S (λvs H Q E h=>?_) (λcdv A' outer s H vs Q E hr h=>?_)
 ·obtain⟨e,y,C,D,t,cd,rfl,_⟩:=h;rfl
 ·rw[hb]
  refine⟨_,uq (MY (nN (i:=0) rfl ?_ (by decide) (by decide)) (nN (i:=1) rfl ?_ hd hcd) rfl),?_⟩
  ·rcases S.par "self" (by simp) with z|z
   ·exact .inl z
   ·exact .inr (.inl z)
  ·rcases S.par g (by simp) with z|z
   ·exact .inl z
   ·exact .inr (.inl z)
  ·obtain⟨e,y,C,D,t,cd,rfl,he,c,n,q⟩:=h;exact⟨y,rfl,.ref e,rfl,e,C,D,t,cd,rfl,he,c,n,q⟩
end
def CO(mg:Str->Option Value):List Str->List Addr->Prop
 |[],cs=>cs=[]
 |x::xs,cs=>∃c r,cs=c::r/\mg x=some (.ref c)/\CO mg xs r
theorem FF:bootBuiltins "isinstance" = some (.builtin "isinstance"):=by decide +kernel
theorem Pb{K:Frag}{H:Hp}{x:V}{C p:Addr}{o:HO}(t:M4 K H x C)(hp:H p=none):M4 K (upd H p o) x C:=by
 obtain⟨a,dx,rfl,⟨φ,ea,hx⟩,hd,G⟩:=t;refine⟨a,dx,rfl,⟨φ,by rw[ao (aE ea hp)];exact ea,hx⟩,?_,G⟩;cases dx with
 |none=>trivial
 |some d=>obtain⟨fs,hd⟩:=hd;exact⟨fs,by rw[ao (aE hd hp)];exact hd⟩
abbrev Ku:List Str:=["_law_rows","_law_word","_law_what","_law_plain","e"]
def UM(x:Str)(e:Expr):Prop:=∃p1 p2 p3 p4,e=.Call (.Name "isinstance" p1) [.Name "e" p2,.Name x p3] [] p4
abbrev Pc:List Str:=["isinstance","NetError","BadRow","Twice","TooMany","NoNumber","read"]
def WD:List Str->List Expr->Prop
 |[],es=>es=[]
 |x::xs,es=>∃p r,es=.Name x p::r/\WD xs r
def XR(b:List Stmt)(xs:List Str):Prop:=∃(es:List Expr) (e1:Expr) (a0 a5 a6 a9 b0 b1 b2 b3:Pos) (k:Nat),b =
 [.Assign [.Name "_law_plain" a0] (.BoolOp .And [e1,.UnaryOp .Not (.Call (.Name "isinstance" a9) [.Name "e" b0,.Tuple es k b1] [] b2) b3] a5) a6]/\UM "NetError" e1/\WD xs es
def XS(b:List Stmt):Prop:=∃(e1 e2:Expr) (a0 a5 a6 b3:Pos),b=[.Assign [.Name "_law_plain" a0] (.BoolOp .And [e1,.UnaryOp .Not e2 b3] a5) a6]/\UM "NetError" e1/\UM "NoNumber" e2
def WE(b:List Stmt)(W g:Str)(xs:List Str):Prop:=∃(r:List Stmt) (a0 a1 a2 a3 a4 a5 a6:Pos) (k:Nat),b=.Assign [.Name "_law_word" a0] (.Constant (.str W) k a1) a2::.Assign [.Name "_law_what" a3] (.Attribute (.Name "e" a4) g a5) a6::r/\XR r xs
def XT(b:List Stmt)(W:Str):Prop:=∃(r:List Stmt) (a0 a1 a2:Pos) (k:Nat),b=.Assign [.Name "_law_word" a0] (.Constant (.str W) k a1) a2::r/\XS r
structure kX (X:Cx):Prop where
 N:X.N=Ku
 l:∀x∈Ku,X.env.scope.names.lookup x=some .local
 gl:∀x∈Pc,X.env.scope.names.lookup x=some .globalImplicit
 mi:X.mg "isinstance" = none
section
variable {X:Cx}
def WG(K:Frag)(cv:Value):TE:=λσ H Q=>∃x C b,σ[4]?=some (some x)/\M4 K H x C/\kitOne K (.ref C) cv=some b/\Q (.bl b) H
theorem kX.nd(k:kX X):X.N.Nodup:=by rw[k.N];decide
theorem kX.nm(k:kX X){i:Nat}(e:Ku[i]?=some x):X.N[i]?=some x:=by rw[k.N];exact e
theorem kX.ev(k:kX X)(p:Pos):PE X (.Name "e" p) (Mc 4):=nN (k.nm rfl) (.inl (k.l _ (by simp))) (by decide) (by decide)
theorem kX.st(k:kX X){i:Nat}(e:Ku[i]?=some x)(p:Pos):PG X (.Name x p) (oN i):=mz (pos:=p) k.nd (k.nm e) (.inl (k.l _ (aaA e))) (.inr (k.l _ (aaA e)))
theorem zG(k:kX X)(hI:UM x e)(hx:x∈Pc)(hd:(x==("__debug__":Str))=false)(hm:X.mg x=some (.ref c)):PE X e (WG X.K (.ref c)):=by
 obtain⟨p1,p2,p3,p4,rfl⟩:=hI;refine(eT (pos:=p4) (p:=p1) Eg (k.gl _ (by simp)) k.mi FF (eO (k.ev p2) (eO (um (pos:=p3) (v:=.ref c) (k.gl _ hx) hm rfl hd) jL (aK rfl)) (aK rfl)) (by decide) (by decide) (aK rfl) (by rw[aK rfl];rfl)).imp λσ H Q q=>?_;obtain⟨y,C,b,e0,ty,kt,q⟩:=q;exact⟨y,e0,y,.ref c,.ref c,C,b,rfl,λu z=>z,ty,kt,q⟩
theorem FG(k:kX X):∀{xs:List Str} {es:List Expr} {cs:List Addr},WD xs es->CO X.mg xs cs->(∀x∈xs,x∈Pc)->(∀x∈xs,(x==("__debug__":Str))=false)->PA X es (λσ H Q=>Q (cs.map V.ref) H)
 | [],es,cs,h,hc,_,_=>by
  obtain rfl:es=[]:=h;obtain rfl:cs=[]:=hc;exact jL
 | x::xs,es,cs,h,hc,hx,hd=>by
  obtain⟨p,r,rfl,h⟩:=h;obtain⟨c,cr,rfl,hm,hc⟩:=hc;exact eO (um (pos:=p) (v:=.ref c) (k.gl _ (hx x aah)) hm rfl (hd x aah)) (FG k h hc (λy hy=>hx y (aae _ hy)) λy hy=>hd y (aae _ hy)) (aK rfl)
def ZH(K:Frag)(D:Addr)(cs:List Addr):TS:=λEn σ H=>∃C x,σ[4]?=some (some x)/\M4 K H x C/\kitOne K (.ref C) (.ref D)=some true/\kitAny K (.ref C) (cs.map .ref)=some false/\∀p,H p=none->En.nx (σ.set 3 (some (.bl true))) (upd H p (.tup (cs.map V.ref)))
theorem Tj(k:kX X)(hb:XR b xs)(hc:CO X.mg xs cs)(hx:∀x∈xs,x∈Pc)(hd:∀x∈xs,(x==("__debug__":Str))=false)(hD:X.mg "NetError" = some (.ref D))(hl:cs.length<=20):nM X b (ZH X.K D cs):=by
 obtain⟨es,e1,a0,a5,a6,a9,b0,b1,b2,b3,kk,rfl,i1,i2⟩:=hb;have S1:=iC (pos:=a6) (yv (pos:=a5) (zG k i1 (by simp) (by decide) hD) (uo (yw (pos:=b3) (eT (pos:=b2) (p:=a9) Eh (k.gl _ (by simp)) k.mi FF (eO (k.ev b0) (eO (Dv (pos:=b1) (x1:=kk) (FG k i2 hc hx hd)) jL (aK rfl)) (aK rfl)) (by decide) (by decide) (aK rfl) (by rw[aK rfl];rfl))))) (k.st (i:=3) rfl a0) rfl rfl rfl;refine nM.imp (uq S1) λEn σ H q=>?_;obtain⟨C,x,e4,ty,k1,k3,q⟩:=q;have big:(100:Nat)<=sizeLine:=by decide
 refine⟨x,C,true,e4,ty,k1,true,rfl,?_⟩;rw[aan rfl];refine⟨_,e4,⟨by rw[aaf];omega,λp hp=>?_⟩⟩;exact⟨x,p,cs,C,false,rfl,aD,Pb ty hp,k3,false,rfl,q p hp⟩
theorem Pd(k:kX X)(hb:XS b)(hD:X.mg "NetError" = some (.ref D))(hN:X.mg "NoNumber" = some (.ref N)):nM X b (λEn σ H=>∃C x,σ[4]?=some (some x)/\M4 X.K H x C/\kitOne X.K (.ref C) (.ref D)=some true/\kitOne X.K (.ref C) (.ref N)=some false/\En.nx (σ.set 3 (some (.bl true))) H):=by
 obtain⟨e1,e2,a0,a5,a6,b3,rfl,i1,i2⟩:=hb;have S1:=iC (pos:=a6) (yv (pos:=a5) (zG k i1 (by simp) (by decide) hD) (uo (yw (pos:=b3) (zG k i2 (by simp) (by decide) hN)))) (k.st (i:=3) rfl a0) rfl rfl rfl;refine nM.imp (uq S1) λEn σ H q=>?_;obtain⟨C,x,e4,ty,k1,k3,q⟩:=q;refine⟨x,C,true,e4,ty,k1,true,rfl,?_⟩;rw[aan rfl];exact⟨x,C,false,e4,ty,k3,false,rfl,q⟩
def uA(K:Frag)(W g:Str)(D:Addr)(cs:List Addr):TS:=λEn σ H=>∃a C dx v,σ.length=5 /\ σ[4]?=some (some (.ref a))/\Lo H a C (some dx)/\H dx=some (.xd [(g,v)])/\lO K C/\findIn K (.ref C) g=some none/\kitOne K (.ref C) (.ref D)=some true/\kitAny K (.ref C) (cs.map .ref)=some false /\
 ∀p,H p=none->En.nx (((σ.set 1 (some (.str W))).set 2 (some v)).set 3 (some (.bl true))) (upd H p (.tup (cs.map V.ref)))
def uB(K:Frag)(W:Str)(D N:Addr):TS:=λEn σ H=>∃a C dx,σ.length=5 /\ σ[4]?=some (some (.ref a))/\Lo H a C dx/\V9 H dx/\lO K C/\kitOne K (.ref C) (.ref D)=some true/\kitOne K (.ref C) (.ref N)=some false /\
 En.nx ((σ.set 1 (some (.str W))).set 3 (some (.bl true))) H
theorem FH(k:kX X)(hb:WE b W g xs)(hc:CO X.mg xs cs)(hx:∀x∈xs,x∈Pc)(hd:∀x∈xs,(x==("__debug__":Str))=false)(hD:X.mg "NetError" = some (.ref D))(hl:cs.length<=20):nM X b (uA X.K W g D cs):=by
 obtain⟨r,a0,a1,a2,a3,a4,a5,a6,kk,rfl,hp⟩:=hb;have S1:=iC (pos:=a2) (pZ (X:=X) (x:=W) (j:=kk) (pos:=a1)) (k.st (i:=1) rfl a0) rfl rfl rfl;have S2:=iC (pos:=a6) (pe_xf (f:=g) (pos:=a5) (k.ev a4) rfl) (k.st (i:=2) rfl a3) rfl rfl rfl;refine nM.imp (fR S1 (fR S2 (Tj k hp hc hx hd hD hl))) λEn σ H q=>?_;obtain⟨a,C,dx,v,l5,e4,ob,ed,G,hn,k1,k3,q⟩:=q;have XU:(σ.set 1 (some (.str W)))[4]?=some (some (.ref a)):=by rw[aak (by decide)];exact e4
 refine⟨_,XU,a,C,dx,[(g,v)],v,rfl,ob,ed,G,hn,by simp,?_⟩;exact⟨C,.ref a,by rw[aak (by decide)];exact XU,⟨a,some dx,rfl,ob,⟨_,ed⟩,G⟩,k1,k3,q⟩
theorem Pe(k:kX X)(hb:XT b W)(hD:X.mg "NetError" = some (.ref D))(hN:X.mg "NoNumber" = some (.ref N)):nM X b (uB X.K W D N):=by
 obtain⟨r,a0,a1,a2,kk,rfl,hp⟩:=hb;have S1:=iC (pos:=a2) (pZ (X:=X) (x:=W) (j:=kk) (pos:=a1)) (k.st (i:=1) rfl a0) rfl rfl rfl;refine nM.imp (fR S1 (Pd k hp hD hN)) λEn σ H q=>?_;obtain⟨a,C,dx,l5,e4,ob,xd,G,k1,k3,q⟩:=q;exact⟨C,.ref a,by rw[aak (by decide)];exact e4,⟨a,dx,rfl,ob,xd,G⟩,k1,k3,q⟩
end
abbrev XW:List Str:=["Twice","TooMany","NoNumber"]
abbrev XX:List Str:=["TooMany","NoNumber"]
def Pf(b:List Stmt)(post:List Stmt):Prop:=∃(u1 u2 u3:List Stmt) (v1 v2 v3:Stmt) (a0 a1 a2 a3 a4 a5 a6 a7 a8 a9 b0 b2 b3 c1 c2 c3 d1 d2 d3 e0:Pos) (k0 k1 k2:Nat),b =
 .Assign [.Name "_law_word" a0] (.Constant (.str "none") k0 a1) a2::.Assign [.Name "_law_what" a3] (.Constant (.int 0) k1 a4) a5::.Assign [.Name "_law_plain" a6] (.Constant (.bool true) k2 a7) a8 ::
   .Try [.Expr (.Call (.Name "read" a9) [.Name "_law_rows" b0] [] b2) b3]
  [.ExceptHandler (some (.Name "BadRow" c1)) (some "e") (v1::u1) d1,.ExceptHandler (some (.Name "Twice" c2)) (some "e") (v2::u2) d2,.ExceptHandler (some (.Name "TooMany" c3)) (some "e") (v3::u3) d3] [] [] e0::post /\
 WE (v1::u1) "row" "row" XW/\WE (v2::u2) "twice" "tie" XX/\XT (v3::u3) "many"
structure Pg (K:Frag) (mg:Str->Option Value) (CN CT CM D N:Addr) (csN yt:List Addr):Prop where
 gN:lO K CN
 gT:lO K CT
 gM:lO K CM
 mN:mg "BadRow" = some (.ref CN)
 mT:mg "Twice" = some (.ref CT)
 mM:mg "TooMany" = some (.ref CM)
 mD:mg "NetError" = some (.ref D)
 mO:mg "NoNumber" = some (.ref N)
 fN:findIn K (.ref CN) "row" = some none
 fT:findIn K (.ref CT) "tie" = some none
 cN:CO mg XW csN
 cT:CO mg XX yt
 lN:csN.length<=20
 lT:yt.length<=20
 kN:kitOne K (.ref CN) (.ref D)=some true/\kitAny K (.ref CN) (csN.map .ref)=some false
 kT:kitOne K (.ref CT) (.ref D)=some true/\kitAny K (.ref CT) (yt.map .ref)=some false
 kM:kitOne K (.ref CM) (.ref D)=some true/\kitOne K (.ref CM) (.ref N)=some false
 ZI:lM K CN CN true
 ZJ:lM K CT CN false
 ZK:lM K CT CT true
 ZL:lM K CM CN false
 ZM:lM K CM CT false
 ZN:lM K CM CM true
 n1:CT≠CN
 n2:CM≠CN
 n3:CM≠CT
def wM(K:Frag)(CN CT CM D N:Addr)(csN yt:List Addr)(C:Addr):Ends->L2.St->Addr->Hp->Prop :=
 if C=CN then Cg 4 (uA K "row" "row" D csN) else if C=CT then Cg 4 (uA K "twice" "tie" D yt) else if C=CM then Cg 4 (uB K "many" D N) else λ_ _ _ _=>False
theorem Ph{X:Cx}{CN CT CM D N fE:Addr}{csN yt:List Addr}{Tn:FuncData}{To:List Str}{sp:Sp}{tP:TS}{k:Nat}{b post:List Stmt}(m:kX X)(hst:X.stack=X.env::X.outer)(hfm:X.env.frame=some X.env.locals)
  (hb:Pf b post) (hp:nM X post tP) (Kx:Pg X.K X.mg CN CT CM D N csN yt) (FE:fK X.prog X.w X.K X.mg X.base (jr X.prog X.w) k fE Tn To sp) (hr:eN k X.A) (WH:Binds X.K Tn To []) (WI:X.mg "read" = some (.ref fE)) (WJ:keepIn X.K (.ref fE)=true) :
  ∃t,nM X b t/\∀(En:Ends) (H:Hp) (x0:V),sp [x0] H (λ_ H2=>tP En [some x0,some (.str "none"),some (.int 0),some (.bl true),none] H2)
   (λc d H'=>∃C,c=.ref C/\∀a T,H' a=none->H' T=none->T≠a->wM X.K CN CT CM D N csN yt C { En with nx:=tP En } [some x0,some (.str "none"),some (.int 0),some (.bl true),none] a (oS H' a C T d))->t En [some x0,none,none,none,none] H:=by
 obtain⟨u1,u2,u3,v1,v2,v3,a0,a1,a2,a3,a4,a5,a6,a7,a8,a9,b0,b2,b3,c1,c2,c3,d1,d2,d3,e0,k0,k1,k2,rfl,s1,s2,s3⟩:=hb;have hm:∀a,kX (X.held (.ref a)).HK:=λa=>⟨m.N,m.l,m.gl,m.mi⟩;have P1:=iC (pos:=a2) (pZ (X:=X) (x:="none") (j:=k0) (pos:=a1)) (m.st (i:=1) rfl a0) rfl rfl rfl;have P2:=iC (pos:=a5) (Df (X:=X) (i:=0) (j:=k1) (pos:=a4)) (m.st (i:=2) rfl a3) rfl rfl rfl;have P3:=iC (pos:=a8) (zY (X:=X) (b:=true) (j:=k2) (pos:=a7)) (m.st (i:=3) rfl a6) rfl rfl rfl;have ha:PA X.HK [.Name "_law_rows" b0] _:=eO (nN (X:=X.HK) (m.nm (i:=0) rfl) (.inl (m.l _ (by simp))) (by decide) (by decide)) jL (aK rfl);have l5:=m.l ("e":Str) (by simp);have n5:X.N[4]?=some ("e":Str):=m.nm rfl;have hh:∀C,RD X C [.ExceptHandler (some (.Name "BadRow" c1)) (some "e") (v1::u1) d1,.ExceptHandler (some (.Name "Twice" c2)) (some "e") (v2::u2) d2,.ExceptHandler (some (.Name "TooMany" c3)) (some "e") (v3::u3) d3] (wM X.K CN CT CM D N csN yt C):=λC=>by
  unfold wM
  by_cases e1:C=CN
  ·rw[aan e1];subst e1;exact zc (m.gl _ (by simp)) Kx.mN (by decide) Kx.ZI m.nd n5 l5 λa=>FH (hm a) s1 Kx.cN (by decide) (by decide) Kx.mD Kx.lN
  rw[aaj e1]
  by_cases e2:C=CT
  ·rw[aan e2];subst e2;exact uP (m.gl _ (by simp)) Kx.mN (by decide) Kx.ZJ (zc (m.gl _ (by simp)) Kx.mT (by decide) Kx.ZK m.nd n5 l5 λa=>FH (hm a) s2 Kx.cT (by decide) (by decide) Kx.mD Kx.lT)
  rw[aaj e2]
  by_cases e3:C=CM
  ·rw[aan e3];subst e3;exact uP (m.gl _ (by simp)) Kx.mN (by decide) Kx.ZL (uP (m.gl _ (by simp)) Kx.mT (by decide) Kx.ZM (zc (m.gl _ (by simp)) Kx.mM (by decide) Kx.ZN m.nd n5 l5 λa=>Pe (hm a) s3 Kx.mD Kx.mO))
  rw[aaj e3];exact λpins s σ H a T dx D I ne q=>False.elim q
 have P4:=M3 (X:=X) (p:=a9) (cpos:=b2) (epos:=b3) (pos:=e0) hst hfm FE hr (m.gl _ (by simp)) WI WJ WH ha (by decide) (aK rfl) rfl (jY rfl) hh;exact⟨_,fR P1 (fR P2 (fR P3 (fR P4 hp))),λEn H x0 h=>⟨x0,rfl,h⟩⟩
def vt(jN jT jM c:Nat):List Val->Option Val
 |[.str g,.int i]=>if c=jN/\g = "row" then some (.tup [.str "row",.int i]) else if c=jT/\g = "tie" then some (.tup [.str "twice",.int i]) else none
 |[]=>if c=jM then some (.tup [.str "many",.int 0]) else none
 |_=>none
theorem FI{jN jT jM c:Nat}(h:vt jN jT jM c vs=some v):(∃i,c=jN/\vs=[.str "row",.int i]/\v=.tup [.str "row",.int i])\/(∃i,c=jT/\vs=[.str "tie",.int i]/\v=.tup [.str "twice",.int i])\/(c=jM/\vs=[]/\v=.tup [.str "many",.int 0]):=by
 unfold vt at h;split at h
 ·rename_i g i
  split at h
  ·rename_i q;cases h;exact .inl ⟨i,q.1,by rw[q.2],rfl⟩
  ·split at h
   ·rename_i q;cases h;exact .inr (.inl ⟨i,q.1,by rw[q.2],rfl⟩)
   ·cases h
 ·split at h
  ·rename_i q;cases h;exact .inr (.inr ⟨q,rfl,rfl⟩)
  ·cases h
 ·cases h
def FJ(jN jT jM:Nat):Out Val->Out Val
 |.ok _ h'=>.ok (.tup [.str "none",.int 0]) h'
 |.exc c vs h'=>(match vt jN jT jM c vs with|some v=>.ok v h'|none=>.no)
 |.no=>.no
def Pj(φ:List Val->M Val)(jN jT jM:Nat):List Val->M Val
 |[v0]=>λh=>FJ jN jT jM (φ [v0] h)
 |_=>λ_=>.no
theorem two{α:Type}{l:List α}(h:l.length=2):∃a b,l=[a,b]:=by
 match l,h with
 |[a,b],_=>exact⟨a,b,rfl⟩
theorem Tp(h1:H a=none)(h2:H T=none)(ne:T≠a):Gr ρ H ρ (oS H a C T dx):=by
 unfold oS;exact(Gr.side h1).trans (Gr.side (by rw[ao ne];exact h2))
theorem Tq(r:HR B ρ h H)(h1:H a=none)(h2:H T=none)(ne:T≠a):HR B ρ h (oS H a C T dx):=by
 unfold oS;exact(r.side h1).side (by rw[ao ne];exact h2)
section
variable {P:Program} {w:World} {K:Frag} {cl:Nat->Addr} {mg:Str->Option Value} {base:Heap} {k:Nat} {fs:List Row} {cons:List (Str×Val)} {tb:Tb}
theorem Pk{x qual:Str}{st:Stmt}{post:List Stmt}{f fE D Nn:Addr}{csN yt:List Addr}{fd Tn:FuncData}{To:List Str}{jN jT jM:Nat}{φ:List Val->M Val}{Tr:dY}(T:Base K cl mg cons tb)(A:cj P w ⟨K,cl⟩ mg base k fs)(F:Ht K x qual st f fd)
  (hS:aQ Ku ["_law_rows"] (ai st)=true) (hb:Pf (az st) post) (hc:bz ⟨Ku,ai st,fs.map (λr=>(r.1,r.2.1)),cons,tb⟩ Tr post=true)
  (hR:∀v0 W i h,gX (look fs) Tr [some v0,some (.str W),some (.int i),some (.bl true),none] h=.ok (.rt (.tup [.str W,.int i])) h)
  (hl:∀x∈Ku,(ai st).names.lookup x=some .local) (ZO:∀x∈Pc,(ai st).names.lookup x=some .globalImplicit) (mi:mg "isinstance" = none)
  (Kx:Pg K mg (cl (1000+jN)) (cl (1000+jT)) (cl (1000+jM)) D Nn csN yt) (FE:fK P w K mg base (jr P w) (k+1) fE Tn To (Cw ⟨K,cl⟩ 1 φ)) (WH:Binds K Tn To []) (WI:mg "read" = some (.ref fE)) (WJ:keepIn K (.ref fE)=true) :
  fK P w K mg base (jr P w) (k+2) f fd ["_law_rows"] (Cw ⟨K,cl⟩ 1 (Pj φ jN jT jM)):=by
 have S:=qQ hS;obtain⟨oc,od,kV,doc,pm,an,cdv,ct,osl,rfl,lk,WK⟩:=F.ex;refine Dz lk WK S (λvs H Q E h=>?_) λA' outer s H vs Q E hr h=>?_
 ·obtain⟨ρ,h,ws,h1,_,h2,_⟩:=h;rw[<-h2.length,h1];rfl
 ·have c:=AN (outer:=outer) (H:=H) (E:=E) T A S hr
  have hpost:=xD Tr _ k _ cl _ post c hc;obtain⟨t,ht,hq⟩:=Ph (X:=dM (jr P w) P w K mg base Ku qual (ai st) f cdv A' outer s H E) ⟨rfl,hl,ZO,mi⟩ rfl rfl hb hpost Kx FE hr WH WI WJ;refine⟨t,ht,?_⟩;obtain⟨ρ,h,ws,lw,r,hv,p⟩:=h;have lv:=hv.length;obtain⟨v0,rfl⟩:=List.length_eq_one_iff.mp lw;obtain⟨x0,rfl⟩:=List.length_eq_one_iff.mp lv.symm;obtain⟨y0,q0,r0⟩:=hv.get (i:=0) rfl;cases q0;have p:Post ⟨K,cl⟩ (n8 cl E) ρ H (WV K Q) (FJ jN jT jM (φ [v0] h)):=p;have fin:∀(W:Str) (i:Int) (h':Hs) (ρ1:List Addr) (H1:Hp),Gr ρ H ρ1 H1->HR ⟨K,cl⟩ ρ1 h' H1->Post ⟨K,cl⟩ (n8 cl E) ρ H (WV K Q) (.ok (.tup [.str W,.int i]) h') ->
    Wq (look fs) ⟨K,cl⟩ (n8 cl E) Tr { nx:=λ_ H'=>Q .non H',rt:=Q } [some x0,some (.str W),some (.int i),some (.bl true),none] H1:=λW i h' ρ1 H1 g1 r1' p=>by
   refine⟨ρ1,[some v0,some (.str W),some (.int i),some (.bl true),none],h',λj v e=>?_,rfl,r1',?_⟩
   ·match j,e with
    |0,e=>cases e;exact⟨x0,rfl,VR.lD g1.w _ _ r0⟩
    |1,e=>cases e;exact⟨.str W,rfl,VR.str⟩
    |2,e=>cases e;exact⟨.int i,rfl,VR.int⟩
    |3,e=>cases e;exact⟨.bl true,rfl,VR.bl⟩
    |4,e=>cases e
    |j+5,e=>simp at e
   ·rw[hR];intro ρ4 H4 g4 r4 y hy;exact p ρ4 H4 (g1.trans g4) r4 y hy
  refine hq _ H x0 ⟨ρ,h,[v0],rfl,r,hv,?_⟩;revert p;cases φ [v0] h with
  |no=>exact λp=>p.elim
  |ok v h'=>exact λp ρ1 H1 g1 r1' y hy=>fin "none" 0 h' ρ1 H1 g1 r1' p
  |exc cc vs h'=>
   intro p;have p:Post ⟨K,cl⟩ (n8 cl E) ρ H (WV K Q) (match vt jN jT jM cc vs with|some v=>.ok v h'|none=>.no):=p;cases em:vt jN jT jM cc vs with
   |none=>rw[em]at p;exact p.elim
   |some v=>
    rw[em]at p;have pv:Post ⟨K,cl⟩ (n8 cl E) ρ H (WV K Q) (.ok v h'):=p;intro ρ1 H1 xs g1 r1' hxs;have hit:∀(g W:Str) (j:Nat) (i:Int) (cs:List Addr),xs=[.str g,.int i]->v=.tup [.str W,.int i]->lO K (cl (1000+j))->findIn K (.ref (cl (1000+j))) g=some none->kitOne K (.ref (cl (1000+j))) (.ref D)=some true/\kitAny K (.ref (cl (1000+j))) (cs.map .ref)=some false ->
      wM K (cl (1000+jN)) (cl (1000+jT)) (cl (1000+jM)) D Nn csN yt (cl (1000+j))=Cg 4 (uA K W g D cs) ->
      n8 cl (λc d H'=>∃C,c=.ref C/\∀a T,H' a=none->H' T=none->T≠a->wM K (cl (1000+jN)) (cl (1000+jT)) (cl (1000+jM)) D Nn csN yt C { nx:=Wq (look fs) ⟨K,cl⟩ (n8 cl E) Tr { nx:=λ_ H'=>Q .non H',rt:=Q },rt:=Q } [some x0,some (.str "none"),some (.int 0),some (.bl true),none] a (oS H' a C T d)) j xs H1:=λg W j i cs ex ev G hf kk ew=>by
     refine .inl ⟨g,.int i,ex,λdx nd=>⟨_,rfl,λa T na nT ne=>?_⟩⟩;have ZP:dx≠a:=λz=>by rw[<-z,aD]at na;cases na
     have ZQ:dx≠T:=λz=>by rw[<-z,aD]at nT;cases nT
     have g2:Gr ρ1 H1 ρ1 (oS (upd H1 dx (.xd [(g,.int i)])) a (cl (1000+j)) T (some dx)):=(Gr.side nd).trans (Tp na nT ne);have r2:HR ⟨K,cl⟩ ρ1 h' (oS (upd H1 dx (.xd [(g,.int i)])) a (cl (1000+j)) T (some dx)):=Tq (r1'.side nd) na nT ne;rw[ew];refine⟨a,cl (1000+j),dx,.int i,rfl,rfl,.uO (tE ne),by rw[pM ZP ZQ];exact aD,G,hf,kk.1,kk.2,λp' np=>?_⟩;exact fin W i h' ρ1 _ ((g1.trans g2).trans (Gr.side np)) (r2.side np) (by rw[<-ev];exact pv)
    rcases FI em with ⟨i,rfl,rfl,ev⟩|⟨i,rfl,rfl,ev⟩|⟨rfl,rfl,ev⟩
    ·have ex:xs=[.str "row",.int i]:=by
      obtain⟨z0,z1,rfl⟩:=two (hxs.length.symm);obtain⟨w0,t0,s0⟩:=hxs.get (i:=0) rfl;obtain⟨w1,t1,s1⟩:=hxs.get (i:=1) rfl;cases t0;cases t1;rw[show _=_ from s0,show _=_ from s1]
     exact hit "row" "row" _ i csN ex ev Kx.gN Kx.fN Kx.kN (aan rfl)
    ·have ex:xs=[.str "tie",.int i]:=by
      obtain⟨z0,z1,rfl⟩:=two (hxs.length.symm);obtain⟨w0,t0,s0⟩:=hxs.get (i:=0) rfl;obtain⟨w1,t1,s1⟩:=hxs.get (i:=1) rfl;cases t0;cases t1;rw[show _=_ from s0,show _=_ from s1]
     exact hit "tie" "twice" _ i yt ex ev Kx.gT Kx.fT Kx.kT ((aaj Kx.n1).trans (aan rfl))
    ·have ex:xs=[]:=by
      have:=hxs.length;exact List.length_eq_zero_iff.mp this.symm
     refine .inr ⟨ex,_,rfl,λa T na nT ne=>?_⟩;have g2:Gr ρ1 H1 ρ1 (oS H1 a (cl (1000+cc)) T none):=Tp na nT ne;have r2:HR ⟨K,cl⟩ ρ1 h' (oS H1 a (cl (1000+cc)) T none):=Tq r1' na nT ne;have ew:wM K (cl (1000+jN)) (cl (1000+jT)) (cl (1000+cc)) D Nn csN yt (cl (1000+cc))=Cg 4 (uB K "many" D Nn):=(aaj Kx.n2).trans ((aaj Kx.n3).trans (aan rfl));show wM K (cl (1000+jN)) (cl (1000+jT)) (cl (1000+cc)) D Nn csN yt (cl (1000+cc)) _ _ _ _;rw[ew];refine⟨a,cl (1000+cc),none,rfl,rfl,.uO (tE ne),trivial,Kx.gM,Kx.kM.1,Kx.kM.2,?_⟩;exact fin "many" 0 h' ρ1 _ (g1.trans g2) r2 (by rw[<-ev];exact pv)
end
def FL(jN jT jM:Nat):Pr FV->Pr FV
 |.ok _=>.ok (true,.tup [.str "none",.int 0])
 |.exc c ds=>(match vt jN jT jM c ds with|some v=>.ok (true,v)|none=>.no)
 |.no=>.no
def Tt(ψ:List Val->Pr FV)(jN jT jM:Nat):List Val->Pr FV
 |[d0]=>FL jN jT jM (ψ [d0])
 |_=>.no
theorem Kv{jN jT jM:Nat}(hi:Imp φ ψ):Imp (Pj φ jN jT jM) (Tt ψ jN jT jM):=λA h ds vs u q=>by
 have l:=q.length
 match ds,vs,l,q with
 |[],_,_,_=>trivial
 |_::_::_,_,_,_=>trivial
 |[d0],[v0],_,q=>
  have r:=hi A h _ _ u q;show Rel A h (RV A h) (FJ jN jT jM (φ [v0] h)) (FL jN jT jM (ψ [d0]));revert r;generalize ψ [d0]=pp;intro r;have fin:∀(v:Val) (h':Hs),l6 v=true->h<+:h'->Rel A h (RV A h) (.ok v h') (.ok (true,v)):=λv h' hv p=>⟨v,h',rfl,p,(ju _ _ hv).mpr rfl,λ_=>(ju _ _ hv).mpr rfl⟩;cases pp with
  |no=>trivial
  |ok x=>obtain⟨v,h',e,p,_⟩:=r;rw[e];exact fin _ h' rfl p
  |exc c es=>
   obtain⟨ws,h',e,p,dn⟩:=r;rw[e];show Rel A h (RV A h) (match vt jN jT jM c ws with|some v=>.ok v h'|none=>.no) (match vt jN jT jM c es with|some v=>.ok (true,v)|none=>.no);cases em:vt jN jT jM c es with
   |none=>trivial
   |some v=>
    have hw:ws=es/\l6 v=true:=by
     rcases FI em with ⟨i,_,rfl,rfl⟩|⟨i,_,rfl,rfl⟩|⟨_,rfl,rfl⟩
     ·exact⟨(bx _ _ rfl).mp dn,rfl⟩
     ·exact⟨(bx _ _ rfl).mp dn,rfl⟩
     ·exact⟨(bx _ _ rfl).mp dn,rfl⟩
    rw[hw.1,em];exact fin v h' hw.2 p
abbrev Tu:dY:=#[.iff (.or (.not (!3)) (.or (.not (.blt (.isin "int") #[!2])) (.blt (.isin "bool") #[!2]))) #[.ret (.cst .non)] .nil,.ret (.tup #[!1,!2])]
section
variable {Φ:Fn} {a b:IE} {env:Env} {h:Hs} {u:Bool}
theorem LO(e1:aN Φ a env h=.ok (.bl false) h)(e2:aN Φ b env h=.ok (.bl u) h):aN Φ (.or a b) env h=.ok (.bl u) h:=by
 rw[aN];simp only[bnd,e1,oY,ret,false_eq_true,if_false,e2]
end
theorem Kw(v0:Val)(W:Str)(i:Int)(h:Hs):gX Φ Tu [some v0,some (.str W),some (.int i),some (.bl true),none] h=.ok (.rt (.tup [.str W,.int i])) h:=by
 have z2:2<=sizeLine:=by decide
 have n4:aN Φ (.not (!3)) [some v0,some (.str W),some (.int i),some (.bl true),none] h=.ok (.bl false) h:=by rw[aN,aN];rfl
 have v3:bJ Φ #[!2] [some v0,some (.str W),some (.int i),some (.bl true),none] h=.ok [.int i] h:=by rw[bJ,aN,bJ];rfl
 have b1:aN Φ (.not (.blt (.isin "int") #[!2])) [some v0,some (.str W),some (.int i),some (.bl true),none] h=.ok (.bl false) h:=by rw[aN,aN];unfold bnd;rw[v3];rfl
 have b2:aN Φ (.blt (.isin "bool") #[!2]) [some v0,some (.str W),some (.int i),some (.bl true),none] h=.ok (.bl false) h:=by rw[aN];unfold bnd;rw[v3];rfl
 have s1:gW Φ (.iff (.or (.not (!3)) (.or (.not (.blt (.isin "int") #[!2])) (.blt (.isin "bool") #[!2]))) #[.ret (.cst .non)] .nil) [some v0,some (.str W),some (.int i),some (.bl true),none] h=.ok (.nx [some v0,some (.str W),some (.int i),some (.bl true),none]) h:=by rw[gW];unfold bnd;rw[LO n4 (LO b1 b2)];show (if false=true then gX Φ #[.ret (.cst .non)] [some v0,some (.str W),some (.int i),some (.bl true),none] else gX Φ .nil [some v0,some (.str W),some (.int i),some (.bl true),none]) h=_;rw[aaj aab,gX];rfl
 have e2:bJ Φ #[!1,!2] [some v0,some (.str W),some (.int i),some (.bl true),none] h=.ok [.str W,.int i] h:=by rw[bJ,aN,bJ,aN,bJ];rfl
 have s2:gW Φ (.ret (.tup #[!1,!2])) [some v0,some (.str W),some (.int i),some (.bl true),none] h=.ok (.rt (.tup [.str W,.int i])) h:=by rw[gW,aN];unfold bnd;rw[e2];show (match (aH (decide (2<=sizeLine)) (ret (Val.tup [.str W,.int i])) h) with|.ok a h'=>(λv=>ret (Fl.rt v)) a h'|.exc c vs h'=>.exc c vs h'|.no=>.no)=_;unfold aH;rw[decide_eq_true z2];rfl
 rw[gX];unfold bnd;rw[s1];show gX Φ #[.ret (.tup #[!1,!2])] _ h=_;rw[gX];unfold bnd;rw[s2];rfl
end Hv
end
section
namespace K06
open PySem L2 Hv
abbrev Pn:List PySem.Str:=["_law_word","_law_number_here","_law_sign_here"]
abbrev Po:List PySem.Str:=["_law_text","_law_word","_law_many","_law_words","_law_numbers_here"]
abbrev Tv:List PySem.Str:=["_law_text","_law_word","_law_many"]
abbrev Pp:List PySem.Str:=["_law_rows","_law_told","_law_places","_law_k","_law_name","_law_one","_law_other"]
abbrev FN:List PySem.Str:=["_law_word","_law_numbers_here"]
abbrev Pq:List PySem.Str:=["_law_cell","_law_some"]
abbrev Pu:List PySem.Str:=["_law_cell","_law_long","_law_some"]
abbrev Pw:List PySem.Str:=["_law_rows","_law_way","_law_cell","_law_at","_law_row","_law_text"]
abbrev Px:List PySem.Str:=["rows","at","word","many","words"]
abbrev Py:List PySem.Str:=["poles","ties","numbers","tie","number"]
abbrev t6:List PySem.Str:=["poles","ties"]
abbrev FO:List PySem.Str:=["ties","seen","tie"]
abbrev FP:List PySem.Str:=["poles","ties","named","name","one","other"]
abbrev FQ:List PySem.Str:=["net","places","tie"]
abbrev FT:List PySem.Str:=["poles","ties","net"]
abbrev FU:List PySem.Str:=["rows","poles","ties"]
abbrev LP:List PySem.Str:=["_law_rows","_law_word","_law_what","_law_plain","e"]
abbrev xU:List PySem.Str:=["_law_found","_law_many"]
abbrev xV:List PySem.Str:=["_law_found","_law_due_here"]
abbrev xW:List PySem.Str:=["_law_script","_law_k"]
abbrev FW:List PySem.Str:=["_law_script","_law_seat","_law_k","_law_one","_law_two","_law_step","_law_shift","_law_number_here"]
abbrev FY:List PySem.Str:=["_law_script","_law_many","_law_one"]
abbrev FZ:List PySem.Str:=["_law_poles_here","_law_ties_here","_law_rows"]
abbrev F7:List PySem.Str:=["_law_script","_law_start","_law_most","_law_many","_law_ties_here","_law_k","_law_cell","_law_one","_law_other"]
abbrev LQ:List PySem.Str:=["_law_script","_law_start","_law_most","_law_many"]
abbrev LR:List PySem.Str:=["_law_script","_law_many","_law_rows","_law_k","_law_handed","_law_due_here"]
def top(i:Nat):Stmt:=PySem.Challenge.pw_linkorcut_k06_rows_refused.main.body.getD i (.Pass ⟨0,0,0,0⟩)
def cons:List (Str×Val):=[("MOST_TIES",(.int 14)),("MOST_PLACES",(.int 8)),("FIGURES",(.str "0123456789")),("MOST_FIGURES",(.int 60))]
def tb:Tb:=⟨0,[],[],[],[]⟩
def rB:dY:=#[.iff (.cmp .nin (!2) (.cst (.str "0123456789"))) #[.ret (.cst .non)] .nil,.asg (.one 1) (.bin .add (.bin .mul (!1) (¬10)) (.skeys (!2)))]
def rC:IE:=(.or (.cmp .eq (.blt .len #[!0]) (¬0)) (.or (.cmp .gt (.blt .len #[!0]) (¬60)) (.and (.cmp .eq (.idx (!0) (¬0)) (.cst (.str "0"))) (.cmp .ne (!0) (.cst (.str "0"))))))
def gG:dY:=.cons (.iff rC #[.ret (.cst .non)] .nil) #[.asg (.one 1) (¬0),.for (.one 2) .seq #[!0] rB,.ret (!1)]
def fh:dY:=#[.asg (.one 3) (.met .pop (!0) #[.cst (.str " ")]),.asg (.one 4) (.comp ["_law_part"] [none] (.one 0) .seq #[.slc (!3) (¬1) .no] .no (.call 0 #[!0])),.iff (.or (.cmp .ne (.idx (!3) (¬0)) (!1)) (.or (.cmp .ne (.blt .len #[!4]) (!2)) (.cmp .pN (.cst .non) (!4)))) #[.ret (.cst .non)] .nil,.ret (.blt .tuple #[!4])]
def dZ:IS:=(.iff (.cmp .eq (.blt .len #[!0]) (¬0)) #[.ret (.tup #[.cst (.str "row"),¬0])] .nil)
def dA:IE:=(.lst #[.call 1 #[.idx (!0) (¬0),.cst (.str "poles"),¬2]])
def dB:IE:=(.comp ["_law_row"] [none] (.one 0) .seq #[.slc (!0) (¬1) .no] .no (.call 1 #[!0,.cst (.str "tie"),¬3]))
def dI:IS:=(.iff (.cmp .pN (.cst .non) (!1)) #[.ret (.tup #[.cst (.str "row"),.svals (!1)])] .nil)
def dP:IE:=(.dct1 (.idx (.idx (!1) (¬0)) (¬0)) (.idx (.idx (!1) (¬0)) (¬1)))
def cE:IE:=(.comp ["_law_one"] [none] (.one 0) .seq #[.slc (!1) (¬1) (!3)] .no (.idx (!0) (¬0)))
def dT:dY:=#[.iff (.cmp .pN (.idx (.idx (!1) (!3)) (¬0)) cE) #[.ret (.tup #[.cst (.str "twice"),.idx (.idx (!1) (!3)) (¬0)])] .nil]
def dS:dY:=#[.jD (!2) (!5) (.cst (.bl true)),.jD (!2) (!6) (.cst (.bl true))]
def dE:dY:=#[.iff (.or (.cmp .gt (.blt .len #[!1]) (¬15)) (.cmp .gt (.blt .len #[!2]) (¬8))) #[.ret (.tup #[.cst (.str "many"),¬0])] .nil,.ret (.tup #[.cst (.str "none"),!1])]
def fY:dY:=.cons dZ (.cons (.asg (.one 1) (.bin .add dA dB)) (.cons dI (.cons (.asg (.one 2) dP) (.cons (.for (.one 3) .range #[¬1,.blt .len #[!1]] dT) (.cons (.for (.tup [4,5,6]) .seq #[.slc (!1) (¬1) .no] dS) dE)))))
def iW:dY:=#[.ret (.met .join (.cst (.str " ")) #[.bin .add (.lst #[!0]) (.comp ["_law_number_here"] [none] (.one 0) .seq #[!1] .no (.blt .str #[!0]))])]
def Bj:Str:=" !\"#$&'()*+,-./0123456789:;<=>?@ABCDEFGHIJKLMNOPQRSTUVWXYZ[\\]^_`"
def CP:Str:="abcdefghijklmnopqrstuvwxyz{|}~"
def iX:dY:=#[.asg (.one 1) (.cst (.str Bj)),.asg (.one 1) (.bin .add (!1) (.cst (.str CP))),.ret (.idx (!1) (.bin .mod (!0) (.blt .len #[!1])))]
def Dc:List Str:=[""," ","poles","tie","poles 0 1","poles 1 0 2","tie 1 2","tie 1 2 3 4","tie 01 2 3","tie 1 02 3"]
def Ga:List Str:=["tie 1 2 -3","tie  1 2 3"," tie 1 2 3","tie 1 2 3 ","Tie 1 2 3","ties 1 2 3","tie 1 2 +3"]
def HD:List Str:=["tie 1 2 3\n","tie 1\t2 3","tie 0 0 0","tie 00 0 0"]
def cs:List Str->jU
 |[]=>.nil
 |x::r=>.cons (.cst (.str x)) (cs r)
def oX:IE:=(.bin .add (.cst (.str "1")) (.blt .str #[.bin .add (.bin .pow (¬10) (¬59)) (.bin .mod (!0) (.bin .pow (¬10) (¬59)))]))
def UN:jU:=(.cons (.bin .add (.cst (.str "tie 1 2 ")) (!1)) (.cons (.bin .add (.bin .add (.cst (.str "tie ")) (!1)) (.cst (.str " 2 3"))) (.cons (.bin .add (.cst (.str "tie 1 2 ")) (.slc (!1) (¬1) .no)) (cs ["tie a 2 3","tie 1,2 3"]))))
def iY:dY:=.cons (.asg (.one 1) oX) #[.asg (.one 2) (.lst (cs Dc)),.asg (.one 2) (.bin .add (!2) (.lst (cs Ga))),.asg (.one 2) (.bin .add (!2) (.lst UN)),.asg (.one 2) (.bin .add (!2) (.lst (cs HD))),.ret (.idx (!2) (.bin .mod (.bin .fdiv (!0) (¬5)) (.blt .len #[!2])))]
abbrev eM(c:Lq)(k:Int):IE:=.cmp c (.bin .mod (!1) (¬6)) (.cst (.int k))
def Gb(e lo hi:IE):IE:=.bin .add (.bin .add (.slc (!0) .no lo) (.lst #[e])) (.slc (!0) hi .no)
def WL:dY:=#[.asg (.one 3) (.bin .mod (.bin .mod (.bin .mul (!2) (¬16807)) (¬10067)) (.bin .add (.blt .len #[!0]) (¬1))),.ret (Gb (.call 5 #[!2]) (!3) (!3))]
def UO:IE:=(.bin .mod (.bin .mod (.bin .mul (!2) (¬48271)) (¬10061)) (.blt .len #[!0]))
def UP:IE:=(.bin .mod (.bin .mod (.bin .mul (!2) (¬69621)) (¬10069)) (.bin .add (.blt .len #[!5]) (¬1)))
def UQ:IE:=(.bin .add (.bin .add (.slc (!5) .no (!3)) (.call 4 #[.bin .fdiv (!2) (¬3)])) (.slc (!5) (!3) .no))
def UR:IE:=(.bin .add (.slc (!5) .no (!3)) (.slc (!5) (.bin .add (!3) (¬1)) .no))
def US:IE:=(.idx (.lst #[.bin .add (.cst (.str "tie")) (.slc (!5) (¬5) .no),.bin .add (.cst (.str "poles")) (.slc (!5) (¬3) .no)]) (.blt .int #[.cmp .eq (.slc (!5) .no (¬1)) (.cst (.str "t"))]))
abbrev one(s:IS):dY:=.cons s .nil
def dj:dY:=.cons (.iff (.or (eM .eq 3) (.cmp .eq (.blt .len #[!0]) (¬0))) WL .nil) (.cons (.iff (eM .eq 4) (one (.ret (.slc (!0) (¬1) .no))) .nil) (.cons (.asg (.one 4) UO) (.cons (.asg (.one 5) (.idx (!0) (!4))) (.cons (.asg (.one 3) UP) (.cons (.iff (eM .eq 0) (one (.asg (.one 5) UQ)) .nil) (.cons (.iff (eM .eq 1) (one (.asg (.one 5) UR)) .nil) (.cons (.iff (eM .eq 2) (one (.ret (Gb (!5) (!4) (!4)))) .nil) (.cons (.iff (eM .eq 5) (one (.asg (.one 5) US)) .nil) (one (.ret (Gb (!5) (!4) (.bin .add (!4) (¬1)))))))))))))
def dO:dY:=#[.iff (.or (.cmp .eq (!0) (.cst (.str ""))) (.cmp .gt (.blt .len #[!0]) (.con "MOST_FIGURES" (.int 60)))) #[.ret (.cst (.bl false))] .nil,.iff (.and (.cmp .eq (.idx (!0) (¬0)) (.cst (.str "0"))) (.cmp .ne (!0) (.cst (.str "0")))) #[.ret (.cst (.bl false))] .nil,.ret (.blt .all #[.comp ["sign"] [none] (.one 0) .seq #[!0] .no (.cmp .pN (!0) (.con "FIGURES" (.str "0123456789")))])]
def dQ:dY:=#[.asg (.one 4) (.met .pop (.idx (!0) (!1)) #[.cst (.str " ")]),.iff (.or (.cmp .ne (.idx (!4) (¬0)) (!2)) (.cmp .ne (.blt .len #[!4]) (.bin .add (!3) (¬1)))) #[.setF 0 (.call 7 #[!1]) "" .no] .nil,.iff (.not (.blt .all #[.comp ["text"] [none] (.one 0) .seq #[.slc (!4) (¬1) .no] .no (.call 8 #[!0])])) #[.setF 0 (.call 7 #[!1]) "" .no] .nil,.ret (.blt .tuple #[.comp ["text"] [none] (.one 0) .seq #[.slc (!4) (¬1) .no] .no (.blt .int #[!0])])]
def fj:dY:=#[.ret (.chn .le .lt (¬0) (!0) (.bin .pow (¬10) (¬60)))]
def bA:dY:=.cons (.expr (.met .extend (!2) #[!3])) .nil
def bN:dY:=.cons (.iff (.not (.call 12 #[!4])) #[.setF 0 (.call 11 #[!4]) "" .no] .nil) .nil
def bI:dY:=.cons (.asg (.one 2) (.blt .list #[!0])) #[.for (.one 3) .seq #[!1] bA,.for (.one 4) .seq #[!2] bN]
def bT:dY:=.cons (.iff (.cmp .pN (.idx (!2) (¬0)) (!1)) #[.setF 0 (.call 14 #[.idx (!2) (¬0)]) "" .no] .nil) #[.jD (!1) (.idx (!2) (¬0)) (.cst (.bl true))]
def bX:dY:=.cons (.asg (.one 1) .dct0) #[.for (.one 2) .seq #[!0] bT]
def cO:dY:=#[.asg (.one 2) (.lst .nil),.for (.tup [3,4,5]) .seq #[!1] #[.expr (.met .append (!2) #[.tup #[!3,.blt .min #[!4,!5],.blt .max #[!4,!5]]])],.ret (.tup #[.tup #[.blt .min #[.idx (!0) (¬0),.idx (!0) (¬1)],.blt .max #[.idx (!0) (¬0),.idx (!0) (¬1)]],.blt .sorted #[!2]])]
def fk:dY:=#[.asg (.one 1) (.blt .list #[.idx (!0) (¬0)]),.for (.one 2) .seq #[.idx (!0) (¬1)] #[.expr (.met .extend (!1) #[.slc (!2) (¬1) .no])],.ret (.sset (!1))]
def iZ:dY:=#[.expr (.call 13 #[!0,!1]),.expr (.call 15 #[!1]),.asg (.one 2) (.call 16 #[!0,!1]),.iff (.or (.cmp .gt (.blt .len #[!1]) (.con "MOST_TIES" (.int 14))) (.cmp .gt (.blt .len #[.call 17 #[!2]]) (.con "MOST_PLACES" (.int 8)))) #[.setF 0 (.call 10 .nil) "" .no] .nil,.ret (!2)]
def UT:IE:=(.call 9 #[!1,!0,.cst (.str "tie"),¬3])
def UU:IE:=(.comp ["at","rows"] [none,some 0] (.one 0) .range #[¬1,.blt .len #[!0]] .no UT)
def UW:IE:=(.call 9 #[!0,¬0,.cst (.str "poles"),¬2])
def Tw:IS:=(.iff (.cmp .eq (.blt .len #[!0]) (¬0)) #[.setF 0 (.call 7 #[¬0]) "" .no] .nil)
def gB:dY:=.cons Tw #[.asg (.one 1) UW,.aug 2 .add UU,.ret (.call 18 #[!1,!2])]
def fZ:dY:=#[.iff (.or (.not (.blt (.isin "tuple") #[!0])) (.cmp .ne (.blt .len #[!0]) (!1))) #[.ret (.cst (.bl false))] .nil,.ret (.blt .all #[.comp ["_law_one"] [none] (.one 0) .seq #[!0] .no (.and (.blt (.isin "int") #[!0]) (.not (.blt (.isin "bool") #[!0])))])]
def dR:dY:=#[.iff (.or (.not (.blt (.isin "tuple") #[!0])) (.or (.cmp .ne (.blt .len #[!0]) (¬2)) (.not (.call 21 #[.idx (!0) (¬0),¬2])))) #[.ret (.cst (.bl false))] .nil,.iff (.or (.not (.blt (.isin "list") #[.idx (!0) (¬1)])) (.not (.blt .all #[.comp ["_law_tie"] [none] (.one 0) .seq #[.idx (!0) (¬1)] .no (.call 21 #[!0,¬3])]))) #[.ret (.cst (.bl false))] .nil,.ret (.cmp .eq (!0) (!1))]
def fm:dY:=#[.iff (.cmp .lt (!1) (.blt .len #[!0])) #[.ret (.idx (!0) (!1))] .nil,.ret (¬0)]
def f6:dY:=#[.asg (.one 3) (.call 23 #[!0,!1]),.asg (.one 4) (.call 23 #[!0,.bin .add (!1) (¬1)]),.asg (.one 5) (¬1),.asg (.one 6) (¬0),.iff (.cmp .gt (.bin .mod (!3) (¬3)) (¬0)) #[.asg (.one 5) (.bin .add (.bin .mod (!3) (.bin .pow (¬10) (¬57))) (¬1))] .nil,.iff (.cmp .gt (.bin .mod (!4) (¬3)) (¬0)) #[.asg (.one 6) (.bin .mod (!4) (.bin .pow (¬10) (¬57)))] .nil,.asg (.one 7) (.bin .add (.bin .mul (!5) (.bin .mod (.bin .add (.bin .mul (.bin .add (¬1) (.bin .mod (.bin .fdiv (!4) (¬3)) (¬66))) (!2)) (.bin .mod (.bin .fdiv (!3) (¬3)) (¬67))) (¬67))) (!6)),.iff (.cmp .eq (.bin .mod (!4) (¬7)) (¬3)) #[.ret (.bin .sub (.bin .sub (.bin .pow (¬10) (¬60)) (¬1)) (!7))] .nil,.ret (!7)]
def gQ:dY:=#[.asg (.one 2) (.call 24 #[!0,¬2,¬0]),.iff (.or (.cmp .eq (!1) (¬1)) (.cmp .eq (.bin .mod (.bin .fdiv (.call 23 #[!0,¬4]) (¬8)) (¬5)) (¬4))) #[.ret (.tup #[!2,!2])] .nil,.ret (.tup #[!2,.call 24 #[!0,¬2,¬1]])]
def ki:dY:=#[.asg (.one 2) (.comp ["_law_name","_law_one","_law_other"] [none,none,none] (.tup [0,1,2]) .seq #[!1] .no (.tup #[!0,.blt .min #[!1,!2],.blt .max #[!1,!2]])),.ret (.tup #[.tup #[.blt .min #[!0],.blt .max #[!0]],.blt .sorted #[!2]])]
def ja:dY:=#[.asg (.one 4) (.lst .nil),.for (.tup [5,6]) .enum #[.slc (!0) (!1) (.bin .add (!1) (!2))] #[.asg (.one 7) (.call 24 #[!0,¬2,.bin .mod (.bin .mod (.bin .mul (!6) (¬48271)) (¬10007)) (!3)]),.asg (.one 8) (.call 24 #[!0,¬2,.bin .mod (.bin .mod (.bin .mul (!6) (¬16807)) (¬10009)) (!3)]),.expr (.met .append (!4) #[.tup #[.call 24 #[!0,¬0,!5],!7,!8]])],.ret (!4)]
abbrev lC(k:Int):IE:=.call 23 #[!0,.cst (.int k)]
def lP:IE:=(.lst #[.call 3 #[.cst (.str "poles"),.call 25 #[!0,!1]]])
def lT:IE:=(.comp ["_law_tie"] [none] (.one 0) .seq #[.call 27 #[!0,¬8,.bin .add (¬13) (.bin .mod (.bin .fdiv (lC 4) (¬40)) (¬4)),!1]] .no (.call 3 #[.cst (.str "tie"),!0]))
def lB:dY:=.cons (.asg (.one 2) (.call 6 #[!2,.bin .fdiv (lC 5) (.bin .add (¬4) (.bin .mul (¬5) (!3))),.call 23 #[!0,.bin .add (¬5) (!3)]])) .nil
def lX:IE:=.cmp .ne (.idx (!5) (¬0)) (.cst (.str "none"))
def lQ:IE:=.and (.cmp .eq (.call 20 #[!4]) (!5)) (.cmp .eq (!4) (!2))
def lN:IE:=.cmp .ne (.call 20 #[!4]) (.tup #[.cst (.str "none"),¬0])
def lR:IE:=.and (.call 22 #[.call 19 #[!4],.call 26 #[.idx (.idx (!5) (¬1)) (¬0),.slc (.idx (!5) (¬1)) (¬1) .no]]) (.cmp .eq (!4) (!2))
def lE:dY:=.cons (.iff lX #[.ret lQ] .nil) #[.iff lN #[.ret (.cst (.bl false))] .nil,.ret lR]
def qY:dY:=.cons (.asg (.one 1) (.bin .add (¬1) (.bin .mod (lC 4) (¬10)))) (.cons (.asg (.one 2) lP) (.cons (.asg (.one 2) (.bin .add (!2) lT)) (.cons (.for (.one 3) .range #[.bin .mod (lC 5) (¬4)] lB) (.cons (.asg (.one 4) (.blt .list #[!2])) (.cons (.asg (.one 5) (.call 2 #[!2])) lE)))))
def Tz:List Row:=[]
def xX:List Val->M Val:=mq (look Tz) 3 gG
def TF:List Row:=Tz++[(("_law_read":Str),1,xX)]
def o8:List Val->M Val:=mq (look TF) 5 fh
def TH:List Row:=TF++[(("_law_numbers":Str),3,o8)]
def Bk:List Val->M Val:=mq (look TH) 7 fY
def TJ:List Row:=TH++[(("_law_due":Str),1,Bk)]
def xY:List Val->M Val:=mq (look TJ) 2 iW
def TL:List Row:=TJ++[(("_law_line":Str),2,xY)]
def xZ:List Val->M Val:=mq (look TL) 2 iX
def TM:List Row:=TL++[(("_law_sign":Str),1,xZ)]
def Bm:List Val->M Val:=mq (look TM) 3 iY
def TN:List Row:=TM++[(("_law_odd":Str),1,Bm)]
def o9:List Val->M Val:=mq (look TN) 6 dj
def UX:List Row:=TN++[(("_law_changed":Str),3,o9)]
def x6:List Val->M Val:=uU 7 "row"
def TQ:List Row:=UX++[(("BadRow":Str),2001,x6)]
def nk:List Val->M Val:=mq (look TQ) 1 dO
def TR:List Row:=TQ++[(("is_written":Str),1,nk)]
def nq:List Val->M Val:=mq (look TR) 5 dQ
def Ky:List Row:=TR++[(("numbers_at":Str),4,nq)]
def t7:List Val->M Val:=wV 10
def Kz:List Row:=Ky++[(("TooMany":Str),2000,t7)]
def qZ:List Val->M Val:=uU 11 "number"
def Gd:List Row:=Kz++[(("NoNumber":Str),2001,qZ)]
def pe:List Val->M Val:=mq (look Gd) 1 fj
def Ge:List Row:=Gd++[(("is_number":Str),1,pe)]
def jb:List Val->M Val:=mq (look Ge) 5 bI
def KA:List Row:=Ge++[(("refuse_numbers":Str),2,jb)]
def Bo:List Val->M Val:=uU 14 "tie"
def Gf:List Row:=KA++[(("Twice":Str),2001,Bo)]
def kj:List Val->M Val:=mq (look Gf) 3 bX
def Gg:List Row:=Gf++[(("refuse_names":Str),1,kj)]
def ko:List Val->M Val:=mq (look Gg) 6 cO
def Gh:List Row:=Gg++[(("put_in_order":Str),2,ko)]
def pq:List Val->M Val:=mq (look Gh) 3 fk
def Gi:List Row:=Gh++[(("places_of":Str),1,pq)]
def x8:List Val->M Val:=mq (look Gi) 3 iZ
def Gj:List Row:=Gi++[(("net_of":Str),2,x8)]
def zH:List Val->M Val:=mq (look Gj) 3 gB
def Gk:List Row:=Gj++[(("read":Str),1,zH)]
def t8:dY:=#[.iff (.or (.not (!3)) (.or (.not (.blt (.isin "int") #[!2])) (.blt (.isin "bool") #[!2]))) #[.ret (.cst .non)] .nil,.ret (.tup #[!1,!2])]
def rj:List Stmt:=(az (top 34)).drop 4
def vv:List Val->M Val:=Pj zH 7 14 10
def Gm:List Row:=Gk++[(("_law_met":Str),1,vv)]
def rm:List Val->M Val:=mq (look Gm) 2 fZ
def Gn:List Row:=Gm++[(("_law_wholes":Str),2,rm)]
def nt:List Val->M Val:=mq (look Gn) 2 dR
def Gp:List Row:=Gn++[(("_law_same_net":Str),2,nt)]
def pA:List Val->M Val:=mq (look Gp) 2 fm
def Gq:List Row:=Gp++[(("_law_cell_at":Str),2,pA)]
def rq:List Val->M Val:=mq (look Gq) 8 f6
def Gs:List Row:=Gq++[(("_law_number":Str),3,rq)]
def t9:List Val->M Val:=mq (look Gs) 3 gQ
def Gu:List Row:=Gs++[(("_law_poles":Str),2,t9)]
def Bp:List Val->M Val:=mq (look Gu) 3 ki
def Gv:List Row:=Gu++[(("_law_net":Str),2,Bp)]
def x9:List Val->M Val:=mq (look Gv) 9 ja
def KC:List Row:=Gv++[(("_law_ties":Str),4,x9)]
def Gx:List Val->M Val:=mq (look KC) 6 qY
def zJ:List bq:=[]
def jc:bq:=cD (af zJ) 3 gG
def TU:List bq:=zJ++[jc]
def cH:bq:=cD (af TU) 5 fh
def nK:List bq:=TU++[cH]
def dm:bq:=cD (af nK) 7 fY
def WM:List bq:=nK++[dm]
def f7:bq:=cD (af WM) 2 iW
def WN:List bq:=WM++[f7]
def kq:bq:=cD (af WN) 2 iX
def Qv:List bq:=WN++[kq]
def nu:bq:=cD (af Qv) 3 iY
def kY:List bq:=Qv++[nu]
def f9:bq:=cD (af kY) 6 dj
def XY:List bq:=kY++[f9]
def kr:bq:=JR 7 "row"
def WO:List bq:=XY++[kr]
def dw:bq:=cD (af WO) 1 dO
def Pz:List bq:=WO++[dw]
def bZ:bq:=cD (af Pz) 5 dQ
def TV:List bq:=Pz++[bZ]
def kP:bq:=LC 10
def TY:List bq:=TV++[kP]
def jA:bq:=JR 11 "number"
def PB:List bq:=TY++[jA]
def gb:bq:=cD (af PB) 1 fj
def vz:List bq:=PB++[gb]
def cC:bq:=cD (af vz) 5 bI
def TZ:List bq:=vz++[cC]
def pU:bq:=JR 14 "tie"
def CQ:List bq:=TZ++[pU]
def cY:bq:=cD (af CQ) 3 bX
def PC:List bq:=CQ++[cY]
def cZ:bq:=cD (af PC) 6 cO
def PD:List bq:=PC++[cZ]
def gc:bq:=cD (af PD) 3 fk
def ya:List bq:=PD++[gc]
def gf:bq:=cD (af ya) 3 iZ
def jG:List bq:=ya++[gf]
def c7:bq:=cD (af jG) 3 gB
def T4:List bq:=jG++[c7]
def kQ:bq:=Tt c7 7 14 10
def PF:List bq:=T4++[kQ]
def eE:bq:=cD (af PF) 2 fZ
def KG:List bq:=PF++[eE]
def dz:bq:=cD (af KG) 2 dR
def PJ:List bq:=KG++[dz]
def aX:bq:=cD (af PJ) 2 fm
def KH:List bq:=PJ++[aX]
def fQ:bq:=cD (af KH) 8 f6
def Gy:List bq:=KH++[fQ]
def jd:bq:=cD (af Gy) 3 gQ
def PK:List bq:=Gy++[jd]
def nv:bq:=cD (af PK) 3 ki
def KI:List bq:=PK++[nv]
def ku:bq:=cD (af KI) 9 ja
def dU:List bq:=KI++[ku]
def Gz:bq:=cD (af dU) 6 qY
theorem kZ:af TU 0=jc:=rfl
theorem gR:af nK 1=cH:=rfl
theorem k7:af kY 4=kq:=rfl
theorem l8:af kY 5=nu:=rfl
theorem dh:af Pz 7=kr:=rfl
theorem iM:af Pz 8=dw:=rfl
theorem cS:af vz 12=gb:=rfl
theorem bf:af ya 13=cC:=rfl
theorem bP:af ya 15=cY:=rfl
theorem cK:af ya 16=cZ:=rfl
theorem dJ:af ya 17=gc:=rfl
theorem rz:af jG 7=kr:=rfl
theorem gS:af jG 9=bZ:=rfl
theorem rA:af jG 18=gf:=rfl
theorem fq:af KG 21=eE:=rfl
theorem jH:af KH 23=aX:=rfl
theorem kB:af Gy 23=aX:=rfl
theorem k8:af Gy 24=fQ:=rfl
theorem l9:af KI 24=fQ:=rfl
theorem vA:af dU 2=dm:=rfl
theorem lH:af dU 3=f7:=rfl
theorem oG:af dU 6=f9:=rfl
theorem yb:af dU 19=c7:=rfl
theorem ny:af dU 20=kQ:=rfl
theorem nC:af dU 22=dz:=rfl
theorem dD:af dU 23=aX:=rfl
theorem rD:af dU 25=jd:=rfl
theorem vB:af dU 26=nv:=rfl
theorem r9:af dU 27=ku:=rfl
theorem i0:dH Tz zJ:=Ft
theorem GA:Imp xX jc:=bO (aI i0) (by decide +kernel)
theorem i1:dH TF TU:=aC i0 GA
theorem yc:Imp o8 cH:=bO (aI i1) (by decide +kernel)
theorem i2:dH TH nK:=aC i1 yc
theorem KJ:Imp Bk dm:=bO (aI i2) (by decide +kernel)
theorem i3:dH TJ WM:=aC i2 KJ
theorem GB:Imp xY f7:=bO (aI i3) (by decide +kernel)
theorem i4:dH TL WN:=aC i3 GB
theorem GC:Imp xZ kq:=bO (aI i4) (by decide +kernel)
theorem i5:dH TM Qv:=aC i4 GC
theorem KL:Imp Bm nu:=bO (aI i5) (by decide +kernel)
theorem i6:dH TN kY:=aC i5 KL
theorem yd:Imp o9 f9:=bO (aI i6) (by decide +kernel)
theorem i7:dH UX XY:=aC i6 yd
theorem GD:Imp x6 kr:=vh
theorem i8:dH TQ WO:=aC i7 GD
theorem vC:Imp nk dw:=bO (aI i8) (by decide +kernel)
theorem i9:dH TR Pz:=aC i8 vC
theorem vD:Imp nq bZ:=bO (aI i9) (by decide +kernel)
theorem ZR:dH Ky TV:=aC i9 vD
theorem CS:Imp t7 kP:=Fe
theorem ZS:dH Kz TY:=aC ZR CS
theorem zK:Imp qZ jA:=vh
theorem i12:dH Gd PB:=aC ZS zK
theorem ye:Imp pe gb:=bO (aI i12) (by decide +kernel)
theorem XZ:dH Ge vz:=aC i12 ye
theorem oH:Imp jb cC:=bO (aI XZ) (by decide +kernel)
theorem ZT:dH KA TZ:=aC XZ oH
theorem KN:Imp Bo pU:=vh
theorem X0:dH Gf CQ:=aC ZT KN
theorem rE:Imp kj cY:=bO (aI X0) (by decide +kernel)
theorem X3:dH Gg PC:=aC X0 rE
theorem rF:Imp ko cZ:=bO (aI X3) (by decide +kernel)
theorem X4:dH Gh PD:=aC X3 rF
theorem yf:Imp pq gc:=bO (aI X4) (by decide +kernel)
theorem X5:dH Gi ya:=aC X4 yf
theorem GF:Imp x8 gf:=bO (aI X5) (by decide +kernel)
theorem X6:dH Gj jG:=aC X5 GF
theorem GG:Imp zH c7:=bO (aI X6) (by decide +kernel)
theorem ZU:dH Gk T4:=aC X6 GG
theorem KO:Imp vv kQ:=Kv GG
theorem X7:dH Gm PF:=aC ZU KO
theorem zL:Imp rm eE:=bO (aI X7) (by decide +kernel)
theorem X8:dH Gn KG:=aC X7 zL
theorem vE:Imp nt dz:=bO (aI X8) (by decide +kernel)
theorem Yb:dH Gp PJ:=aC X8 vE
theorem yg:Imp pA aX:=bO (aI Yb) (by decide +kernel)
theorem Yc:dH Gq KH:=aC Yb yg
theorem zM:Imp rq fQ:=bO (aI Yc) (by decide +kernel)
theorem Yd:dH Gs Gy:=aC Yc zM
theorem CU:Imp t9 jd:=bO (aI Yd) (by decide +kernel)
theorem Ye:dH Gu PK:=aC Yd CU
theorem KP:Imp Bp nv:=bO (aI Ye) (by decide +kernel)
theorem Yg:dH Gv KI:=aC Ye KP
theorem GH:Imp x9 ku:=bO (aI Yg) (by decide +kernel)
theorem ZV:dH KC dU:=aC Yg GH
theorem KQ{ns:List Int}{f:Bool}(e:Gz [.rl (ns.map .int)]=.ok (f,.bl true)):∃h',Gx [.rl (ns.map .int)] []=.ok (.bl true) h':=Fv (bO (aI ZV) (by decide +kernel)) e
theorem c0:aQ Pn ["_law_word"] (ai (top 31))=true:=by decide +kernel
theorem d0:bz ⟨Pn,ai (top 31),Tz.map (λr=>(r.1,r.2.1)),cons,tb⟩ gG (az (top 31))=true:=by decide +kernel
theorem c1:aQ Po Tv (ai (top 32))=true:=by decide +kernel
theorem d1:bz ⟨Po,ai (top 32),TF.map (λr=>(r.1,r.2.1)),cons,tb⟩ fh (az (top 32))=true:=by decide +kernel
theorem c2:aQ Pp ["_law_rows"] (ai (top 33))=true:=by decide +kernel
theorem d2:bz ⟨Pp,ai (top 33),TH.map (λr=>(r.1,r.2.1)),cons,tb⟩ fY (az (top 33))=true:=by decide +kernel
theorem c3:aQ FN FN (ai (top 30))=true:=by decide +kernel
theorem d3:bz ⟨FN,ai (top 30),TJ.map (λr=>(r.1,r.2.1)),cons,tb⟩ iW (az (top 30))=true:=by decide +kernel
theorem c4:aQ Pq ["_law_cell"] (ai (top 29))=true:=by decide +kernel
theorem d4:bz ⟨Pq,ai (top 29),TL.map (λr=>(r.1,r.2.1)),cons,tb⟩ iX (az (top 29))=true:=by decide +kernel
theorem c5:aQ Pu ["_law_cell"] (ai (top 35))=true:=by decide +kernel
theorem d5:bz ⟨Pu,ai (top 35),TM.map (λr=>(r.1,r.2.1)),cons,tb⟩ iY (az (top 35))=true:=by decide +kernel
theorem c6:aQ Pw ["_law_rows","_law_way","_law_cell"] (ai (top 36))=true:=by decide +kernel
theorem d6:bz ⟨Pw,ai (top 36),TN.map (λr=>(r.1,r.2.1)),cons,tb⟩ dj (az (top 36))=true:=by decide +kernel
def PM:Stmt:=(match top 5 with|.ClassDef (body:=b) ..=>b.getD 0 (.Pass ⟨0,0,0,0⟩)|_=>.Pass ⟨0,0,0,0⟩)
theorem WQ:Ks (az PM) "row":=⟨_,_,_,_,rfl⟩
theorem ZW:aQ ["self","row"] ["self","row"] (ai PM)=true:=by decide +kernel
theorem c8:aQ ["text"] ["text"] (ai (top 20))=true:=by decide +kernel
theorem d8:bz ⟨["text"],ai (top 20),TQ.map (λr=>(r.1,r.2.1)),cons,tb⟩ dO (az (top 20))=true:=by decide +kernel
theorem c9:aQ Px ["rows","at","word","many"] (ai (top 19))=true:=by decide +kernel
theorem d9:bz ⟨Px,ai (top 19),TR.map (λr=>(r.1,r.2.1)),cons,tb⟩ dQ (az (top 19))=true:=by decide +kernel
def GI:Stmt:=(match top 2 with|.ClassDef (body:=b) ..=>b.getD 0 (.Pass ⟨0,0,0,0⟩)|_=>.Pass ⟨0,0,0,0⟩)
theorem T5:Ks (az GI) "number":=⟨_,_,_,_,rfl⟩
theorem WR:aQ ["self","number"] ["self","number"] (ai GI)=true:=by decide +kernel
theorem c12:aQ ["number"] ["number"] (ai (top 11))=true:=by decide +kernel
theorem ZX:bz ⟨["number"],ai (top 11),Gd.map (λr=>(r.1,r.2.1)),cons,tb⟩ fj (az (top 11))=true:=by decide +kernel
theorem ZY:aQ Py t6 (ai (top 10))=true:=by decide +kernel
theorem ZZ:bz ⟨Py,ai (top 10),Ge.map (λr=>(r.1,r.2.1)),cons,tb⟩ bI (az (top 10))=true:=by decide +kernel
def GJ:Stmt:=(match top 3 with|.ClassDef (body:=b) ..=>b.getD 0 (.Pass ⟨0,0,0,0⟩)|_=>.Pass ⟨0,0,0,0⟩)
theorem T6:Ks (az GJ) "tie":=⟨_,_,_,_,rfl⟩
theorem WS:aQ ["self","tie"] ["self","tie"] (ai GJ)=true:=by decide +kernel
theorem Z0:aQ FO ["ties"] (ai (top 12))=true:=by decide +kernel
theorem Z1:bz ⟨FO,ai (top 12),Gf.map (λr=>(r.1,r.2.1)),cons,tb⟩ bX (az (top 12))=true:=by decide +kernel
theorem Z2:aQ FP t6 (ai (top 13))=true:=by decide +kernel
theorem Z3:bz ⟨FP,ai (top 13),Gg.map (λr=>(r.1,r.2.1)),cons,tb⟩ cO (az (top 13))=true:=by decide +kernel
theorem Z4:aQ FQ ["net"] (ai (top 14))=true:=by decide +kernel
theorem Z5:bz ⟨FQ,ai (top 14),Gh.map (λr=>(r.1,r.2.1)),cons,tb⟩ fk (az (top 14))=true:=by decide +kernel
theorem Z6:aQ FT t6 (ai (top 9))=true:=by decide +kernel
theorem Z7:bz ⟨FT,ai (top 9),Gi.map (λr=>(r.1,r.2.1)),cons,tb⟩ iZ (az (top 9))=true:=by decide +kernel
theorem Yh:aQ FU ["rows"] (ai (top 18))=true:=by decide +kernel
theorem Yi:bz ⟨FU,ai (top 18),Gj.map (λr=>(r.1,r.2.1)),cons,tb⟩ gB (az (top 18))=true:=by decide +kernel
theorem Z8:aQ LP ["_law_rows"] (ai (top 34))=true:=by decide +kernel
theorem Z9:bz ⟨LP,ai (top 34),Gk.map (λr=>(r.1,r.2.1)),cons,tb⟩ t8 rj=true:=by decide +kernel
theorem hbM:Pf (az (top 34)) rj:=⟨_,_,_,_,_,_,_,_,_,_,_,_,_,_,_,_,_,_,_,_,_,_,_,_,_,_,_,_,_,rfl,⟨_,_,_,_,_,_,_,_,_,rfl,⟨_,_,_,_,_,_,_,_,_,_,_,rfl,⟨_,_,_,_,rfl⟩,⟨_,_,rfl,_,_,rfl,_,_,rfl,rfl⟩⟩⟩,⟨_,_,_,_,_,_,_,_,_,rfl,⟨_,_,_,_,_,_,_,_,_,_,_,rfl,⟨_,_,_,_,rfl⟩,⟨_,_,rfl,_,_,rfl,rfl⟩⟩⟩,⟨_,_,_,_,_,rfl,⟨_,_,_,_,_,_,rfl,⟨_,_,_,_,rfl⟩,⟨_,_,_,_,rfl⟩⟩⟩⟩
theorem hlM:∀x∈Ku,(ai (top 34)).names.lookup x=some .local:=by decide +kernel
theorem hgM:∀x∈Pc,(ai (top 34)).names.lookup x=some .globalImplicit:=by decide +kernel
theorem hRM:∀v0 W i h,gX (look Gk) t8 [some v0,some (.str W),some (.int i),some (.bl true),none] h=.ok (.rt (.tup [.str W,.int i])) h:=λv0 W i h=>Kw v0 W i h
theorem c21:aQ xU xU (ai (top 27))=true:=by decide +kernel
theorem d21:bz ⟨xU,ai (top 27),Gm.map (λr=>(r.1,r.2.1)),cons,tb⟩ fZ (az (top 27))=true:=by decide +kernel
theorem c22:aQ xV xV (ai (top 28))=true:=by decide +kernel
theorem d22:bz ⟨xV,ai (top 28),Gn.map (λr=>(r.1,r.2.1)),cons,tb⟩ dR (az (top 28))=true:=by decide +kernel
theorem c23:aQ xW xW (ai (top 22))=true:=by decide +kernel
theorem d23:bz ⟨xW,ai (top 22),Gp.map (λr=>(r.1,r.2.1)),cons,tb⟩ fm (az (top 22))=true:=by decide +kernel
theorem c24:aQ FW ["_law_script","_law_seat","_law_k"] (ai (top 23))=true:=by decide +kernel
theorem d24:bz ⟨FW,ai (top 23),Gq.map (λr=>(r.1,r.2.1)),cons,tb⟩ f6 (az (top 23))=true:=by decide +kernel
theorem c25:aQ FY ["_law_script","_law_many"] (ai (top 25))=true:=by decide +kernel
theorem d25:bz ⟨FY,ai (top 25),Gs.map (λr=>(r.1,r.2.1)),cons,tb⟩ gQ (az (top 25))=true:=by decide +kernel
theorem c26:aQ FZ ["_law_poles_here","_law_ties_here"] (ai (top 26))=true:=by decide +kernel
theorem d26:bz ⟨FZ,ai (top 26),Gu.map (λr=>(r.1,r.2.1)),cons,tb⟩ ki (az (top 26))=true:=by decide +kernel
theorem c27:aQ F7 LQ (ai (top 24))=true:=by decide +kernel
theorem d27:bz ⟨F7,ai (top 24),Gv.map (λr=>(r.1,r.2.1)),cons,tb⟩ ja (az (top 24))=true:=by decide +kernel
theorem c28:aQ LR ["_law_script"] (ai (top 37))=true:=by decide +kernel
theorem d28:bz ⟨LR,ai (top 37),KC.map (λr=>(r.1,r.2.1)),cons,tb⟩ qY (az (top 37))=true:=by decide +kernel
section
variable {P:Program} {w:World} {K:Frag} {mg:Str->Option Value} {base:Heap}
theorem all_mk{l:PySem.W.OpenLaw}{h:Heap}{fa:Addr}(X:K.In h)(G:h.Ns mainGlobals mg)(hfa:mg "law" = some (.ref fa))(hφ:∀ns:List Int,ns.length<=63->∃h',Gx [.rl (ns.map .int)] []=.ok (.bl true) h'){X1:Addr}{a0:Addr}{a1:Addr}{a2:Addr}{a3:Addr}{a4:Addr}{a5:Addr}{a6:Addr}{a7:Addr}{b7:Addr}{T7:ClassData}{a8:Addr}{a9:Addr}{vO:Addr}{CV:Addr}{UY:Addr}{LS:ClassData}{Yj:Addr}{Yk:Addr}{vP:Addr}{UZ:Addr}{LU:ClassData}{Yl:Addr}{Ym:Addr}{Yn:Addr}{Yo:Addr}{Yp:Addr}{WU:Addr}{Yq:Addr}{Yr:Addr}{Ys:Addr}{Yt:Addr}{Yu:Addr}{Yv:Addr}{Yw:Addr}{Yx:Addr}{tk0:Tok}{tk1:Tok}{tk2:Tok}{VQ:Tok}
  (A0:nsIn K mainGlobals "_law_read" = some (some (.ref a0)))
  (F0:l0 K "_law_read" "_law_read" (top 31) a0)
  (A1:nsIn K mainGlobals "_law_numbers" = some (some (.ref a1)))
  (F1:l0 K "_law_numbers" "_law_numbers" (top 32) a1)
  (A2:nsIn K mainGlobals "_law_due" = some (some (.ref a2)))
  (F2:l0 K "_law_due" "_law_due" (top 33) a2)
  (A3:nsIn K mainGlobals "_law_line" = some (some (.ref a3)))
  (F3:l0 K "_law_line" "_law_line" (top 30) a3)
  (A4:nsIn K mainGlobals "_law_sign" = some (some (.ref a4)))
  (F4:l0 K "_law_sign" "_law_sign" (top 29) a4)
  (A5:nsIn K mainGlobals "_law_odd" = some (some (.ref a5)))
  (F5:l0 K "_law_odd" "_law_odd" (top 35) a5)
  (A6:nsIn K mainGlobals "_law_changed" = some (some (.ref a6)))
  (F6:l0 K "_law_changed" "_law_changed" (top 36) a6)
  (XG7:L2.lO K a7)
  (A7:nsIn K mainGlobals "BadRow" = some (some (.ref a7))) (XI7:findIn K (.ref a7) "__init__" = some (some (.ref b7))) (XT7:l0 K "__init__" "BadRow.__init__" PM b7) (XM7:L2.wK K a7 X1 b7 T7) (XQ7:findIn K (.ref a7) "row" = some none)
  (A8:nsIn K mainGlobals "is_written" = some (some (.ref a8)))
  (F8:l0 K "is_written" "is_written" (top 20) a8)
  (A9:nsIn K mainGlobals "numbers_at" = some (some (.ref a9)))
  (F9:l0 K "numbers_at" "numbers_at" (top 19) a9)
  (XG10:L2.lO K vO)
  (A10:nsIn K mainGlobals "TooMany" = some (some (.ref vO))) (XZ10:L2.tD K vO X1)
  (XG11:L2.lO K CV)
  (A11:nsIn K mainGlobals "NoNumber" = some (some (.ref CV))) (XI11:findIn K (.ref CV) "__init__" = some (some (.ref UY))) (XT11:l0 K "__init__" "NoNumber.__init__" GI UY) (XM11:L2.wK K CV X1 UY LS) (XQ11:findIn K (.ref CV) "number" = some none)
  (A12:nsIn K mainGlobals "is_number" = some (some (.ref Yj)))
  (F12:l0 K "is_number" "is_number" (top 11) Yj)
  (A13:nsIn K mainGlobals "refuse_numbers" = some (some (.ref Yk)))
  (F13:l0 K "refuse_numbers" "refuse_numbers" (top 10) Yk)
  (XG14:L2.lO K vP)
  (A14:nsIn K mainGlobals "Twice" = some (some (.ref vP))) (XI14:findIn K (.ref vP) "__init__" = some (some (.ref UZ))) (XT14:l0 K "__init__" "Twice.__init__" GJ UZ) (XM14:L2.wK K vP X1 UZ LU) (XQ14:findIn K (.ref vP) "tie" = some none)
  (A15:nsIn K mainGlobals "refuse_names" = some (some (.ref Yl)))
  (F15:l0 K "refuse_names" "refuse_names" (top 12) Yl)
  (A16:nsIn K mainGlobals "put_in_order" = some (some (.ref Ym)))
  (F16:l0 K "put_in_order" "put_in_order" (top 13) Ym)
  (A17:nsIn K mainGlobals "places_of" = some (some (.ref Yn)))
  (F17:l0 K "places_of" "places_of" (top 14) Yn)
  (A18:nsIn K mainGlobals "net_of" = some (some (.ref Yo)))
  (F18:l0 K "net_of" "net_of" (top 9) Yo)
  (A19:nsIn K mainGlobals "read" = some (some (.ref Yp)))
  (F19:l0 K "read" "read" (top 18) Yp)
  (A20:nsIn K mainGlobals "_law_met" = some (some (.ref WU)))
  (F20:l0 K "_law_met" "_law_met" (top 34) WU)
  (A21:nsIn K mainGlobals "_law_wholes" = some (some (.ref Yq)))
  (F21:l0 K "_law_wholes" "_law_wholes" (top 27) Yq)
  (A22:nsIn K mainGlobals "_law_same_net" = some (some (.ref Yr)))
  (F22:l0 K "_law_same_net" "_law_same_net" (top 28) Yr)
  (A23:nsIn K mainGlobals "_law_cell_at" = some (some (.ref Ys)))
  (F23:l0 K "_law_cell_at" "_law_cell_at" (top 22) Ys)
  (A24:nsIn K mainGlobals "_law_number" = some (some (.ref Yt)))
  (F24:l0 K "_law_number" "_law_number" (top 23) Yt)
  (A25:nsIn K mainGlobals "_law_poles" = some (some (.ref Yu)))
  (F25:l0 K "_law_poles" "_law_poles" (top 25) Yu)
  (A26:nsIn K mainGlobals "_law_net" = some (some (.ref Yv)))
  (F26:l0 K "_law_net" "_law_net" (top 26) Yv)
  (A27:nsIn K mainGlobals "_law_ties" = some (some (.ref Yw)))
  (F27:l0 K "_law_ties" "_law_ties" (top 24) Yw)
  (A28:nsIn K mainGlobals "law" = some (some (.ref Yx)))
  (F28:l0 K "law" "law" (top 37) Yx)
  (Z:∀x∈bltNames,nsIn K mainGlobals x=some none)
  (XA1:nsIn K mainGlobals "NetError" = some (some (.ref X1)))
  (XKA97:kitOne K (.ref a7) (.ref X1)=some true)
  (XKA914:kitOne K (.ref vP) (.ref X1)=some true)
  (XKA910:kitOne K (.ref vO) (.ref X1)=some true)
  (XKA0:kitAny K (.ref a7) ([vP,vO,CV].map Value.ref)=some false)
  (XKA1:kitAny K (.ref vP) ([vO,CV].map Value.ref)=some false)
  (XKA2:kitOne K (.ref vO) (.ref CV)=some false)
  (XS0:L2.lM K a7 a7 true)
  (XS1:L2.lM K vP a7 false)
  (XS2:L2.lM K vP vP true)
  (XS3:L2.lM K vO a7 false)
  (XS4:L2.lM K vO vP false)
  (XS5:L2.lM K vO vO true)
  (XD0:vP≠a7)
  (XD1:vO≠a7)
  (XD2:vO≠vP)
  (V0:nsIn K mainGlobals "MOST_TIES" = some (some (.int (14) tk0)))
  (V1:nsIn K mainGlobals "MOST_PLACES" = some (some (.int (8) tk1)))
  (V2:nsIn K mainGlobals "FIGURES" = some (some (.str "0123456789" tk2)))
  (V3:nsIn K mainGlobals "MOST_FIGURES" = some (some (.int (60) VQ))) :
  ∃fd:FuncData,(∀(s:Shared) (v:Value),BindsTo s fd ⟨[v],[]⟩ [("_law_script",v)])/\∀base:Heap,K.In base->base.Ns mainGlobals mg->fK l.prog w K mg base Hr 58 fa fd ["_law_script"] (UL K):=by
 have e:=hfa.symm.trans (aap X G A28);cases e;obtain⟨cl,hcl⟩:∃cl:Nat->Addr,cl=λn=>if n=1007 then a7 else if n=1010 then vO else if n=1011 then CV else if n=1014 then vP else 0:=⟨_,rfl⟩
 have T:Base K cl mg cons tb:=by
  subst hcl;refine⟨λx hx=>?_,λp hp=>?_,λc hc=>?_,λp hp=>?_,λp hp=>?_,λp hp=>?_⟩
  ·exact mg_none_of X G (Z x hx)
  ·simp only[cons,mem_cons,not_mem_nil,or_false]at hp
   rcases hp with rfl|rfl|rfl|rfl
   ·exact⟨.int (14),_,aap X G V0,⟨_,rfl⟩,λ_ _ _=>VR.int⟩
   ·exact⟨.int (8),_,aap X G V1,⟨_,rfl⟩,λ_ _ _=>VR.int⟩
   ·exact⟨.str "0123456789",_,aap X G V2,⟨_,rfl⟩,λ_ _ _=>VR.str⟩
   ·exact⟨.int (60),_,aap X G V3,⟨_,rfl⟩,λ_ _ _=>VR.int⟩
  ·exact absurd hc (Nat.not_lt_zero _)
  ·simp[tb]at hp
  ·simp[tb]at hp
  ·simp[tb]at hp
 obtain⟨fd,F⟩:=F28;obtain⟨_,_,_,_,_,_,_,_,_,e,_⟩:=F.ex;refine⟨fd,λs v=>by rw[e];exact .of_eq rfl,λbase _ _=>?_⟩;have G0:cj l.prog w ⟨K,cl⟩ mg base 0 Tz:=all_nil;have G1:cj l.prog w ⟨K,cl⟩ mg base 2 TF:=cW (x:="_law_read") (N:=Pn) (ps:=["_law_word"]) (body:=gG) T G0 F0 (aap X G A0) c0 d0 (by decide) (by intro _ _ _ _ _ _ _ l;apply EZ l;intros;rfl);have G2:cj l.prog w ⟨K,cl⟩ mg base 4 TH:=cW (x:="_law_numbers") (N:=Po) (ps:=Tv) (body:=fh) T G1 F1 (aap X G A1) c1 d1 (by decide) (by intro _ _ _ _ _ _ _ l;apply Ws l;intros;rfl);have G3:cj l.prog w ⟨K,cl⟩ mg base 6 TJ:=cW (x:="_law_due") (N:=Pp) (ps:=["_law_rows"]) (body:=fY) T G2 F2 (aap X G A2) c2 d2 (by decide) (by intro _ _ _ _ _ _ _ l;apply EZ l;intros;rfl);have G4:cj l.prog w ⟨K,cl⟩ mg base 8 TL:=cW (x:="_law_line") (N:=FN) (ps:=FN) (body:=iW) T G3 F3 (aap X G A3) c3 d3 (by decide) (by intro _ _ _ _ _ _ _ l;apply ln2 l;intros;rfl);have G5:cj l.prog w ⟨K,cl⟩ mg base 10 TM:=cW (x:="_law_sign") (N:=Pq) (ps:=["_law_cell"]) (body:=iX) T G4 F4 (aap X G A4) c4 d4 (by decide) (by intro _ _ _ _ _ _ _ l;apply EZ l;intros;rfl);have G6:cj l.prog w ⟨K,cl⟩ mg base 12 TN:=cW (x:="_law_odd") (N:=Pu) (ps:=["_law_cell"]) (body:=iY) T G5 F5 (aap X G A5) c5 d5 (by decide) (by intro _ _ _ _ _ _ _ l;apply EZ l;intros;rfl);have G7:cj l.prog w ⟨K,cl⟩ mg base 14 UX:=cW (x:="_law_changed") (N:=Pw) (ps:=["_law_rows","_law_way","_law_cell"]) (body:=dj) T G6 F6 (aap X G A6) c6 d6 (by decide) (by intro _ _ _ _ _ _ _ l;apply Ws l;intros;rfl);have G8:cj l.prog w ⟨K,cl⟩ mg base 16 TQ:=u7 (x:="BadRow") (g:="row") G7 (by rw[show cl (1000+UX.length)=a7 by rw[hcl];rfl];exact⟨aap X G A7,X1,b7,T7,_,["self","row"],XM7,zF (k:=15) (aaO XT7) ZW (by decide) WQ rfl rfl,(aaO XT7).binds (by intro _ _ _ _ _ _ _ l;apply ln2 l;intros;rfl),rfl,XQ7⟩);have G9:cj l.prog w ⟨K,cl⟩ mg base 18 TR:=cW (x:="is_written") (N:=["text"]) (ps:=["text"]) (body:=dO) T G8 F8 (aap X G A8) c8 d8 (by decide) (by intro _ _ _ _ _ _ _ l;apply EZ l;intros;rfl);have G10:cj l.prog w ⟨K,cl⟩ mg base 20 Ky:=cW (x:="numbers_at") (N:=Px) (ps:=["rows","at","word","many"]) (body:=dQ) T G9 F9 (aap X G A9) c9 d9 (by decide) (by intro _ _ _ _ _ _ _ l;apply XH l;intros;rfl);have G11:cj l.prog w ⟨K,cl⟩ mg base 22 Kz:=EY (x:="TooMany") G10 (by rw[show cl (1000+Ky.length)=vO by rw[hcl];rfl];exact⟨aap X G A10,X1,XZ10⟩);have G12:cj l.prog w ⟨K,cl⟩ mg base 24 Gd:=u7 (x:="NoNumber") (g:="number") G11 (by rw[show cl (1000+Kz.length)=CV by rw[hcl];rfl];exact⟨aap X G A11,X1,UY,LS,_,["self","number"],XM11,zF (k:=23) (aaO XT11) WR (by decide) T5 rfl rfl,(aaO XT11).binds (by intro _ _ _ _ _ _ _ l;apply ln2 l;intros;rfl),rfl,XQ11⟩);have G13:cj l.prog w ⟨K,cl⟩ mg base 26 Ge:=cW (x:="is_number") (N:=["number"]) (ps:=["number"]) (body:=fj) T G12 F12 (aap X G A12) c12 ZX (by decide) (by intro _ _ _ _ _ _ _ l;apply EZ l;intros;rfl);have G14:cj l.prog w ⟨K,cl⟩ mg base 28 KA:=cW (x:="refuse_numbers") (N:=Py) (ps:=t6) (body:=bI) T G13 F13 (aap X G A13) ZY ZZ (by decide) (by intro _ _ _ _ _ _ _ l;apply ln2 l;intros;rfl);have G15:cj l.prog w ⟨K,cl⟩ mg base 30 Gf:=u7 (x:="Twice") (g:="tie") G14 (by rw[show cl (1000+KA.length)=vP by rw[hcl];rfl];exact⟨aap X G A14,X1,UZ,LU,_,["self","tie"],XM14,zF (k:=29) (aaO XT14) WS (by decide) T6 rfl rfl,(aaO XT14).binds (by intro _ _ _ _ _ _ _ l;apply ln2 l;intros;rfl),rfl,XQ14⟩);have G16:cj l.prog w ⟨K,cl⟩ mg base 32 Gg:=cW (x:="refuse_names") (N:=FO) (ps:=["ties"]) (body:=bX) T G15 F15 (aap X G A15) Z0 Z1 (by decide) (by intro _ _ _ _ _ _ _ l;apply EZ l;intros;rfl);have G17:cj l.prog w ⟨K,cl⟩ mg base 34 Gh:=cW (x:="put_in_order") (N:=FP) (ps:=t6) (body:=cO) T G16 F16 (aap X G A16) Z2 Z3 (by decide) (by intro _ _ _ _ _ _ _ l;apply ln2 l;intros;rfl);have G18:cj l.prog w ⟨K,cl⟩ mg base 36 Gi:=cW (x:="places_of") (N:=FQ) (ps:=["net"]) (body:=fk) T G17 F17 (aap X G A17) Z4 Z5 (by decide) (by intro _ _ _ _ _ _ _ l;apply EZ l;intros;rfl);have Yy:cj l.prog w ⟨K,cl⟩ mg base 38 Gj:=cW (x:="net_of") (N:=FT) (ps:=t6) (body:=iZ) T G18 F18 (aap X G A18) Z6 Z7 (by decide) (by intro _ _ _ _ _ _ _ l;apply ln2 l;intros;rfl);have Yz:cj l.prog w ⟨K,cl⟩ mg base 40 Gk:=cW (x:="read") (N:=FU) (ps:=["rows"]) (body:=gB) T Yy F19 (aap X G A19) Yh Yi (by decide) (by intro _ _ _ _ _ _ _ l;apply EZ l;intros;rfl);have XC7:cl (1000+7)=a7:=by rw[hcl];rfl
 have WW:cl (1000+14)=vP:=by rw[hcl];rfl
 have WX:cl (1000+10)=vO:=by rw[hcl];rfl
 have XMK:Pg K mg (cl (1000+7)) (cl (1000+14)) (cl (1000+10)) X1 CV [vP,vO,CV] [vO,CV]:=by rw[XC7,WW,WX];exact⟨XG7,XG14,XG10,aap X G A7,aap X G A14,aap X G A10,aap X G XA1,aap X G A11,XQ7,XQ14,⟨_,_,rfl,aap X G A14,_,_,rfl,aap X G A10,_,_,rfl,aap X G A11,rfl⟩,⟨_,_,rfl,aap X G A10,_,_,rfl,aap X G A11,rfl⟩,show 3<=20 by decide,show 2<=20 by decide,⟨XKA97,XKA0⟩,⟨XKA914,XKA1⟩,⟨XKA910,XKA2⟩,XS0,XS1,XS2,XS3,XS4,XS5,XD0,XD1,XD2⟩
 have G21:cj l.prog w ⟨K,cl⟩ mg base 42 Gm:=pS (r0:=("_law_met",1,vv)) Yz (.inl ⟨by decide,WU,_,["_law_rows"],rfl,aap X G A20,F20.kp,(aaO F20).binds (by intro _ _ _ _ _ _ _ l;apply EZ l;intros;rfl),Pk T Yz (aaO F20) Z8 hbM Z9 hRM hlM hgM (mg_none_of X G (Z _ (by decide))) XMK ((ET T Yy (aaO F19) Yh Yi).mono (by decide)) ((aaO F19).binds (by intro _ _ _ _ _ _ _ l;apply EZ l;intros;rfl)) (aap X G A19) F19.kp⟩);have G22:cj l.prog w ⟨K,cl⟩ mg base 44 Gn:=cW (x:="_law_wholes") (N:=xU) (ps:=xU) (body:=fZ) T G21 F21 (aap X G A21) c21 d21 (by decide) (by intro _ _ _ _ _ _ _ l;apply ln2 l;intros;rfl);have G23:cj l.prog w ⟨K,cl⟩ mg base 46 Gp:=cW (x:="_law_same_net") (N:=xV) (ps:=xV) (body:=dR) T G22 F22 (aap X G A22) c22 d22 (by decide) (by intro _ _ _ _ _ _ _ l;apply ln2 l;intros;rfl);have G24:cj l.prog w ⟨K,cl⟩ mg base 48 Gq:=cW (x:="_law_cell_at") (N:=xW) (ps:=xW) (body:=fm) T G23 F23 (aap X G A23) c23 d23 (by decide) (by intro _ _ _ _ _ _ _ l;apply ln2 l;intros;rfl);have G25:cj l.prog w ⟨K,cl⟩ mg base 50 Gs:=cW (x:="_law_number") (N:=FW) (ps:=["_law_script","_law_seat","_law_k"]) (body:=f6) T G24 F24 (aap X G A24) c24 d24 (by decide) (by intro _ _ _ _ _ _ _ l;apply Ws l;intros;rfl);have G26:cj l.prog w ⟨K,cl⟩ mg base 52 Gu:=cW (x:="_law_poles") (N:=FY) (ps:=["_law_script","_law_many"]) (body:=gQ) T G25 F25 (aap X G A25) c25 d25 (by decide) (by intro _ _ _ _ _ _ _ l;apply ln2 l;intros;rfl);have G27:cj l.prog w ⟨K,cl⟩ mg base 54 Gv:=cW (x:="_law_net") (N:=FZ) (ps:=["_law_poles_here","_law_ties_here"]) (body:=ki) T G26 F26 (aap X G A26) c26 d26 (by decide) (by intro _ _ _ _ _ _ _ l;apply ln2 l;intros;rfl);have G28:cj l.prog w ⟨K,cl⟩ mg base 56 KC:=cW (x:="_law_ties") (N:=F7) (ps:=LQ) (body:=ja) T G27 F27 (aap X G A27) c27 d27 (by decide) (by intro _ _ _ _ _ _ _ l;apply XH l;intros;rfl);exact(JQ (ET T G28 F c28 d28)).imp (Ow hφ)
end
end K06
end
section
open PySem L2 Hv
set_option hygiene false
local macro_rules | `(tactic| simp only[EV,$ls,*] $[$l:location]?)=>`(tactic| simp only[cD,E5,O7,zA,O8,SN,SO,SQ,SS,SV,SW,Fx,SX,OZ,O0,Wx,SY,S0,aB,aZ,u9,aL,om,fB,E6,JU,JT,pK,XJ,LJ,aR,OX,eZ,Kl,OY,isVar,jZ,List.getElem?_cons_zero,getElem?_cons_succ,List.set_cons_zero,List.set_cons_succ,map_cons,map_nil,length_cons,length_nil,cons_append,nil_append,List.replicate_succ,List.replicate_zero,Nat.reduceSub,Nat.reduceAdd,Nat.reduceLeDiff,S4,S5,Wy,Wz,WA,WB,WC,S6,S7,S8,Fy,S9,Tc,Td,Te,O3,O4,O5,O6,Km,Tf,l6,bU,qR,Wt,cJ,mV,Hv.stored,List.contains_nil,contains_cons,List.elem_nil,List.elem_cons,Nat.reduceBEq,Nat.reduceEqDiff,BEq.rfl,all_cons,List.all_nil,beq_self_eq_true,AO,cF,vc,lF,oq,↓reduceIte,Bool.and_true,Bool.true_and,Bool.false_and,Bool.and_false,Bool.or_false,Bool.false_or,Bool.or_true,Bool.true_or,Bool.or_self,zero_le,Bool.not_true,Bool.not_false,false_eq_true,decide_eq_true_eq,not_eq_true',decide_eq_false_iff_not,List.append_nil,nil_append,reduceCtorEq,$ls,*] $[$l:location]?)
section
open PySem L2 Hv
namespace K06
def cellAt(ns:List Int)(k:Nat):Int:=ns.getD k 0
theorem iB(ns:List Int)(k:Nat):aX [.rl (ns.map .int),.int k]=.ok (true,.int (cellAt ns k)):=by
 unfold aX fm
 by_cases h:k<ns.length
 ·have e:jC (List.map Val.int ns) (k:Int)=some (.int (ns[k])):=jk (by simp[h])
  have h':(k:Int)<ns.length:=by omega
  simp only[EV,fW e,length_map,h',cellAt,List.getD,List.getElem?_eq_getElem h,Option.getD_some]
 ·have h':¬ (k:Int)<ns.length:=by omega
  have e:ns[k]?=none:=by simp;omega
  simp only[EV,length_map,h',cellAt,List.getD,e,getD_none]
def number(ns:List Int)(mh:Nat)(k:Int):Int :=
 let one:=cellAt ns mh
 let two:=cellAt ns (mh+1)
 let step:=if 0<one%3 then one%10 ^ 57+1 else 1
 let shift:=if 0<two%3 then two%10 ^ 57 else 0
 let here:=step*(((1+two/3%66)*k+one/3%67)%67)+shift
 if two%7=3 then 10 ^ 60-1-here else here
theorem CW(a b:Int)(h:0<=b/\b<67):fD a b=true:=by
 unfold fD;simp only[or_eq_true,and_eq_true,decide_eq_true_eq];right;omega
theorem zN(a b:Int)(h:0<=a/\a<67):fD a b=true:=by
 unfold fD;simp only[or_eq_true,and_eq_true,decide_eq_true_eq];left;omega
theorem je(ns:List Int)(mh:Nat)(k:Int):fQ [.rl (ns.map .int),.int mh,.int k]=.ok (true,.int (number ns mh k)):=by
 have c1:=iB ns mh;have c2:aX [.rl (ns.map .int),.int ((mh:Int)+1)]=.ok (true,.int (cellAt ns (mh+1))):=iB ns (mh+1);unfold fQ f6 number;generalize h1:cellAt ns mh=one at *;generalize h2:cellAt ns (mh+1)=two at *;have m1:fD (1+two/3%66) k=true:=zN _ _ (by omega);have m2:∀x,fD x (((1+two/3%66)*k+one/3%67)%67)=true:=λx=>CW _ _ (by omega);simp only[EV,jH,c1,c2,iU (show decide ((0:Int)<3)=true by decide),iU (show decide ((0:Int)<7)=true by decide),iU (show decide ((0:Int)<66)=true by decide),iU (show decide ((0:Int)<67)=true by decide),oz (show mU 3=true by decide),xO (show decide ((0:Int)<=57/\(57:Int)<=1000000/\(10:Int).natAbs<2 ^ 64)=true by decide),xO (show decide ((0:Int)<=60/\(60:Int)<=1000000/\(10:Int).natAbs<2 ^ 64)=true by decide),qW m1,qW (m2 _),iU (show decide ((0:Int)<10 ^ (57:Int).toNat)=true by decide)]
 repeat' split
 all_goals first|rfl|contradiction
def Sm(i:Int):Prop:=0<=i/\i<10 ^ 60
theorem dF(ns:List Int)(mh:Nat)(k:Int):Sm (number ns mh k):=by
 unfold number Sm;generalize cellAt ns mh=one;generalize cellAt ns (mh+1)=two;dsimp only;have hs:∀st m sh:Int,(0<=st/\st<=10 ^ 57)->(0<=m/\m<67)->(0<=sh/\sh<10 ^ 57)->0<=st*m+sh/\st*m+sh<10 ^ 60:=λst m sh h1 h2 h3=>by
  have a:=Int.mul_nonneg h1.1 h2.1;have b:st*m<=10 ^ 57*66:=Int.mul_le_mul h1.2 (by omega) h2.1 (by decide);omega
 have:=hs (if 0<one%3 then one%10 ^ 57+1 else 1) (((1+two/3%66)*k+one/3%67)%67) (if 0<two%3 then two%10 ^ 57 else 0) (by split<;>omega) (by omega) (by split<;>omega);revert this;generalize (if 0<one%3 then one%10 ^ 57+1 else 1)*(((1+two/3%66)*k+one/3%67)%67)+(if 0<two%3 then two%10 ^ 57 else 0)=x;intro this
 split<;>omega
theorem rG:∀(i:Nat) (ms:List Int) (pre post:List Val) (x:Val),cR i (ms.map .int)=pre++x::post->∃c:Int,x=.tup [.int ((i+pre.length:Nat):Int),.int c]
 |_,[],pre,post,x,h=>by simp[cR]at h
 | i,d::r,[],post,x,h=>by
  rw[aar,cR,nil_append]at h;injection h with h _
  exact⟨d,by rw[<-h];rfl⟩
 | i,d::r,y::pre,post,x,h=>by
  rw[aar,cR,cons_append]at h;injection h with _ h
  obtain⟨c,e⟩:=rG (i+1) r pre post x h;exact⟨c,by rw[e,aaB];congr 4;omega⟩
theorem KR(ns:List Int)(start most many:Int)(h0:0<=start)(h1:0<=most)(h2:most<=16)(hm:decide (0<many)=true):∃(f:Bool) (ts:List T3),ku [.rl (ns.map .int),.int start,.int most,.int many]=.ok (f,.rl (ts.map aM))/\ts.length<=16/\∀t∈ts,∀i∈l3 t,Sm i:=by
 unfold ku ja;simp only[EV,kh,Tg,ng];rw[Fw];obtain⟨m,rfl⟩:=Int.eq_ofNat_of_zero_le h1;have hlen:=CL ns start m h0;generalize cV ns (some start) (some (start+(m:Int)))=cs at *;have hx:cR 0 (cs.map Val.int)=(cR 0 (cs.map Val.int)).map id:=(map_id _).symm;rw[hx];refine oE id (λr:Pr FV=>∃(f:Bool) (ts:List T3),r=.ok (f,.rl (ts.map aM))/\ts.length<=16/\∀t∈ts,∀i∈l3 t,Sm i)
  (λdone env=>∃(ts:List T3) (a b c d:Option (Hv.Mk×Val)),env=[some (.sh,.rl (ns.map .int)),some (.sh,.int start),some (.sh,.int m),some (.sh,.int many),some (.ow,.rl (ts.map aM)),a,b,c,d]/\ts.length=done.length/\∀t∈ts,∀i∈l3 t,Sm i)
  ⟨[],none,none,none,none,rfl,rfl,λ_ z=>nomatch z⟩ ?_ ?_
 ·rintro pre x post env hx ⟨ts,a,b,c,d,rfl,hl,hsm⟩
  have hpl:pre.length<16:=by have:=congrArg length hx;rw[oB,aaf,aaE,aaB]at this;omega
  obtain⟨cell,rfl⟩:=rG _ _ _ _ _ hx;rw[zero_add];have e1:=je ns 2 (cell*48271%10007%many);have e2:=je ns 2 (cell*16807%10009%many);have e3:=je ns 0 (pre.length:Int);rw[show ((2:Nat):Int)=2 from rfl]at e1 e2;rw[show ((0:Nat):Int)=0 from rfl]at e3;have s1:=dF ns 2 (cell*48271%10007%many);have s2:=dF ns 2 (cell*16807%10009%many);have s3:=dF ns 0 (pre.length:Int);generalize en1:number ns 2 (cell*48271%10007%many)=n1 at *;generalize en2:number ns 2 (cell*16807%10009%many)=n2 at *;generalize en3:number ns 0 (pre.length:Int)=n3 at *;have z3:3<=sizeLine:=by decide
  have m1:∀x:Int,fD x 48271=true:=λx=>by unfold fD;simp
  have m2:∀x:Int,fD x 16807=true:=λx=>by unfold fD;simp
  have z:ts.length<sizeLine:=by rw[hl];unfold sizeLine;omega
  refine⟨[some (.sh,.rl (ns.map .int)),some (.sh,.int start),some (.sh,.int m),some (.sh,.int many),some (.ow,.rl ((ts++[(n3,n1,n2)]).map aM)),some (.sh,.int pre.length),some (.sh,.int cell),some (.sh,.int n1),some (.sh,.int n2)],?_,_,_,_,_,_,rfl,by rw[aaE,aaE,hl];rfl,λt ht i hi=>?_⟩
  rotate_left
  ·rcases mem_append.mp ht with z|z
   ·exact hsm t z i hi
   ·rw[aay.mp z]at hi
    simp only[l3,mem_cons,not_mem_nil,or_false]at hi
    rcases hi with rfl|rfl|rfl<;>assumption
  simp only[EV,id,O9,l9,qW (m1 _),qW (m2 _),iU hm,iU (show decide ((0:Int)<10007)=true by decide),iU (show decide ((0:Int)<10009)=true by decide),e1,e2,e3,length_map,z,z3,map_append,aM]
 ·rintro env ⟨ts,a,b,c,d,rfl,hl,hsm⟩;refine⟨_,ts,by simp only[EV,aR];rfl,?_,hsm⟩;rw[hl,oB,aaf];omega
theorem GK(ns:List Int)(many:Int):∃f p q,jd [.rl (ns.map .int),.int many]=.ok (f,.tup [.int p,.int q])/\Sm p/\Sm q:=by
 have e1:=je ns 2 0;have e2:=je ns 2 1;rw[show ((2:Nat):Int)=2 from rfl]at e1 e2;have c1:aX [.rl (ns.map .int),.int 4]=.ok (true,.int (cellAt ns 4)):=iB ns 4;have z:2<=sizeLine:=by decide
 unfold jd gQ;simp only[EV,kB,k8,e1,e2,c1,oz (show mU 8=true by decide),iU (show decide ((0:Int)<5)=true by decide)];simp(config:={decide:=false}) only [z,if_true]
 by_cases h1:many=1
 ·exact⟨true,number ns 2 0,number ns 2 0,by simp[h1],dF ..,dF ..⟩
 ·by_cases h2:cellAt ns 4/8%5=4
  ·exact⟨true,number ns 2 0,number ns 2 0,by simp[h1,h2],dF ..,dF ..⟩
  ·exact⟨true,number ns 2 0,number ns 2 1,by simp[h1,h2],dF ..,dF ..⟩
theorem PN{p q:Int}{ts:List T3}(hl:ts.length<=63):nv [.tup [.int p,.int q],.rl (ts.map aM)]=.ok (true,iL (min p q) (max p q) (gO (ts.map turnT))):=by
 unfold nv ki;have z:2<=sizeLine:=by decide
 have z3:3<=sizeLine:=by decide
 have hc:ts.length<=100000:=by omega
 simp only[EV,gu,length_map,hc,fH];rw[bL aM (λt=>aM (turnT t)) ts (λt ht=>by
  simp only[EV,vq,z3];rfl)]
 have em:ts.map (λt=>aM (turnT t))=(ts.map turnT).map aM:=by rw[map_map];rfl
 rw[em];simp only[EV,z,xT (show (ts.map turnT).length<64 by rw[length_map];omega)];rfl
theorem order_eq{p q:Int}{us:List T3}(hl:us.length<=20):cZ [.tup [.int p,.int q],.rl (us.map aM)]=.ok (true,iL (if q<p then q else p) (if q>p then q else p) (gO (us.map turnT))):=by
 unfold cZ cO;have z0:0<=sizeLine:=by decide
 have z2:2<=sizeLine:=by decide
 have z3:3<=sizeLine:=by decide
 simp only[EV,gu];rw[Fw];refine oE aM (λr:Pr FV=>r=.ok (true,iL (if q<p then q else p) (if q>p then q else p) (gO (us.map turnT))))
  (λdone env=>∃a b c,env=[some (.sh,.tup [.int p,.int q]),some (.sh,.rl (us.map aM)),some (.ow,.rl ((done.map turnT).map aM)),a,b,c])
  ⟨none,none,none,rfl⟩ ?_ ?_
 ·rintro pre t post env hx ⟨a,b,c,rfl⟩
  have hpl:pre.length<20:=by have:=congrArg length hx;rw[aaE,aaB]at this;omega
  have z:((pre.map turnT).map aM).length<sizeLine:=by rw[aaf,aaf];unfold sizeLine;omega
  refine⟨[some (.sh,.tup [.int p,.int q]),some (.sh,.rl (us.map aM)),some (.ow,.rl (((pre++[t]).map turnT).map aM)),some (.sh,.int t.1),some (.sh,.int t.2.1),some (.sh,.int t.2.2)],?_,_,_,_,rfl⟩;have ea:((pre++[t]).map turnT).map aM=(pre.map turnT).map aM++[aM (turnT t)]:=by simp
  simp only[EV,vq,z3,z,ea];rfl
 ·rintro env ⟨a,b,c,rfl⟩;simp only[EV,jB jF,jB CI,z2,xT (show (us.map turnT).length<64 by rw[length_map];omega)];rfl
def bg(p q:Int)(ts:List T3):List Int:=p::q::ts.flatMap λt=>[t.2.1,t.2.2]
def U0(p q:Int)(ts:List T3):List Int:=jD (bg p q ts)
theorem oJ(p q:Int)(ts:List T3):(bg p q ts).length=2+2*ts.length:=by
 unfold bg
 induction ts with
 |nil=>rfl
 |cons t r ih=>simp only[List.flatMap_cons,length_cons,length_append,length_nil] at *;omega
theorem yh:∀(ns ks:List Int),(bD ks ns).length<=ks.length+ns.length
 |[],ks=>aal _
 | k::r,ks=>by
  rw[bD,aaB];have:=yh r (jQ ks k);have:=mP ks k;omega
theorem places_eq{p q:Int}(h:ts.length<=20):gc [iL p q ts]=.ok (true,.rl ((U0 p q ts).map .int)):=by
 unfold gc fk iL;simp only[EV,jB jF,jB CI,gu];rw[Fw];refine oE aM (λr:Pr FV=>r=.ok (true,.rl ((U0 p q ts).map .int)))
  (λdone env=>∃a,env=[some (.sh,iL p q ts),some (.ow,.rl ((bg p q done).map .int)),a])
  ⟨none,rfl⟩ ?_ ?_
 ·rintro pre t post env hx ⟨a,rfl⟩
  refine⟨[some (.sh,iL p q ts),some (.ow,.rl ((bg p q (pre++[t])).map .int)),some (.sh,aM t)],?_,_,rfl⟩;have hpl:pre.length<20:=by have:=congrArg length hx;rw[aaE,aaB]at this;omega
  have z:((bg p q pre).map Val.int).length+2<=sizeLine:=by rw[aaf,oJ];unfold sizeLine;omega
  have ea:(bg p q (pre++[t])).map Val.int=(bg p q pre).map Val.int++[.int t.2.1,.int t.2.2]:=by unfold bg;simp
  simp only[EV,bC,Pa,z,ea]
 ·rintro env ⟨a,rfl⟩
  have hl:(bg p q ts).length<64:=by rw[oJ];omega
  simp only[EV,ints_map,hl];rfl
theorem tyi(t:Int):fy (.isin "int") [.int t]=.ok (true,.bl true):=oA (t:="int") rfl (by decide)
theorem WY(t:Int):fy (.isin "bool") [.int t]=.ok (true,.bl false):=zy (t:="int") rfl (by decide)
theorem YA(vs:List Val):fy (.isin "tuple") [.tup vs]=.ok (true,.bl true):=oA (t:="tuple") rfl (by decide)
theorem tyl(vs:List Val):fy (.isin "list") [.rl vs]=.ok (true,.bl true):=oA (t:="list") rfl (by decide)
theorem ua(xs:List Int)(hl:xs.length<=100000):eE [.tup (xs.map .int),.int xs.length]=.ok (true,.bl true):=by
 unfold eE fZ;simp only[EV,YA,length_map,decide_true,LM,hl,fH];rw[bL Val.int (λ_=>Val.bl true) xs (λx hx=>by
  simp only[EV,bC,tyi,WY])]
 simp only[EV,all_true]
theorem yi{p q:Int}(hl:ts.length<=20):dz [iL p q ts,iL p q ts]=.ok (true,.bl true):=by
 have w2:eE [.tup [.int p,.int q],.int 2]=.ok (true,.bl true):=ua [p,q] (by simp);have w3:∀t:T3,eE [aM t,.int 3]=.ok (true,.bl true):=λt=>ua (l3 t) (by simp[l3]);have YB:cop [] .eq (iL p q ts) (iL p q ts)=some true:=by
  have:=Kr p q ts;change (cop [] .eq (iL p q ts) (iL p q ts)).map _=_ at this;cases h:cop [] .eq (iL p q ts) (iL p q ts) with
  |none=>rw[h]at this;cases this
  |some b=>rw[h]at this;cases b<;>simp_all
 unfold dz dR;have hc:ts.length<=100000:=by omega
 have ed:iL p q ts=.tup [.tup [.int p,.int q],.rl (ts.map aM)]:=rfl;rw[ed] at YB;rw[ed];simp only[EV,YA,tyl,jB jF,jB CI,fq,w2,decide_true,gu,show ((2:Nat):Int)=2 from rfl,length_map,hc,fH];rw[bL aM (λ_=>Val.bl true) ts (λt ht=>by
  simp only[EV,bC,fq,w3])]
 simp only[EV,all_true,YB]
end K06
end
section
open PySem L2 Hv
namespace K06
def dW{α:Type}(bad:List α -> α -> Bool):List α -> List α -> Option α
 |_,[]=>none
 |done,u::r=>if bad done u=true then some u else dW bad (done++[u]) r
theorem kR{α:Type}(enc:α -> Val)(Q:List α -> bh->Prop)(bad:List α -> α -> Bool)(stop:α -> Pr JS)(hs:∀u,(∃c ds,stop u=.exc c ds)\/∃r,stop u=.ok (.rt r)) :
  ∀(us done:List α) (env:bh),Q done env->(∀pre u post env,us=pre++u::post->Q (done++pre) env->if bad (done++pre) u=true then body (enc u) env=stop u else ∃env',body (enc u) env=.ok (.nx env')/\Q (done++pre++[u]) env') ->
  (∃u,dW bad done us=some u/\iR body (us.map enc) env=stop u)\/(dW bad done us=none/\∃env',iR body (us.map enc) env=.ok (.nx env')/\Q (done++us) env')
 |[],done,env,q,_=>.inr ⟨rfl,env,by rw[map_nil,iR],by rw[aaP];exact q⟩
 | u::us,done,env,q,h=>by
  have h0:=h [] u us env rfl (by rw[aaP];exact q);rw[aaP]at h0;rw[aar,iR,dW]
  by_cases c:bad done u=true
  ·rw[aan c]at h0 |-
   refine .inl ⟨u,rfl,?_⟩;rw[h0]
   rcases hs u with ⟨cc,ds,e⟩|⟨r,e⟩<;>rw[e]<;>rfl
  ·rw[aaj c]at h0 |-
   obtain⟨env',e,q'⟩:=h0;rw[e,aR];have:=kR enc Q bad stop hs us (done++[u]) env' q' λpre v post iK e2 q2=>by
    have:=h (u::pre) v post iK (by rw[e2];rfl) (by rw[show done++u::pre=done++[u]++pre by simp];exact q2);rw[show done++u::pre=done++[u]++pre by simp]at this;exact this
   rcases this with ⟨v,e1,e2⟩|⟨e1,iK,e2,q2⟩
   ·exact .inl ⟨v,e1,e2⟩
   ·exact .inr ⟨e1,iK,e2,by rw[show done++u::us=done++[u]++us by simp];exact q2⟩
def good(n:Int):Bool:=decide (0<=n)&&decide (n<10 ^ 60)
def yj(_:List Int)(n:Int):Bool:=!good n
def mj(done:List T3)(t:T3):Bool:=decide (t.1∈done.map (·.1))
theorem vF(x:Int):gb [.int x]=.ok (true,.bl (good x)):=by
 unfold gb fj good;have e:(10:Int) ^ (60:Int).toNat=10 ^ 60:=rfl
 by_cases h0:(0:Int)<=x
 ·simp only[EV,xO (show decide ((0:Int)<=60/\(60:Int)<=1000000/\(10:Int).natAbs<2 ^ 64)=true by decide),h0,decide_true,e]
 ·simp only[EV,xO (show decide ((0:Int)<=60/\(60:Int)<=1000000/\(10:Int).natAbs<2 ^ 64)=true by decide),h0,decide_false,e]
def fu(p q:Int)(us:List T3):List Int:=p::q::us.flatMap l3
theorem CY(p q:Int)(us:List T3):(fu p q us).length=2+3*us.length:=by
 unfold fu
 induction us with
 |nil=>rfl
 |cons t r ih=>simp only[List.flatMap_cons,length_cons,length_append,l3,length_nil] at *;omega
theorem WZ{i:Int}:jA [.int i]=.exc 11 [.str "number",.int i]:=rfl
theorem W0{i:Int}:pU [.int i]=.exc 14 [.str "tie",.int i]:=rfl
theorem PR:kP []=.exc 10 []:=rfl
theorem gk{α β:Type}{c:Nat}{f:α -> Pr β}:pb (.exc c ds) f=.exc c ds:=rfl
theorem aP{ms:List Nat}(h:aZ Ψ ms st env=.ok (.nx env')):aB Ψ ms (.cons st r) env=aB Ψ ms r env':=by
 rw[aB,h];rfl
theorem gU{ms:List Nat}(h:aZ Ψ ms st env=.ok (.rt v)):aB Ψ ms (.cons st r) env=.ok (.rt v):=by
 rw[aB,h];rfl
theorem yk{ms:List Nat}{c:Nat}(h:aZ Ψ ms st env=.exc c ds):aB Ψ ms (.cons st r) env=.exc c ds:=by
 rw[aB,h];rfl
theorem kD{ms:List Nat}(hs:(AO p #[e] body&&(stored p).all λi=>!ms.contains i)=true)(hx:fB Ψ #[e] env=.ok [v])(hv:gA k [v]=some xs):aZ Ψ ms (.for p k #[e] body) env=iR (λx env=>pb (pl (bE p x env)) λenv'=>aB Ψ ms body env') xs env:=by
 rw[aZ,hs,hx];show pb (pl (gA k [v])) _=_;rw[hv];rfl
theorem T8:bI=.cons (.asg (.one 2) (.blt .list #[!0])) #[.for (.one 3) .seq #[!1] bA,.for (.one 4) .seq #[!2] bN]:=rfl
abbrev pV(p q:Int):Val:=.tup [.int p,.int q]
theorem nD{p q:Int}(hl:us.length<=20):cC [pV p q,.rl (us.map aM)]=(match dW yj [] (fu p q us) with|some n=>.exc 11 [.str "number",.int n]|none=>.ok (true,.non)):=by
 unfold cC cD;rw[show cF bI=[2] by decide +kernel,T8];show pb (aB (af vz) [2] _ [some (.sh,pV p q),some (.sh,.rl (us.map aM)),none,none,none]) _=_;rw[aP (env':=[some (.sh,pV p q),some (.sh,.rl (us.map aM)),some (.ow,.rl ((fu p q []).map .int)),none,none]) (by simp only[EV,aR];rfl)];have l1:∃a,iR (λx env=>pb (pl (bE (.one 3) x env)) λenv'=>aB (af vz) [2] bA env') (us.map aM) [some (.sh,pV p q),some (.sh,.rl (us.map aM)),some (.ow,.rl ((fu p q []).map .int)),none,none]=.ok (.nx [some (.sh,pV p q),some (.sh,.rl (us.map aM)),some (.ow,.rl ((fu p q us).map .int)),a,none]):=by
  obtain⟨env',e,a,rfl⟩:=iV aM (body:=λx env=>pb (pl (bE (.one 3) x env)) λenv'=>aB (af vz) [2] bA env') (λdone env=>∃a,env=[some (.sh,pV p q),some (.sh,.rl (us.map aM)),some (.ow,.rl ((fu p q done).map .int)),a,none]) us [] _ ⟨none,rfl⟩ (by
   rintro pre t post env hx ⟨a,rfl⟩;have hpl:pre.length<20:=by have:=congrArg length hx;rw[nil_append]at this;rw[aaE,aaB]at this;omega
   refine⟨[some (.sh,pV p q),some (.sh,.rl (us.map aM)),some (.ow,.rl ((fu p q (pre++[t])).map .int)),some (.sh,aM t),none],?_,_,rfl⟩;have z:((fu p q pre).map Val.int).length+3<=sizeLine:=by rw[aaf,CY];unfold sizeLine;omega
   have ea:(fu p q (pre++[t])).map Val.int=(fu p q pre).map Val.int++[.int t.1,.int t.2.1,.int t.2.2]:=by unfold fu;simp[l3]
   unfold bA;simp only[EV,bC,aM,z,ea])
  exact⟨a,e⟩
 obtain⟨a,l1⟩:=l1;rw[aP (Eq.trans (kD (by decide +kernel) (by simp only[EV,aR]) gu) l1)];have st:=kR Val.int (body:=λx env=>pb (pl (bE (.one 4) x env)) λenv'=>aB (af vz) [2] bN env')
   (λ_ env=>∃b,env=[some (.sh,pV p q),some (.sh,.rl (us.map aM)),some (.ow,.rl ((fu p q us).map .int)),a,b]) yj (λn=>.exc 11 [.str "number",.int n]) (λu=>.inl ⟨_,_,rfl⟩) (fu p q us) []
   [some (.sh,pV p q),some (.sh,.rl (us.map aM)),some (.ow,.rl ((fu p q us).map .int)),a,none] ⟨none,rfl⟩ (by
    rintro pre x post env hx ⟨b,rfl⟩;have e:=vF x;have ln:af vz 11=jA:=rfl;unfold bN
    by_cases c:good x=true
    ·rw[aaj (by unfold yj;rw[c];decide)];refine⟨_,?_,some (.sh,.int x),rfl⟩;simp only[EV,bC,cS,e,c]
    ·rw[aan (by unfold yj;simp[c])]
     have c:good x=false:=by simpa using c
     simp only[EV,bC,cS,e,c,ln,WZ,gk])
 rcases st with ⟨u,e1,e2⟩|⟨e1,env',e2,_⟩
 ·rw[e1,yk (Eq.trans (kD (by decide +kernel) (by simp only[EV,aR]) gu) e2)];rfl
 ·rw[e1,aP (Eq.trans (kD (by decide +kernel) (by simp only[EV,aR]) gu) e2),aB];rfl
theorem T9:bX=.cons (.asg (.one 1) .dct0) #[.for (.one 2) .seq #[!0] bT]:=rfl
theorem pJ{us:List T3}(hl:us.length<=20):cY [.rl (us.map aM)]=(match dW mj [] us with|some t=>.exc 14 [.str "tie",.int t.1]|none=>.ok (true,.non)):=by
 unfold cY cD;rw[show cF bX=[1] by decide +kernel,T9];show pb (aB (af CQ) [1] _ [some (.sh,.rl (us.map aM)),none,none]) _=_;rw[aP (env':=[some (.sh,.rl (us.map aM)),some (.ow,nj [] λ_=>.bl true),none]) (by simp only[EV,aR];rfl)];have ln:af CQ 14=pU:=rfl;have st:=kR aM (body:=λx env=>pb (pl (bE (.one 2) x env)) λenv'=>aB (af CQ) [1] bT env')
  (λdone env=>(done.map (·.1)).Nodup/\∃a,env=[some (.sh,.rl (us.map aM)),some (.ow,nj (done.map (·.1)) λ_=>.bl true),a]) mj (λt=>.exc 14 [.str "tie",.int t.1]) (λu=>.inl ⟨_,_,rfl⟩) us []
  [some (.sh,.rl (us.map aM)),some (.ow,nj [] λ_=>.bl true),none] ⟨nodup_nil,none,rfl⟩ (by
   rintro pre t post env hx ⟨hnd,a,rfl⟩;rw[nil_append]at hnd |-;have hpl:pre.length<20:=by have:=congrArg length hx;rw[aaE,aaB]at this;omega
   have ei:jt [] (aM t) (.int 0)=some (.int t.1):=jB jF;unfold bT
   by_cases c:t.1∈pre.map (·.1)
   ·rw[aan (by unfold mj;simpa using c)];simp only[EV,bC,ei,LN,c,decide_true,ln,W0,gk]
   ·rw[aaj (by unfold mj;simpa using c)]
    have z:((pre.map (·.1)).map (Sum.inl:Int->Key)).length<sizeLine:=by rw[aaf,aaf];unfold sizeLine;omega
    refine⟨[some (.sh,.rl (us.map aM)),some (.ow,nj ((pre++[t]).map (·.1)) λ_=>.bl true),some (.sh,aM t)],?_,?_,_,rfl⟩
    ·simp only[EV,bC,ei,LN,c,decide_false,Th,z,Bh c]
     rw[map_append,aar,map_nil,oF (g':=λ_=>Val.bl true)];intro y _;unfold vp
     split<;>rfl
    ·rw[map_append,aar,map_nil,nodup_append];exact⟨hnd,nodup_cons.mpr ⟨by simp,nodup_nil⟩,λa ha b hb=>by rw[aay]at hb;subst hb;exact λz=>c (z▸ha)⟩)
 rcases st with ⟨u,e1,e2⟩|⟨e1,env',e2,_⟩
 ·rw[e1,yk (Eq.trans (kD (by decide +kernel) (by simp only[EV,aR]) gu) e2)];rfl
 ·rw[e1,aP (Eq.trans (kD (by decide +kernel) (by simp only[EV,aR]) gu) e2),aB];rfl
end K06
end
section
open PySem L2 Hv
namespace K06
def uc(p q:Int)(ts:List T3):Bool:=decide (14<ts.length)||decide (8<(bD [] (bg p q ts)).length)
abbrev CZ(p q:Int)(ts:List T3):Val:=iL (if q<p then q else p) (if q>p then q else p) (gO (ts.map turnT))
theorem C0{x:Int}{ns:List Int}:x∈bD [] ns↔x∈ns:=by
 rw[<-xR x ns];unfold jD;exact(sortI_perm _).mem_iff.symm
theorem PU(p q:Int)(ts:List T3):(U0 (if q<p then q else p) (if q>p then q else p) (gO (ts.map turnT))).length=(bD [] (bg p q ts)).length:=by
 refine List.Perm.length_eq ((List.perm_ext_iff_of_nodup (zE _) (l7 _ _ nodup_nil)).mpr λx=>?_);show x∈jD _↔_;rw[xR,C0];unfold bg;simp only[mem_cons,List.mem_flatMap,not_mem_nil,or_false];have h1:(x=(if q<p then q else p)\/x=(if q>p then q else p))↔(x=p\/x=q):=by
  split<;>split<;>omega
 have h2:(∃a,a∈gO (ts.map turnT)/\(x=a.2.1\/x=a.2.2))↔∃a,a∈ts/\(x=a.2.1\/x=a.2.2):=by
  constructor
  ·rintro⟨a,ha,hx⟩
   obtain⟨b,hb,rfl⟩:=mem_map.mp ((gP _).mem_iff.mp ha);refine⟨b,hb,?_⟩;unfold turnT at hx;dsimp only at hx
   rcases hx with hx|hx<;>split at hx<;>omega
  ·rintro⟨b,hb,hx⟩
   refine⟨turnT b,(gP _).mem_iff.mpr (List.mem_map_of_mem hb),?_⟩;unfold turnT;dsimp only
   split<;>split<;>omega
 rw[h2,<-or_assoc,h1,or_assoc]
theorem C1{p q:Int}{ts:List T3}(hl:ts.length<=20):gf [pV p q,.rl (ts.map aM)]=(match dW yj [] (fu p q ts) with|some n=>.exc 11 [.str "number",.int n]|none=>(match dW mj [] ts with|some t=>.exc 14 [.str "tie",.int t.1]|none=>if uc p q ts=true then .exc 10 [] else .ok (true,CZ p q ts))):=by
 have e1:=nD (p:=p) (q:=q) hl;have e2:=pJ hl;have e3:=order_eq (p:=p) (q:=q) hl;have hs:(gO (ts.map turnT)).length<=20:=by rw[(gP _).length_eq,aaf];exact hl
 have e4:=places_eq (p:=if q<p then q else p) (q:=if q>p then q else p) hs;have ce:=PU p q ts;unfold gf iZ;cases h1:dW yj [] (fu p q ts) with
 |some n=>rw[h1]at e1;simp only[EV,bf,e1,gk]
 |none=>
  rw[h1]at e1;cases h2:dW mj [] ts with
  |some t=>rw[h2]at e2;simp only[EV,bf,bP,e1,e2,gk]
  |none=>
   rw[h2]at e2;have lm:af ya 10=kP:=rfl;have g1:(((ts.length:Nat):Int)>14)↔14<ts.length:=by omega
   have g2:((((U0 (if q<p then q else p) (if q>p then q else p) (gO (ts.map turnT))).length:Nat):Int)>8)↔8<(bD [] (bg p q ts)).length:=by rw[ce];omega
   unfold uc
   by_cases c1:14<ts.length
   ·simp only[EV,bf,bP,cK,dJ,e1,e2,e3,e4,length_map,g1,c1,decide_true,lm,PR,gk]
   ·by_cases c2:8<(bD [] (bg p q ts)).length
    ·simp only[EV,bf,bP,cK,dJ,e1,e2,e3,e4,length_map,g1,g2,c1,c2,decide_true,decide_false,lm,PR,gk]
    ·simp only[EV,bf,bP,cK,dJ,e1,e2,e3,e4,length_map,g1,g2,c1,c2,decide_true,decide_false,lm,PR,gk];rfl
theorem pB{ms:List Nat}{f:Bool}(h:u9 Ψ c env=.ok (f,.bl true)):aZ Ψ ms (.iff c a b) env=aB Ψ ms a env:=by
 rw[aZ,h,aR];show pb (pl (fS [] (.bl true))) _=_;rw[Fy,eZ,aR,aan rfl]
theorem nE{ms:List Nat}{f:Bool}(h:u9 Ψ c env=.ok (f,.bl false)):aZ Ψ ms (.iff c a .nil) env=.ok (.nx env):=by
 rw[aZ,h,aR];show pb (pl (fS [] (.bl false))) _=_;rw[Fy,eZ,aR,aaj aab,aB]
def tr:Int->Val:=λ_=>.bl true
theorem GL{ks:List Int}{x:Int}:putD (ks.map Sum.inl) (ks.map tr) (.inl x) (.bl true)=nj (jQ ks x) tr:=by
 have eu:∀y,vp tr x (.bl true) y=tr y:=λy=>by
  unfold vp
  split<;>rfl
 unfold jQ
 by_cases h:x∈ks
 ·rw[Ko h,aan h];exact oF λy _=>eu y
 ·rw[Bh h,aaj h];exact oF λy _=>eu y
theorem yl:∀(xs ys ks:List Int),bD ks (xs++ys)=bD (bD ks xs) ys
 |[],ys,ks=>rfl
 |x::r,ys,ks=>by rw[cons_append,bD,yl r ys,bD]
theorem KS(p q:Int)(pre:List T3)(t:T3):bD [] (bg p q (pre++[t]))=jQ (jQ (bD [] (bg p q pre)) t.2.1) t.2.2:=by
 have e:bg p q (pre++[t])=bg p q pre++[t.2.1,t.2.2]:=by unfold bg;simp
 rw[e,yl];rfl
theorem pl0(p q:Int):putD [Sum.inl p] [.bl true] (.inl q) (.bl true)=nj (bD [] (bg p q [])) tr:=by
 have:=GL (ks:=[p]) (x:=q);exact this
end K06
end
section
open PySem L2 Hv
namespace K06
def TX(b:Nat)(x:Str):Prop:=isAscii x=true/\x.length<=b
theorem rH(x:Str):x.cps.toList.length=x.length:=by simp[Str.length]
theorem bR:isAscii x=true↔∀c∈x.cps.toList,c<128:=by
 unfold isAscii;rw[<-all_toList,aaQ];simp only[decide_eq_true_eq]
theorem cI(h:isAscii x=true):PyData.strOk x=true:=by
 unfold PyData.strOk;rw[<-all_toList,aaQ];exact λc hc=>decide_eq_true (lt_trans (bR.mp h c hc) (by decide))
theorem TX.mono{b c:Nat}(h:TX b x)(hb:b<=c):TX c x:=⟨h.1,aaK h.2 hb⟩
theorem KU(hx:PyData.strOk x=true)(hy:PyData.strOk y=true):cop [] .eq (.str x) (.str y)=some (decide (x=y)):=by
 show ze [] (.str x) (.str y)=_;unfold ze;rw[vn hx,vn hy];show some (PyData.eqv (.str x) (.str y))=_
 congr 1
theorem C2(hx:PyData.strOk x=true)(hy:PyData.strOk y=true):cop [] .ne (.str x) (.str y)=some (!decide (x=y)):=by
 show (cop [] .eq (.str x) (.str y)).map (λb=>!b)=_;rw[KU hx hy];rfl
theorem rJ(s:Str)(c lim:Nat):∀(k a:Nat) (st:Array Nat×Nat),st.1.size<=a->(forIn (range' a k) st (StrLaws.occBody s ⟨[c].toArray⟩ s.length lim)).run.1.size<=a+k
 |0,a,st,h=>by simpa using h
 | k+1,a,st,h=>by
  rw[List.range'_succ,forIn_cons];unfold StrLaws.occBody
  split
  ·have:=rJ s c lim k (a+1) (st.1.push a,a+(⟨[c].toArray⟩:Str).length) (by rw[Array.size_push];omega);refine aaK this (by omega)
  ·have:=rJ s c lim k (a+1) (st.1,st.2) (by show st.1.size<=_;omega);refine aaK this (by omega)
theorem KW(s:Str)(c:Nat):(Builtin.Str.occurrences s ⟨[c].toArray⟩ 0 s.length (s.length+1)).length<=s.length+1:=by
 rw[StrLaws.occ_eq,aaI];have h:=rJ s c (s.length+1) (s.length+1) 0 (#[],0) (aal _);rw[zero_add]at h;exact h
def words(x:Str):List Str:=gh x " "
theorem PV{b:Nat}(h:TX b x)(i j:Nat):TX b (Builtin.Str.strSub x i j):=by
 have e:=StrLaws.strSub_toList x i j;refine⟨bR.mpr λc hc=>?_,?_⟩
 ·rw[e]at hc;exact bR.mp h.1 c (List.mem_of_mem_drop (List.mem_of_mem_take hc))
 ·rw[<-rH,e,length_take,length_drop,rH];have:=h.2;omega
theorem rK{b:Nat}(h:TX b x):(∀w∈words x,TX b w)/\(words x).length<=b+2/\words x≠[]:=by
 unfold words gh
 split
 ·exact⟨λw hw=>by rw[aay.mp hw];exact h,by simp,by simp⟩
 ·have hl:=length_partsBetween x (Builtin.Str.occurrences x " " 0 x.length (x.length+1)) (" ":Str).length
  have ho:=KW x 32;have e32:(" ":Str)=⟨[32].toArray⟩:=by decide
  rw[<-e32]at ho;refine⟨λw hw=>?_,by rw[hl];have:=h.2;omega,λz=>by rw[z]at hl;simp at hl⟩;unfold Builtin.Str.partsBetween at hw;obtain⟨p,_,rfl⟩:=mem_map.mp hw;exact PV h _ _
theorem ym{b:Nat}(h:TX b x)(hb:b<=10000):E2 (.str x) [.str " "]=.ok (true,.rl ((words x).map .str)):=by
 show pg (kJ x " ") _=_;refine d7 ?_ _;have hw:=(rK h).2.1;have:=h.2;unfold kJ;rw[h.1,show isAscii " " = true from bR.mpr (by decide),show decide ((" ":Str).length≠0)=true by decide,decide_eq_true (show x.length<=100000 by omega)];exact decide_eq_true (show (words x).length<=100000 by omega)
theorem nF:recv [] .pop (.str x)=some ():=rfl
def dg(c:Nat):Bool:=decide (48<=c)&&decide (c<=57)
def wr(w:Str):Bool:=!(decide (w = "")||decide (60<w.length))&&(!(decide (w.cps.toList.head?=some 48) && !decide (w = "0"))&&w.cps.toList.all dg)
theorem GN(c:Nat):cop [] .pN (.str ⟨[c].toArray⟩) (.str "0123456789")=some (dg c):=by
 show some (!(Builtin.Str.occurrences ("0123456789":Str) ⟨[c].toArray⟩ 0 ("0123456789":Str).length 1).isEmpty)=_;rw[StrLaws.found_one];have:("0123456789":Str).cps.toList=[48,49,50,51,52,53,54,55,56,57]:=by decide
 rw[this]
 congr 1
 unfold dg;rw[Bool.eq_iff_iff,decide_eq_true_eq];simp;omega
theorem nZ{α:Type}(f:α -> Bool)(xs:List α):fy .all [.rl (xs.map λa=>Val.bl (f a))]=.ok (true,.bl (xs.all f)):=by
 show pb (pl (cz (xs.map λa=>Val.bl (f a)))) _=_;rw[show cz (xs.map λa=>Val.bl (f a))=some (xs.map f) from fX (g:=λa=>Val.bl (f a)) (k:=f) xs λ_ _=>rfl,eZ,aR,all_map];rfl
theorem GO{b:Nat}{c:Nat}{r:List Nat}(h:TX b w)(hb:b<=10000)(ec:w.cps.toList=c::r):jt [] (.str w) (.int 0)=some (.str ⟨[c].toArray⟩)/\cop [] .eq (.str ⟨[c].toArray⟩) (.str "0")=some (decide (c=48)):=by
 have z:w.length<=sizeLine:=by unfold sizeLine;have:=h.2;omega
 refine⟨?_,?_⟩
 ·show (if w.length<=sizeLine then (jC w.cps.toList 0).map λc=>Val.str ⟨[c].toArray⟩ else none)=_
  rw[aan z,ec];have e0:Hq (c::r).length 0=some 0:=by unfold Hq;simp
  unfold jC;rw[e0];rfl
 ·have hc:isAscii ⟨[c].toArray⟩=true:=bR.mpr λd hd=>by
   have:d=c:=by simpa using hd
   subst this;exact bR.mp h.1 d (by rw[ec];exact aah)
  rw[KU (cI hc) (bS "0")]
  congr 1
  have:("0":Str)=⟨[48].toArray⟩:=by decide
  rw[this]
  by_cases h:c=48<;>simp[h]
theorem nG{w:Str}(h:w ≠ ""):∃c r,w.cps.toList=c::r:=by
 cases e:w.cps.toList with
 |nil=>refine absurd ?_ h;obtain⟨a⟩:=w;have:a = #[]:=toList_inj.mp (by simpa using e);rw[this];decide
 |cons c r=>exact⟨c,r,rfl⟩
theorem LV(h:isAscii w=true):gA .seq [.str w]=some (w.cps.toList.map λc=>Val.str ⟨[c].toArray⟩):=by
 show (if isAscii w=true then some (signs w) else none)=_;rw[aan h];rfl
theorem zO{b:Nat}(h:TX b w)(hb:b<=10000):dw [.str w]=.ok (true,.bl (wr w)):=by
 have z:w.length<=sizeLine:=by unfold sizeLine;have:=h.2;omega
 have ok:=cI h.1;have ez:=KU ok (bS "");have e1:=C2 ok (bS "0");have LW:(((w.length:Nat):Int)>60)↔60<w.length:=by omega
 unfold dw dO
 by_cases h0:w = ""
 ·have:wr w=false:=by unfold wr;rw[decide_eq_true h0];rfl
  rw[decide_eq_true h0]at ez;simp only[EV,ez,this]
 rw[decide_eq_false h0]at ez
 by_cases h1:60<w.length
 ·have:wr w=false:=by unfold wr;rw[decide_eq_true h1,Bool.or_true];rfl
  simp only[EV,ez,lG z,LW,h1,decide_true,this]
 obtain⟨c,r,ec⟩:=nG h0;obtain⟨i0,e0⟩:=GO h hb ec;have hd:w.cps.toList.head?=some c:=by rw[ec];rfl
 have wd:wr w=(!(decide (c=48) && !decide (w = "0"))&&w.cps.toList.all dg):=by unfold wr;rw[decide_eq_false h0,decide_eq_false h1,hd];simp
 have hlen:w.cps.toList.length<=100000:=by rw[rH];have:=h.2;omega
 have comp:∀Ψ,cX (λd=>pb (pl (bE (.one 0) d [none])) λenv'=>pb (.ok true) λt=>if t=true then pb (aL Ψ (.cmp .pN (!0) (.con "FIGURES" (.str "0123456789"))) env') λe=>.ok (some e) else .ok none) (w.cps.toList.map λc=>Val.str ⟨[c].toArray⟩)=.ok (true,w.cps.toList.map λc=>Val.bl (dg c)):=fun Ψ=>by
  rw[bL (λc:Nat=>Val.str ⟨[c].toArray⟩) (λc=>Val.bl (dg c)) _ (λc hc=>by
   simp only[EV,bC,GN])]
 have ss:=LV h.1
 by_cases h2:c=48
 ·rw[decide_eq_true h2]at e0 wd
  by_cases h3:w = "0"
  ·rw[decide_eq_true h3]at e1 wd;simp only[EV,ez,lG z,LW,h1,i0,e0,e1,decide_true,decide_false,ss,fH,length_map,hlen]at comp |-;rw[comp λ_ _=>.no];simp only[EV,nZ,wd]
  ·rw[decide_eq_false h3]at e1 wd;simp only[EV,ez,lG z,LW,h1,i0,e0,e1,decide_true,decide_false,wd]
 ·rw[decide_eq_false h2]at e0 wd;simp only[EV,ez,lG z,LW,h1,i0,e0,decide_false,ss,fH,length_map,hlen]at comp |-;rw[comp λ_ _=>.no];simp only[EV,nZ,wd]
def dv(w:Str):Int:=(NumText.digitsVal w.cps.toList:Nat)
def rd(w:Str):Option Int:=if wr w=true then some (dv w) else none
def zP:Option Int->Val
 |none=>.non
 |some i=>.int i
theorem GP(h:wr w=true):NumText.AllDigits w.cps.toList/\w.cps.toList≠[]/\w.length<=60:=by
 unfold wr at h;simp only[and_eq_true,not_eq_true',Bool.or_eq_false_iff,decide_eq_false_iff_not,List.all_eq_true,dg,decide_eq_true_eq]at h;obtain⟨⟨h0,h1⟩,_,h2⟩:=h;obtain⟨c,r,ec⟩:=nG h0;exact⟨h2,by rw[ec];simp,by omega⟩
theorem Ua(h:wr w=true):fy .int [.str w]=.ok (true,.int (dv w)):=by
 obtain⟨h1,h2,h3⟩:=GP h;show pb (pl (intText? w)) _=_;rw[PySem.intText_digits h1 h2 (by omega),eZ,aR,d7 (decide_eq_true (by omega))];rfl
theorem GQ:∀(cs:List Nat) (a:Nat),NumText.AllDigits cs->cs.foldl (λacc c=>acc*10+(c-48)) a<(a+1)*10 ^ cs.length
 |[],a,_=>by simp
 | c::r,a,h=>by
  have h0:=h c aah;have:=GQ r (a*10+(c-48)) λd hd=>h d (aae _ hd);rw[List.foldl_cons,aaB,Nat.pow_succ];refine aao this ?_;have:(a*10+(c-48)+1)<=(a+1)*10:=by omega
  calc (a*10+(c-48)+1)*10 ^ r.length<=(a+1)*10*10 ^ r.length:=Nat.mul_le_mul_right _ this
   _=(a+1)*(10 ^ r.length*10):=by rw[Nat.mul_assoc,Nat.mul_comm 10]
theorem Ub(h:wr w=true):Sm (dv w):=by
 obtain⟨h1,h2,h3⟩:=GP h;have:=GQ w.cps.toList 0 h1;rw[zero_add,Nat.one_mul,rH]at this;have l:10 ^ w.length<=10 ^ 60:=Nat.pow_le_pow_right (by decide) h3;have t:NumText.digitsVal w.cps.toList<10 ^ 60:=aao this l;refine⟨Int.natCast_nonneg _,?_⟩;unfold dv;have:((NumText.digitsVal w.cps.toList:Nat):Int)<((10 ^ 60:Nat):Int):=Int.ofNat_lt.mpr t;simpa using this
end K06
end
section
open PySem L2 Hv
namespace K06
theorem Uc:gG=.cons (.iff rC #[.ret (.cst .non)] .nil) #[.asg (.one 1) (¬0),.for (.one 2) .seq #[!0] rB,.ret (!1)]:=rfl
theorem Bq(c:Nat):cop [] .nin (.str ⟨[c].toArray⟩) (.str "0123456789")=some (!dg c):=by
 show (cop [] .pN (.str ⟨[c].toArray⟩) (.str "0123456789")).map (λb=>!b)=_;rw[GN];rfl
theorem Ud{c:Nat}(h:dg c=true):IZ (.str ⟨[c].toArray⟩)=some (c-48):=by
 unfold dg at h;simp only[and_eq_true,decide_eq_true_eq]at h;have key:∀d:Nat,d<10->IZ (.str ⟨[48+d].toArray⟩)=some d:=by decide +kernel
 have:=key (c-48) (by omega);rwa [show 48+(c-48)=c by omega]at this
theorem vG:∀(us done:List Nat),dW (λ_ c=>!dg c) done us=none↔us.all dg=true
 |[],_=>by simp[dW]
 | u::us,done=>by
  rw[dW,all_cons];cases h:dg u with
  |true=>rw[aaj (by decide),vG us];simp
  |false=>rw[aan (by decide)];simp
abbrev eR(w:Str)(n:Int)(a:Option (Hv.Mk×Val)):bh:=[some (.sh,.str w),some (.sh,.int n),a]
theorem PX{n:Int}{x:Nat}(hg:dg x=false):pb (pl (bE (.one 2) (.str ⟨[x].toArray⟩) (eR w n a))) (λenv'=>aB (af zJ) [] rB env')=.ok (.rt (true,.non)):=by
 have t:=Bq x;rw[hg]at t;unfold rB;simp only[EV,bC,t]
theorem b6{i:Nat}:aZ Ψ [] (.asg (.one i) e) env=pb (aL Ψ e env) λx=>.ok (.nx (env.set i (some (gz x.1 x.2,x.2)))):=by rw[aZ];rfl
theorem KY{n N:Int}{x:Nat}(hg:dg x=true)(e:N=n*10+((x-48:Nat):Int)):pb (pl (bE (.one 2) (.str ⟨[x].toArray⟩) (eR w n a))) (λenv'=>aB (af zJ) [] rB env')=.ok (.nx (eR w N (some (.sh,.str ⟨[x].toArray⟩)))):=by
 have t:=Bq x;rw[hg]at t;have f:=Ud hg;generalize x-48=d at *;have m10:fD n 10=true:=by unfold fD;simp
 have hc:u9 (af zJ) (.cmp .nin (!2) (.cst (.str "0123456789"))) (eR w n (some (.sh,.str ⟨[x].toArray⟩)))=.ok (true,.bl false):=by simp only[EV,t]
 have e1:aL (af zJ) (.bin .mul (!1) (¬10)) (eR w n (some (.sh,.str ⟨[x].toArray⟩)))=.ok (true,.int (n*10)):=by simp only[EV,qW m10]
 have e2:aL (af zJ) (.skeys (!2)) (eR w n (some (.sh,.str ⟨[x].toArray⟩)))=.ok (true,.int d):=by simp only[EV,f]
 have e3:aL (af zJ) (.bin .add (.bin .mul (!1) (¬10)) (.skeys (!2))) (eR w n (some (.sh,.str ⟨[x].toArray⟩)))=.ok (true,.int N):=by rw[e,aL,aaj (show ¬ (isVar (.bin .mul (!1) (¬10))=true) from λz=>nomatch (show false=true from z)),aaj (show ¬ (isVar (.skeys (!2))=true) from λz=>nomatch (show false=true from z)),e1,e2];rfl
 show aB (af zJ) [] rB (eR w n (some (.sh,.str ⟨[x].toArray⟩)))=_;unfold rB;rw[aP (nE hc),aP (env':=eR w N (some (.sh,.str ⟨[x].toArray⟩))) (by rw[b6,e3,aR,Fx];rfl),aB]
theorem KZ(h:isAscii w=true):(w.cps.toList.all dg=false/\aZ (af zJ) [] (.for (.one 2) .seq #[!0] rB) (eR w 0 none)=.ok (.rt (true,.non)))\/(w.cps.toList.all dg=true/\∃a,aZ (af zJ) [] (.for (.one 2) .seq #[!0] rB) (eR w 0 none)=.ok (.nx (eR w (dv w) a))):=by
 have st:=kR (λc:Nat=>Val.str ⟨[c].toArray⟩) (body:=λx env=>pb (pl (bE (.one 2) x env)) λenv'=>aB (af zJ) [] rB env')
  (λdone env=>∃a,env=eR w ((NumText.digitsVal done:Nat):Int) a) (λ_ c=>!dg c) (λ_=>.ok (.rt (true,.non))) (λ_=>.inr ⟨_,rfl⟩) w.cps.toList [] (eR w 0 none) ⟨none,rfl⟩ (by
   rintro pre x post env hx ⟨a,rfl⟩;rw[nil_append];cases hg:dg x with
   |false=>rw[aan (by decide)];exact PX hg
   |true=>rw[aaj (by decide)];exact⟨_,KY (N:=((NumText.digitsVal (pre++[x]):Nat):Int)) hg (by unfold NumText.digitsVal;rw[List.foldl_append];simp),some (.sh,.str ⟨[x].toArray⟩),rfl⟩)
 rw[kD (by decide +kernel) (v:=.str w) (by simp only[EV,aR]) (LV h)]
 rcases st with ⟨u,e2,e3⟩|⟨e2,env',e3,a,rfl⟩
 ·refine .inl ⟨?_,e3⟩
  cases hh:w.cps.toList.all dg with
  |false=>rfl
  |true=>rw[(vG _ _).mpr hh]at e2;cases e2
 ·exact .inr ⟨(vG _ _).mp e2,a,e3⟩
abbrev e0(w:Str):bh:=[some (.sh,.str w),none,none]
theorem K0{b:Nat}(h:TX b w)(hb:b<=10000):∃t,u9 (af zJ) rC (e0 w)=.ok (true,.bl t)/\wr w=(!t&&w.cps.toList.all dg):=by
 have z:w.length<=sizeLine:=by unfold sizeLine;have:=h.2;omega
 have ok:=cI h.1;have e1:=C2 ok (bS "0");have LW:(((w.length:Nat):Int)>60)↔60<w.length:=by omega
 have g0:((w.length:Nat):Int)=0↔w.length=0:=by omega
 unfold rC e0
 by_cases h0:w.length=0
 ·have hw:w = "":=by
   cases Classical.em (w = "") with
   |inl z=>exact z
   |inr z=>obtain⟨c,r,ec⟩:=nG z;rw[<-rH,ec]at h0;simp at h0
  exact⟨true,by simp only[EV,lG z,eq_true (g0.mpr h0),decide_true],by unfold wr;rw[decide_eq_true hw];rfl⟩
 have h0':w ≠ "":=λz=>h0 (by rw[z];rfl)
 by_cases h1:60<w.length
 ·exact⟨true,by simp only[EV,lG z,g0,h0,LW,h1,decide_true,decide_false],by unfold wr;rw[decide_eq_true h1,Bool.or_true];rfl⟩
 obtain⟨c,r,ec⟩:=nG h0';obtain⟨i0,e0⟩:=GO h hb ec;have hd:w.cps.toList.head?=some c:=by rw[ec];rfl
 have wd:wr w=(!(decide (c=48) && !decide (w = "0"))&&w.cps.toList.all dg):=by unfold wr;rw[decide_eq_false h0',decide_eq_false h1,hd];simp
 refine⟨_,?_,wd⟩
 by_cases h2:c=48
 ·rw[decide_eq_true h2]at e0 |-;simp only[EV,lG z,g0,h0,LW,h1,decide_true,decide_false,i0,e0,e1]
 ·rw[decide_eq_false h2]at e0 |-;simp only[EV,lG z,g0,h0,LW,h1,decide_true,decide_false,i0,e0]
theorem C3{b:Nat}(h:TX b w)(hb:b<=10000):jc [.str w]=.ok (true,zP (rd w)):=by
 unfold jc cD;rw[show cF gG=[] by decide +kernel,Uc];show pb (aB (af zJ) [] _ (e0 w)) _=_;obtain⟨t,hc,wd⟩:=K0 h hb;cases t with
 |true=>
  have wd:wr w=false:=by rw[wd];rfl
  rw[gU (v:=(true,.non)) (Eq.trans (pB hc) (gU (by rw[aZ];rfl)))];unfold rd;rw[wd];rfl
 |false=>
  have wd:wr w=w.cps.toList.all dg:=by rw[wd];rfl
  rw[aP (env':=e0 w) (nE hc),aP (env':=eR w 0 none) (by rw[aZ,aL];rfl)]
  rcases KZ h.1 with ⟨e1,e2⟩|⟨e1,a,e2⟩
  ·rw[gU e2];unfold rd;rw[wd,e1];rfl
  ·rw[aP e2];unfold rd;rw[wd,e1,gU (v:=(true,.int (dv w))) (by rw[aZ];rfl)];rfl
def parse(x word:Str)(m:Nat):Option (List Int):=match words x with
 |[]=>none
 |h::t=>if h=word/\t.length=m/\t.all wr=true then some (t.map dv) else none
theorem jf{m:Nat}{xs:List Int}(h:parse x word m=some xs):xs.length=m/\∀i∈xs,Sm i:=by
 unfold parse at h;split at h
 ·cases h
 ·split at h
  ·rename_i h t _ hc;cases h;refine⟨by rw[aaf];exact hc.2.1,λi hi=>?_⟩;obtain⟨w,hw,rfl⟩:=mem_map.mp hi;exact Ub (aaQ.mp hc.2.2 w hw)
  ·cases h
theorem GR{α:Type}(f:α -> Val)(g:α -> PyData)(xs:List α)(h:∀x∈xs,toD 15 [] (f x)=some (g x)):cop [] .pN .non (.rl (xs.map f))=some (xs.any λx=>PyData.eqv (g x) .none):=by
 show memD [] .non (.rl (xs.map f))=_;unfold memD;rw[vo f g xs h];show some ((xs.map g).any λy=>PyData.eqv y .none)=_;rw[any_map];rfl
theorem jg{α:Type}(a:α)(l:List α):cV (a::l) (some 1) none=l:=by
 unfold cV;rw[show (some (1:Int))=some ((1:Nat):Int) from rfl,HT.mG,HT.qa];have e:min 1 (a::l).length=1:=by rw[aaB];omega
 rw[e,List.drop_succ_cons,drop_zero];exact take_of_length_le (by simp)
def jI:Option (List Int)->Val
 |none=>.non
 |some xs=>gx xs
theorem oK(xs:List Int):bU (xs.map Val.int)=true:=cG xs
theorem kE(ys:List Str):bU (ys.map Val.str)=true:=iz ys
theorem nH{b:Nat}(h:TX b x)(hb:b<=9998)(hw:PyData.strOk word=true)(m:Nat):cH [.str x,.str word,.int m]=.ok (true,jI (parse x word m)):=by
 obtain⟨w1,w2,w3⟩:=rK h;have sp:=ym h (by omega);unfold parse;revert w1 w2 w3 sp;generalize words x=ws;intro w1 w2 w3 sp;cases ws with
 |nil=>exact absurd rfl w3
 |cons a t=>
  have ha:PyData.strOk a=true:=cI (w1 a aah).1;have n0:=C2 ha hw;have hc:t.length<=100000:=by rw[aaB]at w2;omega
  have c1:∀Ψ,Ψ 0=jc->cX (λd=>pb (pl (bE (.one 0) d [none])) λenv'=>pb (.ok true) λt=>if t=true then pb (aL Ψ (.call 0 #[!0]) env') λe=>.ok (some e) else .ok none) (t.map Val.str)=.ok (true,t.map λw=>zP (rd w)):=fun Ψ hΨ=>by
   rw[bL Val.str (λw=>zP (rd w)) t (λw hw=>by
    simp only[EV,bC,hΨ,C3 (w1 w (List.mem_cons_of_mem _ hw)) (by omega)])]
  have Af:=c1 (af TU) kZ;have nn:cop [] .pN .non (.rl (t.map λw=>zP (rd w)))=some (!t.all wr):=by
   rw[GR (λw=>zP (rd w)) (λw=>match rd w with|none=>.none|some i=>.int i) t (λw _=>by cases rd w<;>rfl)]
   congr 1
   rw[Bool.eq_iff_iff,List.any_eq_true,not_eq_true',<-Bool.not_eq_true,aaQ];constructor
   ·rintro⟨w,hw,e⟩ hall;have:=hall w hw;unfold rd at e;rw[this]at e;cases e
   ·intro hn
    apply Classical.byContradiction;intro hne;refine hn λw hw=>?_;cases hr:wr w with
    |true=>rfl
    |false=>exact absurd ⟨w,hw,by unfold rd;rw[hr];rfl⟩ hne
  have gl:(((t.map λw=>zP (rd w)).length:Nat):Int)=m↔t.length=m:=by rw[aaf];omega
  unfold cH fh;simp only[EV,nF,sp,kh,jg,gu,fH,length_map,hc] at Af |-;rw[Af]
  by_cases h1:a=word
  ·rw[decide_eq_true h1]at n0
   by_cases h2:t.length=m
   ·rw[h1]at n0 |-
    have h2':((t.length:Nat):Int)=m:=by omega
    cases h3:t.all wr with
    |true=>
     rw[h3]at nn;have et:(t.map λw=>zP (rd w))=(t.map dv).map Val.int:=by rw[map_map];refine map_congr_left λw hw=>?_;unfold rd;rw[aaQ.mp h3 w hw];rfl
     rw[aan ⟨rfl,h2,rfl⟩];simp only[EV,fW jF,n0,nn,length_map,h2',decide_true];rw[et];simp only[EV,oK];rfl
    |false=>rw[h3]at nn;rw[aaj (by simp)];simp only[EV,fW jF,n0,nn,length_map,h2',decide_true];rfl
   ·have h2':¬ ((t.length:Nat):Int)=m:=by omega
    rw[aaj (by simp[h2])];simp only[EV,fW jF,n0,length_map,h2',decide_false];rfl
  ·rw[decide_eq_false h1]at n0;rw[aaj (by simp[h1])];simp only[EV,fW jF,n0];rfl
theorem K1{i:Int}:kr [.int i]=.exc 7 [.str "row",.int i]:=rfl
theorem LX{b:Nat}{rows:List Str}{k:Nat}{x word:Str}(hk:rows[k]?=some x)(h:TX b x)(hb:b<=9998)(hw:PyData.strOk word=true)(m:Nat):bZ [.rl (rows.map .str),.int k,.str word,.int m]=(match parse x word m with|some xs=>.ok (true,gx xs)|none=>.exc 7 [.str "row",.int k]):=by
 have i1:jt [] (.rl (rows.map .str)) (.int (k:Int))=some (.str x):=fW (jk (by rw[aaF,hk];rfl));obtain⟨w1,w2,w3⟩:=rK h;have sp:=ym h (by omega);unfold parse;revert w1 w2 w3 sp;generalize words x=ws;intro w1 w2 w3 sp;cases ws with
 |nil=>exact absurd rfl w3
 |cons a t=>
  have ha:PyData.strOk a=true:=cI (w1 a aah).1;have n0:=C2 ha hw;have hc:t.length<=100000:=by rw[aaB]at w2;omega
  have gl:cop [] .ne (.int ((t.length+1:Nat):Int)) (.int ((m:Int)+1))=some (!decide (t.length=m)):=by
   rw[S6]
   congr 2
   rw[Bool.eq_iff_iff,decide_eq_true_eq,decide_eq_true_eq];omega
  have c1:∀Ψ,Ψ 8=dw->cX (λd=>pb (pl (bE (.one 0) d [none])) λenv'=>pb (.ok true) λt=>if t=true then pb (aL Ψ (.call 8 #[!0]) env') λe=>.ok (some e) else .ok none) (t.map Val.str)=.ok (true,t.map λw=>Val.bl (wr w)):=fun Ψ hΨ=>by
   rw[bL Val.str (λw=>Val.bl (wr w)) t (λw hw=>by
    simp only[EV,bC,hΨ,zO (w1 w (List.mem_cons_of_mem _ hw)) (by omega)])]
  have c2:∀Ψ,t.all wr=true->cX (λd=>pb (pl (bE (.one 0) d [none])) λenv'=>pb (.ok true) λt=>if t=true then pb (aL Ψ (.blt .int #[!0]) env') λe=>.ok (some e) else .ok none) (t.map Val.str)=.ok (true,t.map λw=>Val.int (dv w)):=fun Ψ ha=>by
   rw[bL Val.str (λw=>Val.int (dv w)) t (λw hw=>by
    simp only[EV,bC,Ua (List.all_eq_true.mp ha w hw)])]
  have Af:=c1 (af Pz) iM;have YC:=c2 (af Pz);unfold bZ dQ;show _=(match (if a=word/\t.length=m/\t.all wr=true then some (t.map dv) else none) with|some xs=>Pr.ok (true,gx xs)|none=>.exc 7 [.str "row",.int k])
  by_cases h1:a=word
  ·rw[decide_eq_true h1]at n0
   rw[h1]at n0 sp |-
   by_cases h2:t.length=m
   ·rw[decide_eq_true h2]at gl
    simp only[EV,i1,nF,sp,fW jF,n0,length_map,gl,kh,jg,gu,fH,hc] at Af YC |-;rw[Af];cases h3:t.all wr with
    |true=>
     rw[aan ⟨trivial,h2,rfl⟩];simp only[EV,nZ,h3,kh,jg,gu,fH,length_map,hc];rw[YC h3];have e:(t.map λw=>Val.int (dv w))=(t.map dv).map Val.int:=by rw[map_map];rfl
     rw[e];simp only[EV,oK];rfl
    |false=>rw[aaj (by simp)];simp only[EV,nZ,h3,dh,K1,gk]
   ·rw[decide_eq_false h2]at gl;rw[aaj (by simp[h2])];simp only[EV,i1,nF,sp,fW jF,n0,length_map,gl,dh,K1,gk]
  ·rw[decide_eq_false h1]at n0;rw[aaj (by simp[h1])];simp only[EV,i1,nF,sp,fW jF,n0,dh,K1,gk]
end K06
end
section
open PySem L2 Hv
namespace K06
abbrev tp(x:Str):Option (List Int):=parse x "tie" 3
abbrev pp(x:Str):Option (List Int):=parse x "poles" 2
structure Rows (rows:List Str):Prop where
 len:rows.length<=20
 tx:∀x∈rows,TX 9000 x
theorem Ue{xs:List Int}(h:tp x=some xs):∃t:T3,xs=l3 t:=by
 have:=(jf h).1
 match xs,this with
 |[a,b,c],_=>exact⟨(a,b,c),rfl⟩
theorem Ug{xs:List Int}(h:pp x=some xs):∃p q:Int,xs=[p,q]:=by
 have:=(jf h).1
 match xs,this with
 |[a,b],_=>exact⟨a,b,rfl⟩
theorem rL:∀rs:List Str,(∃ts:List T3,rs.map tp=ts.map λt=>some (l3 t))\/∃pre x post,rs=pre++x::post/\(∃ts:List T3,pre.map tp=ts.map λt=>some (l3 t))/\tp x=none
 |[]=>.inl ⟨[],rfl⟩
 | x::rs=>by
  cases hx:tp x with
  |none=>exact .inr ⟨[],x,rs,rfl,⟨[],rfl⟩,hx⟩
  |some xs=>
   obtain⟨t,rfl⟩:=Ue hx
   rcases rL rs with ⟨ts,e⟩|⟨pre,y,post,e1,⟨ts,e2⟩,e3⟩
   ·exact .inl ⟨t::ts,by rw[aar,aar,hx,e]⟩
   ·exact .inr ⟨x::pre,y,post,by rw[e1];rfl,⟨t::ts,by rw[aar,aar,hx,e2]⟩,e3⟩
theorem ud{c:Nat}:∀(pre:List Val) {x:Val} {post:List Val},(∀u∈pre,∃v,f u=.ok v)->f x=.exc c ds->cX f (pre++x::post)=.exc c ds
 |[],x,post,_,h=>by rw[nil_append,cX,h];rfl
 | u::pre,x,post,hp,h=>by
  obtain⟨v,e⟩:=hp u aah;rw[cons_append,cX,e,aR,ud pre (λy hy=>hp y (aae _ hy)) h];rfl
theorem C4(a b:Nat):aU 1 (a+(1+b))=aU 1 a++.int ((a+1:Nat):Int)::(List.range b).map λ(i:Nat)=>Val.int (1+((a+(i+1):Nat):Int)):=by
 unfold aU;rw[List.range_add,map_append]
 congr 1
 rw[Nat.add_comm 1 b,List.range_succ_eq_map,aar,aar,map_map,map_map]
 congr 1
 ·congr 1;omega
theorem Br:gB=.cons Tw #[.asg (.one 1) UW,.aug 2 .add UU,.ret (.call 18 #[!1,!2])]:=rfl
abbrev sV(rows:List Str):Val:=.rl (rows.map .str)
abbrev e1(rows:List Str)(a b:Option (Hv.Mk×Val)):bh:=[some (.sh,sV rows),a,b]
theorem GS:c7 [sV []]=.exc 7 [.str "row",.int 0]:=by
 unfold c7 cD;rw[show cF gB=[] by decide +kernel,Br];show pb (aB (af jG) [] _ (e1 [] none none)) _=_;rw[yk (c:=7) (ds:=[.str "row",.int 0]) (by unfold Tw;simp only[EV,eq_true (show ((0:Nat):Int)=0 from rfl),decide_true,rz,K1,gk])];rfl
theorem zQ(h:rows≠[]):aZ (af jG) [] Tw (e1 rows none none)=.ok (.nx (e1 rows none none)):=by
 have hl:¬ ((rows.length:Nat):Int)=0:=λz=>h (List.length_eq_zero_iff.mp (by omega));unfold Tw;simp only[EV,length_map,hl,decide_false]
theorem zR(hr:rows=x::rs)(h:Rows rows):aL (af jG) UW (e1 rows none none)=(match pp x with|some xs=>.ok (true,gx xs)|none=>.exc 7 [.str "row",.int 0]):=by
 have ha:=LX (b:=9000) (rows:=rows) (k:=0) (x:=x) (by rw[hr];rfl) (h.tx x (by rw[hr];exact aah)) (by decide) (bS "poles") 2;unfold UW;have:aL (af jG) (.call 9 #[!0,¬0,.cst (.str "poles"),¬2]) (e1 rows none none)=bZ [sV rows,.int 0,.str "poles",.int 2]:=by simp only[EV,gS]
 rw[this];exact ha
abbrev Qw(rows:List Str):Val->Pr (Option FV):=λd=>pb (pl (bE (.one 0) d [none,some (.sh,sV rows)])) λenv'=>pb (if cJ .no=true then .ok true else pb (aL (af jG) .no env') λv=>pl (fS [] v.2)) λt=>if t=true then pb (aL (af jG) UT env') λe=>.ok (some e) else .ok none
theorem Bs{i:Nat}:aZ Ψ [] (.aug i o (.comp N js pat k it c elt)) env=pb (CD Ψ js pat k it c elt env) λz=>.ok (.nx (env.set i (some (.sh,z.2)))):=by rw[aZ];rfl
theorem GU(h:Rows rows)(h0:1<=rows.length):CD (af jG) [none,some 0] (.one 0) .range #[¬1,.blt .len #[!0]] .no UT (e1 rows p none)=pb (cX (Qw rows) (aU 1 (rows.length-1))) λq=>.ok (q.1,.rl q.2):=by
 have hl:=h.len;unfold CD;have e:fB (af jG) #[¬1,.blt .len #[!0]] (e1 rows p none)=.ok [.int 1,.int (rows.length:Nat)]:=by simp only[EV,length_map]
 have s:pI .range [.int 1,.int (rows.length:Nat)]=some (aU 1 (rows.length-1)):=by
  have:(inR 1&&inR (rows.length:Nat))=true:=by unfold inR;simp;omega
  have e:(((rows.length:Nat):Int)-1).toNat=rows.length-1:=by omega
  simp only[pI,gA,this,if_true,e]
 rw[e,aR,s,eZ,aR,d7 (decide_eq_true (by unfold aU;rw[aaf,length_range];omega))];rfl
theorem zS{k:Nat}(h:Rows rows)(hk:rows[k]?=some x):Qw rows (.int (k:Nat))=(match tp x with|some xs=>.ok (some (true,gx xs))|none=>.exc 7 [.str "row",.int (k:Nat)]):=by
 have ha:=LX (b:=9000) (rows:=rows) (k:=k) (x:=x) hk (h.tx x (aaA hk)) (by decide) (bS "tie") 3;have:Qw rows (.int (k:Nat))=pb (bZ [sV rows,.int (k:Nat),.str "tie",.int 3]) λe=>.ok (some e):=by unfold Qw UT;simp only[EV,bC,gS]
 rw[this];have ha:bZ [sV rows,.int (k:Nat),.str "tie",.int 3]=_:=ha;rw[ha];show pb (match parse x "tie" 3 with|some xs=>Pr.ok (true,gx xs)|none=>.exc 7 [.str "row",.int (k:Nat)]) _=(match parse x "tie" 3 with|some xs=>.ok (some (true,gx xs))|none=>.exc 7 [.str "row",.int (k:Nat)]);cases parse x "tie" 3<;>rfl
theorem C5(hr:rows=x::rs)(h:Rows rows)(hp:pp x=none):c7 [sV rows]=.exc 7 [.str "row",.int 0]:=by
 have hP:=zR hr h;rw[hp]at hP;unfold c7 cD;rw[show cF gB=[] by decide +kernel,Br];show pb (aB (af jG) [] _ (e1 rows none none)) _=_;rw[aP (zQ (by rw[hr];simp)),yk (c:=7) (ds:=[.str "row",.int 0]) (by rw[b6,hP];rfl)];rfl
theorem GV{rows:List Str}{x y:Str}{rs pre post:List Str}{p q:Int}{ts:List T3}(hr:rows=x::rs)(h:Rows rows)(hp:pp x=some [p,q])(C9:rs=pre++y::post)(e2:pre.map tp=ts.map λt=>some (l3 t))(e3:tp y=none):c7 [sV rows]=.exc 7 [.str "row",.int ((pre.length+1:Nat):Int)]:=by
 have hP:=zR hr h;rw[hp]at hP;have hl:rows.length-1=pre.length+(1+post.length):=by rw[hr,C9];simp;omega
 have hc:cX (Qw rows) (aU 1 (rows.length-1))=.exc 7 [.str "row",.int ((pre.length+1:Nat):Int)]:=by
  rw[hl,C4];refine ud _ (λu hu=>?_) ?_
  ·unfold aU at hu
   obtain⟨i,hi,rfl⟩:=mem_map.mp hu;have hi:=mem_range.mp hi;have hx:rows[i+1]?=some pre[i]:=by rw[hr,C9,getElem?_cons_succ,aax hi,aav hi]
   have ht:∃t,tp pre[i]=some (l3 t):=by
    have:=congrArg (·[i]?) e2;simp only[List.getElem?_map,List.getElem?_eq_getElem hi,map_some]at this;cases ht:ts[i]? with
    |none=>rw[ht]at this;cases this
    |some t=>rw[ht]at this;exact⟨t,aaH this⟩
   obtain⟨t,ht⟩:=ht;have:=zS h hx;rw[ht]at this;rw[show (1+(i:Int))=((i+1:Nat):Int) by omega,this];exact⟨_,rfl⟩
  ·have hx:rows[pre.length+1]?=some y:=by rw[hr,C9,getElem?_cons_succ,aaG (aal _)];simp
   rw[zS h hx,e3]
 unfold c7 cD;rw[show cF gB=[] by decide +kernel,Br];show pb (aB (af jG) [] _ (e1 rows none none)) _=_;rw[aP (zQ (by rw[hr];simp)),aP (env':=e1 rows (some (.sh,pV p q)) none) (by rw[b6,hP];rfl),yk (c:=7) (ds:=[.str "row",.int ((pre.length+1:Nat):Int)]) (by
  unfold UU;rw[Bs,GU h (by rw[hr];simp),hc];rfl)]
 rfl
theorem C6{rows:List Str}{x:Str}{rs:List Str}{p q:Int}{ts:List T3}(hr:rows=x::rs)(h:Rows rows)(hp:pp x=some [p,q])(e2:rs.map tp=ts.map λt=>some (l3 t)):c7 [sV rows]=gf [pV p q,.rl (ts.map aM)]:=by
 have hP:=zR hr h;rw[hp]at hP;have hlt:rs.length=ts.length:=by have:=congrArg length e2;simpa using this
 have hl:rows.length-1=ts.length:=by rw[hr];simp;omega
 have hc:cX (Qw rows) (aU 1 (rows.length-1))=.ok (true,ts.map aM):=by
  rw[hl];unfold aU;rw[bL (λ(i:Nat)=>Val.int (1+(i:Int))) (λi=>aM (ts.getD i (0,0,0))) (List.range ts.length) (λi hi=>by
   have hi:=mem_range.mp hi;have hi':i<rs.length:=by omega
   have hx:rows[i+1]?=some rs[i]:=by rw[hr,getElem?_cons_succ,aav hi']
   have ht:tp rs[i]=some (l3 ts[i]):=by have:=congrArg (·[i]?) e2;simpa only [List.getElem?_map,List.getElem?_eq_getElem hi,List.getElem?_eq_getElem hi',map_some,Option.some.injEq] using this
   have:=zS h hx;rw[ht]at this;rw[show (1+(i:Int))=((i+1:Nat):Int) by omega,this,List.getD_eq_getElem?_getD,aav hi];rfl)]
  rw[show (λi=>aM (ts.getD i (0,0,0)))=aM∘(λi=>ts.getD i (0,0,0)) from rfl,<-map_map,L2.rN.cy]
 unfold c7 cD;rw[show cF gB=[] by decide +kernel,Br];show pb (aB (af jG) [] _ (e1 rows none none)) _=_;rw[aP (zQ (by rw[hr];simp)),aP (env':=e1 rows (some (.sh,pV p q)) none) (by rw[b6,hP];rfl),aP (env':=e1 rows (some (.sh,pV p q)) (some (.sh,.rl (ts.map aM)))) (by
  unfold UU;rw[Bs,GU h (by rw[hr];simp),hc];rfl)]
 have er:E6 (af jG) (.call 18 #[!1,!2]) (e1 rows (some (.sh,pV p q)) (some (.sh,.rl (ts.map aM))))=gf [pV p q,.rl (ts.map aM)]:=by simp only[EV,rA]
 rw[aB,aZ,er];cases gf [pV p q,.rl (ts.map aM)]<;>rfl
end K06
end
section
open PySem L2 Hv
namespace K06
theorem GW:fY=.cons dZ (.cons (.asg (.one 1) (.bin .add dA dB)) (.cons dI (.cons (.asg (.one 2) dP) (.cons (.for (.one 3) .range #[¬1,.blt .len #[!1]] dT) (.cons (.for (.tup [4,5,6]) .seq #[.slc (!1) (¬1) .no] dS) dE))))):=rfl
abbrev oV(os:List (Option (List Int))):Val:=.rl (os.map jI)
abbrev e7(rows:List Str)(a b c d e f:Option (Hv.Mk×Val)):bh:=[some (.sh,sV rows),a,b,c,d,e,f]
abbrev tM(os:List (Option (List Int))):Option (Hv.Mk×Val):=some (.nw,oV os)
theorem K2:dm [sV []]=.ok (true,.tup [.str "row",.int 0]):=by
 have z2:2<=sizeLine:=by decide
 unfold dm cD;rw[show cF fY=[2,2] by decide +kernel,GW];show pb (aB (af nK) [2,2] _ (e7 [] none none none none none none)) _=_;rw[gU (v:=(true,.tup [.str "row",.int 0])) (by unfold dZ;simp only[EV,eq_true (show ((0:Nat):Int)=0 from rfl),decide_true,z2])];rfl
theorem vH:∀os:List (Option (List Int)),bU (os.map jI)=true
 |[]=>rfl
 | o::os=>by
  rw[aar,bU,vH os];cases o with
  |none=>rfl
  |some xs=>show (bU (xs.map Val.int)&&true)=true;rw[oK];rfl
theorem Bt(hr:rows=x::rs)(h:Rows rows):aL (af nK) (.bin .add dA dB) (e7 rows none none none none none none)=.ok (true,oV (pp x::rs.map tp)):=by
 have hl:=h.len;have i0:jt [] (sV rows) (.int 0)=some (.str x):=by rw[hr];exact fW jF
 have n1:=nH (b:=9000) (x:=x) (h.tx x (by rw[hr];exact aah)) (by decide) (bS "poles") 2;have hc:rs.length<=100000:=by rw[hr,aaB]at hl;omega
 have eA:aL (af nK) dA (e7 rows none none none none none none)=.ok (true,.rl [jI (pp x)]):=by
  have im:l6 (jI (pp x))=true:=by have:=vH [pp x];rwa [aar,map_nil,bU,bU,Bool.and_true]at this
  have n1:cH [.str x,.str "poles",.int 2]=.ok (true,jI (pp x)):=n1;unfold dA;simp only[EV,i0,gR,n1,show 1<=sizeLine by decide]
 have eB:aL (af nK) dB (e7 rows none none none none none none)=.ok (true,.rl ((rs.map tp).map jI)):=by
  have c1:∀Ψ,Ψ 1=cH->cX (λd=>pb (pl (bE (.one 0) d [none])) λenv'=>pb (.ok true) λt=>if t=true then pb (aL Ψ (.call 1 #[!0,.cst (.str "tie"),¬3]) env') λe=>.ok (some e) else .ok none) (rs.map Val.str)=.ok (true,rs.map λy=>jI (tp y)):=fun Ψ hΨ=>by
   rw[bL Val.str (λy=>jI (tp y)) rs (λy hy=>by
    have n2:cH [.str y,.str "tie",.int 3]=.ok (true,jI (tp y)):=nH (b:=9000) (h.tx y (by rw[hr];exact aae _ hy)) (by decide) (bS "tie") 3;simp only[EV,bC,hΨ,n2])]
  have Af:=c1 (af nK) gR;have ec:cV (rows.map Val.str) (some 1) none=rs.map Val.str:=by rw[hr,aar,jg]
  unfold dB;simp only[EV,kh,ec,gu,fH,length_map,hc] at Af |-;rw[Af];simp only[EV,map_map];rfl
 rw[aL,aaj (show ¬ (isVar dA=true) from λz=>nomatch (show false=true from z)),aaj (show ¬ (isVar dB=true) from λz=>nomatch (show false=true from z)),eA,eB,aR,aR];have z:decide ([jI (pp x)].length+((rs.map tp).map jI).length<=sizeLine)=true:=by refine decide_eq_true ?_;rw[aaf,aaf];unfold sizeLine;show 1+_<=_;omega
 rw[add_l z];have:=vH (pp x::rs.map tp);rw[aar]at this;rw[List.singleton_append,this];rfl
theorem LY(h:rows≠[]):aZ (af nK) [2,2] dZ (e7 rows none none none none none none)=.ok (.nx (e7 rows none none none none none none)):=by
 have hl:¬ ((rows.length:Nat):Int)=0:=λz=>h (List.length_eq_zero_iff.mp (by omega));unfold dZ;simp only[EV,length_map,hl,decide_false]
theorem GX{ms:List Nat}{i:Nat}(h:ms.contains i=false):aZ Ψ ms (.asg (.one i) e) env=pb (aL Ψ e env) λx=>.ok (.nx (env.set i (some (gz x.1 x.2,x.2)))):=by
 rw[aZ];try dsimp only
 rw[aaj (by rw[h];exact aab)]
theorem GY(os:List (Option (List Int))):cop [] .pN .non (oV os)=some (os.any (·.isNone)):=by
 rw[GR jI (λo=>match o with|none=>.none|some xs=>.tuple (xs.map .int)) os (λo _=>by cases o with|none=>rfl|some xs=>exact xP xs)]
 congr 1
 refine congrArg (λf=>os.any f) (funext λo=>?_);cases o<;>rfl
theorem yo:∀(pre:List (Option (List Int))) (post:List (Option (List Int))),(∀o∈pre,o.isSome=true)->gp ((pre++none::post).map jI)=some pre.length
 | [],post,_=>by
  have:∀post:List (Option (List Int)),(post.map jI).all okN=true:=λpost=>by
   rw[all_map,aaQ];intro o _;cases o<;>rfl
  show (if (post.map jI).all okN=true then some 0 else none)=some 0;rw[aan (this post)]
 | o::pre,post,h=>by
  cases o with
  |none=>exact nomatch h none aah
  |some xs=>show (gp ((pre++none::post).map jI)).map (· + 1)=_;rw[yo pre post λo ho=>h o (aae _ ho)];rfl
theorem Bu(hr:rows=x::rs)(h:Rows rows)(ho:pp x::rs.map tp=pre++none::post)(hp:∀o∈pre,o.isSome=true):dm [sV rows]=.ok (true,.tup [.str "row",.int (pre.length:Nat)]):=by
 have z2:2<=sizeLine:=by decide
 have ht:=Bt hr h;rw[ho]at ht;have hin:cop [] .pN .non (oV (pre++none::post))=some true:=by rw[GY];simp
 have hid:=yo pre post hp;unfold dm cD;rw[show cF fY=[2,2] by decide +kernel,GW];show pb (aB (af nK) [2,2] _ (e7 rows none none none none none none)) _=_;rw[aP (LY (by rw[hr];simp)),aP (env':=e7 rows (tM (pre++none::post)) none none none none none) (by rw[GX rfl,ht];rfl)];have hc:u9 (af nK) (.cmp .pN (.cst .non) (!1)) (e7 rows (tM (pre++none::post)) none none none none none)=.ok (true,.bl true):=by simp only[EV,hin]
 unfold dI;rw[gU (v:=(true,.tup [.str "row",.int (pre.length:Nat)])) (Eq.trans (pB hc) (gU (by
  have:(match oV (pre++none::post) with|.rl ds=>gp ds|_=>none)=some pre.length:=hid;simp only[EV,this,z2])))]
 rfl
end K06
end
section
open PySem L2 Hv
namespace K06
abbrev lV(p q:Int)(ts:List T3):List Val:=pV p q::ts.map aM
def K3(p q:Int)(ts:List T3):Val:=match dW mj [] ts with
 |some t=>.tup [.str "twice",.int t.1]
 |none=>if uc p q ts=true then .tup [.str "many",.int 0] else .tup [.str "none",.rl (lV p q ts)]
def vI(a n:Nat):List Val:=(List.range n).map λi=>.int ((a+i+1:Nat):Int)
theorem C7(a n:Nat):vI a (n+1)=.int ((a+1:Nat):Int)::vI (a+1) n:=by
 unfold vI;rw[List.range_succ_eq_map,aar,map_map]
 congr 1
 refine map_congr_left λi _=>?_;show Val.int _=_
 congr 2
 omega
theorem rM(Q:List T3->bh->Prop)(bad:List T3->T3->Bool)(stop:T3->Pr JS)(hs:∀u,∃r,stop u=.ok (.rt r)) :
  ∀(us done:List T3) (env:bh),Q done env->(∀pre u post env,us=pre++u::post->Q (done++pre) env->if bad (done++pre) u=true then body (.int (((done++pre).length+1:Nat):Int)) env=stop u else ∃env',body (.int (((done++pre).length+1:Nat):Int)) env=.ok (.nx env')/\Q (done++pre++[u]) env') ->
  (∃u,dW bad done us=some u/\iR body (vI done.length us.length) env=stop u)\/(dW bad done us=none/\∃env',iR body (vI done.length us.length) env=.ok (.nx env')/\Q (done++us) env')
 |[],done,env,q,_=>.inr ⟨rfl,env,rfl,by rw[aaP];exact q⟩
 | u::us,done,env,q,h=>by
  have h0:=h [] u us env rfl (by rw[aaP];exact q);rw[aaP]at h0;rw[aaB,C7,iR,dW]
  by_cases c:bad done u=true
  ·rw[aan c]at h0 |-;refine .inl ⟨u,rfl,?_⟩;rw[h0];obtain⟨r,e⟩:=hs u;rw[e];rfl
  ·rw[aaj c]at h0 |-
   obtain⟨env',e,q'⟩:=h0;rw[e,aR];have:=rM Q bad stop hs us (done++[u]) env' q' λpre v post iK e2 q2=>by
    have:=h (u::pre) v post iK (by rw[e2];rfl) (by rw[show done++u::pre=done++[u]++pre by simp];exact q2);rw[show done++u::pre=done++[u]++pre by simp]at this;exact this
   rw[show (done++[u]).length=done.length+1 by simp]at this
   rcases this with ⟨v,e1,e2⟩|⟨e1,iK,e2,q2⟩
   ·exact .inl ⟨v,e1,e2⟩
   ·exact .inr ⟨e1,iK,e2,by rw[show done++u::us=done++[u]++us by simp];exact q2⟩
theorem K4{α:Type}(a:α)(l:List α){n:Nat}(h:n<=l.length):cV (a::l) (some 1) (some ((n+1:Nat):Int))=l.take n:=by
 unfold cV;rw[show (some (1:Int))=some ((1:Nat):Int) from rfl,HT.mG,HT.mG,aaB,Nat.min_eq_left (by omega),Nat.min_eq_left (by omega),List.drop_succ_cons,drop_zero]
 congr 1
abbrev e8(rows:List Str)(p q:Int)(ts:List T3)(d k a b c:Option (Hv.Mk×Val)):bh:=[some (.sh,sV rows),some (.nw,.rl (lV p q ts)),d,k,a,b,c]
theorem W2:isVar cE=false:=rfl
theorem K5{p q:Int}{d a b c k0:Option (Hv.Mk×Val)}(hx:ts=pre++t::post)(hl:ts.length<=20):if mj pre t=true then pb (pl (bE (.one 3) (.int ((pre.length+1:Nat):Int)) (e8 rows p q ts d k0 a b c))) (λenv'=>aB (af nK) [2,2] dT env')=.ok (.rt (true,.tup [.str "twice",.int t.1])) else
  pb (pl (bE (.one 3) (.int ((pre.length+1:Nat):Int)) (e8 rows p q ts d k0 a b c))) (λenv'=>aB (af nK) [2,2] dT env')=.ok (.nx (e8 rows p q ts d (some (.sh,.int ((pre.length+1:Nat):Int))) a b c)):=by
 have hpl:pre.length<ts.length:=by rw[hx];simp
 have it:jt [] (.rl (lV p q ts)) (.int ((pre.length+1:Nat):Int))=some (aM t):=fW (jk (by rw[getElem?_cons_succ,hx];simp));have i0:jt [] (aM t) (.int 0)=some (.int t.1):=rfl;have ct:cV (lV p q ts) (some 1) (some ((pre.length+1:Nat):Int))=pre.map aM:=by rw[K4 _ _ (by rw[aaf];omega),hx,map_append,List.take_left' (by simp)]
 have hp1:pre.length<=100000:=by omega
 have z2:2<=sizeLine:=by decide
 generalize ((pre.length+1:Nat):Int)=kk at *;have cm:aL (af nK) cE (e8 rows p q ts d (some (.sh,.int kk)) a b c)=.ok (true,.rl ((pre.map (·.1)).map .int)):=by
  unfold cE;simp only[EV,kh,ct,gu,fH,length_map,hp1];rw[bL aM (λt=>.int t.1) pre (λt ht=>by
   simp only[EV,bC];rfl)]
  simp only[EV,map_map];rfl
 have hc:u9 (af nK) (.cmp .pN (.idx (.idx (!1) (!3)) (¬0)) cE) (e8 rows p q ts d (some (.sh,.int kk)) a b c)=.ok (true,.bl (decide (t.1∈pre.map (·.1)))):=by
  have h1:u9 (af nK) cE (e8 rows p q ts d (some (.sh,.int kk)) a b c)=.ok (true,.rl ((pre.map (·.1)).map .int)):=by unfold u9;rw[aaj (by rw[W2];decide)];exact cm
  have h2:u9 (af nK) (.idx (.idx (!1) (!3)) (¬0)) (e8 rows p q ts d (some (.sh,.int kk)) a b c)=.ok (true,.int t.1):=by simp only[EV,it,i0]
  unfold u9 at h1 h2 |-;rw[aaj (show ¬ (isVar (.cmp .pN (.idx (.idx (!1) (!3)) (¬0)) cE)=true) from λz=>nomatch (show false=true from z)),aL,h1,h2,aR,aR];show pb (pl (cop [] .pN (.int t.1) (.rl ((pre.map (·.1)).map .int)))) _=_;rw[Ti];rfl
 show if mj pre t=true then aB (af nK) [2,2] dT (e8 rows p q ts d (some (.sh,.int kk)) a b c)=_ else aB (af nK) [2,2] dT (e8 rows p q ts d (some (.sh,.int kk)) a b c)=_
 unfold dT
 by_cases c':t.1∈pre.map (·.1)
 ·rw[aan (by unfold mj;simpa using c')];rw[decide_eq_true c']at hc;rw[gU (Eq.trans (pB hc) (gU (by simp only[EV,it,i0,z2];rfl)))]
 ·rw[aaj (by unfold mj;simpa using c')];rw[decide_eq_false c']at hc;rw[aP (nE hc),aB]
theorem K6{p q:Int}(hpl:pre.length<20):pb (pl (bE (.tup [4,5,6]) (aM t) (e8 rows p q ts (some (.ow,nj (bD [] (bg p q pre)) tr)) k a b c))) (λenv'=>aB (af nK) [2,2] dS env')=.ok (.nx (e8 rows p q ts (some (.ow,nj (bD [] (bg p q (pre++[t]))) tr)) k (some (.sh,.int t.1)) (some (.sh,.int t.2.1)) (some (.sh,.int t.2.2)))):=by
 have k1:(bD [] (bg p q pre)).length<=42:=by have:=yh (bg p q pre) [];rw[oJ]at this;simp only[length_nil]at this;omega
 have l1:((bD [] (bg p q pre)).map (Sum.inl:Int->Key)).length<sizeLine:=by rw[aaf];unfold sizeLine;omega
 have l2:((jQ (bD [] (bg p q pre)) t.2.1).map (Sum.inl:Int->Key)).length<sizeLine:=by rw[aaf];have:=mP (bD [] (bg p q pre)) t.2.1;unfold sizeLine;omega
 have pt:∀ks x,putD (ks.map Sum.inl) (ks.map tr) (.inl x) (.bl true)=nj (jQ ks x) tr:=λks x=>GL;rw[KS];unfold dS nj;simp only[EV,vq,keyOf,l1,l2,pt,nj]
theorem PY{N:Nat}(h1:1<=N)(h2:N<=1000):pI .range [.int 1,.int (N:Nat)]=some (aU 1 (N-1)):=by
 have a1:(inR 1&&inR (N:Nat))=true:=by unfold inR;simp;omega
 have a2:(((N:Nat):Int)-1).toNat=N-1:=by omega
 simp only[pI,gA,a1,if_true,a2]
theorem K7{N:Nat}(h1:1<=N)(h2:N<=1000):gA .range [.int 1,.int (N:Nat)]=some (vI 0 (N-1)):=by
 rw[<-zA,PY h1 h2];have:aU 1 (N-1)=vI 0 (N-1):=by
  unfold aU vI;refine map_congr_left λi _=>?_
  congr 1;omega
 rw[this]
theorem GZ{p q:Int}(hr:rows=x::rs)(h:Rows rows)(hp:pp x=some [p,q])(e2:rs.map tp=ts.map λt=>some (l3 t)):∃f,dm [sV rows]=.ok (f,K3 p q ts):=by
 have z2:2<=sizeLine:=by decide
 have hlt:rs.length=ts.length:=by have:=congrArg length e2;simpa using this
 have hl:ts.length<=19:=by have:=h.len;rw[hr,aaB]at this;omega
 have ht:=Bt hr h;have eo:oV (pp x::rs.map tp)=.rl (lV p q ts):=by rw[hp,e2];show Val.rl (List.map jI (some [p,q]::ts.map λt=>some (l3 t)))=_;rw[aar,map_map];rfl
 have hin:cop [] .pN .non (.rl (lV p q ts))=some false:=by
  rw[<-eo,GY,hp,e2]
  congr 1
  rw[any_cons,any_map];simp
 rw[eo]at ht;unfold dm cD;rw[show cF fY=[2,2] by decide +kernel,GW];show ∃f,pb (aB (af nK) [2,2] _ (e7 rows none none none none none none)) _=_;rw[aP (LY (by rw[hr];simp)),aP (env':=e8 rows p q ts none none none none none) (by rw[GX rfl,ht];rfl)];have hc:u9 (af nK) (.cmp .pN (.cst .non) (!1)) (e8 rows p q ts none none none none none)=.ok (true,.bl false):=by simp only[EV,hin]
 rw[aP (env':=e8 rows p q ts none none none none none) (by unfold dI;exact nE hc)];have i0:jt [] (.rl (lV p q ts)) (.int 0)=some (pV p q):=fW jF;rw[aP (env':=e8 rows p q ts (some (.ow,nj (bD [] (bg p q [])) tr)) none none none none) (by unfold dP;simp only[EV,i0,jB jF,jB CI,keyOf,pl0])];have st:=rM (body:=λx env=>pb (pl (bE (.one 3) x env)) λenv'=>aB (af nK) [2,2] dT env') (λ_ env=>∃k,env=e8 rows p q ts (some (.ow,nj (bD [] (bg p q [])) tr)) k none none none) mj (λt=>.ok (.rt (true,.tup [.str "twice",.int t.1]))) (λ_=>⟨_,rfl⟩) ts [] (e8 rows p q ts (some (.ow,nj (bD [] (bg p q [])) tr)) none none none none) ⟨none,rfl⟩ (by
  rintro pre t post env hx ⟨k,rfl⟩;rw[nil_append];have:=K5 (rows:=rows) (p:=p) (q:=q) (d:=some (.ow,nj (bD [] (bg p q [])) tr)) (a:=none) (b:=none) (c:=none) (k0:=k) hx (by omega)
  by_cases cb:mj pre t=true
  ·rw[aan cb]at this |-;exact this
  ·rw[aaj cb]at this |-;exact⟨_,this,_,rfl⟩)
 have fe:aZ (af nK) [2,2] (.for (.one 3) .range #[¬1,.blt .len #[!1]] dT) (e8 rows p q ts (some (.ow,nj (bD [] (bg p q [])) tr)) none none none none)=iR (λx env=>pb (pl (bE (.one 3) x env)) λenv'=>aB (af nK) [2,2] dT env') (vI 0 ts.length) (e8 rows p q ts (some (.ow,nj (bD [] (bg p q [])) tr)) none none none none):=by
  have e:fB (af nK) #[¬1,.blt .len #[!1]] (e8 rows p q ts (some (.ow,nj (bD [] (bg p q [])) tr)) none none none none)=.ok [.int 1,.int ((ts.length+1:Nat):Int)]:=by simp only[EV,length_map]
  have s:=K7 (N:=ts.length+1) (by omega) (by omega);rw[Nat.add_sub_cancel]at s;rw[aZ,d7 (by decide +kernel),e,aR,s,eZ,aR]
 unfold K3
 rcases st with ⟨u,e3,e4⟩|⟨e3,env',e4,k,rfl⟩
 ·rw[e3,gU (fe.trans e4)];exact⟨_,rfl⟩
 rw[e3,aP (fe.trans e4)];obtain⟨env',e5,k',a',b',c',rfl⟩:=iV aM (body:=λx env=>pb (pl (bE (.tup [4,5,6]) x env)) λenv'=>aB (af nK) [2,2] dS env') (λdone env=>∃k a b c,env=e8 rows p q ts (some (.ow,nj (bD [] (bg p q done)) tr)) k a b c) ts [] (e8 rows p q ts (some (.ow,nj (bD [] (bg p q [])) tr)) k none none none) ⟨_,_,_,_,rfl⟩ (by
  rintro pre t post env hx ⟨k,a,b,c,rfl⟩
  try rw[nil_append]
  have hpl:pre.length<20:=by have:=congrArg length hx;simp only[length_append,length_cons,length_nil]at this;omega
  exact⟨_,K6 hpl,_,_,_,_,rfl⟩)
 try rw[nil_append]at e5
 rw[aP (Eq.trans (kD (by decide +kernel) (v:=.rl (ts.map aM)) (by simp only[EV,kh,jg]) gu) e5)];have ld:fy .len [nj (bD [] (bg p q ts)) tr]=.ok (true,.int ((bD [] (bg p q ts)).length:Nat)):=by show Pr.ok (true,Val.int ((((bD [] (bg p q ts)).map (Sum.inl:Int->Key)).length:Nat):Int))=_;rw[aaf]
 have g1:(((ts.length+1:Nat):Int)>15)↔14<ts.length:=by omega
 have g2:((((bD [] (bg p q ts)).length:Nat):Int)>8)↔8<(bD [] (bg p q ts)).length:=by omega
 unfold dE uc
 by_cases c1:14<ts.length
 ·simp only[EV,length_map,g1,c1,decide_true,z2];exact⟨_,rfl⟩
 ·by_cases c2:8<(bD [] (bg p q ts)).length
  ·simp only[EV,length_map,ld,g1,g2,c1,c2,decide_true,decide_false,z2];exact⟨_,rfl⟩
  ·simp only[EV,length_map,ld,g1,g2,c1,c2,decide_true,decide_false,z2];exact⟨_,rfl⟩
end K06
end
section
open PySem L2 Hv
namespace K06
theorem PZ(a b:Str):(a++b).length=a.length+b.length:=by
 rw[<-rH,Str.cps_append,Array.toList_append,aaE,rH,rH]
theorem TX.app{a b:Nat}(h:TX a x)(k:TX b y):TX (a+b) (x++y):=by
 refine⟨?_,by rw[PZ];have:=h.2;have:=k.2;omega⟩;have h1:=h.1;have k1:=k.1;unfold isAscii at *;rw[Str.cps_append,Array.all_append,h1,k1];rfl
theorem TX.lit{b:Nat}(s:Str)(h:∀c∈s.cps.toList,c<128)(hl:s.length<=b):TX b s:=⟨bR.mpr h,hl⟩
theorem Bv(hz:TX 1 z){b:Nat}:∀l:List Str,(∀a∈l,TX b a)->TX ((b+1)*l.length) (Str.join z l)
 |[],_=>⟨bR.mpr λc hc=>by simp[Str.join,Str.empty]at hc,by simp[Str.join,Str.empty,Str.length]⟩
 |[x],h=>(h x aah).mono (by simp)
 | x::y::r,h=>by
  show TX _ (x++z++Str.join z (y::r));refine(((h x aah).app hz).app (Bv hz (y::r) λa ha=>h a (aae _ ha))).mono ?_;simp only[length_cons];have:(b+1)*(r.length+1+1)=(b+1)*(r.length+1)+(b+1):=Nat.mul_succ _ _;omega
theorem zT{n:Int}(h:Sm n):TX 60 (nh n):=by
 refine⟨bR.mpr λc hc=>?_,Fz (by decide) h.1 h.2⟩;obtain⟨m,rfl⟩:=Int.eq_ofNat_of_zero_le h.1;have e:=PySem.W.KIN.signs_num m;have hc:c∈(Str.ofString (toString ((m:Nat):Int))).cps.toList:=hc;rw[e]at hc;obtain⟨ch,hch,rfl⟩:=mem_map.mp hc;have r:=PyProof.Rows.digit_range (Nat.isDigit_of_mem_toDigits (by decide) (by decide) hch);omega
theorem P0(e:strs? vs=some ys)(h:(ys.map (·.length)).sum+ys.length*z.length<=16777216):E1 (.str z) [.rl vs]=.ok (true,.str (Txt.join z ys)):=by
 show pb (pl (strs? vs)) _=_;rw[e,eZ,aR,d7 (decide_eq_true h)]
theorem Hf:TX 1 " ":=TX.lit _ (by decide) (by decide)
theorem Hg{t:Int}(h0:0<=t)(h1:t<10 ^ 60):decide (t.natAbs.log2<1920)=true:=by
 rw[decide_eq_true_eq]
 by_cases h:t.natAbs=0
 ·rw[h];decide
 ·refine(Nat.log2_lt h).mpr ?_
  have:t.natAbs<10 ^ 60:=by
   have:((10 ^ 60:Nat):Int)=10 ^ 60:=by simp
   omega
  exact aao this (by decide +kernel)
def nI(w:Str)(xs:List Int):Str:=Txt.join " " (w::xs.map nh)
theorem Bw{xs:List Int}(hw:TX 10 w)(hx:xs.length<=3)(hs:∀i∈xs,Sm i):f7 [.str w,gx xs]=.ok (true,.str (nI w xs))/\TX 300 (nI w xs):=by
 unfold nI;have tx:∀a∈w::xs.map nh,TX 60 a:=λa ha=>by
  rcases aau.mp ha with rfl|ha
  ·exact hw.mono (by decide)
  ·obtain⟨i,hi,rfl⟩:=mem_map.mp ha;exact zT (hs i hi)
 refine⟨?_,?_⟩
 rotate_left
 ·show TX 300 (Builtin.Str.glued " " (w::xs.map nh));rw[StrLaws.glued_eq_join];refine(Bv Hf _ tx).mono ?_;rw[aaB,aaf];omega
 have fit:∀l:List Str,(∀a∈l,TX 60 a)->(l.map (·.length)).sum<=60*l.length:=λl=>by
  induction l with
  |nil=>intro _;simp
  |cons y r ih=>intro h;have:=ih λi hi=>h i (aae _ hi);have hy:=(h y aah).2;simp only[map_cons,List.sum_cons,length_cons];omega
 unfold f7 iW gx;have hc:xs.length<=100000:=by omega
 have z1:1<=sizeLine:=by decide
 have za:([Val.str w]).length+(List.map (λi=>Val.str (nh i)) xs).length<=sizeLine:=by rw[aaf];simp only[length_cons,length_nil];unfold sizeLine;omega
 simp only[EV,CJ,LM,length_map,hc,fH,z1];rw[bL Val.int (λi=>Val.str (nh i)) xs (λt ht=>by
  simp only[EV,bC,LL (Hg (hs t ht).1 (hs t ht).2)];rfl)]
 simp only[EV,add_l (decide_eq_true za)];have es:strs? (Val.str w::List.map (λi=>Val.str (nh i)) xs)=some (w::xs.map nh):=by have:=strs_map nh xs;show (cg _ _)=_;rw[cg];show ((some w).bind λy=>(strs? (xs.map λi=>Val.str (nh i))).bind λys=>some (y::ys))=_;rw[this];rfl
 rw[P0 es (by
  have:=fit _ tx;have e:(" ":Str).length=1:=by decide +kernel
  rw[e,Nat.mul_one];rw[aaB,aaf] at *;omega)]
 rfl
theorem Hh{α:Type}(l:List α)(h:0<l.length)(k:Int):∃a∈l,jC l (k%(l.length:Nat))=some a:=by
 have h0:0<=k%((l.length:Nat):Int):=Int.emod_nonneg _ (by omega);have h1:k%((l.length:Nat):Int)<(l.length:Nat):=Int.emod_lt_of_pos _ (by omega);obtain⟨n,hn⟩:=Int.eq_ofNat_of_zero_le h0;have hn':n<l.length:=by omega
 exact⟨l[n],List.getElem_mem hn',by rw[hn];exact jk (by rw[aav hn'])⟩
theorem Uh:iX=#[.asg (.one 1) (.cst (.str Bj)),.asg (.one 1) (.bin .add (!1) (.cst (.str CP))),.ret (.idx (!1) (.bin .mod (!0) (.blt .len #[!1])))]:=rfl
theorem P5:TX 100 Bj:=TX.lit _ (by decide +kernel) (by decide +kernel)
theorem P6:TX 100 CP:=TX.lit _ (by decide +kernel) (by decide +kernel)
theorem P7:0<Bj.length:=by decide +kernel
theorem sign_eq(c:Int):∃x,kq [.int c]=.ok (true,.str x)/\TX 1 x:=by
 have tx:=P5.app P6;have h2:=tx.2;have hp:0<(Bj++CP).length:=by rw[PZ];have:=P7;omega
 have z:Bj.length+CP.length<=sizeLine:=by rw[<-PZ];unfold sizeLine;omega
 obtain⟨d,hd,e⟩:=Hh (Bj++CP).cps.toList (by rw[rH];exact hp) c;rw[rH]at e;have zl:(Bj++CP).length<=sizeLine:=by unfold sizeLine;omega
 refine⟨⟨[d].toArray⟩,?_,bR.mpr λc hc=>?_,by simp[Str.length]⟩
 ·have hm:decide (0<(((Bj++CP).length:Nat):Int))=true:=decide_eq_true (by omega)
  have ix:jt [] (.str (Bj++CP)) (.int (c%(((Bj++CP).length:Nat):Int)))=some (.str ⟨[d].toArray⟩):=by show (if (Bj++CP).length<=sizeLine then (jC (Bj++CP).cps.toList _).map λc=>Val.str ⟨[c].toArray⟩ else none)=_;rw[aan zl,e];rfl
  have ad:=LK (decide_eq_true z);unfold kq;rw[Uh];generalize Bj++CP=sg at *;simp only[EV,ad,lG zl,iU hm,ix]
 ·have:c=d:=by simpa using hc
  subst this;exact bR.mp tx.1 c hd
end K06
end
section
open PySem L2 Hv
namespace K06
theorem Hi(lo hi:Option Int)(n:Nat):(Builtin.Str.strSliceIndices lo hi 1 n).length<=n:=by
 unfold Builtin.Str.strSliceIndices sliceRange;simp only[length_map,length_range];cases lo<;>cases hi<;>simp only[show (1:Int)>0 from by decide,if_true]<;>(repeat' split)<;>omega
theorem vJ{b:Nat}(h:TX b x)(lo hi:Option Int):TX b (iG x lo hi):=by
 unfold iG
 split
 ·exact h
 ·refine⟨bR.mpr λc hc=>?_,?_⟩
  ·have hc:c∈(oW x lo hi).filterMap λk=>x.cps[k]?:=by simpa using hc
   obtain⟨k,_,e⟩:=mem_filterMap.mp hc;rw[<-getElem?_toList]at e;exact bR.mp h.1 c (aaA e)
  ·rw[<-rH]
   have:(⟨((oW x lo hi).filterMap λk=>x.cps[k]?).toArray⟩:Str).cps.toList=(oW x lo hi).filterMap λk=>x.cps[k]?:=by simp
   rw[this];have h1:=List.length_filterMap_le (λk=>x.cps[k]?) (oW x lo hi);have h2:(oW x lo hi).length<=x.length:=Hi lo hi x.length;have:=h.2;omega
theorem LZ{b:Nat}(h:TX b x)(hb:b<=10000)(lo hi:Option Int):rZ (.str x) lo hi=.ok (true,.str (iG x lo hi)):=by
 show pg (decide ((iG x lo hi).length<=sizeLine)) _=_;refine d7 (decide_eq_true ?_) _;have:=(vJ h lo hi).2;unfold sizeLine;omega
theorem iN{a b:Nat}(h:TX a x)(k:TX b y)(hb:a+b<=100000):di .add (.str x) (.str y)=.ok (true,.str (x++y)):=by
 refine LK (decide_eq_true ?_);have:=h.2;have:=k.2;unfold sizeLine;omega
theorem K8(h:0<l.length)(k:Int):∃x∈l,jt [] (sV l) (.int (k%(l.length:Nat)))=some (.str x):=by
 obtain⟨v,hv,e⟩:=Hh (l.map Val.str) (by simpa using h) k;obtain⟨x,hx,rfl⟩:=mem_map.mp hv;rw[aaf]at e;exact⟨x,hx,fW e⟩
theorem nJ(h:l.length+m.length<=1000):di .add (sV l) (sV m)=.ok (true,sV (l++m)):=by
 have z:decide ((l.map Val.str).length+(m.map Val.str).length<=sizeLine)=true:=by rw[aaf,aaf];refine decide_eq_true ?_;unfold sizeLine;omega
 rw[add_l z,<-map_append,kE]
theorem Ui:iY=.cons (.asg (.one 1) oX) #[.asg (.one 2) (.lst (cs Dc)),.asg (.one 2) (.bin .add (!2) (.lst (cs Ga))),.asg (.one 2) (.bin .add (!2) (.lst UN)),.asg (.one 2) (.bin .add (!2) (.lst (cs HD))),.ret (.idx (!2) (.bin .mod (.bin .fdiv (!0) (¬5)) (.blt .len #[!2])))]:=rfl
theorem L3:∀l:List Str,om Ψ (cs l) env=.ok (true,l.map .str)
 |[]=>by rw[cs,om];rfl
 |x::r=>by rw[cs,om,aL,L3 r];rfl
theorem zU(h:l.length<=100):aL Ψ (.lst (cs l)) env=.ok (true,sV l):=by
 rw[aL,L3,aR,d7 (decide_eq_true (by rw[aaf];unfold sizeLine;omega))]
abbrev e3(c:Int)(a b:Option (Hv.Mk×Val)):bh:=[some (.sh,.int c),a,b]
theorem zV{c:Int}(he:aL Ψ (.lst es) (e3 c a (some (.nw,sV l)))=.ok (true,sV m))(h:l.length+m.length<=1000):aZ Ψ [] (.asg (.one 2) (.bin .add (!2) (.lst es))) (e3 c a (some (.nw,sV l)))=.ok (.nx (e3 c a (some (.nw,sV (l++m))))):=by
 rw[b6,aL,aan (show isVar (!2)=true from rfl),aaj (show ¬ (isVar (.lst es)=true) from λz=>nomatch (show false=true from z)),he];show pb (pb (.ok (true,sV m)) λy=>di .add (sV l) y.2) _=_;rw[aR];show pb (di .add (sV l) (sV m)) _=_;rw[nJ h];rfl
def oM(lg:Str):List Str:=["tie 1 2 " ++ lg,"tie " ++ lg ++ " 2 3","tie 1 2 " ++ iG lg (some 1) none,"tie a 2 3","tie 1,2 3"]
theorem zW(lg:Str):(Dc++Ga).length+(oM lg).length<=1000/\(Dc++Ga++oM lg).length+HD.length<=1000/\0<(Dc++Ga++oM lg++HD).length:=by
 simp[Dc,Ga,oM,HD]
theorem P8(c:Int):∃x,nu [.int c]=.ok (true,.str x)/\TX 300 x:=by
 have hm:Sm (10 ^ 59+c%10 ^ 59):=by
  unfold Sm;have:(10:Int) ^ 60=10*10 ^ 59:=by decide
  omega
 have e59:(10:Int) ^ (59:Int).toNat=10 ^ 59:=rfl;have t1:TX 1 "1":=TX.lit _ (by decide) (by decide);have tl:=t1.app (zT hm);have hx:aL (af Qv) oX (e3 c none none)=.ok (true,.str ("1" ++ nh (10 ^ 59+c%10 ^ 59))):=by have pw:=xO (a:=10) (b:=59) (by decide);have md:∀y:Int,di .mod (.int y) (.int (10 ^ (59:Int).toNat))=.ok (true,.int (y%10 ^ (59:Int).toNat)):=λy=>iU (by decide);have st:=LL (Hg hm.1 hm.2);have ad:=iN t1 (zT hm) (by decide);unfold oX;simp only[EV,pw,md];rw[e59,st];exact ad
 generalize ("1" ++ nh (10 ^ 59+c%10 ^ 59):Str)=lg at *;have a1:TX 10 "tie 1 2 ":=TX.lit _ (by decide) (by decide);have a2:TX 10 "tie ":=TX.lit _ (by decide) (by decide);have a3:TX 10 " 2 3":=TX.lit _ (by decide) (by decide);have hl3:∀l,aL (af Qv) (.lst UN) (e3 c (some (.sh,.str lg)) (some (.nw,sV l)))=.ok (true,sV (oM lg)):=λl=>by
  have b1:=iN a1 tl (by decide);have b2:=iN a2 tl (by decide);have b3:=iN (a2.app tl) a3 (by decide);have b4:=iN a1 (vJ tl (some 1) none) (by decide);have sl:=LZ tl (by decide) (some 1) none;have z5:5<=sizeLine:=by decide
  unfold UN cs cs cs;simp only[EV,b1,b2,b3,b4,sl,z5];rfl
 have all:∀x∈Dc++Ga++oM lg++HD,TX 300 x:=by
  have lit:∀x∈Dc++Ga++(["tie a 2 3","tie 1,2 3"]:List Str)++HD,TX 300 x:=by
   have:∀x∈Dc++Ga++(["tie a 2 3","tie 1,2 3"]:List Str)++HD,(∀c∈x.cps.toList,c<128)/\x.length<=300:=by decide +kernel
   exact λx hx=>TX.lit x (this x hx).1 (this x hx).2
  intro x hx;simp only[oM,mem_append,mem_cons,not_mem_nil,or_false]at hx;have put:=lit x;simp only[mem_append,mem_cons,not_mem_nil,or_false]at put
  rcases hx with ((hx|hx)|(hx|hx|hx|hx|hx))|hx
  ·exact put (.inl (.inl (.inl hx)))
  ·exact put (.inl (.inl (.inr hx)))
  ·rw[hx];exact(a1.app tl).mono (by decide)
  ·rw[hx];exact((a2.app tl).app a3).mono (by decide)
  ·rw[hx];exact(a1.app (vJ tl _ _)).mono (by decide)
  ·exact put (.inl (.inr (.inl hx)))
  ·exact put (.inl (.inr (.inr hx)))
  ·exact put (.inr hx)
 obtain⟨x,YD,ix⟩:=K8 (l:=Dc++Ga++oM lg++HD) (zW lg).2.2 (c/5);refine⟨x,?_,all x YD⟩;unfold nu cD;rw[show cF iY=[] by decide +kernel,Ui];show pb (aB (af Qv) [] _ (e3 c none none)) _=_;rw[aP (env':=e3 c (some (.sh,.str lg)) none) (by rw[b6,hx];rfl),aP (env':=e3 c (some (.sh,.str lg)) (some (.nw,sV Dc))) (by rw[b6,zU (by decide)];rfl),aP (zV (zU (by decide)) (by decide)),aP (zV (hl3 _) (zW lg).1),aP (zV (zU (by decide)) (zW lg).2.1)];generalize Dc++Ga++oM lg++HD=L at *;have hL:decide (0<((L.length:Nat):Int))=true:=by
  cases L with
  |nil=>cases YD
  |cons a l=>simp;try omega
 simp only[EV,oz (show mU 5=true by decide),length_map,iU hL,ix]
end K06
end
section
open PySem L2 Hv
namespace K06
structure RB (b n:Nat) (rows:List Str):Prop where
 len:rows.length<=n
 tx:∀x∈rows,TX b x
theorem Uj:dj=.cons (.iff (.or (eM .eq 3) (.cmp .eq (.blt .len #[!0]) (¬0))) WL .nil) (.cons (.iff (eM .eq 4) (one (.ret (.slc (!0) (¬1) .no))) .nil) (.cons (.asg (.one 4) UO) (.cons (.asg (.one 5) (.idx (!0) (!4))) (.cons (.asg (.one 3) UP) (.cons (.iff (eM .eq 0) (one (.asg (.one 5) UQ)) .nil) (.cons (.iff (eM .eq 1) (one (.asg (.one 5) UR)) .nil) (.cons (.iff (eM .eq 2) (one (.ret (Gb (!5) (!4) (!4)))) .nil) (.cons (.iff (eM .eq 5) (one (.asg (.one 5) US)) .nil) (one (.ret (Gb (!5) (!4) (.bin .add (!4) (¬1))))))))))))):=rfl
abbrev ec(rows:List Str)(w c:Int)(a b t:Option (Hv.Mk×Val)):bh:=[some (.sh,sV rows),some (.sh,.int w),some (.sh,.int c),a,b,t]
theorem md{a b:Int}(h:0<b):di .mod (.int a) (.int b)=.ok (true,.int (a%b)):=iU (decide_eq_true h)
theorem mulC{a b:Int}(h:0<b/\b<100000):di .mul (.int a) (.int b)=.ok (true,.int (a*b)):=qW (by unfold fD;simp only[or_eq_true,and_eq_true,decide_eq_true_eq];right;omega)
theorem vK{w c k:Int}:u9 (af kY) (eM .eq k) (ec rows w c a b t)=.ok (true,.bl (decide (w%6=k))):=by
 simp only[EV,md (show (0:Int)<6 by decide)]
theorem P9{α:Type}(l:List α)(n:Nat):cV l none (some (n:Int))=l.take n:=by
 unfold cV;rw[HT.qa,HT.mG,drop_zero,Nat.sub_zero]
 by_cases h:n<=l.length
 ·rw[Nat.min_eq_left h]
 ·rw[Nat.min_eq_right (by omega),take_of_length_le (aal _),take_of_length_le (by omega)]
theorem yq{α:Type}(l:List α)(n:Nat):cV l (some (n:Int)) none=l.drop n:=by
 unfold cV;rw[HT.qa,HT.mG]
 by_cases h:n<=l.length
 ·rw[Nat.min_eq_left h,take_of_length_le (by rw[length_drop];exact aal _)]
 ·rw[Nat.min_eq_right (by omega),List.drop_of_length_le (aal _),List.drop_of_length_le (by omega),List.take_nil]
theorem join_eq{w c:Int}{i j:Nat}(hl:rows.length<=100)(he:aL (af kY) e (ec rows w c a b t)=.ok (true,.str x))(h1:aL (af kY) lo (ec rows w c a b t)=.ok (true,.int (i:Nat)))(h2:aL (af kY) hi (ec rows w c a b t)=.ok (true,.int (j:Nat)))(n1:cJ lo=false)(n2:cJ hi=false) :
  aL (af kY) (Gb e lo hi) (ec rows w c a b t)=.ok (true,sV (rows.take i++[x]++rows.drop j)):=by
 have s1:aL (af kY) (.slc (!0) .no lo) (ec rows w c a b t)=.ok (true,sV (rows.take i)):=by rw[aL,aan (show isVar (!0)=true from rfl),aan (show cJ .no=true from rfl),aaj (by rw[n1];exact aab),h1];show rZ (sV rows) none (some (i:Nat))=_;rw[kh,ng,P9,kE]
 have s2:aL (af kY) (.slc (!0) hi .no) (ec rows w c a b t)=.ok (true,sV (rows.drop j)):=by rw[aL,aan (show isVar (!0)=true from rfl),aaj (by rw[n2];exact aab),aan (show cJ .no=true from rfl),h2];show rZ (sV rows) (some (j:Nat)) none=_;rw[kh,ng,yq,kE]
 have s3:aL (af kY) (.lst #[e]) (ec rows w c a b t)=.ok (true,sV [x]):=by rw[aL,om,he,om];show pg (decide (1<=sizeLine)) _=_;rw[d7 (by decide)];rfl
 have lt:=List.length_take_le i rows;have ld:(rows.drop j).length<=rows.length:=by rw[length_drop];omega
 unfold Gb;rw[aL,aaj (show ¬ (isVar (.bin .add (.slc (!0) .no lo) (.lst #[e]))=true) from λz=>nomatch (show false=true from z)),aaj (show ¬ (isVar (.slc (!0) hi .no)=true) from λz=>nomatch (show false=true from z)),s2,aL,aaj (show ¬ (isVar (.slc (!0) .no lo)=true) from λz=>nomatch (show false=true from z)),aaj (show ¬ (isVar (.lst #[e])=true) from λz=>nomatch (show false=true from z)),s1,s3];show pb (di .add (sV (rows.take i)) (sV [x])) (λy=>di .add y.2 (sV (rows.drop j)))=_;rw[nJ (by simp;omega),aR];show di .add (sV (rows.take i++[x])) (sV (rows.drop j))=_;rw[nJ (by simp;omega)]
theorem RB.put{b n i j:Nat}(h:RB b n rows)(hx:TX b x)(hij:i<=j):RB b (n+1) (rows.take i++[x]++rows.drop j):=by
 refine⟨?_,λy hy=>?_⟩
 ·have:=h.len;simp only[length_append,length_take,length_drop,length_cons,length_nil];omega
 ·rcases mem_append.mp hy with hy|hy
  ·rcases mem_append.mp hy with hy|hy
   ·exact h.tx y (List.mem_of_mem_take hy)
   ·rw[aay.mp hy];exact hx
  ·exact h.tx y (List.mem_of_mem_drop hy)
theorem RB.mono{b c n:Nat}(h:RB b n rows)(hb:b<=c):RB c n rows:=⟨h.len,λx hx=>(h.tx x hx).mono hb⟩
theorem pW{a:Int}{n:Nat}(h:0<n):∃k:Nat,a%(n:Nat)=(k:Nat)/\k<n:=by
 have h0:0<=a%((n:Nat):Int):=Int.emod_nonneg _ (by omega);have h1:a%((n:Nat):Int)<(n:Nat):=Int.emod_lt_of_pos _ (by omega);obtain⟨k,hk⟩:=Int.eq_ofNat_of_zero_le h0;exact⟨k,hk,by omega⟩
theorem ue{ms:List Nat}(h:E6 Ψ e env=.ok v):aB Ψ ms (.cons (.ret e) r) env=.ok (.rt v):=gU (by rw[aZ,h];rfl)
theorem zX{b n:Nat}(h:RB b n rows)(hb:300<=b)(hb2:b<=4000)(hn:n<=50)(w c:Int):∃rows',f9 [sV rows,.int w,.int c]=.ok (true,sV rows')/\RB (b+b+5) (n+1) rows':=by
 have hl:=h.len;have hR:∀{e lo hi:IE} {a b' t:Option (Hv.Mk×Val)} {v:FV},aL (af kY) (Gb e lo hi) (ec rows w c a b' t)=.ok v->pK (ec rows w c a b' t)=ec rows w c a b' t->E6 (af kY) (Gb e lo hi) (ec rows w c a b' t)=.ok v:=λ{e lo hi a b' t v} hv hf=>by
  unfold Gb at hv |-;rw[E6,hf];exact hv
 unfold f9 cD;rw[show cF dj=[] by decide +kernel,Uj];show ∃rows',pb (aB (af kY) [] _ (ec rows w c none none none)) _=_/\_;have c3:=vK (rows:=rows) (w:=w) (c:=c) (k:=3) (a:=none) (b:=none) (t:=none);have lz:aL (af kY) (.cmp .eq (.blt .len #[!0]) (¬0)) (ec rows w c none none none)=.ok (true,.bl (decide (((rows.length:Nat):Int)=0))):=by simp only[EV,length_map]
 have hor:u9 (af kY) (.or (eM .eq 3) (.cmp .eq (.blt .len #[!0]) (¬0))) (ec rows w c none none none)=.ok (true,.bl (decide (w%6=3)||decide (((rows.length:Nat):Int)=0))):=by
  by_cases hw:w%6=3
  ·simp only[EV,md (show (0:Int)<6 by decide),hw,decide_true]
  ·simp only[EV,md (show (0:Int)<6 by decide),hw,decide_false,length_map]
 by_cases hc:(decide (w%6=3)||decide (((rows.length:Nat):Int)=0))=true
 ·rw[hc]at hor
  obtain⟨k,hk,hkl⟩:=pW (a:=c*16807%10067) (n:=rows.length+1) (by omega);obtain⟨x,ox,tx⟩:=P8 c;have ha:aL (af kY) (.bin .mod (.bin .mod (.bin .mul (!2) (¬16807)) (¬10067)) (.bin .add (.blt .len #[!0]) (¬1))) (ec rows w c none none none)=.ok (true,.int (k:Nat)):=by
   have e:((rows.length:Nat):Int)+1=((rows.length+1:Nat):Int):=by omega
   have m2:di .mod (.int (c*16807%10067)) (.int ((rows.length:Nat)+1))=.ok (true,.int (k:Nat)):=by rw[e,md (by omega),hk]
   simp only[EV,mulC (show (0:Int)<16807/\(16807:Int)<100000 by decide),md (show (0:Int)<10067 by decide),length_map,m2]
  have hj:=join_eq (x:=x) (i:=k) (j:=k) (e:=.call 5 #[!2]) (lo:=.var 3) (hi:=.var 3) (rows:=rows) (w:=w) (c:=c) (a:=some (.sh,.int (k:Nat))) (b:=none) (t:=none) (by omega) (by simp only[EV,l8,ox]) (by simp only[EV,aR]) (by simp only[EV,aR]) rfl rfl;refine⟨_,?_,(h.mono (by omega)).put (tx.mono (by omega)) (aal k)⟩;unfold WL;rw[gU (Eq.trans (pB hor) (Eq.trans (aP (env':=ec rows w c (some (.sh,.int (k:Nat))) none none) (by rw[b6,ha];rfl)) (ue (hR hj rfl))))];rfl
 ·have hc0:(decide (w%6=3)||decide (((rows.length:Nat):Int)=0))=false:=by simpa using hc
  rw[hc0]at hor;have hpos:0<rows.length:=by simp only[Bool.or_eq_false_iff,decide_eq_false_iff_not]at hc0;omega
  rw[aP (nE hor)];have c4:=vK (rows:=rows) (w:=w) (c:=c) (k:=4) (a:=none) (b:=none) (t:=none)
  by_cases h4:w%6=4
  ·rw[decide_eq_true h4]at c4
   refine⟨rows.drop 1,?_,by rw[length_drop];omega,λx hx=>(h.tx x (List.mem_of_mem_drop hx)).mono (by omega)⟩;have er:E6 (af kY) (.slc (!0) (¬1) .no) (ec rows w c none none none)=.ok (true,sV (rows.drop 1)):=by
    have cf:cV (rows.map Val.str) (some 1) none=(rows.drop 1).map Val.str:=by rw[ng];exact congrArg _ (yq rows 1)
    simp only[EV,kh,cf,kE]
   rw[gU (Eq.trans (pB c4) (ue er))];rfl
  rw[decide_eq_false h4]at c4;rw[aP (nE c4)];obtain⟨r,hr,hrl⟩:=pW (a:=c*48271%10061) (n:=rows.length) hpos;have eR':aL (af kY) UO (ec rows w c none none none)=.ok (true,.int (r:Nat)):=by
   have m2:di .mod (.int (c*48271%10061)) (.int (rows.length:Nat))=.ok (true,.int (r:Nat)):=by rw[md (by omega),hr]
   unfold UO;simp only[EV,mulC (show (0:Int)<48271/\(48271:Int)<100000 by decide),md (show (0:Int)<10061 by decide),length_map,m2]
  rw[aP (env':=ec rows w c none (some (.sh,.int (r:Nat))) none) (by rw[b6,eR'];rfl)];have ht:=h.tx rows[r] (List.getElem_mem hrl);have ix:jt [] (sV rows) (.int (r:Nat))=some (.str rows[r]):=fW (jk (by rw[aaF,aav hrl];rfl));generalize rows[r]=t at ht ix;rw[aP (env':=ec rows w c none (some (.sh,.int (r:Nat))) (some (.sh,.str t))) (by rw[b6,show aL (af kY) (.idx (!0) (!4)) (ec rows w c none (some (.sh,.int (r:Nat))) none)=.ok (true,.str t) by simp only[EV,ix]];rfl)];have zt:t.length<=sizeLine:=by have:=ht.2;unfold sizeLine;omega
  obtain⟨k,hk,hkl⟩:=pW (a:=c*69621%10069) (n:=t.length+1) (by omega);have eA:aL (af kY) UP (ec rows w c none (some (.sh,.int (r:Nat))) (some (.sh,.str t)))=.ok (true,.int (k:Nat)):=by
   have e:((t.length:Nat):Int)+1=((t.length+1:Nat):Int):=by omega
   have m2:di .mod (.int (c*69621%10069)) (.int ((t.length:Nat)+1))=.ok (true,.int (k:Nat)):=by rw[e,md (by omega),hk]
   unfold UP;simp only[EV,mulC (show (0:Int)<69621/\(69621:Int)<100000 by decide),md (show (0:Int)<10069 by decide),lG zt,m2]
  rw[aP (env':=ec rows w c (some (.sh,.int (k:Nat))) (some (.sh,.int (r:Nat))) (some (.sh,.str t))) (by rw[b6,eA];rfl)];generalize hkk:((k:Nat):Int)=kk;have sl:∀lo hi,rZ (.str t) lo hi=.ok (true,.str (iG t lo hi)):=LZ ht (by omega);have cx:∀lo hi,TX b (iG t lo hi):=λlo hi=>vJ ht lo hi;have fz:∀x:Str,pK (ec rows w c (some (.sh,.int kk)) (some (.sh,.int (r:Nat))) (some (.sh,.str x)))=ec rows w c (some (.sh,.int kk)) (some (.sh,.int (r:Nat))) (some (.sh,.str x)):=λ_=>rfl;have at':∀(y:Str) (k:Int),u9 (af kY) (eM .eq k) (ec rows w c (some (.sh,.int kk)) (some (.sh,.int (r:Nat))) (some (.sh,.str y)))=.ok (true,.bl (decide (w%6=k))):=λ_ _=>vK;have put:∀(y:Str),TX (b+b+5) y->∃rows',(aB (af kY) [] (one (.ret (Gb (!5) (!4) (.bin .add (!4) (¬1))))) (ec rows w c (some (.sh,.int kk)) (some (.sh,.int (r:Nat))) (some (.sh,.str y))))=.ok (.rt (true,sV rows'))/\RB (b+b+5) (n+1) rows':=λy hy=>by
   have hj:=join_eq (x:=y) (i:=r) (j:=r+1) (e:=.var 5) (lo:=.var 4) (hi:=.bin .add (!4) (¬1)) (rows:=rows) (w:=w) (c:=c) (a:=some (.sh,.int kk)) (b:=some (.sh,.int (r:Nat))) (t:=some (.sh,.str y)) (by omega) (by simp only[EV,aR]) (by simp only[EV,aR]) (by simp only[EV,aR];rfl) rfl rfl;exact⟨_,ue (hR hj rfl),(h.mono (by omega)).put hy (by omega)⟩
  have skip:∀(y:Str) (k:Int) (s:dY) (rr:dY),w%6≠k->aB (af kY) [] (.cons (.iff (eM .eq k) s .nil) rr) (ec rows w c (some (.sh,.int kk)) (some (.sh,.int (r:Nat))) (some (.sh,.str y)))=aB (af kY) [] rr (ec rows w c (some (.sh,.int kk)) (some (.sh,.int (r:Nat))) (some (.sh,.str y))):=λy k s rr hk'=>aP (nE (by rw[at' y k,decide_eq_false hk']));have take:∀(y:Str) (k:Int) (e:IE) (rr:dY),w%6=k->aL (af kY) e (ec rows w c (some (.sh,.int kk)) (some (.sh,.int (r:Nat))) (some (.sh,.str t)))=.ok (true,.str y)->aB (af kY) [] (.cons (.iff (eM .eq k) (one (.asg (.one 5) e)) .nil) rr) (ec rows w c (some (.sh,.int kk)) (some (.sh,.int (r:Nat))) (some (.sh,.str t)))=aB (af kY) [] rr (ec rows w c (some (.sh,.int kk)) (some (.sh,.int (r:Nat))) (some (.sh,.str y))):=λy k e rr hk' he=>aP (Eq.trans (pB (by rw[at' t k,decide_eq_true hk'])) (by rw[aP (env':=ec rows w c (some (.sh,.int kk)) (some (.sh,.int (r:Nat))) (some (.sh,.str y))) (by rw[b6,he];rfl),aB]))
  by_cases w0:w%6=0
  ·obtain⟨y,oy,ty⟩:=sign_eq (c/3)
   have b1:=iN (cx none (some kk)) ty (by omega);have b2:=iN ((cx none (some kk)).app ty) (cx (some kk) none) (by omega);have ev:aL (af kY) UQ (ec rows w c (some (.sh,.int kk)) (some (.sh,.int (r:Nat))) (some (.sh,.str t)))=.ok (true,.str (iG t none (some kk)++y++iG t (some kk) none)):=by unfold UQ;simp only[EV,sl,oz (show mU 3=true by decide),k7,oy,b1,b2]
   obtain⟨rows',C9,vL⟩:=put _ ((((cx none (some kk)).app ty).app (cx (some kk) none)).mono (by omega));refine⟨rows',?_,vL⟩;rw[take _ 0 _ _ w0 ev,skip _ 1 _ _ (by omega),skip _ 2 _ _ (by omega),skip _ 5 _ _ (by omega),C9];rfl
  rw[skip _ 0 _ _ w0]
  by_cases w1:w%6=1
  ·have b1:=iN (cx none (some kk)) (cx (some (kk+1)) none) (by omega)
   have ev:aL (af kY) UR (ec rows w c (some (.sh,.int kk)) (some (.sh,.int (r:Nat))) (some (.sh,.str t)))=.ok (true,.str (iG t none (some kk)++iG t (some (kk+1)) none)):=by unfold UR;simp only[EV,sl,b1]
   obtain⟨rows',C9,vL⟩:=put _ (((cx none (some kk)).app (cx (some (kk+1)) none)).mono (by omega));refine⟨rows',?_,vL⟩;rw[take _ 1 _ _ w1 ev,skip _ 2 _ _ (by omega),skip _ 5 _ _ (by omega),C9];rfl
  rw[skip _ 1 _ _ w1]
  by_cases w2:w%6=2
  ·have hj:=join_eq (x:=t) (i:=r) (j:=r) (e:=.var 5) (lo:=.var 4) (hi:=.var 4) (rows:=rows) (w:=w) (c:=c) (a:=some (.sh,.int kk)) (b:=some (.sh,.int (r:Nat))) (t:=some (.sh,.str t)) (by omega) (by simp only[EV,aR]) (by simp only[EV,aR]) (by simp only[EV,aR]) rfl rfl;refine⟨_,?_,(h.mono (by omega)).put (ht.mono (by omega)) (aal r)⟩;rw[gU (Eq.trans (pB (by rw[at' t 2,decide_eq_true w2])) (ue (hR hj rfl)))];rfl
  rw[skip _ 2 _ _ w2]
  by_cases w5:w%6=5
  ·have t1:TX 3 "tie":=TX.lit _ (by decide) (by decide)
   have t2:TX 5 "poles":=TX.lit _ (by decide) (by decide);have b1:=iN t1 (cx (some 5) none) (by omega);have b2:=iN t2 (cx (some 3) none) (by omega);have eq1:=KU (cI (cx none (some 1)).1) (bS "t");have z2:2<=sizeLine:=by decide
   have ev:∃y,aL (af kY) US (ec rows w c (some (.sh,.int kk)) (some (.sh,.int (r:Nat))) (some (.sh,.str t)))=.ok (true,.str y)/\TX (b+b+5) y:=by
    unfold US
    by_cases ct:iG t none (some 1) = "t"
    ·rw[decide_eq_true ct]at eq1;exact⟨"poles" ++ iG t (some 3) none,by simp only[EV,sl,b1,b2,eq1,z2,fW CI],(t2.app (cx (some 3) none)).mono (by omega)⟩
    ·rw[decide_eq_false ct]at eq1;exact⟨"tie" ++ iG t (some 5) none,by simp only[EV,sl,b1,b2,eq1,z2,fW jF],(t1.app (cx (some 5) none)).mono (by omega)⟩
   obtain⟨y,ev,ty⟩:=ev;obtain⟨rows',C9,vL⟩:=put y ty;refine⟨rows',?_,vL⟩;rw[take _ 5 _ _ w5 ev,C9];rfl
  rw[skip _ 5 _ _ w5];obtain⟨rows',C9,vL⟩:=put t (ht.mono (by omega));exact⟨rows',by rw[C9];rfl,vL⟩
end K06
end
section
open PySem L2 Hv
namespace K06
theorem uf:∀(us done:List Int),(∀i∈us,Sm i)->dW yj done us=none
 |[],_,_=>rfl
 | u::us,done,h=>by
  have hu:=h u aah;have g:good u=true:=by unfold good;rw[decide_eq_true hu.1,decide_eq_true hu.2];rfl
  rw[dW,aaj (by unfold yj;rw[g];decide),uf us _ λi hi=>h i (aae _ hi)]
theorem both(h:Rows rows):(∃i:Int,dm [sV rows]=.ok (true,.tup [.str "row",.int i])/\c7 [sV rows]=.exc 7 [.str "row",.int i]) \/
  ∃f p q,∃ts:List T3,dm [sV rows]=.ok (f,K3 p q ts)/\ts.length<=20/\c7 [sV rows]=(match dW mj [] ts with|some t=>.exc 14 [.str "tie",.int t.1]|none=>if uc p q ts=true then .exc 10 [] else .ok (true,CZ p q ts)):=by
 cases rows with
 |nil=>exact .inl ⟨0,K2,GS⟩
 |cons x rs=>
  cases hp:pp x with
  |none=>exact .inl ⟨0,Bu (pre:=[]) (post:=rs.map tp) rfl h (by rw[hp];rfl) (λ_ z=>nomatch z),C5 rfl h hp⟩
  |some xs=>
   obtain⟨p,q,rfl⟩:=Ug hp
   rcases rL rs with ⟨ts,e⟩|⟨pre,y,post,e1,⟨ts,e2⟩,e3⟩
   ·refine .inr ?_
    obtain⟨f,ed⟩:=GZ rfl h hp e;have hl:ts.length<=20:=by have:=congrArg length e;have:=h.len;simp only[length_map,length_cons] at *;omega
    have fg:∀i∈fu p q ts,Sm i:=λi hi=>by
     unfold fu at hi
     rcases aau.mp hi with rfl|hi
     ·exact(jf hp).2 _ aah
     rcases aau.mp hi with rfl|hi
     ·exact(jf hp).2 _ (aae _ aah)
     obtain⟨t,ht,hi⟩:=List.mem_flatMap.mp hi;have:some (l3 t)∈rs.map tp:=by rw[e];exact mem_map.mpr ⟨t,ht,rfl⟩
     obtain⟨z,_,hz⟩:=mem_map.mp this;exact(jf hz).2 i hi
    exact⟨f,p,q,ts,ed,hl,by rw[C6 rfl h hp e,C1 hl,uf _ _ fg];try rfl⟩
   ·refine .inl ⟨((pre.length+1:Nat):Int),?_,GV rfl h hp e1 e2 e3⟩
    have:=Bu (rows:=x::rs) (pre:=some [p,q]::pre.map tp) (post:=post.map tp) rfl h (by rw[hp,e1,map_append,aar,e3];rfl) (λo ho=>by
     rcases aau.mp ho with rfl|ho
     ·rfl
     ·rw[e2]at ho;obtain⟨t,_,rfl⟩:=mem_map.mp ho;rfl)
    rw[this,aaB,aaf]
theorem Hj(n:Nat)(s:String)(i:Int):toD (n+2) [] (.tup [.str s,.int i])=some (.tuple [.str s,.int i]):=by
 show (cg (toD (n+1) []) _).bind _=_;rw[cg,show toD (n+1) [] (.str s)=some (.str s) from aan (bS s),cg,show toD (n+1) [] (.int i)=some (.int i) from rfl,cg];rfl
theorem Hl(s:String)(i:Int):(PyData.tuple [.str s,.int i]).canLay0=true:=by
 rw[PyData.canLay0,PyData.canLayAll0,PyData.canLay0,PyData.canLayAll0,PyData.canLay0,PyData.canLayAll0,bS];rfl
theorem Uk(s:String)(i:Int):cop [] .eq (.tup [.str s,.int i]) (.tup [.str s,.int i])=some true:=eq_self (Hj 14 s i) (Hl s i)
theorem ne_si(s:String)(i:Int):cop [] .ne (.tup [.str s,.int i]) (.tup [.str s,.int i])=some false:=ne_self (Hj 14 s i) (Hl s i)
theorem K9{b n:Nat}(h:RB b n rows):cop [] .eq (sV rows) (sV rows)=some true:=by
 refine eq_self (vo Val.str (λx=>.str x) rows λx hx=>vn (cI (h.tx x hx).1)) ?_;rw[PyData.canLay0];exact jz _ _ λx hx=>by rw[PyData.canLay0];exact cI (h.tx x hx).1
theorem La(p q:Int)(ts:List T3):iL (min p q) (max p q) (gO (ts.map turnT))=CZ p q ts:=by
 have h1:min p q=if q<p then q else p:=by rw[Int.min_def];split<;>split<;>omega
 have h2:max p q=if q>p then q else p:=by rw[Int.max_def];split<;>split<;>omega
 rw[h1,h2]
abbrev wE(ns:List Int)(many:Int)(r k h d:Option (Hv.Mk×Val)):bh:=[some (.sh,.rl (ns.map .int)),some (.sh,.int many),r,k,h,d]
theorem Qa:qY=.cons (.asg (.one 1) (.bin .add (¬1) (.bin .mod (lC 4) (¬10)))) (.cons (.asg (.one 2) lP) (.cons (.asg (.one 2) (.bin .add (!2) lT)) (.cons (.for (.one 3) .range #[.bin .mod (lC 5) (¬4)] lB) (.cons (.asg (.one 4) (.blt .list #[!2])) (.cons (.asg (.one 5) (.call 2 #[!2])) lE))))):=rfl
theorem Qc{ns:List Int}{many:Int}(h:Rows rows){f:Bool}(hd:dm [sV rows]=.ok (f,d)):∃v,aB (af dU) [] lE (wE ns many (some (.nw,sV rows)) k (some (.nw,sV rows)) (some (gz f d,d)))=.ok (.rt (v,.bl true)):=by
 have rb:RB 9000 20 rows:=⟨h.len,h.tx⟩;have er:=K9 rb;have z2:2<=sizeLine:=by decide
 have bad:∀(s:String) (i:Int),d=.tup [.str s,.int i]->((s:Str) = "none")=False->kQ [sV rows]=.ok (true,.tup [.str s,.int i])->∃v,aB (af dU) [] lE (wE ns many (some (.nw,sV rows)) k (some (.nw,sV rows)) (some (gz f d,d)))=.ok (.rt (v,.bl true)):=λs i ed hs hm=>by
  subst ed;have n1:cop [] .ne (.str s) (.str "none")=some true:=by rw[C2 (bS s) (bS "none"),decide_eq_false (λz=>hs▸z)];rfl
  have hx:u9 (af dU) lX (wE ns many (some (.nw,sV rows)) k (some (.nw,sV rows)) (some (gz f (.tup [.str s,.int i]),.tup [.str s,.int i])))=.ok (true,.bl true):=by unfold lX;simp only[EV,jB jF,n1]
  have hq:E6 (af dU) lQ (wE ns many (some (.nw,sV rows)) k (some (.nw,sV rows)) (some (gz f (.tup [.str s,.int i]),.tup [.str s,.int i])))=.ok (true,.bl true):=by unfold lQ;simp only[EV,ny,hm,Uk,er]
  unfold lE;exact⟨true,gU (Eq.trans (pB hx) (ue hq))⟩
 have gm:kQ [sV rows]=FL 7 14 10 (c7 [sV rows]):=rfl
 rcases both h with ⟨i,e1,e2⟩|⟨f',p,q,ts,e1,hl,e2⟩
 ·rw[e1]at hd;cases hd;exact bad "row" i rfl (by decide) (by rw[gm,e2];rfl)
 ·rw[e1]at hd
  cases hd;unfold K3 at bad |-;cases hf:dW mj [] ts with
  |some t=>rw[hf]at e2 bad;exact bad "twice" t.1 rfl (by decide) (by rw[gm,e2];rfl)
  |none=>
   rw[hf]at e2 bad
   by_cases hm:uc p q ts=true
   ·have e2:c7 [sV rows]=.exc 10 []:=by rw[e2];exact aan hm
    simp only[if_pos hm]at bad |-;exact bad "many" 0 rfl (by decide) (by rw[gm,e2];rfl)
   ·have e2:c7 [sV rows]=.ok (true,CZ p q ts):=by rw[e2];exact aaj hm
    have gm:kQ [sV rows]=.ok (true,.tup [.str "none",.int 0]):=by rw[gm,e2];rfl
    simp only[if_neg hm];have n1:cop [] .ne (.str "none") (.str "none")=some false:=by rw[C2 (bS "none") (bS "none")];simp
    have hx:u9 (af dU) lX (wE ns many (some (.nw,sV rows)) k (some (.nw,sV rows)) (some (gz f (.tup [.str "none",.rl (lV p q ts)]),.tup [.str "none",.rl (lV p q ts)])))=.ok (true,.bl false):=by unfold lX;simp only[EV,jB jF,n1]
    have n2:=ne_si "none" 0;have hn:u9 (af dU) lN (wE ns many (some (.nw,sV rows)) k (some (.nw,sV rows)) (some (gz f (.tup [.str "none",.rl (lV p q ts)]),.tup [.str "none",.rl (lV p q ts)])))=.ok (true,.bl false):=by unfold lN;simp only[EV,ny,gm,z2,n2]
    have e3:=PN (p:=p) (q:=q) (ts:=ts) (by omega);rw[La]at e3;have e4:=yi (p:=if q<p then q else p) (q:=if q>p then q else p) (ts:=gO (ts.map turnT)) (by rw[(gP _).length_eq,aaf];exact hl);change dz [CZ p q ts,CZ p q ts]=_ at e4;have i0:jt [] (.rl (lV p q ts)) (.int 0)=some (pV p q):=fW jF;have hr:∃v,E6 (af dU) lR (wE ns many (some (.nw,sV rows)) k (some (.nw,sV rows)) (some (gz f (.tup [.str "none",.rl (lV p q ts)]),.tup [.str "none",.rl (lV p q ts)])))=.ok (v,.bl true):=by unfold lR;simp only[EV,jB CI,i0,kh,jg,yb,e2,vB,e3,nC,e4,er];exact⟨_,rfl⟩
    obtain⟨v,hr⟩:=hr;unfold lE;exact⟨v,by rw[aP (nE hx),aP (nE hn),ue hr]⟩
end K06
end
section
open PySem L2 Hv
namespace K06
def Ul:Nat->Nat
 |0=>300
 |n+1=>Ul n+Ul n+5
theorem YE:∀n,n<=3->300<=Ul n/\Ul n<=4000:=by decide
theorem Um{ns:List Int}{many:Int}:∃x,aL (af dU) lP (wE ns many none none none none)=.ok (true,sV [x])/\TX 300 x:=by
 obtain⟨f,p,q,e1,hp,hq⟩:=GK ns many;obtain⟨e2,tx⟩:=Bw (w:="poles") (xs:=[p,q]) (TX.lit _ (by decide) (by decide)) (by simp) (λi hi=>by
  simp only[mem_cons,not_mem_nil,or_false]at hi
  rcases hi with rfl|rfl<;>assumption)
 refine⟨_,?_,tx⟩;have e2:f7 [.str "poles",.tup [.int p,.int q]]=.ok (true,.str (nI "poles" [p,q])):=e2;unfold lP;simp only[EV,rD,e1,lH,e2,show 1<=sizeLine by decide];rfl
theorem Uo{ns:List Int}{many:Int}(hm:decide (0<many)=true):∃ys:List Str,aL (af dU) lT (wE ns many (some (.nw,sV [x])) none none none)=.ok (true,sV ys)/\RB 300 16 ys:=by
 have c4:aX [.rl (ns.map .int),.int 4]=.ok (true,.int (cellAt ns 4)):=iB ns 4;have hk0:0<=13+cellAt ns 4/40%4:=by omega
 have hk1:13+cellAt ns 4/40%4<=16:=by omega
 obtain⟨f2,ts,e2,hl,hs⟩:=KR ns 8 (13+cellAt ns 4/40%4) many (by decide) hk0 hk1 hm;have ln:∀t∈ts,f7 [.str "tie",aM t]=.ok (true,.str (nI "tie" (l3 t)))/\TX 300 (nI "tie" (l3 t)):=λt ht=>Bw (w:="tie") (xs:=l3 t) (TX.lit _ (by decide) (by decide)) (by simp[l3]) (hs t ht);refine⟨ts.map λt=>nI "tie" (l3 t),?_,by rw[aaf];exact hl,λy hy=>?_⟩
 ·have hc:ts.length<=100000:=by omega
  have c1:∀Ψ,Ψ 3=f7->cX (λd=>pb (pl (bE (.one 0) d [none])) λenv'=>pb (.ok true) λt=>if t=true then pb (aL Ψ (.call 3 #[.cst (.str "tie"),!0]) env') λe=>.ok (some e) else .ok none) (ts.map aM)=.ok (true,ts.map λt=>Val.str (nI "tie" (l3 t))):=fun Ψ hΨ=>by
   rw[bL aM (λt=>Val.str (nI "tie" (l3 t))) ts (λt ht=>by
    simp only[EV,bC,hΨ,(ln t ht).1])]
  have Af:=c1 (af dU) lH;unfold lT;simp only[EV,dD,c4,oz (show mU 40=true by decide),md (show (0:Int)<4 by decide),r9,e2,gu,fH,length_map,hc] at Af |-;rw[Af];simp only[EV,sV,map_map];rfl
 ·obtain⟨t,ht,rfl⟩:=mem_map.mp hy;exact(ln t ht).2
theorem Uq{ns:List Int}{many:Int}{b n:Nat}(h:RB b n rows)(hb:300<=b)(hb2:b<=4000)(hn:n<=50)(i:Nat)(hi:i<4) :
  ∃rows',pb (pl (bE (.one 3) (.int (0+(i:Int))) (wE ns many (some (.nw,sV rows)) k none none))) (λenv'=>aB (af dU) [] lB env')=.ok (.nx (wE ns many (some (.nw,sV rows')) (some (.sh,.int (0+(i:Int)))) none none))/\RB (b+b+5) (n+1) rows':=by
 have c5:aX [.rl (ns.map .int),.int 5]=.ok (true,.int (cellAt ns 5)):=iB ns 5;have c6:aX [.rl (ns.map .int),.int (5+(0+(i:Int)))]=.ok (true,.int (cellAt ns (5+i))):=by rw[show 5+(0+(i:Int))=((5+i:Nat):Int) by omega];exact iB ns (5+i)
 have hd:mU (4+5*(0+(i:Int)))=true:=by unfold mU;refine decide_eq_true ?_;omega
 have m5:di .mul (.int 5) (.int (0+(i:Int)))=.ok (true,.int (5*(0+(i:Int)))):=qW (by unfold fD;simp);generalize 0+(i:Int)=ii at *;obtain⟨rows',e,hr⟩:=zX h hb hb2 hn (cellAt ns 5/(4+5*ii)) (cellAt ns (5+i));refine⟨rows',?_,hr⟩;have ev:aL (af dU) (.call 6 #[!2,.bin .fdiv (lC 5) (.bin .add (¬4) (.bin .mul (¬5) (!3))),.call 23 #[!0,.bin .add (¬5) (!3)]]) (wE ns many (some (.nw,sV rows)) (some (.sh,.int ii)) none none)=.ok (true,sV rows'):=by simp only[EV,dD,c5,c6,m5,oz hd,oG,e]
 show aB (af dU) [] lB (wE ns many (some (.nw,sV rows)) (some (.sh,.int ii)) none none)=_;unfold lB;rw[aP (env':=wE ns many (some (.nw,sV rows')) (some (.sh,.int ii)) none none) (by rw[b6,ev];rfl),aB]
theorem Qd(ns:List Int):∃f,Gz [.rl (ns.map .int)]=.ok (f,.bl true):=by
 unfold Gz cD;rw[show cF qY=[] by decide +kernel,Qa];show ∃f,pb (aB (af dU) [] _ [some (.sh,.rl (ns.map .int)),none,none,none,none,none]) _=_;have c4:aX [.rl (ns.map .int),.int 4]=.ok (true,.int (cellAt ns 4)):=iB ns 4;have c5:aX [.rl (ns.map .int),.int 5]=.ok (true,.int (cellAt ns 5)):=iB ns 5;have hm:decide (0<1+cellAt ns 4%10)=true:=decide_eq_true (by omega);rw[aP (env':=wE ns (1+cellAt ns 4%10) none none none none) (by simp only[EV,dD,c4,md (show (0:Int)<10 by decide)])];generalize 1+cellAt ns 4%10=many at *;obtain⟨x,e1,tx⟩:=Um (ns:=ns) (many:=many);rw[aP (env':=wE ns many (some (.nw,sV [x])) none none none) (by rw[b6,e1];rfl)];obtain⟨ys,e2,ry⟩:=Uo (ns:=ns) (many:=many) (x:=x) hm;have r0:RB 300 17 ([x]++ys):=⟨by have:=ry.len;simp;omega,λy hy=>by
  rcases mem_append.mp hy with hy|hy
  ·rw[aay.mp hy];exact tx
  ·exact ry.tx y hy⟩
 have e3:aL (af dU) (.bin .add (!2) lT) (wE ns many (some (.nw,sV [x])) none none none)=.ok (true,sV ([x]++ys)):=by rw[aL,aan (show isVar (!2)=true from rfl),aaj (show ¬ (isVar lT=true) from λz=>nomatch (show false=true from z)),e2];show di .add (sV [x]) (sV ys)=_;exact nJ (by have:=ry.len;simp;omega)
 rw[aP (env':=wE ns many (some (.nw,sV ([x]++ys))) none none none) (by rw[b6,e3];rfl)];generalize [x]++ys=rows at *;obtain⟨n,hn,hn4⟩:=pW (a:=cellAt ns 5) (n:=4) (by decide);have lp:∃rows' k,aZ (af dU) [] (.for (.one 3) .range #[.bin .mod (lC 5) (¬4)] lB) (wE ns many (some (.nw,sV rows)) none none none)=.ok (.nx (wE ns many (some (.nw,sV rows')) k none none))/\Rows rows':=by
  obtain⟨env',e5,rows',k,rfl,hr⟩:=iV (λ(i:Nat)=>Val.int (0+(i:Int))) (body:=λx env=>pb (pl (bE (.one 3) x env)) λenv'=>aB (af dU) [] lB env') (λdone env=>∃rows' k,env=wE ns many (some (.nw,sV rows')) k none none/\RB (Ul done.length) (17+done.length) rows') (List.range n) [] (wE ns many (some (.nw,sV rows)) none none none) ⟨rows,none,rfl,r0⟩ (by
   rintro pre i post env hx ⟨rows',k,rfl,hr⟩
   try rw[nil_append]at hr
   have hl:=congrArg length hx;simp only[length_range,length_append,length_cons,length_nil]at hl;have hi:i∈List.range n:=by
    have:i∈[]++List.range n\/i∈List.range n:=by
     rw[nil_append,or_self];have hx':List.range n=pre++i::post:=by simpa using hx
     rw[hx'];simp
    simpa using this
   have hi:=mem_range.mp hi;have hb:=YE pre.length (by omega);obtain⟨Ur,e,hr2⟩:=Uq (ns:=ns) (many:=many) (k:=k) hr hb.1 hb.2 (by omega) i (by omega);refine⟨_,e,Ur,_,rfl,?_⟩
   try rw[nil_append]
   rw[aaE];exact hr2)
  refine⟨rows',k,?_,?_,λy hy=>?_⟩
  ·have ex:fB (af dU) #[.bin .mod (lC 5) (¬4)] (wE ns many (some (.nw,sV rows)) none none none)=.ok [.int (n:Nat)]:=by
    have m4:di .mod (.int (cellAt ns 5)) (.int 4)=.ok (true,.int (n:Nat)):=by rw[md (by decide),show (4:Int)=((4:Nat):Int) from rfl,hn]
    simp only[EV,dD,c5,m4]
   have sr:pI .range [.int (n:Nat)]=some (aU 0 n):=by
    have a1:inR (n:Nat)=true:=by unfold inR;simp;omega
    simp only[pI,gA,a1,if_true,Int.toNat_natCast]
   rw[zA]at sr;rw[kD (by decide +kernel) ex sr];exact e5
  ·have:=hr.len;simp only[nil_append,length_range]at this;omega
  ·have h1:=hr.tx y hy;simp only[nil_append,length_range]at h1;exact h1.mono (by have:=(YE n (by omega)).2;omega)
 obtain⟨rows',k,e4,hR⟩:=lp;rw[aP e4,aP (env':=wE ns many (some (.nw,sV rows')) k (some (.nw,sV rows')) none) (by rw[b6,show aL (af dU) (.blt .list #[!2]) (wE ns many (some (.nw,sV rows')) k none none)=.ok (true,sV rows') by simp only[EV,kE]];rfl)];have hd:∃f d,dm [sV rows']=.ok (f,d):=by
  rcases both hR with ⟨i,e1,_⟩|⟨f,p,q,ts,e1,_⟩
  ·exact⟨_,_,e1⟩
  ·exact⟨_,_,e1⟩
 obtain⟨f,d,hd⟩:=hd;obtain⟨v,he⟩:=Qc (ns:=ns) (many:=many) (k:=k) hR hd;rw[aP (env':=wE ns many (some (.nw,sV rows')) k (some (.nw,sV rows')) (some (gz f d,d))) (by rw[b6,show aL (af dU) (.call 2 #[!2]) (wE ns many (some (.nw,sV rows')) k (some (.nw,sV rows')) none)=.ok (f,d) by simp only[EV,vA,hd]];rfl),he];exact⟨v,rfl⟩
theorem true(ns:List Int)(hn:ns.length<=63):∃h',Gx [.rl (ns.map .int)] []=.ok (.bl true) h':=by
 obtain⟨f,e⟩:=Qd ns;exact KQ e
end K06
end
end
section
namespace PySem.W.Fast
theorem tw7185890792374358671:True:=trivial
theorem tw463043771117108792:True:=trivial
theorem tw1845970267349557856:True:=trivial
theorem tw11391913289715281376:True:=trivial
theorem tw6477209285055948197:True:=trivial
theorem tw4322425898984563666:True:=trivial
theorem tw11490048498018686895:True:=trivial
theorem tw8466522378253262269:True:=trivial
theorem tw3067649113077948282:True:=trivial
theorem tw3396132975450467589:True:=trivial
theorem tw10116094841518178456:True:=trivial
theorem tw17484234047916316314:True:=trivial
theorem tw6399048703762540681:True:=trivial
theorem tw11342842669152255922:True:=trivial
theorem tw18220930227076932132:True:=trivial
theorem tw11482439555371072170:True:=trivial
theorem tw6648805780447693447:True:=trivial
theorem tw9375277587107045732:True:=trivial
theorem tw4549523785919213109:True:=trivial
theorem tw16928983447884805272:True:=trivial
theorem tw16280072543477071723:True:=trivial
theorem tw8681539919372527738:True:=trivial
theorem tw5540657107869105910:True:=trivial
theorem tw16457653099230196818:True:=trivial
theorem tw8811475548858356249:True:=trivial
theorem tw13568931337403523580:True:=trivial
theorem tw3271325666403494810:True:=trivial
theorem tw7046537674244883990:True:=trivial
theorem tw11434964027137690000:True:=trivial
theorem tw16434607818655951243:True:=trivial
theorem tw16900366442528242192:True:=trivial
theorem tw18341775290466224664:True:=trivial
theorem tw9742207154575628208:True:=trivial
theorem tw13131905634288388567:True:=trivial
theorem tw17485068757874421814:True:=trivial
theorem tw4637259079837944487:True:=trivial
theorem tw2015141733011128878:True:=trivial
theorem tw17860220718923351972:True:=trivial
theorem tw12919668890693185522:True:=trivial
theorem tw7870344362887789798:True:=trivial
theorem tw15056691760279475855:True:=trivial
theorem tw2678747047121839841:True:=trivial
theorem tw1969430799510244295:True:=trivial
theorem tw10814070994189462927:True:=trivial
theorem tw17331058480299864962:True:=trivial
theorem tw13468745848996239920:True:=trivial
theorem tw17114817561927531811:True:=trivial
theorem tw9873820576300743763:True:=trivial
theorem tw13522908001600003364:True:=trivial
theorem tw1464164601591019338:True:=trivial
theorem tw13464097389761282241:True:=trivial
theorem tw12288674282890051886:True:=trivial
theorem tw10302429290115517131:True:=trivial
theorem tw13948121297415594339:True:=trivial
theorem tw17200213923711267899:True:=trivial
theorem tw6293338446265519913:True:=trivial
theorem tw5219531405135742:True:=trivial
theorem tw4700189543758120544:True:=trivial
theorem tw2038245576820418542:True:=trivial
theorem tw17022010853685786105:True:=trivial
theorem tw17668406347845276375:True:=trivial
theorem tw15388681159806108676:True:=trivial
theorem tw5184677825507994241:True:=trivial
theorem tw15476936984402961584:True:=trivial
theorem tw13686415755559648281:True:=trivial
theorem tw9582912216818051299:True:=trivial
theorem tw1938557304335912069:True:=trivial
theorem tw15237537329314307177:True:=trivial
theorem tw1269057738787549041:True:=trivial
theorem tw7145782780833360392:True:=trivial
theorem tw14396693283769091627:True:=trivial
theorem tw9572784458715707267:True:=trivial
theorem tw11154376743382151914:True:=trivial
theorem tw8160454755119098337:True:=trivial
theorem tw8436333257068375270:True:=trivial
theorem tw15662739675393499504:True:=trivial
theorem tw14343524356241327737:True:=trivial
theorem tw12380049201988581313:True:=trivial
theorem tw2245020112514141336:True:=trivial
theorem tw3068369112844943331:True:=trivial
theorem tw6583877279167473863:True:=trivial
theorem tw11760463996051386645:True:=trivial
theorem tw11324892899541821191:True:=trivial
theorem tw8905031476128337400:True:=trivial
theorem tw1298022699409675112:True:=trivial
theorem tw3482938531085917190:True:=trivial
theorem tw12872326676767937551:True:=trivial
theorem tw12462623515494753341:True:=trivial
theorem tw1045626766820050489:True:=trivial
theorem tw1409977247723511001:True:=trivial
theorem tw4176092039050827073:True:=trivial
end PySem.W.Fast
open PySem PySem.W PyProof.Rows
set_option maxRecDepth 100000 in
set_option maxHeartbeats 0 in
theorem PySem.Challenge.cw_linkorcut_k06_rows_refused_holds : PySem.Challenge.rw_linkorcut_k06_rows_refused.Holds := by
 w_on;o_law;k_head;(case hw=>w_witness2)
 k_fill
 refine Hv.walk (l:=PySem.Challenge.rw_linkorcut_k06_rows_refused) (k:=58) (x:="_law_script") rfl rfl ⟨rfl,by decide,by decide⟩ (λw h Y=>PySem.W.kIn_of Y) ?F
 case F=>
  intro w mg fa h KX G hmg;refine' K06.all_mk KX G hmg K06.true ?_ ?_ ?_ ?_ ?_ ?_ ?_ ?_ ?_ ?_ ?_ ?_ ?_ ?_ ?_ ?_ ?_ ?_ ?_ ?_ ?_ ?_ ?_ ?_ ?_ ?_ ?_ ?_ ?_ ?_ ?_ ?_ ?_ ?_ ?_ ?_ ?_ ?_ ?_ ?_ ?_ ?_ ?_ ?_ ?_ ?_ ?_ ?_ ?_ ?_ ?_ ?_ ?_ ?_ ?_ ?_ ?_ ?_ ?_ ?_ ?_ ?_ ?_ ?_ ?_ ?_ ?_ ?_ ?_ ?_ ?_ ?_ ?_ ?_ ?_ ?_ ?_ ?_ ?_ ?_ ?_ ?_ ?_ ?_ ?_ ?_ ?_ ?_ ?_ ?_ ?_ ?_
  iterate 2 all_goals try first|k_is|kit_is|(exact⟨_,L2.fun_mk (by k_is) (by k_is) (by k_is)⟩)|(exact⟨⟨by k_is,by rfl,by rfl,by k_is,by k_is⟩,L2.excOb (by k_is) (by rfl),L2.excUp (by k_is) (by rfl) (by k_is) (by rfl) (by rfl) (by rfl),by k_is,by k_is,by k_is⟩)|(exact⟨L2.excOb0 (by k_is) (by rfl) (by k_is) (by rfl) (by rfl) (by rfl),L2.excUp (by k_is) (by rfl) (by k_is) (by rfl) (by rfl) (by rfl),by k_is⟩)|(exact L2.excS (by k_is) (by rfl) (by rfl) (by k_is) (by rfl) (by rfl))|(exact⟨by k_is,by k_is,by k_is,by k_is,by k_is,by k_is,by k_is,by k_is⟩)|(intro x hx;simp only[Hv.bltNames,List.mem_cons,List.not_mem_nil,or_false]at hx;rcases hx with rfl|rfl|rfl|rfl|rfl|rfl|rfl|rfl|rfl|rfl|rfl|rfl|rfl|rfl|rfl|rfl|rfl<;>k_is)|decide
#print axioms PySem.Challenge.cw_linkorcut_k06_rows_refused_holds
end
