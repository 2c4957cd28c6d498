import PyProof.Rows.All
import Wide.All
import OpenK.AllK
import Wide.FinOn
import Lean
import PyProof.EqAt
import PyProof.EqKinds
import PyProof.TupleCall
import KE.KDictList
import KE.KDictLaws
import KE.KDictSum
import KE.KRevSl
import PyProof.DictWalks
import PySem.Challenge.RW_linkorcut_k61_deeds_done
set_option Elab.async false
set_option compiler.extract_closed false
set_option linter.all false
set_option maxRecDepth 100000
set_option maxHeartbeats 4000000
set_option genSizeOf false
set_option backward.eqns.nonrecursive false
set_option backward.eqns.deepRecursiveSplit false
set_option bootstrap.genMatcherCode false
set_option hygiene false
local macro_rules
|`(def $n:declId $s:optDeclSig $v:declVal)=>`(noncomputable def $n:declId $s:optDeclSig $v:declVal)
|`(abbrev $n:declId $s:optDeclSig $v:declVal)=>`(noncomputable abbrev $n:declId $s:optDeclSig $v:declVal)
local macro_rules
|`(#[$a])=>`(.cons $a .nil)
|`(#[$a,$as,*])=>`(.cons $a #[$as,*])
local macro_rules
|`(!$n:num)=>`(.var $n)
local macro_rules
|`(¬$n:num)=>`(.cst (.int $n))
set_option hygiene true
open Array(toList)
open Bool(and_eq_true false_eq_true not_eq_true' or_eq_true)
open PySem.Heap(get?_update_self size_push)
open Int(emod_lt_of_pos emod_nonneg)
open List(all_eq_true any_cons append_nil drop_drop ext_getElem filter_append filter_cons_of_neg find?_cons getElem_map length length_append length_cons length_drop length_map length_nil length_range length_set length_singleton length_take lookup_cons map_congr_left map_cons map_id map_map map_nil mem_append mem_append_left mem_cons mem_filter mem_map mem_map_of_mem mem_replicate nodup_append nodup_cons nodup_nil not_mem_nil of_mem_zip pairwise_cons pairwise_map prefix_append range' replicate set_cons_succ set_cons_zero size_toArray toArray zip_cons_cons)
open Nat(le_of_lt le_succ lt_irrefl lt_succ_of_lt lt_succ_self lt_trans mod_lt ne_of_gt zero_le)
open Option(bind_some getD_none map_some)
open PySem.W(callWith_K callWith_K0 cellsFrom_some codeIn emptyDict eq_sortI findIn handedIn hasDictIn instObj kat_lt keepIn kia_one kitOne kitx_list lookIn makesIn methodObj plainGet plainGet_of plainOver sortI_perm specialIn takerIn typeIn)
def Y8:=@PySem.wpAny_bind
def Y9:=@Bool.false_ne_true
def Za:=@Option.bind_eq_some_iff
def Zb:=@List.getElem?_eq_some_iff
def Zc:=@PySem.Heap.get?_push_of_some
def Zd:=@List.getElem?_set_ne
def Ze:=@List.length_map
def Zf:=@PySem.wpAny_pure
def Zg:=@if_pos
def Zh:=@List.mem_cons_of_mem
def Zi:=@if_neg
def Zj:=@PySem.Heap.lt_size
def Zk:=@List.mem_cons_self
def Zl:=@List.getElem?_set_self
def Zm:=@Nat.le_refl
def Zn:=@Nat.lt_of_lt_of_le
def Zo:=@List.map_cons
def Zp:=@List.getElem?_append_left
def Zq:=@List.size_toArray
def Zr:=@PySem.Heap.get?_push_size
def Zs:=@List.mem_singleton
def Zt:=@Nat.ne_of_lt
def Zu:=@List.prefix_refl
def Zv:=@of_decide_eq_true
def Zw:=@List.mem_cons
def Zx:=@List.getElem?_map
def Zy:=@PySem.W.mg_of
def Zz:=@List.mem_of_getElem?
def ZA:=@List.length_append
def ZC:=@List.length_cons
def ZD:=@List.getElem?_append_right
def ZE:=@Nat.le_trans
def ZF:=@List.mem_append_right
def ZG:=@List.getElem?_eq_getElem
def ZH:=@Array.length_toList
def ZI:=@Option.some.inj
def ZJ:=@PySem.wpAny_newObj_type
def ZK:=@List.map_append
def ZL:=@Option.map_eq_some_iff
def ZM:=@beq_eq_false_iff_ne
def ZN:=@congrArg
def ZO:=@Array.getElem?_eq_getElem
def ZP:=@List.mem_append
def ZQ:=@List.map_map
open PySem.W(Frag sortI nsIn fnOf isFn)
section
namespace L2
open PySem PySem.Spec PyProof.Rows
abbrev Key:=Sum Int Str
def pH:Key->Value->Bool
 |.inl k,v=>Value.isInt k v
 |.inr x,v=>Value.isStrOf x v
def SH(w:World):Key->Int
 |.inl k=>hashInt k
 |.inr x=>hashStr w x
theorem bP:∀{k:Key} {v:Value},pH k v=true->(∃i t,k=Sum.inl i/\v=Value.int i t)\/(∃x t,k=Sum.inr x/\v=Value.str x t)
 | .inl i,v,h=>by
  obtain⟨t,e⟩:=Value.isInt_shape (k:=i) (v:=v) h;exact .inl ⟨i,t,rfl,e⟩
 | .inr x,v,h=>by
  obtain⟨t,e⟩:=Value.isStrOf_shape (x:=x) (v:=v) h;exact .inr ⟨x,t,rfl,e⟩
theorem AN(i:Int)(t:Tok):pH (.inl i) (.int i t)=true:=by simp[pH,Value.isInt]
theorem AO(x:Str)(t:Tok):pH (.inr x) (.str x t)=true:=by simp[pH,Value.isStrOf]
theorem Kr(a b:Int):decide ((Sum.inl a:Key)=Sum.inl b)=(a==b):=by
 by_cases e:a=b
 ·subst e;simp
 ·have h:¬ (Sum.inl a:Key)=Sum.inl b:=λq=>e (Sum.inl.inj q);rw[decide_eq_false h];exact(ZM.mpr e).symm
theorem Ks(a b:Str):decide ((Sum.inr a:Key)=Sum.inr b)=decide (a=b):=by
 by_cases e:a=b
 ·subst e;simp
 ·have h:¬ (Sum.inr a:Key)=Sum.inr b:=λq=>e (Sum.inr.inj q);rw[decide_eq_false h,decide_eq_false e]
theorem Ku(a:Int)(b:Str):decide ((Sum.inl a:Key)=Sum.inr b)=false:=decide_eq_false (λq=>nomatch q)
theorem Kv(a:Str)(b:Int):decide ((Sum.inr a:Key)=Sum.inl b)=false:=decide_eq_false (λq=>nomatch q)
def bA(prog:Program)(w:World):PySem.KeyKind prog w Key where
 is:=pH
 hash:=SH w
 inj:=λv a b ha hb=>by
  rcases bP ha with ⟨i,t,rfl,rfl⟩|⟨x,t,rfl,rfl⟩
  ·rcases bP hb with ⟨j,u,rfl,e⟩|⟨y,u,rfl,e⟩
   ·injection e with e1 _;rw[e1]
   ·exact nomatch e
  ·rcases bP hb with ⟨j,u,rfl,e⟩|⟨y,u,rfl,e⟩
   ·exact nomatch e
   ·injection e with e1 _;rw[e1]
 byValue:=λk v h=>by
  rcases bP h with ⟨i,t,rfl,rfl⟩|⟨x,t,rfl,rfl⟩<;>rfl
 pyHash:=λhv h=>by
  rcases bP hv with ⟨i,t,rfl,rfl⟩|⟨x,t,rfl,rfl⟩
  ·exact wpAny_pyHash_int h
  ·exact wpAny_pyHash_str h
 eqBool:=λhu hv h=>by
  rcases bP hu with ⟨i,t,rfl,rfl⟩|⟨x,t,rfl,rfl⟩
  ·rcases bP hv with ⟨j,u,rfl,rfl⟩|⟨y,u,rfl,rfl⟩
   ·rw[Kr]at h;exact wpAny_eqBool_int h
   ·rw[Ku]at h;exact SeqAt.EqAt.int_str i t y u _ _ _ _ h
  ·rcases bP hv with ⟨j,u,rfl,rfl⟩|⟨y,u,rfl,rfl⟩
   ·rw[Kv]at h;exact SeqAt.EqAt.str_int x t j u _ _ _ _ h
   ·rw[Ks]at h;exact wpAny_eqBool_str h
 «strs»:=λk x t v h=>by
  rcases bP h with ⟨i,u,rfl,e⟩|⟨y,u,rfl,e⟩
  ·exact nomatch e
  ·injection e with e1 _
   subst e1;cases v<;>rfl
theorem x6(prog:Program)(w:World)(k:Key)(v:Value):(bA prog w).is k v=pH k v:=rfl
theorem ve(prog:Program)(w:World)(i:Int)(t:Tok):(bA prog w).is (.inl i) (.int i t)=true:=AN i t
theorem vf(prog:Program)(w:World)(x:Str)(t:Tok):(bA prog w).is (.inr x) (.str x t)=true:=AO x t
inductive V where
 |non|bl (b:Bool)|int (i:Int)|str (x:Str)|byt (b:Array UInt8)|flt (b:UInt64)|ref (a:Addr)|ty (n:String)
 deriving DecidableEq
def RelV:V->Value->Prop
 |.non,u=>u=Value.none
 |.bl b,u=>u=Value.bool b
 |.int i,u=>∃t,u=Value.int i t
 |.str x,u=>∃t,u=Value.str x t
 |.byt b,u=>∃t,u=Value.bytes b t
 |.flt b,u=>∃t,u=Value.float b t
 |.ref a,u=>u=Value.ref a
 |.ty n,u=>u=Value.type n
abbrev Vals:List V->List Value->Prop:=Paired RelV
theorem Vals.length(r:Vals xs us):xs.length=us.length:=Paired.length r
theorem Vals.get:∀{xs:List V} {us:List Value} {i:Nat} {x:V},Vals xs us->xs[i]?=some x->∃u,us[i]?=some u/\RelV x u
 |_,_,_,_,.nil,e=>by simp at e
 |_,_,0,_,.cons r _,e=>by simp at e;subst e;exact⟨_,rfl,r⟩
 | _,_,i+1,x,.cons _ t,e=>by
  obtain⟨u,h1,h2⟩:=Vals.get (i:=i) (x:=x) t (by simpa using e);exact⟨u,by simpa using h1,h2⟩
theorem Vals.set(r:RelV x u):∀{xs:List V} {us:List Value} (i:Nat),Vals xs us->Vals (xs.set i x) (us.set i u)
 |_,_,_,.nil=>.nil
 |_,_,0,.cons _ t=>.cons r t
 |_,_,i+1,.cons q t=>.cons q (Vals.set r i t)
theorem Vals.append:∀{xs ys:List V} {us ws:List Value},Vals xs us->Vals ys ws->Vals (xs++ys) (us++ws)
 |_,_,_,_,.nil,s=>s
 |_,_,_,_,.cons r t,s=>.cons r (Vals.append t s)
theorem Vals.take:∀{xs:List V} {us:List Value} (n:Nat),Vals xs us->Vals (xs.take n) (us.take n)
 |_,_,0,_=>.nil
 |_,_,_+1,.nil=>.nil
 |_,_,n+1,.cons r t=>.cons r (Vals.take n t)
theorem Vals.drop:∀{xs:List V} {us:List Value} (n:Nat),Vals xs us->Vals (xs.drop n) (us.drop n)
 |_,_,0,r=>r
 |_,_,_+1,.nil=>.nil
 |_,_,n+1,.cons _ t=>Vals.drop n t
def jF:Option V->Option Value->Prop
 |some v,some u=>RelV v u
 |none,none=>True
 |_,_=>False
def KV{κ:Type}:List (κ × V)->List (κ × Value)->Prop:=Paired λ(p:κ × V) (q:κ × Value)=>p.1=q.1/\RelV p.2 q.2
def kV:Key->V
 |.inl i=>.int i
 |.inr x=>.str x
inductive HO where
  |lst (xs:List V)
  |tup (xs:List V)
  |dK (kvs:List (Key×V))|dT (kvs:List (List Key×V))
  |set (S:Int->Bool) (n:Nat)
  |ins (C dx:Addr) (fs:List (Str×V))
  |own (x:Addr)
  |xd (fs:List (Str×V))
  |met (f x:Addr)
  |rng (lo hi:Int)
  |tU (o:Obj) (u:HO)
  |tbl (ps:Array Value)
  |ext (φ:Heap->Prop)
abbrev Hp:=Addr->Option HO
def upd(H:Hp)(a:Addr)(o:HO):Hp:=λb=>if b=a then some o else H b
theorem bg:upd H a o a=some o:=by unfold upd;rw[Zg rfl]
theorem aL(h:b≠a):upd H a o b=H b:=by unfold upd;rw[Zi h]
theorem Ow{H:Hp}{a b:Addr}{o u:HO}(h:H a=some o)(h':H b=some u)(d:o≠u):a≠b:=by
 intro e;subst e;rw[h]at h';exact d (ZI h')
theorem aW{H:Hp}{a b:Addr}{o:HO}(h:H a=some o)(h':H b=none):a≠b:=by
 intro e;subst e;rw[h]at h';cases h'
section
variable (P:Program) (w:World)
def cu(H:Hp)(h:Heap)(a:Addr):HO->Prop
 |.lst xs=>xs.length<=sizeLine/\∃(its:List Value) (n:Nat),Vals xs its/\h.get? a=some { cls:=.type "list",data:=.seq its.toArray n }
 |.tup xs=>xs.length<=sizeLine/\∃its:List Value,Vals xs its/\IsTup h a its.toArray
 |.dK kvs=>kvs.length<=sizeLine/\(a==sysModules)=false/\∃vs,KV kvs vs/\h.DictOf (bA P w) a vs
 | .dT kvs=>kvs.length<=sizeLine/\(a==sysModules)=false/\∃xs:List (List Key×Addr×Value),
   Paired (λ(p:List Key×V) (q:List Key×Addr×Value)=>p.1=q.1/\H q.2.1=some (.tup (p.1.map kV))/\RelV p.2 q.2.2) kvs xs /\
   ∃o es ep,h.get? a=some o/\o.ExactDict/\o.data=.dict es ep/\es.toList=xs.map (entryOfKey (tupleKind (bA P w)))/\(xs.map (·.1)).Nodup
 |.set S n=>h.SetOf (intKind P w) a S n
 | .ins C dx fs=>H dx=some (.own a)/\fs.length<=1000/\dx≠a/\h.get? a=some (instObj C dx) /\
   ∃mA,h.Ns1 dx mA/\(∀f,jF (fs.lookup f) (mA f))/\PySem.Within mA (fs.map (·.1))
 |.own _=>∃o,h.get? a=some o
 |.xd fs=>∃mA,h.Ns1 a mA/\∀f,jF (fs.lookup f) (mA f)
 |.rng lo hi=>∃t u v,h.get? a=some { cls:=.type "range",data:=.fields [.int lo t,.int hi u,.int 1 v].toArray }
 |.tU o u=>h.get? a=some o/\cu H h a u
 |.tbl ps=>h.get? a=some { cls:=.none,data:=.fields ps }
 |.met f x=>h.get? a=some (methodObj (.ref f) (.ref x))
 |.ext φ=>φ h/\(∃o,h.get? a=some o)/\∀h1 h2:Heap,φ h1->(∀o,h1.get? a=some o->h2.get? a=some o) -> φ h2
def lU(H:Hp)(h:Heap):Prop:=∀a o,H a=some o->cu P w H h a o
end
section
variable {P:Program} {w:World} {H H':Hp} {h h':Heap} {a:Addr} {o:HO}
theorem cu.lt(x:cu P w H h a o):a<h.objs.size:=by
 cases o with
 |lst xs=>obtain⟨_,_,_,_,e⟩:=x;exact Zj e
 |tup xs=>obtain⟨_,_,_,p⟩:=x;exact p.lt
 |dK kvs=>obtain⟨_,_,_,_,o,_,_,e,_⟩:=x;exact Zj e
 |dT kvs=>obtain⟨_,_,_,_,o,_,_,e,_⟩:=x;exact Zj e
 |set S n=>obtain⟨o,_,_,_,e,_⟩:=x;exact Zj e
 |ins C dx fs=>obtain⟨_,_,_,e,_⟩:=x;exact Zj e
 |own y=>obtain⟨_,e⟩:=x;exact Zj e
 |xd fs=>obtain⟨_,⟨_,_,_,e,_⟩,_⟩:=x;exact Zj e
 |rng lo hi=>obtain⟨_,_,_,e⟩:=x;exact Zj e
 |tU ob u=>obtain⟨e,_⟩:=x;exact Zj e
 |tbl ps=>exact Zj (show h.get? a=some _ from x)
 |met f y=>exact Zj (show h.get? a=some _ from x)
 |ext φ=>obtain⟨_,⟨_,e⟩,_⟩:=x;exact Zj e
theorem Paired.Kw{α β:Type}{F G:α -> β -> Prop}:∀{l₁:List α} {l₂:List β},Paired F l₁ l₂->(∀a b,F a b->G a b)->Paired G l₁ l₂
 |_,_,.nil,_=>.nil
 |_,_,.cons r t,f=>.cons (f _ _ r) (Paired.Kw t f)
theorem cu.stay(x:cu P w H h a o)(k:∀b u,(b=a\/H b=some (.own a))->h.get? b=some u->h'.get? b=some u)
  (ho:∀b,H b=some (.own a)->H' b=some (.own a)) (ht:∀b xs,H b=some (.tup xs)->H' b=some (.tup xs)):cu P w H' h' a o:=by
 induction o with
 |lst xs=>obtain⟨z,its,n,r,e⟩:=x;exact⟨z,its,n,r,k _ _ (.inl rfl) e⟩
 |tup xs=>obtain⟨z,its,r,ob,e,c⟩:=x;exact⟨z,its,r,ob,k _ _ (.inl rfl) e,c⟩
 |dK kvs=>obtain⟨z,y,vs,r,ob,es,ep,e,c⟩:=x;exact⟨z,y,vs,r,ob,es,ep,k _ _ (.inl rfl) e,c⟩
 |dT kvs=>obtain⟨z,y,xs,r,ob,es,ep,e,c⟩:=x;exact⟨z,y,xs,Paired.Kw r λp q z=>⟨z.1,ht _ _ z.2.1,z.2.2⟩,ob,es,ep,k _ _ (.inl rfl) e,c⟩
 |set S n=>obtain⟨ob,es,ep,t,e,c⟩:=x;exact⟨ob,es,ep,t,k _ _ (.inl rfl) e,c⟩
 |ins C dx fs=>obtain⟨d,z,ne,e,mA,⟨od,es,ep,e2,c⟩,r⟩:=x;exact⟨ho _ d,z,ne,k _ _ (.inl rfl) e,mA,⟨od,es,ep,k _ _ (.inr d) e2,c⟩,r⟩
 |own y=>obtain⟨ob,e⟩:=x;exact⟨ob,k _ _ (.inl rfl) e⟩
 |xd fs=>obtain⟨mA,⟨od,es,ep,e,c⟩,r⟩:=x;exact⟨mA,⟨od,es,ep,k _ _ (.inl rfl) e,c⟩,r⟩
 |rng lo hi=>obtain⟨t,u,v,e⟩:=x;exact⟨t,u,v,k _ _ (.inl rfl) e⟩
 |tU ob u ih=>obtain⟨e,q⟩:=x;exact⟨k _ _ (.inl rfl) e,ih q⟩
 |tbl ps=>have e:h.get? a=some { cls:=.none,data:=.fields ps }:=x;show h'.get? a=some { cls:=.none,data:=.fields ps };exact k a _ (.inl rfl) e
 |met f y=>have e:h.get? a=some (methodObj (.ref f) (.ref y)):=x;show h'.get? a=some (methodObj (.ref f) (.ref y));exact k a _ (.inl rfl) e
 |ext φ=>obtain⟨p,⟨o,e⟩,st⟩:=x;exact⟨st _ _ p λo q=>k _ _ (.inl rfl) q,⟨o,k _ _ (.inl rfl) e⟩,st⟩
theorem lU.lt(x:lU P w H h)(e:H a=some o):a<h.objs.size:=(x a o e).lt
theorem lU.fresh(x:lU P w H h)(e:h.objs.size<=a):H a=none:=by
 cases q:H a with
 |none=>rfl
 |some u=>exact absurd (Zn (x.lt q) e) (lt_irrefl _)
theorem lU.kept(x:lU P w H h)(k:∀b u,h.get? b=some u->h'.get? b=some u):lU P w H h':=λa o e=>
 (x a o e).stay (λb u _ q=>k b u q) (λ_ q=>q) λ_ _ q=>q
theorem lU.laid(x:lU P w H h)(k:∀b u,h.get? b=some u->h'.get? b=some u)(hp:h.objs.size<=a)(new:cu P w (upd H a o) h' a o):lU P w (upd H a o) h':=λb u e=>by
 have hn:=x.fresh hp
 by_cases hb:b=a
 ·subst hb;rw[bg]at e;cases e;exact new
 ·rw[aL hb]at e;exact(x b u e).stay (λc v _ q=>k c v q) (λc q=>by rw[aL (aW q hn)];exact q) λc xs q=>by rw[aL (aW q hn)];exact q
end
def Rd(H:Hp)(a:Addr)(u:HO):Prop:=H a=some u\/∃o,H a=some (.tU o u)
theorem Rd.ok(r:Rd H a u)(x:lU P w H h):cu P w H h a u:=by
 rcases r with r|⟨o,r⟩
 ·exact x a u r
 ·obtain⟨_,q⟩:=x a _ r;exact q
def Ox:Option HO->Prop
 |some (.lst _)=>True
 |some (.dK _)=>True
 |some (.dT _)=>True
 |some (.set _ _)=>True
 |some (.ins _ _ _)=>True
 |some (.ext _)=>True
 |_=>False
section
variable {P:Program} {w:World} {H:Hp} {h h':Heap} {x e:Addr} {o':HO}
theorem lU.write(ok:lU P w H h)(mu:Ox (H x))(he:e=x\/H e=some (.own x))(k:∀b u,b≠e->h.get? b=some u->h'.get? b=some u)(Of:∃u,h'.get? e=some u)
  (new:cu P w (upd H x o') h' x o'):lU P w (upd H x o') h':=λb u q=>by
 have nown:∀c y,H c=some (.own y)->c≠x:=λc y r z=>by subst z;rw[r]at mu;exact mu
 have ntup:∀c xs,H c=some (.tup xs)->c≠x:=λc xs r z=>by subst z;rw[r]at mu;exact mu
 by_cases hb:b=x
 ·subst hb;rw[bg]at q;cases q;exact new
 ·rw[aL hb]at q
  by_cases Ky:b=e
  ·have q':H b=some (.own x):=by
    rcases he with z|z
    ·exact absurd (Ky.trans z) hb
    ·rw[Ky];exact z
   rw[q]at q';cases q';obtain⟨v,hv⟩:=Of;exact⟨v,by rw[Ky];exact hv⟩
  ·refine(ok b u q).stay (λc v hc r=>k c v ?_ r) (λc r=>by rw[aL (nown c b r)];exact r) λc xs r=>by rw[aL (ntup c xs r)];exact r
   rcases hc with rfl|hc
   ·exact Ky
   ·rintro rfl
    rcases he with z|z
    ·exact nown c b hc z
    ·rw[hc]at z;cases z;exact hb rfl
end
structure Un (fs ex:List Addr) (H H':Hp) (h h':Heap):Prop where
 keep:∀b o,h.get? b=some o->H b=none->b∉fs->b∉ex->h'.get? b=some o
 slot:∀b o,h.get? b=some o->H b=none->b∈fs->b∉ex->∃sl,h'.get? b=some { o with slots:=sl }
 free:∀b o,h.get? b=some o->H b=none->b∉ex->H' b=none
 there:∀b o,h.get? b=some o->b∉ex->∃o',h'.get? b=some o'
 tups:∀b xs,H b=some (.tup xs)->H' b=some (.tup xs)
 frzs:∀b o u,H b=some (.tU o u)->H' b=some (.tU o u)
 tW:∀b ps,H b=some (.tbl ps)->∃more,H' b=some (.tbl (ps++more))
section
variable {fs fs' ex ex':List Addr} {H H1 H2:Hp} {h h1 h2 h':Heap} {a x e:Addr} {o:HO}
theorem Un.any(u:Un fs ex H H1 h h1)(q:h.get? b=some ob)(n:H b=none)(hx:b∉ex):∃sl,h1.get? b=some { ob with slots:=sl }:=by
 by_cases hb:b∈fs
 ·exact u.slot b ob q n hb hx
 ·exact⟨ob.slots,u.keep b ob q n hb hx⟩
theorem Un.kept(k:∀b u,h.get? b=some u->h'.get? b=some u):Un fs ex H H h h' :=
 ⟨λb ob q _ _ _=>k b ob q,λb ob q _ _ _=>⟨ob.slots,k b ob q⟩,λ_ _ _ n _=>n,λb ob q _=>⟨ob,k b ob q⟩,λ_ _ q=>q,λ_ _ _ q=>q,λ_ ps q=>⟨#[],by rw[q];simp⟩⟩
theorem Un.refl:Un fs ex H H h h:=Un.kept λ_ _ q=>q
theorem Un.laid(k:∀b u,h.get? b=some u->h'.get? b=some u)(hp:h.objs.size<=a)(hn:H a=none):Un fs ex H (upd H a o) h h' where
 keep:=λb u q _ _ _=>k b u q
 slot:=λb u q _ _ _=>⟨u.slots,k b u q⟩
 free:=λb u q n _=>by rw[aL (Zt (Zn (Zj q) hp))];exact n
 there:=λb u q _=>⟨u,k b u q⟩
 tups:=λb xs q=>by rw[aL (aW q hn)];exact q
 frzs:=λb u xs q=>by rw[aL (aW q hn)];exact q
 tW:=λb ps q=>⟨#[],by rw[aL (aW q hn),q];simp⟩
theorem Un.write(mu:Ox (H x))(he:e=x\/H e=some (.own x))(k:∀b u,b≠e->h.get? b=some u->h'.get? b=some u)(Of:∃u,h'.get? e=some u):Un fs ex H (upd H x o) h h':=by
 have hx:∀b,H b=none->b≠x:=λb n z=>by subst z;rw[n]at mu;exact mu
 have hb:∀b,H b=none->b≠e:=λb n z=>by
  subst z
  rcases he with r|r
  ·exact hx b n r
  ·rw[n]at r;cases r
 have hm:∀b u,H b=some u->¬ Ox (some u)->b≠x:=λb u q nm z=>by subst z;rw[q]at mu;exact nm mu
 refine⟨λb u q n _ _=>k b u (hb b n) q,λb u q n _ _=>⟨u.slots,k b u (hb b n) q⟩,λb u q n _=>by rw[aL (hx b n)];exact n,λb u q _=>?_,
  λb xs q=>by rw[aL (hm b _ q λz=>z)];exact q,λb u xs q=>by rw[aL (hm b _ q λz=>z)];exact q,λb ps q=>⟨#[],by rw[aL (hm b _ q λz=>z),q];simp⟩⟩
 by_cases Ky:b=e
 ·subst Ky;exact Of
 ·exact⟨u,k b u Ky q⟩
end
def R7(h:Heap)(H:Hp):List Addr:=(List.range h.objs.size).filter λa=>(H a).isSome
def tX(h:Heap)(H:Hp):Heap:=PySem.W.hideAll h (R7 h H)
theorem AQ(h:Heap)(H:Hp):(tX h H).objs.size=h.objs.size:=PySem.W.hideAll_size _ _
theorem Cu(e:h.get? b=some o)(n:H b=none):(tX h H).get? b=some o :=
 PySem.W.hideAll_get _ e λhm=>by
  have q:(H b).isSome=true:=(mem_filter.mp hm).2;rw[n]at q;simp at q
theorem GH(e:(tX h H).get? b=some o):h.get? b=some o/\H b=none:=by
 have e':h.get? b=some o:=PySem.W.of_hideAll (R7 h H) e;refine⟨e',?_⟩;cases q:H b with
 |none=>rfl
 |some x=>have hm:b∈R7 h H:=mem_filter.mpr ⟨List.mem_range.mpr (Zj e'),by simp[q]⟩;have z:(tX h H).get? b=none:=PySem.W.hideAll_none (R7 h H) hm;rw[z]at e;cases e
def GI(g h:Heap)(L:Addr):List (Addr×Obj):=(List.range h.objs.size).filterMap λa=>if a=L\/(g.get? a).isSome=true then none else (h.get? a).map λo=>(a,o)
def rest(g h:Heap)(L d:Addr):List (Addr×Obj):=(GI g h L).filter λp=>decide (p.1≠d)
structure Mod (K:Frag) (mg:Str->Option Value) (base:Heap):Prop where
 Oz:K.In base
 glob:base.Ns mainGlobals mg
 blt:∃mb,base.Ns builtinsNs mb/\∀x:Str,x ≠ "__name__" -> mb x=bootBuiltins x
 nolimit:base.NoLimit
structure Cx where
 prog:Program
 w:World
 K:Frag
 mg:Str->Option Value
 base:Heap
 A:Around
 N:List Str
 s₀:Shared
 H₀:Hp
 env:Env
 outer:List Env
 stack:List Env
 ex:List Addr
 fn:Str->Bool
 calm:Bool
 pn:List (Addr×Obj)
 xe:Value->Shared->Prop
def frs(l:List Env):List Addr:=l.filterMap (·.frame)
abbrev Cx.fs(X:Cx):List Addr:=frs X.outer
def R8(sc:Scope)(x:Str):Prop:=sc.names.lookup x=some .local\/sc.names.lookup x=some .cell\/sc.names.lookup x=some .free
def Loc(sc:Scope)(x:Str):Prop:=sc.names.lookup x=some .local\/sc.names.lookup x=some .cell
def Look(env:Env)(h:Heap)(m:Str->Option Value)(x:Str)(u:Value):Prop :=
 (env.kindOf x=some .local/\m x=some u)\/((env.kindOf x=some .cell\/env.kindOf x=some .free)/\∃c,env.cells.lookup x=some c/\h.IsCell c (some u))
structure Cx.Ok (X:Cx):Prop where
 mod:Mod X.K X.mg X.base
 kind:X.env.scope.kind=.function
 glob:X.env.globals=mainGlobals
 blt:X.env.builtins=builtinsNs
 above:X.s₀.heap.objs.size<=X.env.locals
 inj:∀x y c,X.env.cells.lookup x=some c->X.env.cells.lookup y=some c->x=y
 has:∀x,(X.env.kindOf x=some .cell\/X.env.kindOf x=some .free)->∃c,X.env.cells.lookup x=some c
 OA:∀x c,X.fn x=true->X.env.cells.lookup x=some c->X.s₀.heap.objs.size<=c
 hd:X.calm=true->X.A.handled=none
 frames:X.A.frames=some X.stack
 stk:X.stack=X.outer\/(X.stack=X.env::X.outer/\X.env.frame=some X.env.locals)
 SJ:∀b∈X.ex,b≠X.env.locals/\∀x c,X.env.cells.lookup x=some c->c≠b
 bs:∀b o,X.base.get? b=some o->X.s₀.heap.get? b=some o/\X.H₀ b=none
 JQ:X.base.objs.size<=X.s₀.heap.objs.size
 lW:∀b o,X.base.get? b=some o->b∉X.ex
 Cv:∀b∈X.ex,b∉X.fs
 oG:X.s₀.heap.FunFrames X.base X.outer
 Kz:∀b∈X.fs,X.H₀ b=none
structure Inv (X:Cx) (pins:List (Addr×Obj)) (σ:List (Option V)) (H:Hp) (s:Shared):Prop where
 ok:X.Ok
 os:s.os=X.s₀.os
 bare:AllBare s.gens
 base:Un X.fs X.ex X.H₀ H X.s₀.heap s.heap
 loc:∃m,s.heap.Ns X.env.locals m/\∀(i:Nat) (x:Str) (v:V),X.N[i]?=some x -> σ[i]?=some (some v)->R8 X.env.scope x->∃u,RelV v u/\Look X.env s.heap m x u
 cell:∀x c,X.env.cells.lookup x=some c->∃v,s.heap.IsCell c v
 free:H X.env.locals=none
 jA:∀x c,X.env.cells.lookup x=some c->H c=none
 pin:∀p∈X.pn++pins,s.heap.get? p.1=some p.2/\H p.1=none/\p.1≠X.env.locals/\p.1∉X.fs/\∀v,p.2.data≠.cell v
 hok:lU X.prog X.w H s.heap
 len:σ.length=X.N.length
section
variable {X:Cx} {pins:List (Addr×Obj)} {σ:List (Option V)} {H H':Hp} {s:Shared} {h':Heap}
theorem Cx.Ok.SK(ok:X.Ok)(e:X.base.get? b=some o):b∉X.fs:=λhb=>by
 have:=(ok.oG.mem hb).1;rw[e]at this;cases this
theorem Inv.bs(I:Inv X pins σ H s):∀b o,X.base.get? b=some o->s.heap.get? b=some o/\H b=none:=λb o e=>
 ⟨I.base.keep b o (I.ok.bs b o e).1 (I.ok.bs b o e).2 (I.ok.SK e) (I.ok.lW b o e),I.base.free b o (I.ok.bs b o e).1 (I.ok.bs b o e).2 (I.ok.lW b o e)⟩
theorem Inv.bk(I:Inv X pins σ H s):∀b o,X.base.get? b=some o->s.heap.get? b=some o:=λb o e=>(I.bs b o e).1
theorem Inv.mod(I:Inv X pins σ H s):Mod X.K X.mg X.base:=I.ok.mod
theorem Inv.oX(I:Inv X pins σ H s):X.K.In s.heap:=I.ok.mod.Oz.keeps I.bk
theorem Inv.lt(I:Inv X pins σ H s):X.env.locals<s.heap.objs.size:=let ⟨_,hn,_⟩:=I.loc;hn.lt
theorem Inv.sz(I:Inv X pins σ H s):X.s₀.heap.objs.size<=s.heap.objs.size:=ZE I.ok.above (le_of_lt I.lt)
theorem Inv.SM(I:Inv X pins σ H s)(h:s.heap.objs.size<=a):a∉X.fs:=λhb=>by
 obtain⟨_,o,ho,_⟩:=I.ok.oG.mem hb;exact absurd (Zn (Zj ho) (ZE I.sz h)) (lt_irrefl _)
theorem Inv.cne(I:Inv X pins σ H s):∀x c,X.env.cells.lookup x=some c->c≠X.env.locals:=λx c e z=>by
 obtain⟨v,o,ho,hd⟩:=I.cell x c e;obtain⟨m,⟨o',es,ep,ho',hd',_⟩,_⟩:=I.loc;rw[z,ho']at ho;cases ho;rw[hd']at hd;cases hd
theorem Inv.oG(I:Inv X pins σ H s):s.heap.FunFrames X.base X.outer:=by
 have all:∀(l:List Env),(∀b∈frs l,b∈X.fs)->X.s₀.heap.FunFrames X.base l->s.heap.FunFrames X.base l:=by
  intro l
  induction l with
  |nil=>intro _ _;trivial
  |cons env r ih=>intro hs hl;obtain⟨hk,⟨L,o,hf,hn,ho,hd⟩,hr⟩:=hl;have hL:L∈X.fs:=hs L (by unfold frs;rw[List.filterMap_cons,hf];exact Zk);obtain⟨sl,e⟩:=I.base.slot L o ho (I.ok.Kz L hL) hL λz=>I.ok.Cv L z hL;exact⟨hk,⟨L,_,hf,hn,e,hd⟩,ih (λb hb=>hs b (by unfold frs;rw[List.filterMap_cons,hf];exact Zh _ hb)) hr⟩
 exact all X.outer (λ_ hb=>hb) I.ok.oG
theorem Inv.stack(I:Inv X pins σ H s):s.heap.FunFrames X.base X.stack:=by
 rcases I.ok.stk with e|⟨e,hf⟩
 ·rw[e];exact I.oG
 ·rw[e];obtain⟨m,hn,_⟩:=I.loc;refine .cons (by rw[I.ok.kind];decide) hf hn ?_ I.oG;exact Heap.get?_none_of_le (ZE I.ok.JQ I.ok.above)
theorem Inv.x8(I:Inv X pins σ H s):∀b∈frs X.stack,b∈X.env.locals::X.fs:=λb hb=>by
 rcases I.ok.stk with e|⟨e,hf⟩
 ·rw[e]at hb;exact Zh _ hb
 ·rw[e]at hb;unfold frs at hb;rw[List.filterMap_cons,hf]at hb;exact hb
theorem Inv.zj(I:Inv X pins σ H s):∀b∈frs X.stack,H b=none:=λb hb=>by
 rcases Zw.mp (I.x8 b hb) with e|hb
 ·rw[e];exact I.free
 ·obtain⟨_,o,ho,_⟩:=I.ok.oG.mem hb;exact I.base.free b o ho (I.ok.Kz b hb) λz=>I.ok.Cv b z hb
theorem Inv.step{g':Array GenState}{t':Nat}{d':Drawn}{ch:List Addr}(I:Inv X pins σ H s)
  (hch:∀b∈ch,(b∈X.ex\/X.s₀.heap.objs.size<=b)/\b≠X.env.locals/\(∀x c,X.env.cells.lookup x=some c->c≠b)/\∀p∈X.pn++pins,p.1≠b)
  (keep:∀b o,b≠X.env.locals->b∉X.fs->b∉ch->s.heap.get? b=some o->H b=none->h'.get? b=some o)
  (slot:∀b o,b≠X.env.locals->b∈X.fs->b∉ch->s.heap.get? b=some o->H b=none->∃sl,h'.get? b=some { o with slots:=sl }) (free:∀b o,b∉ch->s.heap.get? b=some o->H b=none->H' b=none)
  (there:∀b o,b∉ch->s.heap.get? b=some o->∃o',h'.get? b=some o')
  (tups:∀b xs,H b=some (.tup xs)->H' b=some (.tup xs)) (frzs:∀b o u,H b=some (.tU o u)->H' b=some (.tU o u)) (tW:∀b ps,H b=some (.tbl ps)->∃more,H' b=some (.tbl (ps++more)))
  (ns:∀m,s.heap.Ns X.env.locals m->h'.Ns X.env.locals m) (hok:lU X.prog X.w H' h') (hg:AllBare g') :
  Inv X pins σ H' { s with heap:=h',gens:=g',drawn:=d',toks:=t' }:=by
 have neL:∀b o,X.s₀.heap.get? b=some o->b≠X.env.locals:=λb o e=>Zt (Zn (Zj e) I.ok.above);have neC:∀b o,X.s₀.heap.get? b=some o->b∉X.ex->b∉ch:=λb o e hx hb=>by
  rcases(hch b hb).1 with z|z
  ·exact hx z
  ·exact absurd (Zn (Zj e) z) (lt_irrefl _)
 have cellK:∀x c,X.env.cells.lookup x=some c->∀v,s.heap.IsCell c v->h'.IsCell c v:=λx c e v ⟨o,ho,hd⟩=>by
  have OC:c∉ch:=λz=>(hch c z).2.2.1 x c e rfl
  by_cases hc:c∈X.fs
  ·obtain⟨sl,q⟩:=slot c o (I.cne x c e) hc OC ho (I.jA x c e);exact⟨_,q,hd⟩
  ·exact⟨o,keep c o (I.cne x c e) hc OC ho (I.jA x c e),hd⟩
 refine⟨I.ok,I.os,hg,⟨λb o e n hb hx=>?_,λb o e n hb hx=>?_,λb o e n hx=>?_,λb o e hx=>?_,λb xs e=>tups b xs (I.base.tups b xs e),λb o xs e=>frzs b o xs (I.base.frzs b o xs e),λb ps e=>?_⟩,?_,λx c e=>?_,?_,λx c e=>?_,λp hp=>?_,hok,I.len⟩
 ·exact keep b o (neL b o e) hb (neC b o e hx) (I.base.keep b o e n hb hx) (I.base.free b o e n hx)
 ·obtain⟨sl,e1⟩:=I.base.slot b o e n hb hx;obtain⟨Wn,e2⟩:=slot b _ (neL b o e) hb (neC b o e hx) e1 (I.base.free b o e n hx);exact⟨Wn,e2⟩
 ·obtain⟨o',e1⟩:=I.base.there b o e hx;exact free b o' (neC b o e hx) e1 (I.base.free b o e n hx)
 ·obtain⟨o',e1⟩:=I.base.there b o e hx;exact there b o' (neC b o e hx) e1
 ·obtain⟨m1,e1⟩:=I.base.tW b ps e;obtain⟨m2,e2⟩:=tW b _ e1;exact⟨m1++m2,by rw[e2,Array.append_assoc]⟩
 ·obtain⟨m,hn,hl⟩:=I.loc
  refine⟨m,ns m hn,λi x v e1 e2 e3=>?_⟩;obtain⟨u,r,l⟩:=hl i x v e1 e2 e3;refine⟨u,r,?_⟩
  rcases l with l|⟨k,c,e,z⟩
  ·exact .inl l
  ·exact .inr ⟨k,c,e,cellK x c e _ z⟩
 ·obtain⟨v,z⟩:=I.cell x c e;exact⟨v,cellK x c e v z⟩
 ·obtain⟨m,⟨o,_,_,ho,_⟩,_⟩:=I.loc;exact free _ o (λz=>(hch _ z).2.1 rfl) ho I.free
 ·obtain⟨v,o,ho,hd⟩:=I.cell x c e;exact free c o (λz=>(hch c z).2.2.1 x c e rfl) ho (I.jA x c e)
 ·obtain⟨e,n,ne,nf,d⟩:=I.pin p hp;have OC:p.1∉ch:=λz=>(hch p.1 z).2.2.2 p hp rfl;exact⟨keep p.1 p.2 ne nf OC e n,free p.1 p.2 OC e n,ne,nf,d⟩
theorem Inv.un{t':Nat}(I:Inv X pins σ H s)(u:Un X.fs [] H H' s.heap h')(hok:lU X.prog X.w H' h'):Inv X pins σ H' { s with heap:=h',toks:=t' }:=by
 obtain⟨m,⟨o,es,ep,ho,r⟩,_⟩:=id I.loc;obtain⟨sl,hL⟩:=u.any ho I.free (by simp);exact I.step (g':=s.gens) (d':=s.drawn) (ch:=[]) (λ_ z=>nomatch z) (λb o _ hb _ e n=>u.keep b o e n hb (by simp)) (λb o _ hb _ e n=>u.slot b o e n hb (by simp)) (λb o _ e n=>u.free b o e n (by simp)) (λb o _ e=>u.there b o e (by simp)) u.tups u.frzs u.tW (λm' hm=>by
  obtain⟨o',es',SN,ho',r'⟩:=hm;rw[ho]at ho';cases ho';exact⟨_,es',SN,hL,r'⟩) hok I.bare
theorem Inv.call{t':Nat}(I:Inv X pins σ H s)(u:Un (frs X.stack) ch H H' s.heap h')(hok:lU X.prog X.w H' h')(hg:AllBare g')
  (hch:∀b∈ch,(b∈X.ex\/X.s₀.heap.objs.size<=b)/\b≠X.env.locals/\(∀x c,X.env.cells.lookup x=some c->c≠b)/\∀p∈X.pn++pins,p.1≠b) :
  Inv X pins σ H' { s with heap:=h',gens:=g',drawn:=d',toks:=t' }:=by
 obtain⟨m,⟨o,es,ep,ho,r⟩,_⟩:=id I.loc;obtain⟨sl,hL⟩:=u.any ho I.free λz=>(hch _ z).2.1 rfl;exact I.step (ch:=ch) hch (λb o hL hb hc e n=>u.keep b o e n (λz=>(Zw.mp (I.x8 b z)).elim hL hb) hc) (λb o _ _ hc e n=>u.any e n hc) (λb o hc e n=>u.free b o e n hc) (λb o hc e=>u.there b o e hc) u.tups u.frzs u.tW (λm' hm=>by
  obtain⟨o',es',SN,ho',r'⟩:=hm;rw[ho]at ho';cases ho';exact⟨_,es',SN,hL,r'⟩) hok hg
theorem Inv.turned{t':Nat}(I:Inv X pins σ H s)(k:∀b o,b≠it->s.heap.get? b=some o->h'.get? b=some o)(hn:H it=none)(hL:it≠X.env.locals)
  (h1:it∈X.ex\/X.s₀.heap.objs.size<=it) (h2:∀x c,X.env.cells.lookup x=some c->c≠it) (h3:∀p∈X.pn++pins,p.1≠it):Inv X pins σ H { s with heap:=h',toks:=t' }:=by
 have OE:∀b u,H b=some u->b≠it:=λb u e z=>by rw[z,hn]at e;cases e
 refine I.step (g':=s.gens) (d':=s.drawn) (ch:=[it]) (λb hb=>?_) (λb o _ _ hc e _=>k b o (λz=>hc (by simp[z])) e) (λb o _ _ hc e _=>⟨o.slots,k b o (λz=>hc (by simp[z])) e⟩) (λ_ _ _ _ n=>n)
  (λb o hc e=>⟨o,k b o (λz=>hc (by simp[z])) e⟩) (λ_ _ e=>e) (λ_ _ _ e=>e) (λb ps e=>⟨#[],by rw[e];simp⟩) (λm hm=>?_) (λb u e=>?_) I.bare
 ·have e:b=it:=by simpa using hb
  subst e;exact⟨h1,hL,h2,h3⟩
 ·obtain⟨o,es,ep,ho,r⟩:=hm;exact⟨o,es,ep,k _ o (Ne.symm hL) ho,r⟩
 ·refine(I.hok b u e).stay (λc v hc q=>k c v ?_ q) (λ_ q=>q) λ_ _ q=>q
  rcases hc with z|z
  ·rw[z];exact OE b u e
  ·exact OE c _ z
theorem Inv.tok(I:Inv X pins σ H s)(t:Nat):Inv X pins σ H { s with toks:=t }:=I.un (h':=s.heap) (t':=t) Un.refl I.hok
theorem Inv.kept{t':Nat}(I:Inv X pins σ H s)(k:∀b u,s.heap.get? b=some u->h'.get? b=some u):Inv X pins σ H { s with heap:=h',toks:=t' }:=I.un (Un.kept k) (I.hok.kept k)
theorem Inv.laid{t':Nat}(I:Inv X pins σ H s)(k:∀b u,s.heap.get? b=some u->h'.get? b=some u)(hp:s.heap.objs.size<=a)(new:cu X.prog X.w (upd H a o) h' a o) :
  Inv X pins σ (upd H a o) { s with heap:=h',toks:=t' }:=I.un (Un.laid k hp (I.hok.fresh hp)) (I.hok.laid k hp new)
theorem Inv.write{t':Nat}(I:Inv X pins σ H s)(mu:Ox (H x))(he:e=x\/H e=some (.own x))(k:∀b u,b≠e->s.heap.get? b=some u->h'.get? b=some u)(Of:∃u,h'.get? e=some u)
  (new:cu X.prog X.w (upd H x o) h' x o):Inv X pins σ (upd H x o) { s with heap:=h',toks:=t' }:=I.un (Un.write mu he k Of) (I.hok.write mu he k Of new)
theorem Inv.zk(I:Inv X pins σ H s)(h:∀p∈OF,s.heap.get? p.1=some p.2/\H p.1=none/\p.1≠X.env.locals/\p.1∉X.fs/\∀v,p.2.data≠.cell v):Inv X OF σ H s :=
 ⟨I.ok,I.os,I.bare,I.base,I.loc,I.cell,I.free,I.jA,λp hp=>(ZP.mp hp).elim (λz=>I.pin p (mem_append_left _ z)) (h p),I.hok,I.len⟩
theorem vg{N:List Str}(hN:N.Nodup){i j:Nat}{x:Str}(a:N[i]?=some x)(b:N[j]?=some x):i=j:=by
 obtain⟨h1,e1⟩:=Zb.mp a;obtain⟨h2,e2⟩:=Zb.mp b;exact(List.getElem_inj hN).mp (e1.trans e2.symm)
theorem rP{i:Nat}(I:Inv X pins σ H s)(hN:X.N.Nodup)(hi:X.N[i]?=some x)(hx:Loc X.env.scope x)(r:RelV v u)
  (h:∀s',Inv X pins (σ.set i (some v)) H s'->(∃a,Heap.SameBut a s.heap s'.heap/\(a=X.env.locals\/X.env.cells.lookup x=some a))->Q () s') (hf:X.fn x=true\/X.env.scope.names.lookup x=some .local):wpAny M A (storeName X.env x u) Q E s:=by
 obtain⟨m,hn,hl⟩:=id I.loc;have hcls:(X.env.scope.kind==.class||(X.env.scope.kind==.module&&X.env.locals != X.env.globals))=false:=by rw[I.ok.kind];rfl
 have UT:i < σ.length:=by rw[I.len];exact(Zb.mp hi).1
 have cne:=I.cne;have tracked:∀{a:Addr} {h':Heap},(∃o,s.heap.get? a=some o/\H a=none)->Heap.SameBut a s.heap h'->lU X.prog X.w H h':=λ{a h'} ha hs b ob e=>by
  obtain⟨_,_,hfree⟩:=ha;refine(I.hok b ob e).stay (λc w' hc q=>(hs.2 c ?_).trans q) (λ_ q=>q) λ_ _ q=>q;rintro rfl
  rcases hc with rfl|hc
  ·rw[hfree]at e;cases e
  ·rw[hfree]at hc;cases hc
 rcases hx with hk|hk
 ·refine wpAny_storeName_local hk hn (λh' hn' hs=>?_) hcls
  obtain⟨oL,_,_,Wo,_⟩:=id hn;refine h _ ⟨I.ok,I.os,I.bare,⟨λb o e n hb hx=>?_,λb o e n hb hx=>?_,I.base.free,λb o e hx=>?_,I.base.tups,I.base.frzs,I.base.tW⟩,⟨_,hn',λj y v' e1 e2 e3=>?_⟩,λy c e=>?_,I.free,I.jA,λp hp=>?_,tracked ⟨oL,Wo,I.free⟩ hs,by simpa using I.len⟩ ⟨_,hs,.inl rfl⟩
  ·exact(hs.2 b (Zt (Zn (Zj e) I.ok.above))).trans (I.base.keep b o e n hb hx)
  ·obtain⟨sl,e1⟩:=I.base.slot b o e n hb hx;exact⟨sl,(hs.2 b (Zt (Zn (Zj e) I.ok.above))).trans e1⟩
  ·obtain⟨o',e1⟩:=I.base.there b o e hx;exact⟨o',(hs.2 b (Zt (Zn (Zj e) I.ok.above))).trans e1⟩
  ·by_cases hj:j=i
   ·subst hj;rw[hi]at e1;cases e1;rw[Zl UT]at e2;cases e2;exact⟨u,r,.inl ⟨hk,by simp⟩⟩
   ·rw[Zd (Ne.symm hj)]at e2
    obtain⟨u',r',q⟩:=hl j y v' e1 e2 e3;refine⟨u',r',?_⟩
    rcases q with ⟨k,e⟩|⟨k,c,e,z⟩
    ·refine .inl ⟨k,?_⟩;have:y≠x:=λe=>hj (vg hN e1 (e▸hi));simp[this,e]
    ·exact .inr ⟨k,c,e,z.sameBut hs (cne y c e)⟩
  ·obtain⟨w',z⟩:=I.cell y c e;exact⟨w',z.sameBut hs (cne y c e)⟩
  ·obtain⟨e,n,ne,nf,d⟩:=I.pin p hp;exact⟨(hs.2 p.1 ne).trans e,n,ne,nf,d⟩
 ·have hfn:X.fn x=true:=by
   rcases hf with z|z
   ·exact z
   ·rw[z]at hk;cases hk
  obtain⟨c,hc⟩:=I.ok.has x (.inl hk);obtain⟨w',z⟩:=I.cell x c hc;refine wpAny_storeName_cell I.ok.kind hk hc z (λh' hc' hs=>?_);obtain⟨oc,hoc,Cw⟩:=id z;refine h { s with heap:=h' } ⟨I.ok,I.os,I.bare,⟨λb o e n hb hx=>?_,λb o e n hb hx=>?_,I.base.free,λb o e hx=>?_,I.base.tups,I.base.frzs,I.base.tW⟩,⟨m,hn.sameBut hs (Ne.symm (cne x c hc)),λj y v' e1 e2 e3=>?_⟩,λy c' e=>?_,I.free,I.jA,λp hp=>?_,tracked ⟨oc,hoc,I.jA x c hc⟩ hs,by simpa using I.len⟩ ⟨c,hs,.inr hc⟩
  ·exact(hs.2 b (Zt (Zn (Zj e) (I.ok.OA x c hfn hc)))).trans (I.base.keep b o e n hb hx)
  ·obtain⟨sl,e1⟩:=I.base.slot b o e n hb hx;exact⟨sl,(hs.2 b (Zt (Zn (Zj e) (I.ok.OA x c hfn hc)))).trans e1⟩
  ·obtain⟨o',e1⟩:=I.base.there b o e hx;exact⟨o',(hs.2 b (Zt (Zn (Zj e) (I.ok.OA x c hfn hc)))).trans e1⟩
  ·by_cases hj:j=i
   ·subst hj;rw[hi]at e1;cases e1;rw[Zl UT]at e2;cases e2;exact⟨u,r,.inr ⟨.inl hk,c,hc,hc'⟩⟩
   ·rw[Zd (Ne.symm hj)]at e2
    obtain⟨u',r',q⟩:=hl j y v' e1 e2 e3;refine⟨u',r',?_⟩
    rcases q with q|⟨k,c',e,z'⟩
    ·exact .inl q
    ·refine .inr ⟨k,c',e,z'.sameBut hs ?_⟩;rintro rfl;exact hj (vg hN e1 (I.ok.inj _ _ _ e hc▸hi))
  ·by_cases hcc:c'=c
   ·subst hcc;exact⟨_,hc'⟩
   ·obtain⟨w2,z2⟩:=I.cell y c' e;exact⟨w2,z2.sameBut hs hcc⟩
  ·obtain⟨e,n,ne,nf,d⟩:=I.pin p hp;refine⟨(hs.2 p.1 ?_).trans e,n,ne,nf,d⟩;intro q;rw[q,hoc]at e;have q':oc=p.2:=ZI e;exact d w' (by rw[<-q'];exact Cw)
theorem vh{i:Nat}(I:Inv X pins σ H s)(hN:X.N.Nodup)(hi:X.N[i]?=some x)(hx:Loc X.env.scope x)(r:RelV v u)
  (h:∀s',Inv X pins (σ.set i (some v)) H s'->Q () s') (hf:X.fn x=true\/X.env.scope.names.lookup x=some .local):wpAny M A (storeName X.env x u) Q E s :=
 rP I hN hi hx r (λs' I' _=>h s' I') hf
theorem Inv.OG(I:Inv X pins σ H s)(ho:s'.os=s.os)(u:Un (frs X.stack) ch H H' s.heap s'.heap)(hok:lU X.prog X.w H' s'.heap)(hg:AllBare s'.gens)
  (hch:∀b∈ch,(b∈X.ex\/X.s₀.heap.objs.size<=b)/\b≠X.env.locals/\(∀x c,X.env.cells.lookup x=some c->c≠b)/\∀p∈X.pn++pins,p.1≠b):Inv X pins σ H' s':=by
 obtain⟨h',g',d',t',o'⟩:=s';have e:o'=s.os:=ho;subst e;exact I.call (g':=g') (t':=t') (d':=d') u hok hg hch
end
abbrev XK:=Value->Option Addr->Hp->Prop
abbrev St:=List (Option V)
abbrev VK:=V->Hp->Prop
abbrev TE:=St->Hp->VK->Prop
abbrev TT:=St->Hp->(Bool->Hp->Prop)->Prop
abbrev TA:=St->Hp->(List V->Hp->Prop)->Prop
structure Ends where
 nx:St->Hp->Prop
 rt:VK
 bk:St->Hp->Prop:=λ_ _=>False
 ct:St->Hp->Prop:=λ_ _=>False
abbrev TS:=Ends->St->Hp->Prop
def EP(X:Cx)(pins:List (Addr×Obj))(σ:St)(Q:VK)(u:Value)(s':Shared):Prop:=∃v H',Inv X pins σ H' s'/\RelV v u/\Q v H'
def TP(X:Cx)(pins:List (Addr×Obj))(σ:St)(Q:Bool->Hp->Prop)(b:Bool)(s':Shared):Prop:=∃H',Inv X pins σ H' s'/\Q b H'
def AP(X:Cx)(pins:List (Addr×Obj))(σ:St)(Q:List V->Hp->Prop)(us:List Value)(s':Shared):Prop:=∃vs H',Inv X pins σ H' s'/\Vals vs us/\Q vs H'
def SP(X:Cx)(pins:List (Addr×Obj))(D:Ends)(f:Flow)(s':Shared):Prop :=
 match f with
 |.next=>∃σ' H',Inv X pins σ' H' s'/\D.nx σ' H'
 |.brk=>∃σ' H',Inv X pins σ' H' s'/\D.bk σ' H'
 |.cont=>∃σ' H',Inv X pins σ' H' s'/\D.ct σ' H'
 |.ret u=>∃v σ' H',Inv X pins σ' H' s'/\RelV v u/\D.rt v H'
def PE(X:Cx)(e:Expr)(t:TE):Prop :=
 ∀(pins:List (Addr×Obj)) (s:Shared) (σ:St) (H:Hp) (Q:VK),Inv X pins σ H s->t σ H Q->wpAny (model X.prog X.w) X.A (eval e X.env) (EP X pins σ Q) X.xe s
def PT(X:Cx)(e:Expr)(t:TT):Prop :=
 ∀(pins:List (Addr×Obj)) (s:Shared) (σ:St) (H:Hp) (Q:Bool->Hp->Prop),Inv X pins σ H s->t σ H Q->wpAny (model X.prog X.w) X.A (isTrue e X.env (eval e X.env)) (TP X pins σ Q) X.xe s
def PW(X:Cx)(e:Expr)(t:TT):Prop :=
 ∀(whole:Sem Value) (pins:List (Addr×Obj)) (s:Shared) (σ:St) (H:Hp) (Q:Bool->Hp->Prop),Inv X pins σ H s->t σ H Q->wpAny (model X.prog X.w) X.A (isTrue e X.env whole) (TP X pins σ Q) X.xe s
theorem PW.pt(h:PW X e t):PT X e t:=h _
def PA(X:Cx)(es:List Expr)(t:TA):Prop :=
 ∀(pos:Pos) (pins:List (Addr×Obj)) (s:Shared) (σ:St) (H:Hp) (Q:List V->Hp->Prop),Inv X pins σ H s->t σ H Q->wpAny (model X.prog X.w) X.A (spliced (backTo pos (starEach es X.env))) (AP X pins σ Q) X.xe s
def PS(X:Cx)(st:Stmt)(t:TS):Prop :=
 ∀(pins:List (Addr×Obj)) (s:Shared) (σ:St) (H:Hp) (D:Ends),Inv X pins σ H s->t D σ H->wpAny (model X.prog X.w) X.A (exec st X.env) (SP X pins D) X.xe s
def x9(X:Cx)(st:List Stmt)(t:TS):Prop :=
 ∀(pins:List (Addr×Obj)) (s:Shared) (σ:St) (H:Hp) (D:Ends),Inv X pins σ H s->t D σ H->wpAny (model X.prog X.w) X.A (execs st X.env) (SP X pins D) X.xe s
theorem cK{α:Type}{t:Sem α}{Q Q':α -> Shared->Prop}(h:wpAny M A t Q E s)(hQ:∀a s,Q a s->Q' a s):wpAny M A t Q' E s:=wpAny_mono h hQ λ_ _ x=>x
section
variable {X:Cx}
theorem bin{a b:Expr}{ta tb:TE}(ha:PE X a ta)(hb:PE X b tb){pins:List (Addr×Obj)}{s:Shared}{σ:St}{H:Hp}{R:V->V->Hp->Prop}(I:Inv X pins σ H s)(h:ta σ H λx H1=>tb σ H1 λy H2=>R x y H2)
  {α:Type} {Q:α -> Shared->Prop} {f:Value->Value->Sem α}
  (hf:∀v u s2 x y H2,Inv X pins σ H2 s2->RelV x v->RelV y u->R x y H2->wpAny (model X.prog X.w) X.A (f v u) Q X.xe s2) :
  wpAny (model X.prog X.w) X.A (eval a X.env) (λv s₁=>wpAny (model X.prog X.w) X.A (eval b X.env) (λu s₂=>wpAny (model X.prog X.w) X.A (f v u) Q X.xe s₂) X.xe s₁) X.xe s:=by
 refine cK (ha pins s σ H _ I h) λv s1 aO=>?_;obtain⟨x,H1,I1,r1,q1⟩:=aO;refine cK (hb pins s1 σ H1 _ I1 q1) λu s2 aO=>?_;obtain⟨y,H2,I2,r2,q2⟩:=aO;exact hf v u s2 x y H2 I2 r1 r2 q2
def SO(i:Nat):TE:=λσ H Q=>∃v,σ[i]?=some (some v)/\Q v H
def tC(v:V):TE:=λ_ H Q=>Q v H
theorem KA{i:Nat}(hN:X.N[i]?=some x)(hv:R8 X.env.scope x)(hd:(x==("__debug__":Str))=false)(hcd:(x==("__classdict__":Str))=false):PE X (.Name x pos) (SO i):=by
 intro pins s σ H Q I h;obtain⟨v,e,h⟩:=h;obtain⟨m,hn,hl⟩:=I.loc;obtain⟨u,r,l⟩:=hl i x v hN e hv;have fin:EP X pins σ Q u s:=⟨v,H,I,r,h⟩
 rcases l with ⟨hk,hm⟩|⟨hk,c,hc,hcell⟩
 ·exact wpAny_Name (wpAny_loadName_local I.ok.kind hk hn hm fin) hd
 ·rcases hk with hk|hk
  ·exact wpAny_Name (wpAny_loadName_cell I.ok.kind hk hc hcell fin) hd
  ·exact wpAny_Name (wpAny_loadName_free I.ok.kind hk hc hcell fin hcd) hd
theorem KC{i j pos}:PE X (.Constant (.int i) j pos) (tC (.int i)):=λ_ _ _ H _ I h=>wpAny_Constant_int ⟨.int i,H,I.tok _,⟨_,rfl⟩,h⟩
theorem OH{b j pos}:PE X (.Constant (.bool b) j pos) (tC (.bl b)):=λ_ _ _ H _ I h=>Constant_bool ⟨.bl b,H,I,rfl,h⟩
theorem KD{j pos}:PE X (.Constant .none j pos) (tC .non):=λ_ _ _ H _ I h=>Constant_none ⟨.non,H,I,rfl,h⟩
theorem KG{x j pos}:PE X (.Constant (.str x) j pos) (tC (.str x)):=λ_ _ _ H _ I h=>Calls.Constant_str ⟨.str x,H,I.tok _,⟨_,rfl⟩,h⟩
def Gl(X:Cx)(x:Str):Prop:=X.env.kindOf x=some .globalImplicit
theorem lX(I:Inv X pins σ H s)(hg:Gl X x)(hm:X.mg x=some u)(h:Q u s)
  (hd:(x==("__debug__":Str))=false):wpAny (model X.prog X.w) X.A (eval (.Name x pos) X.env) Q E s :=
 Calls.Name_function_global I.ok.kind hg (Calls.loadGlobal_global (by rw[I.ok.glob];exact I.mod.glob.keeps I.bk) hm h) hd
theorem jf(I:Inv X pins σ H s)(hg:Gl X x)(hm:X.mg x=none)(hv:bootBuiltins x=some u)(h:Q u s)
  (hn:x ≠ "__name__":=by decide) (hd:(x==("__debug__":Str))=false:=by decide):wpAny (model X.prog X.w) X.A (eval (.Name x pos) X.env) Q E s:=by
 obtain⟨mb,h1,h2⟩:=I.mod.blt;exact Calls.Name_function_global I.ok.kind hg (Calls.loadGlobal_builtin (by rw[I.ok.glob];exact I.mod.glob.keeps I.bk) hm (by rw[I.ok.blt];exact h1.keeps I.bk) ((h2 x hn).trans hv) h) hd
theorem GJ(hg:Gl X x)(hm:X.mg x=some u)(r:RelV v u)(hd:(x==("__debug__":Str))=false):PE X (.Name x pos) (tC v) :=
 λ_ _ _ H _ I h=>lX I hg hm ⟨v,H,I,r,h⟩ hd
theorem GK(hg:Gl X x)(hm:X.mg x=none)(hv:bootBuiltins x=some u)(r:RelV v u)(hn:x ≠ "__name__")(hd:(x==("__debug__":Str))=false):PE X (.Name x pos) (tC v) :=
 λ_ _ _ H _ I h=>jf I hg hm hv ⟨v,H,I,r,h⟩ hn hd
variable {a b:Expr} {ta tb:TE} {pos:Pos}
variable {tA R9:TT} {rest:List Expr}
def SQ(t u:TT):TT:=λσ H Q=>t σ H λc H1=>if c=true then u σ H1 Q else Q false H1
def Wq(t u:TT):TT:=λσ H Q=>t σ H λc H1=>if c=true then Q true H1 else u σ H1 Q
def SS(t:TT):TT:=λσ H Q=>t σ H λc H1=>Q (!c) H1
theorem GL(ha:PT X a tA):PW X (.BoolOp .And [a] pos) tA:=by
 intro wh pins s σ H Q I h;refine isTrue_and (cK (ha pins s σ H Q I h) λc s1 e=>?_);cases c with
 |true=>exact isTrue_and_nil e
 |false=>exact e
theorem KH(ha:PT X a tA):PW X (.BoolOp .Or [a] pos) tA:=by
 intro wh pins s σ H Q I h;refine isTrue_or (cK (ha pins s σ H Q I h) λc s1 e=>?_);cases c with
 |false=>exact isTrue_or_nil e
 |true=>exact e
theorem KI(ha:PT X a tA)(hb:PW X (.BoolOp .And (b::rest) pos) R9):PW X (.BoolOp .And (a::b::rest) pos) (SQ tA R9):=by
 intro wh pins s σ H Q I h;refine isTrue_and (cK (ha pins s σ H _ I h) λc s1 aO=>?_);obtain⟨H1,I1,q1⟩:=aO;cases c with
 |true=>exact hb wh pins s1 σ H1 Q I1 q1
 |false=>exact⟨H1,I1,q1⟩
theorem OI(ha:PT X a tA)(hb:PW X (.BoolOp .Or (b::rest) pos) R9):PW X (.BoolOp .Or (a::b::rest) pos) (Wq tA R9):=by
 intro wh pins s σ H Q I h;refine isTrue_or (cK (ha pins s σ H _ I h) λc s1 aO=>?_);obtain⟨H1,I1,q1⟩:=aO;cases c with
 |true=>exact⟨H1,I1,q1⟩
 |false=>exact hb wh pins s1 σ H1 Q I1 q1
theorem KJ(ha:PT X a tA):PT X (.UnaryOp .Not a pos) (SS tA):=by
 intro pins s σ H Q I h;exact isTrue_not (ha pins s σ H (λc H1=>Q (!c) H1) I h)
def OJ(ta tb:TE):TE:=λσ H Q=>ta σ H λx H1=>∃c,x=.bl c/\if c=true then tb σ H1 Q else Q (.bl false) H1
def SV(ta tb:TE):TE:=λσ H Q=>ta σ H λx H1=>∃c,x=.bl c/\if c=true then Q (.bl true) H1 else tb σ H1 Q
def OL(ta:TE):TE:=λσ H Q=>ta σ H λx H1=>∃c,x=.bl c/\Q (.bl (!c)) H1
theorem Cy{op}(h:PE X a t):PE X (.BoolOp op [a] pos) t:=λpins s σ H Q I hw=>BoolOp_one (h pins s σ H Q I hw)
theorem KL(ha:PE X a ta)(hb:PE X (.BoolOp .And (b::rest) pos) tb):PE X (.BoolOp .And (a::b::rest) pos) (OJ ta tb):=by
 intro pins s σ H Q I h;refine BoolOp_and (cK (ha pins s σ H _ I h) λv s1 aO=>?_);obtain⟨x,H1,I1,r1,q1⟩:=aO;obtain⟨c,rfl,q1⟩:=q1;cases r1;refine wpAny_truthy_bool ?_;cases c with
 |true=>exact hb pins s1 σ H1 Q I1 q1
 |false=>exact⟨.bl false,H1,I1,rfl,q1⟩
theorem OM(ha:PE X a ta)(hb:PE X (.BoolOp .Or (b::rest) pos) tb):PE X (.BoolOp .Or (a::b::rest) pos) (SV ta tb):=by
 intro pins s σ H Q I h;refine BoolOp_or (cK (ha pins s σ H _ I h) λv s1 aO=>?_);obtain⟨x,H1,I1,r1,q1⟩:=aO;obtain⟨c,rfl,q1⟩:=q1;cases r1;refine wpAny_truthy_bool ?_;cases c with
 |false=>exact hb pins s1 σ H1 Q I1 q1
 |true=>exact⟨.bl true,H1,I1,rfl,q1⟩
theorem KN(ha:PE X a ta):PE X (.UnaryOp .Not a pos) (OL ta):=by
 intro pins s σ H Q I h;refine UnaryOp_ (cK (ha pins s σ H _ I h) λv s1 aO=>?_);obtain⟨x,H1,I1,r1,q1⟩:=aO;obtain⟨c,rfl,q1⟩:=q1;cases r1;exact not_of (wpAny_truthy_bool ⟨.bl (!c),H1,I1,rfl,q1⟩)
end
def gm(K:Frag)(H:Hp)(a:Addr)(xs:List V):Prop :=
 Rd H a (.lst xs) \/
  ∃(o:Obj) (its:Array Value) (n:Nat),K.lookup a=some o/\o.cls=.type "list" /\ o.dict=none/\o.data=.seq its n/\its.size<=sizeLine/\Vals xs its.toList
def jO(K:Frag)(H:Hp)(a:Addr)(xs:List V):Prop :=
 Rd H a (.tup xs) \/
  ∃(o:Obj) (its:Array Value) (n:Nat),K.lookup a=some o/\o.cls=.type "tuple" /\ o.data=.seq its n/\its.size<=sizeLine/\Vals xs its.toList
def SW:Value->Option V
 |.none=>some .non
 |.bool b=>some (.bl b)
 |.int i _=>some (.int i)
 |.str x _=>some (.str x)
 |.bytes b _=>some (.byt b)
 |.float b _=>some (.flt b)
 |.ref a=>some (.ref a)
 |.type n=>some (.ty n)
 |_=>none
theorem RelV.abs(r:RelV x u):SW u=some x:=by
 cases x with
 |non=>cases r;rfl
 |bl _=>cases r;rfl
 |int _=>obtain⟨t,rfl⟩:=r;rfl
 |str _=>obtain⟨t,rfl⟩:=r;rfl
 |byt _=>obtain⟨t,rfl⟩:=r;rfl
 |flt _=>obtain⟨t,rfl⟩:=r;rfl
 |ref _=>cases r;rfl
 |ty _=>cases r;rfl
theorem RelV.inj(r:RelV x u)(q:RelV y u):x=y:=ZI (r.abs.symm.trans q.abs)
theorem Vals.inj:∀{xs ys:List V} {us:List Value},Vals xs us->Vals ys us->xs=ys
 |_,_,_,.nil,.nil=>rfl
 |_,_,_,.cons r t,.cons r' t'=>by rw[r.inj r',Vals.inj t t']
section
variable {X:Cx} {pins:List (Addr×Obj)} {σ:St} {H:Hp} {s:Shared} {a:Addr} {xs ys:List V}
theorem jO.of{K:Frag}(h:H a=some (.tup xs)):jO K H a xs:=.inl (.inl h)
theorem Inv.list(I:Inv X pins σ H s)(h:gm X.K H a xs):∃its:List Value,Vals xs its/\PlainL s.heap a its.toArray/\xs.length<=sizeLine:=by
 rcases h with h|⟨o,its,n,hk,hc,hd,hs,hz,r⟩
 ·obtain⟨z,its,n,r,e⟩:=h.ok I.hok;exact⟨its,r,⟨_,n,e,rfl,rfl,rfl⟩,z⟩
 ·refine⟨its.toList,r,⟨o,n,I.oX a o hk,hc,hd,by simpa using hs⟩,?_⟩;have e:=r.length;simp only[Array.length_toList]at e;omega
theorem Inv.tuple(I:Inv X pins σ H s)(h:jO X.K H a xs):∃its:List Value,Vals xs its/\IsTup s.heap a its.toArray/\xs.length<=sizeLine:=by
 rcases h with h|⟨o,its,n,hk,hc,hs,hz,r⟩
 ·obtain⟨z,its,r,p⟩:=h.ok I.hok;exact⟨its,r,p,z⟩
 ·refine⟨its.toList,r,⟨o,I.oX a o hk,hc,n,by simpa using hs⟩,?_⟩;have e:=r.length;simp only[Array.length_toList]at e;omega
theorem Inv.pI(I:Inv X pins σ H s)(h:gm X.K H a xs)(h':gm X.K H a ys):xs=ys:=by
 obtain⟨its,r,⟨o,n,e,_,_,d⟩,_⟩:=I.list h;obtain⟨its',r',⟨o',n',e',_,_,d'⟩,_⟩:=I.list h';rw[e]at e';cases e';rw[d]at d';injection d' with d1 _
 have:its=its':=by simpa using ZN toList d1
 subst this;exact r.inj r'
theorem Inv.AR(I:Inv X pins σ H s)(h:jO X.K H a xs)(h':jO X.K H a ys):xs=ys:=by
 obtain⟨its,r,⟨o,e,_,n,d⟩,_⟩:=I.tuple h;obtain⟨its',r',⟨o',e',_,n',d'⟩,_⟩:=I.tuple h';rw[e]at e';cases e';rw[d]at d';injection d' with d1 _
 have:its=its':=by simpa using ZN toList d1
 subst this;exact r.inj r'
end
abbrev Cx.qY(X:Cx)(E:Value->Shared->Prop):Cx:={ X with xe:=E }
abbrev Cx.ON(X:Cx):Cx:=X.qY λ_ _=>False
theorem Cx.Ok.qY{X:Cx}(ok:X.Ok)(E:Value->Shared->Prop):(X.qY E).Ok :=
 ⟨ok.mod,ok.kind,ok.glob,ok.blt,ok.above,ok.inj,ok.has,ok.OA,ok.hd,ok.frames,ok.stk,ok.SJ,ok.bs,ok.JQ,ok.lW,ok.Cv,ok.oG,ok.Kz⟩
theorem Cx.Ok.jQ{X:Cx}{E:Value->Shared->Prop}(ok:(X.qY E).Ok):X.Ok :=
 ⟨ok.mod,ok.kind,ok.glob,ok.blt,ok.above,ok.inj,ok.has,ok.OA,ok.hd,ok.frames,ok.stk,ok.SJ,ok.bs,ok.JQ,ok.lW,ok.Cv,ok.oG,ok.Kz⟩
section
variable {X:Cx} {pins:List (Addr×Obj)} {σ:St} {H:Hp} {s:Shared} {E:Value->Shared->Prop}
theorem Inv.qY(I:Inv X pins σ H s)(E:Value->Shared->Prop):Inv (X.qY E) pins σ H s:=⟨I.ok.qY E,I.os,I.bare,I.base,I.loc,I.cell,I.free,I.jA,I.pin,I.hok,I.len⟩
theorem Inv.jQ(I:Inv (X.qY E) pins σ H s):Inv X pins σ H s:=⟨I.ok.jQ,I.os,I.bare,I.base,I.loc,I.cell,I.free,I.jA,I.pin,I.hok,I.len⟩
theorem SP.jQ(h:SP (X.qY E) pins D f s'):SP X pins D f s':=by
 cases f with
 |next=>obtain⟨σ',H',I,q⟩:=h;exact⟨σ',H',I.jQ,q⟩
 |brk=>obtain⟨σ',H',I,q⟩:=h;exact⟨σ',H',I.jQ,q⟩
 |cont=>obtain⟨σ',H',I,q⟩:=h;exact⟨σ',H',I.jQ,q⟩
 |ret u=>obtain⟨v,σ',H',I,r,q⟩:=h;exact⟨v,σ',H',I.jQ,r,q⟩
theorem x9.ON{st:List Stmt}{t:TS}(h:x9 X.ON st t):x9 X st t:=λpins s σ H D I hw=>
 wpAny_mono (h pins s σ H D (I.qY _) hw) (λ_ _ q=>q.jQ) λ_ _ z=>False.elim z
end
section
variable {X:Cx} {st:Stmt} {rest:List Stmt} {t u:TS} {e:Expr} {te:TE} {pos:Pos}
def Cz:TS:=λD σ H=>D.nx σ H
def SX(t u:TS):TS:=λD σ H=>t { D with nx:=u D } σ H
theorem GN:x9 X [] Cz:=λ_ _ σ H _ I h=>wpAny_execs_nil ⟨σ,H,I,h⟩
theorem CA(h1:PS X st t)(h2:x9 X rest u):x9 X (st::rest) (SX t u):=by
 intro pins s σ H D I h;refine wpAny_execs_cons (cK (h1 pins s σ H { D with nx:=u D } I h) λf s1 q=>?_);cases f with
 |next=>obtain⟨σ',H',I',q⟩:=q;exact h2 pins s1 σ' H' D I' q
 |ret v=>exact q
 |brk=>exact q
 |cont=>exact q
def KO:TS:=λD σ H=>D.bk σ H
def OO:TS:=λD σ H=>D.ct σ H
theorem GO:PS X (.Pass pos) Cz:=λ_ _ σ H _ I h=>wpAny_Pass ⟨σ,H,I,h⟩
theorem CB:PS X (.Break pos) KO:=λ_ _ σ H _ I h=>wpAny_Break ⟨σ,H,I,h⟩
theorem vj:PS X (.Continue pos) OO:=λ_ _ σ H _ I h=>wpAny_Continue ⟨σ,H,I,h⟩
theorem Inv.quiet(I:Inv X pins σ H s):interactive X.env=false:=by simp[interactive,I.ok.kind]
theorem KP{x j pos pos'}:PS X (.Expr (.Constant (.str x) j pos) pos') Cz:=λ_ s σ H _ I h=>wpAny_Expr (Calls.Constant_str (show SP X _ _ .next { s with toks:=s.toks+1 } from⟨σ,H,I.tok _,h⟩)) I.quiet
def OP(te:TE):TS:=λD σ H=>te σ H λ_ H1=>D.nx σ H1
theorem GP(he:PE X e te)(hs:swapsWith e none pos.line X.env=pure false):PS X (.Expr e pos) (OP te):=by
 intro pins s σ H D I h;exact wpAny_Expr_any (cK (he pins s σ H _ I h) λv s1 ⟨x,H1,I1,r1,q1⟩=>⟨σ,H1,I1,q1⟩) I.quiet hs
def SY(te:TE):TS:=λD σ H=>te σ H D.rt
theorem KQ(he:PE X e te):PS X (.Return (some e) pos) (SY te):=by
 intro pins s σ H D I h;exact wpAny_Return_some (cK (he pins s σ H _ I h) λv s1 ⟨x,H1,I1,r1,q1⟩=>⟨x,σ,H1,I1,r1,q1⟩)
def OQ:TS:=λD _ H=>D.rt .non H
theorem GQ:PS X (.Return none pos) OQ:=λ_ _ σ H _ I h=>wpAny_Return_none ⟨.non,σ,H,I,rfl,h⟩
def S0(c:TT)(t u:TS):TS:=λD σ H=>c σ H λb H1=>if b=true then t D σ H1 else u D σ H1
theorem OS(hc:PT X c tc)(ha:x9 X a t)(hb:x9 X b u):PS X (.If c a b pos) (S0 tc t u):=by
 intro pins s σ H D I h;refine wpAny_If (cK (hc pins s σ H _ I h) λd s1 aO=>?_);obtain⟨H1,I1,q1⟩:=aO;cases d with
 |true=>exact ha pins s1 σ H1 D I1 q1
 |false=>exact hb pins s1 σ H1 D I1 q1
def KR:TS:=λ_ _ _=>False
theorem pJ:PS X st KR:=λ_ _ _ _ _ _ h=>h.elim
end
abbrev TG:=V->St->Hp->(St->Hp->Prop)->Prop
abbrev Og:=List V->St->Hp->(St->Hp->Prop)->Prop
def PG(X:Cx)(target:Expr)(t:TG):Prop :=
 ∀(pins:List (Addr×Obj)) (s:Shared) (σ:St) (H:Hp) (v:V) (u:Value) (Q:St->Hp->Prop),Inv X pins σ H s->RelV v u->t v σ H Q ->
  wpAny (model X.prog X.w) X.A (assign target X.env u) (λ_ s'=>∃σ' H',Inv X pins σ' H' s'/\Q σ' H') X.xe s
def Oh(X:Cx)(ts:List Expr)(t:Og):Prop :=
 ∀(pins:List (Addr×Obj)) (s:Shared) (σ:St) (H:Hp) (vs:List V) (us:List Value) (Q:St->Hp->Prop),Inv X pins σ H s->Vals vs us->t vs σ H Q ->
  wpAny (model X.prog X.w) X.A (assignInOrder ((assignEach ts X.env).map (·.2)) us) (λ_ s'=>∃σ' H',Inv X pins σ' H' s'/\Q σ' H') X.xe s
abbrev KS:=V->V->V->Hp->(Hp->Prop)->Prop
def OT(X:Cx)(t:KS):Prop :=
 ∀(pins:List (Addr×Obj)) (s:Shared) (σ:St) (H:Hp) (o i v:V) (ov iv u:Value) (Q:Hp->Prop),Inv X pins σ H s->RelV o ov->RelV i iv->RelV v u->t o i v H Q ->
  wpAny (model X.prog X.w) X.A (setItem ov iv u) (λ_ s'=>∃H',Inv X pins σ H' s'/\Q H') X.xe s
section
variable {X:Cx} {pos:Pos}
def rQ(i:Nat):TG:=λv σ H Q=>Q (σ.set i (some v)) H
theorem oY{i:Nat}(hN:X.N.Nodup)(hi:X.N[i]?=some x)(hx:Loc X.env.scope x)(hf:X.fn x=true\/X.env.scope.names.lookup x=some .local):PG X (.Name x pos) (rQ i):=by
 intro pins s σ H v u Q I r h;exact wpAny_assign_Name (vh I hN hi hx r (λs' I'=>⟨_,H,I',h⟩) hf)
def OU:Og:=λvs σ H Q=>vs=[]/\Q σ H
def JR(t:TG)(u:Og):Og:=λvs σ H Q=>∃v r,vs=v::r/\t v σ H λσ' H'=>u r σ' H' Q
theorem zm:Oh X [] OU:=by
 intro pins s σ H vs us Q I r h;obtain⟨e,h⟩:=h;subst e;cases r;exact assignInOrder_nil ⟨σ,H,I,h⟩
theorem vm(h1:PG X e t)(h2:Oh X es u)
  (hs:(assignEach (e::es) X.env).map (·.2)=assign e X.env::(assignEach es X.env).map (·.2):=by rfl):Oh X (e::es) (JR t u):=by
 intro pins s σ H vs us Q I r h;obtain⟨v,vr,e1,h⟩:=h;subst e1;cases r with
 |cons r rr=>rw[hs];refine assignInOrder_cons (cK (h1 pins s σ H _ _ _ I r h) λ_ s1 aO=>?_);obtain⟨σ1,H1,I1,q1⟩:=aO;exact h2 pins s1 σ1 H1 _ _ Q I1 rr q1
def OV(K:Frag)(n:Nat)(t:Og):TG:=λv σ H Q=>∃a xs,v=.ref a/\jO K H a xs/\xs.length=n/\t xs σ H Q
theorem CC{k:Nat}{n:Nat}(hc:X.calm=true)(h:Oh X es t)
  (hn:(assignEach es X.env).length=n) (hst:(assignEach es X.env).findIdx? (·.1)=none):PG X (.Tuple es k pos) (OV X.K n t):=by
 intro pins s σ H v u Q I r hw;obtain⟨a,xs,e1,hq,hl,hw⟩:=hw;subst e1;cases r;obtain⟨its,rv,ht,hz⟩:=I.tuple hq;refine assign_Tuple_tuple (I.ok.hd hc) ht (by simp[hn,<-hl,rv.length]) hst λh' hx=>?_;have I1:Inv X pins σ H { s with heap:=h' }:=I.kept (t':=s.toks) λb o e=>hx b o (Zt (Zj e)) e;exact h pins _ σ H xs _ Q I1 (by simpa using rv) hw
def OW(to ti:TE)(t:KS):TG:=λv σ H Q=>to σ H λo H1=>ti σ H1 λi H2=>t o i v H2 λH3=>Q σ H3
theorem KW(ho:PE X o to)(hi:PE X i ti)(hs:OT X t)
  (ha:∀v,assign (.Subscript o i pos) X.env v=(do
   let ov <-holding [v] (eval o X.env)
   let iv <-holding [v,ov] (eval i X.env)
   standAt pos
   holding [v,ov,iv] (setItem ov iv v)
   release [v,ov,iv] [])):PG X (.Subscript o i pos) (OW to ti t):=by
 intro pins s σ H v u Q I r h;rw[ha];refine Y8 (wpAny_holding (cK (ho pins s σ H _ I h) λov s1 aO=>?_));obtain⟨x,H1,I1,r1,q1⟩:=aO;refine Y8 (wpAny_holding (cK (hi pins s1 σ H1 _ I1 q1) λiv s2 aO=>?_));obtain⟨y,H2,I2,r2,q2⟩:=aO;refine Y8 (wpAny_standAt (Y8 (wpAny_holding (cK (hs pins s2 σ H2 x y v ov iv u _ I2 r1 r2 r q2) λ_ s3 aO=>?_))));obtain⟨H3,I3,q3⟩:=aO;exact wpAny_release ⟨σ,H3,I3,q3⟩
def GR(te:TE)(g:TG):TS:=λD σ H=>te σ H λx H1=>g x σ H1 D.nx
theorem CD(he:PE X e te)(hg:PG X tg g)(hs:swapsWithSole [tg] e pos.line X.env=pure false)(hw:swappedStores [tg] e X.env=pure none)
  (h1:(assignEach [tg] X.env).map (·.2)=[assign tg X.env]):PS X (.Assign [tg] e pos) (GR te g):=by
 intro pins s σ H D I h;refine wpAny_Assign_stores (cK (he pins s σ H _ I h) λv s1 ⟨x,H1,I1,r1,q1⟩=>?_) hs hw;rw[h1];exact cK (hg pins s1 σ H1 x v _ I1 r1 q1) λ_ s2 q=>q
theorem CF{i:Nat}(hN:X.N.Nodup)(hi:X.N[i]?=some x)(hx:Loc X.env.scope x)(he:PE X e te)(hs:swapsWith e (some (.Name x pos')) pos.line X.env=pure false)(hf:X.fn x=true\/X.env.scope.names.lookup x=some .local) :
  PS X (.Assign [.Name x pos'] e pos) (GR te (rQ i)):=by
 intro pins s σ H D I h;refine wpAny_Assign_Name (cK (he pins s σ H _ I h) λv s1 ⟨y,H1,I1,r1,q1⟩=>?_) hs;exact vh I1 hN hi hx r1 (λs2 I2=>⟨_,H1,I2,q1⟩) hf
end
structure It where
 go:Nat->Hp->Prop
 AS:Nat->Hp->V->Hp->Prop
 stop:Nat->Hp->Prop
def oH(X:Cx)(pins:List (Addr×Obj))(H:Hp)(b:Addr):Prop :=
 H b=none/\b≠X.env.locals/\b∉X.fs/\(b∈X.ex\/X.s₀.heap.objs.size<=b)/\(∀x c,X.env.cells.lookup x=some c->c≠b)/\∀p∈X.pn++pins,p.1≠b
theorem Inv.GS(I:Inv X pins σ H s)(hb:s.heap.objs.size<=b)(hn:H' b=none):oH X pins H' b:=by
 refine⟨hn,ne_of_gt (Zn I.lt hb),I.SM hb,.inr (ZE I.sz hb),λx c e z=>?_,λp hp z=>?_⟩
 ·obtain⟨v,q⟩:=I.cell x c e;exact absurd (Zn q.lt (by rw[z];exact hb)) (lt_irrefl _)
 ·exact absurd (Zn (Zj (I.pin p hp).1) (by rw[z];exact hb)) (lt_irrefl _)
structure Turn (P:Program) (w:World) (K:Frag) (tg:Expr) (J:It) (fp:List Addr) (it:Addr) (tn:Nat->Heap->Prop):Prop where
 mem:it∈fp
 obj:∀i h,tn i h->∀b∈fp,∃o,h.get? b=some o/\∀v,o.data≠.cell v
 keep:∀i h h',tn i h->(∀b∈fp,∀o,h.get? b=some o->h'.get? b=some o)->tn i h'
 item:∀(X:Cx),X.prog=P->X.w=w->X.K=K->X.calm=true->∀(i:Nat) (pins:List (Addr×Obj)) (s:Shared) (σ:St) (H:Hp) (E:Value->Shared->Prop),Inv X pins σ H s->(∀b∈fp,oH X pins H b)->tn i s.heap->J.go i H ->
  wpAny (model P w) X.A (pyNext (.ref it)) (λr s1=>∃u,r=some u /\
   wpAny (model P w) X.A (letOwnedTupleGo tg (.ref it) u) (λ_ s2=>∃x H',Inv X pins σ H' s2/\RelV x u/\J.AS i H x H'/\tn (i+1) s2.heap/\∀b∈fp,H' b=none) E s1) E s
 done:∀(X:Cx),X.prog=P->X.w=w->X.K=K->X.calm=true->∀(i:Nat) (pins:List (Addr×Obj)) (s:Shared) (σ:St) (H:Hp) (E:Value->Shared->Prop),Inv X pins σ H s->(∀b∈fp,oH X pins H b)->tn i s.heap->J.stop i H ->
  wpAny (model P w) X.A (pyNext (.ref it)) (λr s1=>r=none/\Inv X pins σ H s1) E s
 self:∀(A:Around) (i:Nat) (s:Shared) (Q:Value->Shared->Prop) (E:Value->Shared->Prop),tn i s.heap->Q (.ref it) s->wpAny (model P w) A (pyIter (.ref it)) Q E s
abbrev TI:=St->Hp->(It->Hp->Prop)->Prop
def UU(X:Cx)(pins:List (Addr×Obj))(σ:St)(tg:Expr)(R:It->Hp->Prop)(itv:Value)(s2:Shared):Prop :=
 ∃(it:Addr) (fp:List Addr) (tn:Nat->Heap->Prop) (J:It) (H':Hp),itv=.ref it/\Inv X pins σ H' s2/\Turn X.prog X.w X.K tg J fp it tn/\tn 0 s2.heap/\(∀b∈fp,oH X pins H' b)/\R J H'
def PI(X:Cx)(tg iter:Expr)(wi:TI):Prop :=
 ∀(pins:List (Addr×Obj)) (s:Shared) (σ:St) (H:Hp) (R:It->Hp->Prop),Inv X pins σ H s->wi σ H R ->
  wpAny (model X.prog X.w) X.A (eval iter X.env) (λv s1=>wpAny (model X.prog X.w) X.A (pyIter v) (UU X pins σ tg R) X.xe s1) X.xe s
theorem CG{n:String}(ho:s.heap.get? it=some o)(hc:o.cls=.type n)(hd:o.data=.fields vs)
  (hn:["enumerate","zip","dict_itemiterator","dict_reverseitemiterator","odict_iterator","itertools.zip_longest","itertools.pairwise"].contains n=false) (hQ:Q () s):wpAny M A (letOwnedTupleGo tg (.ref it) u) Q E s:=by
 unfold letOwnedTupleGo;cases tg<;>first
  |exact Zf hQ
  | (cases u<;>first
    |exact Zf hQ
    | (refine Y8 (wpAny_load ho ?_)
       rw[hc,hd];show wpAny M A (if (["enumerate","zip","dict_itemiterator","dict_reverseitemiterator","odict_iterator","itertools.zip_longest","itertools.pairwise"].contains n&&vs[0]?==some (rawInt _))=true then _ else _) Q E s;rw[Zi (by intro h;rw[hn,Bool.false_and]at h;cases h)];exact Zf hQ))
def Sa(K:Frag)(a:Addr):It :=
 ⟨λi H=>∃xs x,gm K H a xs/\xs[i]?=some x,λi H x H'=>H'=H/\∀xs,gm K H a xs->xs[i]?=some x,λi H=>∃xs,gm K H a xs/\xs.length<=i⟩
def S4(K:Frag)(a:Addr):It :=
 ⟨λi H=>∃xs x,jO K H a xs/\xs[i]?=some x,λi H x H'=>H'=H/\∀xs,jO K H a xs->xs[i]?=some x,λi H=>∃xs,jO K H a xs/\xs.length<=i⟩
def OX(lo:Int)(n:Nat):It:=⟨λi _=>i<n,λi H x H'=>H'=H/\x=.int (lo+i),λi _=>n<=i⟩
theorem AV{P:Program}{w:World}{K:Frag}{tg:Expr}(a it:Addr):Turn P w K tg (Sa K a) [it] it (λi h=>h.IsListIter it a i) where
 mem:=by simp
 obj:=λi h st b hb=>by
  have e:b=it:=by simpa using hb
  subst e;obtain⟨o,e,c,d⟩:=st;exact⟨o,e,λv z=>by rw[d]at z;cases z⟩
 keep:=λi h h' st k=>st.at λo e=>k it (by simp) o e
 item:=by intro X hP hw hK hc i pins s σ H E I hf st hg;subst hP hw hK;obtain⟨xs,x,hq,hx⟩:=hg;obtain⟨its,rv,p,hz⟩:=I.list hq;obtain⟨u,hu,ru⟩:=rv.get hx;obtain⟨f0,f1,f2,f3,f4,f5⟩:=hf it (by simp);refine wpAny_pyNext_list_item st p.isList (x:=u) (by simpa using hu) λh' st' sb=>?_;have I1:Inv X pins σ H { s with heap:=h' }:=I.turned (t':=s.toks) (λb o hb e=>(sb.2 b hb).trans e) f0 f1 f3 f4 f5;obtain⟨o,e,c,d⟩:=id st';exact⟨u,rfl,CG (s:={ s with heap:=h' }) e c d (by decide) ⟨x,H,I1,ru,⟨rfl,λys hy=>by rw[I.pI hy hq];exact hx⟩,st',λb hb=>(hf b hb).1⟩⟩
 done:=by intro X hP hw hK hc i pins s σ H E I hf st hg;subst hP hw hK;obtain⟨xs,hq,hx⟩:=hg;obtain⟨its,rv,p,hz⟩:=I.list hq;obtain⟨f0,f1,f2,f3,f4,f5⟩:=hf it (by simp);have hl:=rv.length;exact wpAny_pyNext_list_end (I.ok.hd hc) st p.isList (by simp;omega) λh' eb=>⟨rfl,I.turned (t':=s.toks) (λb o hb e=>eb b o hb e) f0 f1 f3 f4 f5⟩
 self:=λ_ _ _ _ _ st h=>wpAny_pyIter_listiter st h
theorem ya{P:Program}{w:World}{K:Frag}{tg:Expr}(a it:Addr):Turn P w K tg (S4 K a) [it] it (λi h=>h.IsTupleIter it a i) where
 mem:=by simp
 obj:=λi h st b hb=>by
  have e:b=it:=by simpa using hb
  subst e;obtain⟨o,e,c,d⟩:=st;exact⟨o,e,λv z=>by rw[d]at z;cases z⟩
 keep:=λi h h' st k=>st.at λo e=>k it (by simp) o e
 item:=by intro X hP hw hK hc i pins s σ H E I hf st hg;subst hP hw hK;obtain⟨xs,x,hq,hx⟩:=hg;obtain⟨its,rv,p,hz⟩:=I.tuple hq;obtain⟨u,hu,ru⟩:=rv.get hx;obtain⟨f0,f1,f2,f3,f4,f5⟩:=hf it (by simp);refine wpAny_pyNext_tuple_item st (show s.heap.IsTuple a its.toArray from p) (x:=u) (by simpa using hu) λh' st' sb=>?_;have I1:Inv X pins σ H { s with heap:=h' }:=I.turned (t':=s.toks) (λb o hb e=>(sb.2 b hb).trans e) f0 f1 f3 f4 f5;obtain⟨o,e,c,d⟩:=id st';exact⟨u,rfl,CG (s:={ s with heap:=h' }) e c d (by decide) ⟨x,H,I1,ru,⟨rfl,λys hy=>by rw[I.AR hy hq];exact hx⟩,st',λb hb=>(hf b hb).1⟩⟩
 done:=by intro X hP hw hK hc i pins s σ H E I hf st hg;subst hP hw hK;obtain⟨xs,hq,hx⟩:=hg;obtain⟨its,rv,p,hz⟩:=I.tuple hq;obtain⟨f0,f1,f2,f3,f4,f5⟩:=hf it (by simp);have hl:=rv.length;exact wpAny_pyNext_tuple_end (I.ok.hd hc) st (show s.heap.IsTuple a its.toArray from p) (by simp;omega) λh' eb=>⟨rfl,I.turned (t':=s.toks) (λb o hb e=>eb b o hb e) f0 f1 f3 f4 f5⟩
 self:=λ_ _ _ _ _ st h=>wpAny_pyIter_tupleiter st h
theorem yb{P:Program}{w:World}{K:Frag}{tg:Expr}(it:Addr)(lo:Int)(n:Nat):Turn P w K tg (OX lo n) [it] it (λi h=>IsRangeIter h it (lo+(i:Nat)*1) ((n:Int)-(i:Nat)) 1) where
 mem:=by simp
 obj:=λi h st b hb=>by
  have e:b=it:=by simpa using hb
  subst e;exact⟨_,st,λv z=>by
   have z':Data.fields _=Data.cell v:=z;cases z'⟩
 keep:=λi h h' st k=>k it (by simp) _ st
 item:=by intro X hP hw hK hc i pins s σ H E I hf st hg;subst hP hw hK;obtain⟨f0,f1,f2,f3,f4,f5⟩:=hf it (by simp);have W:=Walks.range (prog:=X.prog) (w:=X.w) (I.ok.hd hc) it lo 1 n;refine W.item i s _ _ hg st λv h' tk hv st' kk=>?_;obtain⟨t,rfl⟩:=hv;have I1:Inv X pins σ H { s with heap:=h',toks:=tk }:=I.turned (λb o hb e=>kk b o (by simpa using hb) e) f0 f1 f3 f4 f5;refine⟨_,rfl,CG (s:={ s with heap:=h',toks:=tk }) (n:="range_iterator") st' rfl rfl (by decide) ⟨.int (lo+i),H,I1,⟨t,?_⟩,⟨rfl,rfl⟩,st',λb hb=>(hf b hb).1⟩⟩;rw[Int.mul_one]
 done:=by intro X hP hw hK hc i pins s σ H E I hf st hg;subst hP hw hK;obtain⟨f0,f1,f2,f3,f4,f5⟩:=hf it (by simp);exact wpAny_pyNext_range_end (I.ok.hd hc) st (by have:n<=i:=hg;omega) λh' eb=>⟨rfl,I.turned (t':=s.toks) (λb o hb e=>eb b o hb e) f0 f1 f3 f4 f5⟩
 self:=λ_ _ _ _ _ st h=>wpAny_pyIter_rangeiter st h
section
variable {X:Cx} {tg:Expr}
def OY(K:Frag)(tl:TE):TI:=λσ H R=>tl σ H λx H1=>∃a,x=.ref a/\(∃xs,gm K H1 a xs)/\R (Sa K a) H1
def S5(K:Frag)(tl:TE):TI:=λσ H R=>tl σ H λx H1=>∃a,x=.ref a/\(∃xs,jO K H1 a xs)/\R (S4 K a) H1
theorem GU(hl:PE X l tl):PI X tg l (OY X.K tl):=by
 intro pins s σ H R I h;refine cK (hl pins s σ H _ I h) λv s1 aO=>?_;obtain⟨x,H1,I1,r1,q1⟩:=aO;obtain⟨a,e,⟨xs,hq⟩,q⟩:=q1;subst e;cases r1;obtain⟨its,rv,p,hz⟩:=I1.list hq;refine wpAny_pyIter_list p.isList ?_;refine⟨s1.heap.objs.size,[s1.heap.objs.size],_,_,H1,rfl,I1.kept (t':=s1.toks) λb o e=>Zc _ e,AV a _,⟨_,Zr _ rfl,rfl,rfl⟩,λb hb=>?_,q⟩;have e:b=s1.heap.objs.size:=by simpa using hb
 subst e;exact I1.GS (Zm _) (I1.hok.fresh (Zm _))
theorem KY(hl:PE X l tl):PI X tg l (S5 X.K tl):=by
 intro pins s σ H R I h;refine cK (hl pins s σ H _ I h) λv s1 aO=>?_;obtain⟨x,H1,I1,r1,q1⟩:=aO;obtain⟨a,e,⟨xs,hq⟩,q⟩:=q1;subst e;cases r1;obtain⟨its,rv,p,hz⟩:=I1.tuple hq;refine wpAny_pyIter_tuple (show s1.heap.IsTuple a its.toArray from p) ?_;refine⟨s1.heap.objs.size,[s1.heap.objs.size],_,_,H1,rfl,I1.kept (t':=s1.toks) λb o e=>Zc _ e,ya a _,⟨_,Zr _ rfl,rfl,rfl⟩,λb hb=>?_,q⟩;have e:b=s1.heap.objs.size:=by simpa using hb
 subst e;exact I1.GS (Zm _) (I1.hok.fresh (Zm _))
theorem vn{lo hi:Int}{tk:Nat}(I:Inv X pins σ H s)(h1:-(2 ^ 62)<=lo)(h2:lo<2 ^ 62)(h3:-(2 ^ 62)<=hi)(h4:hi<2 ^ 62)
  (q:R (OX lo (hi-lo).toNat) H):wpAny (model X.prog X.w) X.A (pyIter (.ref s.heap.objs.size)) (UU X pins σ tg R) E { s with heap:=s.heap.push { cls:=.type "range",data:=.fields [.int lo t,.int hi u,.int 1 v].toArray },toks:=tk }:=by
 refine wpAny_pyIter_range (IsRange.new ..) (small_one h1 h2 h3 h4) ?_;have I1:Inv X pins σ H { s with heap:=s.heap.push { cls:=.type "range",data:=.fields [.int lo t,.int hi u,.int 1 v].toArray },toks:=tk }:=I.kept λb o e=>Zc _ e;refine⟨(s.heap.push { cls:=.type "range",data:=.fields [.int lo t,.int hi u,.int 1 v].toArray }).objs.size,[(s.heap.push { cls:=.type "range",data:=.fields [.int lo t,.int hi u,.int 1 v].toArray }).objs.size],_,_,H,rfl,
  I1.kept (t':=tk) λb o e=>Zc _ e,yb _ lo (hi-lo).toNat,?_,λb hb=>?_,q⟩
 ·have e1:lo+((0:Nat):Int)*1=lo:=by simp
  have e2:(((hi-lo).toNat:Nat):Int)-((0:Nat):Int)=Builtin.Range.rangeSize lo hi 1:=by rw[rangeSize_one];split<;>omega
  show IsRangeIter _ _ (lo+((0:Nat):Int)*1) ((((hi-lo).toNat:Nat):Int)-((0:Nat):Int)) 1;rw[e1,e2];exact Zr _ rfl
 ·have e:b=(s.heap.push { cls:=.type "range",data:=.fields [.int lo t,.int hi u,.int 1 v].toArray }).objs.size:=by simpa using hb
  subst e;exact I1.GS (Zm _) (I1.hok.fresh (Zm _))
def OZ(ta:TA):TI:=λσ H R=>ta σ H λvs H1=>∃j:Int,vs=[.int j] /\ -(2 ^ 62)<=j/\j<2 ^ 62/\R (OX 0 j.toNat) H1
def O0(ta:TA):TI:=λσ H R=>ta σ H λvs H1=>∃i j:Int,vs=[.int i,.int j]/\(-(2 ^ 62)<=i/\i<2 ^ 62 /\ -(2 ^ 62)<=j/\j<2 ^ 62)/\R (OX i (j-i).toNat) H1
theorem AW(hg:Gl X "range")(hm:X.mg "range" = none)(ha:PA X [a] ta)(hs:starEach [a] X.env=[(false,eval a X.env)]):PI X tg (.Call (.Name "range" p) [a] [] pos) (OZ ta):=by
 intro pins s σ H R I h;refine Call_ (jf I hg hm boot_range (PyProof.Rows.callWith_type1 (cK (ha pos pins s σ H _ I h) λus s1 aO=>?_) hs rfl));obtain⟨vs,H1,I1,r1,q1⟩:=aO;obtain⟨j,e,q1,q2,q⟩:=q1;subst e;cases r1 with
 |cons r rr=>cases rr;obtain⟨t,rfl⟩:=r;exact call_range_1 (vn I1 (by omega) (by omega) q1 q2 (by simpa using q))
theorem AX(hg:Gl X "range")(hm:X.mg "range" = none)(ha:PA X [a,b] ta)(hs:starEach [a,b] X.env=[(false,eval a X.env),(false,eval b X.env)])(hs2:starEach [b] X.env=[(false,eval b X.env)]) :
  PI X tg (.Call (.Name "range" p) [a,b] [] pos) (O0 ta):=by
 intro pins s σ H R I h;refine Call_ (jf I hg hm boot_range (PyProof.Rows.callWith_type1 (cK (ha pos pins s σ H _ I h) λus s1 ⟨vs,H1,I1,r1,q1⟩=>?_) (by rw[hs,hs2]) (by rw[hs2];rfl)));obtain⟨i,j,e,⟨q1,q2,q3,q4⟩,q⟩:=q1;subst e;cases r1 with
 |cons r rr=>
  cases rr with
  |cons r' rr=>cases rr;obtain⟨t,rfl⟩:=r;obtain⟨t',rfl⟩:=r';exact call_range_2 (vn I1 q1 q2 q3 q4 q)
def S6(wi:TI)(g:TG)(tb:TS):TS:=λD σ H=>wi σ H λJ H1=>∃W:Nat->Nat->St->Hp->Prop,(∃m,W 0 m σ H1)/\∀i m σ H,W i m σ H ->
 (J.stop i H/\D.nx σ H)\/(J.go i H/\∃N:St->Hp->Prop,(∀σ' H',N σ' H'->∃m',m'<m/\W (i+1) m' σ' H')/\∀x H',J.AS i H x H'->g x σ H' λσ2 H2=>tb { D with nx:=N,ct:=N,bk:=D.nx } σ2 H2)
def pK(fp:List Addr)(h:Heap):List (Addr×Obj):=fp.filterMap λb=>(h.get? b).map λo=>(b,o)
theorem jg(hb:b∈fp)(e:h.get? b=some o):(b,o)∈pK fp h:=List.mem_filterMap.mpr ⟨b,hb,by rw[e];rfl⟩
theorem AY(hp:p∈pK fp h):p.1∈fp/\h.get? p.1=some p.2:=by
 obtain⟨b,hb,e⟩:=List.mem_filterMap.mp hp;cases q:h.get? b with
 |none=>rw[q]at e;cases e
 |some o=>rw[q]at e;have e':(b,o)=p:=ZI e;subst e';exact⟨hb,q⟩
theorem Inv.pinned(I:Inv X pins σ H s)(hf:∀b∈fp,oH X pins H b)(ho:∀b∈fp,∃o,s.heap.get? b=some o/\∀v,o.data≠.cell v):Inv X (pins++pK fp s.heap) σ H s :=
 I.zk λp hp=>(ZP.mp hp).elim (λz=>I.pin p (ZF _ z)) λz=>by
  obtain⟨hb,e⟩:=AY z;obtain⟨f0,f1,f2,_⟩:=hf p.1 hb;obtain⟨o,e',d⟩:=ho p.1 hb;rw[e]at e';cases e';exact⟨e,f0,f1,f2,d⟩
theorem Inv.lY(I:Inv X (pins++pl) σ H s):Inv X pins σ H s:=I.zk λp hp=>I.pin p (ZF _ (mem_append_left _ hp))
theorem KZ(hp:PassesOwn (model X.prog X.w) X.A X.env X.xe)(hc:X.calm=true)(hi:PI X tg iter wi)(hg:PG X tg g)(hb:x9 X body tb)
  (hs:∀x,foldedSetIterable iter X.env x=pure x):PS X (.For tg iter body [] pos) (S6 wi g tb):=by
 intro pins s σ H D I h;refine wpAny_For (cK (hi pins s σ H _ I h) λv s1 h1=>cK h1 λitv s2 h2=>?_) hs;obtain⟨it,fp,tn,J,H2,e,I2,T,st2,f2,W,⟨m0,w0⟩,turn⟩:=h2;subst e;have stat:∀{H':Hp},(∀b∈fp,H' b=none)->∀b∈fp,oH X pins H' b:=λhn b hb=>⟨hn b hb,(f2 b hb).2⟩;refine codeAny_forLoop_any (λn s'=>∃i σ' H',Inv X pins σ' H' s'/\tn i s'.heap/\(∀b∈fp,H' b=none)/\W i n σ' H') ?_ m0 ⟨0,σ,H2,I2,st2,λb hb=>(f2 b hb).1,w0⟩;rintro n s3 ⟨i,σ3,H3,I3,st3,UW,w3⟩
 rcases turn i n σ3 H3 w3 with ⟨stop,qn⟩|⟨go,N,hN,step⟩
 ·refine wpAny_passesOwn hp (cK (T.done X rfl rfl rfl hc i pins s3 σ3 H3 X.xe I3 (stat UW) st3 stop) λr s4 aO=>?_);obtain⟨hr,I4⟩:=aO;subst hr;exact wpAny_execs_nil ⟨σ3,H3,I4,qn⟩
 ·refine wpAny_passesOwn hp (cK (T.item X rfl rfl rfl hc i pins s3 σ3 H3 X.xe I3 (stat UW) st3 go) λr s4 aO=>?_)
  obtain⟨u,hr,h4⟩:=aO;subst hr;refine wpAny_passesOwn hp (cK h4 λ_ s5 aO=>?_);obtain⟨x,H5,I5,r5,y5,Oi,Sb⟩:=aO;have Wr:=I5.pinned (stat Sb) (T.obj _ _ Oi);refine wpAny_passesOwn hp (cK (hg _ s5 σ3 H5 x u _ Wr r5 (step x H5 y5)) λ_ s6 aO=>?_);obtain⟨σ6,H6,I6,q6⟩:=aO;refine wpAny_passesOwn hp (cK (hb _ s6 σ6 H6 _ I6 q6) λf s7 q7=>?_);have again:∀{σ7:St} {H7:Hp},Inv X (pins++pK fp s5.heap) σ7 H7 s7->N σ7 H7->∃m,m<n/\∃i σ' H',Inv X pins σ' H' s7/\tn i s7.heap/\(∀b∈fp,H' b=none)/\W i m σ' H':=λ{σ7 H7} I7 n7=>by
   obtain⟨m',hm,w7⟩:=hN σ7 H7 n7;refine⟨m',hm,i+1,σ7,H7,I7.lY,T.keep _ _ _ Oi λb hb o e=>(I7.pin (b,o) (ZF _ (ZF _ (jg hb e)))).1,λb hb=>?_,w7⟩;obtain⟨o,e,d⟩:=T.obj _ _ Oi b hb;exact(I7.pin (b,o) (ZF _ (ZF _ (jg hb e)))).2.1
  cases f with
  |next=>obtain⟨σ7,H7,I7,n7⟩:=q7;exact again I7 n7
  |cont=>obtain⟨σ7,H7,I7,n7⟩:=q7;exact again I7 n7
  |brk=>obtain⟨σ7,H7,I7,q7⟩:=q7;exact⟨σ7,H7,I7.lY,q7⟩
  |ret v=>obtain⟨x7,σ7,H7,I7,r7,q7⟩:=q7;exact⟨x7,σ7,H7,I7.lY,r7,q7⟩
end
abbrev R2:=V->V->Hp->VK->Prop
def oZ(X:Cx)(f:Value->Value->Sem Value)(r:R2):Prop :=
 ∀(pins:List (Addr×Obj)) (s:Shared) (σ:St) (H:Hp) (x y:V) (v u:Value) (Q:VK),Inv X pins σ H s->RelV x v->RelV y u->r x y H Q ->
  wpAny (model X.prog X.w) X.A (f v u) (EP X pins σ Q) X.xe s
def Sd(X:Cx)(f:Value->Sem Value)(r:V->Hp->VK->Prop):Prop :=
 ∀(pins:List (Addr×Obj)) (s:Shared) (σ:St) (H:Hp) (x:V) (v:Value) (Q:VK),Inv X pins σ H s->RelV x v->r x H Q ->
  wpAny (model X.prog X.w) X.A (f v) (EP X pins σ Q) X.xe s
def cL(X:Cx)(f:Value)(r:List V->Hp->VK->Prop):Prop :=
 ∀(pins:List (Addr×Obj)) (s:Shared) (σ:St) (H:Hp) (xs:List V) (us:List Value) (Q:VK),Inv X pins σ H s->Vals xs us->r xs H Q ->
  wpAny (model X.prog X.w) X.A (call f us) (EP X pins σ Q) X.xe s
def S7(X:Cx)(r:V->Hp->(Bool->Hp->Prop)->Prop):Prop :=
 ∀(pins:List (Addr×Obj)) (s:Shared) (σ:St) (H:Hp) (x:V) (v:Value) (Q:Bool->Hp->Prop),Inv X pins σ H s->RelV x v->r x H Q ->
  wpAny (model X.prog X.w) X.A (truthy v) (TP X pins σ Q) X.xe s
def Se(r:R2)(ta tb:TE):TE:=λσ H Q=>ta σ H λx H1=>tb σ H1 λy H2=>r x y H2 Q
def Ws(r:V->Hp->VK->Prop)(ta:TE):TE:=λσ H Q=>ta σ H λx H1=>r x H1 Q
def rI(C:Int->Int->Prop)(g:Int->Int->V):R2:=λx y H Q=>∃i j,x=.int i/\y=.int j/\C i j/\Q (g i j) H
def JS(g:Int->Int->V):R2:=λx y H Q=>∃i j,x=.int i/\y=.int j/\Q (g i j) H
def rU(g:Int->V):V->Hp->VK->Prop:=λx H Q=>∃i,x=.int i/\Q (g i) H
section
variable {X:Cx} {a b c:Expr} {ta tb tc:TE} {pos:Pos}
theorem K0(ha:PE X a ta)(hb:PE X b tb){pins:List (Addr×Obj)}{s:Shared}{σ:St}{H:Hp}{R:V->V->Hp->Prop}(I:Inv X pins σ H s)
  (h:ta σ H λx H1=>tb σ H1 λy H2=>R x y H2) {Q:Value->Shared->Prop} {f:Value->Value->Sem Value}
  (hf:∀v u s2 x y H2,Inv X pins σ H2 s2->RelV x v->RelV y u->R x y H2->wpAny (model X.prog X.w) X.A (f v u) Q X.xe s2) :
  wpAny (model X.prog X.w) X.A (eval a X.env) (λv s₁=>wpAny (model X.prog X.w) X.A (eval b X.env) (λu s₂=>wpAny (model X.prog X.w) X.A (f v u) Q X.xe s₂) X.xe s₁) X.xe s:=by
 refine cK (ha pins s σ H _ I h) λv s1 aO=>?_;obtain⟨x,H1,I1,r1,q1⟩:=aO;refine cK (hb pins s1 σ H1 _ I1 q1) λu s2 aO=>?_;obtain⟨y,H2,I2,r2,q2⟩:=aO;exact hf v u s2 x y H2 I2 r1 r2 q2
theorem O3(ho:oZ X (binaryOp op) r)(ha:PE X a ta)(hb:PE X b tb):PE X (.BinOp a op b pos) (Se r ta tb):=by
 intro pins s σ H Q I h;exact wpAny_BinOp (K0 ha hb I h λv u s2 x y H2 I2 rx ry q=>ho pins s2 σ H2 x y v u Q I2 rx ry q)
theorem O4(ho:Sd X (unaryOp op) r)(ha:PE X a ta):PE X (.UnaryOp op a pos) (Ws r ta):=by
 intro pins s σ H Q I h;exact UnaryOp_ (cK (ha pins s σ H _ I h) λv s1 ⟨x,H1,I1,r1,q1⟩=>ho pins s1 σ H1 x v Q I1 r1 q1)
theorem Sf{f:Value->Value->Sem Value}{C:Int->Int->Prop}{g:Int->Int->Int}
  (rule:∀(i j:Int) (t u:Tok) (s:Shared) (Q:Value->Shared->Prop) (E:Value->Shared->Prop),C i j->Q (.int (g i j) s.toks) { s with toks:=s.toks+1 }->wpAny (model X.prog X.w) X.A (f (.int i t) (.int j u)) Q E s) :
  oZ X f (rI C λi j=>.int (g i j)):=by
 intro pins s σ H x y v u Q I rx ry h;obtain⟨i,j,rfl,rfl,hc,q⟩:=h;obtain⟨t,rfl⟩:=rx;obtain⟨t',rfl⟩:=ry;exact rule i j t t' s _ _ hc ⟨.int (g i j),H,I.tok _,⟨_,rfl⟩,q⟩
theorem O5{f:Value->Value->Sem Value}{g:Int->Int->Int}
  (rule:∀(i j:Int) (t u:Tok) (s:Shared) (Q:Value->Shared->Prop) (E:Value->Shared->Prop),Q (.int (g i j) s.toks) { s with toks:=s.toks+1 }->wpAny (model X.prog X.w) X.A (f (.int i t) (.int j u)) Q E s) :
  oZ X f (JS λi j=>.int (g i j)):=by
 intro pins s σ H x y v u Q I rx ry h;obtain⟨i,j,rfl,rfl,q⟩:=h;obtain⟨t,rfl⟩:=rx;obtain⟨t',rfl⟩:=ry;exact rule i j t t' s _ _ ⟨.int (g i j),H,I.tok _,⟨_,rfl⟩,q⟩
theorem GV{f:Value->Value->Sem Value}{g:Int->Int->Bool}
  (rule:∀(i j:Int) (t u:Tok) (s:Shared) (Q:Value->Shared->Prop) (E:Value->Shared->Prop),Q (.bool (g i j)) s->wpAny (model X.prog X.w) X.A (f (.int i t) (.int j u)) Q E s) :
  oZ X f (JS λi j=>.bl (g i j)):=by
 intro pins s σ H x y v u Q I rx ry h;obtain⟨i,j,rfl,rfl,q⟩:=h;obtain⟨t,rfl⟩:=rx;obtain⟨t',rfl⟩:=ry;exact rule i j t t' s _ _ ⟨.bl (g i j),H,I,rfl,q⟩
def S8(i j:Int):Prop:=0<=j/\j<=1000000/\i.natAbs<2 ^ 64
def K1(i j:Int):Prop:=(-(2 ^ 64)<i/\i<2 ^ 64)\/(-(2 ^ 64)<j/\j<2 ^ 64)
theorem K1.ok{i j:Int}(h:K1 i j):IntMulOk i j:=by
 rcases h with ⟨h1,h2⟩|⟨h1,h2⟩
 ·exact .of_left (intBits_le_64 h1 h2)
 ·exact .of_right (intBits_le_64 h1 h2)
theorem K2:oZ X (binaryOp .Add) (JS λi j=>.int (i+j)):=O5 λ_ _ _ _ _ _ _ q=>add_int q
theorem K3:oZ X (binaryOp .Sub) (JS λi j=>.int (i-j)):=O5 λ_ _ _ _ _ _ _ q=>sub_int q
theorem K4:oZ X (binaryOp .Mult) (rI K1 λi j=>.int (i*j)):=Sf λ_ _ _ _ _ _ _ hc q=>mul_int q hc.ok
theorem K5:oZ X (binaryOp .Mod) (rI (λ_ j=>0<j) λi j=>.int (i%j)):=Sf λi j _ _ _ _ _ hc q=>by
 have h1:(0:Int)<j:=hc;exact mod_int' (by omega) (by rw[Int.fmod_eq_emod_of_nonneg i (by omega)];exact q)
theorem K6:oZ X (binaryOp .Pow) (rI S8 λi j=>.int (i ^ j.toNat)):=Sf λ_ _ _ _ _ _ _ hc q=>pow_int_small hc.1 hc.2.1 hc.2.2 q
theorem Wt{f:Value->Sem Value}{g:Int->Int}
  (rule:∀(i:Int) (t:Tok) (s:Shared) (Q:Value->Shared->Prop) (E:Value->Shared->Prop),Q (.int (g i) s.toks) { s with toks:=s.toks+1 }->wpAny (model X.prog X.w) X.A (f (.int i t)) Q E s) :
  Sd X f (rU λi=>.int (g i)):=by
 intro pins s σ H x v Q I rx h;obtain⟨i,rfl,q⟩:=h;obtain⟨t,rfl⟩:=rx;exact rule i t s _ _ ⟨.int (g i),H,I.tok _,⟨_,rfl⟩,q⟩
theorem CH:Sd X (unaryOp .USub) (rU λi=>.int (-i)):=Wt λ_ _ _ _ _ q=>neg_int q
end
section
variable {X:Cx} {a b c:Expr} {ta tb tc:TE} {pos:Pos}
theorem CI{k k':Bool}(I:Inv X pins σ H s)(q:Q (.bl k) H)(e:k=k'):EP X pins σ Q (.bool k') s:=by
 subst e;exact⟨.bl k,H,I,rfl,q⟩
theorem O6:oZ X (compareOp .Lt) (JS λi j=>.bl (decide (i<j))):=GV λ_ _ _ _ _ _ _ q=>lt_int q
theorem O7:oZ X (compareOp .LtE) (JS λi j=>.bl (decide (i<=j))):=GV λ_ _ _ _ _ _ _ q=>le_int q
theorem O8:oZ X (compareOp .Gt) (JS λi j=>.bl (decide (j<i))):=GV λ_ _ _ _ _ _ _ q=>gt_int q
theorem O9:oZ X (compareOp .GtE) (JS λi j=>.bl (decide (j<=i))):=GV λ_ _ _ _ _ _ _ q=>ge_int q
theorem K7:oZ X (compareOp .Is) (λx y H Q=>y=.non/\Q (.bl (decide (x=.non))) H):=by
 intro pins s σ H x y v u Q I rx ry h;obtain⟨rfl,q⟩:=h;cases ry;refine is_none_gen (CI I q ?_);cases x<;>first
  |(cases rx;rfl)
  |(obtain⟨t,rfl⟩:=rx;rfl)
theorem GW:oZ X (compareOp .IsNot) (λx y H Q=>y=.non/\Q (.bl (!decide (x=.non))) H):=by
 intro pins s σ H x y v u Q I rx ry h;obtain⟨rfl,q⟩:=h;cases ry;refine isnot_none_gen (CI I q ?_);cases x<;>first
  |(cases rx;rfl)
  |(obtain⟨t,rfl⟩:=rx;rfl)
theorem GX(ho:oZ X (compareOp op) r)(ha:PE X a ta)(hb:PE X b tb)(hm:behindInMarks op b=false):PE X (.Compare a [op] [b] pos) (Se r ta tb):=by
 intro pins s σ H Q I h;exact wpAny_Compare1 (K0 ha hb I h λv u s2 x y H2 I2 rx ry q=>ho pins s2 σ H2 x y v u Q I2 rx ry q) hm
def Pa(t:TE):TT:=λσ H Q=>t σ H λx H'=>∃k,x=.bl k/\Q k H'
theorem GY(ho:oZ X (compareOp op) r)(ha:PE X a ta)(hb:PE X b tb)(hm:behindInMarks op b=false):PT X (.Compare a [op] [b] pos) (Pa (Se r ta tb)):=by
 intro pins s σ H Q I h;refine wpAny_isTrue_Compare1 (cK (ha pins s σ H _ I h) λv s1 ⟨x,H1,I1,r1,q1⟩=>cK (hb pins s1 σ H1 _ I1 q1) λu s2 ⟨y,H2,I2,r2,q2⟩=>
  cK (ho pins s2 σ H2 x y v u _ I2 r1 r2 q2) λc s3 ⟨z,H3,I3,r3,k,e,q3⟩=>?_) hm
 subst e;cases r3;exact wpAny_truthy_bool ⟨H3,I3,q3⟩
def K8(K:Frag)(x:V)(H:Hp)(k:Bool):Prop :=
 match x with
 |.non=>k=false
 |.bl b=>k=b
 |.int i=>k=(i != 0)
 |.str y=>y.length<=sizeLine/\k=((y.length:Int) != 0)
 |.byt y=>y.size<=sizeLine/\k=((y.size:Int) != 0)
 |.ref p=>(∃xs,gm K H p xs/\k = !xs.isEmpty)\/(∃xs,jO K H p xs/\k = !xs.isEmpty)\/∃kvs,H p=some (.dK kvs)/\k = !kvs.isEmpty
 |_=>False
theorem yc{κ:Type}{kvs:List (κ × V)}{vs:List (κ × Value)}(r:KV kvs vs):(!vs.isEmpty) = !kvs.isEmpty:=by
 cases r<;>rfl
theorem pL(r:Vals xs its):(!its.toArray.isEmpty) = !xs.isEmpty:=by
 cases r<;>simp
theorem tY:(sizeLine:Nat)<2 ^ 63:=by rw[sizeLine_eq];decide
theorem K9:S7 X (λx H Q=>∃k,K8 X.K x H k/\Q k H):=by
 intro pins s σ H x v Q I rx h;obtain⟨k,e,q⟩:=h;have hl:=tY;have hs:sizeLine=16777216:=sizeLine_eq;cases x with
 |non=>cases rx;have e':k=false:=e;subst e';exact truthy_none ⟨H,I,q⟩
 |bl b=>cases rx;have e':k=b:=e;subst e';exact wpAny_truthy_bool ⟨H,I,q⟩
 |int i=>obtain⟨t,rfl⟩:=rx;have e':k=(i != 0):=e;subst e';exact PySem.P.truthy_int ⟨H,I,q⟩
 |str y=>obtain⟨t,rfl⟩:=rx;obtain⟨hy,e'⟩:y.length<=sizeLine/\k=((y.length:Int) != 0):=e;subst e';exact PySem.P.truthy_str (by omega) ⟨H,I.tok _,q⟩
 |byt y=>obtain⟨t,rfl⟩:=rx;obtain⟨hy,e'⟩:y.size<=sizeLine/\k=((y.size:Int) != 0):=e;subst e';exact PySem.W.truthy_bytes (by omega) ⟨H,I.tok _,q⟩
 |ref p=>
  cases rx;have e':(∃xs,gm X.K H p xs/\k = !xs.isEmpty)\/(∃xs,jO X.K H p xs/\k = !xs.isEmpty)\/∃kvs,H p=some (.dK kvs)/\k = !kvs.isEmpty:=e
  rcases e' with ⟨xs,hx,e'⟩|⟨xs,hx,e'⟩|⟨kvs,hx,e'⟩
  ·subst e';obtain⟨its,r,pl,hz⟩:=I.list hx;have hlen:=r.length;exact wpAny_truthy_list pl.isList (by simp only[size_toArray];omega) ⟨H,I.tok _,by rw[pL r];exact q⟩
  ·subst e';obtain⟨its,r,pl,hz⟩:=I.tuple hx;have hlen:=r.length;exact truthy_tuple pl (by simp only[size_toArray];omega) ⟨H,I.tok _,by rw[pL r];exact q⟩
  ·subst e';obtain⟨hz,hS,vs,r,m⟩:kvs.length<=sizeLine/\(p==sysModules)=false/\∃vs,KV kvs vs/\s.heap.DictOf (bA X.prog X.w) p vs:=I.hok p _ hx;have hlen:kvs.length=vs.length:=Paired.length r;exact wpAny_truthy_dict hS m (by omega) ⟨H,I.tok _,by rw[yc r];exact q⟩
 |_=>exact(show False from e).elim
theorem CJ(ha:PE X a ta)(he:∀whole,isTrue a X.env whole=(do let v <-whole;standAt a.pos;holding [v] (truthy v))) :
  PT X a (λσ H Q=>ta σ H λx H'=>∃k,K8 X.K x H' k/\Q k H'):=by
 intro pins s σ H Q I h;exact isTrue_plain (cK (ha pins s σ H _ I h) λv s1 ⟨x,H1,I1,r1,q1⟩=>K9 pins s1 σ H1 x v Q I1 r1 q1) (he _)
theorem vals1(r:Vals [x] us):∃u,us=[u]/\RelV x u:=by
 cases r with
 |cons r1 r2=>cases r2;exact⟨_,rfl,r1⟩
theorem vals2(r:Vals [x,y] us):∃u w',us=[u,w']/\RelV x u/\RelV y w':=by
 cases r with
 |cons r1 r2=>
  cases r2 with
  |cons r3 r4=>cases r4;exact⟨_,_,rfl,r1,r3⟩
theorem AZ(hc:X.calm=true):cL X (.builtin "max") (λxs H Q=>∃i j,xs=[.int i,.int j]/\Q (.int (if j>i then j else i)) H):=by
 intro pins s σ H xs us Q I r h;obtain⟨i,j,rfl,q⟩:=h;obtain⟨u,w',rfl,⟨t,rfl⟩,⟨t',rfl⟩⟩:=vals2 r;refine max_two_ints (I.ok.hd hc) λh' tk k=>⟨_,H,I.kept k,?_,q⟩
 by_cases hj:j>i
 ·rw[Zg hj,Zg hj];exact⟨_,rfl⟩
 ·rw[Zi hj,Zi hj];exact⟨_,rfl⟩
theorem A9(hc:X.calm=true):cL X (.builtin "min") (λxs H Q=>∃i j,xs=[.int i,.int j]/\Q (.int (if j<i then j else i)) H):=by
 intro pins s σ H xs us Q I r h;obtain⟨i,j,rfl,q⟩:=h;obtain⟨u,w',rfl,⟨t,rfl⟩,⟨t',rfl⟩⟩:=vals2 r;refine min_two_ints (I.ok.hd hc) λh' tk k=>⟨_,H,I.kept k,?_,q⟩
 by_cases hj:j<i
 ·rw[Zg hj,Zg hj];exact⟨_,rfl⟩
 ·rw[Zi hj,Zi hj];exact⟨_,rfl⟩
theorem rR:cL X (.type "int") (λxs H Q=>(∃i,xs=[.int i]/\Q (.int i) H)\/∃k,xs=[.bl k]/\Q (.int (if k then 1 else 0)) H):=by
 intro pins s σ H xs us Q I r h
 rcases h with ⟨i,rfl,q⟩|⟨k,rfl,q⟩
 ·obtain⟨u,rfl,t,rfl⟩:=vals1 r;exact call_int_int ⟨.int i,H,I,⟨_,rfl⟩,q⟩
 ·obtain⟨u,rfl,r1⟩:=vals1 r;cases r1;exact call_int_bool ⟨.int (if k then 1 else 0),H,I.tok _,⟨_,rfl⟩,q⟩
def S9(K:Frag)(x:V)(H:Hp)(n:Nat):Prop :=
 match x with
 |.str y=>y.length<=sizeLine/\n=y.length
 |.byt y=>y.size<=sizeLine/\n=y.size
 |.ref p=>(∃xs,gm K H p xs/\n=xs.length)\/∃xs,jO K H p xs/\n=xs.length
 |_=>False
theorem pM:cL X (.builtin "len") (λxs H Q=>∃x n,xs=[x]/\S9 X.K x H n/\Q (.int n) H):=by
 intro pins s σ H xs us Q I r h;obtain⟨x,n,rfl,e,q⟩:=h;obtain⟨u,rfl,rx⟩:=vals1 r;have hl:=tY;have hs:sizeLine=16777216:=sizeLine_eq;cases x with
 |str y=>obtain⟨t,rfl⟩:=rx;obtain⟨hy,e'⟩:y.length<=sizeLine/\n=y.length:=e;subst e';exact len_str (by omega) ⟨.int _,H,I.tok _,⟨_,rfl⟩,q⟩
 |byt y=>obtain⟨t,rfl⟩:=rx;obtain⟨hy,e'⟩:y.size<=sizeLine/\n=y.size:=e;subst e';exact PySem.W.len_bytes (by omega) ⟨.int _,H,I.tok _,⟨_,rfl⟩,q⟩
 |ref p=>
  cases rx;have e':(∃xs,gm X.K H p xs/\n=xs.length)\/∃xs,jO X.K H p xs/\n=xs.length:=e
  rcases e' with ⟨xs,hx,e'⟩|⟨xs,hx,e'⟩
  ·subst e';obtain⟨its,r',pl,hz⟩:=I.list hx;have hlen:=r'.length;exact Calls.call_len_list pl.isList (by simp only[size_toArray];omega) ⟨.int xs.length,H,I.tok _,⟨_,by simp only[size_toArray];rw[hlen]⟩,q⟩
  ·subst e';obtain⟨its,r',pl,hz⟩:=I.tuple hx;have hlen:=r'.length;exact len_tuple pl (by simp only[size_toArray];omega) ⟨.int xs.length,H,I.tok _,⟨_,by simp only[size_toArray];rw[hlen]⟩,q⟩
 |_=>exact(show False from e).elim
end
structure yd (h:Heap) (x dx C:Addr) (mA:Str->Option Value):Prop where
 obj:h.get? x=some (instObj C dx)
 ns:h.Ns1 dx mA
 ne:dx≠x
theorem Ba{h:Heap}{dx:Addr}{mA:Str->Option Value}(n:h.Ns1 dx mA):∃od,h.get? dx=some od/\∀name,lookIn name od=some (mA name):=by
 obtain⟨o,es,ep,ho,hd,hk,_,hm⟩:=n;refine⟨o,ho,λname=>?_⟩;have e:=hm name;unfold nsFind findBy at e;rw[<-Array.find?_toList]at e;unfold lookIn;rw[hd];dsimp only
 split
 ·rename_i y q;rw[q]at e;exact ZN some e
 ·rename_i q
  rw[q]at e;have a:es.toList.any (·.refKey)=false:=by rw[List.any_eq_false];intro y hy;obtain⟨z,t,hkey⟩:=hk y (Array.mem_toList_iff.mp hy);simp[DictEntry.refKey,hkey]
  have a':¬ es.toList.any (·.refKey)=true:=by rw[a];exact Y9
  rw[Zi a'];exact ZN some e
theorem yd.look(I:yd h x dx C mA):∃od,PySem.W.InstAt h x (instObj C dx) C (some od)/\∀name,lookIn name od=some (mA name) :=
 let ⟨od,ho,hl⟩:=Ba I.ns
 ⟨od,⟨I.obj,rfl,rfl,ho⟩,hl⟩
section
variable {prog:Program} {w:World} {A:Around} {E:Value->Shared->Prop} {s:Shared} {K:Frag} {x dx C f:Addr} {mA:Str->Option Value} {name:Str} {v:Value}
theorem get_map{expr:Bool}(X:K.In s.heap)(I:yd s.heap x dx C mA)(hg:plainGet K C name=true)(hh:hasDictIn K C=true)
  (ha:findIn K (.ref C) name=some none) (hv:mA name=some v) (hv':handedIn v=true) (h:Q v { s with toks:=s.toks+1 }) :
  wpAny (model prog w) A (getAttr (.ref x) name expr) Q E s:=by
 obtain⟨od,J,hl⟩:=I.look;exact PySem.W.get_value X J (plainGet_of hg).1 (PySem.W.findObj_own hh ha rfl (by rw[hl,hv])) hv' h
theorem CK(X:K.In s.heap)(I:yd s.heap x dx C mA)(hg:plainGet K C name=true)
  (hf:findIn K (.ref C) name=some (some (.ref f))) (ht:isFn K (.ref f)=true) (hv:mA name=none) (h:Q (.ref f,[.ref x]) s) :
  wpAny (model prog w) A (getMethod (.ref x) name pl) Q E s:=by
 obtain⟨od,J,hl⟩:=I.look;exact PySem.W.method_fn X J (plainGet_of hg).1 (plainGet_of hg).2 hf (beq_iff_eq.mp ht) (by show (lookIn name od).map (·.isSome)=some false;rw[hl,hv];rfl) h
theorem GZ(X:K.In s.heap)(I:yd s.heap x dx C mA)
  (hs:findIn K (.ref C) "__setattr__" = some (some (.builtin "object.__setattr__"))) (hp:plainOver K C=true) (ht:takerIn K C name=some none) (hh:hasDictIn K C=true)
  (hw:PySem.Within mA ns) (hsz:ns.length<=sizeLine)
  (h:∀h',yd h' x dx C (λy=>if y=name then some v else mA y)->Heap.SameBut dx s.heap h'->Q () { s with heap:=h',toks:=s.toks+2 }) :
  wpAny (model prog w) A (setAttr (.ref x) name v) Q E s:=by
 obtain⟨od,J,hl⟩:=I.look;refine PySem.W.set_plain X J hs (PySem.W.osa_open (s:={ s with toks:=s.toks+1 }) (r:=none) X J hp ht λb=>?_);obtain⟨cd,hc,hd'⟩:=PySem.W.any_some hh;have hx:s.heap.get? x=some ⟨.ref C,some dx,.plain,#[]⟩:=I.obj;refine Y8 (Zf (Y8 (Y8 (wpAny_loadPart hx (Y8 (PySem.W.Looks.here (s:={ s with toks:=s.toks+1 }) (PySem.W.looks_clsIn X hc) ?_))))));rw[hd'];refine Zf (a:=some dx) (Y8 (Zf (Y8 ?_)));refine wpAny_nsSet1 (s:={ s with toks:=s.toks+1 }) I.ns λh' hn2 hs2=>?_;obtain⟨oD,esD,YS,Wu,Wv,Ww⟩:=hn2.count (PySem.Within.cons name v hw);refine Y8 (wpAny_lookBehind Wu (by rw[Wv];exact pastItsLine_dict (ZE Ww (by rw[ZC];omega))) ?_);exact Zf (h _ ⟨(hs2.2 _ (Ne.symm I.ne)).trans I.obj,hn2,I.ne⟩ hs2)
theorem CL(X:K.In s.heap)(hm:makesIn K C=true)
  (hi:findIn K (.ref C) "__init__" = some (some (.ref f))) (hf:typeIn K (.ref f)=some (.type "function"))
  (h:codeAny (model prog w) (A.under (.builtin "type.__call__" ⟨.ref C::vs,kw⟩)) (.call (.ref f) ⟨.ref (s.heap.objs.size+1)::vs,kw⟩) (PySem.W.InitBack (s.heap.objs.size+1) R)
   { s with heap:=(s.heap.push emptyDict).push (instObj C s.heap.objs.size) }) :
  codeAny (model prog w) A (.call (.ref C) ⟨vs,kw⟩) R s:=by
 obtain⟨hh,g,d,t,os⟩:=s;exact PySem.W.make_core (PySem.W.makes_of X hm) (PySem.W.looks_findIn X hi) (λself=>PySem.W.bind_fn X self hf) (.inl rfl) h
end
def jh(f:Str)(v:V):List (Str×V)->List (Str×V)
 |[]=>[(f,v)]
 |(g,x)::r=>if g=f then (g,v)::r else (g,x)::jh f v r
theorem nU(f g:Str)(v:V):∀fs:List (Str×V),(jh f v fs).lookup g=if g=f then some v else fs.lookup g
 | []=>by
  show List.lookup g [(f,v)]=_
  by_cases h:g=f
  ·have hb:(g==f)=true:=beq_iff_eq.mpr h;simp only[List.lookup,hb,if_pos h]
  ·have hb:(g==f)=false:=ZM.mpr h;simp only[List.lookup,hb,if_neg h]
 | (k,x)::r=>by
  have ih:=nU f g v r;rw[show jh f v ((k,x)::r)=(if k=f then (k,v)::r else (k,x)::jh f v r) from rfl]
  by_cases hk:k=f
  ·rw[Zg hk]
   by_cases h:g=k
   ·have hb:(g==k)=true:=beq_iff_eq.mpr h;simp only[List.lookup,hb,if_pos (h.trans hk)]
   ·have hb:(g==k)=false:=ZM.mpr h;simp only[List.lookup,hb,if_neg (λe:g=f=>h (e.trans hk.symm))]
  ·rw[Zi hk]
   by_cases h:g=k
   ·have hb:(g==k)=true:=beq_iff_eq.mpr h;simp only[List.lookup,hb,if_neg (λe:g=f=>hk (h.symm.trans e))]
   ·have hb:(g==k)=false:=ZM.mpr h;simp only[List.lookup,hb];exact ih
theorem m8(f:Str)(v:V):∀fs:List (Str×V),f∈(jh f v fs).map (·.1)/\∀g,g∈fs.map (·.1)->g∈(jh f v fs).map (·.1)
 |[]=>⟨by simp[jh],λg h=>by simp at h⟩
 | (k,x)::r=>by
  obtain⟨i1,i2⟩:=m8 f v r;rw[show jh f v ((k,x)::r)=(if k=f then (k,v)::r else (k,x)::jh f v r) from rfl]
  by_cases hk:k=f
  ·rw[Zg hk];subst hk;exact⟨by simp,λg h=>by simpa using h⟩
  ·rw[Zi hk]
   refine⟨?_,λg h=>?_⟩
   ·rw[Zo];exact Zh _ i1
   ·rw[Zo]at h |-
    rcases Zw.mp h with e|e
    ·exact Zw.mpr (.inl e)
    ·exact Zh _ (i2 g e)
theorem nV(f:Str)(v:V):∀fs:List (Str×V),(jh f v fs).length<=fs.length+1
 |[]=>by simp[jh]
 | (k,x)::r=>by
  have ih:=nV f v r;rw[show jh f v ((k,x)::r)=(if k=f then (k,v)::r else (k,x)::jh f v r) from rfl]
  by_cases hk:k=f
  ·rw[Zg hk,ZC,ZC];omega
  ·rw[Zi hk,ZC,ZC];omega
theorem jF.some_of(r:jF (some v) o):∃u,o=some u/\RelV v u:=by
 cases o with
 |none=>exact(show False from r).elim
 |some u=>exact⟨u,rfl,r⟩
theorem jF.none_of(r:jF none o):o=none:=by
 cases o with
 |none=>rfl
 |some u=>exact(show False from r).elim
theorem Bb(r:RelV v u):handedIn u=true:=by
 cases v with
 |non=>cases (show u=Value.none from r);rfl
 |bl b=>cases (show u=Value.bool b from r);rfl
 |int i=>obtain⟨t,e⟩:=(show ∃t,u=Value.int i t from r);cases e;rfl
 |str x=>obtain⟨t,e⟩:=(show ∃t,u=Value.str x t from r);cases e;rfl
 |byt b=>obtain⟨t,e⟩:=(show ∃t,u=Value.bytes b t from r);cases e;rfl
 |flt b=>obtain⟨t,e⟩:=(show ∃t,u=Value.float b t from r);cases e;rfl
 |ref a=>cases (show u=Value.ref a from r);rfl
 |ty n=>cases (show u=Value.type n from r);rfl
section
variable {P:Program} {w:World} {H H':Hp} {h h':Heap} {a C dx:Addr} {fs fs':List (Str×V)}
theorem tZ(hok:lU P w H h)(e:H a=some (.ins C dx fs)):∃mA,yd h a dx C mA/\(∀f,jF (fs.lookup f) (mA f))/\PySem.Within mA (fs.map (·.1))/\fs.length<=1000/\H dx=some (.own a):=by
 obtain⟨d,z,ne,ob,mA,n,r,q⟩:=(show cu P w H h a (.ins C dx fs) from hok a _ e);exact⟨mA,⟨ob,n,ne⟩,r,q,z,d⟩
end
structure Cp (K:Frag) (C:Addr):Prop where
 pg:plainGet K C Str.empty=true
 hd:hasDictIn K C=true
 po:plainOver K C=true
 sa:findIn K (.ref C) "__setattr__" = some (some (.builtin "object.__setattr__"))
theorem Cp.get{K:Frag}{C:Addr}(c:Cp K C)(f:Str):plainGet K C f=true:=c.pg
def jR(K:Frag)(C:Addr)(f:Str):Prop:=findIn K (.ref C) f=some none
theorem jR.Pb{K:Frag}{C:Addr}{f:Str}(n:jR K C f):takerIn K C f=some none:=by
 unfold takerIn;rw[show findIn K (.ref C) f=some none from n];rfl
structure Meth (K:Frag) (C:Addr) (m:Str) (f:Addr):Prop where
 at_:findIn K (.ref C) m=some (some (.ref f))
 fn:isFn K (.ref f)=true
 kp:keepIn K (.ref f)=true
section
variable {X:Cx} {pins:List (Addr×Obj)} {σ:St} {H:Hp} {s:Shared} {a C dx:Addr} {fs:List (Str×V)} {f:Str} {v:V} {A:Around} {E:Value->Shared->Prop}
theorem ye{b:Bool}(I:Inv X pins σ H s)(e:H a=some (.ins C dx fs))(c:Cp X.K C)(n:jR X.K C f)(l:fs.lookup f=some v)
  (h:∀u s',Inv X pins σ H s'->RelV v u->Q u s'):wpAny (model X.prog X.w) A (getAttr (.ref a) f b) Q E s:=by
 obtain⟨mA,O,r,_,_,_⟩:=tZ I.hok e;obtain⟨u,hu,ru⟩:=jF.some_of (v:=v) (o:=mA f) (by rw[<-l];exact r f);exact get_map I.oX O (c.get f) c.hd n hu (Bb ru) (h u _ (I.tok _) ru)
theorem pN(I:Inv X pins σ H s)(e:H a=some (.ins C dx fs))(c:Cp X.K C)(k:Meth X.K C m g)(l:fs.lookup m=none)
  (h:Q (.ref g,[.ref a]) s):wpAny (model X.prog X.w) A (getMethod (.ref a) m pl) Q E s:=by
 obtain⟨mA,O,r,_,_,_⟩:=tZ I.hok e;have hn:mA m=none:=jF.none_of (by rw[<-l];exact r m);exact CK I.oX O (c.get m) k.at_ k.fn hn h
theorem yf(I:Inv X pins σ H s)(e:H a=some (.ins C dx fs))(c:Cp X.K C)(n:jR X.K C f)(hl:fs.length<1000)(ry:RelV y u)
  (h:∀s',Inv X pins σ (upd H a (.ins C dx (jh f y fs))) s'->Q () s'):wpAny (model X.prog X.w) A (setAttr (.ref a) f u) Q E s:=by
 obtain⟨mA,O,r,wi,_,ho⟩:=tZ I.hok e;have hz:(fs.map (·.1)).length<=sizeLine:=by rw[Ze,sizeLine_eq];omega
 refine GZ I.oX O c.sa c.po n.Pb c.hd wi hz λh' O' sb=>h _ ?_;have hd:∃o,h'.get? dx=some o:=let ⟨o,_,_,e',_⟩:=O'.ns;⟨o,e'⟩
 refine I.write (x:=a) (e:=dx) (by rw[e];exact True.intro) (.inr ho) (λb q hb z=>(sb.2 b hb).trans z) hd ?_;refine⟨by rw[aL O.ne];exact ho,?_,O.ne,O'.obj,_,O'.ns,λg=>?_,λg hg=>?_⟩
 ·have:=nV f y fs;omega
 ·show jF ((jh f y fs).lookup g) (if g=f then some u else mA g)
  rw[nU]
  by_cases q:g=f
  ·rw[Zg q,Zg q];exact ry
  ·rw[Zi q,Zi q];exact r g
 ·by_cases q:g=f
  ·rw[q];exact(m8 f y fs).1
  ·refine(m8 f y fs).2 g (wi g λz=>hg ?_);show (if g=f then some u else mA g)=none;rw[Zi q];exact z
theorem Inv.made(I:Inv X pins σ H s):Inv X pins σ (upd (upd H s.heap.objs.size (.own (s.heap.objs.size+1))) (s.heap.objs.size+1) (.ins C s.heap.objs.size []))
  { s with heap:=(s.heap.push emptyDict).push (instObj C s.heap.objs.size) }:=by
 have e1:(s.heap.push emptyDict).get? s.heap.objs.size=some emptyDict:=Zr s.heap rfl;have e2:((s.heap.push emptyDict).push (instObj C s.heap.objs.size)).get? (s.heap.objs.size+1)=some (instObj C s.heap.objs.size):=by have:=Zr (s.heap.push emptyDict) (o:=instObj C s.heap.objs.size) rfl;rwa [size_push]at this
 have e3:(s.heap.push emptyDict).Ns s.heap.objs.size (λ_=>none):=⟨emptyDict,#[],_,e1,rfl,(λe he=>absurd he (by simp)),λ_=>rfl⟩;have I1:=I.laid (a:=s.heap.objs.size) (o:=.own (s.heap.objs.size+1)) (h':=s.heap.push emptyDict) (t':=s.toks) (λb u q=>Zc _ q) (Zm _) ⟨_,e1⟩;refine I1.laid (a:=s.heap.objs.size+1) (o:=.ins C s.heap.objs.size []) (t':=s.toks) (λb u q=>Zc _ q) (Nat.le_of_eq (size_push _ _)) ?_;have ne:s.heap.objs.size≠s.heap.objs.size+1:=Zt (lt_succ_self _);refine⟨by rw[aL ne,bg],zero_le _,ne,e2,λ_=>none,(Heap.Ns1.of_empty e3).at λo q=>Zc _ q,λ_=>True.intro,λy hy=>absurd rfl hy⟩
theorem attr_of(hb:attributeBase e f env (eval e env)=eval e env)
  (h:wpAny (model prog w) A (eval e env) (λo s₁=>wpAny (model prog w) A (getAttr o f true) Q E s₁) E s):wpAny (model prog w) A (eval (.Attribute e f pos) env) Q E s :=
 Attribute_any_ h (by rw[arm_eval_Attribute,hb])
end
def tFld(K:Frag)(ta:TE)(f:Str):TE:=λσ H Q=>ta σ H λx H1=>∃a C dx fs v,x=.ref a/\H1 a=some (.ins C dx fs)/\Cp K C/\jR K C f/\fs.lookup f=some v/\Q v H1
def Tc(K:Frag)(ta tv:TE)(f:Str):TS:=λD σ H=>tv σ H λy H1=>ta σ H1 λx H2=>∃a C dx fs,x=.ref a/\H2 a=some (.ins C dx fs)/\Cp K C/\jR K C f/\fs.length<1000 /\
 D.nx σ (upd H2 a (.ins C dx (jh f y fs)))
section
variable {X:Cx} {o e value:Expr} {f:Str} {pos pos' tpos:Pos} {ta tv:TE}
theorem pe_fld(he:PE X e ta)(hb:attributeBase e f X.env (eval e X.env)=eval e X.env):PE X (.Attribute e f pos) (tFld X.K ta f):=by
 intro pins s σ H Q I h;refine attr_of hb (cK (he pins s σ H _ I h) λu s1 aO=>?_);obtain⟨x,H1,I1,rx,a,C,dx,fs,v,ex,ea,c,n,l,q⟩:=aO;subst ex;obtain rfl:u=Value.ref a:=rx;exact ye I1 ea c n l λu' s2 I2 ru=>⟨v,H1,I2,ru,q⟩
theorem La(ha:PE X o ta)(hv:PE X value tv)(hs:swapsWith value (some (.Attribute o f pos')) pos.line X.env=pure false):PS X (.Assign [.Attribute o f pos'] value pos) (Tc X.K ta tv f):=by
 intro pins s σ H D I h;refine plainObj_wpAny_Assign_Attribute (cK (hv pins s σ H _ I h) λu s1 ⟨y,H1,I1,ry,q⟩=>cK (ha pins s1 σ H1 _ I1 q) λov s2 ⟨x,H2,I2,rx,a,C,dx,fs,ex,ea,c,n,l,q2⟩=>?_) hs;subst ex;obtain rfl:ov=Value.ref a:=rx;exact yf I2 ea c n l ry λs3 I3=>⟨σ,_,I3,q2⟩
end
structure dR (k:Nat) (A:Around):Prop where
 hd:A.handled=none
 dp:A.depth+3*k+5<recursionLimit
 un:A.units+16*k+200<cLine
theorem dR.mono{j k:Nat}(r:dR k A)(h:j<=k):dR j A:=⟨r.hd,by have:=r.dp;omega,by have:=r.un;omega⟩
theorem dR.deeper{k:Nat}(r:dR (k+1) A)(env:Env):dR k (A.deeper env) :=
 ⟨r.hd,by have:=r.dp;show A.depth+1+3*k+5<_;omega,by have:=r.un;show A.units+3+16*k+200<_;omega⟩
theorem yg{A:Around}{C:Addr}{us:List Value}{kw:List (Str×Value)}:(A.under (.builtin "type.__call__" ⟨.ref C::us,kw⟩)).depth=A.depth+1:=by
 first|rfl|simp[Around.under,Code.weight,Code.isCreation,Code.isGuard,Code.isCaller,Code.frames,Code.isFrame,guardIds]
theorem yh{A:Around}{C:Addr}{us:List Value}{kw:List (Str×Value)}:(A.under (.builtin "type.__call__" ⟨.ref C::us,kw⟩)).units=A.units+1:=by
 first|rfl|simp[Around.under,Code.cUnits,Code.frames,Code.isFrame]
theorem dR.make{k:Nat}(r:dR (k+1) A)(C:Addr)(us:List Value)(kw:List (Str×Value)):dR k (A.under (.builtin "type.__call__" ⟨.ref C::us,kw⟩)) :=
 ⟨r.hd,by have:=r.dp;rw[yg];omega,by have:=r.un;rw[yh];omega⟩
theorem dR.depth{k:Nat}(r:dR k A):A.depth<recursionLimit:=by have:=r.dp;omega
theorem dR.units{k:Nat}(r:dR k A):A.units+64<cLine:=by have:=r.un;omega
def Lb:TA:=λ_ H Q=>Q [] H
def Pc(ta:TE)(tr:TA):TA:=λσ H Q=>ta σ H λx H1=>tr σ H1 λxs H2=>Q (x::xs) H2
section
variable {X:Cx} {e:Expr} {es:List Expr} {te:TE} {t:TA} {pos:Pos}
theorem CM:PA X [] Lb:=λ_ _ _ _ H Q I h=>Calls.spliced_nil ⟨[],H,I,.nil,h⟩
theorem t7(ha:PE X e te)(hr:PA X es t)(hs:starEach (e::es) X.env=(false,eval e X.env)::starEach es X.env:=by rfl):PA X (e::es) (Pc te t):=by
 intro pos pins s σ H Q I h;rw[hs];show wpAny _ _ (spliced ((false,eval e X.env)::backTo pos (starEach es X.env))) _ _ s;refine Calls.spliced_cons (cK (ha pins s σ H _ I h) λu s1 aO=>?_);obtain⟨x,H1,I1,r1,q1⟩:=aO;exact cK (hr pos pins s1 σ H1 _ I1 q1) λus s2 ⟨xs,H2,I2,r2,q2⟩=>⟨x::xs,H2,I2,.cons r1 r2,q2⟩
def Td(t:TA):TE:=λσ H Q=>t σ H λxs H1=>xs.length<=sizeLine/\∀p,H1 p=none->Q (.ref p) (upd H1 p (.tup xs))
def Te(t:TA):TE:=λσ H Q=>t σ H λxs H1=>xs.length<=sizeLine/\∀p,H1 p=none->Q (.ref p) (upd H1 p (.lst xs))
theorem Lc{x1}(h:PA X es t):PE X (.Tuple es x1 pos) (Td t):=by
 intro pins s σ H Q I hq;refine wpAny_Tuple_spliced (cK (h pos pins s σ H _ I hq) λus s1 ⟨xs,H1,I1,r,z,q⟩=>⟨by rw[<-r.length];exact z,?_⟩);have hf:H1 s1.heap.objs.size=none:=I1.hok.fresh (Zm _);refine⟨.ref s1.heap.objs.size,upd H1 s1.heap.objs.size (.tup xs),I1.laid (t':=s1.toks) (λb u e=>Zc _ e) (Zm _) ?_,rfl,q _ hf⟩;exact⟨z,us,r,⟨_,Zr _ rfl,rfl,_,rfl⟩⟩
theorem Ld(h:PA X es t):PE X (.List es pos) (Te t):=by
 intro pins s σ H Q I hq;refine wpAny_List_spliced (cK (h pos pins s σ H _ I hq) λus s1 ⟨xs,H1,I1,r,z,q⟩=>⟨by rw[<-r.length];exact z,?_⟩);have hf:H1 s1.heap.objs.size=none:=I1.hok.fresh (Zm _);refine⟨.ref s1.heap.objs.size,upd H1 s1.heap.objs.size (.lst xs),I1.laid (t':=s1.toks) (λb u e=>Zc _ e) (Zm _) ?_,rfl,q _ hf⟩;exact⟨z,us,0,r,Zr _ rfl⟩
end
abbrev Sp:=List V->Hp->VK->XK->Prop
abbrev Bc:=List Env->Hp->Shared->XK->Value->Shared->Prop
structure yi (P:Program) (w:World) (K:Frag) (mg:Str->Option Value) (base:Heap) (A:Around) (outer:List Env) (s:Shared) (H:Hp):Prop where
 frames:A.frames=some outer
 mod:Mod K mg base
 bs:∀b o,base.get? b=some o->s.heap.get? b=some o/\H b=none
 JQ:base.objs.size<=s.heap.objs.size
 oG:s.heap.FunFrames base outer
 Kz:∀b∈frs outer,H b=none
 hok:lU P w H s.heap
 bare:AllBare s.gens
def CE(outer:List Env)(P:Program)(w:World)(H:Hp)(s:Shared)(Q:VK)(u:Value)(s':Shared):Prop :=
 ∃v H',s'.os=s.os/\AllBare s'.gens/\Un (frs outer) [] H H' s.heap s'.heap/\lU P w H' s'.heap/\RelV v u/\Q v H'
def CR(CX:Bc)(outer:List Env)(P:Program)(w:World)(H:Hp)(s:Shared)(Q:VK)(E:XK)(r:Result)(s':Shared):Prop :=
 match r with
 |.ok (.ret u)=>CE outer P w H s Q u s'
 |.ok _=>False
 |.error e=>CX outer H s E e s'
structure fG (P:Program) (w:World) (K:Frag) (mg:Str->Option Value) (base:Heap) (CX:Bc) (k:Nat) (f:Addr) (fd:FuncData) (ps:List Str) (sp:Sp):Prop where
 len:∀vs H Q E,sp vs H Q E->vs.length=ps.length
 run:∀(A:Around) (outer:List Env) (s:Shared) (H:Hp) (args:Args) (us:List Value) (vs:List V) (Q:VK) (E:XK),dR k A->yi P w K mg base A outer s H->BindsTo s fd args (ps.zip us)->Vals vs us->sp vs H Q E ->
  codeAny (model P w) A (.call (.ref f) args) (CR CX outer P w H s Q E) s
theorem fG.mono{P:Program}{w:World}{K:Frag}{mg:Str->Option Value}{base:Heap}{CX:Bc}{j k:Nat}{f:Addr}{fd:FuncData}{ps:List Str}{sp:Sp}(F:fG P w K mg base CX j f fd ps sp)(h:j<=k) :
  fG P w K mg base CX k f fd ps sp:=⟨F.len,λA outer s H args us vs Q E hr=>F.run A outer s H args us vs Q E (hr.mono h)⟩
theorem fG.imp{P:Program}{w:World}{K:Frag}{mg:Str->Option Value}{base:Heap}{CX:Bc}{k:Nat}{f:Addr}{fd:FuncData}{ps:List Str}{sp UX:Sp}(F:fG P w K mg base CX k f fd ps sp)
  (h:∀vs H Q E,UX vs H Q E->sp vs H Q E):fG P w K mg base CX k f fd ps UX :=
 ⟨λvs H Q E q=>F.len vs H Q E (h _ _ _ _ q),λA outer s H args us vs Q E hr he hb hv hs=>F.run A outer s H args us vs Q E hr he hb hv (h _ _ _ _ hs)⟩
theorem yi.make{P:Program}{w:World}{K:Frag}{mg:Str->Option Value}{base:Heap}{A:Around}{outer:List Env}{s:Shared}{H:Hp}(e:yi P w K mg base A outer s H)(C:Addr)(us:List Value)(kw:List (Str×Value)) :
  yi P w K mg base (A.under (.builtin "type.__call__" ⟨.ref C::us,kw⟩)) outer s H:=⟨by first|exact e.frames|(simpa [Around.under,Code.envs,Code.isFrame,pushEnvs] using e.frames),e.mod,e.bs,e.JQ,e.oG,e.Kz,e.hok,e.bare⟩
section
variable {X:Cx} {pins:List (Addr×Obj)} {σ:St} {H:Hp} {s s':Shared}
theorem Inv.oJ(I:Inv X pins σ H s):yi X.prog X.w X.K X.mg X.base X.A X.stack s H :=
 ⟨I.ok.frames,I.ok.mod,I.bs,ZE I.ok.JQ I.sz,I.stack,I.zj,I.hok,I.bare⟩
theorem Inv.after(I:Inv X pins σ H s)(h:CE X.stack X.prog X.w H s Q u s'):EP X pins σ Q u s':=by
 obtain⟨v,H',os,bare,un,hok,r,q⟩:=h;obtain⟨hh,g,d,t,os'⟩:=s';obtain rfl:os'=s.os:=os;exact⟨v,H',I.call (h':=hh) (g':=g) (d':=d) (t':=t) (ch:=[]) un hok bare (λb z=>absurd z (by simp)),r,q⟩
end
def JT(sp:Sp)(qZ:List V)(E:XK)(t:TA):TE:=λσ H Q=>t σ H λvs H1=>sp (vs++qZ) H1 Q E
def JU(C:Addr)(sp:Sp)(qZ:List V)(E:XK)(t:TA):TE:=λσ H Q=>t σ H λvs H1=>∀x dx,H1 x=none->H1 dx=none->dx≠x ->
 sp (.ref x::(vs++qZ)) (upd (upd H1 dx (.own x)) x (.ins C dx [])) (λv H2=>v=.non/\Q (.ref x) H2) E
def Binds(K:Frag)(fd:FuncData)(ps:List Str)(ds:List Value):Prop :=
 ∀(s:Shared) (us:List Value),K.In s.heap->(us++ds).length=ps.length->BindsTo s fd ⟨us,[]⟩ (ps.zip (us++ds))
theorem Binds.all{K:Frag}{fd:FuncData}{ps:List Str}(h:∀us:List Value,us.length=ps.length->bindArgs fd ⟨us,[]⟩=pure (ps.zip us)):Binds K fd ps []:=λs us _ hl=>by
 rw[append_nil]at hl |-;exact .of_eq (h us hl)
def Passes(CX:Bc)(X:Cx)(E:XK):Prop:=∀(pins:List (Addr×Obj)) (σ:St) (H:Hp) (s:Shared) (e:Value) (s':Shared),Inv X pins σ H s->CX X.stack H s E e s'->X.xe e s'
section
variable {X:Cx} {CX:Bc} {k:Nat} {f C:Addr} {fd:FuncData} {ps:List Str} {sp:Sp} {qZ:List V} {ds:List Value} {E:XK} {x m:Str} {p pos apos:Pos} {e o:Expr} {es:List Expr} {ta:TE} {t:TA}
theorem t8(F:fG X.prog X.w X.K X.mg X.base CX k f fd ps sp)(hr:dR k X.A)(hb:Binds X.K fd ps ds)(hd:Vals qZ ds)(hx:Passes CX X E)
  (I:Inv X pins σ H s) (r:Vals vs us) (h:sp (vs++qZ) H Q E):wpAny (model X.prog X.w) X.A (call (.ref f) us) (EP X pins σ Q) X.xe s:=by
 have r2:Vals (vs++qZ) (us++ds):=r.append hd;have hl:(us++ds).length=ps.length:=by rw[<-r2.length];exact F.len _ _ _ _ h
 refine wpAny_call (codeAny_mono (F.run X.A X.stack s H ⟨us,[]⟩ (us++ds) (vs++qZ) Q E hr I.oJ (hb s us I.oX hl) r2 h) λr s' hq=>?_);cases r with
 |error e=>exact hx pins σ H s e s' I hq
 |ok fl=>
  cases fl with
  |ret u=>exact I.after hq
  |next=>exact False.elim hq
  |brk=>exact False.elim hq
  |cont=>exact False.elim hq
theorem Hf(F:fG X.prog X.w X.K X.mg X.base CX k f fd ps sp)(hr:dR k X.A)(hg:Gl X x)(hm:X.mg x=some (.ref f))(hk:keepIn X.K (.ref f)=true)(hb:Binds X.K fd ps ds)(hd:Vals qZ ds)(hx:Passes CX X E)
  (ha:PA X (e::es) t) (hdb:(x==("__debug__":Str))=false) (he:starEach (e::es) X.env=(false,eval e X.env)::starEach es X.env) (hpl:(backTo pos (starEach es X.env)).any (·.1)=false) :
  PE X (.Call (.Name x p) (e::es) [] pos) (JT sp qZ E t):=by
 intro pins s σ H Q I h;refine wpAny_Call_Name_kw (lX I hg hm ?_ hdb);refine callWith_K (h₀:=X.base) I.ok.mod.Oz hk (cK (ha pos pins s σ H _ I h) λus s1 ⟨vs,H1,I1,r,q⟩=>⟨I1.oX,?_⟩) he hpl;exact t8 F hr hb hd hx I1 r q
theorem CN(F:fG X.prog X.w X.K X.mg X.base CX k f fd ps sp)(hr:dR k X.A)(hg:Gl X x)(hm:X.mg x=some (.ref f))(hk:keepIn X.K (.ref f)=true)(hb:Binds X.K fd ps ds)(hd:Vals qZ ds)(hx:Passes CX X E)
  (hdb:(x==("__debug__":Str))=false):PE X (.Call (.Name x p) [] [] pos) (JT sp qZ E Lb):=by
 intro pins s σ H Q I h;refine wpAny_Call_Name_kw (lX I hg hm ?_ hdb);exact callWith_K0 I.oX hk (t8 (us:=[]) F hr hb hd hx I .nil h)
structure Mk (K:Frag) (C f:Addr):Prop where
 makes:makesIn K C=true
 init:findIn K (.ref C) "__init__" = some (some (.ref f))
 fn:isFn K (.ref f)=true
 kp:keepIn K (.ref C)=true
theorem vo(M:Mk X.K C f)(F:fG X.prog X.w X.K X.mg X.base CX k f fd ps sp)(hr:dR (k+1) X.A)(hb:Binds X.K fd ps ds)(hd:Vals qZ ds)
  (hx:Passes CX X E) (I:Inv X pins σ H s) (r:Vals vs us)
  (h:∀x dx,H x=none->H dx=none->dx≠x->sp (.ref x::(vs++qZ)) (upd (upd H dx (.own x)) x (.ins C dx [])) (λv H2=>v=.non/\Q (.ref x) H2) E) :
  wpAny (model X.prog X.w) X.A (call (.ref C) us) (EP X pins σ Q) X.xe s:=by
 have hq:=h (s.heap.objs.size+1) s.heap.objs.size (I.hok.fresh (le_succ _)) (I.hok.fresh (Zm _)) (Zt (lt_succ_self _));have I2:=Inv.made (C:=C) I;have r2:Vals (V.ref (s.heap.objs.size+1)::(vs++qZ)) (Value.ref (s.heap.objs.size+1)::(us++ds)):=.cons rfl (r.append hd);have hl:(Value.ref (s.heap.objs.size+1)::us++ds).length=ps.length:=by have e:=r2.length;rw[F.len _ _ _ _ hq]at e;exact e.symm
 refine wpAny_call (CL (f:=f) I.oX M.makes M.init (beq_iff_eq.mp M.fn) (codeAny_mono (F.run _ X.stack _ _ ⟨Value.ref (s.heap.objs.size+1)::us,[]⟩ (Value.ref (s.heap.objs.size+1)::(us++ds)) _ _ E (hr.make C us [])
  (I2.oJ.make C us []) (hb _ (Value.ref (s.heap.objs.size+1)::us) I2.oX hl) r2 hq) λr s' hq'=>?_))
 cases r with
 |error e=>exact hx pins σ _ _ e s' I2 hq'
 |ok fl=>
  cases fl with
  |ret u=>obtain⟨v,H',I3,rv,ev,q3⟩:=I2.after hq';subst ev;exact⟨rv,⟨V.ref (s.heap.objs.size+1),H',I3,rfl,q3⟩⟩
  |next=>exact False.elim hq'
  |brk=>exact False.elim hq'
  |cont=>exact False.elim hq'
theorem Hg(M:Mk X.K C f)(F:fG X.prog X.w X.K X.mg X.base CX k f fd ps sp)(hr:dR (k+1) X.A)(hg:Gl X x)(hm:X.mg x=some (.ref C))(hb:Binds X.K fd ps ds)(hd:Vals qZ ds)(hx:Passes CX X E)
  (ha:PA X (e::es) t) (hdb:(x==("__debug__":Str))=false) (he:starEach (e::es) X.env=(false,eval e X.env)::starEach es X.env) (hpl:(backTo pos (starEach es X.env)).any (·.1)=false) :
  PE X (.Call (.Name x p) (e::es) [] pos) (JU C sp qZ E t):=by
 intro pins s σ H Q I h;refine wpAny_Call_Name_kw (lX I hg hm ?_ hdb);refine callWith_K (h₀:=X.base) I.ok.mod.Oz M.kp (cK (ha pos pins s σ H _ I h) λus s1 ⟨vs,H1,I1,r,q⟩=>⟨I1.oX,?_⟩) he hpl;exact vo M F hr hb hd hx I1 r q
theorem CO(M:Mk X.K C f)(F:fG X.prog X.w X.K X.mg X.base CX k f fd ps sp)(hr:dR (k+1) X.A)(hg:Gl X x)(hm:X.mg x=some (.ref C))(hb:Binds X.K fd ps ds)(hd:Vals qZ ds)(hx:Passes CX X E)
  (hdb:(x==("__debug__":Str))=false):PE X (.Call (.Name x p) [] [] pos) (JU C sp qZ E Lb):=by
 intro pins s σ H Q I h;refine wpAny_Call_Name_kw (lX I hg hm ?_ hdb);exact callWith_K0 I.oX M.kp (vo (us:=[]) M F hr hb hd hx I .nil h)
end
structure o5 (N P:List Str) (sc:Scope):Prop where
 kind:sc.kind=.function
 co:sc.isCoroutine=false
 gen:sc.isGenerator=false
 nd:N.Nodup
 pre:N.take P.length=P
 par:∀x∈P,sc.names.lookup x=some .local\/sc.names.lookup x=some .cell
 Le:∀y∈sc.names,y.2≠.free
theorem rS{kindOf:Str->Option NameKind}{x:Str}:∀{binds:List (Str×Value)} {m:Str->Option Value},(∀v,(x,v)∉binds)->bindL kindOf binds m x=m x
 |[],_,_=>rfl
 | (n,v)::r,m,h=>by
  unfold bindL;rw[rS λw hw=>h w (Zh _ hw)]
  split
  ·have:x≠n:=by rintro rfl;exact h v Zk
   simp[this]
  ·rfl
theorem rT{kindOf:Str->Option NameKind}{x:Str}:∀{binds:List (Str×Value)} {m:Str->Option Value},(∀v,(x,v)∉binds)->bindC kindOf binds m x=m x
 |[],_,_=>rfl
 | (n,v)::r,m,h=>by
  unfold bindC;rw[rT λw hw=>h w (Zh _ hw)]
  split
  ·rfl
  ·have:x≠n:=by rintro rfl;exact h v Zk
   simp[this]
theorem rV{kindOf:Str->Option NameKind}{x:Str}{v:Value}:∀{P:List Str} {vs:List Value} {i:Nat} {m:Str->Option Value},P.Nodup->P[i]?=some x->vs[i]?=some v->kindOf x=some .local ->
  bindL kindOf (P.zip vs) m x=some v
 |[],_,_,_,_,h,_,_=>by simp at h
 |_::_,[],_,_,_,_,h,_=>by simp at h
 | p::P,w::vs,0,m,nd,h1,h2,hk=>by
  simp at h1 h2;subst h1;subst h2;show bindL kindOf ((p,w)::P.zip vs) m p=_;unfold bindL;rw[rS λv hv=>(nodup_cons.mp nd).1 (of_mem_zip hv).1,Zg hk];simp
 | p::P,w::vs,i+1,m,nd,h1,h2,hk=>by
  show bindL kindOf ((p,w)::P.zip vs) m x=_;unfold bindL;exact rV (i:=i) (nodup_cons.mp nd).2 (by simpa using h1) (by simpa using h2) hk
theorem rW{kindOf:Str->Option NameKind}{x:Str}{v:Value}:∀{P:List Str} {vs:List Value} {i:Nat} {m:Str->Option Value},P.Nodup->P[i]?=some x->vs[i]?=some v->kindOf x≠some .local ->
  bindC kindOf (P.zip vs) m x=some v
 |[],_,_,_,_,h,_,_=>by simp at h
 |_::_,[],_,_,_,_,h,_=>by simp at h
 | p::P,w::vs,0,m,nd,h1,h2,hk=>by
  simp at h1 h2;subst h1;subst h2;show bindC kindOf ((p,w)::P.zip vs) m p=_;unfold bindC;rw[rT λv hv=>(nodup_cons.mp nd).1 (of_mem_zip hv).1,Zi hk];simp
 | p::P,w::vs,i+1,m,nd,h1,h2,hk=>by
  show bindC kindOf ((p,w)::P.zip vs) m x=_;unfold bindC;exact rW (i:=i) (nodup_cons.mp nd).2 (by simpa using h1) (by simpa using h2) hk
def start(N:List Str)(vs:List V):St:=vs.map some++replicate (N.length-vs.length) none
def yj(CX:Bc)(P:Program)(w:World)(K:Frag)(mg:Str->Option Value)(base:Heap)(N:List Str)(qual:Str)(scope:Scope)(f:Addr)(cd:Value)(A:Around)(outer:List Env)(s:Shared)(H:Hp)(E:XK):Cx where
 prog:=P
 w:=w
 K:=K
 mg:=mg
 base:=base
 A:=A.deeper (envOfC qual scope s.heap.objs.size f cd)
 N:=N
 s₀:=s
 H₀:=H
 env:=envOfC qual scope s.heap.objs.size f cd
 outer:=outer
 stack:=envOfC qual scope s.heap.objs.size f cd::outer
 ex:=[]
 calm:=true
 fn:=λ_=>true
 pn:=[]
 xe:=λe s'=>wpAny (model P w) (A.deeper (envOfC qual scope s.heap.objs.size f cd)) (leaving (envOfC qual scope s.heap.objs.size f cd) e) (λ_ s''=>CX outer H s E e s'') (λe' s''=>CX outer H s E e' s'') s'
theorem vp{sc:Scope}{n:Nat}{x:Str}(h:sc.names.lookup x=some .cell):∃c,(cellsFrom n sc.names []).lookup x=some c:=by
 have q:=cellsFrom_some sc.names n [] (.inl h);exact Option.isSome_iff_exists.mp q
theorem Be{CX:Bc}{P:Program}{w:World}{K:Frag}{mg:Str->Option Value}{base:Heap}{N ps:List Str}{qual:Str}{scope:Scope}{f:Addr}{cd:Value}{A:Around}{outer:List Env}{s s1:Shared}{H:Hp}{E:XK}{us:List Value}{vs:List V}
  (S:o5 N ps scope) (hd:A.handled=none) (e0:yi P w K mg base A outer s H) (hl:vs.length=ps.length) (r:Vals vs us)
  (x:InCallC s s.heap.objs.size (bindL (envOfC qual scope s.heap.objs.size f cd).kindOf (ps.zip us) λ_=>none) (cellsFrom (s.heap.objs.size+1) scope.names []) (bindC (envOfC qual scope s.heap.objs.size f cd).kindOf (ps.zip us) λ_=>none) s1) :
  Inv (yj CX P w K mg base N qual scope f cd A outer s H E) [] (start N vs) H s1:=by
 have hpl:ps.length<=N.length:=by have:=ZN length S.pre;rw[length_take]at this;omega
 obtain⟨h1,tk,rfl,hk⟩:=x.done;have noA:∀b:Addr,b∉(yj CX P w K mg base N qual scope f cd A outer s H E).ex:=λb z=>absurd (show b∈([]:List Addr) from z) (by simp);refine⟨⟨e0.mod,S.kind,rfl,rfl,Zm _,λy z c h1 h2=>?_,λy hy=>?_,λy c _ h=>?_,λ_=>hd,Around.frames_deeper e0.frames,.inr ⟨rfl,rfl⟩,λb z=>absurd z (noA b),e0.bs,e0.JQ,λb _ _=>noA b,λb z=>absurd z (noA b),e0.oG,e0.Kz⟩,
  rfl,e0.bare,Un.kept hk,⟨_,x.toInCall.ns,λi y v h1 h2 h3=>?_⟩,λy c h=>⟨_,x.cell y c h⟩,e0.hok.fresh (Zm _),λy c h=>?_,λp hp=>absurd (show p∈([]:List (Addr×Obj)) from hp) (by simp),e0.hok.kept hk,?_⟩
 ·exact name_of_addr x.apart (PySem.mem_of_lookup h1) (PySem.mem_of_lookup h2)
 ·have hy:scope.names.lookup y=some .cell\/scope.names.lookup y=some .free:=hy
  rcases hy with hy|hy
  ·exact vp hy
  ·exact absurd rfl (S.Le _ (PySem.mem_of_lookup hy))
 ·exact le_of_lt (x.above y c (PySem.mem_of_lookup h))
 ·have hi:i<vs.length:=by
   unfold start at h2
   by_cases hi:i<vs.length
   ·exact hi
   ·rw[ZD (by simpa using hi)]at h2;rw[List.getElem?_replicate]at h2;split at h2<;>cases h2
  have ha:vs[i]?=some v:=by
   unfold start at h2;rw[Zp (by simpa using hi),Zx]at h2;cases e:vs[i]? with
   |none=>rw[e]at h2;cases h2
   |some a=>rw[e]at h2;cases h2;rfl
  obtain⟨u,hu,rv⟩:=r.get ha;have hp:ps[i]?=some y:=by rw[<-S.pre,List.getElem?_take_of_lt (by omega)];exact h1
  have UY:ps.Nodup:=by rw[<-S.pre];exact S.nd.sublist (List.take_sublist _ _)
  refine⟨u,rv,?_⟩
  rcases S.par y (Zz hp) with k|k
  ·exact .inl ⟨k,rV UY hp hu k⟩
  ·obtain⟨c,e⟩:=vp (n:=s.heap.objs.size+1) k;refine .inr ⟨.inl k,c,e,?_⟩;have q:=x.cell y c e;rw[rW UY hp hu (by show scope.names.lookup y≠_;rw[k];decide)]at q;exact q
 ·exact e0.hok.fresh (le_of_lt (x.above y c (PySem.mem_of_lookup h)))
 ·unfold start;show _=N.length;rw[ZA,Ze,List.length_replicate];omega
theorem Pd{CX:Bc}{P:Program}{w:World}{K:Frag}{mg:Str->Option Value}{base:Heap}{k:Nat}{f:Addr}{name qual:Str}{params:Arguments}{body:List Stmt}{scope:Scope}{dV kV doc pm cdv ct oc:Value}{an od:Option Addr}
  {osl:Array (Option Value)} {N ps:List Str} {sp:Sp} (lk:K.lookup f=some ⟨oc,od,.func (fnOf name qual params body scope dV kV doc pm an cdv ct),osl⟩) (hcd:codeIn K cdv qual=true) (S:o5 N ps scope)
  (len:∀vs H Q E,sp vs H Q E->vs.length=ps.length)
  (hbody:∀(A:Around) (outer:List Env) (s:Shared) (H:Hp) (vs:List V) (Q:VK) (E:XK),dR k (A.deeper (envOfC qual scope s.heap.objs.size f cdv))->sp vs H Q E ->
   ∃t,x9 (yj CX P w K mg base N qual scope f cdv A outer s H E) body t/\t { nx:=λ_ H'=>Q .non H',rt:=Q } (start N vs) H) :
  fG P w K mg base CX (k+1) f (fnOf name qual params body scope dV kV doc pm an cdv ct) ps sp:=by
 refine⟨len,λA outer s H args us vs Q E hr e0 hb r hsp=>?_⟩;have hl:=len _ _ _ _ hsp;have KX:K.In s.heap:=e0.mod.Oz.keeps λb o e=>(e0.bs b o e).1;have lim:s.heap.NoLimit:=e0.mod.nolimit.keeps λb o e=>(e0.bs b o e).1;have hkind:∀y∈ps.zip us,scope.names.lookup y.1=some .local\/(scope.names.lookup y.1=some .cell/\((cellsFrom (s.heap.objs.size+1) scope.names []).lookup y.1).isSome=true):=λ⟨n,v⟩ hy=>by
  rcases S.par n (of_mem_zip hy).1 with q|q
  ·exact .inl q
  ·exact .inr ⟨q,cellsFrom_some _ _ _ (.inl q)⟩
 refine codeAny_call_function hr.depth (KX _ _ lk) rfl S.co S.gen rfl (PySem.W.codeRec_of KX hcd) (hb _ _ _ _ ?_);refine wpAny_newFunctionEnv_cells S.kind hkind λenv he s1 x=>?_;subst he;refine⟨lim.keeps x.toInCall.keep,codeAny_func ?_⟩;obtain⟨t,ht,hq⟩:=hbody A outer s H vs Q E (hr.deeper _) hsp;have I:Inv (yj CX P w K mg base N qual scope f cdv A outer s H E) [] (start N vs) H s1:=Be S hr.hd e0 hl r x;refine wpAny_mono (ht [] s1 (start N vs) H _ I hq) (λfl s' hs=>?_) λe s' hs=>hs;have fin:∀{σ':St} {H':Hp} {v:V} {u:Value},Inv (yj CX P w K mg base N qual scope f cdv A outer s H E) [] σ' H' s'->RelV v u->Q v H'->CE outer P w H s Q u s' :=
  λ{σ' H' v u} J rv q=>⟨v,H',J.os,J.bare,J.base,J.hok,rv,q⟩
 cases fl with
 |ret u=>obtain⟨v,σ',H',J,rv,q⟩:=hs;exact fin J rv q
 |next=>obtain⟨σ',H',J,q⟩:=hs;exact fin (v:=V.non) (u:=Value.none) J rfl q
 |brk=>obtain⟨_,_,_,q⟩:=hs;exact False.elim q
 |cont=>obtain⟨_,_,_,q⟩:=hs;exact False.elim q
section
variable {X:Cx} {x:Str} {p pos:Pos} {e:Expr} {es:List Expr} {t:TA} {id T:String} {r:List V->Hp->VK->Prop}
def UZ(r:List V->Hp->VK->Prop)(t:TA):TE:=λσ H Q=>t σ H λvs H1=>r vs H1 Q
theorem gx(hc:cL X (.builtin id) r)(hg:Gl X x)(hm:X.mg x=none)(hv:bootBuiltins x=some (.builtin id))(ha:PA X (e::es) t)(hn:x ≠ "__name__":=by decide)(hdb:(x==("__debug__":Str))=false:=by decide)
  (he:starEach (e::es) X.env=(false,eval e X.env)::starEach es X.env:=by rfl) (hpl:(backTo pos (starEach es X.env)).any (·.1)=false:=by rfl):PE X (.Call (.Name x p) (e::es) [] pos) (UZ r t):=by
 intro pins s σ H Q I h;refine wpAny_Call_Name_kw (jf I hg hm hv ?_ hn hdb);exact PyProof.Rows.callWith_builtin1 (cK (ha pos pins s σ H _ I h) λus s1 ⟨vs,H1,I1,r1,q1⟩=>hc pins s1 σ H1 vs us Q I1 r1 q1) he hpl
theorem kH(hc:cL X (.type T) r)(hg:Gl X x)(hm:X.mg x=none)(hv:bootBuiltins x=some (.type T))(ha:PA X (e::es) t)(hn:x ≠ "__name__")(hdb:(x==("__debug__":Str))=false)
  (he:starEach (e::es) X.env=(false,eval e X.env)::starEach es X.env) (hpl:(backTo pos (starEach es X.env)).any (·.1)=false):PE X (.Call (.Name x p) (e::es) [] pos) (UZ r t):=by
 intro pins s σ H Q I h;refine wpAny_Call_Name_kw (jf I hg hm hv ?_ hn hdb);exact PyProof.Rows.callWith_type1 (cK (ha pos pins s σ H _ I h) λus s1 ⟨vs,H1,I1,r1,q1⟩=>hc pins s1 σ H1 vs us Q I1 r1 q1) he hpl
end
end L2
namespace HT
open PySem PyProof.Rows
def lexLt:List Int->List Int->Bool
 |[],[]=>false
 |[],_::_=>true
 |_::_,[]=>false
 |x::xs,y::ys=>if x=y then lexLt xs ys else decide (x<y)
theorem gy(x y:Int)(xs ys:List Int):lexLt (x::xs) (y::ys)=if x=y then lexLt xs ys else decide (x<y):=rfl
theorem rj:lexLt [] []=false:=rfl
theorem gz(y:Int)(ys:List Int):lexLt [] (y::ys)=true:=rfl
theorem dW(x:Int)(xs:List Int):lexLt (x::xs) []=false:=rfl
section
variable {prog:Program} {w:World} {A:Around} {E:Value->Shared->Prop} {s:Shared}
def dS(n d:Nat):Option Int->Nat
 |none=>d
 |some v=>if v<0 then (v+(n:Int)).toNat else min v.toNat n
theorem Lf(n d:Nat)(hd:d<=n)(o:Option Int):dS n d o<=n:=by
 cases o with
 |none=>exact hd
 |some v=>
  show (if v<0 then (v+(n:Int)).toNat else min v.toNat n)<=n
  by_cases hv:v<0
  ·rw[Zg hv];omega
  ·rw[Zi hv];exact Nat.min_le_right _ _
theorem zo(v:Int)(n d:Nat):(if v<0 then max (v+(n:Int)) 0 else min v (n:Int))=((dS n d (some v):Nat):Int):=by
 show (if v<0 then max (v+(n:Int)) 0 else min v (n:Int))=(((if v<0 then (v+(n:Int)).toNat else min v.toNat n):Nat):Int)
 by_cases hv:v<0
 ·simp only[if_pos hv];omega
 ·simp only[if_neg hv];omega
theorem yk(lo hi:Option Int)(n:Nat):Builtin.Slice.sliceAdjust lo hi 1 (n:Int)=(((dS n 0 lo:Nat):Int),((dS n n hi:Nat):Int)):=by
 have h1:¬ ((1:Int)<0):=by omega
 unfold Builtin.Slice.sliceAdjust;simp only[h1,if_false];refine Prod.ext ?_ ?_
 ·cases lo with
  |none=>rfl
  |some v=>exact zo v n 0
 ·cases hi with
  |none=>rfl
  |some v=>exact zo v n n
theorem yl(i j:Nat):Builtin.Slice.slicePlaces (i:Int) (j:Int) 1=j-i:=by
 unfold Builtin.Slice.slicePlaces;have h1:(1:Int)>0:=by omega
 simp only[h1,if_true,Int.ediv_one]
 split<;>omega
theorem pO{o:Option Int}(p:IsPart v o)(h:Q o s):wpAny (model prog w) A (Builtin.Slice.slicePartIndex v) Q E s:=by
 cases p with
 |none=>exact slicePart_none h
 |int i t=>exact slicePart_int h
theorem m9{lo hi:Option Int}{n:Nat}(hs:s.heap.IsSliceOf sl vl vu .none)(pl:IsPart vl lo)(pu:IsPart vu hi)
  (h:Q (((dS n 0 lo:Nat):Int),1,dS n n hi-dS n 0 lo) s):wpAny (model prog w) A (Builtin.Slice.sliceApplied (.ref sl) (pure (n:Int))) Q E s:=by
 obtain⟨os,hos,hcs,hds⟩:=id hs;unfold Builtin.Slice.sliceApplied Builtin.Slice.sliceFields;refine Y8 (Y8 (wpAny_field hos hds (x:=vl) rfl (Y8 (wpAny_field hos hds (x:=vu) rfl (Y8 (wpAny_field hos hds (x:=.none) rfl (Zf ?_)))))));refine Y8 (slicePart_none ?_);show wpAny _ _ (if ((1:Int)==0)=true then _ else _) _ _ s;rw[Zi (by decide)];refine Y8 (pO pl (Y8 (pO pu (Y8 (Zf ?_)))));show wpAny _ _ (match Builtin.Slice.sliceAdjust lo hi 1 (n:Int) with|(lo,hi)=>pure (lo,(1:Int),Builtin.Slice.slicePlaces lo hi 1)) _ _ s;rw[yk lo hi n];show wpAny _ _ (pure (((dS n 0 lo:Nat):Int),(1:Int),Builtin.Slice.slicePlaces ((dS n 0 lo:Nat):Int) ((dS n n hi:Nat):Int) 1)) _ _ s;rw[yl];exact Zf h
theorem CP(xs:Array Value)(i k:Nat):((List.range k).filterMap λ(m:Nat)=>xs[((i:Int)+(m:Int)*1).toNat]?).toArray=((xs.toList.drop i).take k).toArray:=by
 have e:(λ(m:Nat)=>xs[((i:Int)+(m:Int)*1).toNat]?)=λm=>xs[i+m]?:=by
  funext m;have:((i:Int)+(m:Int)*1).toNat=i+m:=by omega
  rw[this]
 rw[e];have:=pick_run xs i k;rw[List.filterMap_map]at this;have e2:((λx=>xs[x]?)∘λx=>i+x)=λm=>xs[i+m]?:=rfl;rw[e2]at this;rw[this]
theorem lZ{lo hi:Option Int}(ht:IsTup s.heap t items)(hs:s.heap.IsSliceOf sl vl vu .none)(pl:IsPart vl lo)(pu:IsPart vu hi)
  (hw:¬ (dS items.size 0 lo=0/\dS items.size items.size hi=items.size))
  (h:Q (.ref s.heap.objs.size) { s with heap:=s.heap.push { cls:=.type "tuple",data:=.seq ((items.toList.drop (dS items.size 0 lo)).take (dS items.size items.size hi-dS items.size 0 lo)).toArray } })
  (hsz:items.size<=sizeLine):wpAny (model prog w) A (getItem (.ref t) (.ref sl)) Q E s:=by
 have zp:sizeOk (.seq ((items.toList.drop (dS items.size 0 lo)).take (dS items.size items.size hi-dS items.size 0 lo)).toArray):=by show ((items.toList.drop (dS items.size 0 lo)).take (dS items.size items.size hi-dS items.size 0 lo)).toArray.size<=sizeLine;rw[Zq,length_take,length_drop,ZH];omega
 have hj:dS items.size items.size hi<=items.size:=Lf _ _ (Zm _) hi;obtain⟨os,hos,hcs,hds⟩:=id hs;have Tf:s.TypeIs (.ref sl) "slice":=⟨os,hos,hcs⟩;unfold getItem
 try with_reducible refine wpAny_holding ?_
 first|refine Y8 (Zf ?_)|skip
 refine Y8 (wpAny_sequenceKey ht.typeIs (by decide) ?_);refine Y8 (wpAny_callSpecial?_slot (name:=Str.ofString "__getitem__") ht.typeIs PyProof.Rows.slot_tuple_getitem
  (wpAny_call_entry PyProof.Rows.slot_tuple_getitem ht.typeIs entry_tuple_getitem ?_ (args_tuple_getitem _ _)))
 show wpAny _ _ (Builtin.Tuple.tupleItemsOf (.ref t) >>= _) _ _ s;refine Y8 (tupleItemsOf_ ht ?_);refine Y8 (wpAny_typeOf Tf ?_);rw[Zg (by decide)];refine Y8 (m9 hs pl pu ?_);have hno:¬ ((((dS items.size 0 lo:Nat):Int)==0&&(1:Int)==1&&(dS items.size items.size hi-dS items.size 0 lo)==items.size)=true):=by intro q;rw[and_eq_true,and_eq_true]at q;have q1:((dS items.size 0 lo:Nat):Int)=0:=eq_of_beq q.1.1;have q2:dS items.size items.size hi-dS items.size 0 lo=items.size:=eq_of_beq q.2;exact hw ⟨by omega,by omega⟩
 show wpAny _ _ (if (((dS items.size 0 lo:Nat):Int)==0&&(1:Int)==1&&(dS items.size items.size hi-dS items.size 0 lo)==items.size)=true then _ else _) _ _ s;rw[Zi hno,CP]
 first
  |exact Y8 (m:=Builtin.Tuple.tupleExact _) (ZJ (Zf ⟨_,rfl,Zf h⟩) zp)
  |exact Y8 (m:=Builtin.Tuple.tupleExact _) (ZJ (Y8 (Zf (Zf ⟨_,rfl,Zf h⟩))) zp)
  |exact Y8 (Y8 (m:=Builtin.Tuple.tupleExact _) (ZJ (Zf (Zf ⟨_,rfl,Zf h⟩)) zp))
  |exact Y8 (Y8 (m:=Builtin.Tuple.tupleExact _) (ZJ (Zf ⟨_,rfl,Zf h⟩) zp))
end
end HT
namespace L2
open PySem PySem.Spec PyProof.Rows
abbrev TO:=St->Hp->(Option Int->Hp->Prop)->Prop
def PO(X:Cx)(e:Option Expr)(t:TO):Prop :=
 ∀(pins:List (Addr×Obj)) (s:Shared) (σ:St) (H:Hp) (Q:Option Int->Hp->Prop),Inv X pins σ H s->t σ H Q ->
  wpAny (model X.prog X.w) X.A (evalPart e X.env) (λu s'=>∃o H',Inv X pins σ H' s'/\IsPart u o/\Q o H') X.xe s
def Hh:TO:=λ_ H Q=>Q none H
def Pe(t:TE):TO:=λσ H Q=>t σ H λx H1=>∃i,x=.int i/\Q (some i) H1
theorem intsAre_of{ns:List Int}:∀{us:List Value},Vals (ns.map V.int) us->IntsAre us ns:=by
 induction ns with
 |nil=>intro us r;rw[map_nil]at r;cases r;exact .nil
 |cons n ns ih=>
  intro us r;rw[Zo]at r;cases r with
  |cons r1 r2=>obtain⟨t,e⟩:=r1;subst e;exact .cons n t (ih r2)
section
variable {X:Cx} {e:Expr} {te:TE} {lo hi:Option Expr} {tl th:TO} {pos p2:Pos}
theorem Hi:PO X none Hh:=by
 intro pins s σ H Q I h;rw[evalPart_none];exact Zf ⟨none,H,I,.none,h⟩
theorem Hj(h:PE X e te):PO X (some e) (Pe te):=by
 intro pins s σ H Q I hw;rw[evalPart_some];refine cK (h pins s σ H _ I hw) λu s1 aO=>?_;obtain⟨x,H1,I1,r1,q1⟩:=aO;obtain⟨i,rfl,q⟩:=q1;obtain⟨t,rfl⟩:=r1;exact⟨some i,H1,I1,.int i t,q⟩
def Sg(X:Cx)(r:V->Option Int->Option Int->Hp->VK->Prop):Prop :=
 ∀(pins:List (Addr×Obj)) (s:Shared) (σ:St) (H:Hp) (x:V) (v vl vu:Value) (lo hi:Option Int) (sl:Addr) (Q:VK),Inv X pins σ H s->RelV x v->s.heap.IsSliceOf sl vl vu .none->IsPart vl lo->IsPart vu hi->r x lo hi H Q ->
  ∃T id,typeLookup (.type T) "__getitem__" = pure (some (.builtin id))/\s.TypeIs v T/\wpAny (model X.prog X.w) X.A (getItem v (.ref sl)) (EP X pins σ Q) X.xe s
def Wx(r:V->Option Int->Option Int->Hp->VK->Prop)(te:TE)(tl th:TO):TE:=λσ H Q=>te σ H λx H1=>tl σ H1 λl H2=>th σ H2 λu H3=>r x l u H3 Q
theorem CQ(hr:Sg X r)(he:PE X e te)(hl:PO X lo tl)(hu:PO X hi th):PE X (.Subscript e (.Slice lo hi none p2) pos) (Wx r te tl th):=by
 intro pins s σ H Q I h;refine Subscript_ (cK (he pins s σ H _ I h) λv s1 aO=>?_);obtain⟨x,H1,I1,r1,q1⟩:=aO;refine wpAny_Slice (cK (hl pins s1 σ H1 _ I1 q1) λvl s2 ⟨l,H2,I2,pl,q2⟩=>cK (hu pins s2 σ H2 _ I2 q2) λvu s3 aO=>?_);obtain⟨u,H3,I3,pu,q3⟩:=aO;rw[evalPart_none];refine Zf ?_;have I4:Inv X pins σ H3 { s3 with heap:=s3.heap.push { cls:=.type "slice",data:=.fields [vl,vu,.none].toArray } }:=I3.kept (t':=s3.toks) λb ob q=>Zc _ q;obtain⟨T,id,hT,ht,hg⟩:=hr pins { s3 with heap:=s3.heap.push { cls:=.type "slice",data:=.fields [vl,vu,.none].toArray } } σ H3 x v vl vu l u s3.heap.objs.size Q I4 r1 (Heap.IsSliceOf.new ..) pl pu q3;show wpAny (model X.prog X.w) X.A (subscriptTail e (.Slice lo hi none p2) v (.ref s3.heap.objs.size)) (EP X pins σ Q) X.xe { s3 with heap:=s3.heap.push { cls:=.type "slice",data:=.fields [vl,vu,.none].toArray } };exact tail_any (ops:=[.ref s3.heap.objs.size,v]) ht hT hg (by with_unfolding_all rfl)
def vq(xs:List V)(lo hi:Option Int):List V:=(xs.drop (HT.dS xs.length 0 lo)).take (HT.dS xs.length xs.length hi-HT.dS xs.length 0 lo)
theorem nW(xs:List V)(lo hi:Option Int):(vq xs lo hi).length<=xs.length:=by
 unfold vq;rw[length_take,length_drop];omega
def Tg(K:Frag):V->Option Int->Option Int->Hp->VK->Prop:=λx lo hi H Q=>∃a xs,x=.ref a/\jO K H a xs /\
 ¬ (HT.dS xs.length 0 lo=0/\HT.dS xs.length xs.length hi=xs.length)/\∀p,H p=none->Q (.ref p) (upd H p (.tup (vq xs lo hi)))
theorem Lg:Sg X (Tg X.K):=by
 intro pins s σ H x v vl vu lo hi sl Q I rx hs pl pu h;obtain⟨a,xs,rfl,hx,hw,q⟩:=h;cases rx;obtain⟨its,r,ht,hz⟩:=I.tuple hx;have hlen:its.toArray.size=xs.length:=by rw[Zq];exact r.length.symm
 refine⟨"tuple",_,PyProof.Rows.slot_tuple_getitem.lookup,ht.typeIs,?_⟩;refine HT.lZ ht hs pl pu (by rw[hlen];exact hw) ?_ (by rw[hlen];exact hz);rw[hlen];refine⟨.ref s.heap.objs.size,_,I.laid (t':=s.toks) (o:=.tup (vq xs lo hi)) (λb ob q=>Zc _ q) (Zm _) ?_,rfl,q _ (I.hok.fresh (Zm _))⟩;exact⟨ZE (nW xs lo hi) hz,_,(r.drop (HT.dS xs.length 0 lo)).take (HT.dS xs.length xs.length hi-HT.dS xs.length 0 lo),IsTup.new _ _⟩
end
def JV(n:Nat)(i:Int):Option Nat:=if 0<=i then (if i<n then some i.toNat else none) else if -(n:Int)<=i then some (i+n).toNat else none
def ji{α:Type}(xs:List α)(i:Int):Option α:=(JV xs.length i).bind λj=>xs[j]?
theorem Hl{n:Nat}{i:Int}{j:Nat}(h:JV n i=some j):seqIndex? i n=some j/\j<n /\ -(n:Int)<=i/\i<n:=by
 unfold JV at h
 by_cases h0:0<=i
 ·rw[Zg h0]at h
  by_cases h1:i<n
  ·rw[Zg h1]at h;have e:i.toNat=j:=ZI h;exact⟨by rw[seqIndex_of h0 h1,e],by omega,by omega,h1⟩
  ·rw[Zi h1]at h;cases h
 ·rw[Zi h0]at h
  by_cases h1:-(n:Int)<=i
  ·rw[Zg h1]at h;have e:(i+n).toNat=j:=ZI h;exact⟨by rw[seqIndex_neg (by omega) h1,e],by omega,h1,by omega⟩
  ·rw[Zi h1]at h;cases h
theorem zq{α:Type}{xs:List α}{i:Int}{v:α}(h:ji xs i=some v):∃j,seqIndex? i xs.length=some j/\xs[j]?=some v/\j<xs.length /\ -(xs.length:Int)<=i/\i<xs.length:=by
 unfold ji at h;cases e:JV xs.length i with
 |none=>rw[e]at h;cases h
 |some j=>rw[e]at h;obtain⟨h1,h2,h3,h4⟩:=Hl e;exact⟨j,h1,h,h2,h3,h4⟩
theorem l0{α:Type}{xs:List α}{j:Nat}{v:α}(h:xs[j]?=some v):ji xs (j:Int)=some v:=by
 have hj:j<xs.length:=(Zb.mp h).1;have e:JV xs.length (j:Int)=some j:=by unfold JV;rw[Zg (by omega),Zg (by omega)];simp
 unfold ji;rw[e];exact h
def zu(b:Expr):Prop:=∀o i,subscripted b false o i=operate [o,i] (getItem o i)
def Pf(X:Cx)(r:R2):Prop :=
 ∀(value slice:Expr) (pins:List (Addr×Obj)) (s:Shared) (σ:St) (H:Hp) (x y:V) (v u:Value) (Q:VK),Inv X pins σ H s->RelV x v->RelV y u->r x y H Q ->
  subscripted slice false v u=operate [v,u] (getItem v u)->wpAny (model X.prog X.w) X.A (subscriptTail value slice v u) (EP X pins σ Q) X.xe s
def Lh(X:Cx)(id:String)(r:V->List V->Hp->VK->Prop):Prop :=
 ∀(pins:List (Addr×Obj)) (s:Shared) (σ:St) (H:Hp) (x:V) (xs:List V) (v:Value) (us:List Value) (Q:VK),Inv X pins σ H s->RelV x v->Vals xs us->r x xs H Q ->
  wpAny (model X.prog X.w) X.A (call (.builtin id) (v::us)) (EP X pins σ Q) X.xe s
section
variable {X:Cx} {a b:Expr} {ta tb:TE} {pos:Pos}
theorem Pg(hr:Pf X r)(ha:PE X a ta)(hb:PE X b tb)(hs:zu b):PE X (.Subscript a b pos) (Se r ta tb):=by
 intro pins s σ H Q I h;exact Subscript_ (K0 ha hb I h λv u s2 x y H2 I2 rx ry q=>hr a b pins s2 σ H2 x y v u Q I2 rx ry q (hs _ _))
def Th(K:Frag):R2:=λx y H Q=>∃p xs i v,x=.ref p/\y=.int i/\gm K H p xs/\ji xs i=some v/\Q v H
def Ti(K:Frag):R2:=λx y H Q=>∃p xs i v,x=.ref p/\y=.int i/\jO K H p xs/\ji xs i=some v/\Q v H
theorem zv:Pf X (Th X.K):=by
 intro value slice pins s σ H x y v u Q I rx ry h hs;obtain⟨p,xs,i,z,rfl,rfl,hq,he,q⟩:=h;cases rx;obtain⟨t,rfl⟩:=ry;obtain⟨its,r,pl,hz⟩:=I.list hq;obtain⟨j,h1,h2,h3,h4,h5⟩:=zq he;obtain⟨w,ew,rw'⟩:=r.get h2;have hl:=r.length;have hn:=tY;have fin:EP X pins σ Q w s:=⟨z,H,I,rw',q⟩
 by_cases h0:0<=i
 ·have hj:i.toNat=j:=by
   rw[seqIndex_of h0 h5]at h1;exact ZI h1
  exact item_listR pl.isList h0 (by omega) (by rw[hj];simpa using ew) fin hs
 ·have hj:(i+(its.toArray.size:Int)).toNat=j:=by
   rw[seqIndex_neg (by omega) h4]at h1;rw[Zq,<-hl];exact ZI h1
  exact subscriptTail_builtinR (x:=w) pl.isList.typeIs slot_list_getitem.lookup
   (wpAny_getItem_list_neg (Q:=λr s'=>r=w/\EP X pins σ Q r s') pl.isList (by omega) (by rw[Zq]<;>omega) (by omega) (by rw[hj];simpa using ew) ⟨rfl,fin⟩) hs
theorem Li:Pf X (Ti X.K):=by
 intro value slice pins s σ H x y v u Q I rx ry h hs;obtain⟨p,xs,i,z,rfl,rfl,hq,he,q⟩:=h;cases rx;obtain⟨t,rfl⟩:=ry;obtain⟨its,r,pl,hz⟩:=I.tuple hq;obtain⟨j,h1,h2,h3,h4,h5⟩:=zq he;obtain⟨w,ew,rw'⟩:=r.get h2;have hl:=r.length;have hn:=tY;have fin:EP X pins σ Q w s:=⟨z,H,I,rw',q⟩;exact subscriptTail_builtinR (x:=w) pl.typeIs slot_tuple_getitem.lookup
  (getItem_tuple (j:=j) (Q:=λr s'=>r=w/\EP X pins σ Q r s') pl (by omega) (by omega) (by rw[Zq,<-hl];exact h1) (by simpa using ew) ⟨rfl,fin⟩) hs
theorem t9(lo hi:Option Int)(n:Nat):(sliceBounds lo hi none n).1=((HT.dS n 0 lo:Nat):Int)/\(sliceBounds lo hi none n).2.1=((HT.dS n n hi:Nat):Int)/\(sliceBounds lo hi none n).2.2=1:=by
 refine⟨?_,?_,rfl⟩
 ·cases lo with
  |none=>simp[sliceBounds,HT.dS]
  |some i=>
   simp only[sliceBounds,HT.dS,getD_none,show (1:Int)>0 by decide,if_true]
   by_cases h:i<0
   ·simp only[h,if_true]<;>omega
   ·simp only[h,if_false]<;>omega
 ·cases hi with
  |none=>simp[sliceBounds,HT.dS]
  |some i=>
   simp only[sliceBounds,HT.dS,getD_none,show (1:Int)>0 by decide,if_true]
   by_cases h:i<0
   ·simp only[h,if_true]<;>omega
   ·simp only[h,if_false]<;>omega
theorem rm(its:List Value)(lo hi:Option Int):slicePick its.toArray lo hi none=((its.drop (HT.dS its.length 0 lo)).take (HT.dS its.length its.length hi-HT.dS its.length 0 lo)).toArray:=by
 obtain⟨h1,h2,h3⟩:=t9 lo hi its.toArray.size;unfold slicePick;rw[h1,h2,h3];simp only[sliceRange_one,pick_run,size_toArray]<;>rfl
def Tj(K:Frag):V->Option Int->Option Int->Hp->VK->Prop:=λx lo hi H Q=>∃a xs,x=.ref a/\gm K H a xs/\∀p,H p=none->Q (.ref p) (upd H p (.lst (vq xs lo hi)))
theorem Ho:Sg X (Tj X.K):=by
 intro pins s σ H x v vl vu lo hi sl Q I rx hs pl pu h;obtain⟨a,xs,rfl,hx,q⟩:=h;cases rx;obtain⟨its,r,ht,hz⟩:=I.list hx;have hlen:=r.length;refine⟨"list",_,slot_list_getitem.lookup,ht.isList.typeIs,?_⟩;refine wpAny_getItem_list_slice ht.isList hs pl pu .none (by simp) ?_ (by rw[Zq]<;>omega);rw[rm,<-hlen];refine⟨.ref s.heap.objs.size,_,I.laid (t':=s.toks) (o:=.lst (vq xs lo hi)) (λb ob q=>Zc _ q) (Zm _) ?_,rfl,q _ (I.hok.fresh (Zm _))⟩;exact⟨ZE (nW xs lo hi) hz,_,0,(r.drop (HT.dS xs.length 0 lo)).take (HT.dS xs.length xs.length hi-HT.dS xs.length 0 lo),Zr _ rfl⟩
def cC:V->Bool
 |.non=>true
 |.bl _=>true
 |.int _=>true
 |.str _=>true
 |_=>false
theorem ua:cL X (.type "list") (λxs H Q=>∃p ys,xs=[.ref p]/\(gm X.K H p ys\/jO X.K H p ys)/\∀l,H l=none->Q (.ref l) (upd H l (.lst ys))):=by
 intro pins s σ H xs us Q I r h;obtain⟨p,ys,rfl,hq,q⟩:=h;obtain⟨u,rfl,rx⟩:=vals1 r;cases rx;have fin:∀(its:List Value),Vals ys its->ys.length<=sizeLine->∀(h':Heap) (c':Nat),(∀b o',s.heap.get? b=some o'->h'.get? b=some o') ->
   h'.get? s.heap.objs.size=some { cls:=.type "list",dict:=none,data:=.seq its.toArray c',slots:=#[] }->EP X pins σ Q (.ref s.heap.objs.size) { s with heap:=h' }:=λits r' hz h' c' kp e=>
  ⟨.ref s.heap.objs.size,_,I.laid (t':=s.toks) kp (Zm _) (show cu X.prog X.w _ h' _ (.lst ys) from⟨hz,its,c',r',e⟩),rfl,q _ (I.hok.fresh (Zm _))⟩
 rcases hq with hq|hq
 ·obtain⟨its,r',pl,hz⟩:=I.list hq;have hlen:=r'.length;obtain⟨o,ho,hc,n,hd⟩:=pl.isList;exact call_list_seq p (.inl rfl) ho hc hd (λh' c' kp e=>fin its r' hz h' c' kp e) (by simp only[size_toArray]<;>omega)
 ·obtain⟨its,r',pl,hz⟩:=I.tuple hq;have hlen:=r'.length;obtain⟨o,ho,hc,n,hd⟩:=pl;exact call_list_seq p (.inr rfl) ho hc hd (λh' c' kp e=>fin its r' hz h' c' kp e) (by simp only[size_toArray]<;>omega)
def Sh(K:Frag)(T:String)(x:V)(H:Hp):Prop:=match x with
 |.str _=>T = "str"
 |.int _=>T = "int"
 | .ref p=>(T = "list" /\ ∃xs,gm K H p xs)\/(T = "tuple" /\ ∃o,K.lookup p=some o/\o.cls=.type "tuple" /\ o.dict=none) \/
   (T = "dict" /\ ((∃kvs,H p=some (.dK kvs))\/∃kvs,H p=some (.dT kvs)))\/(T = "set" /\ ∃S n,H p=some (.set S n))
 |_=>False
theorem CS{T:String}(I:Inv X pins σ H s)(r:RelV x v)(ty:Sh X.K T x H) :
  s.TypeIs v T/\∀a,v=.ref a->∃ob,s.heap.get? a=some ob/\ob.dict=none:=by
 cases x with
 |str z=>obtain⟨t,rfl⟩:=r;cases (show T = "str" from ty);exact⟨typeIs_str s z t,λ_ e=>nomatch e⟩
 |int i=>obtain⟨t,rfl⟩:=r;cases (show T = "int" from ty);exact⟨typeIs_int s i t,λ_ e=>nomatch e⟩
 |ref p=>
  cases r
  rcases ty with ⟨rfl,xs,hq⟩|⟨rfl,o,hk,hc,hd⟩|⟨rfl,hk⟩|⟨rfl,S,n,hk⟩
  ·obtain⟨its,_,pl,_⟩:=I.list hq;refine⟨pl.isList.typeIs,λa e=>?_⟩;cases e;obtain⟨o,n,e,c,hd,_⟩:=pl;exact⟨o,e,hd⟩
  ·refine⟨⟨o,I.oX p o hk,hc⟩,λa e=>?_⟩;cases e;exact⟨o,I.oX _ o hk,hd⟩
  ·have z:∃o,s.heap.get? p=some o/\o.ExactDict:=by
    rcases hk with ⟨kvs,hk⟩|⟨kvs,hk⟩
    ·obtain⟨_,_,_,_,o,_,_,e,ex,_⟩:=I.hok p _ hk;exact⟨o,e,ex⟩
    ·obtain⟨_,_,_,_,o,_,_,e,ex,_⟩:=I.hok p _ hk;exact⟨o,e,ex⟩
   obtain⟨o,e,ex⟩:=z;refine⟨⟨o,e,ex.1⟩,λa e2=>?_⟩;cases e2;exact⟨o,e,ex.2.1⟩
  ·obtain⟨o,_,_,_,e,ex,_⟩:=I.hok p _ hk;refine⟨⟨o,e,ex.1⟩,λa e2=>?_⟩;cases e2;exact⟨o,e,ex.2.1⟩
 |_=>exact False.elim ty
def tBM0(K:Frag)(T:String)(r:V->List V->Hp->VK->Prop)(to:TE):TE:=λσ H Q=>to σ H λx H1=>Sh K T x H1/\r x [] H1 Q
def U0(K:Frag)(T:String)(r:V->List V->Hp->VK->Prop)(to:TE)(t:TA):TE:=λσ H Q=>to σ H λx H1=>Sh K T x H1/\t σ H1 λxs H2=>r x xs H2 Q
variable {o e:Expr} {es:List Expr} {to:TE} {t:TA} {name:Str} {apos cpos:Pos} {T id:String} {r:V->List V->Hp->VK->Prop}
theorem Lj(pa:PlainAttrs T)(slot:Slot T name id)(hty:typeOf (.builtin id)=pure (.type "method_descriptor"))(hm:Lh X id r)(ho:PE X o to)
  (hbase:attributeBase o name X.env (eval o X.env)=eval o X.env) (hline:(apos.endLine==cpos.line)=true):PE X (.Call (.Attribute o name apos) [] [] cpos) (tBM0 X.K T r to):=by
 intro pins s σ H Q I h;refine wpAny_Call_method0_late hbase hline (cK (ho pins s σ H _ I h) λv s1 aO=>?_);obtain⟨x,H1,I1,r1,ty,q1⟩:=aO;obtain⟨h1,h2⟩:=CS I1 r1 ty;exact⟨T,id,pa,slot,hty,h1,h2,Calls.callWith_builtin rfl (PySem.evalArgs_none (hm pins s1 σ H1 x [] v [] Q I1 r1 .nil q1))⟩
theorem zw(pa:PlainAttrs T)(slot:Slot T name id)(hty:typeOf (.builtin id)=pure (.type "method_descriptor"))(hm:Lh X id r)(ho:PE X o to)(ha:PA X (e::es) t)
  (hbase:attributeBase o name X.env (eval o X.env)=eval o X.env)
  (hfew:((backTo cpos (starEach (e::es) X.env)).all (λx=>!x.1)&&(backToKw cpos (keywordEach [] X.env)).all (λx=>x.1.isSome)
   && decide ((e::es).length+([]:List Keyword).length+(if ([]:List Keyword).isEmpty then 0 else 1)<30))=true)
  (hline:(apos.endLine==cpos.line)=true) (hs:starEach (e::es) X.env=(false,eval e X.env)::starEach es X.env) (hplain:(backTo cpos (starEach es X.env)).any (·.1)=false) :
  PE X (.Call (.Attribute o name apos) (e::es) [] cpos) (U0 X.K T r to t):=by
 intro pins s σ H Q I h;refine wpAny_Call_method_late hbase hfew hline rfl (cK (ho pins s σ H _ I h) λv s1 aO=>?_);obtain⟨x,H1,I1,r1,ty,q1⟩:=aO;obtain⟨h1,h2⟩:=CS I1 r1 ty;refine⟨T,id,pa,slot,hty,h1,h2,?_⟩;have hA:=ha cpos pins s1 σ H1 _ I1 q1;rw[hs]at hA |-;refine Calls.callWith_builtin (by show (false||(backTo cpos (starEach es X.env)).any (·.1))=false;rw[hplain]<;>rfl) (Calls.evalArgs_plain ?_);exact cK hA λus s2 ⟨vs,H2,I2,r2,q2⟩=>hm pins s2 σ H2 x vs v us Q I2 r1 r2 q2
/- xs.append(e),list.index on a Ph tuple .. are Lh facts of 06m -/
end
def Si(X:Cx)(id:String)(r:V->List V->Hp->VK->Prop):Prop :=
 ∀(pins:List (Addr×Obj)) (s:Shared) (σ:St) (H:Hp) (x:V) (xs:List V) (v:Value) (us:List Value) (Q:VK),Inv X pins σ H s->RelV x v->Vals xs us->r x xs H Q ->
  wpAny (model X.prog X.w) X.A (call (.builtin id) (v::us)) (EP X pins σ Q) X.xe s
theorem Vals.one:∀{x:V} {us:List Value},Vals [x] us->∃u,us=[u]/\RelV x u
 |_,_,.cons r .nil=>⟨_,rfl,r⟩
theorem Vals.zero:∀{us:List Value},Vals [] us->us=[]
 |_,.nil=>rfl
theorem Vals.eraseIdx:∀{xs:List V} {us:List Value} (i:Nat),Vals xs us->Vals (xs.eraseIdx i) (us.eraseIdx i)
 |_,_,_,.nil=>.nil
 |_,_,0,.cons _ t=>t
 |_,_,i+1,.cons r t=>.cons r (Vals.eraseIdx i t)
theorem rX{α:Type}:∀(l:List α) (i:Nat),(l.eraseIdx i).length<=l.length
 |[],_=>Zm _
 |_::_,0=>le_succ _
 |_::r,i+1=>Nat.succ_le_succ (rX r i)
section
variable {X:Cx} {pins:List (Addr×Obj)} {σ:St} {H:Hp} {s:Shared} {l b:Addr} {xs ys zs:List V}
theorem Inv.Hq{its its':List Value}{n:Nat}{f:Array Value->Array Value}{t':Nat}(I:Inv X pins σ H s)(hH:H l=some (.lst xs))
  (e:s.heap.get? l=some { cls:=.type "list",data:=.seq its.toArray n }) (hf:f its.toArray=its'.toArray) (hv:Vals ys its') (hz:ys.length<=sizeLine) :
  Inv X pins σ (upd H l (.lst ys)) { s with heap:=s.heap.update l (Obj.mapSeq f),toks:=t' }:=by
 have q:=PySem.IsL.update e f;rw[hf]at q;refine I.write (x:=l) (e:=l) (by rw[hH];exact trivial) (.inl rfl) (λb' u hb hu=>(Heap.get?_update_other s.heap (Obj.mapSeq f) (Ne.symm hb)).trans hu) ⟨_,q⟩ ?_;exact⟨hz,its',_,hv,q⟩
theorem Inv.Tn{t':Nat}(I:Inv X pins σ H s)(hv:Vals ys its)(hz:ys.length<=sizeLine) :
  Inv X pins σ (upd H s.heap.objs.size (.lst ys)) { s with heap:=s.heap.push { cls:=.type "list",data:=.seq its.toArray },toks:=t' } :=
 I.laid (λ_ _ q=>Zc _ q) (Zm _) ⟨hz,its,0,hv,Zr _ rfl⟩
theorem Inv.Hr(I:Inv X pins σ H s)(hH:H l=some (.lst xs)):xs.length<=sizeLine/\∃(its:List Value) (n:Nat),Vals xs its/\xs.length=its.length/\s.heap.get? l=some { cls:=.type "list",data:=.seq its.toArray n }:=by
 obtain⟨z,its,n,r,e⟩:=I.hok l _ hH;exact⟨z,its,n,r,r.length,e⟩
theorem CT{n:Nat}(h:n<=sizeLine):Builtin.List.listTooLong n=false:=by
 unfold Builtin.List.listTooLong;exact decide_eq_false (by omega)
end
section
variable {X:Cx}
def Ht:V->List V->Hp->VK->Prop:=λx vs H Q=>∃l xs y,x=.ref l/\vs=[y]/\H l=some (.lst xs)/\xs.length<sizeLine/\Q .non (upd H l (.lst (xs++[y])))
theorem rY:Si X "list.append" Ht:=by
 intro pins s σ H x vs v us Q I rx rv h;obtain⟨l,xs,y,rfl,rfl,hH,hz,q⟩:=h;cases rx;obtain⟨u,rfl,ru⟩:=rv.one;obtain⟨z,its,n,r,hl,e⟩:=I.Hr hH;refine call_meets F.slot_list_append ⟨_,e,rfl⟩ F.entry_list_append (F.args_list_append_2 _ _) (PySem.list_append l its.toArray n u (by rw[Zq];omega)) ⟨e,?_⟩;refine⟨.non,_,I.Hq (its':=its++[u]) hH e (by simp) (r.append #[ru]) ?_,rfl,q⟩;rw[ZA,length_singleton];omega
def Lk:V->List V->Hp->VK->Prop:=λx vs H Q=>∃l xs,x=.ref l/\vs=[]/\H l=some (.lst xs)/\Q .non (upd H l (.lst []))
theorem CU:Si X "list.clear" Lk:=by
 intro pins s σ H x vs v us Q I rx rv h;obtain⟨l,xs,rfl,rfl,hH,q⟩:=h;cases rx;have Wy:=rv.zero;subst Wy;obtain⟨z,its,n,r,hl,e⟩:=I.Hr hH;refine call_meets F.slot_list_clear ⟨_,e,rfl⟩ F.entry_list_clear (F.args_list_clear_1 _) (AutoSeq1.list_clear_list_0 l its.toArray n (by rw[Zq];omega)) ⟨e,?_⟩;exact⟨.non,_,I.Hq (its':=[]) (ys:=[]) hH e rfl .nil (zero_le _),rfl,q⟩
end
section
variable {κ:Type} [DecidableEq κ]
def jj(kvs:List (κ × V))(k:κ):Option V:=(kvs.find? λkv=>decide (kv.1=k)).map (·.2)
def putK(kvs:List (κ × V))(k:κ)(v:V):List (κ × V) :=
 if (kvs.any λkv=>decide (kv.1=k))=true then kvs.map (λkv=>if kv.1=k then (kv.1,v) else kv) else kvs++[(k,v)]
theorem pP{p:κ × V}{r:List (κ × V)}{k:κ}(e:p.1=k):jj (p::r) k=some p.2:=by simp[jj,find?_cons,e]
theorem pQ{p:κ × V}{r:List (κ × V)}{k:κ}(e:¬ p.1=k):jj (p::r) k=jj r k:=by simp[jj,find?_cons,e]
theorem vt(k:κ):∀kvs:List (κ × V),(kvs.any λkv=>decide (kv.1=k))=(jj kvs k).isSome
 |[]=>rfl
 | p::r=>by
  rw[any_cons]
  by_cases e:p.1=k
  ·simp only[pP e,decide_eq_true e,Bool.true_or,Option.isSome_some]
  ·rw[pQ e,decide_eq_false e,Bool.false_or];exact vt k r
theorem jS(kvs:List (κ × V))(k:κ)(v:V):(putK kvs k v).length<=kvs.length+1:=by
 unfold putK
 split
 ·rw[Ze];omega
 ·rw[ZA,ZC,length_nil];omega
theorem jF.Bf(r:jF o u):o.isSome=u.isSome:=by
 cases o with
 | none=>cases u with
  |none=>rfl
  |some _=>exact(show False from r).elim
 | some _=>cases u with
  |none=>exact(show False from r).elim
  |some _=>rfl
theorem jF.getD(r:jF o u)(rd:RelV d d'):RelV (o.getD d) (u.getD d'):=by
 cases o with
 | none=>cases u with
  |none=>exact rd
  |some _=>exact(show False from r).elim
 | some _=>cases u with
  |none=>exact(show False from r).elim
  |some _=>exact r
theorem KV.val(r:KV kvs vs)(k:κ):jF (jj kvs k) (valueAt vs k):=by
 unfold KV at r
 induction r with
 |nil=>exact True.intro
 |@cons p q ps qs h t ih=>
  obtain⟨h1,h2⟩:=h
  by_cases e:p.1=k
  ·have e':q.1=k:=h1.symm.trans e
   have b:valueAt (q::qs) k=some q.2:=by simp[valueAt,find?_cons,e']
   rw[pP e,b];exact h2
  ·have e':¬ q.1=k:=λz=>e (h1.trans z)
   have b:valueAt (q::qs) k=valueAt qs k:=by simp[valueAt,find?_cons,e']
   rw[pQ e,b];exact ih
theorem KV.any(r:KV kvs vs)(k:κ):(kvs.any λkv=>decide (kv.1=k))=vs.any λkv=>decide (kv.1=k):=by
 unfold KV at r
 induction r with
 |nil=>rfl
 |cons h t ih=>rw[any_cons,any_cons,ih,h.1]
theorem KV.repl(r:KV kvs vs)(k:κ)(ry:RelV y u) :
  KV (kvs.map λkv=>if kv.1=k then (kv.1,y) else kv) (vs.map λkv=>if kv.1=k then (kv.1,u) else kv):=by
 unfold KV at r |-
 induction r with
 |nil=>exact .nil
 |@cons p q ps qs h t ih=>
  rw[Zo,Zo];refine .cons ?_ ih;obtain⟨h1,h2⟩:=h
  by_cases e:p.1=k
  ·rw[Zg e,Zg (h1.symm.trans e)];exact⟨h1,ry⟩
  ·rw[Zi e,Zi (λz=>e (h1.trans z))];exact⟨h1,h2⟩
theorem KV.put(r:KV kvs vs)(k:κ)(ry:RelV y u):KV (putK kvs k y) (stored vs k u):=by
 unfold putK stored;rw[r.any k]
 by_cases e:(vs.any λkv=>decide (kv.1=k))=true
 ·rw[Zg e,Zg e];exact r.repl k ry
 ·rw[Zi e,Zi e];exact Paired.snoc r ⟨rfl,ry⟩
theorem KV.length(r:KV kvs vs):kvs.length=vs.length:=Paired.length r
end
theorem vv(r:RelV (kV k) u):(bA P w).is k u=true:=by
 cases k with
 |inl i=>obtain⟨t,e⟩:=(show ∃t,u=Value.int i t from r);subst e;exact ve P w i t
 |inr x=>obtain⟨t,e⟩:=(show ∃t,u=Value.str x t from r);subst e;exact vf P w x t
theorem rZ:∀{ks:List Key} {us:List Value},Vals (ks.map kV) us->ItemsAre (bA P w) ks us
 |[],_,r=>by rw[map_nil]at r;cases r;exact .nil
 | k::ks,_,r=>by
  rw[Zo]at r;cases r with
  |cons h t=>exact .cons (vv h) (rZ t)
abbrev KT(H:Hp):List (List Key×V)->List (List Key×Addr×Value)->Prop:=Paired λp q=>p.1=q.1/\H q.2.1=some (.tup (p.1.map kV))/\RelV p.2 q.2.2
theorem KT.val(r:KT H kvs xs)(k:List Key):jF (jj kvs k) ((atKey xs k).map (·.2)):=by
 induction r with
 |nil=>exact True.intro
 |@cons p q ps qs h t ih=>
  obtain⟨h1,_,h2⟩:=h
  by_cases e:p.1=k
  ·have e':q.1=k:=h1.symm.trans e
   have b:atKey (q::qs) k=some q.2:=by simp[atKey,find?_cons,e']
   rw[pP e,b];exact h2
  ·have e':¬ q.1=k:=λz=>e (h1.trans z)
   have b:atKey (q::qs) k=atKey qs k:=by simp[atKey,find?_cons,e']
   rw[pQ e,b];exact ih
theorem KT.repl(r:KT H kvs xs)(k:List Key)(ry:RelV y u) :
  KT H (kvs.map λkv=>if kv.1=k then (kv.1,y) else kv) (xs.map (putAt k u)):=by
 induction r with
 |nil=>exact .nil
 |@cons p q ps qs h t ih=>
  rw[Zo,Zo];refine .cons ?_ ih;obtain⟨h1,h2,h3⟩:=h;unfold putAt
  by_cases e:p.1=k
  ·rw[Zg e,Zg (h1.symm.trans e)];exact⟨h1,h2,ry⟩
  ·rw[Zi e,Zi (λz=>e (h1.trans z))];exact⟨h1,h2,h3⟩
theorem KT.put(r:KT H kvs xs)(k:List Key)(hb:H b=some (.tup (k.map kV)))(ry:RelV y u) :
  KT H (putK kvs k y) (storedH xs k b u):=by
 have e:(kvs.any λkv=>decide (kv.1=k))=(atKey xs k).isSome:=by rw[vt,(r.val k).Bf,Option.isSome_map]
 unfold putK storedH;rw[e]
 by_cases q:(atKey xs k).isSome=true
 ·rw[Zg q,Zg q];exact r.repl k ry
 ·rw[Zi q,Zi q];exact Paired.snoc r ⟨rfl,hb,ry⟩
theorem KT.keeps(r:KT H kvs xs)(ht:∀b ys,H b=some (.tup ys)->H' b=some (.tup ys)):KT H' kvs xs :=
 Paired.Kw r λ_ _ z=>⟨z.1,ht _ _ z.2.1,z.2.2⟩
section
variable {P:Program} {w:World} {H:Hp} {h:Heap} {a:Addr}
theorem JW(ok:lU P w H h)(e:Rd H a u):cu P w H h a u:=e.ok ok
theorem r8(ok:lU P w H h)(e:Rd H a (.dK kvs)):kvs.length<=sizeLine/\(a==sysModules)=false/\∃vs,KV kvs vs/\h.DictOf (bA P w) a vs :=
 show cu P w H h a (.dK kvs) from JW ok e
theorem CV(ok:lU P w H h)(e:H a=some (.dK kvs)):kvs.length<=sizeLine/\(a==sysModules)=false/\∃vs,KV kvs vs/\h.DictOf (bA P w) a vs:=r8 ok (.inl e)
theorem uc(ok:lU P w H h)(e:H a=some (.tup (ks.map kV))):(tupleKind (bA P w)).is h ks a:=by
 obtain⟨_,its,r,o,h1,h2,n,h3⟩:=(show cu P w H h a (.tup (ks.map kV)) from ok a _ e);exact⟨o,its.toArray,n,h1,h2,h3,by simpa using rZ r⟩
theorem vz(ok:lU P w H h)(e:Rd H a (.dT kvs)):kvs.length<=sizeLine/\(a==sysModules)=false /\
  ∃xs,KT H kvs xs/\h.DictOfH (tupleKind (bA P w)) a xs:=by
 obtain⟨z,y,xs,r,o,es,ep,h1,h2,h3,h4,h5⟩:=(show cu P w H h a (.dT kvs) from JW ok e);refine⟨z,y,xs,r,o,es,ep,h1,h2,h3,h4,λx hx=>?_,h5⟩;have all:∀{l:List (List Key×V)} {m:List (List Key×Addr×Value)},KT H l m->∀x∈m,(tupleKind (bA P w)).is h x.1 x.2.1:=by
  intro l m q
  induction q with
  |nil=>intro x hx;exact nomatch hx
  |@cons p q ps qs hq t ih=>
   intro x hx
   rcases Zw.mp hx with e|hx
   ·subst e;exact uc ok (by rw[<-hq.1];exact hq.2.1)
   ·exact ih x hx
 exact all r x hx
theorem Pj(ok:lU P w H h)(e:H a=some (.dT kvs)):kvs.length<=sizeLine/\(a==sysModules)=false /\
  ∃xs,KT H kvs xs/\h.DictOfH (tupleKind (bA P w)) a xs:=vz ok (.inl e)
end
def rq(H:Hp)(a:Addr)(y:V)(r:Option V):Prop :=
 (∃kvs k,Rd H a (.dK kvs)/\y=kV k/\r=jj kvs k)\/∃kvs k b,Rd H a (.dT kvs)/\y=.ref b/\H b=some (.tup (k.map kV))/\r=jj kvs k
def Hu(H:Hp)(a:Addr)(y v:V)(H':Hp):Prop :=
 (∃kvs k,H a=some (.dK kvs)/\y=kV k/\kvs.length<sizeLine/\H'=upd H a (.dK (putK kvs k v))) \/
 ∃kvs k b,H a=some (.dT kvs)/\y=.ref b/\H b=some (.tup (k.map kV))/\kvs.length<sizeLine/\H'=upd H a (.dT (putK kvs k v))
theorem rq.k{H:Hp}{a:Addr}{kvs:List (Key×V)}{k:Key}(e:H a=some (.dK kvs)):rq H a (kV k) (jj kvs k):=.inl ⟨kvs,k,.inl e,rfl,rfl⟩
theorem Hu.k{H:Hp}{a:Addr}{kvs:List (Key×V)}{k:Key}{v:V}(e:H a=some (.dK kvs))(hl:kvs.length<sizeLine):Hu H a (kV k) v (upd H a (.dK (putK kvs k v))):=.inl ⟨kvs,k,e,rfl,hl,rfl⟩
section
variable {X:Cx} {pins:List (Addr×Obj)} {σ:St} {H:Hp} {s:Shared} {a:Addr} {y v:V} {u r:Value} {o:Option V} {A:Around} {E:Value->Shared->Prop}
theorem Inv.big(I:Inv X pins σ H s):sysModules<s.heap.objs.size:=by
 have h:mainGlobals<s.heap.objs.size:=(I.mod.glob.keeps I.bk).lt;exact lt_trans (by decide) h
theorem Bg(hu:A.units+1<cLine)(I:Inv X pins σ H s)(g:rq H a y (some v))(ry:RelV y u)(h:∀w' s',Inv X pins σ H s'->RelV v w'->Q w' s') :
  wpAny (model X.prog X.w) A (getItem (.ref a) u) Q E s:=by
 rcases g with ⟨kvs,k,e,ey,l⟩|⟨kvs,k,b,e,ey,eb,l⟩
 ·subst ey;obtain⟨z,hd,vs,rel,dd⟩:=r8 I.hok e;obtain⟨w',hw,rw'⟩:=jF.some_of (v:=v) (o:=valueAt vs k) (by rw[l];exact rel.val k);exact wpAny_getItem_of (vv ry) dd.mapOf hw (h w' _ (I.tok _) rw')
 ·subst ey;cases (show u=Value.ref b from ry);obtain⟨z,hd,xs,rel,dd⟩:=vz I.hok e;obtain⟨w',hw,rw'⟩:=jF.some_of (v:=v) (o:=(atKey xs k).map (·.2)) (by rw[l];exact rel.val k);obtain⟨p,hp,hp2⟩:=ZL.mp hw;refine wpAny_getItem_heap (tupleKind_room_in1 hu) (uc I.hok eb) dd hp ?_;rw[hp2];exact h w' _ (I.tok _) rw'
theorem ud{t':Nat}(I:Inv X pins σ H s)(mu:Ox (H a))(hs:Heap.SameBut a s.heap h')(he:∃q,h'.get? a=some q)(new:cu X.prog X.w (upd H a ob) h' a ob) :
  Inv X pins σ (upd H a ob) { s with heap:=h',toks:=t' } :=
 I.write (x:=a) (e:=a) mu (.inl rfl) (λb q hb z=>(hs.2 b hb).trans z) he new
theorem CW(z:kvs.length<=sizeLine)(hd:(a==sysModules)=false)(rel:KV kvs vs)(dd:h'.DictOf (bA P w) a vs) :
  cu P w H' h' a (.dK kvs):=⟨z,hd,vs,rel,dd⟩
theorem Bh(hu:A.units+1<cLine)(I:Inv X pins σ H s)(g:Hu H a y v H')(ry:RelV y u)(rv:RelV v r)(h:∀s',Inv X pins σ H' s'->Q () s') :
  wpAny (model X.prog X.w) A (setItem (.ref a) u r) Q E s:=by
 rcases g with ⟨kvs,k,e,ey,l,eH⟩|⟨kvs,k,b,e,ey,eb,l,eH⟩
 ·subst ey eH
  obtain⟨z,hd,vs,rel,dd⟩:=CV I.hok e;have hz:vs.length<=sizeLine:=by rw[<-rel.length];exact z
  have hl:(putK kvs k v).length<=sizeLine:=by have:=jS kvs k v;omega
  refine wpAny_setItem_pairs (hsz:=hz) (vv ry) dd λh' Ll hs=>h _ ?_;have he:∃q,h'.get? a=some q:=let ⟨q,_,_,hq,_⟩:=Ll;⟨q,hq⟩
  exact ud I (by rw[e];exact True.intro) hs he (CW hl hd (rel.put k rv) Ll)
 ·subst ey eH
  cases (show u=Value.ref b from ry);obtain⟨z,hd,xs,rel,dd⟩:=Pj I.hok e;have hz:xs.length<=sizeLine:=by rw[<-Paired.length rel];exact z
  have hl:(putK kvs k v).length<=sizeLine:=by have:=jS kvs k v;omega
  refine wpAny_setItem_heap (hsz:=hz) (tupleKind_room_in1 hu) (uc I.hok eb) dd λh' Ll hs=>h _ ?_;obtain⟨q,es,ep,hq,h2,h3,h4,_,h5⟩:=Ll;refine ud I (by rw[e];exact True.intro) hs ⟨q,hq⟩ ⟨hl,hd,_,(rel.put k eb rv).keeps λc ys ec=>?_,q,es,ep,hq,h2,h3,h4,h5⟩;rw[aL (Ow ec e (λz=>nomatch z))];exact ec
end
section
variable {X:Cx} {pins:List (Addr×Obj)} {σ:St} {H:Hp} {s:Shared} {a:Addr} {kvs:List (Key×V)} {k:Key} {u:Value} {A:Around} {E:Value->Shared->Prop}
theorem Pk(I:Inv X pins σ H s)(e:Rd H a (.dK kvs))(h:∀t s',Inv X pins σ H s'->Q (.int kvs.length t) s'):wpAny (model X.prog X.w) A (call (.builtin "len") [.ref a]) Q E s:=by
 obtain⟨z,hd,vs,rel,dd⟩:=r8 I.hok e;refine call_len_dict hd dd (by rw[<-rel.length];rw[sizeLine_eq]at z;omega) ?_;rw[<-rel.length];exact h _ _ (I.tok _)
end
theorem vA(I:Inv X pins σ H s)(g:rq H a y o):s.TypeIs (.ref a) "dict":=by
 rcases g with ⟨kvs,k,e,_,_⟩|⟨kvs,k,b,e,_,_,_⟩
 ·obtain⟨_,_,vs,_,dd⟩:=r8 I.hok e;exact dd.typeIs
 ·obtain⟨_,_,xs,_,dd⟩:=vz I.hok e;exact dd.typeIs
theorem vB(h:Heap)(hb:sysModules<h.objs.size):cu P w H (h.push { cls:=.type "dict",data:=.dict #[] }) h.objs.size (.dK []) :=
 ⟨zero_le _,ZM.mpr (Ne.symm (Zt hb)),[],.nil,Heap.DictOf.new h⟩
def Lm:TE:=λ_ H Q=>∀p,H p=none->Q (.ref p) (upd H p (.dK []))
section
variable {X:Cx} {pos:Pos}
theorem CY:PE X (.Dict [] [] pos) Lm:=λpins s σ H Q I h=>
 wpAny_Dict_empty ⟨.ref s.heap.objs.size,_,I.laid (a:=s.heap.objs.size) (o:=.dK []) (t':=s.toks) (λ_ _ q=>Zc _ q) (Zm _) (vB s.heap I.big),rfl,h _ (I.hok.fresh (Zm _))⟩
end
def ym:List (TE×TE)->St->Hp->(List (V×V)->Hp->Prop)->Prop
 |[],_,H,Q=>Q [] H
 |(tk,tv)::r,σ,H,Q=>tk σ H λx H1=>tv σ H1 λy H2=>ym r σ H2 λps H3=>Q ((x,y)::ps) H3
abbrev VV:List (V×V)->List (Value×Value)->Prop:=Paired λp q=>RelV p.1 q.1/\RelV p.2 q.2
def Sj(X:Cx)(pos:Pos)(keys:List (Option Expr))(values:List Expr)(Lo:List (TE×TE)):Prop :=
 ∀(pins:List (Addr×Obj)) (s:Shared) (σ:St) (H:Hp) (Q:List (V×V)->Hp->Prop),Inv X pins σ H s->ym Lo σ H Q ->
  wpAny (model X.prog X.w) X.A (evalPairs (pairTrees keys values X.env pos)) (λvs s'=>∃ps H',Inv X pins σ H' s'/\VV ps vs/\Q ps H') X.xe s
theorem Hw:Sj X pos [] [] []:=λpins s σ H Q I h=>pairTrees_nil_walk ⟨[],H,I,.nil,h⟩
theorem CZ(hk:PE X k tk)(hv:PE X v tv)(hr:Sj X pos ks vs Lo) :
  Sj X pos (some k::ks) (v::vs) ((tk,tv)::Lo):=λpins s σ H Q I h=>
 pairTrees_cons_walk (cK (hk pins s σ H _ I h) λu s1 ⟨x,H1,I1,rx,q1⟩=>cK (hv pins s1 σ H1 _ I1 q1) λw2 s2 ⟨y,H2,I2,ry,q2⟩=>
  cK (hr pins s2 σ H2 _ I2 q2) λws s3 ⟨ps,H3,I3,rel,q3⟩=>⟨(x,y)::ps,H3,I3,.cons ⟨rx,ry⟩ rel,q3⟩)
def ng(kvs more:List (Key×V)):List (Key×V):=more.foldl (λacc kv=>putK acc kv.1 kv.2) kvs
theorem KV.merge:∀{more:List (Key×V)} {rs:List (Key×Value)} {kvs:List (Key×V)} {vs:List (Key×Value)},KV more rs->KV kvs vs->KV (ng kvs more) (merged vs rs):=by
 intro more rs kvs vs r;unfold KV at r
 induction r generalizing kvs vs with
 |nil=>intro q;exact q
 |@cons p q ps qs h t ih=>
  intro r0;have e:KV (putK kvs p.1 p.2) (stored vs q.1 q.2):=by have:=r0.put p.1 h.2;rw[<-h.1];exact this
  exact ih e
theorem kY:∀(more kvs:List (Key×V)),(ng kvs more).length<=kvs.length+more.length
 |[],kvs=>by show kvs.length<=kvs.length+0;omega
 | p::r,kvs=>by
  have h1:=kY r (putK kvs p.1 p.2);have h2:=jS kvs p.1 p.2;show (ng (putK kvs p.1 p.2) r).length<=_;rw[ZC];omega
theorem pR:∀{kvs:List (Key×V)} {ws:List (Value×Value)},VV (kvs.map λkv=>(kV kv.1,kv.2)) ws->∃rs,Carries (bA P w) ws rs/\KV kvs rs
 |[],_,r=>by rw[map_nil]at r;cases r;exact⟨[],True.intro,.nil⟩
 | p::kvs,_,r=>by
  rw[Zo]at r;cases r with
  |@cons a b as bs h t=>obtain⟨rs,c,q⟩:=pR (P:=P) (w:=w) t;obtain⟨b1,b2⟩:=b;exact⟨(p.1,b2)::rs,⟨vv h.1,rfl,c⟩,.cons ⟨rfl,h.2⟩ q⟩
def Pn(Lo:List (TE×TE)):TE:=λσ H Q=>∀p,H p=none->ym Lo σ (upd H p (.dK [])) λps H2=>H2 p=some (.dK [])/\∃kvs:List (Key×V),ps=kvs.map (λkv=>(kV kv.1,kv.2))/\kvs.length<=15/\Q (.ref p) (upd H2 p (.dK (ng [] kvs)))
theorem Hx(h:Sj X pos keys values Lo)(hall:keys.all (·.isSome)=true)(hl:keys.length=values.length)(h0:keys≠[])
  (Wz:keys.length<=15):PE X (.Dict keys values pos) (Pn Lo):=by
 intro pins s σ H Q I q;have hn:=I.hok.fresh (Zm s.heap.objs.size);have I1:=I.laid (a:=s.heap.objs.size) (o:=.dK []) (h':=s.heap.push { cls:=.type "dict",data:=.dict #[] }) (t':=s.toks) (λ_ _ q=>Zc _ q) (Zm _) (vB s.heap I.big);refine wpAny_Dict_walk (knd:=bA X.prog X.w) hall hl h0 Wz (cK (h pins _ σ _ _ I1 (q _ hn)) λws s2 aO=>?_);obtain⟨ps,H2,I2,rel,e,kvs,ep,lk,q2⟩:=aO;subst ep;obtain⟨rs,c,rk⟩:=pR (P:=X.prog) (w:=X.w) rel;obtain⟨z,hd,YT,r0,dd⟩:=CV I2.hok e;cases r0;refine⟨rs,c,dd,λh' Ll hs=>⟨.ref s.heap.objs.size,_,?_,rfl,q2⟩⟩;have hz:(ng [] kvs).length<=sizeLine:=by have h1:=kY kvs [];rw[length_nil]at h1;rw[sizeLine_eq];omega
 have he:∃q,h'.get? s.heap.objs.size=some q:=let ⟨q,_,_,hq,_⟩:=Ll;⟨q,hq⟩
 exact ud I2 (by rw[e];exact True.intro) hs he (CW hz hd (rk.merge .nil) Ll)
structure M2 (X:Cx) (o:Expr) (m:Str) (apos:Pos) (e f:Expr) (cpos:Pos):Prop where
 base:attributeBase o m X.env (eval o X.env)=eval o X.env
 few:((backTo cpos (starEach [e,f] X.env)).all (λx=>!x.1)&&(backToKw cpos (keywordEach [] X.env)).all (λx=>x.1.isSome)
  && decide (([e,f]:List Expr).length+([]:List Keyword).length+(if ([]:List Keyword).isEmpty then 0 else 1)<30))=true
 line:(apos.endLine==cpos.line)=true
 trees:backTo cpos (starEach [e,f] X.env)=[(false,eval e X.env),(false,eval f X.env)]
def U3(H:Hp)(a:Addr):Prop:=(∃kvs,Rd H a (.dK kvs))\/∃kvs,Rd H a (.dT kvs)
theorem C0(I:Inv X pins σ H s)(d:U3 H a) :
  s.TypeIs (.ref a) "dict" /\ (∀b,Value.ref a=.ref b->∃ob,s.heap.get? b=some ob/\ob.dict=none)/\(a==sysModules)=false:=by
 rcases d with ⟨kvs,e⟩|⟨kvs,e⟩
 ·obtain⟨_,hd,vs,_,dd⟩:=r8 I.hok e;refine⟨dd.typeIs,λb q=>?_,hd⟩;cases q;obtain⟨ob,_,_,h1,h2,_⟩:=dd;exact⟨ob,h1,h2.2.1⟩
 ·obtain⟨_,hd,xs,_,dd⟩:=vz I.hok e;refine⟨dd.typeIs,λb q=>?_,hd⟩;cases q;obtain⟨ob,_,_,h1,h2,_⟩:=dd;exact⟨ob,h1,h2.2.1⟩
section
variable {X:Cx} {pins:List (Addr×Obj)} {σ:St} {H:Hp} {s:Shared} {a:Addr} {y d:V} {u r:Value} {o:Option V} {A:Around} {E:Value->Shared->Prop}
theorem Lp(hu:A.units+1<cLine)(I:Inv X pins σ H s)(g:rq H a y o)(ry:RelV y u)(rd:RelV d r)(h:∀w' s',Inv X pins σ H s'->RelV (o.getD d) w'->Q w' s') :
  wpAny (model X.prog X.w) A (call (.builtin "dict.get") [.ref a,u,r]) Q E s:=by
 rcases g with ⟨kvs,k,e,ey,l⟩|⟨kvs,k,b,e,ey,eb,l⟩
 ·subst ey;obtain⟨z,hd,vs,rel,dd⟩:=r8 I.hok e;refine call_meetsIn PySem.F.slot_dict_get dd.typeIs PySem.F.entry_dict_get (PySem.F.args_dict_get_3 _ _ _) (meets_dict_get_default (bA X.prog X.w) a (vv ry) hd r) ⟨_,dd.mapOf,h _ _ (I.tok _) ?_⟩;rw[l];exact(rel.val k).getD rd
 ·subst ey;cases (show u=Value.ref b from ry);obtain⟨z,hd,xs,rel,dd⟩:=vz I.hok e;refine call_meetsIn PySem.F.slot_dict_get dd.typeIs PySem.F.entry_dict_get (PySem.F.args_dict_get_3 _ _ _) (meetsH_dict_get_default (tupleKind (bA X.prog X.w)) a b hd r) ⟨tupleKind_room_in1 hu,k,xs,uc I.hok eb,dd,h _ _ (I.tok _) ?_⟩;rw[l];exact(rel.val k).getD rd
end
def Lq(td ty tx:TE):TE:=λσ H Q=>td σ H λx H1=>∃a,x=.ref a/\U3 H1 a/\ty σ H1 λy H2=>tx σ H2 λz H3=>∃o,rq H3 a y o/\Q (o.getD z) H3
section
variable {X:Cx} {o e f:Expr} {apos cpos:Pos} {td ty tx:TE}
theorem C1(hu:X.A.units+1<cLine)(ho:PE X o td)(he:PE X e ty)(hf:PE X f tx)(m:M2 X o "get" apos e f cpos):PE X (.Call (.Attribute o "get" apos) [e,f] [] cpos) (Lq td ty tx):=by
 intro pins s σ H Q I h;refine wpAny_Call_method m.base m.few m.line PySem.F.plainAttrs_dict PySem.F.slot_dict_get PySem.F.type_dict_get (cK (ho pins s σ H _ I h) λu s1 aO=>?_);obtain⟨x,H1,I1,rx,a,ex,d,q1⟩:=aO;subst ex;obtain rfl:u=Value.ref a:=rx;obtain⟨t1,t2,_⟩:=C0 I1 d;refine⟨t1,t2,?_⟩;rw[m.trees];refine Calls.callWith_builtin rfl (Calls.evalArgs_plain (Calls.spliced_cons (cK (he pins s1 σ H1 _ I1 q1) λiv s2 ⟨y,H2,I2,ry,q2⟩=>
  Calls.spliced_cons (cK (hf pins s2 σ H2 _ I2 q2) λfv s3 ⟨z,H3,I3,rz,ov,g,q3⟩=>Calls.spliced_nil ?_))))
 exact Lp hu I3 g ry rz λw' s4 I4 rw'=>⟨_,H3,I4,rw',q3⟩
end
end L2
namespace U4
open PySem PySem.W PySem.Calls PyProof.Rows
theorem oK:∀(ns:List Int) (vs:List Value),WellAll P h vs (ns.map WData.int)->IntsAre vs ns:=by
 intro ns
 induction ns with
 |nil=>intro vs w;rw[map_nil]at w;cases w;exact .nil
 |cons n ns ih=>
  intro vs w;rw[Zo]at w;cases w with
  |cons a b=>cases a;exact .cons _ _ (ih _ b)
theorem Bj{l:OpenLaw}{n:Nat}(hn:l.most=some n){P:Params}{h:Heap}{args:List WData}{vals:List Value}
  (hpre:l.row.toRowW.claim.pre args=true) (hwl:WellAll P h vals args) :
  ∃a vs ns,vals=[Value.ref a]/\args=[WData.list (ns.map WData.int)]/\h.get? a=some { cls:=.type "list",data:=.seq vs.toArray }/\IntsAre vs ns/\ns.length<=n:=by
 have hsh:WShape.hasAll [] args [.list .int]=true:=(pre_splitW hpre).1;have hc:l.pre.holds [] { args:=args }=true:=(pre_splitW hpre).2;obtain⟨d,r,rfl,h1,h2⟩:=hasAllW_cons hsh;obtain rfl:=hasAllW_nil h2;obtain⟨xs,rfl,h3⟩:=hasW_list h1;obtain⟨ns,rfl⟩:=items_int h3;have hlen:ns.length<=n:=by
  unfold OpenLaw.pre at hc;have h4:(WTm.not (.lt (.lit (.int (n:Int))) (.len (.arg 0)))).holds [] { args:=[.list (ns.map .int)] }=true:=by have h4:=(holds_andW hc).1;rw[hn]at h4;exact h4
  have h5:=condW_of h4 (w_not (w_lt w_lit (w_len_list (w_arg rfl))));rw[Ze]at h5;refine Nat.le_of_not_lt λq=>?_;have q':(n:Int)<((ns.length:Nat):Int):=by omega
  first
   |(rw[decide_eq_true q']at h5;exact absurd h5 (by decide))
   |(simp at h5;omega)
 cases hwl with
 |cons w1 w2=>
  cases w2;cases w1 with
  |list ho hall=>exact⟨_,_,ns,rfl,rfl,ho,oK ns _ hall,hlen⟩
theorem Bk(l:OpenLaw)(args:List WData):l.row.toRowW.claim.post args (.bool true) args=true :=
 postW_of (r:=l.row.toRowW) (X:=(true==true))
  (show WShape.has [] (.bool true) .bool=true by first|rfl|decide|simp[WShape.has,WShape.arms,WShape.armsAll])
  (show (WTm.eq .res (.lit (.bool true))).value [] { args:=args,res:=some (.bool true),after:=args }=some (.bool (true==true)) from w_eq_bool (w_res rfl) w_lit) rfl
theorem vC{l:OpenLaw}{n:Nat}{q:Program}{loose:List Str}{XP:(Str->Option Value)->Heap->Prop}{YP:World->Heap->Prop}{d:DefRec}
  (hn:l.most=some n) (hdf:d.params.defaults=[])
  (call:∀(w:World) (s₀ s₁:Shared) (mg mb:Str->Option Value) (fa:Addr) (o:Obj) (pm cd doc:Value) (a:Addr) (vs:List Value) (ns:List Int),
   Ground q loose [] XP w s₀ mg mb s₁.heap->YP w s₁.heap ->
   s₁.heap.get? fa=some o->o.data=.func (docDef d.name d.params d.body d.scope pm cd doc)->s₁.heap.CodeRec cd d.name->mg d.name=some (.ref fa) ->
   s₁.heap.get? a=some { cls:=.type "list",data:=.seq vs.toArray }->IntsAre vs ns->ns.length<=n->s₁.gens = #[] ->
   codeAny (model l.prog w) callerA (.call (.ref fa) ⟨[.ref a],[]⟩) (λr s'=>r=.ok (.ret (.bool true))/\OldK s₁.heap s'.heap/\s'.os=s₁.os/\AllBare s'.gens) s₁) :
  WalkO q loose XP YP l.row.toRowW d [] (λf vs=>PySem.call f vs):=by
 intro w s₀ s₁ mg mb G Y fa o pm cd doc dV kV ho hd hcd hD hmg hg args vals as hpre hlay hrd hwl hlo;obtain rfl:dV=.none:=Dflts.none hD hdf;obtain rfl:kV=.none:=Dflts.noKw hD;obtain⟨a,vs,ns,rfl,rfl,hobj,hints,hlen⟩:=Bj hn hpre hwl;refine enter_call (codeAny_mono (call w s₀ s₁ mg mb fa o pm cd doc a vs ns G Y ho (fd_plain hd) hcd hmg hobj hints hlen hg) λr s' hq=>?_);obtain⟨rfl,h2,h3,h4⟩:=hq;exact⟨.inl ⟨.bool true,.bool true,[],rfl,λ_=>rfl,.bool true,Bk l _,λ_=>⟨List.Pairwise.nil,λ_ hm=>(nomatch hm)⟩⟩,h2,h3,h4⟩
end U4
namespace L2
open PySem PySem.Spec PyProof.Rows
theorem kI:∀{vs:List Value} {ns:List Int},IntsAre vs ns->Vals (ns.map V.int) vs
 |_,_,.nil=>.nil
 |_,_,.cons n t h=>.cons ⟨t,rfl⟩ (kI h)
def C2(H:Hp):Prop:=∀b,H b=none\/∃o xs,H b=some (.tU o (.lst xs))
theorem C3{P:Program}{w:World}{K:Frag}{mg mb:Str->Option Value}{CX:Bc}{k:Nat}{fa a:Addr}{fd:FuncData}{x:Str}{sp:Sp}{s₁:Shared}{vs:List Value}{ns:List Int}
  (KX:K.In s₁.heap) (hns:s₁.heap.Ns mainGlobals mg) (hb:s₁.heap.Ns builtinsNs mb) (WA:∀x:Str,x ≠ "__name__" -> mb x=bootBuiltins x) (hlim:s₁.heap.NoLimit) (hg:s₁.gens = #[])
  (ha:s₁.heap.get? a=some { cls:=.type "list",data:=.seq vs.toArray }) (hi:IntsAre vs ns) (hl:ns.length<=sizeLine) (hr:dR k callerA)
  (F:∀base:Heap,K.In base->base.Ns mainGlobals mg->fG P w K mg base CX k fa fd [x] sp) (hbind:∀(s:Shared) (u:Value),BindsTo s fd ⟨[u],[]⟩ [(x,u)])
  (hsp:∀H:Hp,C2 H->gm K H a (ns.map V.int)->sp [.ref a] H (λv _=>v=.bl true) λ_ _ _=>False)
  (hCX:∀H e s',CX [] H s₁ (λ_ _ _=>False) e s'->False) :
  codeAny (model P w) callerA (.call (.ref fa) ⟨[.ref a],[]⟩) (λr s'=>r=.ok (.ret (.bool true))/\OldK s₁.heap s'.heap/\s'.os=s₁.os/\AllBare s'.gens) s₁:=by
 have rv:=kI hi;have To:=hi.length;have core:∀H:Hp,C2 H->gm K H a (ns.map V.int)->lU P w H s₁.heap->(∀b,H b≠none->b=a)->(H a≠none->K.lookup a=none) ->
   codeAny (model P w) callerA (.call (.ref fa) ⟨[.ref a],[]⟩) (λr s'=>r=.ok (.ret (.bool true))/\OldK s₁.heap s'.heap/\s'.os=s₁.os/\AllBare s'.gens) s₁:=by
  intro H hO hS hok hA hK;have base_of:∀{b:Addr} {o:Obj},s₁.heap.get? b=some o->H b=none->(tX s₁.heap H).get? b=some o:=λe n=>Cu e n;have noA:∀{b:Addr} {o:Obj} {es:Array DictEntry} {ep:Nat},s₁.heap.get? b=some o->o.data=.dict es ep->H b=none:=λ{b o es ep} e d=>by
   cases q:H b with
   |none=>rfl
   |some u=>have e':b=a:=hA b (by rw[q];simp);subst e';rw[ha]at e;cases e;have d':Data.seq vs.toArray _=Data.dict es ep:=d;cases d'
  have nsK:∀{b:Addr} {m:Str->Option Value},s₁.heap.Ns b m->(tX s₁.heap H).Ns b m:=λ{b m} ⟨o,es,ep,e,d,r⟩=>⟨o,es,ep,base_of e (noA e d),d,r⟩;have U5:K.In (tX s₁.heap H):=λb o e=>base_of (KX b o e) (by
   cases q:H b with
   |none=>rfl
   |some u=>have e':b=a:=hA b (by rw[q];simp);subst e';rw[hK (by rw[q];simp)]at e;cases e)
  have hM:Mod K mg (tX s₁.heap H):=⟨U5,nsK hns,⟨mb,nsK hb,WA⟩,let ⟨mc,h1,h2⟩:=hlim;⟨mc,nsK h1,h2⟩⟩;have e0:yi P w K mg (tX s₁.heap H) callerA [] s₁ H:=⟨rfl,hM,λb o e=>GH e,Nat.le_of_eq (AQ _ _),trivial,λb hb=>absurd (show b∈([]:List Addr) from hb) (by simp),hok,.of_eq hg⟩;refine codeAny_mono ((F _ U5 (nsK hns)).run callerA [] s₁ H ⟨[.ref a],[]⟩ [.ref a] [.ref a] _ _ hr e0 (hbind s₁ (.ref a)) #[rfl] (hsp H hO hS)) λr s' h=>?_;cases r with
  |error e=>exact(hCX H e s' h).elim
  |ok fl=>
   cases fl with
   |next=>exact False.elim h
   |brk=>exact False.elim h
   |cont=>exact False.elim h
   |ret u=>
    obtain⟨v,H',os,bare,un,Tp,r',q⟩:=h;have q':v=.bl true:=q;subst q';obtain rfl:u=Value.bool true:=r';refine⟨rfl,OldK.of_keep λb o e=>?_,os,bare⟩;cases q:H b with
    |none=>exact un.keep b o e q (by intro z;exact absurd (show b∈([]:List Addr) from z) (by simp)) (by simp)
    |some u=>
     rcases hO b with z|⟨ob,xs,z⟩
     ·rw[q]at z;cases z
     ·have z2:=un.frzs b ob _ z;obtain⟨e1,_⟩:=hok b _ z;obtain⟨e2,_⟩:=Tp b _ z2;rw[e]at e1;cases e1;exact e2
 cases hk:K.lookup a with
 |some o=>have e:=KX a o hk;rw[ha]at e;cases e;refine core (λ_=>none) (λ_=>.inl rfl) (.inr ⟨_,vs.toArray,_,hk,rfl,rfl,rfl,by rw[Zq,To];exact hl,by simpa using rv⟩) (λb u z=>by have z':(none:Option HO)=some u:=z;cases z') (λb z=>absurd rfl z) λz=>absurd rfl z
 |none=>
  refine core (λb=>if b=a then some (.tU { cls:=.type "list",data:=.seq vs.toArray } (.lst (ns.map V.int))) else none) (λb=>?_) (.inl (.inr ⟨{ cls:=.type "list",data:=.seq vs.toArray },Zg rfl⟩)) (λb u z=>?_) (λb z=>?_) λ_=>hk
  ·by_cases hb:b=a
   ·exact .inr ⟨_,_,Zg hb⟩
   ·exact .inl (Zi hb)
  ·by_cases hb:b=a
   ·have z':=(Zg hb).symm.trans z;cases z';subst hb;exact⟨ha,by rw[Ze];exact hl,vs,_,rv,ha⟩
   ·have z':=(Zi hb).symm.trans z;cases z'
  ·by_cases hb:b=a
   ·exact hb
   ·exact absurd (Zi hb) z
theorem Hy{l:PySem.W.OpenLaw}{n k:Nat}{q:Program}{loose:List Str}{XP:(Str->Option Value)->Heap->Prop}{YP:World->Heap->Prop}{d:DefRec}{K:Params->Frag}{CX:World->Bc}{sp:World->Sp}{x:Str}
  (hn:l.most=some n) (hn2:n<=sizeLine) (hdf:d.params.defaults=[]) (hr:dR k callerA)
  (hY:∀(w:World) (h:Heap),YP w h->(K w.params).In h)
  (F:∀(w:World) (mg:Str->Option Value) (fa:Addr) (h:Heap),(K w.params).In h->h.Ns mainGlobals mg->mg d.name=some (.ref fa) ->
   ∃fd:FuncData,(∀(s:Shared) (u:Value),BindsTo s fd ⟨[u],[]⟩ [(x,u)]) /\
    ∀base:Heap,(K w.params).In base->base.Ns mainGlobals mg->fG l.prog w (K w.params) mg base (CX w) k fa fd [x] (sp w))
  (hsp:∀(w:World) (H:Hp) (a:Addr) (ns:List Int),ns.length<=n->C2 H->gm (K w.params) H a (ns.map V.int)->sp w [.ref a] H (λv _=>v=.bl true) λ_ _ _=>False)
  (hCX:∀(w:World) (H:Hp) (s:Shared) (e:Value) (s':Shared),CX w [] H s (λ_ _ _=>False) e s'->False) :
  PySem.W.WalkO q loose XP YP l.row.toRowW d [] (λf vs=>PySem.call f vs):=by
 refine U4.vC hn hdf λw s₀ s₁ mg mb fa o pm cd doc a vs ns G Y ho hd hcd hmg hobj hints hlen hg=>?_;have KX:=hY w _ Y;obtain⟨fd,hb,hF⟩:=F w mg fa _ KX G.T.g hmg;exact C3 KX G.T.g G.T.b G.T.builtins G.T.nolimit hg hobj hints (ZE hlen hn2) hr hF hb (λH hO hS=>hsp w H a ns hlen hO hS) λH e s'=>hCX w H s₁ e s'
def l5(s:Stmt):Arguments:=match s with
 |.FunctionDef _ a _ _ _ _ _ _ _ _=>a
 |_=>{ posonlyargs:=[],args:=[],vararg:=none,kwonlyargs:=[],kw_defaults:=[],kwarg:=none,defaults:=[] }
def aq(s:Stmt):List Stmt:=match s with
 |.FunctionDef _ _ b _ _ _ _ _ _ _=>b
 |_=>[]
def af(s:Stmt):Scope:=match s with
 |.FunctionDef _ _ _ _ _ _ sc _ _ _=>sc
 |_=>{ kind:=.function,names:=[],isGenerator:=false,isCoroutine:=false }
abbrev yo:Bc:=λ_ _ _ _ _ _=>False
abbrev E0:XK:=λ_ _ _=>False
theorem r9:Passes yo X E0:=λ_ _ _ _ _ _ _ h=>h.elim
structure Gz (K:Frag) (x qual:Str) (st:Stmt) (f:Addr) (fd:FuncData):Prop where
 ex:∃(oc:Value) (od:Option Addr) (kV doc pm:Value) (an:Option Addr) (cdv ct:Value) (osl:Array (Option Value)),
  fd=fnOf x qual (l5 st) (aq st) (af st) .none kV doc pm an cdv ct/\K.lookup f=some ⟨oc,od,.func fd,osl⟩/\codeIn K cdv qual=true
 kp:keepIn K (.ref f)=true
section
variable {P:Program} {w:World} {K:Frag} {mg:Str->Option Value} {base:Heap}
theorem Gz.ok{x qual:Str}{st:Stmt}{f:Addr}{fd:FuncData}{N ps:List Str}{k:Nat}{sp:Sp}(F:Gz K x qual st f fd)(S:o5 N ps (af st))(len:∀vs H Q E,sp vs H Q E->vs.length=ps.length)
  (hbody:∀(cdv:Value) (A:Around) (outer:List Env) (s:Shared) (H:Hp) (vs:List V) (Q:VK) (E:XK),dR k (A.deeper (envOfC qual (af st) s.heap.objs.size f cdv))->sp vs H Q E ->
   ∃t,x9 (yj yo P w K mg base N qual (af st) f cdv A outer s H E).ON (aq st) t/\t { nx:=λ_ H'=>Q .non H',rt:=Q } (start N vs) H):fG P w K mg base yo (k+1) f fd ps sp:=by
 obtain⟨oc,od,kV,doc,pm,an,cdv,ct,osl,rfl,lk,hcd⟩:=F.ex;refine Pd lk hcd S len λA outer s H vs Q E hr hsp=>?_;obtain⟨t,h,q⟩:=hbody cdv A outer s H vs Q E hr hsp;exact⟨t,h.ON,q⟩
theorem Gz.binds{x qual:Str}{st:Stmt}{f:Addr}{fd:FuncData}{ps:List Str}(F:Gz K x qual st f fd)
  (h:∀(kV doc pm:Value) (an:Option Addr) (cdv ct:Value) (us:List Value),us.length=ps.length->bindArgs (fnOf x qual (l5 st) (aq st) (af st) .none kV doc pm an cdv ct) ⟨us,[]⟩=pure (ps.zip us)):Binds K fd ps []:=by
 obtain⟨oc,od,kV,doc,pm,an,cdv,ct,osl,rfl,lk,hcd⟩:=F.ex;exact .all (h kV doc pm an cdv ct)
theorem fun_mk{x qual:Str}{st:Stmt}{f:Addr}{oc:Value}{od an:Option Addr}{osl:Array (Option Value)}{kV doc pm cdv ct:Value}(l:K.lookup f=some ⟨oc,od,.func (fnOf x qual (l5 st) (aq st) (af st) .none kV doc pm an cdv ct),osl⟩)
  (c:codeIn K cdv qual=true) (k:keepIn K (.ref f)=true):Gz K x qual st f (fnOf x qual (l5 st) (aq st) (af st) .none kV doc pm an cdv ct):=⟨⟨oc,od,kV,doc,pm,an,cdv,ct,osl,rfl,l,c⟩,k⟩
end
section
variable {X:Cx}
theorem Bm:cL X (.builtin "len") (λxs H Q=>∃a kvs,xs=[V.ref a]/\H a=some (.dK kvs)/\Q (.int kvs.length) H):=by
 intro pins s σ H xs us Q I r h;obtain⟨a,kvs,rfl,ha,q⟩:=h;obtain⟨u,rfl,ru⟩:=vals1 r;cases ru;exact Pk I (.inl ha) λt s' I'=>⟨.int kvs.length,H,I',⟨t,rfl⟩,q⟩
end
def yq(H H':Hp):Prop:=∀b o,H b=some o->H' b=some o
theorem yq.seq{K:Frag}{H H':Hp}{a:Addr}{xs:List V}(e:yq H H')(h:gm K H a xs):gm K H' a xs:=by
 rcases h with (h|⟨o,h⟩)|h
 ·exact .inl (.inl (e _ _ h))
 ·exact .inl (.inr ⟨o,e _ _ h⟩)
 ·exact .inr h
theorem ly(env:Env):∀(names:List (Str×NameKind)) (acc:List (Str×Addr)),(∀y∈names,y.2=.free->∃c,env.cells.lookup y.1=some c) ->
  (∀x c,acc.lookup x=some c->env.cells.lookup x=some c) ->
  ∃cl,(forIn names acc λx r=>if (x.snd==NameKind.free)=true then do let c <-cellOf env x.fst;pure (ForInStep.yield ((x.fst,c)::r)) else pure (ForInStep.yield r))=(pure cl:Sem (List (Str×Addr))) /\
   (∀x c,cl.lookup x=some c->env.cells.lookup x=some c)/\∀x,((x,NameKind.free)∈names\/∃c,acc.lookup x=some c)->∃c,cl.lookup x=some c
 |[],acc,_,ha=>⟨acc,rfl,ha,λx h=>h.elim (λz=>nomatch z) λz=>z⟩
 | (n,k)::r,acc,hn,ha=>by
  have hr:∀y∈r,y.2=NameKind.free->∃c,env.cells.lookup y.1=some c:=λy hy=>hn y (Zh _ hy)
  by_cases hk:k=.free
  ·subst hk
   obtain⟨c,hc⟩:=hn (n,.free) Zk rfl;have ha':∀x d,((n,c)::acc).lookup x=some d->env.cells.lookup x=some d:=λx d h=>by
    rw[lookup_cons]at h;cases e:x==n with
    |true=>rw[e]at h;have e':x=n:=eq_of_beq e;cases h;rw[e'];exact hc
    |false=>rw[e]at h;exact ha x d h
   obtain⟨cl,e1,e2,e3⟩:=ly env r ((n,c)::acc) hr ha';refine⟨cl,?_,e2,λx h=>?_⟩
   ·rw[List.forIn_cons]
    have hco:cellOf env n=pure c:=by unfold cellOf;rw[hc]
    simp only[beq_self_eq_true,if_true,hco];exact e1
   ·by_cases hx:x=n
    ·subst hx;exact e3 x (.inr ⟨c,by simp[lookup_cons]⟩)
    ·rcases h with h|⟨d,h⟩
     ·rcases Zw.mp h with z|z
      ·exact absurd (ZN Prod.fst z) hx
      ·exact e3 x (.inl z)
     ·refine e3 x (.inr ⟨d,?_⟩);rw[lookup_cons];have:(x==n)=false:=ZM.mpr hx;rw[this];exact h
  ·have hb:(k==NameKind.free)=false:=ZM.mpr hk
   obtain⟨cl,e1,e2,e3⟩:=ly env r acc hr ha;refine⟨cl,?_,e2,λx h=>e3 x ?_⟩
   ·rw[List.forIn_cons];simp only[hb,false_eq_true,if_false];exact e1
   ·rcases h with h|h
    ·rcases Zw.mp h with z|z
     ·cases z;exact absurd rfl hk
     ·exact .inl z
    ·exact .inr h
theorem pS(h:∀y∈scope.names,y.2=.free->∃c,env.cells.lookup y.1=some c) :
  ∃cl,closureFor scope env=pure cl/\(∀x c,cl.lookup x=some c->env.cells.lookup x=some c)/\∀x,(x,NameKind.free)∈scope.names->∃c,cl.lookup x=some c:=by
 obtain⟨cl,e1,e2,e3⟩:=ly env scope.names [] h (λx c z=>by simp at z);refine⟨cl,?_,e2,λx hx=>e3 x (.inl hx)⟩;unfold closureFor;simp only[bind_pure];exact e1
def bS(X:Cx)(scope:Scope)(N':List Str)(cl:List (Str×Addr))(C:Addr)(s:Shared)(H:Hp)(fp:List Addr):Cx :=
 { prog:=X.prog,w:=X.w,K:=X.K,mg:=X.mg,base:=X.base,A:=X.A,N:=N',s₀:=s,H₀:=H,env:=compEnvC scope cl C X.env,outer:=X.stack,stack:=X.stack,ex:=fp,fn:=λ_=>false,calm:=X.calm,pn:=[],xe:=λ_ _=>False }
def jk(js:List (Option Nat))(σ:St):St:=js.map λo=>match o with
 |none=>none
 | some j=>match σ[j]? with
  |some (some v)=>some v
  |_=>none
def ue(sc:Scope)(x:Str):Bool:=sc.names.lookup x==some .cell||sc.names.lookup x==some .free
def kJ(XN:List Str)(xsc scope:Scope)(N':List Str)(js:List (Option Nat)):Bool :=
 scope.kind==.function&&(scope.names.all λy=>y.2 != .local||scope.names.lookup y.1==some .local)&&(scope.names.all λy=>y.2 != .cell) &&
 (scope.names.all λy=>y.2 != .free||(ue xsc y.1&&scope.names.lookup y.1==some .free))&&js.length==N'.length &&
 ((N'.zip js).all λp=>match p.2 with|none=>true|some j=>XN[j]?==some p.1&&scope.names.lookup p.1==some .free)
structure uf (X:Cx) (scope:Scope) (N':List Str) (js:List (Option Nat)):Prop where
 kind:scope.kind=.function
 names:∀y∈scope.names,y.2=.local->scope.names.lookup y.1=some .local
 C4:∀y∈scope.names,y.2≠.cell
 free:∀y∈scope.names,y.2=.free->ue X.env.scope y.1=true/\scope.names.lookup y.1=some .free
 len:js.length=N'.length
 src:∀(i:Nat) (x:Str) (j:Nat),N'[i]?=some x->js[i]?=some (some j)->X.N[j]?=some x/\scope.names.lookup x=some .free
theorem sd(h:kJ X.N X.env.scope scope N' js=true):uf X scope N' js:=by
 unfold kJ at h;simp only[and_eq_true,all_eq_true]at h;obtain⟨⟨⟨⟨⟨h1,h2⟩,h3⟩,h4⟩,h5⟩,h6⟩:=h;refine⟨eq_of_beq h1,λy hy e=>?_,λy hy e=>?_,λy hy e=>?_,eq_of_beq h5,λi x j e1 e2=>?_⟩
 ·have:=h2 y hy;rw[e]at this;simpa using this
 ·have:=h3 y hy;rw[e]at this;simp at this
 ·have:=h4 y hy;rw[e]at this;simpa using this
 ·have hm:(x,some j)∈N'.zip js:=by
   refine List.mem_iff_getElem?.mpr ⟨i,?_⟩;rw[List.getElem?_zip_eq_some];exact⟨e1,e2⟩
  have:=h6 _ hm;simpa using this
theorem kZ(js:List (Option Nat))(σ:St):(jk js σ).length=js.length:=by unfold jk;rw[Ze]
def Hz(X:Cx)(ifs:List Expr)(t:TT):Prop :=
 ∀(pins:List (Addr×Obj)) (s:Shared) (σ:St) (H:Hp) (Q:Bool->Hp->Prop),Inv X pins σ H s->t σ H Q ->
  wpAny (model X.prog X.w) X.A (forIn ifs true λc r=>if r=true then do let ok <-isTrue c X.env (eval c X.env);pure (ForInStep.yield ok) else pure (ForInStep.yield r)) (TP X pins σ Q) X.xe s
def vD:TT:=λ_ H Q=>Q true H
theorem HD:Hz X [] vD:=λ_ _ _ H _ I h=>wpAny_tests_nil ⟨H,I,h⟩
theorem HE(h:PT X c t):Hz X [c] t:=λpins s σ H Q I hw=>wpAny_tests_one (h pins s σ H Q I hw)
def C5(wi:TI)(js:List (Option Nat))(g:TG)(tt:TT)(te:TE):TE:=λσ H Q=>wi σ H λJ H1=>∀D,H1 D=none->∃W:Nat->Nat->St->Hp->Prop,(∃m,W 0 m (jk js σ) (upd H1 D (.lst []))) /\
 ∀i m σ' H,W i m σ' H->(J.stop i H/\Q (.ref D) H)\/(J.go i H/\∃N:St->Hp->Prop,(∀Cq H',N Cq H'->∃m',m'<m/\W (i+1) m' Cq H') /\
  ∀x H',J.AS i H x H'->g x σ' H' λσ2 H2=>tt σ2 H2 λb H3=>if b=true then te σ2 H3 λy H4=>∃ys,H4 D=some (.lst ys)/\ys.length<sizeLine/\N σ2 (upd H4 D (.lst (ys++[y]))) else N σ2 H3)
theorem rA(hc:∀y∈scope.names,y.2≠.cell)
  (h:(relabel scope env).names.lookup x=some .cell\/(relabel scope env).names.lookup x=some .free):(x,NameKind.free)∈scope.names:=by
 unfold relabel at h;simp only at h;generalize scope.names=ns at hc h
 induction ns with
 |nil=>simp at h
 |cons p r ih=>
  obtain⟨n,k⟩:=p;have hc':∀y∈r,y.2≠.cell:=λy hy=>hc y (Zh _ hy);simp only[map_cons]at h;cases hx:x==n with
  |true=>
   have e':x=n:=eq_of_beq hx;subst e'
   by_cases hk:k=.free
   ·subst hk;exact Zk
   ·have hk2:=hc (x,k) Zk
    have hb:(k==NameKind.free)=false:=ZM.mpr hk;rw[hb]at h;simp only[Bool.false_and,false_eq_true,if_false,lookup_cons,beq_self_eq_true]at h
    rcases h with h|h
    ·exact absurd (ZI h) hk2
    ·exact absurd (ZI h) hk
  |false=>
   refine Zh _ (ih hc' ?_)
   by_cases hk:(k==NameKind.free&&env.scope.kind==.function&&env.kindOf n==some .cell)=true
   ·rw[Zg hk]at h;simp only[lookup_cons,hx]at h;exact h
   ·rw[Zi hk]at h;simp only[lookup_cons,hx]at h;exact h
theorem ug(h:scope.names.lookup x=some .free) :
  (relabel scope env).names.lookup x=some .cell\/(relabel scope env).names.lookup x=some .free:=by
 unfold relabel;simp only;generalize scope.names=ns at h
 induction ns with
 |nil=>simp at h
 |cons p r ih=>
  obtain⟨n,k⟩:=p;simp only[map_cons];cases hx:x==n with
  |true=>
   simp only[lookup_cons,hx]at h;have hk:=ZI h;subst hk
   by_cases hk:(NameKind.free==NameKind.free&&env.scope.kind==.function&&env.kindOf n==some .cell)=true
   ·rw[Zg hk];simp[lookup_cons,hx]
   ·rw[Zi hk];simp[lookup_cons,hx]
  |false=>
   simp only[lookup_cons,hx]at h
   by_cases hk:(k==NameKind.free&&env.scope.kind==.function&&env.kindOf n==some .cell)=true
   ·rw[Zg hk];simp only[lookup_cons,hx];exact ih h
   ·rw[Zi hk];simp only[lookup_cons,hx];exact ih h
section
variable {X:Cx} {pins:List (Addr×Obj)} {σ:St} {scope:Scope} {N':List Str} {js:List (Option Nat)}
theorem pU(ok:uf X scope N' js)(xo:X.Ok):∀y∈scope.names,y.2=.free->∃c,X.env.cells.lookup y.1=some c:=λy hy e=>by
 have:=(ok.free y hy e).1;unfold ue at this;rw[or_eq_true]at this;refine xo.has y.1 ?_
 rcases this with z|z
 ·exact .inl (eq_of_beq z)
 ·exact .inr (eq_of_beq z)
theorem yr{tk:Nat}(ok:uf X scope N' js)(I:Inv X pins σ H s)
  (hcl1:∀x c,cl.lookup x=some c->X.env.cells.lookup x=some c) (hcl2:∀x,(x,NameKind.free)∈scope.names->∃c,cl.lookup x=some c)
  (hfp:∀b∈fp,oH X pins H b) (hlt:∀b∈fp,b<s.heap.objs.size)
  (hns:h'.Ns s.heap.objs.size (λ_=>none)) (hk:∀b o,s.heap.get? b=some o->h'.get? b=some o) :
  Inv (bS X scope N' cl s.heap.objs.size s H fp) [] (jk js σ) H { s with heap:=h',toks:=tk }:=by
 have cellK:∀x c,cl.lookup x=some c->∃v,s.heap.IsCell c v:=λx c e=>I.cell x c (hcl1 x c e);have hCf:H s.heap.objs.size=none:=I.hok.fresh (Zm _);refine⟨⟨I.ok.mod,ok.kind,I.ok.glob,I.ok.blt,Zm _,λx y c e1 e2=>I.ok.inj x y c (hcl1 x c e1) (hcl1 y c e2),λx hx=>hcl2 x (rA ok.C4 hx),λx c hf _=>absurd hf (by intro z;cases z),I.ok.hd,I.ok.frames,.inl rfl,
   λb hb=>⟨Zt (hlt b hb),λx c e z=>?_⟩,I.bs,ZE I.ok.JQ I.sz,λb o e hb=>?_,λb hb hs=>?_,I.stack,I.zj⟩,rfl,I.bare,Un.kept hk,⟨_,hns,λi x v e1 e2 e3=>?_⟩,λx c e=>?_,hCf,λx c e=>I.jA x c (hcl1 x c e),
   λp hp=>absurd (show p∈([]:List (Addr×Obj)) from hp) (by simp),I.hok.kept hk,?_⟩
 ·exact(hfp b hb).2.2.2.2.1 x c (hcl1 x c e) z
 ·rcases(hfp b hb).2.2.2.1 with z|z
  ·exact I.ok.lW b o e z
  ·exact absurd (Zn (Zj (I.ok.bs b o e).1) z) (lt_irrefl _)
 ·rcases Zw.mp (I.x8 b hs) with z|z
  ·exact(hfp b hb).2.1 z
  ·exact(hfp b hb).2.2.1 z
 ·-- a name WB has a value: one of the def around
  have GA:(jk js σ)[i]?=some (some v):=e2;unfold jk at GA;rw[Zx] at GA;cases hj:js[i]? with
  |none=>rw[hj] at GA;cases GA
  |some o=>
   rw[hj] at GA;cases o with
   |none=>simp at GA
   |some j=>
    obtain⟨hN,hf⟩:=ok.src i x j e1 hj;cases hs:σ[j]? with
    |none=>simp[hs] at GA
    |some ov=>
     cases ov with
     |none=>simp[hs] at GA
     |some v'=>
      simp[hs] at GA;subst GA;have hfr:=(ok.free (x,.free) (PySem.mem_of_lookup hf) rfl).1;unfold ue at hfr;rw[or_eq_true]at hfr;have Po:X.env.scope.names.lookup x=some .cell\/X.env.scope.names.lookup x=some .free:=hfr.imp eq_of_beq eq_of_beq;obtain⟨m,_,hl⟩:=I.loc;obtain⟨u,r,l⟩:=hl j x v' hN hs (.inr Po);refine⟨u,r,.inr ⟨ug hf,?_⟩⟩
      rcases l with ⟨k,_⟩|⟨_,c,e,z⟩
      ·have k':X.env.scope.names.lookup x=some .local:=k
       rcases Po with q|q<;>(rw[q]at k';cases k')
      ·obtain⟨d,hd⟩:=hcl2 x (PySem.mem_of_lookup hf);have e':=hcl1 x d hd;rw[e]at e';cases e';obtain⟨oc,hoc,Cw⟩:=z;exact⟨c,hd,oc,hk _ _ hoc,Cw⟩
 ·obtain⟨v,oc,hoc,Cw⟩:=cellK x c e;exact⟨v,oc,hk _ _ hoc,Cw⟩
 ·rw[kZ];exact ok.len
theorem Bo(I:Inv X pins σ H s)(hfp:∀b∈fp,oH X pins H b)
  (J:Inv (bS X scope N' cl C s H fp) [] σ' H' s'):Inv X pins σ H' s' :=
 I.OG (ch:=fp) J.os J.base J.hok J.bare λb hb=>⟨(hfp b hb).2.2.2.1,(hfp b hb).2.1,(hfp b hb).2.2.2.2.1,(hfp b hb).2.2.2.2.2⟩
end
section
variable {X:Cx} {scope:Scope} {N':List Str} {js:List (Option Nat)} {tg elt iter:Expr} {ifs:List Expr} {pos:Pos} {wi:TI} {g:TG} {tt:TT} {te:TE}
theorem vE{pins:List (Addr×Obj)}{σ:St}{H2:Hp}{s2:Shared}{it:Addr}{fp:List Addr}{tn:Nat->Heap->Prop}{J:It}{cl:List (Str×Addr)}{E:Value->Shared->Prop}{RR:Value->Addr->Result->Shared->Prop}{Q:VK}
  (ok:uf X scope N' js) (hc:X.calm=true) (I2:Inv X pins σ H2 s2) (T:Turn X.prog X.w X.K tg J fp it tn) (st2:tn 0 s2.heap) (f2:∀b∈fp,oH X pins H2 b)
  (hcl1:∀x c,cl.lookup x=some c->X.env.cells.lookup x=some c) (hcl2:∀x,(x,NameKind.free)∈scope.names->∃c,cl.lookup x=some c)
  (hg:∀cl C s H fp,PG (bS X scope N' cl C s H fp) tg g) (ht:∀cl C s H fp,Hz (bS X scope N' cl C s H fp) ifs tt) (he:∀cl C s H fp,PE (bS X scope N' cl C s H fp) elt te)
  (rd:∀D,H2 D=none->∃W:Nat->Nat->St->Hp->Prop,(∃m,W 0 m (jk js σ) (upd H2 D (.lst []))) /\
   ∀i m σ' H,W i m σ' H->(J.stop i H/\Q (.ref D) H)\/(J.go i H/\∃N:St->Hp->Prop,(∀Cq H',N Cq H'->∃m',m'<m/\W (i+1) m' Cq H') /\
    ∀x H',J.AS i H x H'->g x σ' H' λσ2 H2=>tt σ2 H2 λb H3=>if b=true then te σ2 H3 λy H4=>∃ys,H4 D=some (.lst ys)/\ys.length<sizeLine/\N σ2 (upd H4 D (.lst (ys++[y]))) else N σ2 H3))
  (hRR:∀(D C:Addr) (s':Shared) (H':Hp) (m:Str->Option Value),s2.heap.objs.size<=C->Inv X pins σ H' s'->H' C=none->s'.heap.Ns C m->Q (.ref D) H'->RR (.ref D) C (.ok .next) s') :
  wpAny (model X.prog X.w) X.A (newList []) (λacc s₃=>wpAny (model X.prog X.w) X.A (newFunctionEnv scope X.env.globals cl [] X.env.qual none .none (some X.env)) (λcenv s₄=>
   codeAny (model X.prog X.w) X.A (.compStart (.ListComp elt [⟨tg,iter,ifs,0⟩] scope pos) 0 (.ref it) acc { cenv with scope:=relabel scope X.env }) (RR acc cenv.locals) s₄) E s₃) E s2:=by
 have hD:H2 s2.heap.objs.size=none:=I2.hok.fresh (Zm _);refine ZJ (wpAny_newFunctionEnv ok.C4 (by intro y hy;simp at hy) (λh₁ Pp Pq=>?_) ok.kind);dsimp only at Pp Pq |-;have I3:Inv X pins σ (upd H2 s2.heap.objs.size (.lst [])) { s2 with heap:=s2.heap.push { cls:=.type "list",dict:=none,data:=.seq ([]:List Value).toArray },toks:=s2.toks } :=
  I2.laid (t':=s2.toks) (λb u e=>Zc _ e) (Zm _) ⟨by simp,[],0,.nil,Zr _ rfl⟩
 generalize Pu:({ s2 with heap:=s2.heap.push { cls:=.type "list",dict:=none,data:=.seq ([]:List Value).toArray },toks:=s2.toks }:Shared)=s3 at I3;have hsz:s3.heap.objs.size=s2.heap.objs.size+1:=by rw[<-Pu];exact size_push ..
 have eC:(s2.heap.push { cls:=.type "list",dict:=none,data:=.seq ([]:List Value).toArray }).objs.size=s3.heap.objs.size:=by rw[<-Pu]
 have f3:∀b∈fp,oH X pins (upd H2 s2.heap.objs.size (.lst [])) b:=λb hb=>by
  obtain⟨o,e,_⟩:=T.obj _ _ st2 b hb;refine⟨?_,(f2 b hb).2⟩;rw[aL (Zt (Zj e))];exact(f2 b hb).1
 have hlt:∀b∈fp,b<s3.heap.objs.size:=λb hb=>by
  obtain⟨o,e,_⟩:=T.obj _ _ st2 b hb;have hb2:b<s2.heap.objs.size:=Zj e;rw[hsz];exact lt_succ_of_lt hb2
 have keep:∀b o,s3.heap.get? b=some o->h₁.get? b=some o:=λb o e=>by
  have e':(s2.heap.push { cls:=.type "list",dict:=none,data:=.seq ([]:List Value).toArray }).get? b=some o:=by rw[<-Pu]at e;exact e
  exact Pq.extBut b o (Zt (Zj e')) (Zc _ e')
 have I4:=yr (tk:=s2.toks+([]:List (Str×Value)).length) ok I3 hcl1 hcl2 f3 hlt (h':=h₁) (by rw[<-eC];simpa using Pp) keep;have U6:tn 0 h₁:=T.keep _ _ _ st2 λb hb o e=>keep b o (by rw[<-Pu];exact Zc _ e);obtain⟨W,⟨m0,w0⟩,turn⟩:=rd _ hD;have stat:∀{H':Hp},(∀b∈fp,H' b=none)->∀b∈fp,oH (bS X scope N' cl s3.heap.objs.size s3 (upd H2 s2.heap.objs.size (.lst [])) fp) [] H' b:=λ{H'} hn b hb=>
  ⟨hn b hb,Zt (hlt b hb),I4.ok.Cv b hb,.inl hb,(I4.ok.SJ b hb).2,λp hp=>absurd (show p∈([]:List (Addr×Obj)) from hp) (by simp)⟩
 have WC:∀tk,({ s2 with heap:=h₁,toks:=tk }:Shared)={ s3 with heap:=h₁,toks:=tk }:=λtk=>by rw[<-Pu]
 have loop:codeAny (model X.prog X.w) X.A (.compLoop (.ListComp elt [⟨tg,iter,ifs,0⟩] scope pos) 0 (.ref it) (.ref s2.heap.objs.size) (compEnvC scope cl s3.heap.objs.size X.env)) (RR (.ref s2.heap.objs.size) s3.heap.objs.size)
   { s3 with heap:=h₁,toks:=s2.toks+([]:List (Str×Value)).length }:=by
  refine codeAny_loop rfl (λn s'=>∃i σ' H',Inv (bS X scope N' cl s3.heap.objs.size s3 (upd H2 s2.heap.objs.size (.lst [])) fp) [] σ' H' s'/\tn i s'.heap/\(∀b∈fp,H' b=none)/\W i n σ' H') ?_ m0 ⟨0,_,_,I4,U6,λb hb=>(f3 b hb).1,w0⟩;rintro n s5 ⟨i,σ5,H5,I5,Oi,Sb,w5⟩;show wpAny _ X.A ((compTurn (.ListComp elt [⟨tg,iter,ifs,0⟩] scope pos) 0 (.ref it) (.ref s2.heap.objs.size) (compEnvC scope cl s3.heap.objs.size X.env)).onRaise (λx=>do noteFrame x (compEnvC scope cl s3.heap.objs.size X.env);theTreesLotGoes x)) _ _ s5;refine wpAny_noted ?_;rw[compTurn_list];refine Y8 (wpAny_standAt (Y8 ?_))
  rcases turn i n σ5 H5 w5 with ⟨stop,qn⟩|⟨go,N,hN,step⟩
  ·refine wpAny_mono (T.done (bS X scope N' cl s3.heap.objs.size s3 (upd H2 s2.heap.objs.size (.lst [])) fp) rfl rfl rfl hc i [] s5 σ5 H5 (λ_ _=>False) I5 (stat Sb) Oi stop) (λr s6 ⟨hr,I6⟩=>?_) λ_ _ z=>z.elim;subst hr;refine Zf ?_;obtain⟨m,hm,_⟩:=id I6.loc;exact hRR _ _ s6 H5 m (by rw[hsz];exact le_succ _) (Bo I3 f3 I6) I6.free hm qn
  ·refine wpAny_mono (T.item (bS X scope N' cl s3.heap.objs.size s3 (upd H2 s2.heap.objs.size (.lst [])) fp) rfl rfl rfl hc i [] s5 σ5 H5 (λ_ _=>False) I5 (stat Sb) Oi go) (λr s6 ⟨u,hr,h6⟩=>?_) λ_ _ z=>z.elim
   subst hr;refine Y8 (wpAny_mono h6 (λ_ s7 ⟨x,H7,I7,r7,y7,Tq,WD⟩=>?_) λ_ _ z=>z.elim);have WE:=I7.pinned (stat WD) (T.obj _ _ Tq);refine Y8 (wpAny_mono (hg _ _ _ _ _ _ s7 σ5 H7 x u _ WE r7 (step x H7 y7)) (λ_ s8 ⟨σ8,H8,I8,q8⟩=>?_) λ_ _ z=>z.elim);refine Y8 (wpAny_mono (ht _ _ _ _ _ _ s8 σ8 H8 _ I8 q8) (λb s9 ⟨H9,I9,q9⟩=>?_) λ_ _ z=>z.elim);have C6:∀{sA:Shared} {σA:St} {HA:Hp},Inv (bS X scope N' cl s3.heap.objs.size s3 (upd H2 s2.heap.objs.size (.lst [])) fp) ([]++pK fp s7.heap) σA HA sA->N σA HA ->
     ∃m,m<n/\∃i σ' H',Inv (bS X scope N' cl s3.heap.objs.size s3 (upd H2 s2.heap.objs.size (.lst [])) fp) [] σ' H' sA/\tn i sA.heap/\(∀b∈fp,H' b=none)/\W i m σ' H':=λ{sA σA HA} IA nA=>by
    obtain⟨m',hm,wA⟩:=hN σA HA nA;refine⟨m',hm,i+1,σA,HA,IA.lY,T.keep _ _ _ Tq λb hb o e=>(IA.pin (b,o) (ZF _ (ZF _ (jg hb e)))).1,λb hb=>?_,wA⟩;obtain⟨o,e,d⟩:=T.obj _ _ Tq b hb;exact(IA.pin (b,o) (ZF _ (ZF _ (jg hb e)))).2.1
   cases b with
   |false=>exact Zf ⟨rfl,C6 I9 (by simpa using q9)⟩
   |true=>rw[Zg rfl]at q9;refine Y8 (Y8 (wpAny_mono (he _ _ _ _ _ _ s9 σ8 H9 _ I9 q9) (λv sB ⟨y,HB,IB,rB,ys,hys,hlen,nB⟩=>?_) λ_ _ z=>z.elim));refine Y8 (wpAny_mono (rY (X:=bS X scope N' cl s3.heap.objs.size s3 (upd H2 s2.heap.objs.size (.lst [])) fp) _ sB σ8 HB (.ref s2.heap.objs.size) [y] _ [v] (λ_ HC=>HC=upd HB s2.heap.objs.size (.lst (ys++[y]))) IB rfl #[rB] ⟨_,ys,y,rfl,rfl,hys,hlen,rfl⟩) (λv' sC ⟨_,HC,IC,_,WG⟩=>?_) λ_ _ z=>z.elim);subst WG;exact Zf (Zf ⟨rfl,C6 IC nB⟩)
 rw[WC];have Tr:({ newEnv scope (s2.heap.push { cls:=.type "list",dict:=none,data:=.seq ([]:List Value).toArray }).objs.size X.env.globals cl X.env.qual none Value.none (some X.env) builtinsNs with scope:=relabel scope X.env }:Env)=compEnvC scope cl s3.heap.objs.size X.env:=by rw[eC];rfl
 have Tt:(newEnv scope (s2.heap.push { cls:=.type "list",dict:=none,data:=.seq ([]:List Value).toArray }).objs.size X.env.globals cl X.env.qual none Value.none (some X.env) builtinsNs).locals=s3.heap.objs.size:=by rw[eC];rfl
 rw[Tr,Tt];exact codeAny_compStart_list loop (T.self _ _ _ _ _ U6 loop)
theorem HF(hok:kJ X.N X.env.scope scope N' js=true)(hc:X.calm=true)(hi:PI X tg iter wi)(hg:∀cl C s H fp,PG (bS X scope N' cl C s H fp) tg g)
  (ht:∀cl C s H fp,Hz (bS X scope N' cl C s H fp) ifs tt) (he:∀cl C s H fp,PE (bS X scope N' cl C s H fp) elt te)
  (hs:∀x,foldedSetIterable iter X.env x=pure x):PE X (.ListComp elt [⟨tg,iter,ifs,0⟩] scope pos) (C5 wi js g tt te):=by
 intro pins s σ H Q I h;have ok:=sd hok;obtain⟨cl,Tu,hcl1,hcl2⟩:=pS (pU ok I.ok);rw[eval_ListComp];refine wpAny_comprehension_free (use:=none) rfl hs Tu ok.kind ok.names (cK (hi pins s σ H _ I h) λxv s1 h1=>cK h1 λitv s2 h2=>?_);obtain⟨it,fp,tn,J,H2,rfl,I2,T,st2,f2,rd⟩:=h2;refine vE (RR:=λacc C=>compPost (model X.prog X.w) X.A X.xe none (EP X pins σ Q) acc C) ok hc I2 T st2 f2 hcl1 hcl2 hg ht he rd ?_;intro D C s' H' m hC J' fC hm q;refine⟨m,hm,λh' hs'=>⟨.ref D,H',?_,rfl,q⟩⟩;refine J'.turned (t':=s'.toks) (λb o hb e=>hs'.extBut b o hb e) fC (ne_of_gt (Zn I2.lt hC)) (.inr (ZE I2.sz hC)) (λx c e z=>?_) λp hp z=>?_
 ·obtain⟨v,q'⟩:=I2.cell x c e;exact absurd (Zn q'.lt (by rw[z];exact hC)) (lt_irrefl _)
 ·exact absurd (Zn (Zj (I2.pin p hp).1) (by rw[z];exact hC)) (lt_irrefl _)
theorem HG{i:Nat}(hN:X.N.Nodup)(hx:X.N[i]?=some x)(hl:Loc X.env.scope x)(hok:kJ X.N X.env.scope scope N' js=true)(hc:X.calm=true)(hi:PI X tg iter wi)(hg:∀cl C s H fp,PG (bS X scope N' cl C s H fp) tg g)
  (ht:∀cl C s H fp,Hz (bS X scope N' cl C s H fp) ifs tt) (he:∀cl C s H fp,PE (bS X scope N' cl C s H fp) elt te)
  (hsw:swapsWith (.ListComp elt [⟨tg,iter,ifs,0⟩] scope pos) (some (.Name x pos')) spos.line X.env=pure true)
  (hf:X.fn x=true\/X.env.scope.names.lookup x=some .local)
  (hs:∀x,foldedSetIterable iter X.env x=pure x):PS X (.Assign [.Name x pos'] (.ListComp elt [⟨tg,iter,ifs,0⟩] scope pos) spos) (GR (C5 wi js g tt te) (rQ i)):=by
 intro pins s σ H D I h;have ok:=sd hok;obtain⟨cl,Tu,hcl1,hcl2⟩:=pS (pU ok I.ok);rw[exec_Assign_Name_used _ _ _ _ hsw];refine Y8 (wpAny_standAt (Y8 ?_));show wpAny _ X.A (do let _ <-comprehension (.ListComp elt [⟨tg,iter,ifs,0⟩] scope pos) scope X.env _ (newList []) false (eval iter X.env) (some (assign (.Name x pos') X.env))) _ _ s;refine Y8 (wpAny_mono (wpAny_comprehension_free (use:=some (assign (.Name x pos') X.env)) (Q:=λ_ s'=>SP X pins D .next s') rfl hs Tu ok.kind ok.names
  (cK (hi pins s σ H _ I h) λxv s1 h1=>cK h1 λitv s2 h2=>?_)) (λ_ s' hq=>Zf (Zf hq)) λ_ _ e=>e)
 obtain⟨it,fp,tn,J,H2,rfl,I2,T,st2,f2,rd⟩:=h2;refine vE (RR:=λacc C=>compPost (model X.prog X.w) X.A X.xe (some (assign (.Name x pos') X.env)) (λ_ s'=>SP X pins D .next s') acc C) (Q:=λx H1=>rQ i x σ H1 D.nx) ok hc I2 T st2 f2 hcl1 hcl2 hg ht he rd ?_;intro E C s' H' m hC J' fC hm q;have U7:C≠X.env.locals:=ne_of_gt (Zn I2.lt hC);have hCc:∀x c,X.env.cells.lookup x=some c->c≠C:=λx c e z=>by
  obtain⟨v,q'⟩:=I2.cell x c e;exact absurd (Zn q'.lt (by rw[z];exact hC)) (lt_irrefl _)
 refine cK (show wpAny _ X.A (assign (.Name x pos') X.env (.ref E)) (λ_ s''=>(∃Cq Lr,Inv X pins Cq Lr s''/\D.nx Cq Lr/\Lr C=none)/\∃m,s''.heap.Ns C m) X.xe s' from ?_) λ_ s'' ⟨⟨Cq,Lr,Tv,WH,Tw⟩,WI,Ls⟩=>?_
 ·refine wpAny_assign_Name (rP J' hN hx hl (show RelV (.ref E) (.ref E) from rfl) (λs'' Tv ⟨a,WJ,ha⟩=>⟨⟨_,H',Tv,q,fC⟩,m,?_⟩) hf)
  refine hm.sameBut WJ ?_
  rcases ha with z|z
  ·rw[z];exact U7
  ·exact λw=>hCc _ _ z w.symm
 ·refine⟨WI,Ls,λh' hs'=>⟨Cq,Lr,?_,WH⟩⟩;refine Tv.turned (t':=s''.toks) (λb o hb e=>hs'.extBut b o hb e) Tw U7 (.inr (ZE I2.sz hC)) hCc λp hp z=>?_;exact absurd (Zn (Zj (I2.pin p hp).1) (by rw[z];exact hC)) (lt_irrefl _)
end
theorem Inv.zx{X:Cx}{pins:List (Addr×Obj)}{σ:St}{H:Hp}{s:Shared}{h':Heap}{t':Nat}{ch:List Addr}(I:Inv X pins σ H s)(hf:∀b∈ch,oH X pins H b)
  (k:∀b o,b∉ch->s.heap.get? b=some o->h'.get? b=some o):Inv X pins σ H { s with heap:=h',toks:=t' }:=by
 have OE:∀b u,H b=some u->b∉ch:=λb u e z=>by rw[(hf b z).1]at e;cases e
 refine I.step (g':=s.gens) (d':=s.drawn) (ch:=ch) (λb hb=>?_) (λb o _ _ hc e _=>k b o hc e) (λb o _ _ hc e _=>⟨o.slots,k b o hc e⟩) (λ_ _ _ _ n=>n)
  (λb o hc e=>⟨o,k b o hc e⟩) (λ_ _ e=>e) (λ_ _ _ e=>e) (λb ps e=>⟨#[],by rw[e];simp⟩) (λm hm=>?_) (λb u e=>?_) I.bare
 ·exact⟨(hf b hb).2.2.2.1,(hf b hb).2.1,(hf b hb).2.2.2.2.1,(hf b hb).2.2.2.2.2⟩
 ·obtain⟨o,es,ep,ho,r⟩:=hm;exact⟨o,es,ep,k _ o (λz=>(hf _ z).2.1 rfl) ho,r⟩
 ·refine(I.hok b u e).stay (λc v hc q=>k c v ?_ q) (λ_ q=>q) λ_ _ q=>q
  rcases hc with z|z
  ·rw[z];exact OE b u e
  ·exact OE c _ z
end L2
end
section
namespace L2
open PySem PySem.W PyProof.Rows
namespace se
section
variable {O:KeyOrd} {key:Nat->O.α} {N:Nat} {cmp:Nat->Nat->(Bool->Shared->Prop)->Shared->Prop} {s:Shared}
def K(O:KeyOrd)(key:Nat->O.α)(p:Array Nat)(i:Nat):O.α:=key (p.getD i 0)
def Up(O:KeyOrd)(key:Nat->O.α)(p:Array Nat)(k:Nat):Prop:=∀i j,i<=j->j<k->O.kle (K O key p i) (K O key p j)
def Down(O:KeyOrd)(key:Nat->O.α)(p:Array Nat)(k:Nat):Prop:=∀i j,i<=j->j<k->O.kle (K O key p j) (K O key p i)
def HH(O:KeyOrd)(key:Nat->O.α)(N:Nat)(cmp:Nat->Nat->(Bool->Shared->Prop)->Shared->Prop)(s:Shared):Prop :=
 ∀i j (C:Bool->Shared->Prop),i<N->j<N->C (O.blt (key i) (key j)) s->cmp i j C s
def Ent(N:Nat)(p:Array Nat):Prop:=p.size=N/\0<N/\∀x∈p.toList,x<N
theorem Ent.at{p:Array Nat}(h:Ent N p)(i:Nat):p.getD i 0<N:=by
 by_cases hi:i<p.size
 ·have e:p.getD i 0=p[i]:=by simp[Array.getD,hi]
  rw[e];exact h.2.2 _ (by simp)
 ·have e:p.getD i 0=0:=by simp[Array.getD,hi]
  rw[e];exact h.2.1
theorem Ent.perm{p q:Array Nat}(h:Ent N p)(e:q.Perm p):Ent N q :=
 ⟨e.size_eq.trans h.1,h.2.1,λx hx=>h.2.2 x ((Array.perm_iff_toList_perm.mp e).mem_iff.mp hx)⟩
theorem K_congr{p q:Array Nat}{i j:Nat}(h:p[i]?=q[j]?):K O key p i=K O key q j:=by
 unfold K;rw[Array.getD_eq_getD_getElem?,Array.getD_eq_getD_getElem?,h]
theorem K_bubble{p:Array Nat}{src d:Nat}(hs:src<p.size)(hd:d<=src)(k:Nat) :
  K O key (bubble p src d) k=if k=src-d then K O key p src else if src-d<k/\k<=src then K O key p (k-1) else K O key p k:=by
 have e:=getElem?_bubble hs d hd k
 by_cases h1:k=src-d
 ·rw[Zg h1]at e |-;exact K_congr e
 ·rw[Zi h1]at e |-
  by_cases h2:src-d<k/\k<=src
  ·rw[Zg h2]at e |-;exact K_congr e
  ·rw[Zi h2]at e |-;exact K_congr e
theorem C7{p:Array Nat}{i j:Nat}(hj:j<=p.size)(k:Nat):K O key (kas_rev p i j) k=if i<=k/\k<j then K O key p (i+j-1-k) else K O key p k:=by
 have e:=getElem?_mirror_all (i:=i) hj k
 by_cases h1:i<=k/\k<j
 ·rw[Zg h1]at e |-;exact K_congr e
 ·rw[Zi h1]at e |-;exact K_congr e
theorem pV{p:Array Nat}{i j:Nat}(hj:j<=p.size)(h:∀k,i<=k->k<j->K O key p k=K O key p (j-1))(k:Nat):K O key (kas_rev p i j) k=K O key p k:=by
 rw[C7 hj]
 split
 ·rw[h _ (by omega) (by omega),h k (by omega) (by omega)]
 ·rfl
theorem vF{p:Array Nat}{m:Nat}(h:∀t,1<=t->t<m->O.kle (K O key p (t-1)) (K O key p t)):Up O key p m:=by
 intro i j hij hj
 induction j with
 |zero=>
  have:i=0:=by omega
  subst this;exact KeyOrd.kle_refl _
 |succ j ih=>
  by_cases e:i=j+1
  ·subst e;exact KeyOrd.kle_refl _
  ·exact KeyOrd.kle_trans (ih (by omega) (by omega)) (h (j+1) (by omega) hj)
theorem Lu(hA:HH O key N cmp s){p:Array Nat}(he:Ent N p):∀(f n:Nat) {Q:Nat->Shared->Prop},1<=n ->
  (∀m,n<=m->m<=n+f->(∀t,n<=t->t<m->O.kle (K O key p (t-1)) (K O key p t))->(m<n+f->O.klt (K O key p m) (K O key p (m-1)))->Q m s)->(kas_asc p f n).kasWp cmp Q s
 |0,n,Q,hn,h=>h n (Zm _) (Zm _) (λt h1 h2=>by omega) λq=>by omega
 | f+1,n,Q,hn,h=>by
  show cmp _ _ _ s;refine hA _ _ _ (he.at _) (he.at _) ?_;cases hb:O.blt (key (p.getD n 0)) (key (p.getD (n-1) 0)) with
  |true=>exact h n (Zm _) (by omega) (λt h1 h2=>by omega) λ_=>hb
  |false=>
   show (kas_asc p f (n+1)).kasWp cmp Q s;refine Lu hA he f (n+1) (by omega) λm h1 h2 h3 h4=>h m (by omega) (by omega) (λt t1 t2=>?_) λq=>h4 (by omega)
   by_cases e:t=n
   ·subst e;exact hb
   ·exact h3 t (by omega) t2
theorem zy(hA:HH O key N cmp s):∀(f:Nat) (p:Array Nat) (n q:Nat) {Q:Array Nat×Nat×Nat->Shared->Prop},Ent N p->1<=n->n+f<=N->q+1<=n->Down O key p n->(∀i,n-(q+1)<=i->i<n->K O key p i=K O key p (n-1)) ->
  (∀p' n' q',p'.Perm p->Ent N p'->1<=n'->n<=n'->n'<=n+f->q'+1<=n'->Down O key p' n'->(∀i,n'-(q'+1)<=i->i<n'->K O key p' i=K O key p' (n'-1))->Q (p',n',q') s)->(kas_desc f p n q).kasWp cmp Q s
 |0,p,n,q,Q,he,hn,hN,hq,hd,hl,h=>h p n q (Array.Perm.refl _) he hn (Zm _) (Zm _) hq hd hl
 | f+1,p,n,q,Q,he,hn,hN,hq,hd,hl,h=>by
  show cmp _ _ _ s;refine hA _ _ _ (he.at _) (he.at _) ?_;cases hb:O.blt (key (p.getD n 0)) (key (p.getD (n-1) 0)) with
  |true=>
   have hlt:O.klt (K O key p n) (K O key p (n-1)):=hb;have hd1:Down O key p (n+1):=λi j hij hj=>by
    by_cases e:j=n
    ·subst e
     by_cases e2:i=j
     ·subst e2;exact KeyOrd.kle_refl _
     ·exact KeyOrd.kle_trans (KeyOrd.kle_of_klt hlt) (hd i (j-1) (by omega) (by omega))
    ·exact hd i j hij (by omega)
   show (if q>0 then kas_desc f (kas_rev p (n-(q+1)) n) (n+1) 0 else kas_desc f p (n+1) 0).kasWp cmp Q s
   by_cases U8:q>0
   ·rw[Zg U8]
    have ep:(kas_rev p (n-(q+1)) n).Perm p:=mirror_perm _ _ _ _;have eK:∀k,K O key (kas_rev p (n-(q+1)) n) k=K O key p k:=λk=>pV (by rw[he.1];omega) hl k;refine zy hA f _ (n+1) 0 (he.perm ep) (by omega) (by omega) (by omega) (λi j hij hj=>by rw[eK,eK];exact hd1 i j hij hj) (λi h1 h2=>?_) λp' n' q' g1 g2 g3 g4 g5 g6 g7 g8=>h p' n' q' (g1.trans ep) g2 g3 (by omega) (by omega) g6 g7 g8;have:i=n:=by omega
    subst this;rfl
   ·rw[Zi U8]
    refine zy hA f p (n+1) 0 he (by omega) (by omega) (by omega) hd1 (λi h1 h2=>?_) λp' n' q' g1 g2 g3 g4 g5 g6 g7 g8=>h p' n' q' g1 g2 g3 (by omega) (by omega) g6 g7 g8;have:i=n:=by omega
    subst this;rfl
  |false=>
   show cmp _ _ _ s;refine hA _ _ _ (he.at _) (he.at _) ?_;cases hc:O.blt (key (p.getD (n-1) 0)) (key (p.getD n 0)) with
   |true=>exact h p n q (Array.Perm.refl _) he hn (Zm _) (by omega) hq hd hl
   |false=>
    have heq:K O key p n=K O key p (n-1):=O.total _ _ hb hc;show (kas_desc f p (n+1) (q+1)).kasWp cmp Q s;refine zy hA f p (n+1) (q+1) he (by omega) (by omega) (by omega) (λi j hij hj=>?_) (λi h1 h2=>?_) λp' n' q' g1 g2 g3 g4 g5 g6 g7 g8=>h p' n' q' g1 g2 g3 (by omega) (by omega) g6 g7 g8
    ·by_cases e:j=n
     ·subst e
      by_cases e2:i=j
      ·subst e2;exact KeyOrd.kle_refl _
      ·rw[heq];exact hd i (j-1) (by omega) (by omega)
     ·exact hd i j hij (by omega)
    ·show K O key p i=K O key p (n+1-1)
     rw[Nat.add_sub_cancel]
     by_cases e:i=n
     ·subst e;rfl
     ·rw[heq];exact hl i (by omega) (by omega)
theorem C8(hA:HH O key N cmp s){p:Array Nat}{n nrem:Nat}(he:Ent N p)(h1:1<=n)(hn:n<=nrem)(hr:nrem<=N)(hd:Down O key p n)
  (h:∀m p',p'.Perm p->Ent N p'->1<=m->m<=nrem->Up O key p' m->Q (m,p') s):(kas_tail3 n nrem p).kasWp cmp Q s:=by
 unfold kas_tail3;rw[KasT.kasWp_bind];have ep:(kas_rev p 0 n).Perm p:=mirror_perm _ _ _ _;have hz:n<=p.size:=by rw[he.1];omega
 refine Lu hA (he.perm ep) _ _ h1 λm a1 a2 a3 _=>h m _ ep (he.perm ep) (by omega) (by omega) (vF λt t1 t2=>?_)
 by_cases e:t<n
 ·rw[C7 hz,C7 hz,Zg (by omega),Zg (by omega)];exact hd _ _ (by omega) (by omega)
 ·exact a3 t (by omega) t2
theorem sf(hA:HH O key N cmp s){p:Array Nat}{n nrem:Nat}(he:Ent N p)(hn:n+1<=nrem)(hr:nrem<=N)(hd:Down O key p (n+1))
  (h:∀m p',p'.Perm p->Ent N p'->1<=m->m<=nrem->Up O key p' m->Q (m,p') s):(kas_descPart n nrem p).kasWp cmp Q s:=by
 unfold kas_descPart;rw[KasT.kasWp_bind];have Pw:∀i,n+1-(0+1)<=i->i<n+1->K O key p i=K O key p (n+1-1):=λi h1 h2=>by
  have e:i=n:=by omega
  subst e;rfl
 refine zy hA (nrem-(n+1)) p (n+1) 0 he (by omega) (by omega) (by omega) hd Pw λp' n' q' g1 g2 g3 g4 g5 g6 g7 g8=>?_;show (if q'>0 then kas_tail3 n' nrem (kas_rev p' (n'-(q'+1)) n') else kas_tail3 n' nrem p').kasWp cmp Q s
 by_cases hq:q'>0
 ·rw[Zg hq];have ep:(kas_rev p' (n'-(q'+1)) n').Perm p':=mirror_perm _ _ _ _;have eK:∀k,K O key (kas_rev p' (n'-(q'+1)) n') k=K O key p' k:=λk=>pV (by rw[g2.1];omega) g8 k;exact C8 hA (g2.perm ep) g3 (by omega) hr (λi j hij hj=>by rw[eK,eK];exact g7 i j hij hj) λm p'' a1 a2 a3 a4 a5=>h m p'' ((a1.trans ep).trans g1) a2 a3 a4 a5
 ·rw[Zi hq];exact C8 hA g2 g3 (by omega) hr g7 λm p'' a1 a2 a3 a4 a5=>h m p'' (a1.trans g1) a2 a3 a4 a5
theorem Lv(hA:HH O key N cmp s){p:Array Nat}{nrem:Nat}(he:Ent N p)(h1:1<=nrem)(hr:nrem<=N)
  (h:∀m p',p'.Perm p->Ent N p'->1<=m->m<=nrem->Up O key p' m->Q (m,p') s):(kas_count nrem p).kasWp cmp Q s:=by
 unfold kas_count;rw[KasT.kasWp_bind];refine Lu hA he _ _ (Zm _) λn a1 a2 a3 a4=>?_;have hup:Up O key p n:=vF λt t1 t2=>a3 t t1 t2
 by_cases e1:(n==nrem)=true
 ·rw[Zg e1];exact h n p (Array.Perm.refl _) he a1 (by omega) hup
 ·rw[Zi e1]
  have YU:n≠nrem:=λz=>e1 (by simp[z]);have hlt:O.klt (K O key p n) (K O key p (n-1)):=a4 (by omega)
  by_cases e2:n>1
  ·rw[Zg e2]
   show cmp _ _ _ s;refine hA _ _ _ (he.at _) (he.at _) ?_;cases hc:O.blt (key (p.getD 0 0)) (key (p.getD (n-1) 0)) with
   |true=>exact h n p (Array.Perm.refl _) he a1 (by omega) hup
   |false=>
    have hle:O.kle (K O key p (n-1)) (K O key p 0):=hc;have ep:(kas_rev p 0 n).Perm p:=mirror_perm _ _ _ _;have hall:∀k,0<=k->k<n->K O key p k=K O key p (n-1):=λk _ hk=>
     KeyOrd.kle_antisymm (hup k (n-1) (by omega) (by omega)) (KeyOrd.kle_trans hle (hup 0 k (by omega) hk))
    have eK:∀k,K O key (kas_rev p 0 n) k=K O key p k:=λk=>pV (by rw[he.1];omega) hall k;show (kas_descPart n nrem (kas_rev p 0 n)).kasWp cmp Q s;refine sf hA (he.perm ep) (by omega) hr (λi j hij hj=>?_) λm p' b1 b2 b3 b4 b5=>h m p' (b1.trans ep) b2 b3 b4 b5;rw[eK,eK]
    by_cases ej:j=n
    ·subst ej
     by_cases ei:i=j
     ·subst ei;exact KeyOrd.kle_refl _
     ·rw[hall i (by omega) (by omega)];exact KeyOrd.kle_of_klt hlt
    ·rw[hall i (by omega) (by omega),hall j (by omega) (by omega)];exact KeyOrd.kle_refl _
  ·rw[Zi e2]
   have en:n=1:=by omega
   subst en;refine sf hA he (by omega) hr (λi j hij hj=>?_) λm p' b1 b2 b3 b4 b5=>h m p' b1 b2 b3 b4 b5
   by_cases ei:i=j
   ·subst ei;exact KeyOrd.kle_refl _
   ·have:i=0/\j=1:=by omega
    obtain⟨rfl,rfl⟩:=this;exact KeyOrd.kle_of_klt hlt
theorem yt(hA:HH O key N cmp s){p:Array Nat}{k:Nat}(he:Ent N p)(hs:Up O key p k):∀(f l r:Nat) {Q:Nat->Shared->Prop},l<=r->r<=k->r-l<=f ->
  (∀i,i<l->O.kle (K O key p i) (K O key p k))->(∀i,r<=i->i<k->O.klt (K O key p k) (K O key p i)) ->
  (∀l',l'<=k->(∀i,i<l'->O.kle (K O key p i) (K O key p k))->(∀i,l'<=i->i<k->O.klt (K O key p k) (K O key p i))->Q l' s)->(kas_place p k f l r).kasWp cmp Q s
 | 0,l,r,Q,hlr,hrk,hf,hlo,hhi,h=>by
  have:l=r:=by omega
  subst this;exact h l hrk hlo hhi
 | f+1,l,r,Q,hlr,hrk,hf,hlo,hhi,h=>by
  show (if l≥r then KasT.ret l else _).kasWp cmp Q s
  by_cases hge:l≥r
  ·rw[Zg hge]
   have:l=r:=by omega
   subst this;exact h l hrk hlo hhi
  ·rw[Zi hge]
   show cmp _ _ _ s;refine hA _ _ _ (he.at _) (he.at _) ?_;cases hb:O.blt (key (p.getD k 0)) (key (p.getD ((l+r)/2) 0)) with
   |true=>show (kas_place p k f l ((l+r)/2)).kasWp cmp Q s;exact yt hA he hs f l ((l+r)/2) (by omega) (by omega) (by omega) hlo (λi h1 h2=>KeyOrd.klt_of_klt_of_kle hb (hs _ _ h1 h2)) h
   |false=>show (kas_place p k f ((l+r)/2+1) r).kasWp cmp Q s;exact yt hA he hs f ((l+r)/2+1) r (by omega) (by omega) (by omega) (λi h1=>KeyOrd.kle_trans (hs i ((l+r)/2) (by omega) (by omega)) hb) hhi h
theorem Px(hA:HH O key N cmp s):∀(f:Nat) (p:Array Nat) (k:Nat) {Q:Array Nat->Shared->Prop},Ent N p->k+f<=N->Up O key p k->(∀p',p'.Perm p->Up O key p' (k+f)->Q p' s)->(kas_bin f p k).kasWp cmp Q s
 |0,p,k,Q,he,hk,hs,h=>h p (Array.Perm.refl _) hs
 | f+1,p,k,Q,he,hk,hs,h=>by
  show ((kas_place p k k 0 k).bind λl=>kas_bin f (bubble p k (k-l)) (k+1)).kasWp cmp Q s;rw[KasT.kasWp_bind];refine yt hA he hs k 0 k (by omega) (by omega) (by omega) (λi hi=>by omega) (λi h1 h2=>by omega) λl hl hlo hhi=>?_;have ep:(bubble p k (k-l)).Perm p:=bubble_perm _ _ _;have hks:k<p.size:=by rw[he.1];omega
  refine Px hA f _ (k+1) (he.perm ep) (by omega) (λi j hij hj=>?_) λp' a1 a2=>h p' (a1.trans ep) (by rwa [show k+(f+1)=k+1+f by omega]);rw[K_bubble hks (by omega),K_bubble hks (by omega),show k-(k-l)=l by omega]
  repeat' split
  all_goals first
   |(exfalso;omega)
   |exact KeyOrd.kle_refl _
   |exact hlo _ (by omega)
   |exact KeyOrd.kle_of_klt (hhi _ (by omega) (by omega))
   |exact hs _ _ (by omega) (by omega)
theorem Py(hA:HH O key N cmp s)(h1:1<=N)(h:∀p,p.Perm (toArray (List.range N))->Up O key p N->Q p s):(kas_sort N).kasWp cmp Q s:=by
 unfold kas_sort;rw[KasT.kasWp_bind];have he:Ent N (toArray (List.range N)):=⟨by simp,h1,λx hx=>by simpa using hx⟩;refine Lv hA he h1 (Zm _) λm p a1 a2 a3 a4 a5=>?_;show (if m<N then kas_bin (N-max m 1) p (max m 1) else KasT.ret p).kasWp cmp Q s;have em:max m 1=m:=by omega
 by_cases hlt:m<N
 ·rw[Zg hlt,em];exact Px hA _ p m a2 (by omega) a5 λp' b1 b2=>h p' (b1.trans a1) (by rwa [show m+(N-m)=N by omega]at b2)
 ·rw[Zi hlt]
  have:m=N:=by omega
  subst this;exact h p a1 a5
end
end se
namespace se
theorem dX{α:Type}(l:List α)(d:α):(List.range l.length).map (λi=>l.getD i d)=l:=by
 refine ext_getElem (by simp) λi h1 h2=>?_;simp[h2]
section
variable {prog:Program} {w:World} {A:Around} {E:Value->Shared->Prop} {s:Shared}
def sj(prog:Program)(w:World)(A:Around)(O:KeyOrd)(key:Nat->O.α)(vs:List Value)(s6:Shared):Prop :=
 wpAny (model prog w) A (keyKind' vs.toArray) (λκ s'=>s'=s6/\HH O key vs.length (kas_ask prog w A κ vs) s6) (λ_ _=>False) s6
structure C9 (O:KeyOrd) (key:Nat->O.α) (n:Nat) (p:List Nat):Prop where
 perm:p.Perm (List.range n)
 up:(p.map key).Pairwise O.kle
theorem HJ{n:Nat}{p:Array Nat}(h1:p.Perm (toArray (List.range n)))(h2:Up O key p n):C9 O key n p.toList:=by
 have hp:p.toList.Perm (List.range n):=by simpa using Array.perm_iff_toList_perm.mp h1
 refine⟨hp,List.pairwise_iff_getElem.mpr λi j hi hj hij=>?_⟩;have hz:p.toList.length=n:=by rw[hp.length_eq,length_range]
 rw[Ze]at hi hj;have q:=h2 i j (le_of_lt hij) (by omega);have ei:p.getD i 0=p.toList[i]:=by simp at hi;simp[Array.getD,hi]
 have ej:p.getD j 0=p.toList[j]:=by simp at hj;simp[Array.getD,hj]
 unfold K at q;rw[ei,ej]at q;rw[getElem_map,getElem_map];exact q
theorem Dc{n:Nat}(ho:s.heap.get? a=some (seqObj "list" vs.toArray n))(h64:vs.length<64)
  (hk:2<=vs.length->∀h6:Heap,(∀b o,b≠a->s.heap.get? b=some o->h6.get? b=some o)->sj prog w A O key vs { s with heap:=h6 })
  (h:∀p,C9 O key vs.length p->P (.done (.ret .none)) { s with heap:=sortedHeap s.heap a vs (p.map λi=>vs.getD i Value.none).toArray }) :
  wpAny (model prog w) A (Builtin.«list.sort» ⟨[.ref a],[]⟩) P E s:=by
 have alt:a<s.heap.objs.size:=Zj ho;have big:vs.length<=sizeLine:=by rw[sizeLine_eq];omega
 rw[list_sort_plain];apply Y8;apply listItems_at ho rfl;apply Y8;refine listUpdate_at ho rfl ?_ (by rw[Zq];exact big) (zero_le _);have q1:=get?_update_seq ho (λ_=>(#[]:Array Value));apply Y8;apply seqEpoch_at q1 rfl;apply Y8;refine wpAny_newTuple ?_ (by show vs.length<=sizeLine;exact big);apply Y8;refine wpAny_newList ?_ (zero_le _);apply wpAny_holding;generalize hN:((s.heap.update a (Obj.mapSeq λ_=>(#[]:Array Value))).push (seqObj "tuple" vs.toArray 0)).push (seqObj "list" #[] 0)=h6;have Pz:∀b o,b≠a->s.heap.get? b=some o->h6.get? b=some o:=λb o hb e=>by
  rw[<-hN];refine Zc _ (Zc _ ?_);rw[Heap.get?_update_ne _ _ _ _ hb];exact e
 have q6:h6.get? a=some (seqObj "list" #[] (if (#[]:Array Value).size==vs.toArray.size then n else n+1)):=by rw[<-hN];exact Zc _ (Zc _ q1)
 have eS:∀out,h6.update a (Obj.mapSeq λ_=>out)=sortedHeap s.heap a vs out:=λout=>by rw[<-hN];rfl
 show wpAny (model prog w) A _ P E { s with heap:=h6 };dsimp only
 by_cases h2:vs.toArray.size<2
 ·rw[Zg h2,Zg h2]
  apply Y8;apply Zf;rw[StateT.run_pure];apply Y8;apply Zf;dsimp only;have eo:(arrOf (SortSt.mk' general' (vs.toArray.zip vs.toArray) #[] 7 none)).map (·.2)=vs.toArray:=by show (vs.toArray.zip vs.toArray).map (·.2)=vs.toArray;apply Array.toList_inj.mp;simp[List.map_snd_zip]
  rw[eo];apply Y8;apply seqEpoch_at q6 rfl;apply Y8;refine listUpdate_at q6 rfl ?_ (zero_le _) (by show vs.toArray.size<=_;rw[Zq];omega);have hb:((if (#[]:Array Value).size==vs.toArray.size then n else n+1) != (if (#[]:Array Value).size==vs.toArray.size then n else n+1))=false:=by simp
  rw[eS];simp only[hb,false_eq_true,if_false];apply Zf;have g:=h (List.range vs.length) ⟨List.Perm.refl _,?_⟩
  ·rw[dX]at g;exact g
  ·rw[Zq]at h2;refine List.pairwise_iff_getElem.mpr λi j hi hj hij=>?_;simp at hi hj;omega
 ·rw[Zi h2,Zi h2]
  rw[Zq]at h2;have ask:=hk (by omega) h6 Pz;apply Y8;refine wpAny_mono ask (λκ s0 hκ=>?_) λ_ _ x=>x.elim;obtain⟨rfl,WK⟩:=hκ;apply Y8;refine wpAny_mono (kat_run (Q:=λst' s'=>s'={ s with heap:=h6 }/\∃p:Array Nat,C9 O key vs.length p.toList/\p.size=vs.length/\(arrOf st').map (·.2)=(p.toList.map λi=>vs.getD i Value.none).toArray/\failedOf st'=none)
   (G:=λp s'=>s'={ s with heap:=h6 }/\C9 O key vs.length p.toList) rfl (by omega) h64 (λp st' s' a1 a2 a3 a4=>⟨a4.1,p,a4.2,a1,kat_snds rfl a2,a3⟩)
   (Py WK (by omega) λp b1 b2=>⟨rfl,HJ b1 b2⟩)) ?_ λ_ _ x=>x
  rintro⟨⟨⟩,st'⟩ s' ⟨rfl,p,op,pz,er,ef⟩;dsimp only;rw[er];apply Y8;apply seqEpoch_at q6 rfl;apply Y8;refine listUpdate_at q6 rfl ?_ (zero_le _) (by show (toArray _).size<=_;rw[Zq,Ze,ZH,pz];omega);have hb:((if (#[]:Array Value).size==vs.toArray.size then n else n+1) != (if (#[]:Array Value).size==vs.toArray.size then n else n+1))=false:=by simp
  rw[eS,ef];simp only[hb,false_eq_true,if_false];exact Zf (h p.toList op)
theorem jT
  (h:wpAny (model prog w) A.in1 (collect x) (λvs s1=>vs.length<64/\∃key:Nat->O.α,(2<=vs.length->∀h6:Heap,(∀b o,s1.heap.get? b=some o->h6.get? b=some o)->sj prog w A.in1.in1 O key vs { s1 with heap:=h6 }) /\
   ∀p h',C9 O key vs.length p->(∀b o,s1.heap.get? b=some o->h'.get? b=some o)->(∃e,h'.get? s1.heap.objs.size=some (seqObj "list" (p.map λi=>vs.getD i Value.none).toArray e))->Q (.ref s1.heap.objs.size) { s1 with heap:=h' }) E s) :
  wpAny (model prog w) A (call (.builtin "sorted") [x]) Q E s:=by
 refine Calls.call_function_entry kind_sorted plain_sorted entry_sorted (args_sorted1 _) ?_;unfold Builtin.«sorted»;refine Y8 (m:=checkCount "sorted" 1 1 _) (Zf ?_);apply Y8;refine wpAny_mono h (λvs s1 ⟨h64,key,hk,hq⟩=>?_) λ_ _ z=>z;have big:vs.length<=sizeLine:=by rw[sizeLine_eq];omega
 apply Y8;refine wpAny_newList ?_ big;have q:(s1.heap.push (seqObj "list" vs.toArray 0)).get? s1.heap.objs.size=some (seqObj "list" vs.toArray 0):=Zr _ rfl;apply Y8;apply wpAny_holding;refine wpAny_call_entry (s:={ s1 with heap:=s1.heap.push (seqObj "list" vs.toArray 0) }) slot_list_sort ⟨_,q,rfl⟩ entry_list_sort ?_ (args_list_sort _);refine Dc (key:=key) (s:={ s1 with heap:=s1.heap.push (seqObj "list" vs.toArray 0) }) q h64 (λh2 h6 k6=>?_) λp op=>⟨_,rfl,Zf ⟨_,rfl,?_⟩⟩
 ·exact hk h2 h6 λb o e=>k6 b o (Zt (Zj e)) (Zc _ e)
 ·refine hq p _ op (λb o e=>?_) (sortedHeap_at q);rw[sortedHeap_old (Zt (Zj e)) (by rw[size_push'];exact lt_succ_of_lt (Zj e))];exact Zc _ e
end
def yu:KeyOrd where
 α:=Int
 blt:=λa b=>decide (a<b)
 irrefl:=λa=>by simp
 trans:=λa b c h1 h2=>by simp at *;omega
 negTrans:=λa b c h=>by simp at *;omega
 total:=λa b h1 h2=>by simp at *;omega
theorem yv{s6:Shared}{ns:List Int}(hI:IntsAre vs ns)(h2:2<=vs.length):sj prog w A yu (λi=>ns.getD i 0) vs s6:=by
 have at_:∀i,i<vs.length->∃t,vs.getD i Value.none=.int (ns.getD i 0) t:=by
  intro i hi
  induction hI generalizing i with
  |nil=>simp at hi
  |cons z t r ih=>
   cases i with
   |zero=>exact⟨t,by simp⟩
   |succ i=>
    by_cases hr:2<=1
    ·omega
    ·simp only[length_cons]at hi
     have aux:∀{vs:List Value} {ns:List Int},IntsAre vs ns->∀i,i<vs.length->∃t,vs.getD i Value.none=.int (ns.getD i 0) t:=by
      intro vs ns q
      induction q with
      |nil=>intro i hi;simp at hi
      |cons z t r ih=>
       intro i hi;cases i with
       |zero=>exact⟨t,by simp⟩
       |succ i=>simp only[length_cons]at hi;obtain⟨u,e⟩:=ih i (by omega);exact⟨u,by simpa using e⟩
     obtain⟨u,e⟩:=aux r i (by omega);exact⟨u,by simpa using e⟩
 obtain⟨v₁,v₂,rest,rfl⟩:∃v₁ v₂ rest,vs=v₁::v₂::rest:=by
  match vs,h2 with
  |v₁::v₂::rest,_=>exact⟨v₁,v₂,rest,rfl⟩
 unfold sj;rw[keyKind_ints hI];refine Zf ⟨rfl,λi j C hi hj hc=>?_⟩;obtain⟨t,e1⟩:=at_ i hi;obtain⟨u,e2⟩:=at_ j hj;unfold kas_ask;rw[e1,e2,keyLt'_oneType];exact oneLt_int hc
theorem jl:∀a,HT.lexLt a a=false
 |[]=>rfl
 |x::xs=>by rw[HT.gy,Zg rfl];exact jl xs
theorem ic:∀a b,HT.lexLt a b=false->HT.lexLt b a=false->a=b
 |[],[],_,_=>rfl
 |[],_::_,h,_=>by rw[HT.gz]at h;cases h
 |_::_,[],_,h=>by rw[HT.gz]at h;cases h
 | x::xs,y::ys,h1,h2=>by
  rw[HT.gy]at h1 h2
  by_cases e:x=y
  ·subst e;rw[Zg rfl]at h1 h2;rw[ic xs ys h1 h2]
  ·rw[Zi e]at h1;rw[Zi (λz=>e z.symm)]at h2;simp at h1 h2;omega
theorem iu:∀a b c,HT.lexLt a b=true->HT.lexLt b c=true->HT.lexLt a c=true
 |[],[],c,h,_=>by rw[HT.rj]at h;cases h
 |[],_::_,[],_,h=>by rw[HT.dW]at h;cases h
 |[],_::_,_::_,_,_=>rfl
 |_::_,[],_,h,_=>by rw[HT.dW]at h;cases h
 |_::_,_::_,[],_,h=>by rw[HT.dW]at h;cases h
 | x::xs,y::ys,z::zs,h1,h2=>by
  rw[HT.gy]at h1 h2 |-
  by_cases e1:x=y
  ·subst e1
   rw[Zg rfl]at h1
   by_cases e2:x=z
   ·subst e2;rw[Zg rfl]at h2 |-;exact iu xs ys zs h1 h2
   ·rw[Zi e2]at h2 |-;exact h2
  ·rw[Zi e1]at h1
   by_cases e2:y=z
   ·subst e2;rw[Zi e1];exact h1
   ·rw[Zi e2]at h2;simp at h1 h2;rw[Zi (by omega)];simp;omega
theorem su(a b c:List Int)(h:HT.lexLt a c=true):HT.lexLt a b=true\/HT.lexLt b c=true:=by
 cases h1:HT.lexLt a b with
 |true=>exact .inl rfl
 |false=>
  cases h2:HT.lexLt b c with
  |true=>exact .inr rfl
  |false=>
   cases h3:HT.lexLt b a with
   |true=>have:=iu _ _ _ h3 h;rw[h2]at this;cases this
   |false=>rw[ic _ _ h1 h3]at h;rw[h2]at h;cases h
def lexOrd:KeyOrd where
 α:=List Int
 blt:=HT.lexLt
 irrefl:=jl
 trans:=iu
 negTrans:=su
 total:=ic
section
variable {prog:Program} {w:World} {A:Around} {s:Shared}
theorem nX{b fin:Bool}:∀{us vs:List Value} {ns ms:List Int} (i:Nat),IntsAre us ns->IntsAre vs ms->(ns.length<ms.length↔fin=true)->us.length=ns.length ->
  Q (HT.lexLt ns ms) s->(ns.length=ms.length\/i=i)->(∀k,k<ns.length->k<ms.length->True)->(ns.length≠ms.length->True)->(fin=decide (ns.length<ms.length))->KatLex prog w A b fin Q (us.zip vs) i s
 | _,_,_,_,i,.nil,.nil,_,_,hq,_,_,_,hf=>by
  refine kat_nil ?_;rw[hf];exact hq
 | _,_,_,_,i,.nil,.cons _ _ _,_,_,hq,_,_,_,hf=>by
  refine kat_nil ?_;rw[hf];simpa [HT.gz] using hq
 | _,_,_,_,i,.cons _ _ _,.nil,_,_,hq,_,_,_,hf=>by
  refine kat_nil ?_;rw[hf];simpa [HT.dW] using hq
 | _,_,_,_,i,.cons x t r,.cons y u r',h1,h2,hq,_,_,_,hf=>by
  refine kat_cons (wpAny_eqBool_int ?_);rw[HT.gy]at hq
  by_cases e:x=y
  ·subst e
   rw[Zg rfl]at hq;rw[beq_self_eq_true];refine kat_yes (nX (i+1) r r' ?_ ?_ hq (.inr rfl) (λ_ _ _=>trivial) (λ_=>trivial) ?_)
   ·simpa using h1
   ·simpa using h2
   ·rw[hf];simp
  ·rw[Zi e]at hq
   rw[show (x==y)=false from ZM.mpr e];refine kat_no ?_;cases hb:(b&&i==0) with
   |true=>exact oneLt_int hq
   |false=>exact kat_one _ _ (PyProof.Rows.lt_int hq)
end
end se
end L2
end
section
namespace L2
open PySem PySem.Spec PyProof.Rows
def Tz:Key->PyData
 |.inl i=>.int i
 |.inr x=>.str x
mutual
noncomputable def Den(K:Frag)(H:Hp):PyData->V->Prop
 |.none,v=>v=.non
 |.bool b,v=>v=.bl b
 |.int i,v=>v=.int i
 |.str x,v=>v=.str x
 |.list ds,v=>∃a xs,v=.ref a/\gm K H a xs/\dU K H ds xs
 |.tuple ds,v=>∃a xs,v=.ref a/\jO K H a xs/\dU K H ds xs
 |.dict kvs,v=>∃a ks,v=.ref a/\H a=some (.dK ks)/\l8 K H kvs ks
noncomputable def dU(K:Frag)(H:Hp):List PyData->List V->Prop
 |[],xs=>xs=[]
 |d::ds,xs=>∃x r,xs=x::r/\Den K H d x/\dU K H ds r
noncomputable def l8(K:Frag)(H:Hp):List (PyData×PyData)->List (Key×V)->Prop
 |[],ks=>ks=[]
 |(k,d)::r,ks=>∃key x rest,ks=(key,x)::rest/\k=Tz key/\Den K H d x/\l8 K H r rest
end
theorem yq.tup{K:Frag}{H H':Hp}{a:Addr}{xs:List V}(e:yq H H')(h:jO K H a xs):jO K H' a xs:=by
 rcases h with (h|⟨o,h⟩)|h
 ·exact .inl (.inl (e _ _ h))
 ·exact .inl (.inr ⟨o,e _ _ h⟩)
 ·exact .inr h
section
variable {K:Frag} {H H':Hp}
mutual
theorem Den.same(e:yq H H'):∀(d:PyData) (v:V),Den K H d v->Den K H' d v
 |.none,_,h=>by rw[Den]at h |-;exact h
 |.bool _,_,h=>by rw[Den]at h |-;exact h
 |.int _,_,h=>by rw[Den]at h |-;exact h
 |.str _,_,h=>by rw[Den]at h |-;exact h
 | .list ds,v,h=>by
  rw[Den]at h |-;obtain⟨a,xs,q1,q2,q3⟩:=h;exact⟨a,xs,q1,e.seq q2,dU.same e ds xs q3⟩
 | .tuple ds,v,h=>by
  rw[Den]at h |-;obtain⟨a,xs,q1,q2,q3⟩:=h;exact⟨a,xs,q1,e.tup q2,dU.same e ds xs q3⟩
 | .dict kvs,v,h=>by
  rw[Den]at h |-;obtain⟨a,ks,q1,q2,q3⟩:=h;exact⟨a,ks,q1,e _ _ q2,l8.same e kvs ks q3⟩
theorem dU.same(e:yq H H'):∀(ds:List PyData) (xs:List V),dU K H ds xs->dU K H' ds xs
 |[],_,h=>by rw[dU]at h |-;exact h
 | d::ds,xs,h=>by
  rw[dU]at h |-;obtain⟨x,r,q1,q2,q3⟩:=h;exact⟨x,r,q1,Den.same e d x q2,dU.same e ds r q3⟩
theorem l8.same(e:yq H H'):∀(kvs:List (PyData×PyData)) (ks:List (Key×V)),l8 K H kvs ks->l8 K H' kvs ks
 |[],_,h=>by rw[l8]at h |-;exact h
 | (k,d)::r,ks,h=>by
  rw[l8]at h |-;obtain⟨key,x,rest,q1,q2,q3,q4⟩:=h;exact⟨key,x,rest,q1,q2,Den.same e d x q3,l8.same e r rest q4⟩
end
theorem dU.nil:dU K H [] []:=by rw[dU]
theorem dU.cons{d:PyData}{ds:List PyData}{x:V}{r:List V}(h1:Den K H d x)(h2:dU K H ds r):dU K H (d::ds) (x::r):=by rw[dU];exact⟨x,r,rfl,h1,h2⟩
theorem Den.int{i:Int}:Den K H (.int i) (.int i):=by rw[Den]
theorem Den.str:Den K H (.str x) (.str x):=by rw[Den]
theorem Den.bool{b:Bool}:Den K H (.bool b) (.bl b):=by rw[Den]
theorem Den.none:Den K H .none .non:=by rw[Den]
theorem Den.list(h:gm K H a xs)(q:dU K H ds xs):Den K H (.list ds) (.ref a):=by rw[Den];exact⟨a,xs,rfl,h,q⟩
theorem Den.tuple(h:jO K H a xs)(q:dU K H ds xs):Den K H (.tuple ds) (.ref a):=by rw[Den];exact⟨a,xs,rfl,h,q⟩
end
section
variable {X:Cx} {pins:List (Addr×Obj)} {σ:St} {H:Hp} {s:Shared}
mutual
theorem Den.reads(I:Inv X pins σ H s):∀(d:PyData) (v:V) (u:Value),d.canLay0=true->Den X.K H d v->RelV v u->∃as,Reads s.heap u d as
 |.none,v,u,_,h,r=>by rw[Den]at h;subst h;cases r;exact⟨_,.none⟩
 |.bool b,v,u,_,h,r=>by rw[Den]at h;subst h;cases r;exact⟨_,.bool b⟩
 |.int i,v,u,_,h,r=>by rw[Den]at h;subst h;obtain⟨t,rfl⟩:=r;exact⟨_,.int i t⟩
 |.str x,v,u,_,h,r=>by rw[Den]at h;subst h;obtain⟨t,rfl⟩:=r;exact⟨_,.str x t⟩
 | .list ds,v,u,c,h,r=>by
  rw[Den]at h;obtain⟨a,xs,rfl,q1,q2⟩:=h;cases r;obtain⟨its,rv,⟨o,n,e1,e2,_,e3⟩,_⟩:=I.list q1;obtain⟨as,ra⟩:=dU.reads I ds xs its (by simpa [PyData.canLay0] using c) q2 rv;exact⟨_,.list e1 e2 e3 (by simpa using ra)⟩
 | .tuple ds,v,u,c,h,r=>by
  rw[Den]at h;obtain⟨a,xs,rfl,q1,q2⟩:=h;cases r;obtain⟨its,rv,⟨o,e1,e2,n,e3⟩,_⟩:=I.tuple q1;obtain⟨as,ra⟩:=dU.reads I ds xs its (by simpa [PyData.canLay0] using c) q2 rv;exact⟨_,.tuple e1 e2 e3 (by simpa using ra)⟩
 |.dict _,_,_,c,_,_=>by simp[PyData.canLay0]at c
theorem dU.reads(I:Inv X pins σ H s):∀(ds:List PyData) (xs:List V) (us:List Value),PyData.canLayAll0 ds=true->dU X.K H ds xs->Vals xs us->∃as,ReadsAll s.heap us ds as
 |[],xs,us,_,h,r=>by rw[dU]at h;subst h;cases r;exact⟨_,.nil⟩
 | d::ds,xs,us,c,h,r=>by
  have c':d.canLay0=true/\PyData.canLayAll0 ds=true:=by simpa [PyData.canLayAll0] using c
  rw[dU]at h;obtain⟨x,rest,rfl,q1,q2⟩:=h;cases r with
  |cons r1 r2=>obtain⟨as,ra⟩:=Den.reads I d x _ c'.1 q1 r1;obtain⟨bs,rb⟩:=dU.reads I ds rest _ c'.2 q2 r2;exact⟨_,.cons ra rb⟩
end
end
section
variable {X:Cx}
def TF(K:Frag):R2:=λx y H Q=>∃d e,Den K H d x/\Den K H e y/\d.canLay0=true/\e.canLay0=true/\d.depth<=60/\Q (.bl (PyData.eqv d e)) H
def TH(K:Frag):R2:=λx y H Q=>∃d e,Den K H d x/\Den K H e y/\d.canLay0=true/\e.canLay0=true/\d.depth<=60/\Q (.bl (!PyData.eqv d e)) H
theorem Lw(hu:X.A.units+64<cLine):oZ X (compareOp .Eq) (TF X.K):=by
 intro pins s σ H x y v u Q I rx ry h;obtain⟨d,e,hd,he,c1,c2,hz,q⟩:=h;obtain⟨as,ra⟩:=Den.reads I d x v c1 hd rx;obtain⟨bs,rb⟩:=Den.reads I e y u c2 he ry;exact SeqAt.compareEq_reads ra rb c1 c2 (by have:=Nat.min_le_left d.depth e.depth;omega) ⟨.bl _,H,I,rfl,q⟩
theorem Lx(hu:X.A.units+64<cLine):oZ X (compareOp .NotEq) (TH X.K):=by
 intro pins s σ H x y v u Q I rx ry h;obtain⟨d,e,hd,he,c1,c2,hz,q⟩:=h;obtain⟨as,ra⟩:=Den.reads I d x v c1 hd rx;obtain⟨bs,rb⟩:=Den.reads I e y u c2 he ry;exact SeqAt.compareNe_reads ra rb c1 c2 (by have:=Nat.min_le_left d.depth e.depth;omega) ⟨.bl _,H,I,rfl,q⟩
theorem pW{ns:List Int}(I:Inv X pins σ H s)(hq:gm X.K H p (ns.map V.int))(h64:ns.length<64)
  (q:∀l,H l=none->Q (.ref l) (upd H l (.lst ((sortI ns).map V.int)))):wpAny (model X.prog X.w) X.A (call (.builtin "sorted") [.ref p]) (EP X pins σ Q) X.xe s:=by
 obtain⟨its,rv,pl,hz⟩:=I.list hq;have hi:=intsAre_of rv;have hl:=hi.length;refine sorted_ints pl.isList hi (by omega) λout ns' a1 a2 a3=>?_;obtain⟨e,he⟩:=sortedAll_at s.heap its out;have es:ns'=sortI ns:=eq_sortI a2 a3;subst es;have hn:H (s.heap.objs.size+1)=none:=I.hok.fresh (le_succ _);refine⟨.ref (s.heap.objs.size+1),_,I.laid (t':=s.toks) (λb o z=>sortedAll_old z) (le_succ _) (show cu X.prog X.w _ _ _ (.lst ((sortI ns).map V.int)) from⟨?_,out.toList,e,kI a1,by simpa using he⟩),rfl,q _ hn⟩;rw[Ze,(sortI_perm ns).length_eq,sizeLine_eq];omega
theorem nh:cL X (.builtin "sorted") (λxs H Q=>∃p ns,xs=[.ref p]/\gm X.K H p (ns.map V.int)/\ns.length<64/\∀l,H l=none->Q (.ref l) (upd H l (.lst ((sortI ns).map V.int)))):=by
 intro pins s σ H xs us Q I r h;obtain⟨p,ns,rfl,hq,h64,q⟩:=h;obtain⟨u,rfl,ru⟩:=vals1 r;cases ru;exact pW I hq h64 q
def PB(K:Frag)(H:Hp)(r:Addr×List Int):Prop:=jO K H r.1 (r.2.map V.int)/\r.2≠[]
theorem yw{pins:List (Addr×Obj)}{σ:St}{H:Hp}{s:Shared}{A:Around}{rs:List (Addr×List Int)}{h6:Heap}{s6:Shared}(I:Inv X pins σ H s)(ht:∀r∈rs,PB X.K H r)(h2:2<=rs.length)(k:∀b o,s.heap.get? b=some o->s6.heap.get? b=some o) :
  se.sj X.prog X.w A se.lexOrd (λi=>(rs.getD i (0,[])).2) (rs.map λr=>Value.ref r.1) s6:=by
 have tup:∀r∈rs,∃its o n,s6.heap.get? r.1=some o/\o.cls=.type "tuple" /\ o.data=.seq (toArray its) n/\IntsAre its r.2:=λr hr=>by
  obtain⟨its,rv,⟨o,e1,e2,n,e3⟩,_⟩:=I.tuple (ht r hr).1;exact⟨its,o,n,k _ _ e1,e2,e3,intsAre_of rv⟩
 have kt:∀rs:List (Addr×List Int),(∀r∈rs,∃its o n,s6.heap.get? r.1=some o/\o.cls=.type "tuple" /\ o.data=.seq (toArray its) n/\IntsAre its r.2)->(∀r∈rs,r.2≠[]) ->
   ∃fs,PySem.W.KatTups s6.heap (rs.map λr=>Value.ref r.1) fs/\fs.length=rs.length/\∀v∈fs,∃i t,v=Value.int i t:=by
  intro rs
  induction rs with
  |nil=>intro _ _;exact⟨[],PySem.W.KatTups.nil,rfl,λv hv=>nomatch hv⟩
  |cons r rs ih=>
   intro g1 g2;obtain⟨fs,q1,q2,q3⟩:=ih (λr' hr'=>g1 r' (Zh _ hr')) λr' hr'=>g2 r' (Zh _ hr');obtain⟨its,o,n,e1,e2,e3,hi⟩:=g1 r Zk;have hne:=g2 r Zk;cases hr:r.2 with
   |nil=>exact absurd hr hne
   |cons i is=>
    rw[hr]at hi;cases hi with
    |cons _ t hi'=>
     refine⟨.int i t::fs,PySem.W.KatTups.cons e1 e2 e3 (by simp) q1,by simp[q2],λv hv=>?_⟩
     rcases Zw.mp hv with z|z
     ·exact⟨i,t,z⟩
     ·exact q3 v z
 obtain⟨fs,q1,q2,q3⟩:=kt rs tup λr hr=>(ht r hr).2;unfold se.sj;refine PySem.W.kat_kind q1 (by omega) (T:=Value.type "int") (λv hv=>?_) rfl ⟨rfl,λi j C hi hj hc=>?_⟩
 ·obtain⟨i,t,rfl⟩:=q3 v hv;exact PySem.W.Looks.of_pure rfl
 ·rw[Ze]at hi hj
  unfold PySem.W.kas_ask;have e1:(rs.map λr=>Value.ref r.1).getD i Value.none=Value.ref rs[i].1:=by simp[hi]
  have e2:(rs.map λr=>Value.ref r.1).getD j Value.none=Value.ref rs[j].1:=by simp[hj]
  have e3:rs.getD i (0,[])=rs[i]:=by simp[hi]
  have e4:rs.getD j (0,[])=rs[j]:=by simp[hj]
  rw[e1,e2];simp only[e3,e4]at hc;obtain⟨its,o,n,a1,a2,a3,a4⟩:=tup rs[i] (List.getElem_mem hi);obtain⟨its',o',n',b1,b2,b3,b4⟩:=tup rs[j] (List.getElem_mem hj);have l1:=a4.length;have l2:=b4.length;refine kat_lt a1 a3 b1 b3 (se.nX 0 a4 b4 ?_ l1 hc (.inr rfl) (λ_ _ _=>trivial) (λ_=>trivial) ?_)
  ·rw[Zq,Zq,l1,l2];simp
  ·rw[Zq,Zq,l1,l2]
theorem Bp{rs:List (Addr×List Int)}:∀{us:List Value},Vals (rs.map λr=>V.ref r.1) us->us=rs.map λr=>Value.ref r.1:=by
 induction rs with
 |nil=>intro us r;cases r;rfl
 |cons a rs ih=>
  intro us r;cases r with
  |cons r1 r2=>cases r1;rw[ih r2];rfl
theorem ni:cL X (.builtin "sorted") (λxs H Q=>∃(p:Addr) (rs:List (Addr×List Int)),xs=[.ref p]/\gm X.K H p (rs.map λr=>V.ref r.1)/\rs.length<64/\(∀r∈rs,PB X.K H r) /\
  ∀(l:Addr) (qs:List (Addr×List Int)),H l=none->qs.Perm rs->qs.Pairwise (λa b=>HT.lexLt b.2 a.2=false)->Q (.ref l) (upd H l (.lst (qs.map λr=>V.ref r.1)))):=by
 intro pins s σ H xs us Q I r h;obtain⟨p,rs,rfl,hq,h64,ht,q⟩:=h;obtain⟨u,rfl,ru⟩:=vals1 r;cases ru;obtain⟨its,rv,pl,hz⟩:=I.list hq;have ev:=Bp rv;subst ev;refine se.jT (O:=se.lexOrd) (collect_list pl.isList ?_ (by rw[Ze,sizeLine_eq];omega));have k1:∀b o,s.heap.get? b=some o->((s.heap.push (seqObj "list" #[] 0)).update s.heap.objs.size (Obj.mapSeq (· ++ (rs.map λr=>Value.ref r.1).toArray))).get? b=some o:=λb o e=>by
  rw[Heap.get?_update_ne _ _ _ _ (Zt (Zj e))];exact Zc _ e
 have WL:((s.heap.push (seqObj "list" #[] 0)).update s.heap.objs.size (Obj.mapSeq (· ++ (rs.map λr=>Value.ref r.1).toArray))).objs.size=s.heap.objs.size+1:=by rw[Heap.size_update,size_push']
 refine⟨by rw[Ze];exact h64,λi=>(rs.getD i (0,[])).2,λh2 h6 k6=>?_,λpp h' op k' he=>?_⟩
 ·rw[Ze]at h2;exact yw (h6:=h6) I ht h2 λb o e=>k6 b o (k1 b o e)
 ·rw[Ze]at op
  dsimp only at k' he |-;rw[WL]at he |-;obtain⟨e,he⟩:=he;have hn:H (s.heap.objs.size+1)=none:=I.hok.fresh (le_succ _);have lp:pp.length=rs.length:=by rw[op.perm.length_eq,length_range]
  have mem:∀i∈pp,i<rs.length:=λi hi=>by simpa using op.perm.mem_iff.mp hi
  have TJ:(pp.map λi=>(rs.map λr=>Value.ref r.1).getD i Value.none)=(pp.map λi=>rs.getD i (0,[])).map λr=>Value.ref r.1:=by rw[ZQ];refine map_congr_left λi hi=>?_;simp[mem i hi]
  have qp:(pp.map λi=>rs.getD i (0,[])).Perm rs:=by have:=op.perm.map λi=>rs.getD i (0,[]);rwa [se.dX]at this
  have qs:(pp.map λi=>rs.getD i (0,[])).Pairwise (λa b=>HT.lexLt b.2 a.2=false):=by have up1:=pairwise_map.mp op.up;exact pairwise_map.mpr up1
  refine⟨.ref (s.heap.objs.size+1),_,I.laid (t':=s.toks) (λb o z=>k' b o (k1 b o z)) (le_succ _) (show cu X.prog X.w _ _ _ (.lst ((pp.map λi=>rs.getD i (0,[])).map λr=>V.ref r.1)) from⟨?_,_,e,?_,he⟩),rfl,q _ _ hn qp qs⟩
  ·rw[Ze,Ze,lp,sizeLine_eq];omega
  ·rw[TJ]
   generalize (pp.map λi=>rs.getD i (0,[]))=zs
   induction zs with
   |nil=>exact .nil
   |cons z zs ih=>exact .cons rfl ih
theorem zz{ns:List Int}(h:IntsAre us ns):∀(i:Nat) (v:Value),us[i]?=some v->∃t,v=.int (ns.getD i 0) t:=by
 induction h with
 |nil=>intro i v e;simp at e
 |cons z t r ih=>
  intro i v e;cases i with
  |zero=>simp at e;exact⟨t,by simp[<-e]⟩
  |succ i=>obtain⟨u,q⟩:=ih i v (by simpa using e);exact⟨u,by simpa using q⟩
theorem sy{pins:List (Addr×Obj)}{σ:St}{H:Hp}{s:Shared}{p:Addr}{ns:List Int}(I:Inv X pins σ H s)(hc:X.calm=true)(hq:gm X.K H p (ns.map V.int)\/jO X.K H p (ns.map V.int))(hne:0<ns.length){Q:Value->Shared->Prop}{f:String}{bt:Int->Int->Bool}{op:CmpOp}
  (hf:∀{Q:Value->Shared->Prop},wpAny (model X.prog X.w) X.A.in1 (pyIter (.ref p)) (λit s₂=>∃I fp wr n P St bt,it=.ref I/\Walks X.prog X.w X.A.in1 I fp wr n P St/\St 0 s₂.heap/\(∀b∈fp,b<s₂.heap.objs.size)/\0<n/\CmpOf X.prog X.w X.A.in1 op P bt /\
   ∀v h' tk,P (argBest bt (n-1)) v->(∀b o,b∉wr->s₂.heap.get? b=some o->h'.get? b=some o)->Q v { s₂ with heap:=h',toks:=tk }) X.xe s->wpAny (model X.prog X.w) X.A (call (.builtin f) [.ref p]) Q X.xe s)
  (hcmp:∀(P:Nat->Value->Prop),(∀i v,P i v->∃t,v=.int (ns.getD i 0) t)->CmpOf X.prog X.w X.A.in1 op P λi j=>bt (ns.getD i 0) (ns.getD j 0))
  (h:∀t h' tk,(∀b o,s.heap.get? b=some o->h'.get? b=some o)->argBest (λi j=>bt (ns.getD i 0) (ns.getD j 0)) (ns.length-1)<ns.length->Q (.int (ns.getD (argBest (λi j=>bt (ns.getD i 0) (ns.getD j 0)) (ns.length-1)) 0) t) { s with heap:=h',toks:=tk }) :
  wpAny (model X.prog X.w) X.A (call (.builtin f) [.ref p]) Q X.xe s:=by
 have hh:X.A.in1.handled=none:=I.ok.hd hc;have up:∀{us:List Value} (P:Nat->Value->Prop) (hi:IntsAre us ns),(∀i v,P i v->us.toArray[i]?=some v)->∀i v,P i v->∃t,v=.int (ns.getD i 0) t:=λP hi hP i v q=>zz hi i v (by simpa using hP i v q);have best:∀{us:List Value} (hi:IntsAre us ns) (v:Value) (h':Heap) (tk:Nat),us.toArray[argBest (λi j=>bt (ns.getD i 0) (ns.getD j 0)) (us.toArray.size-1)]?=some v->(∀b o,s.heap.get? b=some o->h'.get? b=some o)->Q v { s with heap:=h',toks:=tk }:=λ{us} hi v h' tk e k=>by
  have hl:=hi.length;rw[Zq,hl]at e;have e':us[argBest (λi j=>bt (ns.getD i 0) (ns.getD j 0)) (ns.length-1)]?=some v:=by simpa using e
  obtain⟨t,rfl⟩:=zz hi _ v e';exact h t h' tk k (by have:=(Zb.mp e').1;omega)
 rcases hq with hq|hq
 ·obtain⟨its,rv,pl,hz⟩:=I.list hq
  have hi:=intsAre_of rv;have hl:=hi.length;have hpl:=pl.isList;have hlt:p<s.heap.objs.size:=by obtain⟨_,e,_⟩:=hpl;exact Zj e
  refine hf (wpAny_pyIter_list hpl ⟨s.heap.objs.size,[s.heap.objs.size,p],[s.heap.objs.size],its.toArray.size,_,_,λi j=>bt (ns.getD i 0) (ns.getD j 0),rfl,Walks.list hh _ p (Zt hlt) its.toArray,⟨⟨_,Zr _ rfl,rfl,rfl⟩,hpl.push _⟩,λb hb=>?_,by rw[Zq];omega,
   hcmp _ (up _ hi λi v q=>q),λv h' tk e k=>?_⟩)
  ·simp only[size_push']
   rcases Zw.mp hb with z|z
   ·rw[z];exact lt_succ_self _
   ·rw[Zs.mp z];exact lt_succ_of_lt hlt
  ·exact best hi v h' tk e λb o z=>k b o (by simp;exact Zt (Zj z)) (Zc _ z)
 ·obtain⟨its,rv,pl,hz⟩:=I.tuple hq
  have hi:=intsAre_of rv;have hl:=hi.length;have hpl:s.heap.IsTuple p its.toArray:=pl;have hlt:p<s.heap.objs.size:=by obtain⟨_,e,_⟩:=hpl;exact Zj e
  refine hf (wpAny_pyIter_tuple hpl ⟨s.heap.objs.size,[s.heap.objs.size,p],[s.heap.objs.size],its.toArray.size,_,_,λi j=>bt (ns.getD i 0) (ns.getD j 0),rfl,Walks.tuple hh _ p (Zt hlt) its.toArray,⟨⟨_,Zr _ rfl,rfl,rfl⟩,?_⟩,λb hb=>?_,by rw[Zq];omega,
   hcmp _ (up _ hi λi v q=>q),λv h' tk e k=>?_⟩)
  ·obtain⟨o,e,c⟩:=hpl;exact⟨o,Zc _ e,c⟩
  ·simp only[size_push']
   rcases Zw.mp hb with z|z
   ·rw[z];exact lt_succ_self _
   ·rw[Zs.mp z];exact lt_succ_of_lt hlt
  ·exact best hi v h' tk e λb o z=>k b o (by simp;exact Zt (Zj z)) (Zc _ z)
theorem uh(hc:X.calm=true):cL X (.builtin "min") (λxs H Q=>∃(p:Addr) (ns:List Int),xs=[.ref p]/\(gm X.K H p (ns.map V.int)\/jO X.K H p (ns.map V.int))/\0<ns.length/\∀m,m∈ns->(∀a∈ns,m<=a)->Q (.int m) H):=by
 intro pins s σ H xs us Q I r h;obtain⟨p,ns,rfl,hq,hne,q⟩:=h;obtain⟨u,rfl,ru⟩:=vals1 r;cases ru;refine sy (bt:=λa b=>decide (a<b)) (op:=.Lt) I hc hq hne (λ{Q} h=>call_min_walk h) (λP hP=>?_) λt h' tk k hb=>⟨.int _,H,I.kept k,⟨t,rfl⟩,q _ ?_ λa ha=>?_⟩
 ·intro i j x y s' Q' E' hx hy hQ;obtain⟨t,rfl⟩:=hP i x hx;obtain⟨t',rfl⟩:=hP j y hy;exact lt_int (by simpa using hQ)
 ·exact getD_mem hb
 ·obtain⟨j,hj,rfl⟩:=mem_getD ha;exact(argBest_lt (λi=>ns.getD i 0) (ns.length-1)).2 j (by omega)
theorem um(hc:X.calm=true):cL X (.builtin "max") (λxs H Q=>∃(p:Addr) (ns:List Int),xs=[.ref p]/\(gm X.K H p (ns.map V.int)\/jO X.K H p (ns.map V.int))/\0<ns.length/\∀m,m∈ns->(∀a∈ns,a<=m)->Q (.int m) H):=by
 intro pins s σ H xs us Q I r h;obtain⟨p,ns,rfl,hq,hne,q⟩:=h;obtain⟨u,rfl,ru⟩:=vals1 r;cases ru;refine sy (bt:=λa b=>decide (a>b)) (op:=.Gt) I hc hq hne (λ{Q} h=>call_max_walk h) (λP hP=>?_) λt h' tk k hb=>⟨.int _,H,I.kept k,⟨t,rfl⟩,q _ ?_ λa ha=>?_⟩
 ·intro i j x y s' Q' E' hx hy hQ;obtain⟨t,rfl⟩:=hP i x hx;obtain⟨t',rfl⟩:=hP j y hy;exact gt_int (by simpa using hQ)
 ·exact getD_mem hb
 ·obtain⟨j,hj,rfl⟩:=mem_getD ha;exact(argBest_gt (λi=>ns.getD i 0) (ns.length-1)).2 j (by omega)
end
section
variable {X:Cx}
theorem yx{bs:List Bool}:∀{us:List Value},Vals (bs.map V.bl) us->us=bs.map Value.bool:=by
 induction bs with
 |nil=>intro us r;cases r;rfl
 |cons a bs ih=>
  intro us r;cases r with
  |cons r1 r2=>cases r1;rw[ih r2];rfl
theorem pX(bs:List Bool):((List.range bs.length).all λi=>bs.getD i true)=bs.all id:=by
 conv=>rhs;rw[<-se.dX bs true]
 rw[List.all_map];rfl
theorem rD(hc:X.calm=true):cL X (.builtin "all") (λxs H Q=>∃(p:Addr) (bs:List Bool),xs=[.ref p]/\gm X.K H p (bs.map V.bl)/\Q (.bl (bs.all id)) H):=by
 intro pins s σ H xs us Q I r h;obtain⟨p,bs,rfl,hq,q⟩:=h;obtain⟨u,rfl,ru⟩:=vals1 r;cases ru;obtain⟨its,rv,pl,hz⟩:=I.list hq;have ev:=yx rv;subst ev;have hpl:=pl.isList;have hlt:p<s.heap.objs.size:=by obtain⟨_,e,_⟩:=hpl;exact Zj e
 refine call_all_walk (wpAny_pyIter_list hpl ⟨s.heap.objs.size,[s.heap.objs.size,p],[s.heap.objs.size],_,_,_,λi=>bs.getD i true,rfl,Walks.list (A:=X.A.in1) (I.ok.hd hc) _ p (Zt hlt) (bs.map Value.bool).toArray,
  ⟨⟨_,Zr _ rfl,rfl,rfl⟩,hpl.push _⟩,λi v s' Q' E' hP hQ=>?_,λh' tk hk=>?_⟩)
 ·have hi:i<bs.length:=by simpa using (Array.getElem?_eq_some_iff.mp hP).1
  have e:v=Value.bool (bs.getD i true):=by
   have:(bs.map Value.bool)[i]?=some v:=by simpa using hP
   simp[hi]at this;simp[hi,this]
  subst e;exact wpAny_truthy_bool hQ
 ·have e:((List.range (bs.map Value.bool).toArray.size).all λi=>bs.getD i true)=bs.all id:=by rw[Zq,Ze];exact pX bs
  rw[e];exact⟨.bl _,H,I.kept λb o z=>hk b o (by simp;exact Zt (Zj z)) (Zc _ z),rfl,q⟩
section
open PySem.AutoSeq1 (wpAny_loadPart')
theorem uo(l b:Addr)(items items2:Array Value)(n n2:Nat)(dd2:Option Addr)(sl2:Array (Option Value))(hs0:¬(!items.isEmpty&&Builtin.List.listTooLong (items.size+items2.size))=true)(hs1:items.size<=sizeLine)(hs2:items.size+items2.size<=sizeLine+1) :
  Meets (Builtin.«list.extend» ⟨[.ref l,.ref b],[]⟩) (λ_ R s=>s.heap.get? l=some { cls:=.type "list",data:=.seq items n }/\s.heap.get? b=some { cls:=.type "tuple",dict:=dd2,data:=.seq items2 n2,slots:=sl2 } /\
   R (.ok (.ret Value.none)) { s with heap:=s.heap.update l (Obj.mapSeq λx=>x++items2) }) :=
 .of_wp λprog w A R s h=>by
  obtain⟨hp,g,d,tk,os⟩:=s;obtain⟨hl,hb,h⟩:=h;have f2:=AutoSeq1.sub_tuple_tuple;have f3:=AutoSeq1.sub_list_list;have f4:=AutoSeq1.sub_tuple_list;have f5:=AutoSeq1.sub_list_tuple;have hz':(items++items2).size<=sizeLine+1:=by rw[Array.size_append];exact hs2
  wp_walk using (wpAny_updateSeq hl rfl (hz:=hs1) (_hz':=hz')),wpAny_loadPart' hl,wpAny_loadPart' hb
  exact⟨_,rfl,h⟩
end
def Dd(K:Frag):V->List V->Hp->VK->Prop:=λx vs H Q=>∃l b xs zs,x=.ref l/\vs=[.ref b]/\H l=some (.lst xs)/\jO K H b zs/\xs.length+zs.length<=sizeLine/\Q .non (upd H l (.lst (xs++zs)))
theorem yy:Si X "list.extend" (Dd X.K):=by
 intro pins s σ H x vs v us Q I rx rv h;obtain⟨l,b,xs,zs,rfl,rfl,hH,hB,hz,q⟩:=h;cases rx;obtain⟨u,rfl,ru⟩:=rv.one;cases ru;obtain⟨z,its,n,r,hl,e⟩:=I.Hr hH;obtain⟨its2,r2,⟨⟨oc,od,WM,osl⟩,e2,ec,n2,ed⟩,z2⟩:=I.tuple hB;cases ec;cases ed;have l2:=r2.length;have hsz:its.toArray.size+its2.toArray.size<=sizeLine:=by rw[Zq,Zq];omega
 have PC:¬ (!its.toArray.isEmpty&&Builtin.List.listTooLong (its.toArray.size+its2.toArray.size))=true:=by rw[CT hsz,Bool.and_false];exact Y9
 refine call_meets F.slot_list_extend ⟨_,e,rfl⟩ F.entry_list_extend (F.args_list_extend_2 _ _)
  (uo l b its.toArray its2.toArray n n2 od osl PC (by rw[Zq];omega) (by omega)) ⟨e,e2,?_⟩
 refine⟨.non,_,I.Hq (its':=its++its2) hH e (by simp) (r.append r2) ?_,rfl,q⟩;rw[ZA];omega
end
end L2
end
section
namespace L2
open PySem
def sD(xs:Array Nat):Prop:=xs.toList.Pairwise (· < ·)
structure Cut (xs:Array Nat) (j p:Nat):Prop where
 le:p<=xs.size
 lo:∀(i:Nat) (hi:i<xs.size),i<p->xs[i]<j
 hi:∀(i:Nat) (hi:i<xs.size),p<=i->j<=xs[i]
theorem Cut.one{xs:Array Nat}{j p q:Nat}(a:Cut xs j p)(b:Cut xs j q):p=q:=by
 rcases Nat.lt_trichotomy p q with h|h|h
 ·have hp:p<xs.size:=Zn h b.le;have:=a.hi p hp (Zm _);have:=b.lo p hp h;omega
 ·exact h
 ·have hq:q<xs.size:=Zn h a.le;have:=b.hi q hq (Zm _);have:=a.lo q hq h;omega
theorem sD.get{xs:Array Nat}(r:sD xs){a b:Nat}(ha:a<xs.size)(hb:b<xs.size)(h:a<b):xs[a]<xs[b]:=by
 have:=List.pairwise_iff_getElem.mp r a b (by simpa using ha) (by simpa using hb) h;simpa using this
theorem yz{xs:Array Nat}(r:sD xs)(j:Nat):∀(fuel lo hi:Nat),lo<=hi->hi<=xs.size->hi-lo<=fuel->(∀(i:Nat) (hi:i<xs.size),i<lo->xs[i]<j)->(∀(i:Nat) (h:i<xs.size),hi<=i->j<=xs[i])->Cut xs j (SetTable.below.go xs j fuel lo hi)
 | 0,lo,hi,h1,h2,h3,a,b=>by
  have:lo=hi:=by omega
  subst this;exact⟨h2,a,b⟩
 | fuel+1,lo,hi,h1,h2,h3,a,b=>by
  unfold SetTable.below.go
  by_cases hlt:lo<hi
  ·rw[Zg hlt]
   dsimp only;have hm:(lo+hi)/2<xs.size:=by omega
   have eg:xs.getD ((lo+hi)/2) j=xs[(lo+hi)/2]:=by simp[Array.getD,hm]
   rw[eg]
   by_cases hc:xs[(lo+hi)/2]<j
   ·rw[Zg hc]
    refine yz r j fuel _ hi (by omega) h2 (by omega) (λi hi' hl=>?_) b
    by_cases e:i=(lo+hi)/2
    ·subst e;exact hc
    ·exact lt_trans (r.get hi' hm (by omega)) hc
   ·rw[Zi hc]
    refine yz r j fuel lo _ (by omega) (by omega) (by omega) a (λi hi' hl=>?_)
    by_cases e:i=(lo+hi)/2
    ·subst e;omega
    ·have:=r.get hm hi' (by omega);omega
  ·rw[Zi hlt]
   have:lo=hi:=by omega
   subst this;exact⟨h2,a,b⟩
theorem kK{xs:Array Nat}(r:sD xs)(j:Nat):Cut xs j (SetTable.below xs j) :=
 yz r j xs.size 0 xs.size (zero_le _) (Zm _) (by omega) (λi _ h=>by omega) (λi h hl=>by omega)
theorem yC{xs:Array Nat}(r:sD xs):SetTable.below xs 0=0:=(kK r 0).one ⟨zero_le _,λi _ h=>by omega,λi _ _=>zero_le _⟩
theorem yD{xs:Array Nat}(r:sD xs){i:Nat}(hi:i<xs.size):SetTable.below xs (xs[i]+1)=i+1:=by
 refine(kK r _).one ⟨hi,λk hk h=>?_,λk hk h=>?_⟩
 ·by_cases e:k=i
  ·subst e;omega
  ·have:=r.get hk hi (by omega);omega
 ·have:=r.get hi hk (by omega);omega
theorem Bq{xs:Array Nat}(r:sD xs){j:Nat}(h:j∈xs):xs[SetTable.below xs j]?=some j:=by
 obtain⟨k,hk,e⟩:=Array.mem_iff_getElem.mp h;have:SetTable.below xs j=k:=by
  refine(kK r j).one ⟨le_of_lt hk,λi hi h=>?_,λi hi h=>?_⟩
  ·have:=r.get hi hk h;omega
  ·by_cases e':i=k
   ·subst e';omega
   ·have:=r.get hk hi (by omega);omega
 rw[this,ZO hk,e]
theorem Br{xs:Array Nat}(r:sD xs){j:Nat}(h:j∉xs):sD (SetTable.insertAt xs (SetTable.below xs j) j):=by
 have c:=kK r j;unfold sD;rw[SetTable.toList_insertAt];have rl:xs.toList.Pairwise (· < ·):=r;have lo:∀a∈xs.toList.take (SetTable.below xs j),a<j:=λa ha=>by
  obtain⟨i,hi,e⟩:=List.mem_iff_getElem.mp ha;rw[length_take,ZH]at hi;rw[List.getElem_take]at e;have:=c.lo i (by omega) (by omega);rw[<-e];simpa using this
 have up:∀a∈xs.toList.drop (SetTable.below xs j),j<a:=λa ha=>by
  obtain⟨i,hi,e⟩:=List.mem_iff_getElem.mp ha;rw[length_drop,ZH]at hi;rw[List.getElem_drop]at e;have h1:=c.hi (SetTable.below xs j+i) (by omega) (by omega);have e':xs[SetTable.below xs j+i]'(by omega)=a:=by rw[<-e];simp
  rw[e']at h1;have:a≠j:=λz=>h (by rw[<-z,<-e'];exact Array.getElem_mem _);omega
 rw[List.pairwise_append];refine⟨rl.sublist (List.take_sublist _ _),pairwise_cons.mpr ⟨up,rl.sublist (List.drop_sublist _ _)⟩,λa ha b hb=>?_⟩
 rcases Zw.mp hb with e|hb
 ·rw[e];exact lo a ha
 ·exact lt_trans (lo a ha) (up b hb)
theorem l9(n:Nat):sD (Array.range n):=by
 unfold sD;rw[Array.toList_range];exact List.pairwise_lt_range
theorem sE{t:SetTable}(r:sD t.place){j:Nat}(h:t.slot j=.empty\/t.slot j=.dummy):j∉t.place:=λhm=>by
 have e:=Bq r hm;unfold SetTable.slot at h;dsimp only at h;rw[e]at h;simp at h
theorem lA{h:Int}:∀(fuel:Nat) (p:SetTable.Probe) (j:Nat) (d:Option Nat),(∀k,p.dummy=some k->t.slot k=.dummy)->SetTable.probe.go t f h fuel p=some (.empty j d)->t.slot j=.empty/\∀k,d=some k->t.slot k=.dummy
 |0,p,j,d,hd,e=>by simp[SetTable.probe.go]at e
 | fuel+1,p,j,d,hd,e=>by
  have ad:∀q:SetTable.Probe,(t.advance q).dummy=q.dummy:=λq=>by unfold SetTable.advance;split<;>rfl
  unfold SetTable.probe.go at e;split at e
  ·rename_i hs;cases e;exact⟨hs,hd⟩
  ·rename_i hs;refine lA fuel _ j d (λk hk=>?_) e;rw[ad]at hk;cases hk;exact hs
  ·split at e
   ·cases e
   ·exact lA fuel _ j d (λk hk=>hd k (by rw[<-ad];exact hk)) e
theorem De{t:SetTable}(r:sD t.place){h:Int}{s:Nat}{b:Bool}(e:t.freeSlot h=some (s,b)):s∉t.place:=by
 unfold SetTable.freeSlot at e;split at e
 ·rename_i j d hp
  cases e;obtain⟨h1,h2⟩:=lA _ _ _ _ (λk hk=>by simp[SetTable.probeStart]at hk) hp;cases d with
  |none=>exact sE r (.inl h1)
  |some k=>exact sE r (.inr (h2 k rfl))
 ·cases e
theorem Bs(r:sD t.place)(es:Array (Int×Value))(h:Int)(x:Value):sD (layNew t es h x).2.1.place/\(layNew t es h x).2.1.led=t.led:=by
 unfold layNew
 split
 ·rename_i s b e
  have fr:=De r e;dsimp only;unfold SetTable.orStandIn
  split
  ·exact⟨Br r fr,rfl⟩
  ·exact⟨l9 _,rfl⟩
 ·exact⟨l9 _,rfl⟩
theorem Df(r:sD t.place)(es:Array (Int×Value))(n:Nat):sD (relayAll t es n).2.1.place/\(relayAll t es n).2.1.led=t.led:=by
 unfold relayAll
 split
 ·rename_i t' order e
  dsimp only
  split
  ·unfold SetTable.relaid SetTable.laid at e;obtain⟨ow,e1,e⟩:=Za.mp e;cases e;refine⟨?_,rfl⟩;show List.Pairwise _ (List.map _ _).toArray.toList;rw[List.toList_toArray,pairwise_map];refine List.Pairwise.filterMap _ (R:=(· < ·)) (λa a' hl b hb b' hb'=>?_) List.pairwise_lt_range;obtain⟨x,_,rfl⟩:=ZL.mp hb;obtain⟨y,_,rfl⟩:=ZL.mp hb';exact hl
  ·exact⟨l9 _,rfl⟩
 ·exact⟨l9 _,rfl⟩
end L2
end
section
namespace L2
open PySem PyProof.Rows
def rE(w:World):Bool:=w.params.followText "set-order"
structure JX (w:World) (es:Array (Int×Value)) (t:SetTable):Prop where
 few:es.size<scanBound
 fit:t.fits es.size=true
 rs:sD t.place
 led:t.led = !rE w
structure dY (prog:Program) (w:World) (h:Heap) (a:Addr) (o:Obj) (es:Array (Int×Value)) (ep:Nat) (t:SetTable) (ks:List Int):Prop where
 at_:h.get? a=some o
 ex:o.ExactSet
 dat:o.data=.set es ep t
 el:ElemsOf (intKind prog w) es.toList
 tab:JX w es t
 U9:ks.Nodup
 mem:∀k,k∈ks↔∃e∈es.toList,(intKind prog w).is k e.2=true
 num:es.size=ks.length
def oM(prog:Program)(w:World)(h:Heap)(a:Addr)(ks:List Int):Prop:=∃o es ep t,dY prog w h a o es ep t ks
def gA(ks:List Int)(k:Int):List Int:=if k∈ks then ks else ks++[k]
section
variable {prog:Program} {w:World} {A:Around} {E:Value->Shared->Prop} {s:Shared}
theorem Dg{h:Heap}{a:Addr}{o:Obj}{es es':Array (Int×Value)}{ep:Nat}{t t':SetTable}(ho:h.get? a=some o)(hd:o.data=.set es ep t):(h.update a (Obj.putSet es' t')).get? a=some { o with data:=.set es' (ep+1) t' }:=by
 have q:=get?_update_self (Obj.putSet es' t') ho (by rw[putSet_of es' t' hd];rfl);rw[putSet_of es' t' hd]at q;exact q
theorem oM.frame{ks:List Int}(S:oM prog w h a ks)(k:∀o,h.get? a=some o->h'.get? a=some o):oM prog w h' a ks:=by
 obtain⟨o,es,ep,t,i⟩:=S;exact⟨o,es,ep,t,{ i with at_:=k o i.at_ }⟩
theorem mem_push{es es1:List (Int×Value)}{ks:List Int}{k:Int}(hx:(intKind prog w).is k x=true)(hm:∀j,j∈ks↔∃e∈es,(intKind prog w).is j e.2=true)(p:es1.Perm (es++[((intKind prog w).hash k,x)]))(j:Int) :
  j∈ks++[k]↔∃e∈es1,(intKind prog w).is j e.2=true:=by
 rw[ZP,Zs,hm];constructor
 ·rintro(⟨e,he,q⟩|rfl)
  ·exact⟨e,p.mem_iff.mpr (mem_append_left _ he),q⟩
  ·exact⟨_,p.mem_iff.mpr (ZF _ Zk),hx⟩
 ·rintro⟨e,he,q⟩
  rcases ZP.mp (p.mem_iff.mp he) with z|z
  ·exact .inl ⟨e,z,q⟩
  ·rw[Zs]at z;subst z;exact .inr ((intKind prog w).inj x j k q hx)
theorem vG{g:Bool->Sem Unit}(hg:∀(b:Bool) (s₁:Shared) (Q':Unit->Shared->Prop),Q' () s₁->wpAny (model prog w) A (g b) Q' E s₁)
  {a:Addr} {o:Obj} {es es1:Array (Int×Value)} {ep:Nat} {t t2:SetTable} {ks:List Int} (ho:s.heap.get? a=some o) (hex:o.ExactSet) (hd:o.data=.set es ep t)
  (hel:ElemsOf (intKind prog w) es1.toList) (hm:∀k,k∈ks↔∃e∈es1.toList,(intKind prog w).is k e.2=true) (hnd:ks.Nodup) (hn:es1.size=ks.length) (ht:JX w es1 t2) {b:Bool} {R:Option Bool->Shared->Prop}
  (h:∀h',Heap.SameBut a s.heap h'->oM prog w h' a ks->R (some true) { s with heap:=h' }) :
  wpAny (model prog w) A (do
    storeSet a es1 t2
    if (!b&&t2.tooFull)=true then do
      g (relayAll t2 es1 (SetTable.grown es1.size)).2.2
      storeSet a (relayAll t2 es1 (SetTable.grown es1.size)).1 (relayAll t2 es1 (SetTable.grown es1.size)).2.1
      pure (some true)
     else pure (some true)) R E s:=by
 refine Y8 (wpAny_storeSet_of ho hd ?_ (fits_of_scanBound ht.few));have h1:=Dg (es':=es1) (t':=t2) ho hd;have b1:=Heap.SameBut.update s.heap a (Obj.putSet es1 t2)
 split
 ·have p:=relayAll_perm t2 es1 (SetTable.grown es1.size)
  have f:=relayAll_fits t2 es1 (SetTable.grown es1.size);have rr:=Df ht.rs es1 (SetTable.grown es1.size);generalize relayAll t2 es1 (SetTable.grown es1.size)=Rl at p f rr |-;obtain⟨rF,t3,gv⟩:=Rl;dsimp only at p f rr |-;have z:rF.size=es1.size:=by rw[<-ZH,p.length_eq,ZH]
  have few:rF.size<scanBound:=by rw[z];exact ht.few
  refine Y8 (hg _ _ _ ?_);refine Y8 (wpAny_storeSet_of h1 rfl ?_ (fits_of_scanBound few));refine Zf (h _ (b1.trans (Heap.SameBut.update _ a _)) ⟨_,rF,_,t3,Dg h1 rfl,hex,rfl,hel.perm p,⟨few,f,rr.1,rr.2.trans ht.led⟩,hnd,λk=>(hm k).trans ⟨λ⟨e,he,q⟩=>⟨e,p.mem_iff.mpr he,q⟩,λ⟨e,he,q⟩=>⟨e,p.mem_iff.mp he,q⟩⟩,z.trans hn⟩)
 ·exact Zf (h _ b1 ⟨_,es1,_,t2,h1,hex,rfl,hel,ht,hnd,hm,hn⟩)
theorem add_int{ks:List Int}{k:Int}(S:oM prog w s.heap a ks)(room:ks.length+1<scanBound)
  (h:∀h' b,Heap.SameBut a s.heap h'->oM prog w h' a (gA ks k)->Q b { s with heap:=h' }) :
  wpAny (model prog w) A (setAddHashed a (.int k tk) ((intKind prog w).hash k)) Q E s:=by
 obtain⟨o,es,ep,t,I⟩:=S;have hx:(intKind prog w).is k (.int k tk)=true:=intKind_is _ _ _ _;have sc:(Value.int k tk).scannable=true:=rfl;unfold setAddHashed setAddHashedIn;refine wpAny_holding (Y8 (wpAny_setState_of I.at_ I.dat I.tab.fit ?_));dsimp only;rw[byScan_of sc I.tab.few I.el];simp only[↓reduceIte];unfold setAddByScan;refine Y8 (Y8 (wpAny_rule (Y8 (wpAny_setScan_of hx I.at_ I.dat I.tab.fit I.el ?_))));cases hr:List.findIdx? (λe=>(intKind prog w).is k e.2) es.toList with
 |some j=>
  dsimp only;obtain⟨hj,pj,_⟩:=List.findIdx?_eq_some_iff_getElem.mp hr;have hk:k∈ks:=(I.mem k).mpr ⟨es.toList[j],List.getElem_mem hj,pj⟩;refine Zf (Zf ?_);have e:s={ s with heap:=s.heap }:=by cases s;rfl
  rw[e];exact h s.heap _ (Heap.SameBut.refl a s.heap) (by unfold gA;rw[Zg hk];exact⟨o,es,ep,t,I⟩)
 |none=>
  dsimp only;have hk:k∉ks:=λz=>by
   obtain⟨e,he,p⟩:=(I.mem k).mp z;have:=List.findIdx?_eq_none_iff.mp hr e he;rw[p]at this;cases this
  have gw:∀(b:Bool) (s₁:Shared) (Q':Unit->Shared->Prop),Q' () s₁->wpAny (model prog w) A (match b with|true=>rule "set.scan.the-table-gave-way" | false=>pure ()) Q' E s₁:=λb s₁ Q' q=>by
   cases b
   ·exact Zf q
   ·exact wpAny_rule q
  have p:=layNew_perm t es ((intKind prog w).hash k) (.int k tk);have f:=layNew_fits t es ((intKind prog w).hash k) (.int k tk);have rr:=Bs I.tab.rs es ((intKind prog w).hash k) (.int k tk);generalize layNew t es ((intKind prog w).hash k) (.int k tk)=Ln at p f rr |-;obtain⟨es1,t1,wd,gv⟩:=Ln;dsimp only at p f rr |-;rw[Array.toList_push]at p;have z:es1.size=(ks++[k]).length:=by rw[<-ZH,p.length_eq,ZA,ZA,ZH,I.num];rfl
  have few:es1.size<scanBound:=by rw[z,ZA];simpa using room
  have nd:(ks++[k]).Nodup:=by rw[nodup_append];exact⟨I.U9,by simp,λx hx' y hy e=>hk (by rw[Zs]at hy;rw[<-hy,<-e];exact hx')⟩
  have Va:ElemsOf (intKind prog w) es1.toList:=(I.el.push hx sc).perm p;have m1:=mem_push hx I.mem p;have fin:∀h',Heap.SameBut a s.heap h'->oM prog w h' a (ks++[k])->Q true { s with heap:=h' }:=λh' sb S'=>h h' true sb (by unfold gA;rw[Zi hk];exact S');refine Y8 (gw _ _ _ ?_)
  split
  ·refine Y8 ?_
   rw[hashByValue_scannable 8 sc];refine Zf ?_;refine vG gw I.at_ I.ex I.dat Va m1 nd z ⟨few,?_,?_,?_⟩ λh' sb S'=>Zf (fin h' sb S')
   ·split
    ·exact f
    ·exact SetTable.fits_plain_off f
   ·split
    ·exact rr.1
    ·exact rr.1
   ·split
    ·exact rr.2.trans I.tab.led
    ·exact rr.2.trans I.tab.led
  ·refine Y8 (Zf ?_);simp only[↓reduceIte];exact vG gw I.at_ I.ex I.dat Va m1 nd z ⟨few,f,rr.1,rr.2.trans I.tab.led⟩ λh' sb S'=>Zf (fin h' sb S')
end
def iB:List Int->List Int->List Int
 |ks,[]=>ks
 |ks,k::r=>iB (gA ks k) r
theorem jU(ks:List Int)(k:Int):(gA ks k).length<=ks.length+1:=by unfold gA;split<;>simp
section
variable {prog:Program} {w:World} {A:Around} {E:Value->Shared->Prop} {s:Shared}
theorem Dh{R:Result->Shared->Prop}{I:Addr}{fp wr:List Addr}{G:Array GenState->Array GenState->Prop}{n:Nat}{P:Nat->Value->Prop}{St:Nat->Shared->Prop}(W:WalksS prog w A.in1 I fp wr G n P St)(S:Addr)(hSf:S∉fp)(val:Nat->Int)(hval:∀i v,P i v->∃t,v=.int (val i) t) :
  ∀(k i:Nat) (s:Shared) (ks:List Int),n-i=k->i<=n->ks.length+k+1<scanBound->St i s->oM prog w s.heap S ks ->
   (∀s',Moved (S::wr) G s s'->oM prog w s'.heap S (iB ks ((range' i k).map val))->R (.ok (.ret .none)) s') ->
   codeAny (model prog w) A (.builtin "set.update.loop" ⟨[.ref S,.ref I],[]⟩) R s:=by
 have Vb:S∉wr:=λh=>hSf (W.sub _ h);have sub:∀b∈wr,b∈S::wr:=λb hb=>Zh _ hb;intro k
 induction k with
 |zero=>
  intro i s ks hk hi _ hst hS hR;have:i=n:=by omega
  subst this;refine codeAny_builtin PyProof.Rows.F.entry_set_update_loop ?_;rw[Around.under_plainId PyProof.Rows.F.plain_set_update_loop _];show wpAny _ A.in1 (pyNext (.ref I) >>= _) _ _ s;refine Y8 (W.done s _ _ hst λs' hm=>?_);show wpAny _ A.in1 (ret Value.none) _ _ s';exact Zf (hR s' (hm.mono sub) (hS.frame λo e=>hm.heap S _ Vb e))
 |succ k ih=>
  intro i s ks hk hi hl hst hS hR;have hlt:i<n:=by omega
  refine codeAny_builtin PyProof.Rows.F.entry_set_update_loop ?_;rw[Around.under_plainId PyProof.Rows.F.plain_set_update_loop _];show wpAny _ A.in1 (pyNext (.ref I) >>= _) _ _ s;refine Y8 (W.item i s _ _ hlt hst λv s' hP TL hm=>?_);obtain⟨t,rfl⟩:=hval i v hP;have hS':=hS.frame (h':=s'.heap) λo e=>hm.heap S _ Vb e;show wpAny _ A.in1 (holding [Value.int (val i) t] (setAdd S (.int (val i) t)) >>= _) _ _ s';refine Y8 (wpAny_holding ?_);unfold setAdd;refine wpAny_holding (Y8 ((intKind prog w).pyHash (k:=val i) (intKind_is _ _ _ _) ?_));refine add_int (s:={ s' with toks:=s'.toks+1 }) hS' (by omega) λh' b sb S2=>?_;have hl2:=jU ks (val i);refine Zf ⟨plainId_quiet PyProof.Rows.F.plain_set_update_loop _,ih (i+1) _ (gA ks (val i)) (by omega) hlt (by omega) (W.frame _ s' _ _ TL (le_succ _) λb hb o e=>?_) S2 λs'' Ls S3=>?_⟩
  ·rw[sb.2 b λz=>hSf (by rw[<-z];exact hb)];exact e
  ·refine hR s'' (Moved.trans W.gtrans ((hm.mono sub).then_heap (le_succ _) λb o hb e=>?_) Ls) ?_
   ·rw[sb.2 b λz=>hb (by rw[z];exact Zk)];exact e
   ·rw[List.range'_succ,Zo,iB];exact S3
abbrev pY(w:World):Obj:={ cls:=.type "set",dict:=none,data:=.set #[] 0 (.fresh 0 0 (!rE w)) }
theorem HK(e:h.get? a=some (pY w)):oM prog w h a [] :=
 ⟨_,#[],0,_,e,⟨rfl,rfl,rfl⟩,rfl,λx hx=>by simp at hx,⟨by show 0<4096;decide,rfl,List.Pairwise.nil,rfl⟩,nodup_nil,λk=>by simp,rfl⟩
theorem Di(a:Value)(h:Q₁ (.ref s.heap.objs.size) { s with heap:=s.heap.push (pY w) }) :
  codeAny (model prog w) A (.call (.builtin "set.__new__") ⟨[.type "set",a],[]⟩) (wants Q₁ E) s:=by
 refine codeAny_of_tree ?_;show wpAny _ A.in1 (do checkBuiltinCall "set.__new__" ⟨[.type "set",a],[]⟩;again (.builtin "set.__new__" ⟨[.type "set",a],[]⟩)) _ _ s;refine Y8 (wpAny_of_eq (PySem.F.newCall_set_1 a) (Zf ⟨plainId_quiet PySem.F.plain_set_new _,codeAny_builtin PySem.F.entry_set_new ?_⟩));rw[Around.under_plainId PySem.F.plain_set_new _];unfold Builtin.«set.__new__» Builtin.Frozenset.newClass;have hsub:=sub_set_self;obtain⟨hp,g,d,tk,os⟩:=s;dsimp only
 wp_walk
 refine wpAny_askSetting (Zf ?_);dsimp only;simp only[newObj];refine Y8 (wpAny_alloc (Zf ?_));exact Zf h
end
section
variable {prog:Program} {w:World} {A:Around} {E:Value->Shared->Prop} {s:Shared}
theorem yE{ns:List Int}(hi:IntsAre vs ns):(range' 0 vs.length).map (λi=>ns.getD i 0)=ns:=by
 have hl:=IntsAre.length hi;apply ext_getElem
 ·rw[Ze,List.length_range',hl]
 ·intro i h1 h2;simp[List.getD,h2]
theorem vH{ns:List Int}(hh:A.handled=none)(hl:s.heap.IsList l items)(hi:IntsAre items.toList ns)(hb:items.size+1<scanBound)
  (h:∀(h':Heap) (tk:Nat),oM prog w h' s.heap.objs.size (iB [] ns)->(∀b o,b<s.heap.objs.size->s.heap.get? b=some o->h'.get? b=some o)->Q (.ref s.heap.objs.size) { s with heap:=h',toks:=tk }) :
  wpAny (model prog w) A (call (.type "set") [.ref l]) Q E s:=by
 obtain⟨c,tl,mro⟩:=PySem.F.called_set.mro;have made:=PySem.F.called_set.made;have sub:=PySem.F.called_set.sub;refine wpAny_call (codeAny_of_tree ?_);show wpAny _ _ (callAny (.type "set") _) _ _ _;refine Zf ⟨Code.quiet_builtin _ (by decide +kernel),codeAny_builtin PySem.F.entry_type_call ?_⟩;rw[Around.under_plain (weight_type_call_type "set" [.ref l] []) rfl];have n1:=PySem.F.called_set.notType;have n2:=PySem.F.called_set.canCreate;have n3:=PySem.F.typeCall_set_1 (.ref l)
 repeat (any_goals (first|assumption|wp_step))
 refine codeAny_mono (Di (.ref l) (E:=E) (Q₁:=λobj s₁=>obj=.ref s.heap.objs.size/\s₁={ s with heap:=s.heap.push (pY w) }) ⟨rfl,rfl⟩) λr s₁ hr=>?_;cases r with
 |error e=>exact hr
 |ok fl=>
  cases fl with
  |ret obj=>
   obtain⟨rfl,rfl⟩:=hr;have Vc:(s.heap.push (pY w)).get? s.heap.objs.size=some (pY w):=Zr _ rfl;have hT:Shared.TypeIs { s with heap:=s.heap.push (pY w) } (.ref s.heap.objs.size) "set":=⟨_,Vc,rfl⟩;have look:=PySem.F.called_set.init.lookup;have bind:=PySem.F.called_set.init.bind (.ref s.heap.objs.size)
   repeat (any_goals (first|assumption|wp_step))
   refine codeAny_mono (codeAny_call_builtin (R:=wants (λr s₂=>r=.none/\∃h' tk,s₂={ s with heap:=h',toks:=tk }/\oM prog w h' s.heap.objs.size (iB [] ns) /\
     (∀b o,b<s.heap.objs.size->s.heap.get? b=some o->h'.get? b=some o)) E) PySem.F.called_set.init.plain PySem.F.entry_set_init (check_set_init_1 hT ?_)) λr₂ s₂ TM=>?_
   ·obtain⟨ol,Vd,cl,nl,dl⟩:=hl
    obtain⟨oc,od,YV,os⟩:=ol;simp only at cl dl;subst cl;subst dl;have TN:(s.heap.push (pY w)).get? l=some { cls:=.type "list",dict:=od,data:=.seq items nl,slots:=os }:=Zc _ Vd;have q1:=PySem.F.sub_list_set;have q2:=PySem.F.sub_list_frozenset;have q3:(Value.type "list" == Value.type "dict")=false:=by decide
    have hl1:(s.heap.push (pY w)).IsList l items:=⟨_,TN,rfl,nl,rfl⟩;unfold Builtin.«set.__init__» noKeywords Builtin.Frozenset.updateFrom;generalize WN:pyIter=PI
    wp_walk
    subst WN;refine wpAny_pyIter_list hl1 (Y8 (wpAny_runValue ?_));have lS:l<s.heap.objs.size:=Zj Vd;have h3:A.in1.in1.in1.handled=none:=by simp[hh]
    have WO:l≠(s.heap.push (pY w)).objs.size:=by rw[size_push];exact Zt (lt_succ_of_lt lS)
    have sF:s.heap.objs.size∉[(s.heap.push (pY w)).objs.size,l]:=by rw[size_push];simp only[mem_cons,not_mem_nil,or_false,not_or];exact⟨Zt (lt_succ_self _),ne_of_gt lS⟩
    have val:∀(i:Nat) (v:Value),items[i]?=some v->∃t,v=.int ((λi=>ns.getD i 0) i) t:=λi v hv=>IntsAre.int_at hi i v (by rw[Array.getElem?_toList];exact hv);refine Dh ((Walks.list h3 _ l WO items).toS) s.heap.objs.size sF (λi=>ns.getD i 0) val (items.size-0) 0 _ [] (by omega) (zero_le _) (by simpa using hb) ⟨⟨_,Zr _ rfl,rfl,rfl⟩,hl1.push _⟩ ?s0 ?sR
    case s0=>exact HK (Zc _ Vc)
    case sR=>
     intro s' hm S';obtain⟨h',g',d',tk',os'⟩:=s';have eg:g'=s.gens:=hm.gens;have ed:d'=s.drawn:=hm.drawn;have eo:os'=s.os:=hm.os;subst eg;subst ed;subst eo;refine Zf ?_;show wpAny _ _ (ret Value.none) _ _ _;have e0:(range' 0 (items.size-0)).map (λi=>ns.getD i 0)=ns:=by have:=yE hi;rw[ZH]at this;exact this
     rw[e0] at S';refine Zf ⟨rfl,h',tk',rfl,S',λb o hb e=>?_⟩;have b1:b≠s.heap.objs.size:=Zt hb;have b2:b≠(s.heap.push (pY w)).objs.size:=by rw[size_push];exact Zt (lt_succ_of_lt hb)
     exact hm.heap b o (by simp only[mem_cons,not_mem_nil,or_false,not_or];exact⟨b1,b2⟩) (Zc _ (Zc _ e))
   ·cases r₂ with
    |error e=>exact TM
    |ok WQ=>
     cases WQ with
     |ret r=>
      obtain⟨rfl,h',tk,rfl,S',hk⟩:=TM
      repeat (any_goals (first|assumption|wp_step))
      exact h _ _ S' hk
     |_=>exact TM.elim
  |_=>exact hr.elim
end
namespace SI
theorem yF:entryFor table "set.__iter__" = some Builtin.«frozenset.__iter__» :=
 entryFor_alias (id':="frozenset.__iter__") (by kernel_rfl) rfl (by decide +kernel) (by kernel_rfl)
theorem owner:Manifest.owners.lookup (String.ofList ['r','o','t','a','r','e','t','i','_','t','e','s'].reverse)=some Manifest.sig_set_iterator:=by kernel_rfl
theorem slot_next:Slot "set_iterator" "__next__" "set_iterator.__next__" :=
 .of (owner:="set_iterator") (n:="__next__") (by rw[typeLookup_type,builtinLookup_eq_fast];kernel_rfl) (by decide +kernel) (by decide +kernel) (by decide +kernel) (by first|exact .inl (by decide +kernel)|exact .inr (by decide +kernel)) (by rw[isSubtype_type];kernel_rfl)
theorem entry_next:entryFor table "set_iterator.__next__" = some Builtin.«set_iterator.__next__»:=entryFor_of_tree (by kernel_rfl)
theorem args_next(a:Value):argsOk "set_iterator.__next__" ⟨[a],[]⟩:=by
 unfold argsOk;rw[signature?_of (id:="set_iterator.__next__") (n:=['_','_','t','x','e','n','_','_']) (o:=['r','o','t','a','r','e','t','i','_','t','e','s']) (by kernel_rfl) owner];kernel_rfl
theorem sG:Slot "set_iterator" "__iter__" "set_iterator.__iter__" :=
 .of (owner:="set_iterator") (n:="__iter__") (by rw[typeLookup_type,builtinLookup_eq_fast];kernel_rfl) (by decide +kernel) (by decide +kernel) (by decide +kernel) (by first|exact .inl (by decide +kernel)|exact .inr (by decide +kernel)) (by rw[isSubtype_type];kernel_rfl)
theorem entry_self:entryFor table "set_iterator.__iter__" = some Builtin.«dict_keyiterator.__iter__» :=
 entryFor_alias (id':="dict_keyiterator.__iter__") (by kernel_rfl) rfl (by decide +kernel) (by kernel_rfl)
theorem Bt(a:Value):argsOk "set_iterator.__iter__" ⟨[a],[]⟩:=by
 unfold argsOk;rw[signature?_of (id:="set_iterator.__iter__") (n:=['_','_','r','e','t','i','_','_']) (o:=['r','o','t','a','r','e','t','i','_','t','e','s']) (by kernel_rfl) owner];kernel_rfl
end SI
section
variable {prog:Program} {w:World} {A:Around} {E:Value->Shared->Prop} {s:Shared}
def e9(h:Heap)(it:Addr)(f:Value)(i:Nat)(a:Addr)(n ep:Nat):Prop:=∃o,h.get? it=some o/\o.cls=.type "set_iterator" /\ o.data=.fields [f,.int i 0,.ref a,.int n 0,.int ep 0].toArray
theorem e9.typeIs{i:Nat}{n ep:Nat}(x:e9 s.heap it f i a n ep):s.TypeIs (.ref it) "set_iterator":=let ⟨o,ho,hc,_⟩:=x;⟨o,ho,hc⟩
theorem nj{i:Nat}{n ep:Nat}(x:e9 s.heap it f i a n ep)(h:Q (.ref it) s):wpAny (model prog w) A (pyIter (.ref it)) Q E s:=by
 refine wpAny_pyIter_slot x.typeIs SI.sG (wpAny_call_entry SI.sG x.typeIs SI.entry_self ?_ (SI.Bt _));exact Zf ⟨_,rfl,"set_iterator",_,x.typeIs,SI.slot_next.lookup,h⟩
end
section
variable {prog:Program} {w:World} {A:Around} {E:Value->Shared->Prop} {s:Shared}
theorem iC{ep:Nat}(ho:s.heap.get? a=some o)(hd:o.data=.set es ep t)(hf:t.fits es.size=true)(h:Q es s):wpAny (model prog w) A (setEntries a) Q E s:=by
 unfold setEntries;exact Y8 (wpAny_setState_of ho hd hf (Zf h))
theorem kL(h:Q (rE w) s):wpAny (model prog w) A setsByText Q E s:=by
 unfold setsByText;exact Y8 (wpAny_askSetting (Zf h))
theorem sH{ep sl g:Nat}{ks:List Int}(S:dY prog w s.heap a o es ep t ks)(hb:rE w=false)(hp:(!t.plain&&decide (es.size>1))=false)
  (hQ:Q (match es[SetTable.below t.place sl]?,t.place[SetTable.below t.place sl]? with|some (_,x),some j=>some (x,j+1)|_,_=>none) s):wpAny (model prog w) A (setNext a sl g ep) Q E s:=by
 have led:t.led=true:=by rw[S.tab.led,hb];rfl
 unfold setNext;refine Y8 (wpAny_setState_of S.at_ S.dat S.tab.fit ?_);dsimp only;refine Y8 (kL ?_);rw[hb];simp only[false_eq_true,↓reduceIte];rw[Zi (λz=>by
  have z':(!t.plain&&decide (es.size>1))=true:=z;rw[hp]at z';cases z')]
 refine Y8 ?_;show wpAny _ _ (if (!t.led && !es.isEmpty)=true then Sem.unsupported "set:maker-not-led" else pure ()) _ _ _;rw[Zi (by rw[led];simp)];exact Zf (Zf hQ)
theorem sI{ep sl g:Nat}{ks:List Int}(S:dY prog w s.heap a o es ep t ks)(hb:rE w=true)
  (hQ:Q (((pickOrder (w.params.setOrder a ep) es)[g]?).map λe=>(e.2,sl)) s):wpAny (model prog w) A (setNext a sl g ep) Q E s:=by
 unfold setNext;refine Y8 (wpAny_setState_of S.at_ S.dat S.tab.fit ?_);dsimp only;refine Y8 (kL ?_);rw[hb];simp only[bne_self_eq_false,false_eq_true,↓reduceIte];unfold setWalk;refine Y8 (Y8 (wpAny_setState_of S.at_ S.dat S.tab.fit ?_));dsimp only;refine Y8 (kL ?_);rw[hb];simp only[↓reduceIte];exact Y8 (wpAny_askSetting (Zf (Zf hQ)))
theorem mh{ep:Nat}{ks:List Int}{i sl:Nat}(hh:A.handled=none)(x:e9 s.heap it (.int sl 0) i a es.size ep)(S:dY prog w s.heap a o es ep t ks)
  (hn:∀(A:Around) (E:Value->Shared->Prop) (Q:Option (Value×Nat)->Shared->Prop),Q r s->wpAny (model prog w) A (setNext a sl i ep) Q E s)
  (hQ:∀v nx,r=some (v,nx)->∀h',e9 h' it (.int (nx:Nat) 0) (i+1) a es.size ep->Heap.SameBut it s.heap h'->Q (some v) { s with heap:=h' })
  (hE:r=none->∀h',Heap.ExtBut it s.heap h'->Q none { s with heap:=h' }):wpAny (model prog w) A (pyNext (.ref it)) Q E s:=by
 obtain⟨oi,GB,TQ,hdi⟩:=id x;unfold pyNext;refine Y8 (wpAny_attempt (wpAny_callSpecial?_slot (name:=Str.ofString "__next__") x.typeIs SI.slot_next (wpAny_call_entry SI.slot_next x.typeIs SI.entry_next ?_ (SI.args_next _))));unfold Builtin.«set_iterator.__next__»;refine Y8 (Zf ?_);refine Y8 (wpAny_fieldsOf GB hdi ?_);dsimp only;refine Y8 (iC S.at_ S.dat S.tab.fit ?_);rw[Zi (by simp)];refine Y8 (hn _ _ _ ?_);cases r with
 |some p=>
  obtain⟨v,nx⟩:=p;dsimp only;refine Y8 (wpAny_setField GB hdi (by simp) ?_);have h1:=get?_update_self (Obj.mapFields (·.setIfInBounds 0 (rawInt nx))) GB (Obj.isFreed_of_fields (Obj.data_mapFields hdi _));have d1:=Obj.data_mapFields hdi (·.setIfInBounds 0 (rawInt nx));refine Y8 (wpAny_setField h1 d1 (by simp) ?_);have h2:=get?_update_self (Obj.mapFields (·.setIfInBounds 1 (rawInt ((i:Int)+1)))) h1 (Obj.isFreed_of_fields (Obj.data_mapFields d1 _));refine Zf ⟨_,rfl,Zf (hQ v nx rfl _ ⟨_,h2,?_,?_⟩ ((Heap.SameBut.update ..).trans (Heap.SameBut.update ..)))⟩
  ·rw[Obj.cls_mapFields,Obj.cls_mapFields];exact TQ
  ·rw[Obj.data_mapFields d1];simp[rawInt]
 |none=>dsimp only;refine Y8 (wpAny_setField GB hdi (by simp) ?_);refine Y8 ?_;simp only[newExc,newTuple];refine Y8 (ZJ ?_ (by size_fits));refine Y8 (m:=firstArgMember _ _) (wpAny_of_eq (a:=Value.none) (by first|rfl|(simp only[firstArgMember];rfl)) ?_);refine ZJ ?_ (by size_fits);simp only[raiseNew];refine Y8 (wpAny_handled ?_);rw[show A.in1.handled=none from hh];refine Y8 (Zf (wpAny_throw ?_));refine Y8 (wpAny_isInstance (T:="StopIteration") (b:=true) ⟨_,Zr _ rfl,rfl⟩ isSubtype_stop ?_);exact Zf (hE rfl _ (((Heap.SameBut.update ..).extBut.push _).push _))
end
theorem lC{α:Type}:∀(l:List α) (i:Nat) (h:i<l.length),(l[i]::l.eraseIdx i).Perm l
 |x::l,0,_=>List.Perm.refl _
 | x::l,i+1,h=>by
  simp only[List.getElem_cons_succ,List.eraseIdx_cons_succ];exact(List.Perm.swap _ _ _).trans (List.Perm.cons x (lC l i (by simpa using h)))
section
variable {prog:Program} {w:World} {A:Around} {E:Value->Shared->Prop} {s:Shared}
theorem Bu{n:Nat}(hn:n≠0)(h:∀i d,i<n->Q i { s with drawn:=d }):wpAny (model prog w) A (choose src n) Q E s:=fun Γ p hΓ=>by
 show Sem.wp _ _ (Sem.choose src n Sem.pure) _ _ _ _;rw[Sem.wp];exact⟨hn,h _ _ (mod_lt _ (Nat.pos_of_ne_zero hn))⟩
theorem zA{α:Type}:∀(n:Nat) (xs:List α) (s:Shared) (Q:List α -> Shared->Prop),xs.length=n->(∀ys d,ys.Perm xs->Q ys { s with drawn:=d })->wpAny (model prog w) A (drawOrder n xs) Q E s
 | 0,xs,s,Q,hl,h=>by
  have:xs=[]:=List.eq_nil_of_length_eq_zero hl;subst this;unfold drawOrder;exact Zf (h [] s.drawn (List.Perm.refl _))
 |n+1,[],s,Q,hl,h=>by simp at hl
 | n+1,x::xs,s,Q,hl,h=>by
  unfold drawOrder;refine Y8 (Bu (by simp) λi d hi=>?_);have hx:(x::xs)[i]?=some ((x::xs)[i]):=ZG hi;rw[hx];dsimp only;refine Y8 (zA n ((x::xs).eraseIdx i) _ _ (by rw[List.length_eraseIdx,Zg hi];simp at hl |-;omega) λys d' p=>Zf ?_);exact h _ d' (((List.Perm.cons _ p).trans (lC _ i hi)))
theorem pZ{ep c:Nat}{ks:List Int}{i:Nat}{ps:List Nat}(hh:A.handled=none)(x:e9 s.heap it (.ref td) i a es.size ep)(S:dY prog w s.heap a o es ep t ks)
  (hT:s.heap.get? td=some oT) (Sk:oT.data=.seq (ps.map λ(j:Nat)=>rawInt j).toArray c) (hlt:∀j∈ps,j<es.size)
  (hQ:∀j e,ps[i]?=some j->es[j]?=some e->∀h',e9 h' it (.ref td) (i+1) a es.size ep->Heap.SameBut it s.heap h'->Q (some e.2) { s with heap:=h' })
  (hE:ps[i]?=none->∀h',Heap.ExtBut it s.heap h'->Q none { s with heap:=h' }):wpAny (model prog w) A (pyNext (.ref it)) Q E s:=by
 obtain⟨oi,GB,TQ,hdi⟩:=id x;unfold pyNext;refine Y8 (wpAny_attempt (wpAny_callSpecial?_slot (name:=Str.ofString "__next__") x.typeIs SI.slot_next (wpAny_call_entry SI.slot_next x.typeIs SI.entry_next ?_ (SI.args_next _))));unfold Builtin.«set_iterator.__next__»;refine Y8 (Zf ?_);refine Y8 (wpAny_fieldsOf GB hdi ?_);dsimp only;refine Y8 (iC S.at_ S.dat S.tab.fit ?_);rw[Zi (by simp)];refine Y8 (wpAny_seqItems hT Sk ?_);dsimp only;have hg:((ps.map λ(j:Nat)=>rawInt j).toArray)[((i:Nat):Int).toNat]?=(ps[i]?).map λ(j:Nat)=>rawInt j:=by simp
 rw[hg];cases hp:ps[i]? with
 |some j=>
  have hj:j<es.size:=hlt j (Zz hp);simp only[map_some,rawInt];refine Y8 ?_;unfold setNextDrawn;refine Y8 (wpAny_setState_of S.at_ S.dat S.tab.fit ?_);dsimp only;rw[Zi (by simp)];have WR:es[((j:Nat):Int).toNat]?=some es[j]:=by simp[hj]
  rw[WR];refine Zf ?_;refine Y8 (wpAny_setField GB hdi (by simp) ?_);have h2:=get?_update_self (Obj.mapFields (·.setIfInBounds 1 (.int ((i:Int)+1) 0))) GB (Obj.isFreed_of_fields (Obj.data_mapFields hdi _));refine Zf ⟨_,rfl,Zf (hQ j _ hp (ZO hj) _ ⟨_,h2,?_,?_⟩ (Heap.SameBut.update ..))⟩
  ·rw[Obj.cls_mapFields];exact TQ
  ·rw[Obj.data_mapFields hdi];simp
 |none=>simp only[Option.map_none];refine Y8 (wpAny_setField GB hdi (by simp) ?_);have h1:=get?_update_self (Obj.mapFields (·.setIfInBounds 0 (rawInt 0))) GB (Obj.isFreed_of_fields (Obj.data_mapFields hdi _));have d1:=Obj.data_mapFields hdi (·.setIfInBounds 0 (rawInt 0));refine Y8 (wpAny_setField h1 d1 (by simp) ?_);refine Y8 ?_;simp only[newExc,newTuple];refine Y8 (ZJ ?_ (by size_fits));refine Y8 (m:=firstArgMember _ _) (wpAny_of_eq (a:=Value.none) (by first|rfl|(simp only[firstArgMember];rfl)) ?_);refine ZJ ?_ (by size_fits);simp only[raiseNew];refine Y8 (wpAny_handled ?_);rw[show A.in1.handled=none from hh];refine Y8 (Zf (wpAny_throw ?_));refine Y8 (wpAny_isInstance (T:="StopIteration") (b:=true) ⟨_,Zr _ rfl,rfl⟩ isSubtype_stop ?_);exact Zf (hE hp _ ((((Heap.SameBut.update ..).trans (Heap.SameBut.update ..)).extBut.push _).push _))
end
theorem sJ{α:Type}(f:Nat->Nat):∀(n k:Nat) (l:List α) (out:Array α),l.length=n->(pickOrder.go f n k l out).toList.Perm (out.toList++l)
 | 0,k,l,out,h=>by
  have:l=[]:=List.eq_nil_of_length_eq_zero h;subst this;unfold pickOrder.go;simp
 | n+1,k,l,out,h=>by
  unfold pickOrder.go;have hl:0<l.length:=by omega
  have hi:f k%l.length<l.length:=mod_lt _ hl;rw[ZG hi];dsimp only;refine(sJ f n (k+1) _ _ (by rw[List.length_eraseIdx,Zg hi];omega)).trans ?_;rw[Array.toList_push,List.append_assoc];exact List.Perm.append_left _ (lC l _ hi)
theorem sL{t:SetTable}{n:Nat}(h:t.fits n=true):t.place.size=n:=by
 simp only[SetTable.fits,and_eq_true,beq_iff_eq]at h;exact h.1
def Sl(t:SetTable):Nat->Nat
 |0=>0
 |i+1=>t.place.getD i 0+1
theorem sM(r:sD t.place):∀i,i<=t.place.size->SetTable.below t.place (Sl t i)=i
 |0,_=>yC r
 | i+1,h=>by
  have hi:i<t.place.size:=h;have e:Sl t (i+1)=t.place[i]+1:=by simp[Sl,Array.getD,hi]
  rw[e];exact yD r hi
section
variable {prog:Program} {w:World} {A:Around} {E:Value->Shared->Prop} {s:Shared}
theorem dY.keep{ep:Nat}{ks:List Int}(S:dY prog w h a o es ep t ks)(k:∀o,h.get? a=some o->h'.get? a=some o):dY prog w h' a o es ep t ks:={ S with at_:=k o S.at_ }
theorem e9.keep{i:Nat}{n ep:Nat}(x:e9 h it f i a n ep)(k:∀o,h.get? it=some o->h'.get? it=some o):e9 h' it f i a n ep:=by
 obtain⟨o,ho,r⟩:=x;exact⟨o,k o ho,r⟩
def PL(L:List (Int×Value))(i:Nat)(v:Value):Prop:=∃e,L[i]?=some e/\v=e.2
theorem Bv(hh:A.handled=none){ep:Nat}{ks:List Int}(hne:a≠I)(hb:rE w=false)(hp:(!t.plain&&decide (es.size>1))=false) :
  Walks prog w A I [I,a] [I] es.toList.length (PL es.toList) (λi h=>dY prog w h a o es ep t ks/\e9 h I (.int (Sl t i) 0) i a es.size ep) where
 sub:=λb hb=>by simp at hb;simp[hb]
 frame:=λ_ _ _ st hk=>⟨st.1.keep λo e=>hk a (by simp) o e,st.2.keep λo e=>hk I (by simp) o e⟩
 item:=λi s Q E hi st hQ=>by
  have hi:i<es.size:=by simpa using hi
  have hz:=sL st.1.tab.fit;have hb':=sM st.1.tab.rs i (by rw[hz];exact le_of_lt hi);refine mh (r:=some (es[i].2,t.place.getD i 0+1)) hh st.2 st.1 (λA E Q q=>sH st.1 hb hp ?_) (λv nx e h' x' sb=>?_) (λe=>nomatch e)
  ·rw[hb',ZO hi,ZO (by rw[hz];exact hi)]
   have e1:t.place[i]'(by rw[hz];exact hi)=t.place.getD i 0:=by simp[Array.getD,hz,hi]
   dsimp only;rw[e1];exact q
  ·cases e;exact hQ _ h' s.toks ⟨es[i],by simp[hi],rfl⟩ ⟨st.1.keep λo e=>sb.extBut a o hne e,x'⟩ λb o hb e=>sb.extBut b o (λz=>hb (by simp[z])) e
 done:=λs Q E st hQ=>by
  have hz:=sL st.1.tab.fit;have hb':=sM st.1.tab.rs es.toList.length (by rw[hz];simp);refine mh (r:=none) hh st.2 st.1 (λA E Q q=>sH st.1 hb hp ?_) (λv nx e=>nomatch e) (λ_ h' sb=>hQ h' s.toks λb o hb e=>sb b o (λz=>hb (by simp[z])) e);rw[hb',Array.getElem?_eq_none (by simp)];exact q
 self:=λ_ _ _ _ st hQ=>nj st.2 hQ
theorem Bw(hh:A.handled=none){ep:Nat}{ks:List Int}(hne:a≠I)(hb:rE w=true) :
  Walks prog w A I [I,a] [I] (pickOrder (w.params.setOrder a ep) es).toList.length (PL (pickOrder (w.params.setOrder a ep) es).toList) (λi h=>dY prog w h a o es ep t ks/\e9 h I (.int (0:Nat) 0) i a es.size ep) where
 sub:=λb hb=>by simp at hb;simp[hb]
 frame:=λ_ _ _ st hk=>⟨st.1.keep λo e=>hk a (by simp) o e,st.2.keep λo e=>hk I (by simp) o e⟩
 item:=λi s Q E hi st hQ=>by
  have hi:i<(pickOrder (w.params.setOrder a ep) es).size:=by simpa using hi
  refine mh (r:=some ((pickOrder (w.params.setOrder a ep) es)[i].2,0)) hh st.2 st.1 (λA E Q q=>sI st.1 hb ?_) (λv nx e h' x' sb=>?_) (λe=>nomatch e)
  ·rw[ZO hi];exact q
  ·cases e;exact hQ _ h' s.toks ⟨(pickOrder (w.params.setOrder a ep) es)[i],by simp[hi],rfl⟩ ⟨st.1.keep λo e=>sb.extBut a o hne e,x'⟩ λb o hb e=>sb.extBut b o (λz=>hb (by simp[z])) e
 done:=λs Q E st hQ=>by
  refine mh (r:=none) hh st.2 st.1 (λA E Q q=>sI st.1 hb ?_) (λv nx e=>nomatch e) (λ_ h' sb=>hQ h' s.toks λb o hb e=>sb b o (λz=>hb (by simp[z])) e);rw[Array.getElem?_eq_none (by simp)];exact q
 self:=λ_ _ _ _ st hQ=>nj st.2 hQ
theorem yG(hh:A.handled=none){ep c:Nat}{ks:List Int}{ps:List Nat}(hne:a≠I)(hnt:td≠I)(hlt:∀j∈ps,j<es.size)(Sk:oT.data=.seq (ps.map λ(j:Nat)=>rawInt j).toArray c) :
  Walks prog w A I [I,a,td] [I] ps.length (PL (ps.map λj=>es.getD j (0,.none))) (λi h=>dY prog w h a o es ep t ks/\e9 h I (.ref td) i a es.size ep/\h.get? td=some oT) where
 sub:=λb hb=>by simp at hb;simp[hb]
 frame:=λ_ _ _ st hk=>⟨st.1.keep λo e=>hk a (by simp) o e,st.2.1.keep λo e=>hk I (by simp) o e,hk td (by simp) _ st.2.2⟩
 item:=λi s Q E hi st hQ=>by
  refine pZ hh st.2.1 st.1 st.2.2 Sk hlt (λj e hj he h' x' sb=>?_) (λhn=>absurd hn (by rw[ZG hi];simp));refine hQ _ h' s.toks ⟨e,?_,rfl⟩ ⟨st.1.keep λo e=>sb.extBut a o hne e,x',sb.extBut td _ hnt st.2.2⟩ λb o hb e=>sb.extBut b o (λz=>hb (by simp[z])) e;rw[Zx,hj];have hjl:j<es.size:=(Array.getElem?_eq_some_iff.mp he).1;have:=(Array.getElem?_eq_some_iff.mp he).2;simp[Array.getD,hjl,this]
 done:=λs Q E st hQ=>pZ hh st.2.1 st.1 st.2.2 Sk hlt (λj e hj=>absurd hj (by simp)) (λ_ h' sb=>hQ h' s.toks λb o hb e=>sb b o (λz=>hb (by simp[z])) e)
 self:=λ_ _ _ _ st hQ=>nj st.2.1 hQ
end
section
variable {prog:Program} {w:World} {A:Around} {E:Value->Shared->Prop} {s:Shared}
theorem Dj{ep:Nat}{ks:List Int}(S:dY prog w s.heap a o es ep t ks)(h:Q (!rE w&&(!t.plain&&decide (es.size>1))) s):wpAny (model prog w) A (setDrawn a) Q E s:=by
 unfold setDrawn;refine Y8 (wpAny_setState_of S.at_ S.dat S.tab.fit ?_);dsimp only;exact Y8 (kL (Zf h))
theorem vI{ep:Nat}{ks:List Int}(S:dY prog w s.heap a o es ep t ks)(h:Q ep s):wpAny (model prog w) A (setEpoch a) Q E s:=wpAny_setEpoch_of S.at_ S.dat S.tab.fit h
theorem Dk(hh:A.handled=none){ep:Nat}{ks:List Int}(S:dY prog w s.heap a o es ep t ks)
  (hQ:∀(h':Heap) d (I:Addr) (fp:List Addr) (L:List (Int×Value)) (St:Nat->Heap->Prop),L.Perm es.toList->Walks prog w A I fp [I] L.length (PL L) St->St 0 h'->s.heap.objs.size<=I->I<h'.objs.size->(∀b∈fp,b=a\/s.heap.objs.size<=b)->(∀b o,s.heap.get? b=some o->h'.get? b=some o)->Q (.ref I) { s with heap:=h',drawn:=d }) :
  wpAny (model prog w) A (pyIter (.ref a)) Q E s:=by
 have hT:s.TypeIs (.ref a) "set":=⟨o,S.at_,S.ex.1⟩;have hlt:a<s.heap.objs.size:=Zj S.at_;refine wpAny_pyIter_slot hT PySem.F.slot_set_iter (wpAny_call_entry PySem.F.slot_set_iter hT SI.yF ?_ (PySem.F.args_set_iter_1 _));unfold Builtin.«frozenset.__iter__» Builtin.Frozenset.slot0 Builtin.Frozenset.sizeOf;refine Y8 (Y8 (Zf (Zf ?_)));refine Y8 (Y8 (iC S.at_ S.dat S.tab.fit (Zf ?_)));refine Y8 (Dj S ?_);cases hd:(!rE w&&(!t.plain&&decide (es.size>1))) with
 |false=>
  simp only[false_eq_true,↓reduceIte];refine Y8 (Zf ?_);refine Y8 (vI S ?_);refine Y8 (ZJ (Zf ⟨_,rfl,"set_iterator",_,⟨_,Zr _ rfl,rfl⟩,SI.slot_next.lookup,?_⟩));have e:s={ s with drawn:=s.drawn }:=by cases s;rfl
  have Ve:∀b∈[s.heap.objs.size,a],b=a\/s.heap.objs.size<=b:=λb hb=>by
   simp only[mem_cons,not_mem_nil,or_false]at hb
   rcases hb with rfl|rfl
   ·exact .inr (Zm _)
   ·exact .inl rfl
  have sz:s.heap.objs.size<(s.heap.push { cls:=.type "set_iterator",data:=.fields ([rawInt 0,rawInt 0,.ref a,rawInt es.size,rawInt ep]:List Value).toArray }).objs.size:=by rw[size_push];exact lt_succ_self _
  cases hb:rE w with
  |true=>exact hQ _ s.drawn _ _ _ _ (sJ _ _ 0 es.toList #[] (by simp)) (Bw hh (Zt hlt) hb) ⟨S.keep λo e=>Zc _ e,⟨_,Zr _ rfl,rfl,rfl⟩⟩ (Zm _) sz Ve λb o e=>Zc _ e
  |false=>rw[hb]at hd;exact hQ _ s.drawn _ _ _ _ (List.Perm.refl _) (Bv hh (Zt hlt) hb (by simpa using hd)) ⟨S.keep λo e=>Zc _ e,⟨_,Zr _ rfl,rfl,rfl⟩⟩ (Zm _) sz Ve λb o e=>Zc _ e
 |true=>
  simp only[↓reduceIte];refine Y8 (zA es.size (List.range es.size) s _ (by simp) λps d pp=>?_);refine Y8 ?_;simp only[newTuple];refine ZJ ?_ (by show (toArray _).size<=sizeLine;rw[Zq,Ze,pp.length_eq,length_range];exact fits_of_scanBound S.tab.few);have S1:dY prog w (s.heap.push { cls:=.type "tuple",data:=.seq (ps.map λ(i:Nat)=>rawInt i).toArray }) a o es ep t ks:=S.keep λo e=>Zc _ e;refine Y8 (vI S1 ?_);refine Y8 (ZJ (Zf ⟨_,rfl,"set_iterator",_,⟨_,Zr _ rfl,rfl⟩,SI.slot_next.lookup,?_⟩));have hpl:∀j∈ps,j<es.size:=λj hj=>by simpa using pp.mem_iff.mp hj
  have perm:(ps.map λj=>es.getD j (0,Value.none)).Perm es.toList:=by
   have e2:(List.range es.size).map (λj=>es.getD j (0,Value.none))=es.toList:=by
    apply ext_getElem
    ·simp
    ·intro i h1 h2
     have hi:i<es.size:=by simpa using h2
     simp[Array.getD,hi]
   rw[<-e2];exact pp.map _
  have z1:(s.heap.push { cls:=.type "tuple",data:=.seq (ps.map λ(i:Nat)=>rawInt i).toArray }).objs.size=s.heap.objs.size+1:=size_push _ _;have W:=yG (prog:=prog) (w:=w) (A:=A) (o:=o) (ep:=ep) (t:=t) (ks:=ks) hh (I:=s.heap.objs.size+1) (a:=a) (td:=s.heap.objs.size) (oT:={ cls:=.type "tuple",data:=.seq (ps.map λ(i:Nat)=>rawInt i).toArray }) (es:=es) (c:=0) (ps:=ps) (Zt (lt_succ_of_lt hlt)) (Zt (lt_succ_self _)) hpl rfl;rw[show ps.length=(ps.map λj=>es.getD j (0,Value.none)).length by simp] at W;rw[z1];refine hQ _ d _ _ _ _ perm W ⟨S1.keep λo e=>Zc _ e,⟨{ cls:=.type "set_iterator",data:=.fields ([.ref s.heap.objs.size,rawInt 0,.ref a,rawInt es.size,rawInt ep]:List Value).toArray },?_,rfl,rfl⟩,Zc _ (Zr _ rfl)⟩ (le_succ _) ?_ ?_ λb o e=>Zc _ (Zc _ e)
  ·rw[<-z1];exact Zr _ rfl
  ·rw[size_push,z1];exact lt_succ_self _
  ·intro b hb
   simp only[mem_cons,not_mem_nil,or_false]at hb
   rcases hb with rfl|rfl|rfl
   ·exact .inr (le_succ _)
   ·exact .inl rfl
   ·exact .inr (Zm _)
end
section
variable {prog:Program} {w:World} {A:Around} {E:Value->Shared->Prop} {s:Shared}
theorem Dl(hT:s.TypeIs (.ref r) "set")(h:Q false s):wpAny (model prog w) A (Builtin.List.listLengthHint (.ref r)) Q E s:=by
 unfold Builtin.List.listLengthHint;refine Y8 (wpAny_specialOf hT PySem.F.slot_set_len.lookup ?_);generalize hid:("set.__len__":String)=WS
 wp_delta
 rw[show splitId WS=some ("set","__len__") from by subst hid;decide +kernel];subst hid;refine Y8 (wpAny_isInstance (T:="set") (b:=true) hT sub_set_self ?_);refine wpAny_ite_split (λz=>absurd z (by decide)) (λ_=>?_);refine wpAny_ite_split (λ_=>?_) (λz=>absurd (by decide +kernel) z);exact Y8 (wpAny_typeOf hT (Zf h))
theorem vJ(hh:A.handled=none){ep:Nat}{ks:List Int}(S:dY prog w s.heap a o es ep t ks)
  (h:∀(h':Heap) (tk:Nat) d (L:List (Int×Value)),(∀b o,s.heap.get? b=some o->h'.get? b=some o)->s.heap.objs.size<h'.objs.size->L.Perm es.toList->R (L.map (·.2)) { s with heap:=h',toks:=tk,drawn:=d }) :
  wpAny (model prog w) A (collect (.ref a)) R E s:=by
 have hlt:a<s.heap.objs.size:=Zj S.at_;unfold collect;refine Y8 (wpAny_runValue (codeAny_builtin entry_proto_collect' ?_));rw[Around.under_plainId PySem.F.plain_proto_collect _];show wpAny _ A.in1 (newList [] >>= λl=>again (.builtin "list.__iadd__" ⟨[l,.ref a],[]⟩)) _ _ s;refine Y8 (ZJ ?_);refine Zf ⟨plainId_quiet PySem.F.plain_list_iadd _,codeAny_builtin entry_list_iadd' ?_⟩;rw[Around.under_plainId PySem.F.plain_list_iadd _]
 let s1:Shared:={ s with heap:=s.heap.push { cls:=.type "list",data:=.seq ([]:List Value).toArray } }
 have l1:s1.heap.get? s.heap.objs.size=some { cls:=.type "list",data:=.seq #[] }:=Zr _ rfl;have S1:dY prog w s1.heap a o es ep t ks:=S.keep λo e=>Zc _ e;have z1:s1.heap.objs.size=s.heap.objs.size+1:=size_push _ _;have hT:s1.TypeIs (.ref a) "set":=⟨o,S1.at_,S1.ex.1⟩;show wpAny _ A.in1 (Builtin.List.listExtendWith (.ref s.heap.objs.size) (.ref a) (.ref s.heap.objs.size)) _ _ s1;unfold Builtin.List.listExtendWith;refine Y8 (wpAny_typeOf hT ?_);have n1:Builtin.List.listSameRef (.ref s.heap.objs.size) (.ref a)=false:=by simp[Builtin.List.listSameRef,ne_of_gt hlt]
 simp only[n1,show (Value.type "set" == Value.type "list")=false by decide,show (Value.type "set" == Value.type "tuple")=false by decide,Bool.or_false,false_eq_true,if_false];refine Y8 (Dk (A:=A.in1) (by simp[hh]) S1 λh2 d I fp L St perm W st zI YW hfp k2=>?_);have l2:h2.get? s.heap.objs.size=some { cls:=.type "list",data:=.seq #[] }:=k2 _ _ l1;have nfp:s.heap.objs.size∉fp:=λz=>by
  rcases hfp _ z with e|e
  ·exact absurd e (ne_of_gt hlt)
  ·rw[z1]at e;exact absurd e (Nat.not_succ_le_self _)
 have hl:L.length<=sizeLine:=by rw[perm.length_eq,ZH];exact fits_of_scanBound S.tab.few
 have key:∀(hp:Heap) (c₁:Nat) (Rr:Result->Shared->Prop),St 0 hp->(∀b o,b≠s.heap.objs.size->h2.get? b=some o->hp.get? b=some o)->hp.get? s.heap.objs.size=some { cls:=.type "list",data:=.seq #[] c₁ } ->
   (∀(s':Shared) (acc:Array Value) (c:Nat),s'.heap.get? s.heap.objs.size=some { cls:=.type "list",dict:=none,data:=.seq acc c,slots:=#[] }->R acc.toList s'->Rr (.ok (.ret (.ref s.heap.objs.size))) s') ->
   codeAny (model prog w) A (.builtin "list.extend.loop" ⟨[.ref s.heap.objs.size,.ref I,.ref s.heap.objs.size],[]⟩) Rr { s1 with heap:=hp,drawn:=d }:=by
  intro hp c₁ Rr hst hk hS hR;refine codeAny_extend_loopS W.toS hl s.heap.objs.size nfp (.ref s.heap.objs.size) L.length 0 _ #[] c₁ rfl (zero_le _) hst hS (ItemsOf.nil _) λs' acc c hm hS' hacc=>?_;refine hR s' acc c hS' ?_;have ea:acc.toList=L.map (·.2):=by
   apply ext_getElem
   ·rw[ZH,hacc.1,Ze]
   ·intro j h1 h2
    have hj:j<acc.size:=by simpa using h1
    obtain⟨e,he,hv⟩:=hacc.2 j acc[j] (ZO hj);rw[Array.getElem_toList,hv,getElem_map];obtain⟨hj2,e2⟩:=Zb.mp he;rw[e2]
  rw[ea,Moved.eq_with hm];refine h s'.heap s'.toks d L (λb o e=>?_) (Zj hS') perm;have hb:b<s.heap.objs.size:=Zj e;refine hm.heap b o (λz=>?_) (hk b o (Zt hb) (k2 b o (Zc _ e)))
  rcases Zw.mp z with z|z
  ·exact absurd z (Zt hb)
  ·rw[Zs]at z;rw[z]at hb;rw[z1]at zI;exact absurd (Zn hb (Nat.le_of_succ_le zI)) (lt_irrefl _)
 have fin:∀(s':Shared) (acc:Array Value) (c:Nat),s'.heap.get? s.heap.objs.size=some { cls:=.type "list",dict:=none,data:=.seq acc c,slots:=#[] }->R acc.toList s'->wpAny (model prog w) A (load s.heap.objs.size >>= λob=>(match ob.data with|.seq xs _=>pure xs.toList|_=>unsupported "internal:collect")) R E s':=λs' acc c e q=>Y8 (wpAny_load e (Zf q));refine Y8 (wpAny_holding (Dl ⟨o,k2 _ _ S1.at_,S1.ex.1⟩ ?_));refine wpAny_ite_split (λ_=>?_) (λ_=>Zf ⟨plainId_quiet PySem.F.plain_extend_loop _,key _ 0 _ st (λb o _ e=>e) l2 fin⟩);refine Y8 (wpAny_rule ?_);refine Y8 ?_;show wpAny _ _ (updateSeq s.heap.objs.size (·.push .none) >>= λ_=>updateSeq s.heap.objs.size (·.pop)) _ _ _;refine Y8 (wpAny_updateSeq l2 rfl ?_);have l3:=get?_update_self (Obj.mapSeq (·.push Value.none)) l2 rfl;refine wpAny_updateSeq (hz:=by seq_fits) l3 rfl ?_;have l4:=get?_update_self (Obj.mapSeq (·.pop)) l3 rfl;have oth:∀b o,b≠s.heap.objs.size->h2.get? b=some o->((h2.update s.heap.objs.size (Obj.mapSeq (·.push Value.none))).update s.heap.objs.size (Obj.mapSeq (·.pop))).get? b=some o:=λb o hb e=>(Heap.get?_update_other _ _ (Ne.symm hb)).trans ((Heap.get?_update_other _ _ (Ne.symm hb)).trans e);exact Zf ⟨plainId_quiet PySem.F.plain_extend_loop _,key _ _ _ (W.frame 0 _ _ st λb hb o e=>oth b o (λz=>nfp (z▸hb)) e) oth l4 fin⟩
end
theorem vK:∀(ks ns:List Int),ks.Nodup->(∀k∈ks,k∈ns)->ks.length=ns.length->ks.Perm ns
 | [],ns,_,_,h=>by
  have:ns=[]:=List.eq_nil_of_length_eq_zero h.symm;subst this;exact List.Perm.refl _
 | k::ks,ns,nd,hs,hl=>by
  have hk:=hs k Zk;have Vf:=nodup_cons.mp nd;have p:=List.perm_cons_erase hk;refine(List.Perm.cons k (vK ks (ns.erase k) Vf.2 (λx hx=>?_) ?_)).trans p.symm
  ·exact(List.mem_erase_of_ne λz=>Vf.1 (by rw[<-z];exact hx)).mpr (hs x (Zh _ hx))
  ·rw[List.length_erase_of_mem hk];simp only[length_cons]at hl;omega
def vL:Value->Int
 |.int i _=>i
 |_=>0
section
variable {prog:Program} {w:World} {A:Around} {E:Value->Shared->Prop} {s:Shared}
theorem p7:∀{L:List (Int×Value)},ElemsOf (intKind prog w) L->IntsAre (L.map (·.2)) (L.map λe=>vL e.2)
 |[],_=>.nil
 | (h,v)::L,el=>by
  obtain⟨⟨k,hk,_⟩,_⟩:=el _ Zk;obtain⟨t,e⟩:=Value.isInt_shape (k:=k) (v:=v) hk;subst e;exact .cons k t (p7 λx hx=>el x (Zh _ hx))
theorem Dm{h:Heap}{a:Addr}{o:Obj}{es:Array (Int×Value)}{ep:Nat}{t:SetTable}{ks:List Int}(S:dY prog w h a o es ep t ks){L:List (Int×Value)}(p:L.Perm es.toList):(L.map λe=>vL e.2).Perm ks:=by
 refine(vK ks _ S.U9 (λk hk=>?_) ?_).symm
 ·obtain⟨e,he,q⟩:=(S.mem k).mp hk;obtain⟨t',ev⟩:=Value.isInt_shape (k:=k) (v:=e.2) q;exact mem_map.mpr ⟨e,p.mem_iff.mpr he,by rw[ev];rfl⟩
 ·have:=S.num;rw[Ze,p.length_eq,ZH];exact this.symm
theorem yH(hh:A.handled=none){ep:Nat}{ks:List Int}(S:dY prog w s.heap a o es ep t ks)(h64:ks.length<64)
  (hQ:∀(h':Heap) (tk:Nat) d (D:Addr) (out:List Value) (e:Nat),(∀b o,s.heap.get? b=some o->h'.get? b=some o)->s.heap.objs.size<=D->h'.get? D=some (seqObj "list" out.toArray e)->IntsAre out (sortI ks)->Q (.ref D) { s with heap:=h',toks:=tk,drawn:=d }) :
  wpAny (model prog w) A (call (.builtin "sorted") [.ref a]) Q E s:=by
 refine se.jT (O:=se.yu) (vJ (A:=A.in1) (by simp[hh]) S λh' tk d L hk hz perm=>?_);have el:ElemsOf (intKind prog w) L:=S.el.perm perm;have hI:=p7 el;have pk:=Dm S perm;have hl:(L.map (·.2)).length<64:=by rw[Ze];have:=pk.length_eq;rw[Ze]at this;omega
 refine⟨hl,λi=>(L.map λe=>vL e.2).getD i 0,λh2 h6 _=>se.yv hI h2,λp h'' outs k2 he=>?_⟩;obtain⟨e,he⟩:=he;have lv:(L.map (·.2)).length=(L.map λe=>vL e.2).length:=by rw[Ze,Ze]
 have mem:∀i∈p,i<L.length:=λi hi=>by have:=outs.perm.mem_iff.mp hi;simpa using this
 have pn:(p.map λi=>(L.map λe=>vL e.2).getD i 0).Perm ks:=by have:=outs.perm.map λi=>(L.map λe=>vL e.2).getD i 0;rw[lv,se.dX]at this;exact this.trans pk
 have up:(p.map λi=>(L.map λe=>vL e.2).getD i 0).Pairwise (· <= ·):=by refine List.Pairwise.imp (R:=se.yu.kle) (λ{x y:Int} hxy=>?_) outs.up;have hxy:(decide (y<x):Bool)=false:=hxy;exact Int.not_lt.mp (of_decide_eq_false hxy)
 have es:=eq_sortI pn up;refine hQ h'' tk d h'.objs.size _ e (λb o z=>k2 b o (hk b o z)) (le_of_lt hz) he ?_;rw[<-es];clear he es up pn outs
 induction p with
 |nil=>exact .nil
 |cons i r ih=>
  have hi:=mem i Zk;have hi2:i<(L.map (·.2)).length:=by simpa using hi
  obtain⟨t',ev⟩:=IntsAre.int_at hI i _ (ZG hi2);rw[Zo,Zo];have e1:(L.map (·.2)).getD i Value.none=.int ((L.map λe=>vL e.2).getD i 0) t':=by rw[<-ev];simp[List.getD,List.getElem?_eq_getElem hi]
  rw[e1];exact .cons _ t' (ih λj hj=>mem j (Zh _ hj))
end
end L2
end
section
namespace L2
open PySem PySem.Spec PyProof.Rows
section
variable {X:Cx}
theorem Inv.draws(I:Inv X pins σ H s)(d:Drawn):Inv X pins σ H { s with drawn:=d }:=⟨I.ok,I.os,I.bare,I.base,I.loc,I.cell,I.free,I.jA,I.pin,I.hok,I.len⟩
def WU(K:Frag)(te:TE):TE:=λσ H Q=>te σ H λx H1=>∃p ns,x=.ref p/\gm K H1 p (ns.map V.int)/\ns.length<64/\∀l,H1 l=none->Q (.ref l) (upd H1 l (.lst ((sortI (iB [] ns)).map V.int)))
theorem vM:∀(ns ks:List Int),(iB ks ns).length<=ks.length+ns.length
 |[],ks=>by simp[iB]
 | n::ns,ks=>by
  rw[iB,ZC];have:=vM ns (gA ks n);have:=jU ks n;omega
theorem HL{p1 p2 pos1 pos2:Pos}(hh:X.A.handled=none)(hg:Gl X "sorted")(hm:X.mg "sorted" = none)(WW:Gl X "set")(hm2:X.mg "set" = none)(hv:bootBuiltins "sorted" = some (.builtin "sorted"))(hv2:bootBuiltins "set" = some (.type "set"))(he:PE X e te)
  (hs:starEach [e] X.env=[(false,eval e X.env)]):PE X (.Call (.Name "sorted" p1) [.Call (.Name "set" p2) [e] [] pos2] [] pos1) (WU X.K te):=by
 intro pins s σ H Q I h;refine wpAny_Call_Name_kw (jf I hg hm hv ?_ (by decide) (by decide));refine PyProof.Rows.callWith_builtin1 ?_ rfl rfl;show wpAny _ _ (spliced [(false,eval (.Call (.Name "set" p2) [e] [] pos2) X.env)]) _ _ s;refine Calls.spliced_cons ?_;refine wpAny_Call_Name_kw (jf I WW hm2 hv2 ?_ (by decide) (by decide));refine PyProof.Rows.callWith_type1 ?_ hs rfl;show wpAny _ _ (spliced (backTo pos2 (starEach [e] X.env))) _ _ s;rw[hs];show wpAny _ _ (spliced [(false,eval e X.env)]) _ _ s;refine Calls.spliced_cons (cK (he pins s σ H _ I h) λu s1 ⟨x,H1,I1,r1,p,ns,ex,hq,h64,q⟩=>Calls.spliced_nil ?_);subst ex;cases r1;obtain⟨its,rv,pl,hz⟩:=I1.list hq;have hi:=intsAre_of rv;have hl:=hi.length;refine vH hh pl.isList (by simpa using hi) (by show its.toArray.size+1<4096;rw[Zq,hl];omega) λh2 tk S k2=>?_;obtain⟨o,es,ep,t,S⟩:=S;refine Calls.spliced_nil ?_;have hk:=vM ns [];have TR:(iB [] ns).length<64:=by simp at hk;omega
 refine yH (s:={ s1 with heap:=h2,toks:=tk }) hh S TR λh3 WX d D out e k3 zD eD hout=>?_;have hD:s1.heap.objs.size<=D:=ZE (le_of_lt (Zj S.at_)) zD;have hn:H1 D=none:=I1.hok.fresh hD;refine⟨.ref D,_,(I1.draws d).laid (t':=WX) (λb o z=>k3 b o (k2 b o (Zj z) z)) hD (show cu X.prog X.w _ _ _ (.lst ((sortI (iB [] ns)).map V.int)) from⟨?_,out,e,kI hout,eD⟩),rfl,q _ hn⟩;rw[Ze,(sortI_perm _).length_eq,sizeLine_eq];omega
end
end L2
end
section
namespace L2
open PySem PySem.Spec PyProof.Rows PySem.W
section
variable {X:Cx}
def Vg(to:TE):TE:=λσ H Q=>to σ H λx H1=>∃a kvs,x=.ref a/\H1 a=some (.dK kvs)/\∀l,H1 l=none->Q (.ref l) (upd H1 l (.lst (kvs.map λkv=>kV kv.1)))
theorem Ly(e:(bA P w).is k u=true):RelV (kV k) u:=by
 rw[x6]at e
 rcases bP e with ⟨i,t,rfl,rfl⟩|⟨x,t,rfl,rfl⟩
 ·exact⟨t,rfl⟩
 ·exact⟨t,rfl⟩
theorem sN:∀{kvs:List (Key×V)} {vs:List (Key×Value)} {out:List Value},KV kvs vs->out.length=vs.length->(∀(j:Nat) (v:Value),out[j]?=some v->∃(k:Key) (x:Value),vs[j]?=some (k,x)/\(bA P w).is k v=true)->Vals (kvs.map λkv=>kV kv.1) out
 | [],vs,out,r,hl,h=>by
  cases r;cases out with
  |nil=>exact .nil
  |cons _ _=>simp at hl
 | p::kvs,vs,out,r,hl,h=>by
  cases r with
  |@cons _ q _ qs hq t=>
   cases out with
   |nil=>simp at hl
   |cons v out=>
    obtain⟨k,x,e1,e2⟩:=h 0 v rfl;simp at e1;refine .cons ?_ (sN t (by simpa using hl) λj u hu=>h (j+1) u hu);have:p.1=k:=by rw[hq.1,e1]
    show RelV (kV p.1) v;rw[this];exact Ly e2
end
end L2
end
section
namespace L2
open PySem PySem.Spec PyProof.Rows
end L2
end
section
namespace L2
open PySem PySem.Spec PyProof.Rows PySem.W
end L2
end
section
namespace L2
open PySem PySem.Spec PyProof.Rows
def TU(K:Frag)(a b:Addr):It :=
 ⟨λi H=>∃xs ys x y,gm K H a xs/\gm K H b ys/\xs[i]?=some x/\ys[i]?=some y,
   λi H x H'=>∃p u v,H p=none/\x=.ref p/\H'=upd H p (.tup [u,v])/\∀xs ys,gm K H a xs->gm K H b ys->xs[i]?=some u/\ys[i]?=some v,
   λi H=>∃xs ys,gm K H a xs/\gm K H b ys/\(xs.length<=i\/ys.length<=i)⟩
theorem Dp{P:Program}{w:World}{K:Frag}{es:List Expr}{k:Nat}{pos:Pos}(a b z TI TO i1 i2:Addr)(D:ZipApart z TI TO i1 i2 a b) :
  Turn P w K (.Tuple es k pos) (TU K a b) [z,TI,TO,i1,i2] z (λi h=>IsZip h z TI TO .none/\IsPair h TI (.ref i1) (.ref i2)/\(∃u v,IsPair h TO u v)/\h.IsListIter i1 a i/\h.IsListIter i2 b i) where
 mem:=by simp
 obj:=λi h st c hc=>by
  obtain⟨hz,hTI,⟨u,v,hTO⟩,⟨o1,e1,c1,d1⟩,⟨o2,e2,c2,d2⟩⟩:=st;simp only[mem_cons,not_mem_nil,or_false]at hc
  rcases hc with q|q|q|q|q
  ·subst q;exact⟨_,hz,λv z=>nomatch z⟩
  ·subst q;exact⟨_,hTI,λv z=>nomatch z⟩
  ·subst q;exact⟨_,hTO,λv z=>nomatch z⟩
  ·subst q;exact⟨o1,e1,λv z=>by rw[d1]at z;cases z⟩
  ·subst q;exact⟨o2,e2,λv z=>by rw[d2]at z;cases z⟩
 keep:=λi h h' st k=>by
  obtain⟨hz,hTI,⟨u,v,hTO⟩,h1,h2⟩:=st;exact⟨k z (by simp) _ hz,k TI (by simp) _ hTI,⟨u,v,k TO (by simp) _ hTO⟩,h1.at λo e=>k i1 (by simp) o e,h2.at λo e=>k i2 (by simp) o e⟩
 item:=by
  intro X hP hw hK hc i pins s σ H E I hf st hg;subst hP hw hK;obtain⟨xs,ys,x,y,hq,hq',hx,hy⟩:=hg;obtain⟨its,rv,p,_⟩:=I.list hq;obtain⟨its',Sm,p',_⟩:=I.list hq';obtain⟨u,hu,ru⟩:=rv.get hx;obtain⟨v,hv,rw'⟩:=Sm.get hy;obtain⟨hz,hTI,⟨c1,c2,hTO⟩,h1,h2⟩:=st;have lz:z<s.heap.objs.size:=Zj hz;have YX:TI<s.heap.objs.size:=Zj hTI;have YY:TO<s.heap.objs.size:=Zj hTO;have l1:i1<s.heap.objs.size:=by obtain⟨_,q,_⟩:=h1;exact Zj q
  have l2:i2<s.heap.objs.size:=by obtain⟨_,q,_⟩:=h2;exact Zj q
  refine wpAny_pyNext_zip_item D hz hTI hTO h1 h2 p.isList p'.isList (x:=u) (y:=v) (by simpa using hu) (by simpa using hv) λh' a1 a2 a3 a4 a5 a6 hk=>?_;refine⟨_,rfl,?_⟩;refine wpAny_letOwnedTupleGo_zip a1 λh2' hz2 hs2=>?_;have hT2:h2'.get? s.heap.objs.size=some { cls:=.type "tuple",data:=.seq [u,v].toArray }:=hs2.extBut _ _ (ne_of_gt lz) a5;have I1:Inv X pins σ H { s with heap:=h2' }:=I.zx (t':=s.toks) (ch:=[z,TI,TO,i1,i2]) hf λc o hc q=>by
   have e1:c≠z:=λz=>hc (by simp[z]);have e2:c≠TO:=λz=>hc (by simp[z]);have e3:c≠i1:=λz=>hc (by simp[z]);have e4:c≠i2:=λz=>hc (by simp[z]);exact hs2.extBut c o e1 (hk c o e1 e2 e3 e4 q)
  have hn:H s.heap.objs.size=none:=I.hok.fresh (Zm _);have I2:Inv X pins σ (upd H s.heap.objs.size (.tup [x,y])) { s with heap:=h2' }:=by
   refine⟨I1.ok,I1.os,I1.bare,?_,I1.loc,I1.cell,?_,λy c q=>?_,λp hp=>?_,λb o q=>?_,I1.len⟩
   ·refine⟨I1.base.keep,I1.base.slot,λb o q n hx=>?_,I1.base.there,λb ys q=>?_,λb o ys q=>?_,λb ps q=>?_⟩
    ·have hlt:b<s.heap.objs.size:=Zn (Zj q) I.sz;rw[aL (Zt hlt)];exact I1.base.free b o q n hx
    ·rw[aL (aW (I1.base.tups b ys q) hn)];exact I1.base.tups b ys q
    ·rw[aL (aW (I1.base.frzs b o ys q) hn)];exact I1.base.frzs b o ys q
    ·obtain⟨more,z⟩:=I1.base.tW b ps q;exact⟨more,by rw[aL (aW z hn)];exact z⟩
   ·rw[aL (Zt I.lt)];exact I1.free
   ·obtain⟨v,z⟩:=I.cell y c q;rw[aL (Zt z.lt)];exact I1.jA y c q
   ·obtain⟨q1,q2,q3⟩:=I1.pin p hp;refine⟨q1,?_,q3⟩;rw[aL (Zt (Zj (I.pin p hp).1))];exact q2
   ·by_cases hb:b=s.heap.objs.size
    ·subst hb;rw[bg]at q;cases q;exact⟨by show 2<=sizeLine;decide,[u,v],.cons ru #[rw'],_,hT2,rfl,_,rfl⟩
    ·rw[aL hb]at q;exact(I1.hok b o q).stay (λc v _ z=>z) (λc z=>by rw[aL (aW z hn)];exact z) λc ys z=>by rw[aL (aW z hn)];exact z
  refine⟨.ref s.heap.objs.size,_,I2,rfl,⟨s.heap.objs.size,x,y,hn,rfl,rfl,λxs' ys' hy1 WY=>⟨by rw[I.pI hy1 hq];exact hx,by rw[I.pI WY hq'];exact hy⟩⟩,⟨hz2,?_,⟨u,v,?_⟩,?_,?_⟩,λc hc=>?_⟩
  ·exact hs2.extBut _ _ D.TIz (hk _ _ D.TIz D.TITO D.TIi1 D.TIi2 hTI)
  ·exact hs2.extBut _ _ D.TOz a2
  ·exact a3.extBut hs2.extBut D.i1z
  ·exact a4.extBut hs2.extBut D.i2z
  ·have hlt:c<s.heap.objs.size:=by
    have hc':=hc;simp only[mem_cons,not_mem_nil,or_false]at hc'
    rcases hc' with q|q|q|q|q<;>(rw[q];assumption)
   rw[aL (Zt hlt)];exact(hf c hc).1
 done:=by
  intro X hP hw hK hc i pins s σ H E I hf st hg;subst hP hw hK;obtain⟨xs,ys,hq,hq',hx⟩:=hg;obtain⟨its,rv,p,_⟩:=I.list hq;obtain⟨its',Sm,p',_⟩:=I.list hq';obtain⟨hz,hTI,⟨c1,c2,hTO⟩,h1,h2⟩:=st;have hl:=rv.length;have hl':=Sm.length;refine wpAny_pyNext_zip_end (I.ok.hd hc) D hz hTI hTO h1 h2 p.isList p'.isList ?_ λh' eb=>⟨rfl,I.zx (t':=s.toks) (ch:=[z,TI,TO,i1,i2]) hf λc o hc q=>eb c o (λz=>hc (by simp[z])) (λz=>hc (by simp[z])) (λz=>hc (by simp[z])) (λz=>hc (by simp[z])) q⟩
  rcases hx with hx|hx
  ·exact .inl (by simp;omega)
  ·exact .inr (by simp;omega)
 self:=λ_ _ _ _ _ st h=>wpAny_pyIter_zip st.1 h
theorem Dq(n l m:Nat)(h1:l<n)(h2:m<n):ZipApart (n+4) (n+2) (n+3) n (n+1) l m:=by
 constructor<;>(show (_:Nat)≠_;omega)
def TV(K:Frag)(ta:TA):TI:=λσ H R=>ta σ H λvs H1=>∃a b,vs=[.ref a,.ref b]/\(∃xs,gm K H1 a xs)/\(∃ys,gm K H1 b ys)/\R (TU K a b) H1
theorem Lz{k:Nat}(hg:Gl X "zip")(hm:X.mg "zip" = none)(ha:PA X [a,b] ta)(hs:starEach [a,b] X.env=[(false,eval a X.env),(false,eval b X.env)])(hs2:starEach [b] X.env=[(false,eval b X.env)]) :
  PI X (.Tuple es k tpos) (.Call (.Name "zip" p) [a,b] [] pos) (TV X.K ta):=by
 intro pins s σ H R I h;refine Call_ (jf I hg hm boot_zip (PyProof.Rows.callWith_type1 (cK (ha pos pins s σ H _ I h) λus s1 ⟨vs,H1,I1,r1,q1⟩=>?_) (by rw[hs,hs2]) (by rw[hs2];rfl)));obtain⟨l,m,e,⟨xs,hq⟩,⟨ys,hq'⟩,q⟩:=q1;subst e;cases r1 with
 |cons r rr=>
  cases rr with
  |cons r' rr=>
   cases rr;cases r;cases r';obtain⟨its,rv,pl,_⟩:=I1.list hq;obtain⟨its',Sm,Vh,_⟩:=I1.list hq';have ll:l<s1.heap.objs.size:=by obtain⟨_,q,_⟩:=pl.isList;exact Zj q
   have lm:m<s1.heap.objs.size:=by obtain⟨_,q,_⟩:=Vh.isList;exact Zj q
   refine call_zip_2 pl.isList Vh.isList λh' hz hTI hTO h1 h2 hsz hk=>?_;have I2:Inv X pins σ H1 { s1 with heap:=h' }:=I1.kept (t':=s1.toks) hk;refine wpAny_pyIter_zip (s:={ s1 with heap:=h' }) hz ?_;refine⟨_,[s1.heap.objs.size+4,s1.heap.objs.size+2,s1.heap.objs.size+3,s1.heap.objs.size,s1.heap.objs.size+1],_,_,H1,rfl,I2,Dp l m _ _ _ _ _ ?_,⟨hz,hTI,⟨_,_,hTO⟩,h1,h2⟩,λc hc=>?_,q⟩
   ·exact Dq _ _ _ ll lm
   ·have hb':s1.heap.objs.size<=c:=by
     simp only[mem_cons,not_mem_nil,or_false]at hc
     rcases hc with q|q|q|q|q<;>(rw[q];show (_:Nat)<=_;omega)
    exact I1.GS hb' (I1.hok.fresh hb')
section
variable {X:Cx}
theorem sO
  (hbase:attributeBase o m env (eval o env)=eval o env)
  (hfew:((backTo cp (starEach args env)).all (λx=>!x.1)&&(backToKw cp (keywordEach [] env)).all (λx=>x.1.isSome)
   && decide (args.length+([]:List Keyword).length+(if ([]:List Keyword).isEmpty then 0 else 1)<30))=true) (hline:(ap.endLine==cp.line)=true)
  (h:wpAny M A (eval o env) (λov s₁=>∀pl,wpAny M A (getMethod ov m pl) (λfx s₂=>wpAny M A (callWith cp fx.1 fx.2 (backTo cp (starEach args env)) (backToKw cp (keywordEach [] env))) Q E s₂) E s₁) E s) :
  wpAny M A (eval (.Call (.Attribute o m ap) args [] cp) env) Q E s:=by
 rw[arm_eval_Call,hbase];refine Y8 (wpAny_mono h (λov s₁ h₁=>?_) λ_ _ e=>e);refine Y8 (wpAny_standAt ?_);have PD:methodCallForm (args.length+([]:List Keyword).length) (backTo cp (starEach args env)) (backToKw cp (keywordEach [] env))=true:=hfew;have hpos:methodCallPos true o env ap cp=pure cp:=by unfold methodCallPos;simp[hline]
 unfold methodCall;rw[PD];refine Y8 (wpAny_holding (wpAny_mono (h₁ _) (λfx s₂ h₂=>?_) λ_ _ e=>e));exact Y8 (wpAny_of_eq hpos h₂)
theorem pe_mthD{k:Nat}(he:PE X o ta)(ha:PA X (l::ls) t)(hbase:attributeBase o m X.env (eval o X.env)=eval o X.env)
  (hfew:((backTo cp (starEach (l::ls) X.env)).all (λx=>!x.1)&&(backToKw cp (keywordEach [] X.env)).all (λx=>x.1.isSome)
   && decide ((l::ls).length+([]:List Keyword).length+(if ([]:List Keyword).isEmpty then 0 else 1)<30))=true) (hline:(ap.endLine==cp.line)=true) (hr:dR k X.A)
  (st:starEach (l::ls) X.env=(false,eval l X.env)::starEach ls X.env) (an:(backTo cp (starEach ls X.env)).any (·.1)=false) :
  PE X (.Call (.Attribute o m ap) (l::ls) [] cp) (λσ H Q=>ta σ H λx H1=>∃a C dx fs f fd ps sp,x=.ref a/\H1 a=some (.ins C dx fs)/\Cp X.K C/\Meth X.K C m f/\fs.lookup m=none/\Binds X.K fd ps [] /\
   fG X.prog X.w X.K X.mg X.base yo k f fd ps sp/\t σ H1 λvs H2=>sp (x::vs) H2 Q E0):=by
 intro pins s σ H Q I h;refine sO hbase hfew hline (cK (he pins s σ H _ I h) λu s1 aO pl=>?_);obtain⟨x,H1,I1,rx,a,C,dx,fs,f,fd,ps,sp,ex,ea,c,hm,ln,hb,F,q⟩:=aO;subst ex;obtain rfl:u=Value.ref a:=rx;refine pN I1 ea c hm ln ?_;refine callWith_K (first:=[.ref a]) (h₀:=X.base) I.ok.mod.Oz hm.kp (cK (ha cp pins s1 σ H1 _ I1 q) λus s2 ⟨vs,H2,I2,r,q2⟩=>⟨I2.oX,?_⟩) st an;exact t8 (us:=.ref a::us) (vs:=.ref a::vs) (qZ:=[]) (ds:=[]) F hr hb .nil r9 I2 (.cons rfl r) (by rw[append_nil];exact q2)
theorem pe_mth0{k:Nat}(he:PE X o ta)(hbase:attributeBase o m X.env (eval o X.env)=eval o X.env)
  (hline:(ap.endLine==cp.line)=true) (hr:dR k X.A) :
  PE X (.Call (.Attribute o m ap) [] [] cp) (λσ H Q=>ta σ H λx H1=>∃a C dx fs f fd ps sp,x=.ref a/\H1 a=some (.ins C dx fs)/\Cp X.K C/\Meth X.K C m f/\fs.lookup m=none/\Binds X.K fd ps [] /\
   fG X.prog X.w X.K X.mg X.base yo k f fd ps sp/\sp [x] H1 Q E0):=by
 intro pins s σ H Q I h;refine sO hbase rfl hline (cK (he pins s σ H _ I h) λu s1 aO pl=>?_);obtain⟨x,H1,I1,rx,a,C,dx,fs,f,fd,ps,sp,ex,ea,c,hm,ln,hb,F,q⟩:=aO;subst ex;obtain rfl:u=Value.ref a:=rx;refine pN I1 ea c hm ln ?_;exact callWith_K0 (first:=[.ref a]) I1.oX hm.kp (t8 (us:=[.ref a]) (vs:=[.ref a]) (qZ:=[]) (ds:=[]) F hr hb .nil r9 I1 #[rfl] q)
end
end L2
end
section
namespace L2
open PySem PySem.Spec PyProof.Rows PySem.W
section
variable {X:Cx}
theorem Bx(hh:X.A.handled=none)(hst:starEach [o] X.env=[(false,eval o X.env)])(hg:Gl X "list")(hm:X.mg "list" = none)(hv:bootBuiltins "list" = some (.type "list"))(ho:PE X o to):PE X (.Call (.Name "list" p) [o] [] pos) (Vg to):=by
 intro pins s σ H Q I h;refine wpAny_Call_Name_kw (jf I hg hm hv ?_ (by decide) (by decide));refine PyProof.Rows.callWith_type1 ?_ hst rfl;rw[hst];show wpAny _ _ (spliced [(false,eval o X.env)]) _ _ s;refine Calls.spliced_cons ?_;refine cK (ho pins s σ H _ I h) λu s1 aO=>?_;obtain⟨x,H1,I1,r1,a,kvs,ex,ea,q⟩:=aO;subst ex;cases r1;obtain⟨t1,t2,hd⟩:=C0 I1 (.inl ⟨kvs,.inl ea⟩);obtain⟨hz,_,vs,rel,dd⟩:=CV I1.hok ea;refine Calls.spliced_nil ?_;obtain⟨ep,da⟩:=dd.dictAt;have hlen:=rel.length;refine kdl_call (kdl_dict (knd:=bA X.prog X.w) (kvs:=vs) (ep:=ep) (d:=a) hd) hh da (by rw[<-hlen];exact hz) λh' tk acc c k2 eD hacc=>?_;have hn:H1 s1.heap.objs.size=none:=I1.hok.fresh (Zm _);refine⟨.ref _,_,I1.laid (t':=tk) (λb o z=>k2 b o z) (Zm _) (show cu X.prog X.w _ _ _ (.lst (kvs.map λkv=>kV kv.1)) from⟨?_,acc.toList,c,?_,?_⟩),rfl,q _ hn⟩
 ·rw[Ze];exact hz
 ·exact sN (P:=X.prog) (w:=X.w) rel (by rw[ZH];exact hacc.1) λj v e=>hacc.2 j v (by rw[<-Array.getElem?_toList];exact e)
 ·first|(rw[Array.toArray_toList];exact eD)|simpa using eD
end
section
variable {X:Cx}
structure PF (K:Frag) (C:Addr) (m:Str) (f:Addr):Prop where
 ga:specialIn K (.ref C) "__getattribute__" = some (some (.builtin "type.__getattribute__"))
 rd:PySem.W.readsIn K C (.type "type")=true
 at_:PySem.W.findCls K (.ref C) (.type "type") m=some (.val (.ref f))
 kp:keepIn K (.ref f)=true
structure Vi (K:Frag) (C:Addr):Prop where
 ha:findIn K (.ref C) "__class__" = some (some (.builtin "object.__class__"))
 hn:specialIn K (.builtin "object.__class__") "__get__" = some (some (.builtin "getset_descriptor.__get__"))
 htk:PySem.W.takesIn K (.builtin "object.__class__")=some true
 hm:PySem.W.mroIn K C (.type "object")=some true
end
end L2
end
section
namespace L2
open PySem PySem.Spec PyProof.Rows
section
variable {X:Cx}
def Vj(k:Int):Value->Bool
 |.int a _=>a==k
 |_=>false
def HM:V->List V->Hp->VK->Prop:=λx vs H Q=>∃(l:Addr) (ks:List Int) (i:Int),x=.ref l/\vs=[.int i]/\H l=some (.lst (ks.map V.int))/\i∈ks/\Q .non (upd H l (.lst ((ks.map V.int).eraseIdx (ks.idxOf i))))
theorem By:Si X "list.remove" HM:=by
 intro pins s σ H x vs v us Q I rx rv h;obtain⟨l,ks,i,rfl,rfl,hH,hi,q⟩:=h;cases rx;obtain⟨u,rfl,ru⟩:=rv.one;obtain⟨t,rfl⟩:=ru;obtain⟨z,its,n,r,hl,e⟩:=I.Hr hH;have hk:ks.length=its.length:=by rw[<-hl,Ze]
 have at':∀m (hm:m<ks.length),∃t,its[m]?=some (.int ks[m] t):=λm hm=>by
  obtain⟨w,hw,t,rfl⟩:=r.get (i:=m) (x:=V.int ks[m]) (by rw[Zx,ZG hm];rfl);exact⟨t,hw⟩
 have hj:ks.idxOf i<ks.length:=List.idxOf_lt_length_of_mem hi;have sz:its.toArray.size=ks.length:=by rw[Zq,hk]
 have val:∀m (hm:m<its.toArray.size),Vj i its.toArray[m]=(ks[m]'(sz▸hm)==i):=λm hm=>by
  obtain⟨t,q⟩:=at' m (sz▸hm);have q2:its.toArray[m]=.int (ks[m]'(sz▸hm)) t:=by have:=ZO hm;rw[List.getElem?_toArray,q]at this;exact(ZI this).symm
  rw[q2];rfl
 refine call_meets F.slot_list_remove ⟨_,e,rfl⟩ F.entry_list_remove (F.args_list_remove_2 _ _)
  (MeetsSeq.list_remove l its.toArray n (.int i t) (Vj i) (λy hy=>?_) (ks.idxOf i) (by rw[sz];exact hj) ?_ ?_ (by rw[Zq];omega)) ⟨e,?_⟩
 ·obtain⟨m,hm,rfl⟩:=List.mem_iff_getElem.mp (List.mem_toArray.mp hy);obtain⟨t',q⟩:=at' m (by omega);rw[ZG hm]at q;rw[ZI q];exact MeetsSeq.EqGives.int _ _ _ _
 ·rw[val];exact beq_iff_eq.mpr (List.getElem_idxOf hj)
 ·intro m hm h2
  rw[val];exact ZM.mpr λe=>by
   have:=List.not_of_lt_findIdx (p:=(· == i)) (xs:=ks) (i:=m) h2;exact nomatch this.symm.trans (beq_iff_eq.mpr e)
 refine⟨.non,_,I.Hq (its':=its.eraseIdx (ks.idxOf i)) hH e ?_ (r.eraseIdx _) ?_,rfl,q⟩
 ·show its.toArray.eraseIdxIfInBounds _=(its.eraseIdx _).toArray;rw[List.eraseIdxIfInBounds_toArray]
 ·have:=rX (ks.map V.int) (ks.idxOf i);omega
end
end L2
end
section
namespace Hv
open PySem L2 PyProof.Rows
inductive Val
 |non|bl (b:Bool)|int (i:Int)|str (x:Str)|tup (vs:List Val)|rl (vs:List Val)|dc (ks:List Key) (vs:List Val)|ob (c:Nat) (xs:List Str) (vs:List Val)|ref (i:Nat)
inductive Ob
 |lst (xs:List Val)|dct (kvs:List (Key×Val))|ins (c:Nat) (fs:List (Str×Val))
abbrev Hs:=List Ob
inductive Out (α:Type)
 |ok (a:α) (h:Hs)|exc (c:Nat) (vs:List Val) (h:Hs)|no
abbrev M(α:Type):=Hs->Out α
def ret{α:Type}(a:α):M α:=λh=>.ok a h
def bnd{α β:Type}(m:M α)(f:α -> M β):M β:=λh=>match m h with
 |.ok a h'=>f a h'
 |.exc c vs h'=>.exc c vs h'
 |.no=>.no
def bx{α:Type}(o:Option α):M α:=λh=>match o with
 |some a=>.ok a h
 |none=>.no
def ask{α:Type}(f:Hs->Option α):M α:=λh=>bx (f h) h
def new(o:Ob):M Val:=λh=>.ok (.ref h.length) (h++[o])
def put(i:Nat)(o:Ob):M Unit:=λh=>.ok () (h.set i o)
def cI{α β:Type}(f:α -> Option β):List α -> Option (List β)
 |[]=>some []
 |a::r=>(f a).bind λb=>(cI f r).bind λbs=>some (b::bs)
inductive JY|add|sub|mul|fdiv|mod|pow
 deriving DecidableEq
inductive LA|eq|ne|lt|le|gt|ge|isn|ntn|Cr|nin
 deriving DecidableEq
inductive Bl|len|min|max|sorted|list|tuple|str|int|all|any|isin (T:String)
 deriving DecidableEq
inductive Me|join|append|extend|remove
 deriving DecidableEq
inductive yI|one (i:Nat)|tup (is:List Nat)
 deriving DecidableEq
inductive Ik|seq|range|enum|zip
 deriving DecidableEq
mutual
inductive IE
 |var (i:Nat)|cst (d:Val)|con (x:Str) (d:Val)|no
 |bin (o:JY) (a b:IE)|neg (a:IE)|cmp (o:LA) (a b:IE)|chn (o p:LA) (a b c:IE)
 |and (a b:IE)|or (a b:IE)|not (a:IE)|ite (c a b:IE)
 |tup (es:kM)|lst (es:kM)|idx (a b:IE)|slc (a lo hi:IE)
 |call (j:Nat) (es:kM)|blt (b:Bl) (es:kM)|met (m:Me) (a:IE) (es:kM)
 |comp (N:List Str) (js:List (Option Nat)) (pat:yI) (k:Ik) (it:kM) (c elt:IE)
 |dct0
 |sset (a:IE)
 |dget (d k x:IE)
 |dct1 (k v:IE)
 |lkeys (d:IE)
 |sdef (d k x:IE)
 |svals (d:IE)
 |skeys (d:IE)
 |fld (n:Nat) (a:IE) (x:Str)
 |mth (a:IE) (m:Str) (js:List (Nat×Nat)) (es:kM)
 |rev (a s:IE)
 |dflt (N:List Str) (js:List (Option Nat)) (p q:Nat) (d w:IE)
 |isc (a:IE) (x:Str) (bs:List Bool)
inductive kM|nil|cons (e:IE) (es:kM)
end
abbrev Env:=List (Option Val)
mutual
inductive IS
 |expr (e:IE)|asg (p:yI) (e:IE)|aug (i:Nat) (o:JY) (e:IE)|gB (o i v:IE)
 |iff (c:IE) (a b:b8)|for (p:yI) (k:Ik) (it:kM) (body:b8)|whl (n:Nat) (c:IE) (body:b8)
 |ret (e:IE)|Dr|brk|cnt|pass|never|setF (n:Nat) (a:IE) (x:Str) (v:IE)
inductive b8|nil|cons (s:IS) (r:b8)
end
def aD(h:Hs):Val->Option (List Val)
 |.rl vs=>some vs
 | .ref i=>match h[i]? with
  |some (.lst xs)=>some xs
  |_=>none
 |_=>none
def cM(h:Hs):Val->Option (List Val)
 |.tup vs=>some vs
 |v=>aD h v
def zB(_:Hs):Val->Option (List Val)
 |.tup vs=>some vs
 |_=>none
def bz:List Val->Option (List Int):=cI λv=>match v with
 |.int i=>some i
 |_=>none
def dM:List Val->Option (List Bool):=cI λv=>match v with
 |.bl i=>some i
 |_=>none
def k8:List Val->Option (List (List Int)):=cI λv=>match v with
 |.tup vs=>if vs.isEmpty then none else bz vs
 |_=>none
def toD:Nat->Hs->Val->Option PyData
 |0,_,_=>none
 |_+1,_,.non=>some .none
 |_+1,_,.bl b=>some (.bool b)
 |_+1,_,.int i=>some (.int i)
 |_+1,_,.str x=>if PyData.strOk x=true then some (.str x) else none
 |n+1,h,.tup vs=>(cI (toD n h) vs).bind λds=>some (.tuple ds)
 |n+1,h,.rl vs=>(cI (toD n h) vs).bind λds=>some (.list ds)
 |_+1,_,.dc _ _=>none
 |_+1,_,.ob _ _ _=>none
 |n+1,h,.ref i=>(aD h (.ref i)).bind λxs=>(cI (toD n h) xs).bind λds=>some (.list ds)
def zC(h:Hs)(v w:Val):Option Bool:=(toD 16 h v).bind λd=>(toD 16 h w).bind λe=>some (PyData.eqv d e)
def uq(x:List Int):List (List Int)->List (List Int)
 |[]=>[x]
 |y::r=>if HT.lexLt y x=true then y::uq x r else x::y::r
def mj:List (List Int)->List (List Int)
 |[]=>[]
 |x::r=>uq x (mj r)
def fH(ks:List Int):Val:=.tup (ks.map .int)
def gC(xs:List Val):Option (List Val) :=
 if xs.length<64 then
  match bz xs with
  |some ns=>some ((sortI ns).map .int)
  |none=>(k8 xs).bind λo6=>some ((mj o6).map fH)
 else none
def ur:List Int->Option Val
 |[]=>none
 |a::r=>some (.int (r.foldl min a))
def uu:List Int->Option Val
 |[]=>none
 |a::r=>some (.int (r.foldl max a))
def jV(i j:Int):Bool:=(decide (-(2 ^ 64)<i)&&decide (i<2 ^ 64))||(decide (-(2 ^ 64)<j)&&decide (j<2 ^ 64))
def aQ{α:Type}(c:Bool)(m:M α):M α:=λh=>if c=true then m h else .no
def gD(b:Int):Bool:=decide (0<b/\b<1606938044258990275541962092341162602522202993782792835301376)
def Oj:JY->Val->Val->M Val
 |.add,.int a,.int b=>ret (.int (a+b))
 |.add,v,w=>bnd (ask λh=>aD h v) λa=>bnd (ask λh=>aD h w) λb=>aQ (decide (a.length+b.length<=sizeLine)) (new (.lst (a++b)))
 |.sub,.int a,.int b=>ret (.int (a-b))
 |.mul,.int a,.int b=>aQ (jV a b) (ret (.int (a*b)))
 |.fdiv,.int a,.int b=>aQ (gD b) (ret (.int (a/b)))
 |.mod,.int a,.int b=>aQ (decide (0<b)) (ret (.int (a%b)))
 |.pow,.int a,.int b=>aQ (decide (0<=b/\b<=1000000/\a.natAbs<2 ^ 64)) (ret (.int (a ^ b.toNat)))
 |_,_,_=>bx none
def jW:Val->Bool
 |.non=>true
 |_=>false
def cT(kvs:List (Key×Val))(k:Key):Option Val:=(kvs.find? λkv=>decide (kv.1=k)).map (·.2)
def kT(kvs:List (Key×Val))(k:Key)(v:Val):List (Key×Val) :=
 if (kvs.any λkv=>decide (kv.1=k))=true then kvs.map (λkv=>if kv.1=k then (kv.1,v) else kv) else kvs++[(k,v)]
def keyOf:Val->Option Key
 |.int i=>some (.inl i)
 |.str x=>some (.inr x)
 |_=>none
def PJ(f d:PyData):Option Bool:=match f with
 |.list ds=>some (ds.any λy=>PyData.eqv y d)
 |.tuple ds=>some (ds.any λy=>PyData.eqv y d)
 |_=>none
def memD(h:Hs)(v w:Val):Option Bool:=(toD 16 h w).bind λf=>(toD 16 h v).bind λd=>PJ f d
def vO(h:Hs)(v w:Val):Option Bool:=memD h v w
def JZ(v w:Val):Option Bool:=match w with
 |.non=>some (jW v)
 |_=>none
def cop(h:Hs):LA->Val->Val->Option Bool
 |.eq,v,w=>zC h v w
 |.ne,v,w=>(zC h v w).map (!·)
 |.lt,.int a,.int b=>some (decide (a<b))
 |.le,.int a,.int b=>some (decide (a<=b))
 |.gt,.int a,.int b=>some (decide (b<a))
 |.ge,.int a,.int b=>some (decide (b<=a))
 |.isn,v,w=>JZ v w
 |.ntn,v,w=>(JZ v w).map (!·)
 |.Cr,v,w=>vO h v w
 |.nin,v,w=>(vO h v w).map (!·)
 |_,_,_=>none
def gZ(_:Hs):Val->Option Bool
 |.bl b=>some b
 |_=>none
def jm(h:Hs):Val->Val->Option Val
 |.tup vs,.int i=>ji vs i
 |.rl vs,.int i=>ji vs i
 | .ref j,.int i=>match h[j]? with
  |some (.dct kvs)=>cT kvs (.inl i)
  |_=>(aD h (.ref j)).bind λxs=>ji xs i
 |.dc ks vs,.int i=>cT (ks.zip vs) (.inl i)
 |_,_=>none
def Ds(h:Hs)(o:Val):Option Unit:=match o with
 | .ref i=>(match h[i]? with
  |some (.dct _)=>some ()
  |_=>none)
 |.dc _ _=>some ()
 |_=>none
def BA(h:Hs)(o:Val)(k:Key):Option (Option Val):=match o with
 | .ref i=>(match h[i]? with
  |some (.dct kvs)=>some (cT kvs k)
  |_=>none)
 |.dc ks vs=>some (cT (ks.zip vs) k)
 |_=>none
def vP(h:Hs)(o:Val):Option (List Key):=match o with
 | .ref i=>(match h[i]? with
  |some (.dct kvs)=>some (kvs.map (·.1))
  |_=>none)
 |.dc ks _=>some ks
 |_=>none
def Dt:Key->Val
 |.inl i=>.int i
 |.inr x=>.str x
def cU{α:Type}(ds:List α)(lo hi:Option Int):List α:=(ds.drop (HT.dS ds.length 0 lo)).take (HT.dS ds.length ds.length hi-HT.dS ds.length 0 lo)
def rG(v:Val)(lo hi:Option Int):M Val:=match v with
 |.tup vs=>aQ (!(decide (HT.dS vs.length 0 lo=0)&&decide (HT.dS vs.length vs.length hi=vs.length))) (ret (.tup (cU vs lo hi)))
 |v=>bnd (ask λh=>aD h v) λxs=>new (.lst (cU xs lo hi))
def vQ(h:Hs):Val->Option String
 |.non=>some "NoneType" | .bl _=>some "bool" | .int _=>some "int" | .str _=>some "str" | .tup _=>some "tuple" | .rl _=>some "list" | .dc _ _=>some "dict" | .ob _ _ _=>none
 | .ref i=>match h[i]? with
  |some (.lst _)=>some "list"
  |some (.dct _)=>some "dict"
  |_=>none
def vR(T:String)(t:String):Option Bool :=
 if ["list","tuple","str","bool","int","dict"].contains T=true then some (decide (T=t\/(T = "int" /\ t = "bool"))) else none
def nq(h:Hs):Val->Option Nat
 |.tup vs=>some vs.length
 |.rl vs=>some vs.length
 |.dc ks _=>some ks.length
 | .ref i=>match h[i]? with
  |some (.lst xs)=>some xs.length
  |some (.dct xs)=>some xs.length
  |_=>none
 |_=>none
def blt:Bl->List Val->M Val
 |.len,[v]=>bnd (ask λh=>nq h v) λn=>ret (.int n)
 |.min,[.int a,.int b]=>ret (.int (if b<a then b else a))
 |.max,[.int a,.int b]=>ret (.int (if b>a then b else a))
 |.min,[v]=>bnd (ask λh=>cM h v) λxs=>bx ((bz xs).bind ur)
 |.max,[v]=>bnd (ask λh=>cM h v) λxs=>bx ((bz xs).bind uu)
 |.sorted,[v]=>bnd (ask λh=>aD h v) λxs=>bnd (bx (gC xs)) λys=>new (.lst ys)
 |.list,[v]=>bnd (ask λh=>cM h v) λxs=>new (.lst xs)
 |.int,[.bl b]=>ret (.int (if b=true then 1 else 0))
 |.int,[.int i]=>ret (.int i)
 |.all,[v]=>bnd (ask λh=>aD h v) λxs=>bnd (bx (dM xs)) λbs=>ret (.bl (bs.all id))
 |.isin T,[v]=>bnd (ask λh=>vQ h v) λt=>bnd (bx (vR T t)) λb=>ret (.bl b)
 |_,_=>bx none
def met:Me->Val->List Val->M Val
 |.append,.ref i,[v]=>bnd (ask λh=>match h[i]? with|some (.lst xs)=>some xs|_=>none) λxs=>aQ (decide (xs.length<sizeLine)) (bnd (put i (.lst (xs++[v]))) λ_=>ret .non)
 |.extend,.ref i,[v]=>bnd (ask λh=>match h[i]? with|some (.lst xs)=>some xs|_=>none) λxs=>bnd (ask λh=>zB h v) λys=>aQ (decide (xs.length+ys.length<=sizeLine)) (bnd (put i (.lst (xs++ys))) λ_=>ret .non)
 |.remove,.ref i,[.int k]=>bnd (ask λh=>match h[i]? with|some (.lst xs)=>some xs|_=>none) λxs=>bnd (bx (bz xs)) λks=>aQ (decide (k∈ks)) (bnd (put i (.lst (xs.eraseIdx (ks.idxOf k)))) λ_=>ret .non)
 |_,_,_=>bx none
def recv(h:Hs):Me->Val->Option Unit
 |.join,.str _=>some ()
 |.append,.ref i=>match h[i]? with|some (.lst _)=>some ()|_=>none
 |.extend,.ref i=>match h[i]? with|some (.lst _)=>some ()|_=>none
 |.remove,.ref i=>match h[i]? with|some (.lst _)=>some ()|_=>none
 |_,_=>none
def PK:Val->M Val
 |.ref i=>bnd (ask λh=>match h[i]? with|some (.lst xs)=>some xs|_=>none) λ_=>bnd (put i (.lst [])) λ_=>ret .non
 |_=>bx none
inductive Src
 |fix (xs:List Val)|live (i:Nat)|enum (i:Nat)|zip (v w:Val)
def p9:Nat->List Val->List Val
 |_,[]=>[]
 |i,d::r=>.tup [.int i,d]::p9 (i+1) r
def e8:List Val->List Val->List Val
 |a::r,b::t=>.tup [a,b]::e8 r t
 |_,_=>[]
def bZ(lo:Int)(n:Nat):List Val:=(List.range n).map λ(i:Nat)=>Val.int (lo+(i:Int))
def inR(i:Int):Bool:=decide (-(2 ^ 62)<=i)&&decide (i<2 ^ 62)
def srcOf:Ik->List Val->Option Src
 |.seq,[.tup vs]=>some (.fix vs)
 |.seq,[.rl vs]=>some (.fix vs)
 |.seq,[.ref i]=>some (.live i)
 |.range,[.int n]=>if inR n then some (.fix (bZ 0 n.toNat)) else none
 |.range,[.int a,.int b]=>if inR a&&inR b then some (.fix (bZ a (b-a).toNat)) else none
 |.enum,[.rl vs]=>some (.fix (p9 0 vs))
 |.enum,[.ref i]=>some (.enum i)
 |.zip,[v,w]=>some (.zip v w)
 |_,_=>none
def Src.items(h:Hs):Src->Option (List Val)
 |.fix xs=>some xs
 |.live i=>aD h (.ref i)
 |.enum i=>(aD h (.ref i)).map (p9 0)
 |.zip v w=>(aD h v).bind λxs=>(aD h w).map λys=>e8 xs ys
def bindAll:List Nat->List Val->Env->Option Env
 |[],[],env=>some env
 |i::is,d::ds,env=>bindAll is ds (env.set i (some d))
 |_,_,_=>none
def fJ:yI->Val->Env->Option Env
 |.one i,d,env=>some (env.set i (some d))
 |.tup is,.tup ds,env=>bindAll is ds env
 |_,_,_=>none
def jX(js:List (Option Nat))(env:Env):Env:=js.map λo=>match o with
 |none=>none
 | some j=>match env[j]? with
  |some (some d)=>some d
  |_=>none
def fK(src:Src)(f:Val->M (Option Val)):Nat->Nat->List Val->M (List Val)
 |0,i,acc=>bnd (ask λh=>src.items h) λxs=>aQ (decide (xs.length<=i)) (ret acc)
 | n+1,i,acc=>bnd (ask λh=>src.items h) λxs=>match xs[i]? with
  |none=>ret acc
  |some x=>bnd (f x) λo=>fK src f n (i+1) (match o with|some e=>acc++[e]|none=>acc)
def dm:IE->Bool
 |.no=>true
 |_=>false
def k9:Val->Option Int
 |.int i=>some i
 |_=>none
def qc:Val->M Bool
 |.bl b=>ret b
 |_=>bx none
def qf(n:Nat)(h:Hs)(o:Val)(x:Str):Option Val:=match o with
 | .ref i=>(match h[i]? with
  |some (.ins c fs)=>if c<n then fs.lookup x else none
  |_=>none)
 |.ob c xs vs=>if c<n then (xs.zip vs).lookup x else none
 |_=>none
def lF(h:Hs)(o:Val)(m:Str)(js:List (Nat×Nat)):Option Nat:=match o with
 | .ref i=>(match h[i]? with
  |some (.ins c fs)=>if (fs.lookup m).isNone=true then js.lookup c else none
  |_=>none)
 |.ob c xs vs=>if ((xs.zip vs).lookup m).isNone=true then js.lookup c else none
 |_=>none
def gE(f:Str)(v:Val):List (Str×Val)->List (Str×Val)
 |[]=>[(f,v)]
 |(g,x)::r=>if g=f then (g,v)::r else (g,x)::gE f v r
def zE(n:Nat)(o:Val)(x:Str)(v:Val):M Unit:=match o with
 |.ref i=>bnd (ask λh=>match h[i]? with|some (.ins c fs)=>if c<n then some (c,fs) else none|_=>none) λp=>aQ (decide (p.2.length<1000)) (put i (.ins p.1 (gE x v p.2)))
 |_=>bx none
def J0(c:Nat)(φ:List Val->M Val)(vs:List Val):M Val:=bnd (new (.ins c [])) λo=>bnd (φ (o::vs)) λr=>match r with
 |.non=>ret o
 |_=>bx none
mutual
noncomputable def aP(Φ:Nat->List Val->M Val):IE->Env->M Val
 | .var i,env=>bx (match env[i]? with
  |some (some d)=>some d
  |_=>none)
 |.cst d,_=>ret d
 |.con _ d,_=>ret d
 |.no,_=>bx none
 |.bin o a b,env=>bnd (aP Φ a env) λx=>bnd (aP Φ b env) λy=>Oj o x y
 | .neg a,env=>bnd (aP Φ a env) λx=>match x with
  |.int i=>ret (.int (-i))
  |_=>bx none
 |.cmp o a b,env=>bnd (aP Φ a env) λx=>bnd (aP Φ b env) λy=>bnd (ask λh=>cop h o x y) λt=>ret (.bl t)
 |.chn _ _ _ _ _,_=>bx none
 |.and a b,env=>bnd (aP Φ a env) λx=>bnd (qc x) λt=>if t=true then bnd (aP Φ b env) λy=>bnd (qc y) λu=>ret (.bl u) else ret (.bl false)
 |.or a b,env=>bnd (aP Φ a env) λx=>bnd (qc x) λt=>if t=true then ret (.bl true) else bnd (aP Φ b env) λy=>bnd (qc y) λu=>ret (.bl u)
 |.not a,env=>bnd (aP Φ a env) λx=>bnd (qc x) λt=>ret (.bl (!t))
 |.ite _ _ _,_=>bx none
 |.tup es,env=>bnd (bG Φ es env) λds=>aQ (decide (ds.length<=sizeLine)) (ret (.tup ds))
 |.lst es,env=>bnd (bG Φ es env) λds=>aQ (decide (ds.length<=sizeLine)) (new (.lst ds))
 |.idx a b,env=>bnd (aP Φ a env) λx=>bnd (aP Φ b env) λy=>ask λh=>jm h x y
 |.slc a lo hi,env=>bnd (aP Φ a env) λx=>bnd (if dm lo=true then ret none else bnd (aP Φ lo env) λv=>bnd (bx (k9 v)) λi=>ret (some i)) λl=>
   bnd (if dm hi=true then ret none else bnd (aP Φ hi env) λv=>bnd (bx (k9 v)) λi=>ret (some i)) λu=>rG x l u
 |.call j es,env=>bnd (bG Φ es env) λds=>Φ j ds
 |.blt b es,env=>bnd (bG Φ es env) λds=>blt b ds
 |.met m a es,env=>bnd (aP Φ a env) λx=>bnd (ask λh=>recv h m x) λ_=>bnd (bG Φ es env) λds=>met m x ds
 | .comp _ js pat k it c elt,env=>bnd (bG Φ it env) λits=>bnd (bx (srcOf k its)) λsrc=>bnd (ask λh=>src.items h) λxs=>aQ (decide (xs.length<=100000))
   (bnd (fK src (λd=>bnd (bx (fJ pat d (jX js env))) λenv'=>bnd (if dm c=true then ret true else bnd (aP Φ c env') λv=>ask λh=>gZ h v) λt=>
    if t=true then bnd (aP Φ elt env') λe=>ret (some e) else ret none) xs.length 0 []) λys=>new (.lst ys))
 |.dct0,_=>new (.dct [])
 |.sset a,env=>bnd (aP Φ a env) λv=>bnd (ask λh=>aD h v) λxs=>bnd (bx (bz xs)) λns=>aQ (decide (ns.length<64)) (new (.lst ((sortI (L2.iB [] ns)).map .int)))
 |.dget d k x,env=>bnd (aP Φ d env) λo=>bnd (ask λh=>Ds h o) λ_=>bnd (aP Φ k env) λi=>bnd (bx (keyOf i)) λkk=>bnd (aP Φ x env) λz=>bnd (ask λh=>BA h o kk) λr=>ret (r.getD z)
 |.dct1 k v,env=>bnd (aP Φ k env) λx=>bnd (bx (keyOf x)) λkk=>bnd (aP Φ v env) λy=>new (.dct [(kk,y)])
 |.lkeys d,env=>bnd (aP Φ d env) λo=>bnd (ask λh=>vP h o) λks=>new (.lst (ks.map Dt))
 |.sdef _ _ _,_=>bx none
 |.svals a,env=>bnd (aP Φ a env) PK
 |.skeys _,_=>bx none
 |.fld n a x,env=>bnd (aP Φ a env) λo=>ask λh=>qf n h o x
 |.mth a m js es,env=>bnd (aP Φ a env) λo=>bnd (ask λh=>lF h o m js) λj=>bnd (bG Φ es env) λds=>Φ j (o::ds)
 |.rev _ _,_=>bx none
 |.dflt _ _ _ _ _ _,_=>bx none
 |.isc _ _ _,_=>bx none
noncomputable def bG(Φ:Nat->List Val->M Val):kM->Env->M (List Val)
 |.nil,_=>ret []
 |.cons e es,env=>bnd (aP Φ e env) λd=>bnd (bG Φ es env) λds=>ret (d::ds)
end
inductive Fl
 |nx (env:Env)|rt (v:Val)|bk (env:Env)|ct (env:Env)
def forM(src:Src)(body:Val->Env->M Fl):Nat->Nat->Env->M Fl
 |0,i,env=>bnd (ask λh=>src.items h) λxs=>aQ (decide (xs.length<=i)) (ret (.nx env))
 | n+1,i,env=>bnd (ask λh=>src.items h) λxs=>match xs[i]? with
  |none=>ret (.nx env)
  | some x=>bnd (body x env) λf=>match f with
   |.nx env'=>forM src body n (i+1) env'
   |.ct env'=>forM src body n (i+1) env'
   |.bk env'=>ret (.nx env')
   |.rt v=>ret (.rt v)
def zF(o i v:Val):M Unit:=match o with
 | .ref j=>bnd (ask λh=>h[j]?) λob=>match ob with
  |.dct kvs=>bnd (bx (keyOf i)) λk=>aQ (decide (kvs.length<sizeLine)) (put j (.dct (kT kvs k v)))
  |_=>bx none
 |_=>bx none
mutual
noncomputable def e7(Φ:Nat->List Val->M Val):IS->Env->M Fl
 |.expr e,env=>bnd (aP Φ e env) λ_=>ret (.nx env)
 |.asg p e,env=>bnd (aP Φ e env) λv=>bnd (bx (fJ p v env)) λenv'=>ret (.nx env')
 |.aug _ _ _,_=>bx none
 |.gB o i v,env=>bnd (aP Φ v env) λx=>bnd (aP Φ o env) λy=>bnd (aP Φ i env) λz=>bnd (zF y z x) λ_=>ret (.nx env)
 |.iff c a b,env=>bnd (aP Φ c env) λx=>bnd (ask λh=>gZ h x) λt=>if t=true then ff Φ a env else ff Φ b env
 |.for p k it body,env=>bnd (bG Φ it env) λits=>bnd (bx (srcOf k its)) λsrc=>bnd (ask λh=>src.items h) λxs=>
   forM src (λx env=>bnd (bx (fJ p x env)) λenv'=>ff Φ body env') xs.length 0 env
 |.whl _ _ _,_=>bx none
 |.ret e,env=>bnd (aP Φ e env) λv=>ret (.rt v)
 |.Dr,_=>ret (.rt .non)
 |.brk,env=>ret (.bk env)
 |.cnt,env=>ret (.ct env)
 |.pass,env=>ret (.nx env)
 |.never,_=>bx none
 |.setF n a x v,env=>bnd (aP Φ v env) λy=>bnd (aP Φ a env) λo=>bnd (zE n o x y) λ_=>ret (.nx env)
noncomputable def ff(Φ:Nat->List Val->M Val):b8->Env->M Fl
 |.nil,env=>ret (.nx env)
 | .cons s r,env=>bnd (e7 Φ s env) λf=>match f with
  |.nx env'=>ff Φ r env'
  |f=>ret f
end
def fh(Φ:Nat->List Val->M Val)(n:Nat)(body:b8)(vs:List Val):M Val :=
 bnd (ff Φ body (vs.map some++replicate (n-vs.length) none)) λf=>match f with
  |.nx _=>ret .non
  |.rt v=>ret v
  |_=>bx none
theorem jY{b:Bool}(ho:o=.lt\/o=.le\/o=.gt\/o=.ge)(e:cop h o v w=some b):∃i j,v=.int i/\w=.int j:=by
 cases v with
 |int i=>
  cases w with
  |int j=>exact⟨i,j,rfl,rfl⟩
  |_=>rcases ho with rfl|rfl|rfl|rfl<;>cases e
 |_=>rcases ho with rfl|rfl|rfl|rfl<;>cases e
structure Bd where
 K:Frag
 cl:Nat->Addr
def LB(K:Frag)(H:Hp)(a:Addr)(xs:List V):Prop :=
 (∃o,H a=some (.tU o (.lst xs)))\/gm K (λ_=>none) a xs
theorem LB.sq{K:Frag}{H:Hp}{a:Addr}{xs:List V}(h:LB K H a xs):gm K H a xs:=by
 rcases h with ⟨o,h⟩|(h|⟨o,h⟩)|h
 ·exact .inl (.inr ⟨o,h⟩)
 ·cases h
 ·cases h
 ·exact .inr h
mutual
noncomputable def VR(K:Frag)(ρ:List Addr)(H:Hp):Val->V->Prop
 |.non,x=>x=.non
 |.bl b,x=>x=.bl b
 |.int i,x=>x=.int i
 |.str s,x=>x=.str s
 |.tup vs,x=>∃a xs,x=.ref a/\jO K H a xs/\aE K ρ H vs xs
 |.rl vs,x=>∃a xs,x=.ref a/\LB K H a xs/\aE K ρ H vs xs
 |.dc _ _,_=>False
 |.ob _ _ _,_=>False
 |.ref i,x=>∃a,x=.ref a /\ ρ[i]?=some a
noncomputable def aE(K:Frag)(ρ:List Addr)(H:Hp):List Val->List V->Prop
 |[],xs=>xs=[]
 |v::vs,xs=>∃x r,xs=x::r/\VR K ρ H v x/\aE K ρ H vs r
end
def iw(K:Frag)(ρ:List Addr)(H:Hp):List (Key×Val)->List (Key×V)->Prop
 |[],xs=>xs=[]
 |(k,v)::vs,xs=>∃x r,xs=(k,x)::r/\VR K ρ H v x/\iw K ρ H vs r
def mq(K:Frag)(ρ:List Addr)(H:Hp):List (Str×Val)->List (Str×V)->Prop
 |[],xs=>xs=[]
 |(k,v)::vs,xs=>∃x r,xs=(k,x)::r/\VR K ρ H v x/\mq K ρ H vs r
def OR(B:Bd)(ρ:List Addr)(H:Hp)(a:Addr):Ob->Prop
 |.lst xs=>∃ys,H a=some (.lst ys)/\aE B.K ρ H xs ys
 |.dct kvs=>∃ks,H a=some (.dK ks)/\iw B.K ρ H kvs ks
 |.ins c fs=>∃dx gs,H a=some (.ins (B.cl c) dx gs)/\mq B.K ρ H fs gs
structure HR (B:Bd) (ρ:List Addr) (h:Hs) (H:Hp):Prop where
 len:ρ.length=h.length
 nd:ρ.Nodup
 ob:∀(i:Nat) (o:Ob) (a:Addr),h[i]?=some o -> ρ[i]?=some a->OR B ρ H a o
def Mu:HO->Bool
 |.lst _=>true|.dK _=>true|.ins ..=>true
 |_=>false
structure Gw (ρ:List Addr) (H:Hp) (ρ':List Addr) (H':Hp):Prop where
 pre:ρ <+: ρ'
 firm:∀a o,H a=some o->Mu o=false->H' a=some o
structure Gr (ρ:List Addr) (H:Hp) (ρ':List Addr) (H':Hp):Prop where
 pre:ρ <+: ρ'
 keep:∀a o,H a=some o->a ∉ ρ -> H' a=some o
 firm:∀a o,H a=some o->Mu o=false->H' a=some o
 fresh:∀a,a ∈ ρ'->a ∉ ρ -> H a=none
section
variable {K:Frag} {B:Bd} {ρ ρ' ρ1 ρ2:List Addr} {H H' H1 H2:Hp} {h h':Hs}
theorem Gr.w(g:Gr ρ H ρ' H'):Gw ρ H ρ' H':=⟨g.pre,g.firm⟩
theorem Gr.refl:Gr ρ H ρ H:=⟨Zu _,λ_ _ e _=>e,λ_ _ e _=>e,λ_ e n=>absurd e n⟩
theorem Gr.trans(g:Gr ρ H ρ1 H1)(k:Gr ρ1 H1 ρ2 H2):Gr ρ H ρ2 H2 where
 pre:=g.pre.trans k.pre
 keep a o e n:=k.keep a o (g.keep a o e n) λz=>by rw[g.fresh a z n]at e;cases e
 firm a o e n:=k.firm a o (g.firm a o e n) n
 fresh a z n:=by
  by_cases hb:a ∈ ρ1
  ·exact g.fresh a hb n
  ·cases e:H a with
   |none=>rfl
   |some o=>have e1:=g.keep a o e n;rw[k.fresh a z hb]at e1;cases e1
theorem o7{i:Nat}(p:ρ <+: ρ')(e:ρ[i]?=some a):ρ'[i]?=some a:=by
 obtain⟨t,rfl⟩:=p;have hi:i < ρ.length:=(Zb.mp e).1;rw[Zp hi];exact e
theorem Gw.Sn(g:Gw ρ H ρ' H')(e:jO K H a xs):jO K H' a xs:=by
 rcases e with (e|⟨o,e⟩)|e
 ·exact .inl (.inl (g.firm _ _ e rfl))
 ·exact .inl (.inr ⟨o,g.firm _ _ e rfl⟩)
 ·exact .inr e
theorem Gw.PM(g:Gw ρ H ρ' H')(e:LB K H a xs):LB K H' a xs:=by
 rcases e with ⟨o,e⟩|e
 ·exact .inl ⟨o,g.firm _ _ e rfl⟩
 ·exact .inr e
mutual
theorem VR.kU(g:Gw ρ H ρ' H'):∀(v:Val) (x:V),VR K ρ H v x->VR K ρ' H' v x
 |.non,x,e=>by rw[VR]at e |-;exact e
 |.bl b,x,e=>by rw[VR]at e |-;exact e
 |.int b,x,e=>by rw[VR]at e |-;exact e
 |.str b,x,e=>by rw[VR]at e |-;exact e
 | .tup vs,x,e=>by
  rw[VR]at e |-;obtain⟨a,xs,rfl,q1,q2⟩:=e;exact⟨a,xs,rfl,g.Sn q1,aE.kU g vs xs q2⟩
 | .rl vs,x,e=>by
  rw[VR]at e |-;obtain⟨a,xs,rfl,q1,q2⟩:=e;exact⟨a,xs,rfl,g.PM q1,aE.kU g vs xs q2⟩
 |.dc _ _,x,e=>by rw[VR]at e;exact e.elim
 |.ob _ _ _,x,e=>by rw[VR]at e;exact e.elim
 | .ref i,x,e=>by
  rw[VR]at e |-;obtain⟨a,rfl,q⟩:=e;exact⟨a,rfl,o7 g.pre q⟩
theorem aE.kU(g:Gw ρ H ρ' H'):∀(vs:List Val) (xs:List V),aE K ρ H vs xs->aE K ρ' H' vs xs
 |[],xs,e=>by rw[aE]at e |-;exact e
 | v::vs,xs,e=>by
  rw[aE]at e |-;obtain⟨x,r,rfl,q1,q2⟩:=e;exact⟨x,r,rfl,VR.kU g v x q1,aE.kU g vs r q2⟩
end
theorem iw.kU(g:Gw ρ H ρ' H'):∀(vs:List (Key×Val)) (xs:List (Key×V)),iw K ρ H vs xs->iw K ρ' H' vs xs
 |[],xs,e=>e
 |(k,v)::vs,xs,⟨x,r,e,q1,q2⟩=>⟨x,r,e,VR.kU g v x q1,iw.kU g vs r q2⟩
theorem mq.kU(g:Gw ρ H ρ' H'):∀(vs:List (Str×Val)) (xs:List (Str×V)),mq K ρ H vs xs->mq K ρ' H' vs xs
 |[],xs,e=>e
 |(k,v)::vs,xs,⟨x,r,e,q1,q2⟩=>⟨x,r,e,VR.kU g v x q1,mq.kU g vs r q2⟩
theorem mq.look:∀{vs:List (Str×Val)} {xs:List (Str×V)},mq K ρ H vs xs->(vs.lookup x=none->xs.lookup x=none)/\∀v,vs.lookup x=some v->∃y,xs.lookup x=some y/\VR K ρ H v y
 |[],xs,e=>by rw[mq]at e;subst e;exact⟨λ_=>rfl,λv z=>by cases z⟩
 | (k,v)::vs,xs,e=>by
  rw[mq]at e;obtain⟨y,r,rfl,q1,q2⟩:=e;rw[lookup_cons,lookup_cons];cases hb:x==k with
  |true=>exact⟨λz=>(by cases z),λw z=>by cases z;exact⟨y,rfl,q1⟩⟩
  |false=>exact mq.look q2
theorem mq.length:∀{vs:List (Str×Val)} {xs:List (Str×V)},mq K ρ H vs xs->vs.length=xs.length
 |[],xs,e=>by rw[mq]at e;subst e;rfl
 |(k,v)::vs,xs,e=>by rw[mq]at e;obtain⟨y,r,rfl,_,q⟩:=e;simp[mq.length q]
theorem mq.put(hw:VR K ρ H w y):∀{vs:List (Str×Val)} {xs:List (Str×V)},mq K ρ H vs xs->mq K ρ H (gE x w vs) (jh x y xs)
 |[],xs,e=>by rw[mq]at e;subst e;exact⟨y,[],rfl,hw,rfl⟩
 | (k,v)::vs,xs,e=>by
  rw[mq]at e;obtain⟨z,r,rfl,q1,q2⟩:=e;rw[gE,jh]
  by_cases hk:k=x
  ·rw[Zg hk,Zg hk];exact⟨y,r,rfl,hw,q2⟩
  ·rw[Zi hk,Zi hk];exact⟨z,_,rfl,q1,mq.put hw q2⟩
theorem VR.up(g:Gr ρ H ρ' H')(v:Val)(x:V)(e:VR K ρ H v x):VR K ρ' H' v x:=VR.kU g.w v x e
theorem aE.up(g:Gr ρ H ρ' H')(v:List Val)(x:List V)(e:aE K ρ H v x):aE K ρ' H' v x:=aE.kU g.w v x e
theorem iw.up(g:Gr ρ H ρ' H')(v:List (Key×Val))(x:List (Key×V))(e:iw K ρ H v x):iw K ρ' H' v x:=iw.kU g.w v x e
theorem mq.up(g:Gr ρ H ρ' H')(v:List (Str×Val))(x:List (Str×V))(e:mq K ρ H v x):mq K ρ' H' v x:=mq.kU g.w v x e
theorem aE.nil:aE K ρ H [] []:=by rw[aE]
theorem aE.cons{v:Val}{vs:List Val}{x:V}{xs:List V}(a:VR K ρ H v x)(b:aE K ρ H vs xs):aE K ρ H (v::vs) (x::xs):=by rw[aE];exact⟨x,xs,rfl,a,b⟩
theorem aE.length:∀{vs:List Val} {xs:List V},aE K ρ H vs xs->vs.length=xs.length
 |[],xs,e=>by rw[aE]at e;subst e;rfl
 |v::vs,xs,e=>by rw[aE]at e;obtain⟨x,r,rfl,_,q⟩:=e;simp[aE.length q]
theorem aE.get:∀{vs:List Val} {xs:List V} {i:Nat} {v:Val},aE K ρ H vs xs->vs[i]?=some v->∃x,xs[i]?=some x/\VR K ρ H v x
 |[],xs,i,v,e,q=>by simp at q
 | w::vs,xs,0,v,e,q=>by
  rw[aE]at e;obtain⟨x,r,rfl,a,_⟩:=e;simp at q;subst q;exact⟨x,rfl,a⟩
 | w::vs,xs,i+1,v,e,q=>by
  rw[aE]at e;obtain⟨x,r,rfl,_,b⟩:=e;simp at q;obtain⟨y,q1,q2⟩:=aE.get b q;exact⟨y,by simpa using q1,q2⟩
theorem aE.append:∀{vs ws:List Val} {xs ys:List V},aE K ρ H vs xs->aE K ρ H ws ys->aE K ρ H (vs++ws) (xs++ys)
 |[],ws,xs,ys,e,q=>by rw[aE]at e;subst e;exact q
 | w::vs,ws,xs,ys,e,q=>by
  rw[aE]at e;obtain⟨x,r,rfl,a,b⟩:=e;exact aE.cons a (aE.append b q)
theorem aE.take:∀{vs:List Val} {xs:List V} (n:Nat),aE K ρ H vs xs->aE K ρ H (vs.take n) (xs.take n)
 |_,_,0,_=>by simp;exact aE.nil
 |[],xs,n+1,e=>by rw[aE]at e;subst e;simp;exact aE.nil
 | w::vs,xs,n+1,e=>by
  rw[aE]at e;obtain⟨x,r,rfl,a,b⟩:=e;exact aE.cons a (aE.take n b)
theorem aE.drop:∀{vs:List Val} {xs:List V} (n:Nat),aE K ρ H vs xs->aE K ρ H (vs.drop n) (xs.drop n)
 |_,_,0,e=>by simpa using e
 |[],xs,n+1,e=>by rw[aE]at e;subst e;simp;exact aE.nil
 | w::vs,xs,n+1,e=>by
  rw[aE]at e;obtain⟨x,r,rfl,a,b⟩:=e;exact aE.drop n b
theorem aE.cut(lo hi:Option Int)(e:aE K ρ H vs xs):aE K ρ H (cU vs lo hi) (vq xs lo hi):=by
 unfold cU vq;rw[e.length];exact aE.take _ (aE.drop _ e)
theorem aE.ji{i:Int}(e:aE K ρ H vs xs)(q:L2.ji vs i=some v):∃x,L2.ji xs i=some x/\VR K ρ H v x:=by
 unfold L2.ji at q |-;rw[e.length]at q;cases hi:L2.JV xs.length i with
 |none=>rw[hi]at q;cases q
 |some n=>rw[hi]at q;exact aE.get e q
theorem aE.one(e:aE K ρ H [v] xs):∃x,xs=[x]/\VR K ρ H v x:=by
 rw[aE]at e;obtain⟨x,r,rfl,a,b⟩:=e;rw[aE]at b;subst b;exact⟨x,rfl,a⟩
theorem aE.two(e:aE K ρ H [v,w] xs):∃x y,xs=[x,y]/\VR K ρ H v x/\VR K ρ H w y:=by
 rw[aE]at e;obtain⟨x,r,rfl,a,b⟩:=e;obtain⟨y,rfl,c⟩:=aE.one b;exact⟨x,y,rfl,a,c⟩
theorem VR.int{i:Int}:VR K ρ H (.int i) (.int i):=by rw[VR]
theorem VR.str:VR K ρ H (.str i) (.str i):=by rw[VR]
theorem VR.bl{i:Bool}:VR K ρ H (.bl i) (.bl i):=by rw[VR]
theorem VR.non:VR K ρ H .non .non:=by rw[VR]
theorem VR.tup(q:jO K H a xs)(e:aE K ρ H vs xs):VR K ρ H (.tup vs) (.ref a):=by rw[VR];exact⟨a,xs,rfl,q,e⟩
theorem VR.ref{i:Nat}(q:ρ[i]?=some a):VR K ρ H (.ref i) (.ref a):=by rw[VR];exact⟨a,rfl,q⟩
theorem aE.ints:∀{ns:List Int} {xs:List V},aE K ρ H (ns.map Val.int) xs↔xs=ns.map V.int
 |[],xs=>by simp[aE]
 | n::ns,xs=>by
  simp only[map_cons];rw[aE];constructor
  ·rintro⟨x,r,rfl,a,b⟩;rw[VR]at a;subst a;rw[(aE.ints (ns:=ns)).mp b]
  ·rintro rfl;exact⟨_,_,rfl,VR.int,(aE.ints (ns:=ns)).mpr rfl⟩
theorem aE.bools:∀{ns:List Bool} {xs:List V},aE K ρ H (ns.map Val.bl) xs↔xs=ns.map V.bl
 |[],xs=>by simp[aE]
 | n::ns,xs=>by
  simp only[map_cons];rw[aE];constructor
  ·rintro⟨x,r,rfl,a,b⟩;rw[VR]at a;subst a;rw[(aE.bools (ns:=ns)).mp b]
  ·rintro rfl;exact⟨_,_,rfl,VR.bl,(aE.bools (ns:=ns)).mpr rfl⟩
theorem aE.tups:∀{o6:List (List Int)} {xs:List V},aE K ρ H (o6.map fH) xs->∃rs:List (Addr×List Int),xs=rs.map (λr=>V.ref r.1)/\o6=rs.map (·.2)/\∀r∈rs,jO K H r.1 (r.2.map V.int)
 |[],xs,e=>by simp only[map_nil]at e;rw[aE]at e;exact⟨[],e,rfl,λ_ z=>nomatch z⟩
 | ks::o6,xs,e=>by
  simp only[map_cons]at e;rw[aE]at e;obtain⟨x,r,rfl,a,b⟩:=e;obtain⟨rs,e1,e2,e3⟩:=aE.tups b;unfold fH at a;rw[VR]at a;obtain⟨p,ys,rfl,g1,g2⟩:=a;rw[aE.ints.mp g2]at g1;refine⟨(p,ks)::rs,by rw[e1];rfl,by rw[e2];rfl,λr hr=>?_⟩
  rcases Zw.mp hr with z|z
  ·rw[z];exact g1
  ·exact e3 r z
theorem aE.zG:∀{rs:List (Addr×List Int)},(∀r∈rs,jO K H r.1 (r.2.map V.int))->aE K ρ H ((rs.map (·.2)).map fH) (rs.map λr=>V.ref r.1)
 |[],_=>aE.nil
 |r::rs,e=>aE.cons (VR.tup (e r Zk) (aE.ints.mpr rfl)) (aE.zG λq hq=>e q (Zh _ hq))
theorem OR.mu(q:OR B ρ H a o):∃u,H a=some u/\Mu u=true:=by
 cases o with
 |lst xs=>obtain⟨ys,e,_⟩:=q;exact⟨_,e,rfl⟩
 |dct xs=>obtain⟨ys,e,_⟩:=q;exact⟨_,e,rfl⟩
 |ins c fs=>obtain⟨dx,ys,e,_⟩:=q;exact⟨_,e,rfl⟩
theorem HR.mu(r:HR B ρ h H)(e:a ∈ ρ):∃u,H a=some u/\Mu u=true:=by
 obtain⟨i,hi,rfl⟩:=List.getElem_of_mem e;have hi':i<h.length:=by rw[<-r.len];exact hi
 exact(r.ob i _ _ (ZG hi') (ZG hi)).mu
theorem HR.out(r:HR B ρ h H)(e:H p=none):p ∉ ρ:=λz=>by
 obtain⟨u,q,_⟩:=r.mu z;rw[e]at q;cases q
theorem OR.kU(g:Gw ρ H ρ' H')(e:H' a=H a)(q:OR B ρ H a o):OR B ρ' H' a o:=by
 cases o with
 |lst xs=>obtain⟨ys,e1,e2⟩:=q;exact⟨ys,e.trans e1,aE.kU g _ _ e2⟩
 |dct xs=>obtain⟨ys,e1,e2⟩:=q;exact⟨ys,e.trans e1,iw.kU g _ _ e2⟩
 |ins c fs=>obtain⟨dx,ys,e1,e2⟩:=q;exact⟨dx,ys,e.trans e1,mq.kU g _ _ e2⟩
theorem OR.up(g:Gr ρ H ρ' H')(e:H' a=H a)(q:OR B ρ H a o):OR B ρ' H' a o:=OR.kU g.w e q
theorem Gr.side(e:H p=none):Gr ρ H ρ (upd H p o) where
 pre:=Zu _
 keep a u q _:=by rw[aL (aW q e)];exact q
 firm a u q _:=by rw[aL (aW q e)];exact q
 fresh a z n:=absurd z n
theorem HR.side(r:HR B ρ h H)(e:H p=none):HR B ρ h (upd H p o) where
 len:=r.len
 nd:=r.nd
 ob i u a q1 q2:=by refine OR.up (Gr.side e) ?_ (r.ob i u a q1 q2);refine aL λz=>?_;subst z;exact r.out e (Zz q2)
theorem Gw.other(e:H p=some u)(hm:Mu u=true):Gw ρ H ρ (upd H p o) where
 pre:=Zu _
 firm a w q n:=by
  have:a≠p:=λz=>by subst z;rw[e]at q;cases q;rw[hm]at n;cases n
  rw[aL this];exact q
theorem HR.other(r:HR B ρ h H)(hp:p ∉ ρ)(e:H p=some u)(hm:Mu u=true):HR B ρ h (upd H p o) where
 len:=r.len
 nd:=r.nd
 ob i w a q1 q2:=OR.kU (Gw.other e hm) (aL λz=>by subst z;exact hp (Zz q2)) (r.ob i w a q1 q2)
theorem Gr.new(e:H p=none):Gr ρ H (ρ ++ [p]) (upd H p o) where
 pre:=prefix_append _ _
 keep a u q _:=by rw[aL (aW q e)];exact q
 firm a u q _:=by rw[aL (aW q e)];exact q
 fresh a z n:=by
  rcases ZP.mp z with z|z
  ·exact absurd z n
  ·rw[Zs.mp z];exact e
theorem HR.new(r:HR B ρ h H)(e:H p=none)(q:OR B (ρ ++ [p]) (upd H p o) p u):HR B (ρ ++ [p]) (h++[u]) (upd H p o) where
 len:=by simp[r.len]
 nd:=by rw[nodup_append];refine⟨r.nd,by simp,λa ha b hb=>?_⟩;rw[Zs.mp hb];rintro rfl;exact r.out e ha
 ob i v a q1 q2:=by
  by_cases hi:i<h.length
  ·rw[Zp hi]at q1;rw[Zp (by rw[r.len];exact hi)]at q2;refine OR.up (Gr.new e) (aL λz=>?_) (r.ob i v a q1 q2);subst z;exact r.out e (Zz q2)
  ·rw[ZD (by omega)]at q1
   rw[ZD (by rw[r.len];omega)]at q2;have hi0:i-h.length=0:=by have:=(Zb.mp q1).1;simp at this;omega
   rw[hi0]at q1;rw[r.len,hi0]at q2;simp at q1 q2;subst q1;subst q2;exact q
theorem zH(r:HR B ρ h H):VR K (ρ ++ [p]) H' (.ref h.length) (.ref p):=VR.ref (by rw[<-r.len];simp)
theorem J1{α:Type}:∀{l:List α} {i j:Nat} {a:α},l.Nodup->l[i]?=some a->l[j]?=some a->i=j
 |[],i,j,a,_,e,_=>by simp at e
 |b::l,0,0,a,_,_,_=>rfl
 | b::l,0,j+1,a,n,e,f=>by
  simp at e f;subst e;exact absurd (Zz f) (nodup_cons.mp n).1
 | b::l,i+1,0,a,n,e,f=>by
  simp at e f;subst f;exact absurd (Zz e) (nodup_cons.mp n).1
 | b::l,i+1,j+1,a,n,e,f=>by
  simp at e f;rw[J1 (nodup_cons.mp n).2 e f]
theorem Gr.put(hp:p ∈ ρ)(e:H p=some u)(hm:Mu u=true):Gr ρ H ρ (upd H p o) where
 pre:=Zu _
 keep a w q n:=by rw[aL λz=>n (by rw[z];exact hp)];exact q
 firm a w q n:=by
  have:a≠p:=λz=>by subst z;rw[e]at q;cases q;rw[hm]at n;cases n
  rw[aL this];exact q
 fresh a z n:=absurd z n
theorem HR.put{i:Nat}(r:HR B ρ h H)(hi:ρ[i]?=some p)(e:h[i]?=some w)(q:OR B ρ (upd H p o) p u):HR B ρ (h.set i u) (upd H p o) where
 len:=by simp[r.len]
 nd:=r.nd
 ob j v a q1 q2:=by
  obtain⟨z,k1,k2⟩:=(r.ob i w p e hi).mu
  by_cases hj:j=i
  ·subst hj;rw[hi]at q2;cases q2;have hlt:j<h.length:=(Zb.mp e).1;rw[Zl hlt]at q1;cases q1;exact q
  ·rw[Zd (λz=>hj z.symm)]at q1;refine OR.up (Gr.put (Zz hi) k1 k2) (aL λz=>?_) (r.ob j v a q1 q2);subst z;exact hj (J1 r.nd q2 hi)
theorem f7(r:HR B ρ h H)(q:VR B.K ρ H v x)(e:aD h v=some xs):∃a ys,x=.ref a/\gm B.K H a ys/\aE B.K ρ H xs ys:=by
 cases v with
 |rl vs=>simp only[aD]at e;cases e;rw[VR]at q;obtain⟨a,ys,rfl,k1,k2⟩:=q;exact⟨a,ys,rfl,k1.sq,k2⟩
 |ref i=>
  simp only[aD]at e;split at e
  ·rename_i zs e1;cases e;rw[VR]at q;obtain⟨a,rfl,k1⟩:=q;obtain⟨ys,k2,k3⟩:=r.ob i _ a e1 k1;exact⟨a,ys,rfl,.inl (.inl k2),k3⟩
  ·cases e
 |_=>cases e
theorem mw{i:Nat}(r:HR B ρ h H)(q:VR B.K ρ H (.ref i) x)(e:h[i]?=some (.lst xs)):∃a ys,x=.ref a /\ ρ[i]?=some a/\H a=some (.lst ys)/\aE B.K ρ H xs ys:=by
 rw[VR]at q;obtain⟨a,rfl,k1⟩:=q;obtain⟨ys,k2,k3⟩:=r.ob i _ a e k1;exact⟨a,ys,rfl,k1,k2,k3⟩
theorem yJ(r:HR B ρ h H)(q:VR B.K ρ H v x)(e:cM h v=some xs):∃a ys,x=.ref a/\(gm B.K H a ys\/jO B.K H a ys)/\aE B.K ρ H xs ys:=by
 cases v with
 |tup vs=>simp only[cM]at e;cases e;rw[VR]at q;obtain⟨a,ys,rfl,k1,k2⟩:=q;exact⟨a,ys,rfl,.inr k1,k2⟩
 |rl vs=>obtain⟨a,ys,e1,k1,k2⟩:=f7 r q (show aD h (.rl vs)=some xs from e);exact⟨a,ys,e1,.inl k1,k2⟩
 |ref vs=>obtain⟨a,ys,e1,k1,k2⟩:=f7 r q (show aD h (.ref vs)=some xs from e);exact⟨a,ys,e1,.inl k1,k2⟩
 |_=>cases e
theorem nt(r:HR B ρ h H):∀(n:Nat) (v:Val) (x:V) (d:PyData),VR B.K ρ H v x->toD n h v=some d->Den B.K H d x/\d.canLay0=true/\d.depth<=n:=by
 intro n
 induction n with
 |zero=>intro v x d _ e;simp only[toD]at e;cases e
 |succ n ih=>
  have all:∀(vs:List Val) (xs:List V) (ds:List PyData),aE B.K ρ H vs xs->cI (toD n h) vs=some ds->dU B.K H ds xs/\PyData.canLayAll0 ds=true/\PyData.depthAll ds<=n:=by
   intro vs
   induction vs with
   |nil=>intro xs ds q e;simp only[cI]at e;cases e;rw[aE]at q;subst q;exact⟨dU.nil,rfl,by simp[PyData.depthAll]⟩
   |cons v vs WZ=>intro xs ds q e;simp only[cI]at e;obtain⟨d,e1,e⟩:=Za.mp e;obtain⟨ds',e2,e⟩:=Za.mp e;cases e;rw[aE]at q;obtain⟨x,r,rfl,q1,q2⟩:=q;obtain⟨a1,a2,a3⟩:=ih v x d q1 e1;obtain⟨b1,b2,b3⟩:=WZ r ds' q2 e2;refine⟨dU.cons a1 b1,by simp[PyData.canLayAll0,a2,b2],?_⟩;simp only[PyData.depthAll];omega
  intro v x d q e;cases v with
  |non=>simp only[toD]at e;cases e;rw[VR]at q;subst q;exact⟨Den.none,rfl,by simp[PyData.depth]⟩
  |bl b=>simp only[toD]at e;cases e;rw[VR]at q;subst q;exact⟨Den.bool,rfl,by simp[PyData.depth]⟩
  |int b=>simp only[toD]at e;cases e;rw[VR]at q;subst q;exact⟨Den.int,rfl,by simp[PyData.depth]⟩
  |str b=>
   simp only[toD]at e;split at e
   ·rename_i hs;cases e;rw[VR]at q;subst q;exact⟨Den.str,by simp[PyData.canLay0,hs],by simp[PyData.depth]⟩
   ·cases e
  |tup vs=>simp only[toD]at e;obtain⟨ds,e1,e⟩:=Za.mp e;cases e;rw[VR]at q;obtain⟨a,xs,rfl,q1,q2⟩:=q;obtain⟨b1,b2,b3⟩:=all vs xs ds q2 e1;exact⟨Den.tuple q1 b1,by simp[PyData.canLay0,b2],by simp only[PyData.depth];omega⟩
  |rl vs=>simp only[toD]at e;obtain⟨ds,e1,e⟩:=Za.mp e;cases e;rw[VR]at q;obtain⟨a,xs,rfl,q1,q2⟩:=q;obtain⟨b1,b2,b3⟩:=all vs xs ds q2 e1;exact⟨Den.list q1.sq b1,by simp[PyData.canLay0,b2],by simp only[PyData.depth];omega⟩
  |dc _ _=>rw[VR]at q;exact q.elim
  |ob _ _ _=>rw[VR]at q;exact q.elim
  |ref i=>simp only[toD]at e;obtain⟨vs,e0,e⟩:=Za.mp e;obtain⟨ds,e1,e⟩:=Za.mp e;cases e;obtain⟨a,xs,rfl,q1,q2⟩:=f7 r q e0;obtain⟨b1,b2,b3⟩:=all vs xs ds q2 e1;exact⟨Den.list q1 b1,by simp[PyData.canLay0,b2],by simp only[PyData.depth];omega⟩
end
theorem nu(x:List Int):∀l,(uq x l).Perm (x::l)
 |[]=>.refl _
 | y::r=>by
  unfold uq;split
  ·exact((nu x r).cons y).trans (.swap _ _ _)
  ·exact .refl _
theorem qg:∀l,(mj l).Perm l
 |[]=>.refl _
 |x::r=>(nu x _).trans ((qg r).cons x)
theorem vS{a b c:List Int}(h1:HT.lexLt b a=false)(h2:HT.lexLt c b=false):HT.lexLt c a=false:=by
 cases e:HT.lexLt c a with
 |false=>rfl
 |true=>
  rcases se.su c b a e with z|z
  ·rw[h2]at z;cases z
  ·rw[h1]at z;cases z
theorem vU{a b:List Int}(h:HT.lexLt a b=true):HT.lexLt b a=false:=by
 cases e:HT.lexLt b a with
 |false=>rfl
 |true=>have:=se.iu _ _ _ h e;rw[se.jl]at this;cases this
theorem zJ(x:List Int):∀l:List (List Int),l.Pairwise (λa b=>HT.lexLt b a=false)->(uq x l).Pairwise (λa b=>HT.lexLt b a=false)
 |[],_=>by simp[uq]
 | y::r,h=>by
  obtain⟨h1,h2⟩:=pairwise_cons.mp h;unfold uq
  split
  ·rename_i hlt
   refine pairwise_cons.mpr ⟨λz hz=>?_,zJ x r h2⟩
   rcases Zw.mp ((nu x r).mem_iff.mp hz) with rfl|hz
   ·exact vU hlt
   ·exact h1 z hz
  ·rename_i hlt
   refine pairwise_cons.mpr ⟨λz hz=>?_,h⟩;have hxy:HT.lexLt y x=false:=by simpa using hlt
   rcases Zw.mp hz with rfl|hz
   ·exact hxy
   ·exact vS hxy (h1 z hz)
theorem vV:∀l,(mj l).Pairwise (λa b=>HT.lexLt b a=false)
 |[]=>.nil
 |x::r=>zJ x _ (vV r)
theorem Du(hp:l.Perm o6)(hs:l.Pairwise (λa b=>HT.lexLt b a=false)):l=mj o6 :=
 List.Perm.eq_of_pairwise (λa b _ _ h1 h2=>se.ic a b h2 h1) hs (vV o6) (hp.trans (qg o6).symm)
theorem BB{ns:List Int}{m:Int}(h:m∈ns)(h2:∀a∈ns,m<=a):ur ns=some (.int m):=by
 cases ns with
 |nil=>cases h
 |cons a r=>
  have key:∀(r:List Int) (a:Int),(r.foldl min a)∈a::r/\∀b∈a::r,r.foldl min a<=b:=by
   intro r
   induction r with
   |nil=>intro a;simp
   |cons c r ih=>
    intro a;obtain⟨q1,q2⟩:=ih (min a c);refine⟨?_,λb hb=>?_⟩
    ·show List.foldl min (min a c) r∈_
     rcases Zw.mp q1 with z|z
     ·rw[z]
      rcases Int.le_total a c with hc|hc
      ·rw[Int.min_eq_left hc];exact Zk
      ·rw[Int.min_eq_right hc];exact Zh _ Zk
     ·exact Zh _ (Zh _ z)
    ·show List.foldl min (min a c) r<=b
     have q3:=q2 (min a c) Zk
     rcases Zw.mp hb with z|z
     ·subst z;omega
     ·rcases Zw.mp z with z|z
      ·subst z;omega
      ·exact q2 b (Zh _ z)
  obtain⟨q1,q2⟩:=key r a;show some (Val.int (r.foldl min a))=_;rw[Int.le_antisymm (q2 m h) (h2 _ q1)]
theorem BC{ns:List Int}{m:Int}(h:m∈ns)(h2:∀a∈ns,a<=m):uu ns=some (.int m):=by
 cases ns with
 |nil=>cases h
 |cons a r=>
  have key:∀(r:List Int) (a:Int),(r.foldl max a)∈a::r/\∀b∈a::r,b<=r.foldl max a:=by
   intro r
   induction r with
   |nil=>intro a;simp
   |cons c r ih=>
    intro a;obtain⟨q1,q2⟩:=ih (max a c);refine⟨?_,λb hb=>?_⟩
    ·show List.foldl max (max a c) r∈_
     rcases Zw.mp q1 with z|z
     ·rw[z]
      rcases Int.le_total a c with hc|hc
      ·rw[Int.max_eq_right hc];exact Zh _ Zk
      ·rw[Int.max_eq_left hc];exact Zk
     ·exact Zh _ (Zh _ z)
    ·show b<=List.foldl max (max a c) r
     have q3:=q2 (max a c) Zk
     rcases Zw.mp hb with z|z
     ·subst z;omega
     ·rcases Zw.mp z with z|z
      ·subst z;omega
      ·exact q2 b (Zh _ z)
  obtain⟨q1,q2⟩:=key r a;show some (Val.int (r.foldl max a))=_;rw[Int.le_antisymm (h2 _ q1) (q2 m h)]
def Post(B:Bd)(EX:Nat->List V->Hp->Prop)(ρ:List Addr)(H:Hp){α:Type}(W:α -> Hs->List Addr->Hp->Prop):Out α -> Prop
 |.ok a h'=>∀ρ' H',Gr ρ H ρ' H'->HR B ρ' h' H'->W a h' ρ' H'
 |.exc c vs h'=>∀ρ' H' xs,Gr ρ H ρ' H'->HR B ρ' h' H'->aE B.K ρ' H' vs xs->EX c xs H'
 |.no=>False
def WV(K:Frag)(Q:VK):Val->Hs->List Addr->Hp->Prop:=λv _ ρ' H'=>∀x,VR K ρ' H' v x->Q x H'
section
variable {B:Bd} {EX:Nat->List V->Hp->Prop} {ρ ρ':List Addr} {H H':Hp} {α β:Type} {W:β -> Hs->List Addr->Hp->Prop} {h h':Hs} {Q:VK}
theorem Post.up(g:Gr ρ H ρ' H')(p:Post B EX ρ H W o):Post B EX ρ' H' W o:=by
 cases o with
 |ok a h'=>exact λρ2 H2 g2 r=>p ρ2 H2 (g.trans g2) r
 |exc c vs h'=>exact λρ2 H2 xs g2 r=>p ρ2 H2 xs (g.trans g2) r
 |no=>exact p
theorem aX{c:Bool}(p:Post B EX ρ H W (aQ c m h)):c=true/\Post B EX ρ H W (m h):=by
 unfold aQ at p;split at p
 ·rename_i e;exact⟨e,p⟩
 ·exact p.elim
theorem aI(p:Post B EX ρ H W (bnd (ask f) g h)):∃a,f h=some a/\Post B EX ρ H W (g a h):=by
 unfold bnd ask bx at p;cases e:f h with
 |none=>rw[e]at p;exact p.elim
 |some a=>rw[e]at p;exact⟨a,rfl,p⟩
theorem cV(r:HR B ρ h H)(p:Post B EX ρ H W (ask f h)):∃a,f h=some a/\W a h ρ H:=by
 unfold ask bx at p;cases e:f h with
 |none=>rw[e]at p;exact p.elim
 |some a=>rw[e]at p;exact⟨a,rfl,p ρ H Gr.refl r⟩
theorem cD(p:Post B EX ρ H W (bnd (bx o) g h)):∃a,o=some a/\Post B EX ρ H W (g a h):=by
 unfold bnd bx at p;cases e:o with
 |none=>rw[e]at p;exact p.elim
 |some a=>rw[e]at p;exact⟨a,rfl,p⟩
theorem cG(r:HR B ρ h H)(p:Post B EX ρ H W (bx o h)):∃a,o=some a/\W a h ρ H:=by
 unfold bx at p;cases e:o with
 |none=>rw[e]at p;exact p.elim
 |some a=>rw[e]at p;exact⟨a,rfl,p ρ H Gr.refl r⟩
theorem aj(r:HR B ρ h H)(p:Post B EX ρ H W (ret a h)):W a h ρ H:=p ρ H Gr.refl r
theorem vW(r:HR B ρ h H)(hp:H p=none)(q:OR B (ρ ++ [p]) (upd H p O) p o)(w:Post B EX ρ H (WV B.K Q) (new o h)):Q (.ref p) (upd H p O) :=
 w (ρ ++ [p]) (upd H p O) (Gr.new hp) (r.new hp q) _ (zH r)
theorem dO(r:HR B ρ h H)(hp:H p=none)(q:aE B.K ρ H xs ys)(w:Post B EX ρ H (WV B.K Q) (new (.lst xs) h)):Q (.ref p) (upd H p (.lst ys)) :=
 vW (o:=.lst xs) (O:=.lst ys) r hp ⟨ys,bg,aE.up (Gr.new hp) _ _ q⟩ w
theorem vX(r:HR B ρ h H)(hp:H p=none)(q:aE B.K ρ H xs ys)(w:Post B EX ρ H (WV B.K Q) (ret (Val.tup xs) h)):Q (.ref p) (upd H p (.tup ys)) :=
 w ρ (upd H p (.tup ys)) (Gr.side hp) (r.side hp) _ (VR.tup (jO.of bg) (aE.up (Gr.side hp) _ _ q))
theorem aA(p:Post B EX ρ H W (bnd m f h))(k:∀v h1 ρ1 x H1,Gr ρ H ρ1 H1->HR B ρ1 h1 H1->VR B.K ρ1 H1 v x->Post B EX ρ1 H1 W (f v h1)->Q x H1):Post B EX ρ H (WV B.K Q) (m h):=by
 unfold bnd at p;cases e:m h with
 |ok v h1=>rw[e]at p;exact λρ1 H1 g r x q=>k v h1 ρ1 x H1 g r q (Post.up g p)
 |exc c vs h1=>rw[e]at p;exact p
 |no=>rw[e]at p;exact p
theorem bN(p:Post B EX ρ H W (bnd m f h))(k:∀v h1 ρ1 H1,Gr ρ H ρ1 H1->HR B ρ1 h1 H1->Post B EX ρ1 H1 W (f v h1)->W' v h1 ρ1 H1):Post B EX ρ H W' (m h):=by
 unfold bnd at p;cases e:m h with
 |ok v h1=>rw[e]at p;exact λρ1 H1 g r=>k v h1 ρ1 H1 g r (Post.up g p)
 |exc c vs h1=>rw[e]at p;exact p
 |no=>rw[e]at p;exact p
end
theorem fj:∀{ds:List Val} {ns:List Int},bz ds=some ns->ds=ns.map .int
 |[],ns,e=>by simp only[bz,cI]at e;cases e;rfl
 | v::r,ns,e=>by
  simp only[bz,cI]at e;obtain⟨i,e1,e⟩:=Za.mp e;obtain⟨is,e2,e⟩:=Za.mp e;cases e;cases v<;>first|cases e1|skip
  rw[fj (show bz r=some is from e2)];rfl
theorem qh:∀{ds:List Val} {ns:List Bool},dM ds=some ns->ds=ns.map .bl
 |[],ns,e=>by simp only[dM,cI]at e;cases e;rfl
 | v::r,ns,e=>by
  simp only[dM,cI]at e;obtain⟨i,e1,e⟩:=Za.mp e;obtain⟨is,e2,e⟩:=Za.mp e;cases e;cases v<;>first|cases e1|skip
  rw[qh (show dM r=some is from e2)];rfl
theorem sP:∀{ds:List Val} {o6:List (List Int)},k8 ds=some o6->ds=o6.map fH/\∀ks∈o6,ks≠[]
 |[],ns,e=>by simp only[k8,cI]at e;cases e;exact⟨rfl,λ_ z=>nomatch z⟩
 | v::r,ns,e=>by
  simp only[k8,cI]at e;obtain⟨i,e1,e⟩:=Za.mp e;obtain⟨is,e2,e⟩:=Za.mp e;cases e;cases v<;>first|cases e1|skip
  rename_i vs;dsimp only at e1;split at e1
  ·cases e1
  ·rename_i hne
   obtain⟨q1,q2⟩:=sP (show k8 r=some is from e2);have e3:=fj e1;subst e3;refine⟨by rw[q1];rfl,λks hk=>?_⟩
   rcases Zw.mp hk with z|z
   ·subst z;intro z;subst z;exact hne rfl
   ·exact q2 ks z
section
variable {X:Cx} {cl:Nat->Addr} {EX:Nat->List V->Hp->Prop}
abbrev bd(X:Cx)(cl:Nat->Addr):Bd:=⟨X.K,cl⟩
theorem HN:oZ X (binaryOp .Add) (λx y H Q=>∃a b xs ys,x=.ref a/\y=.ref b/\gm X.K H a xs/\gm X.K H b ys/\xs.length+ys.length<=sizeLine/\∀p,H p=none->Q (.ref p) (upd H p (.lst (xs++ys)))):=by
 intro pins s σ H x y v u Q I rx ry h;obtain⟨l,l',xs,ys,rfl,rfl,q1,q3,hl,q⟩:=h;cases rx;cases ry;obtain⟨its,r1,W0,z1⟩:=I.list q1;obtain⟨its',r2,W2,z2⟩:=I.list q3;have l1:=r1.length;have l2:=r2.length;obtain⟨⟨oc,od,WM,osl⟩,n1,e1,e2,_,e4⟩:=W0;obtain⟨⟨YZ,od',W3,TX⟩,n2,f1,f2,_,f4⟩:=W2;cases e2;cases e4;cases f2;cases f4;refine concat_meets ⟨_,e1,rfl⟩ ⟨_,f1,rfl⟩ noFill_list_add seq_list_add PySem.F.slot_list_add PySem.F.entry_list_add (PySem.F.args_list_add_2 _ _) (list_addW l l' its.toArray its'.toArray n1 n2 od od' osl TX (by simp only[size_toArray];omega)) ⟨e1,f1,?_⟩;have ea:its.toArray++its'.toArray=(its++its').toArray:=by simp
 rw[ea];have hn:H s.heap.objs.size=none:=I.hok.fresh (Zm _);exact⟨.ref s.heap.objs.size,_,I.Tn (t':=s.toks) (its:=its++its') (r1.append r2) (by rw[ZA];omega),rfl,q _ hn⟩
def Dv:JY->Operator
 |.add=>.Add|.sub=>.Sub|.mul=>.Mult|.fdiv=>.FloorDiv|.mod=>.Mod|.pow=>.Pow
def zK:LA->CmpOp
 |.eq=>.Eq|.ne=>.NotEq|.lt=>.Lt|.le=>.LtE|.gt=>.Gt|.ge=>.GtE|.isn=>.Is|.ntn=>.IsNot|.Cr=>.In|.nin=>.NotIn
def rB(B:Bd)(EX:Nat->List V->Hp->Prop)(o:JY):R2:=λx y H Q=>∃ρ h v w,HR B ρ h H/\VR B.K ρ H v x/\VR B.K ρ H w y/\Post B EX ρ H (WV B.K Q) (Oj o v w h)
theorem gD.log{j:Int}(h:gD j=true):0<j/\j.natAbs.log2<9000:=by
 have h:=Zv h;refine⟨h.1,(Nat.log2_lt (by omega)).mpr ?_⟩;have e:j.natAbs<2 ^ 200:=by
  have:(2:Nat) ^ 200=1606938044258990275541962092341162602522202993782792835301376:=by decide
  omega
 exact Zn e (Nat.pow_le_pow_right (by decide) (by decide))
theorem Dw:oZ X (binaryOp .FloorDiv) (rI (λ_ j=>gD j=true) λi j=>.int (i/j)):=Sf λi j _ _ _ _ _ hc q=>by
 obtain⟨h1,h2⟩:=gD.log hc;exact PyProof.Rows.floordiv_int (by omega) (by rw[Int.fdiv_eq_ediv_of_nonneg i (by omega)];exact q) (.inl (PyProof.noPylong_of_log2 h2))
theorem qi(ho:o≠.add)(v w:Val)(h:Hs):(∃i j,v=.int i/\w=.int j)\/Oj o v w h=.no:=by
 cases v with
 |int i=>
  cases w with
  |int j=>exact .inl ⟨i,j,rfl,rfl⟩
  |_=>right;cases o<;>first|rfl|exact absurd rfl ho
 |_=>right;cases o<;>first|rfl|exact absurd rfl ho
theorem LC(o:JY):oZ X (binaryOp (Dv o)) (rB (bd X cl) EX o):=by
 intro pins s σ H x y v' u' Q I rx ry hh;obtain⟨ρ,h,v,w,r,hv,hw,p⟩:=hh;have lists:Post (bd X cl) EX ρ H (WV X.K Q) (bnd (ask λh=>aD h v) (λa=>bnd (ask λh=>aD h w) λb=>aQ (decide (a.length+b.length<=sizeLine)) (new (.lst (a++b)))) h)->wpAny (model X.prog X.w) X.A (binaryOp .Add v' u') (EP X pins σ Q) X.xe s:=by intro p;obtain⟨a,e1,p⟩:=aI p;obtain⟨b,e2,p⟩:=aI p;obtain⟨e3,p⟩:=aX p;have e3:=Zv e3;obtain⟨a1,TY,rfl,k1,k2⟩:=f7 r hv e1;obtain⟨a2,W4,rfl,k3,k4⟩:=f7 r hw e2;exact HN pins s σ H _ _ v' u' Q I rx ry ⟨a1,a2,TY,W4,rfl,rfl,k1,k3,by rw[<-k2.length,<-k4.length];exact e3,λq hq=>dO r hq (aE.append k2 k4) p⟩
 cases o with
 |add=>
  cases v<;>cases w<;>first
   |exact lists p
   |skip
  ·rename_i a b;rw[VR]at hv hw;subst hv;subst hw;exact K2 pins s σ H _ _ _ _ Q I rx ry ⟨a,b,rfl,rfl,aj r p _ VR.int⟩
 |sub=>
  rcases qi (o:=.sub) (by intro z;cases z) v w h with ⟨i,j,rfl,rfl⟩|z
  case inr=>rw[z]at p;exact p.elim
  rw[VR]at hv hw;subst hv;subst hw;exact K3 pins s σ H _ _ _ _ Q I rx ry ⟨_,_,rfl,rfl,aj r p _ VR.int⟩
 |mul=>
  rcases qi (o:=.mul) (by intro z;cases z) v w h with ⟨i,j,rfl,rfl⟩|z
  case inr=>rw[z]at p;exact p.elim
  rw[VR]at hv hw;subst hv;subst hw;obtain⟨hm,p⟩:=aX p;refine K4 pins s σ H _ _ _ _ Q I rx ry ⟨_,_,rfl,rfl,?_,aj r p _ VR.int⟩;unfold jV at hm;simp only[or_eq_true,and_eq_true,decide_eq_true_eq]at hm;exact hm
 |fdiv=>
  rcases qi (o:=.fdiv) (by intro z;cases z) v w h with ⟨i,j,rfl,rfl⟩|z
  case inr=>rw[z]at p;exact p.elim
  rw[VR]at hv hw;subst hv;subst hw;obtain⟨hm,p⟩:=aX p;exact Dw pins s σ H _ _ _ _ Q I rx ry ⟨_,_,rfl,rfl,hm,aj r p _ VR.int⟩
 |mod=>
  rcases qi (o:=.mod) (by intro z;cases z) v w h with ⟨i,j,rfl,rfl⟩|z
  case inr=>rw[z]at p;exact p.elim
  rw[VR]at hv hw;subst hv;subst hw;obtain⟨hm,p⟩:=aX p;exact K5 pins s σ H _ _ _ _ Q I rx ry ⟨_,_,rfl,rfl,Zv hm,aj r p _ VR.int⟩
 |pow=>
  rcases qi (o:=.pow) (by intro z;cases z) v w h with ⟨i,j,rfl,rfl⟩|z
  case inr=>rw[z]at p;exact p.elim
  rw[VR]at hv hw;subst hv;subst hw;obtain⟨hm,p⟩:=aX p;have hm:=Zv hm;exact K6 pins s σ H _ _ _ _ Q I rx ry ⟨_,_,rfl,rfl,hm,aj r p _ VR.int⟩
end
section
variable {X:Cx} {cl:Nat->Addr} {EX:Nat->List V->Hp->Prop}
theorem vY{b:Bool}(e:zC h v w=some b):∃d f,toD 16 h v=some d/\toD 16 h w=some f/\b=PyData.eqv d f:=by
 unfold zC at e;obtain⟨d,e1,e⟩:=Za.mp e;obtain⟨f,e2,e⟩:=Za.mp e;exact⟨d,f,e1,e2,(ZI e).symm⟩
theorem zL{K:Frag}{ρ:List Addr}{H:Hp}{v:Val}{x:V}(q:VR K ρ H v x):decide (x=.non)=jW v:=by
 cases v<;>rw[VR]at q
 ·subst q;rfl
 ·subst q;rfl
 ·subst q;rfl
 ·subst q;rfl
 ·obtain⟨a,xs,rfl,_⟩:=q;rfl
 ·obtain⟨a,xs,rfl,_⟩:=q;rfl
 ·exact q.elim
 ·exact q.elim
 ·obtain⟨a,rfl,_⟩:=q;rfl
theorem LD(hu:X.A.units+64<cLine)(neg:Bool):oZ X (compareOp (if neg=true then .NotIn else .In)) (λx y H Q=>∃d f ds,Den X.K H d x/\Den X.K H f y/\d.canLay0=true/\f.canLay0=true/\d.depth<=16/\(f=.list ds\/f=.tuple ds)/\Q (.bl (if neg=true then !(ds.any λy=>PyData.eqv y d) else ds.any λy=>PyData.eqv y d)) H):=by
 intro pins s σ H x y v u Q I rx ry hh;obtain⟨d,f,ds,hd,hf,c1,c2,hz,e,q⟩:=hh;obtain⟨as,ra⟩:=Den.reads I d x v c1 hd rx;obtain⟨bs,rb⟩:=Den.reads I f y u c2 hf ry;have So:X.A.units+1+min (PyData.depthAll ds) d.depth<cLine:=by have:=Nat.min_le_right (PyData.depthAll ds) d.depth;omega
 rcases e with rfl|rfl
 ·have c3:PyData.canLayAll0 ds=true:=by simpa [PyData.canLay0] using c2
  cases neg with
  |true=>exact SeqAt.notIn_list_reads rb ra c3 c1 So ⟨.bl _,H,I,rfl,q⟩
  |false=>exact SeqAt.in_list_reads rb ra c3 c1 So ⟨.bl _,H,I,rfl,q⟩
 ·have c3:PyData.canLayAll0 ds=true:=by simpa [PyData.canLay0] using c2
  cases neg with
  |true=>exact SeqAt.notIn_tuple_reads rb ra c3 c1 So ⟨.bl _,H,I,rfl,q⟩
  |false=>exact SeqAt.in_tuple_reads rb ra c3 c1 So ⟨.bl _,H,I,rfl,q⟩
theorem iw.val{K:Frag}{ρ:List Addr}{H:Hp}(k:Key):∀{kvs:List (Key×Val)} {ks:List (Key×V)},iw K ρ H kvs ks->(cT kvs k=none->jj ks k=none)/\∀v,cT kvs k=some v->∃x,jj ks k=some x/\VR K ρ H v x
 | [],ks,e=>by
  have:ks=[]:=e;subst this;exact⟨λ_=>rfl,λv z=>by simp[cT]at z⟩
 | (k',v')::kvs,ks,⟨x,r,e,q1,q2⟩=>by
  subst e;obtain⟨a,b⟩:=iw.val k q2
  by_cases hk:k'=k
  ·subst hk;refine⟨λz=>by simp[cT]at z,λv z=>⟨x,by simp[jj],?_⟩⟩;simp[cT]at z;subst z;exact q1
  ·have e1:cT ((k',v')::kvs) k=cT kvs k:=by simp[cT,hk]
   have e2:jj ((k',x)::r) k=jj r k:=by simp[jj,hk]
   rw[e1,e2];exact⟨a,b⟩
theorem iw.length{K:Frag}{ρ:List Addr}{H:Hp}:∀{kvs:List (Key×Val)} {ks:List (Key×V)},iw K ρ H kvs ks->kvs.length=ks.length
 |[],ks,e=>by have:ks=[]:=e;subst this;rfl
 |(k',v')::kvs,ks,⟨x,r,e,q1,q2⟩=>by subst e;simp[iw.length q2]
theorem iw.any{K:Frag}{ρ:List Addr}{H:Hp}(k:Key):∀{kvs:List (Key×Val)} {ks:List (Key×V)},iw K ρ H kvs ks->(kvs.any λkv=>decide (kv.1=k))=(ks.any λkv=>decide (kv.1=k))
 |[],ks,e=>by have:ks=[]:=e;subst this;rfl
 |(k',v')::kvs,ks,⟨x,r,e,q1,q2⟩=>by subst e;simp only[any_cons];rw[iw.any k q2]
theorem iw.repl{K:Frag}{ρ:List Addr}{H:Hp}(k:Key){v:Val}{y:V}(q:VR K ρ H v y):∀{kvs:List (Key×Val)} {ks:List (Key×V)},iw K ρ H kvs ks->iw K ρ H (kvs.map λkv=>if kv.1=k then (kv.1,v) else kv) (ks.map λkv=>if kv.1=k then (kv.1,y) else kv)
 |[],ks,e=>by have:ks=[]:=e;subst this;rfl
 | (k',v')::kvs,ks,⟨x,r,e,q1,q2⟩=>by
  subst e;simp only[map_cons]
  by_cases hk:k'=k
  ·rw[Zg hk,Zg hk];exact⟨y,_,rfl,q,iw.repl k q q2⟩
  ·rw[Zi hk,Zi hk];exact⟨x,_,rfl,q1,iw.repl k q q2⟩
theorem iw.snoc{K:Frag}{ρ:List Addr}{H:Hp}(k:Key){v:Val}{y:V}(q:VR K ρ H v y):∀{kvs:List (Key×Val)} {ks:List (Key×V)},iw K ρ H kvs ks->iw K ρ H (kvs++[(k,v)]) (ks++[(k,y)])
 |[],ks,e=>by have:ks=[]:=e;subst this;exact⟨y,[],rfl,q,rfl⟩
 |(k',v')::kvs,ks,⟨x,r,e,q1,q2⟩=>by subst e;exact⟨x,_,rfl,q1,iw.snoc k q q2⟩
theorem iw.put{K:Frag}{ρ:List Addr}{H:Hp}(k:Key){v:Val}{y:V}(q:VR K ρ H v y){kvs:List (Key×Val)}{ks:List (Key×V)}(e:iw K ρ H kvs ks):iw K ρ H (kT kvs k v) (putK ks k y):=by
 unfold kT putK;rw[iw.any k e]
 split
 ·exact iw.repl k q e
 ·exact iw.snoc k q e
theorem LF{K:Frag}{ρ:List Addr}{H:Hp}{v:Val}{x:V}{k:Key}(q:VR K ρ H v x)(e:keyOf v=some k):x=kV k:=by
 cases v<;>simp only[keyOf]at e<;>first|cases e|skip
 ·rw[VR]at q;exact q
 ·rw[VR]at q;exact q
theorem HP(hu:X.A.units+64<cLine):Pf X (λx y H Q=>∃a v,x=.ref a/\rq H a y (some v)/\Q v H):=by
 intro value slice pins s σ H x y v u Q I rx ry h hs;obtain⟨a,z,rfl,g,q⟩:=h;cases rx;have hT:=vA I g;unfold subscriptTail;refine Y8 ?_;rw[getitemInPython_of_ne hT.not_modules];refine Y8 (wpAny_specialOf hT PySem.F.slot_dict_getitem.lookup ?_);have fin:wpAny (model X.prog X.w) X.A (subscripted slice false (.ref a) u) (λr s₃=>wpAny (model X.prog X.w) X.A (letTemporaryGo value (.ref a) r >>= λ_=>pure r) (EP X pins σ Q) X.xe s₃) X.xe s:=by rw[hs];exact wpAny_operating (Bg (by omega) I g ry λw' s' I' r'=>Y8 (wpAny_letTemporaryGo (Zf ⟨z,H,I',r',q⟩)))
 first
  |exact Zf (Y8 fin)
  |exact Y8 (Zf (Y8 fin))
  |exact Y8 fin
def rC(B:Bd)(o:LA):R2:=λx y H Q=>∃ρ h v w b,HR B ρ h H/\VR B.K ρ H v x/\VR B.K ρ H w y/\cop h o v w=some b/\Q (.bl b) H
theorem Dy{b:Bool}(e:memD h v w=some b):∃d f ds,toD 16 h v=some d/\toD 16 h w=some f/\(f=.list ds\/f=.tuple ds)/\b=ds.any λy=>PyData.eqv y d:=by
 unfold memD at e;obtain⟨f,e1,e⟩:=Za.mp e;obtain⟨d,e2,e⟩:=Za.mp e;cases f<;>simp only[PJ]at e<;>first|cases e|skip
 ·exact⟨d,_,_,e2,e1,.inl rfl,rfl⟩
 ·exact⟨d,_,_,e2,e1,.inr rfl,rfl⟩
theorem Dz(hu:X.A.units+64<cLine)(o:LA):oZ X (compareOp (zK o)) (rC (bd X cl) o):=by
 intro pins s σ H x y v' u' Q I rx ry hh;obtain⟨ρ,h,v,w,b,r,hv,hw,e,q⟩:=hh;have mem:∀(neg:Bool),vO h v w=some (if neg=true then !b else b)->wpAny (model X.prog X.w) X.A (compareOp (if neg=true then .NotIn else .In) v' u') (EP X pins σ Q) X.xe s:=by
  intro neg e;obtain⟨d,f,ds,e1,e2,e3,eb⟩:=Dy e
  ·obtain⟨a1,a2,a3⟩:=nt r 16 v x d hv e1
   obtain⟨b1,b2,b3⟩:=nt r 16 w y f hw e2;refine LD hu neg pins s σ H x y v' u' Q I rx ry ⟨d,f,ds,a1,b1,a2,b2,a3,e3,?_⟩;cases neg with
   |true=>rw[Zg rfl]at eb |-;rw[<-eb,Bool.not_not];exact q
   |false=>rw[Zi Y9]at eb |-;rw[<-eb];exact q
 cases o with
 |eq=>obtain⟨d,f,e1,e2,rfl⟩:=vY (show zC h v w=some b by exact e);obtain⟨a1,a2,a3⟩:=nt r 16 v x d hv e1;obtain⟨b1,b2,b3⟩:=nt r 16 w y f hw e2;exact Lw hu pins s σ H x y v' u' Q I rx ry ⟨d,f,a1,b1,a2,b2,by omega,q⟩
 |ne=>have e':(zC h v w).map (!·)=some b:=e;obtain⟨c,e3,rfl⟩:=ZL.mp e';obtain⟨d,f,e1,e2,rfl⟩:=vY e3;obtain⟨a1,a2,a3⟩:=nt r 16 v x d hv e1;obtain⟨b1,b2,b3⟩:=nt r 16 w y f hw e2;exact Lx hu pins s σ H x y v' u' Q I rx ry ⟨d,f,a1,b1,a2,b2,by omega,q⟩
 |lt=>obtain⟨i,j,rfl,rfl⟩:=jY (.inl rfl) e;cases e;rw[VR]at hv;rw[VR]at hw;subst hv;subst hw;exact O6 pins s σ H _ _ v' u' Q I rx ry ⟨_,_,rfl,rfl,q⟩
 |le=>obtain⟨i,j,rfl,rfl⟩:=jY (.inr (.inl rfl)) e;cases e;rw[VR]at hv;rw[VR]at hw;subst hv;subst hw;exact O7 pins s σ H _ _ v' u' Q I rx ry ⟨_,_,rfl,rfl,q⟩
 |gt=>obtain⟨i,j,rfl,rfl⟩:=jY (.inr (.inr (.inl rfl))) e;cases e;rw[VR]at hv;rw[VR]at hw;subst hv;subst hw;exact O8 pins s σ H _ _ v' u' Q I rx ry ⟨_,_,rfl,rfl,q⟩
 |ge=>obtain⟨i,j,rfl,rfl⟩:=jY (.inr (.inr (.inr rfl))) e;cases e;rw[VR]at hv;rw[VR]at hw;subst hv;subst hw;exact O9 pins s σ H _ _ v' u' Q I rx ry ⟨_,_,rfl,rfl,q⟩
 |isn=>
  have e:JZ v w=some b:=e;cases w<;>first|(cases e;done)|skip
  ·cases e;rw[VR]at hw;subst hw;refine K7 pins s σ H x _ v' u' Q I rx ry ⟨rfl,?_⟩;rw[zL hv];exact q
 |ntn=>
  have e:(JZ v w).map (!·)=some b:=e;cases w<;>first|(cases e;done)|skip
  ·cases e;rw[VR]at hw;subst hw;refine GW pins s σ H x _ v' u' Q I rx ry ⟨rfl,?_⟩;rw[zL hv];exact q
 |Cr=>exact mem false (by rw[Zi Y9];exact e)
 |nin=>have e':(vO h v w).map (!·)=some b:=e;obtain⟨c,e3,rfl⟩:=ZL.mp e';exact mem true (by rw[e3];simp)
theorem LG{b:Bool}(r:HR B ρ h H)(q:VR B.K ρ H v x)(e:gZ h v=some b):K8 B.K x H b:=by
 cases v<;>first|(cases e;done)|skip
 rw[VR]at q;subst q;exact(ZI e).symm
def TZ(B:Bd):R2:=λx y H Q=>∃ρ h v w z,HR B ρ h H/\VR B.K ρ H v x/\VR B.K ρ H w y/\jm h v w=some z/\∀u,VR B.K ρ H z u->Q u H
theorem LH(hu:X.A.units+64<cLine):Pf X (TZ (bd X cl)):=by
 intro value slice pins s σ H x y v' u' Q I rx ry hh hs;obtain⟨ρ,h,v,w,z,r,hv,hw,e,q⟩:=hh;cases v with
 |tup vs=>
  cases w<;>first|cases e|skip
  rename_i i;rw[VR]at hv;rw[VR]at hw;subst hw;obtain⟨a,xs,rfl,q1,q2⟩:=hv;obtain⟨t,e2,q3⟩:=aE.ji q2 e;exact Li value slice pins s σ H _ _ v' u' Q I rx ry ⟨a,xs,i,t,rfl,rfl,q1,e2,q _ q3⟩ hs
 |rl vs=>
  cases w<;>first|cases e|skip
  rename_i i;rw[VR]at hv;rw[VR]at hw;subst hw;obtain⟨a,xs,rfl,q1,q2⟩:=hv;obtain⟨t,e2,q3⟩:=aE.ji q2 e;exact zv value slice pins s σ H _ _ v' u' Q I rx ry ⟨a,xs,i,t,rfl,rfl,q1.sq,e2,q _ q3⟩ hs
 |ref j=>
  cases w with
  |int i=>
   change (match h[j]? with|some (.dct kvs)=>cT kvs (.inl i)|_=>(aD h (.ref j)).bind λxs=>ji xs i)=some z at e;split at e
   ·rename_i kvs e1;rw[VR]at hv;obtain⟨a,rfl,q1⟩:=hv;obtain⟨ks,k1,k2⟩:=r.ob j _ a e1 q1;obtain⟨t,e2,q3⟩:=(iw.val (.inl i) k2).2 z e;have g:rq H a (kV (.inl i)) (jj ks (.inl i)):=rq.k k1;rw[e2]at g;rw[VR]at hw;subst hw;exact HP hu value slice pins s σ H _ _ v' u' Q I rx ry ⟨a,t,rfl,g,q _ q3⟩ hs
   ·obtain⟨vs,e1,e⟩:=Za.mp e;obtain⟨a,xs,rfl,q1,q2⟩:=f7 r hv e1;rw[VR]at hw;subst hw;obtain⟨t,e2,q3⟩:=aE.ji q2 e;exact zv value slice pins s σ H _ _ v' u' Q I rx ry ⟨a,xs,i,t,rfl,rfl,q1,e2,q _ q3⟩ hs
  |_=>cases e
 |dc _ _=>rw[VR]at hv;exact hv.elim
 |_=>cases w<;>cases e
def W5(B:Bd)(EX:Nat->List V->Hp->Prop):V->Option Int->Option Int->Hp->VK->Prop:=λx lo hi H Q=>∃ρ h v,HR B ρ h H/\VR B.K ρ H v x/\Post B EX ρ H (WV B.K Q) (rG v lo hi h)
theorem LI:Sg X (W5 (bd X cl) EX):=by
 intro pins s σ H x v' vl vu lo hi sl Q I rx hs pl pu hh;obtain⟨ρ,h,v,r,hv,p⟩:=hh;have lists:Post (bd X cl) EX ρ H (WV X.K Q) (bnd (ask λh=>aD h v) (λxs=>new (.lst (cU xs lo hi))) h)->∃T id,typeLookup (.type T) "__getitem__" = pure (some (.builtin id))/\s.TypeIs v' T/\wpAny (model X.prog X.w) X.A (getItem v' (.ref sl)) (EP X pins σ Q) X.xe s:=by intro p;obtain⟨a,e1,p⟩:=aI p;obtain⟨a1,TY,rfl,k1,k2⟩:=f7 r hv e1;exact Ho pins s σ H _ v' vl vu lo hi sl Q I rx hs pl pu ⟨a1,TY,rfl,k1,λq hq=>dO r hq (aE.cut lo hi k2) p⟩
 cases v with
 |tup vs=>simp only[rG]at p;rw[VR]at hv;obtain⟨a,xs,rfl,q1,q2⟩:=hv;obtain⟨e,p⟩:=aX p;refine Lg pins s σ H _ v' vl vu lo hi sl Q I rx hs pl pu ⟨a,xs,rfl,q1,?_,λq hq=>vX r hq (aE.cut lo hi q2) p⟩;rw[<-q2.length];simp only[not_eq_true',Bool.and_eq_false_iff,decide_eq_false_iff_not]at e;rintro⟨z1,z2⟩;exact e.elim (λk=>k z1) λk=>k z2
 |_=>exact lists p
end
end Hv
end
section
set_option backward.match.sparseCases false
namespace Hv
open PySem L2 PyProof.Rows
section
variable {X:Cx} {cl:Nat->Addr} {EX:Nat->List V->Hp->Prop}
def GC(B:Bd)(EX:Nat->List V->Hp->Prop)(b:Bl):List V->Hp->VK->Prop:=λxs H Q=>∃ρ h vs,HR B ρ h H/\aE B.K ρ H vs xs/\Post B EX ρ H (WV B.K Q) (blt b vs h)
theorem LJ:cL X (.builtin "len") (GC (bd X cl) EX .len):=by
 intro pins s σ H xs us Q I rr hh;obtain⟨ρ,h,vs,r,hv,p⟩:=hh
 match vs,p with
 |[v],p=>
  obtain⟨n,e,p⟩:=aI p;obtain⟨x,rfl,hx⟩:=aE.one hv;have fin:=aj r p _ VR.int;cases v with
  |tup vs=>simp only[nq]at e;cases e;rw[VR]at hx;obtain⟨a,ys,rfl,q1,q2⟩:=hx;refine L2.pM pins s σ H _ us Q I rr ⟨_,ys.length,rfl,.inr ⟨ys,q1,rfl⟩,?_⟩;rw[<-q2.length];exact fin
  |rl vs=>simp only[nq]at e;cases e;rw[VR]at hx;obtain⟨a,ys,rfl,q1,q2⟩:=hx;refine L2.pM pins s σ H _ us Q I rr ⟨_,ys.length,rfl,.inl ⟨ys,q1.sq,rfl⟩,?_⟩;rw[<-q2.length];exact fin
  |dc _ _=>rw[VR]at hx;exact hx.elim
  |ob _ _ _=>rw[VR]at hx;exact hx.elim
  |ref i=>
   rw[VR]at hx;obtain⟨a,rfl,q1⟩:=hx;simp only[nq]at e;split at e
   ·rename_i vs e1;cases e;obtain⟨ys,k1,k2⟩:=r.ob i _ a e1 q1;refine L2.pM pins s σ H _ us Q I rr ⟨_,ys.length,rfl,.inl ⟨ys,.inl (.inl k1),rfl⟩,?_⟩;rw[<-k2.length];exact fin
   ·rename_i vs e1;cases e;obtain⟨ks,k1,k2⟩:=r.ob i _ a e1 q1;refine Bm pins s σ H _ us Q I rr ⟨a,ks,rfl,k1,?_⟩;rw[<-k2.length];exact fin
   ·cases e
  |_=>simp only[nq]at e;cases e
theorem LK(hc:X.calm=true):cL X (.builtin "min") (GC (bd X cl) EX .min):=by
 intro pins s σ H xs us Q I rr hh;obtain⟨ρ,h,vs,r,hv,p⟩:=hh;have seq:∀v,vs=[v]->Post (bd X cl) EX ρ H (WV X.K Q) (bnd (ask λh=>cM h v) (λxs=>bx ((bz xs).bind ur)) h)->wpAny (model X.prog X.w) X.A (call (.builtin "min") us) (EP X pins σ Q) X.xe s:=by
  rintro v rfl p;obtain⟨zs,e,p⟩:=aI p;obtain⟨x,rfl,hx⟩:=aE.one hv;obtain⟨a,ys,rfl,q1,q2⟩:=yJ r hx e;obtain⟨m,e1,p⟩:=cG r p;obtain⟨ns,e2,e3⟩:=Za.mp e1;rw[fj e2]at q2;rw[aE.ints.mp q2]at q1;have hne:0<ns.length:=by cases ns with|nil=>cases e3|cons _ _=>simp
  refine uh hc pins s σ H _ us Q I rr ⟨a,ns,rfl,q1,hne,λm hm hmin=>?_⟩;rw[BB hm hmin]at e3;cases e3;exact p _ VR.int
 match vs,p with
 |[.int a,.int b],p=>obtain⟨x,y,rfl,hx,hy⟩:=aE.two hv;rw[VR]at hx;rw[VR]at hy;subst hx;subst hy;exact A9 hc pins s σ H _ us Q I rr ⟨a,b,rfl,aj r p _ VR.int⟩
 |[v],p=>exact seq v rfl (by cases v<;>exact p)
theorem LL(hc:X.calm=true):cL X (.builtin "max") (GC (bd X cl) EX .max):=by
 intro pins s σ H xs us Q I rr hh;obtain⟨ρ,h,vs,r,hv,p⟩:=hh;have seq:∀v,vs=[v]->Post (bd X cl) EX ρ H (WV X.K Q) (bnd (ask λh=>cM h v) (λxs=>bx ((bz xs).bind uu)) h)->wpAny (model X.prog X.w) X.A (call (.builtin "max") us) (EP X pins σ Q) X.xe s:=by
  rintro v rfl p;obtain⟨zs,e,p⟩:=aI p;obtain⟨x,rfl,hx⟩:=aE.one hv;obtain⟨a,ys,rfl,q1,q2⟩:=yJ r hx e;obtain⟨m,e1,p⟩:=cG r p;obtain⟨ns,e2,e3⟩:=Za.mp e1;rw[fj e2]at q2;rw[aE.ints.mp q2]at q1;have hne:0<ns.length:=by cases ns with|nil=>cases e3|cons _ _=>simp
  refine um hc pins s σ H _ us Q I rr ⟨a,ns,rfl,q1,hne,λm hm hmin=>?_⟩;rw[BC hm hmin]at e3;cases e3;exact p _ VR.int
 match vs,p with
 |[.int a,.int b],p=>obtain⟨x,y,rfl,hx,hy⟩:=aE.two hv;rw[VR]at hx;rw[VR]at hy;subst hx;subst hy;exact AZ hc pins s σ H _ us Q I rr ⟨a,b,rfl,aj r p _ VR.int⟩
 |[v],p=>exact seq v rfl (by cases v<;>exact p)
theorem BD:cL X (.builtin "sorted") (GC (bd X cl) EX .sorted):=by
 intro pins s σ H xs us Q I rr hh;obtain⟨ρ,h,vs,r,hv,p⟩:=hh
 match vs,p with
 |[v],p=>
  obtain⟨zs,e,p⟩:=aI p;obtain⟨out,e1,p⟩:=cD p;obtain⟨x,rfl,hx⟩:=aE.one hv;obtain⟨a,ys,rfl,q1,q2⟩:=f7 r hx e;unfold gC at e1;split at e1
  ·rename_i h64
   cases e2:bz zs with
   |some ns=>rw[e2]at e1;cases e1;rw[fj e2]at q2 h64;rw[aE.ints.mp q2]at q1;rw[Ze]at h64;exact nh pins s σ H _ us Q I rr ⟨a,ns,rfl,q1,h64,λl hl=>dO r hl (aE.ints.mpr rfl) p⟩
   |none=>rw[e2]at e1;obtain⟨o6,e3,e4⟩:=Za.mp e1;cases e4;obtain⟨g1,g2⟩:=sP e3;rw[g1]at q2 h64;obtain⟨rs,r1,r2,r3⟩:=aE.tups q2;rw[r1]at q1;rw[Ze,r2,Ze]at h64;refine ni pins s σ H _ us Q I rr ⟨a,rs,rfl,q1,h64,λp hp=>⟨r3 p hp,g2 _ (by rw[r2];exact mem_map_of_mem hp)⟩,λl qs hl hp hs=>?_⟩;have e4:qs.map (·.2)=mj o6:=Du (by rw[r2];exact hp.map _) (pairwise_map.mpr hs);rw[<-e4]at p;exact dO r hl (aE.zG λz hz=>r3 z (hp.mem_iff.mp hz)) p
  ·cases e1
theorem HQ:cL X (.type "list") (GC (bd X cl) EX .list):=by
 intro pins s σ H xs us Q I rr hh;obtain⟨ρ,h,vs,r,hv,p⟩:=hh
 match vs,p with
 |[v],p=>obtain⟨zs,e,p⟩:=aI p;obtain⟨x,rfl,hx⟩:=aE.one hv;obtain⟨a,ys,rfl,q1,q2⟩:=yJ r hx e;exact ua pins s σ H _ us Q I rr ⟨a,ys,rfl,q1,λl hl=>dO r hl q2 p⟩
theorem DA:cL X (.type "tuple") (GC (bd X cl) EX .tuple):=by
 intro pins s σ H xs us Q I rr hh;obtain⟨ρ,h,vs,r,hv,p⟩:=hh;exact(show False from p).elim
theorem LM:cL X (.type "str") (GC (bd X cl) EX .str):=by
 intro pins s σ H xs us Q I rr hh;obtain⟨ρ,h,vs,r,hv,p⟩:=hh;exact(show False from p).elim
theorem LN:cL X (.type "int") (GC (bd X cl) EX .int):=by
 intro pins s σ H xs us Q I rr hh;obtain⟨ρ,h,vs,r,hv,p⟩:=hh
 match vs,p with
 |[.int i],p=>obtain⟨x,rfl,hx⟩:=aE.one hv;rw[VR]at hx;subst hx;exact rR pins s σ H _ us Q I rr (.inl ⟨i,rfl,aj r p _ VR.int⟩)
 |[.bl i],p=>obtain⟨x,rfl,hx⟩:=aE.one hv;rw[VR]at hx;subst hx;exact rR pins s σ H _ us Q I rr (.inr ⟨i,rfl,aj r p _ VR.int⟩)
theorem LO(hc:X.calm=true):cL X (.builtin "all") (GC (bd X cl) EX .all):=by
 intro pins s σ H xs us Q I rr hh;obtain⟨ρ,h,vs,r,hv,p⟩:=hh
 match vs,p with
 |[v],p=>obtain⟨zs,e,p⟩:=aI p;obtain⟨bs,e1,p⟩:=cD p;obtain⟨x,rfl,hx⟩:=aE.one hv;obtain⟨a,ys,rfl,q1,q2⟩:=f7 r hx e;rw[qh e1]at q2;rw[aE.bools.mp q2]at q1;exact rD hc pins s σ H _ us Q I rr ⟨a,bs,rfl,q1,aj r p _ VR.bl⟩
theorem LP(hc:X.calm=true):cL X (.builtin "any") (GC (bd X cl) EX .any):=by
 intro pins s σ H xs us Q I rr hh;obtain⟨ρ,h,vs,r,hv,p⟩:=hh;exact(show False from p).elim
def W6(B:Bd)(EX:Nat->List V->Hp->Prop)(T:String):List V->Hp->VK->Prop:=λxs H Q=>∃ρ h v x,xs=[x,.ty T]/\HR B ρ h H/\VR B.K ρ H v x/\Post B EX ρ H (WV B.K Q) (blt (.isin T) [v] h)
theorem HS(K:Frag)(t T:String)(ht:t∈["NoneType","bool","int","str","list","tuple","dict"])(hT:T∈["list","tuple","str","bool","int","dict"]) :
  kitOne K (.type t) (.type T)=some (decide (T=t\/(T = "int" /\ t = "bool"))):=by
 simp only[mem_cons,not_mem_nil,or_false]at ht hT
 rcases ht with rfl|rfl|rfl|rfl|rfl|rfl|rfl<;>rcases hT with rfl|rfl|rfl|rfl|rfl|rfl<;>rfl
theorem HU{T:String}:cL X (.builtin "isinstance") (W6 (bd X cl) EX T):=by
 intro pins s σ H xs us Q I rr hh;obtain⟨ρ,h,v,x,rfl,r,hx,p⟩:=hh;obtain⟨u,w',rfl,r1,r2⟩:=vals2 rr;cases r2;obtain⟨t,e,p⟩:=aI p;obtain⟨b,e1,p⟩:=cD p;have q:=aj r p _ VR.bl;unfold vR at e1;split at e1
 ·rename_i W7
  have hT:T∈["list","tuple","str","bool","int","dict"]:=by simpa using W7
  cases e1;have fin:∀tk,EP X pins σ Q (.bool (decide (T=t\/(T = "int" /\ t = "bool")))) { s with toks:=tk }:=λtk=>⟨.bl _,H,I.tok _,rfl,q⟩;have tab:=λht=>HS X.K t T ht hT;cases v with
  |non=>rw[VR]at hx;subst hx;cases r1;simp only[vQ]at e;cases e;exact kia_one PySem.W.kitx_none I.oX True.intro (tab (by simp)) (λz=>nomatch z) fin
  |bl c=>rw[VR]at hx;subst hx;cases r1;simp only[vQ]at e;cases e;exact kia_one PySem.W.kitx_bool I.oX True.intro (tab (by simp)) (λz=>nomatch z) fin
  |int i=>rw[VR]at hx;subst hx;obtain⟨t',rfl⟩:=r1;simp only[vQ]at e;cases e;exact kia_one PySem.W.kitx_int I.oX True.intro (tab (by simp)) (λz=>nomatch z) fin
  |str i=>rw[VR]at hx;subst hx;obtain⟨t',rfl⟩:=r1;simp only[vQ]at e;cases e;exact kia_one PySem.W.kitx_str I.oX True.intro (tab (by simp)) (λz=>nomatch z) fin
  |tup vs=>rw[VR]at hx;obtain⟨a,ys,rfl,q1,_⟩:=hx;cases r1;simp only[vQ]at e;cases e;obtain⟨_,_,⟨o,e1,e2,_⟩,_⟩:=I.tuple q1;exact kia_one PySem.W.kitx_tuple I.oX ⟨o,e1,e2⟩ (tab (by simp)) (λz=>nomatch z) fin
  |rl vs=>rw[VR]at hx;obtain⟨a,ys,rfl,q1,_⟩:=hx;cases r1;simp only[vQ]at e;cases e;obtain⟨_,_,⟨o,n,e1,e2,_⟩,_⟩:=I.list q1.sq;exact kia_one kitx_list I.oX ⟨o,e1,e2⟩ (tab (by simp)) (λz=>nomatch z) fin
  |dc _ _=>rw[VR]at hx;exact hx.elim
  |ob _ _ _=>rw[VR]at hx;exact hx.elim
  |ref i=>
   rw[VR]at hx;obtain⟨a,rfl,q1⟩:=hx;cases r1;simp only[vQ]at e;split at e
   ·rename_i vs e1;cases e;obtain⟨ys,k1,k2⟩:=r.ob i _ a e1 q1;obtain⟨_,_,⟨o,n,e1,e2,_⟩,_⟩:=I.list (xs:=ys) (.inl (.inl k1));exact kia_one kitx_list I.oX ⟨o,e1,e2⟩ (tab (by simp)) (λz=>nomatch z) fin
   ·rename_i vs e1;cases e;obtain⟨ks,k1,k2⟩:=r.ob i _ a e1 q1;obtain⟨_,_,vs,_,p⟩:=(show cu X.prog X.w H s.heap a (.dK ks) from I.hok a _ k1);obtain⟨o,es,ep,h1,h2,_⟩:=p;exact kia_one PySem.W.kitx_dict I.oX ⟨o,h1,h2.1⟩ (tab (by simp)) (λz=>nomatch z) fin
   ·cases e
 ·cases e1
def PN(B:Bd)(EX:Nat->List V->Hp->Prop)(m:Me):V->List V->Hp->VK->Prop:=λx xs H Q=>∃ρ h v vs,HR B ρ h H/\VR B.K ρ H v x/\aE B.K ρ H vs xs/\Post B EX ρ H (WV B.K Q) (met m v vs h)
theorem HV:Lh X "str.join" (PN (bd X cl) EX .join):=by
 intro pins s σ H x xs u us Q I ru rr hh;obtain⟨ρ,h,v,vs,r,hv,hvs,p⟩:=hh;exact(show False from p).elim
theorem mz{i:Nat}(r:HR B ρ h H)(hi:ρ[i]?=some a)(e:h[i]?=some u)(eU:H a=some U)(hm:Mu U=true)(q:OR B ρ (upd H a O) a o)
  (p:Post B EX ρ H (WV B.K Q) (bnd (put i o) (λ_=>ret Val.non) h)):Q .non (upd H a O) :=
 p ρ (upd H a O) (Gr.put (Zz hi) eU hm) (r.put hi e q) _ VR.non
theorem BE:Lh X "list.append" (PN (bd X cl) EX .append):=by
 intro pins s σ H x xs v' us Q I rx rv hh;obtain⟨ρ,h,v,vs,r,hv,hvs,p⟩:=hh
 match v,vs,p with
 |.ref i,[w],p=>
  obtain⟨zs,e,p⟩:=aI p;split at e
  ·rename_i zs' e1;cases e;obtain⟨e2,p⟩:=aX p;obtain⟨a,ys,rfl,q0,q1,q2⟩:=mw r hv e1;obtain⟨y,rfl,hy⟩:=aE.one hvs;refine rY pins s σ H _ _ v' us Q I rx rv ⟨a,ys,y,rfl,rfl,q1,by rw[<-q2.length];exact Zv e2,?_⟩;have g:Gr ρ H ρ (upd H a (.lst (ys++[y]))):=Gr.put (Zz q0) q1 rfl;exact mz (o:=.lst (zs++[w])) r q0 e1 q1 rfl ⟨_,bg,aE.append (aE.up g _ _ q2) (aE.up g _ _ (aE.cons hy aE.nil))⟩ p
  ·cases e
theorem BF:Lh X "list.extend" (PN (bd X cl) EX .extend):=by
 intro pins s σ H x xs v' us Q I rx rv hh;obtain⟨ρ,h,v,vs,r,hv,hvs,p⟩:=hh
 match v,vs,p with
 |.ref i,[w],p=>
  obtain⟨zs,e,p⟩:=aI p;split at e
  ·rename_i zs' e1;cases e
   obtain⟨ws,e3,p⟩:=aI p;obtain⟨e2,p⟩:=aX p;have e2:=Zv e2;obtain⟨a,ys,rfl,q0,q1,q2⟩:=mw r hv e1;obtain⟨y,rfl,hy⟩:=aE.one hvs;have fin:∀(bs:List V),aE X.K ρ H ws bs->Q .non (upd H a (.lst (ys++bs))):=λbs hb=>by
    have g:Gr ρ H ρ (upd H a (.lst (ys++bs))):=Gr.put (Zz q0) q1 rfl;exact mz (o:=.lst (zs++ws)) r q0 e1 q1 rfl ⟨_,bg,aE.append (aE.up g _ _ q2) (aE.up g _ _ hb)⟩ p
   cases w with
   |tup ts=>simp only[zB]at e3;cases e3;rw[VR]at hy;obtain⟨b,bs,rfl,k1,k2⟩:=hy;exact yy pins s σ H _ _ v' us Q I rx rv ⟨a,b,ys,bs,rfl,rfl,q1,k1,by rw[<-q2.length,<-k2.length];exact e2,fin bs k2⟩
   |_=>simp only[zB]at e3;cases e3
  ·cases e
theorem aE.era{K:Frag}{ρ:List Addr}{H:Hp}:∀{vs:List Val} {xs:List V} (n:Nat),aE K ρ H vs xs->aE K ρ H (vs.eraseIdx n) (xs.eraseIdx n)
 |[],_,n,e=>by rw[aE]at e;subst e;exact aE.nil
 | _::_,_,n,e=>by
  rw[aE]at e;obtain⟨x,r,rfl,e1,e2⟩:=e;cases n with
  |zero=>exact e2
  |succ n=>exact aE.cons e1 (aE.era n e2)
theorem BG:Lh X "list.remove" (PN (bd X cl) EX .remove):=by
 intro pins s σ H x xs v' us Q I rx rv hh;obtain⟨ρ,h,v,vs,r,hv,hvs,p⟩:=hh
 match v,vs,p with
 |.ref i,[.int k],p=>
  obtain⟨zs,e,p⟩:=aI p;split at e
  ·rename_i zs' e1;cases e;obtain⟨ks,e3,p⟩:=cD p;obtain⟨e2,p⟩:=aX p;have e3:=fj e3;subst e3;obtain⟨a,ys,rfl,q0,q1,q2⟩:=mw r hv e1;have hys:=aE.ints.mp q2;subst hys;obtain⟨y,rfl,hy⟩:=aE.one hvs;rw[VR]at hy;subst hy;refine By pins s σ H _ _ v' us Q I rx rv ⟨a,ks,k,rfl,rfl,q1,Zv e2,?_⟩;have g:Gr ρ H ρ (upd H a (.lst ((ks.map V.int).eraseIdx (ks.idxOf k)))):=Gr.put (Zz q0) q1 rfl;exact mz (o:=.lst ((ks.map Val.int).eraseIdx (ks.idxOf k))) r q0 e1 q1 rfl ⟨_,bg,aE.era _ (aE.up g _ _ q2)⟩ p
  ·cases e
end
def qj(f:Str->Pos->Bool):Expr->Bool
 |.Name a b=>f a b
 |_=>false
theorem o8{f:Str->Pos->Bool}{P:Expr->Prop}{e:Expr}(h:qj f e=true)(H:∀a b,f a b=true->P (.Name a b)):P e:=by
 cases e<;>first|exact H _ _ h|exact(Y9 h).elim
def yK(f:Const->Nat->Pos->Bool):Expr->Bool
 |.Constant a b c=>f a b c
 |_=>false
theorem vZ{f:Const->Nat->Pos->Bool}{P:Expr->Prop}{e:Expr}(h:yK f e=true)(H:∀a b c,f a b c=true->P (.Constant a b c)):P e:=by
 cases e<;>first|exact H _ _ _ h|exact(Y9 h).elim
def PR(f:Expr->Operator->Expr->Pos->Bool):Expr->Bool
 |.BinOp a b c d=>f a b c d
 |_=>false
theorem LQ{f:Expr->Operator->Expr->Pos->Bool}{P:Expr->Prop}{e:Expr}(h:PR f e=true)(H:∀a b c d,f a b c d=true->P (.BinOp a b c d)):P e:=by
 cases e<;>first|exact H _ _ _ _ h|exact(Y9 h).elim
def T4(f:UnaryOp->Expr->Pos->Bool):Expr->Bool
 |.UnaryOp a b c=>f a b c
 |_=>false
theorem J2{f:UnaryOp->Expr->Pos->Bool}{P:Expr->Prop}{e:Expr}(h:T4 f e=true)(H:∀a b c,f a b c=true->P (.UnaryOp a b c)):P e:=by
 cases e<;>first|exact H _ _ _ h|exact(Y9 h).elim
def PU(f:Expr->List CmpOp->List Expr->Pos->Bool):Expr->Bool
 |.Compare a b c d=>f a b c d
 |_=>false
theorem LR{f:Expr->List CmpOp->List Expr->Pos->Bool}{P:Expr->Prop}{e:Expr}(h:PU f e=true)(H:∀a b c d,f a b c d=true->P (.Compare a b c d)):P e:=by
 cases e<;>first|exact H _ _ _ _ h|exact(Y9 h).elim
def uv(f:BoolOp->List Expr->Pos->Bool):Expr->Bool
 |.BoolOp a b c=>f a b c
 |_=>false
theorem sQ{f:BoolOp->List Expr->Pos->Bool}{P:Expr->Prop}{e:Expr}(h:uv f e=true)(H:∀a b c,f a b c=true->P (.BoolOp a b c)):P e:=by
 cases e<;>first|exact H _ _ _ h|exact(Y9 h).elim
def PV(f:List Expr->Nat->Pos->Bool):Expr->Bool
 |.Tuple a b c=>f a b c
 |_=>false
theorem LS{f:List Expr->Nat->Pos->Bool}{P:Expr->Prop}{e:Expr}(h:PV f e=true)(H:∀a b c,f a b c=true->P (.Tuple a b c)):P e:=by
 cases e<;>first|exact H _ _ _ h|exact(Y9 h).elim
def PX(f:List Expr->Pos->Bool):Expr->Bool
 |.List a b=>f a b
 |_=>false
theorem LU{f:List Expr->Pos->Bool}{P:Expr->Prop}{e:Expr}(h:PX f e=true)(H:∀a b,f a b=true->P (.List a b)):P e:=by
 cases e<;>first|exact H _ _ h|exact(Y9 h).elim
def HW(f:Expr->Expr->Pos->Bool):Expr->Bool
 |.Subscript a b c=>f a b c
 |_=>false
theorem yL{f:Expr->Expr->Pos->Bool}{P:Expr->Prop}{e:Expr}(h:HW f e=true)(H:∀a b c,f a b c=true->P (.Subscript a b c)):P e:=by
 cases e<;>first|exact H _ _ _ h|exact(Y9 h).elim
def PY(f:Option Expr->Option Expr->Option Expr->Pos->Bool):Expr->Bool
 |.Slice a b c d=>f a b c d
 |_=>false
theorem LV{f:Option Expr->Option Expr->Option Expr->Pos->Bool}{P:Expr->Prop}{e:Expr}(h:PY f e=true)(H:∀a b c d,f a b c d=true->P (.Slice a b c d)):P e:=by
 cases e<;>first|exact H _ _ _ _ h|exact(Y9 h).elim
def DC(f:Expr->List Expr->List Keyword->Pos->Bool):Expr->Bool
 |.Call a b c d=>f a b c d
 |_=>false
theorem zM{f:Expr->List Expr->List Keyword->Pos->Bool}{P:Expr->Prop}{e:Expr}(h:DC f e=true)(H:∀a b c d,f a b c d=true->P (.Call a b c d)):P e:=by
 cases e<;>first|exact H _ _ _ _ h|exact(Y9 h).elim
def zN(f:Expr->Str->Pos->Bool):Expr->Bool
 |.Attribute a b c=>f a b c
 |_=>false
theorem uw{f:Expr->Str->Pos->Bool}{P:Expr->Prop}{e:Expr}(h:zN f e=true)(H:∀a b c,f a b c=true->P (.Attribute a b c)):P e:=by
 cases e<;>first|exact H _ _ _ h|exact(Y9 h).elim
def J3(f:Expr->List Comprehension->Scope->Pos->Bool):Expr->Bool
 |.ListComp a b c d=>f a b c d
 |_=>false
theorem HX{f:Expr->List Comprehension->Scope->Pos->Bool}{P:Expr->Prop}{e:Expr}(h:J3 f e=true)(H:∀a b c d,f a b c d=true->P (.ListComp a b c d)):P e:=by
 cases e<;>first|exact H _ _ _ _ h|exact(Y9 h).elim
def DE(f:List (Option Expr)->List Expr->Pos->Bool):Expr->Bool
 |.Dict a b c=>f a b c
 |_=>false
theorem zO{f:List (Option Expr)->List Expr->Pos->Bool}{P:Expr->Prop}{e:Expr}(h:DE f e=true)(H:∀a b c,f a b c=true->P (.Dict a b c)):P e:=by
 cases e<;>first|exact H _ _ _ h|exact(Y9 h).elim
section
variable {α:Type} {f:α -> Bool} {g:α -> List α -> Bool} {P:List α -> Prop} {Q:Option α -> Prop} {l:List α} {b:Bool} {o:Option α}
def rH(l:List α)(b:Bool):Bool:=l.isEmpty&&b
theorem lG(h:rH l b=true)(H:b=true->P []):P l:=by
 cases l with
 |nil=>exact H h
 |cons _ _=>cases h
def kC(f:α -> List α -> Bool):List α -> Bool
 |a::r=>f a r
 |[]=>false
theorem yM(h:kC g l=true)(H:∀a r,g a r=true->P (a::r)):P l:=by
 cases l with
 |nil=>cases h
 |cons a r=>exact H a r h
def k1(f:α -> Bool):List α -> Bool:=kC λa r=>rH r (f a)
theorem oN(h:k1 f l=true)(H:∀a,f a=true->P [a]):P l:=by
 apply yM h;intro a r h;apply lG h;intro h;exact H a h
def k2(f:α -> α -> Bool):List α -> Bool:=kC λa r=>k1 (f a) r
theorem PZ{f:α -> α -> Bool}(h:k2 f l=true)(H:∀a b,f a b=true->P [a,b]):P l:=by
 apply yM h;intro a r h;apply oN h;intro b h;exact H a b h
def DF(l:Option α)(b:Bool):Bool:=l.isNone&&b
theorem zP(h:DF o b=true)(H:b=true->Q none):Q o:=by
 cases o with
 |none=>exact H h
 |some _=>cases h
def DG(f:α -> Bool)(l:Option α):Bool:=l.any f
theorem zQ(h:DG f o=true)(H:∀a,f a=true->Q (some a)):Q o:=by
 cases o with
 |none=>cases h
 |some a=>exact H a h
def LW[DecidableEq α](a b:α)(c:Bool):Bool:=decide (a=b)&&c
theorem v7[DecidableEq α]{P:α -> Prop}{a d:α}(h:LW a d b=true)(H:b=true->P d):P a:=by
 rw[LW,and_eq_true,decide_eq_true_eq]at h;rw[h.1];exact H h.2
end
def GD(f:Str->Pos->List Expr->Pos->Bool):Expr->Bool:=DC λg l k p=>qj (λx q=>rH k (f x q l p)) g
theorem nY{f:Str->Pos->List Expr->Pos->Bool}{P:Expr->Prop}{e:Expr}(h:GD f e=true)(H:∀x q l p,f x q l p=true->P (.Call (.Name x q) l [] p)):P e:=by
 apply zM h;intro g l k p h;apply o8 h;intro x q h;apply lG h;intro h;exact H x q l p h
def Ol(f:Expr->Str->Pos->List Expr->Pos->Bool):Expr->Bool:=DC λg l k p=>zN (λo x q=>rH k (f o x q l p)) g
theorem zR{f:Expr->Str->Pos->List Expr->Pos->Bool}{P:Expr->Prop}{e:Expr}(h:Ol f e=true)(H:∀o x q l p,f o x q l p=true->P (.Call (.Attribute o x q) l [] p)):P e:=by
 apply zM h;intro g l k p h;apply uw h;intro o x q h;apply lG h;intro h;exact H o x q l p h
def P0(f:Expr->Expr->List Expr->Int->Bool)(c:Comprehension):Bool:=f c.target c.iter c.ifs c.is_async
theorem LX{f:Expr->Expr->List Expr->Int->Bool}{P:Comprehension->Prop}{c:Comprehension}(h:P0 f c=true)(H:∀a b d i,f a b d i=true->P ⟨a,b,d,i⟩):P c:=by
 cases c;exact H _ _ _ _ h
def P1(f:Str->Bool):Const->Bool
 |.str s=>f s
 |_=>false
theorem LY{f:Str->Bool}{P:Const->Prop}{e:Const}(h:P1 f e=true)(H:∀s,f s=true->P (.str s)):P e:=by
 cases e<;>first|exact H _ h|exact(Y9 h).elim
theorem W8{a b:Bool}(h:(a||b)=true):a=true\/b=true:=by
 cases a with
 |true=>exact .inl rfl
 |false=>exact .inr h
def DH(f:Expr->Pos->Bool):Stmt->Bool
 |.Expr a b=>f a b
 |_=>false
theorem zS{f:Expr->Pos->Bool}{P:Stmt->Prop}{e:Stmt}(h:DH f e=true)(H:∀a b,f a b=true->P (.Expr a b)):P e:=by
 cases e<;>first|exact H _ _ h|exact(Y9 h).elim
def HY(f:List Expr->Expr->Pos->Bool):Stmt->Bool
 |.Assign a b c=>f a b c
 |_=>false
theorem yN{f:List Expr->Expr->Pos->Bool}{P:Stmt->Prop}{e:Stmt}(h:HY f e=true)(H:∀a b c,f a b c=true->P (.Assign a b c)):P e:=by
 cases e<;>first|exact H _ _ _ h|exact(Y9 h).elim
def T5(f:Expr->Operator->Expr->Pos->Bool):Stmt->Bool
 |.AugAssign a b c d=>f a b c d
 |_=>false
def Vk(f:Expr->List Stmt->List Stmt->Pos->Bool):Stmt->Bool
 |.If a b c d=>f a b c d
 |_=>false
theorem P4{f:Expr->List Stmt->List Stmt->Pos->Bool}{P:Stmt->Prop}{e:Stmt}(h:Vk f e=true)(H:∀a b c d,f a b c d=true->P (.If a b c d)):P e:=by
 cases e<;>first|exact H _ _ _ _ h|exact(Y9 h).elim
def P5(f:Expr->Expr->List Stmt->List Stmt->Pos->Bool):Stmt->Bool
 |.For a b c d i=>f a b c d i
 |_=>false
theorem LZ{f:Expr->Expr->List Stmt->List Stmt->Pos->Bool}{P:Stmt->Prop}{e:Stmt}(h:P5 f e=true)(H:∀a b c d i,f a b c d i=true->P (.For a b c d i)):P e:=by
 cases e<;>first|exact H _ _ _ _ _ h|exact(Y9 h).elim
def L0(f:Expr->List Stmt->List Stmt->Pos->Bool):Stmt->Bool
 |.While a b c d=>f a b c d
 |_=>false
def L1(f:Option Expr->Pos->Bool):Stmt->Bool
 |.Return a b=>f a b
 |_=>false
theorem DI{f:Option Expr->Pos->Bool}{P:Stmt->Prop}{e:Stmt}(h:L1 f e=true)(H:∀a b,f a b=true->P (.Return a b)):P e:=by
 cases e<;>first|exact H _ _ h|exact(Y9 h).elim
def P6(f:Pos->Bool):Stmt->Bool
 |.Break a=>f a
 |_=>false
theorem L3{f:Pos->Bool}{P:Stmt->Prop}{e:Stmt}(h:P6 f e=true)(H:∀a,f a=true->P (.Break a)):P e:=by
 cases e<;>first|exact H _ h|exact(Y9 h).elim
def P7(f:Pos->Bool):Stmt->Bool
 |.Continue a=>f a
 |_=>false
theorem L4{f:Pos->Bool}{P:Stmt->Prop}{e:Stmt}(h:P7 f e=true)(H:∀a,f a=true->P (.Continue a)):P e:=by
 cases e<;>first|exact H _ h|exact(Y9 h).elim
def J4(f:Pos->Bool):Stmt->Bool
 |.Pass a=>f a
 |_=>false
theorem HZ{f:Pos->Bool}{P:Stmt->Prop}{e:Stmt}(h:J4 f e=true)(H:∀a,f a=true->P (.Pass a)):P e:=by
 cases e<;>first|exact H _ h|exact(Y9 h).elim
end Hv
end
section
namespace Hv
open PySem L2 PyProof.Rows
structure Tb where
 nc:Nat
 Ia:List Str
 Ib:List (Nat×Str×Nat)
 L5:List (Str×Str×Nat)
 isc:List (Str×List Bool)
structure qX where
 N:List Str
 sc:Scope
 fns:List (Str×Nat)
 cons:List (Str×Val)
 tb:Tb
def L6(sc:Scope)(x:Str):Bool:=(sc.names.lookup x==some .local||sc.names.lookup x==some .cell||sc.names.lookup x==some .free) && !(x==("__debug__":Str)) && !(x==("__classdict__":Str))
def zT(sc:Scope)(x:Str):Bool:=sc.names.lookup x==some .globalImplicit && !(x==("__debug__":Str)) && !(x==("__name__":Str))
def DJ:Const->Val->Bool
 |.none,.non=>true
 |.bool a,.bl b=>a==b
 |.int a,.int b=>a==b
 |.str a,.str b=>a==b
 |_,_=>false
def L7(o:JY)(op:Operator):Bool:=decide (op=Dv o)
def P8(o:LA)(op:CmpOp):Bool:=decide (op=zK o)
def P9:Bl->Str
 |.len=>"len" | .min=>"min" | .max=>"max" | .sorted=>"sorted" | .list=>"list" | .tuple=>"tuple" | .str=>"str" | .int=>"int" | .all=>"all" | .any=>"any" | .isin _=>"isinstance"
def noStar:Expr->Bool
 |.Starred ..=>false
 |_=>true
def o9:Expr->Bool
 |.Slice ..=>false
 |_=>true
def Ic:Expr->Bool
 |.Name ..=>true|.Call ..=>true|.Subscript ..=>true|.List ..=>true|.Tuple ..=>true|.ListComp ..=>true|.Attribute ..=>true|.BinOp ..=>true
 |_=>false
def superB:Expr->Bool
 |.Call (.Name _ _) [] [] _=>false
 |_=>true
def J5(scope xsc:Scope):Scope :=
 { scope with names:=scope.names.map λ(n,k)=>if (k==.free&&xsc.kind==.function&&xsc.names.lookup n==some .cell) then (n,.cell) else (n,k) }
def qX.J6(Γ:qX)(scope:Scope)(N':List Str):qX:={ Γ with N:=N',sc:=J5 scope Γ.sc }
def BH(Γ:qX):yI->Expr->Bool
 |.one i,.Name x _=>Γ.N[i]?==some x && Γ.sc.names.lookup x==some .local
 | .tup is,.Tuple es _ _=>es.length==is.length&&(is.zip es).all λp=>match p.2 with
  |.Name x _=>Γ.N[p.1]?==some x && Γ.sc.names.lookup x==some .local
  |_=>false
 |_,_=>false
def v9:yI->List Nat
 |.one i=>[i]
 |.tup is=>is
def W9:Me->Str
 |.join=>"join" | .append=>"append" | .extend=>"extend" | .remove=>"remove"
def yO:Val->Val->Bool
 |.non,.non=>true
 |.bl a,.bl b=>a==b
 |.int a,.int b=>a==b
 |.str a,.str b=>a==b
 |_,_=>false
def L8:kM->Bool
 |.nil=>true
 |.cons ..=>false
theorem DK{b:Bool}(h:(L8 es&&b)=true):es=.nil/\b=true:=by
 cases es with
 |nil=>exact⟨rfl,h⟩
 |cons _ _=>cases h
mutual
noncomputable def bJ(Γ:qX):IE->Expr->Bool
 |.var i,e=>qj (λx _=>Γ.N[i]?==some x&&L6 Γ.sc x) e
 |.cst d,e=>yK (λc _ _=>DJ c d) e
 |.con x d,e=>qj (λy _=>x==y&&zT Γ.sc x && Γ.cons.any λp=>p.1==x&&yO p.2 d) e
 |.no,_=>false
 |.bin o a b,e=>PR (λl op r _=>L7 o op&&bJ Γ a l&&bJ Γ b r) e
 |.neg a,e=>T4 (λq1 l _=>LW q1 .USub (bJ Γ a l)) e
 |.cmp o a b,e=>PU (λl q1 q2 _=>k1 (λop=>k1 (λr=>P8 o op && !behindInMarks op r&&bJ Γ a l&&bJ Γ b r) q2) q1) e
 |.chn _ _ _ _ _,_=>false
 |.and a b,e=>uv (λq1 q2 pos=>LW q1 .And (kC (λl q3=>kC (λm r=>bJ Γ a l&&(match r with|[]=>bJ Γ b m|n::r'=>bJ Γ b (.BoolOp .And (m::n::r') pos))) q3) q2)) e
 |.or a b,e=>uv (λq1 q2 pos=>LW q1 .Or (kC (λl q3=>kC (λm r=>bJ Γ a l&&(match r with|[]=>bJ Γ b m|n::r'=>bJ Γ b (.BoolOp .Or (m::n::r') pos))) q3) q2)) e
 |.not a,e=>T4 (λq1 l _=>LW q1 .Not (bJ Γ a l)) e
 |.ite _ _ _,_=>false
 |.tup es,e=>PV (λls _ _=>aV Γ es ls) e
 |.lst es,e=>PX (λls _=>aV Γ es ls) e
 |.idx a b,e=>HW (λl r _=>o9 r&&bJ Γ a l&&bJ Γ b r) e
 |.slc a lo hi,e=>HW (λl q1 _=>PY (λl' h' q2 _=>DF q2 (bJ Γ a l&&(match l' with|none=>dm lo|some e=>!dm lo&&bJ Γ lo e)&&(match h' with|none=>dm hi|some e=>!dm hi&&bJ Γ hi e))) q1) e
 |.call j es,e=>GD (λx _ args _=>zT Γ.sc x && Γ.fns[j]?==some (x,args.length)&&decide (args.length<1000)&&aV Γ es args) e
 | .blt b es,e=>GD (λx _ args _=>zT Γ.sc x&&x==P9 b&&(match b with
   |.isin T=>(match args with|[a,.Name y _]=>zT Γ.sc y&&y==(T:Str)&&["list","tuple","str","bool","int","dict"].contains T&&aV Γ es [a]|_=>false)
   |_=>!args.isEmpty&&aV Γ es args)) e
 |.met m a es,e=>Ol (λo x ap args cp=>x==W9 m&&superB o && !args.isEmpty&&decide (args.length<29)&&ap.endLine==cp.line&&bJ Γ a o&&aV Γ es args) e
 | .comp N' js pat k it c elt,e=>J3 (λe q1 scope _=>k1 (λq2=>P0 (λtg iter ifs q3=>LW q3 0 (kJ Γ.N Γ.sc scope N' js&&zU Γ k it iter&&decide (N'.Nodup)&&BH (Γ.J6 scope N') pat tg&&((v9 pat).all λi=>js[i]?==some none)&&(match k,pat with|.enum,.one _=>false|.zip,.one _=>false|_,_=>true) &&
   (match ifs with|[]=>dm c|[t]=>!dm c&&bJ (Γ.J6 scope N') c t|_=>false)&&bJ (Γ.J6 scope N') elt e)) q2) q1) e
 |.dct0,e=>DE (λq1 q2 _=>rH q1 (rH q2 (true))) e
 |.sset a,e=>GD (λx _ q1 _=>k1 (λq2=>GD (λy _ q3 _=>k1 (λl=>x==("sorted":Str)&&y==("set":Str)&&zT Γ.sc x&&zT Γ.sc y&&noStar l&&bJ Γ a l) q3) q2) q1) e
 |.dget d k x,e=>Ol (λo m ap q1 cp=>k2 (λa b=>m==("get":Str)&&superB o&&noStar a&&noStar b&&ap.endLine==cp.line&&bJ Γ d o&&bJ Γ k a&&bJ Γ x b) q1) e
 |.dct1 k v,e=>DE (λq1 q2 _=>k1 (λq3=>DG (λa=>k1 (λb=>bJ Γ k a&&bJ Γ v b) q2) q3) q1) e
 |.lkeys d,e=>GD (λx _ q1 _=>k1 (λq2=>qj (λy q=>x==("list":Str)&&zT Γ.sc x&&bJ Γ d (.Name y q)) q2) q1) e
 |.sdef _ _ _,_=>false
 |.svals a,e=>Ol (λo m ap q cp=>rH q (m==("clear":Str)&&superB o&&ap.endLine==cp.line&&bJ Γ a o)) e
 |.skeys d,e=>GD (λx _ q1 _=>k1 (λq2=>Ol (λo m ap q3 cp=>rH q3 (x==("sorted":Str)&&m==("keys":Str)&&zT Γ.sc x&&superB o&&ap.endLine==cp.line&&bJ Γ d o)) q2) q1) e||GD (λx _ q1 _=>k1 (λq2=>qj (λy q=>x==("sorted":Str)&&zT Γ.sc x&&bJ Γ d (.Name y q)) q2) q1) e
 |.fld n a x,e=>zN (λo y _=>x==y&&superB o&&n == Γ.tb.nc && Γ.tb.Ia.contains x&&bJ Γ a o) e
 |.rev _ _,_=>false
 |.dflt _ _ _ _ _ _,_=>false
 |.isc _ _ _,_=>false
 |.mth a m js es,e=>Ol (λo x ap args cp=>x==m&&superB o&&decide (args.length<29)&&ap.endLine==cp.line&&(js.all λp=>decide (p.1 < Γ.tb.nc) && Γ.tb.Ib.contains (p.1,m,p.2)&&(match Γ.fns[p.2]? with|some (_,n)=>n==1001+args.length|none=>false))&&bJ Γ a o&&aV Γ es args) e
noncomputable def aV(Γ:qX):kM->List Expr->Bool
 |.nil,ls=>ls.isEmpty
 | .cons e es,ls=>match ls with
  |l::ls=>noStar l&&bJ Γ e l&&aV Γ es ls
  |[]=>false
noncomputable def zU(Γ:qX)(k:Ik):kM->Expr->Bool
 |.nil,_=>false
 | .cons e es,l=>match k with
  |.seq=>L8 es&&(Ic l&&bJ Γ e l)
  |.range=>GD (λx _ as _=>kC (λa args=>x==("range":Str)&&zT Γ.sc x&&noStar a&&bJ Γ e a&&aV Γ es args&&decide (args.length<2)) as) l
  |.enum=>false
  |.zip=>(match es with|.cons e2 rF=>L8 rF&&GD (λx _ as _=>k2 (λa b=>x==("zip":Str)&&zT Γ.sc x&&noStar a&&bJ Γ e a&&noStar b&&bJ Γ e2 b) as) l|_=>false)
end
abbrev Fn:=Nat->List Val->M Val
def cW(K:Frag)(ρ:List Addr)(env:Env)(σ:L2.St)(H:Hp):Prop:=∀(i:Nat) (v:Val),env[i]?=some (some v)->∃x,σ[i]?=some (some x)/\VR K ρ H v x
theorem cW.kU{K:Frag}{ρ ρ':List Addr}{env:Env}{σ:L2.St}{H H':Hp}(e:cW K ρ env σ H)(g:Gw ρ H ρ' H'):cW K ρ' env σ H':=λi v q=>by
 obtain⟨x,q1,q2⟩:=e i v q;exact⟨x,q1,VR.kU g v x q2⟩
theorem cW.up{K:Frag}{ρ ρ':List Addr}{env:Env}{σ:L2.St}{H H':Hp}(e:cW K ρ env σ H)(g:Gr ρ H ρ' H'):cW K ρ' env σ H':=e.kU g.w
def Xa(K:Frag)(Q:List V->Hp->Prop):List Val->Hs->List Addr->Hp->Prop:=λvs _ ρ' H'=>∀xs,aE K ρ' H' vs xs->Q xs H'
def WT(Q:Bool->Hp->Prop):Bool->Hs->List Addr->Hp->Prop:=λb _ _ H'=>Q b H'
def Om(Φ:Fn)(ir:IE)(env:Env):M Bool:=bnd (aP Φ ir env) λx=>ask λh=>gZ h x
def tV(Φ:Fn)(B:Bd)(EX:Nat->List V->Hp->Prop)(ir:IE):TE:=λσ H Q=>∃ρ env h,cW B.K ρ env σ H/\HR B ρ h H/\Post B EX ρ H (WV B.K Q) (aP Φ ir env h)
def Vl(Φ:Fn)(B:Bd)(EX:Nat->List V->Hp->Prop)(dZ:kM):TA:=λσ H Q=>∃ρ env h,cW B.K ρ env σ H/\HR B ρ h H/\Post B EX ρ H (Xa B.K Q) (bG Φ dZ env h)
def tT(Φ:Fn)(B:Bd)(EX:Nat->List V->Hp->Prop)(ir:IE):TT:=λσ H Q=>∃ρ env h,cW B.K ρ env σ H/\HR B ρ h H/\Post B EX ρ H (WT Q) (Om Φ ir env h)
theorem _root_.L2.PE.imp(h:PE X e t)(i:∀σ H Q,t' σ H Q->t σ H Q):PE X e t':=λpins s σ H Q I hw=>h pins s σ H Q I (i σ H Q hw)
theorem _root_.L2.PT.imp(h:PT X e t)(i:∀σ H Q,t' σ H Q->t σ H Q):PT X e t':=λpins s σ H Q I hw=>h pins s σ H Q I (i σ H Q hw)
theorem _root_.L2.PA.imp(h:PA X es t)(i:∀σ H Q,t' σ H Q->t σ H Q):PA X es t':=λpos pins s σ H Q I hw=>h pos pins s σ H Q I (i σ H Q hw)
theorem _root_.L2.PO.imp(h:PO X e t)(i:∀σ H Q,t' σ H Q->t σ H Q):PO X e t':=λpins s σ H Q I hw=>h pins s σ H Q I (i σ H Q hw)
theorem _root_.L2.PI.imp(h:PI X tg iter t)(i:∀σ H R,t' σ H R->t σ H R):PI X tg iter t':=λpins s σ H R I hw=>h pins s σ H R I (i σ H R hw)
theorem bh{α β γ:Type}(m:M α)(f:α -> M β)(g:β -> M γ):bnd (bnd m f) g=bnd m λx=>bnd (f x) g:=by
 funext h;show (match (match m h with|.ok a h'=>f a h'|.exc c vs h'=>.exc c vs h'|.no=>.no) with|.ok a h'=>g a h'|.exc c vs h'=>.exc c vs h'|.no=>.no)=(match m h with|.ok a h'=>bnd (f a) g h'|.exc c vs h'=>.exc c vs h'|.no=>.no);cases m h<;>rfl
theorem cP{α β:Type}(a:α)(f:α -> M β):bnd (ret a) f=f a:=rfl
def ux(B:Bd)(n:Nat)(φ:List Val->M Val):Sp:=λxs H Q _=>∃ρ h vs,vs.length=n/\HR B ρ h H/\aE B.K ρ H vs xs/\Post B (λ_ _ _=>False) ρ H (WV B.K Q) (φ vs h)
def Oo(P:Program)(w:World)(B:Bd)(mg:Str->Option Value)(base:Heap)(k:Nat)(j:Nat)(x:Str)(n:Nat)(φ:List Val->M Val):Prop :=
 (n<1000/\((∃(f:Addr) (fd:FuncData) (ps:List Str),ps.length=n/\mg x=some (.ref f)/\keepIn B.K (.ref f)=true/\Binds B.K fd ps []/\fG P w B.K mg base yo k f fd ps (ux B n φ)) \/
  ∃(c:Nat) (f:Addr) (fd:FuncData) (ps:List Str) (φ0:List Val->M Val),φ = J0 c φ0/\ps.length=n+1/\mg x=some (.ref (B.cl c))/\Mk B.K (B.cl c) f/\Binds B.K fd ps []/\fG P w B.K mg base yo k f fd ps (ux B (n+1) φ0))) \/
 (1000<=n/\∃(fd:FuncData) (ps:List Str),ps.length=n-1000/\Binds B.K fd ps []/\fG P w B.K mg base yo k (B.cl (1000+j)) fd ps (ux B (n-1000) φ))
def bltNames:List Str:=["len","min","max","sorted","list","tuple","str","all","any","isinstance","range","enumerate","int","bool","dict","set","zip"]
structure Ctx (Φ:Fn) (Γ:qX) (k:Nat) (X:Cx) (cl:Nat->Addr) (EX:Nat->List V->Hp->Prop):Prop where
 N:X.N = Γ.N
 sc:X.env.scope = Γ.sc
 calm:X.calm=true
 room:dR (k+1) X.A
 lW:∀c xs H,¬ EX c xs H
 fns:∀j x n,Γ.fns[j]?=some (x,n)->Oo X.prog X.w (bd X cl) X.mg X.base k j x n (Φ j)
 cls:∀c,c < Γ.tb.nc->Cp X.K (cl c)/\∀x ∈ Γ.tb.Ia,jR X.K (cl c) x
 Ib:∀p ∈ Γ.tb.Ib,Meth X.K (cl p.1) p.2.1 (cl (1000+p.2.2))
 L5:∀p ∈ Γ.tb.L5,∃C,X.mg p.1=some (.ref C)/\PF X.K C p.2.1 (cl (1000+p.2.2))
 isc:∀p ∈ Γ.tb.isc,∃C,X.mg p.1=some (.ref C)/\∀c b,p.2[c]?=some b->Vi X.K (cl c)/\kitOne X.K (.ref (cl c)) (.ref C)=some b
 cons:∀p ∈ Γ.cons,∃v u,X.mg p.1=some u/\RelV v u/\∀K ρ H,VR K ρ H p.2 v
 blt:∀x∈bltNames,X.mg x=none
section
variable {Φ:Fn} {Γ:qX} {k:Nat} {X:Cx} {cl:Nat->Addr} {EX:Nat->List V->Hp->Prop}
theorem Ctx.units(c:Ctx Φ Γ k X cl EX):X.A.units+64<cLine:=c.room.units
theorem Ctx.vis(c:Ctx Φ Γ k X cl EX)(h:L6 Γ.sc x=true):R8 X.env.scope x/\(x==("__debug__":Str))=false/\(x==("__classdict__":Str))=false:=by
 unfold L6 at h;simp only[and_eq_true,or_eq_true,beq_iff_eq,not_eq_true']at h;obtain⟨⟨h1,h2⟩,h3⟩:=h;refine⟨?_,h2,h3⟩;unfold R8;rw[c.sc]
 rcases h1 with (z|z)|z
 ·exact .inl z
 ·exact .inr (.inl z)
 ·exact .inr (.inr z)
theorem Ctx.gl(c:Ctx Φ Γ k X cl EX)(h:zT Γ.sc x=true):Gl X x/\(x==("__debug__":Str))=false/\x ≠ "__name__":=by
 unfold zT at h;simp only[and_eq_true,beq_iff_eq,not_eq_true']at h;obtain⟨⟨h1,h2⟩,h3⟩:=h;refine⟨?_,h2,λz=>by rw[z]at h3;simp at h3⟩;show X.env.scope.names.lookup x=_;rw[c.sc];exact h1
theorem Ctx.J6(c:Ctx Φ Γ k X cl EX)(scope:Scope)(N':List Str)(cls:List (Str×Addr))(C:Addr)(s:Shared)(H:Hp)(fp:List Addr):Ctx Φ (Γ.J6 scope N') k (bS X scope N' cls C s H fp) cl EX:=by
 refine⟨rfl,?_,c.calm,c.room,c.lW,c.fns,c.cls,c.Ib,c.L5,c.isc,c.cons,c.blt⟩;show relabel scope X.env=J5 scope Γ.sc;rw[<-c.sc];rfl
theorem bq(h:noStar e=true):starEach (e::es) env=(false,eval e env)::starEach es env:=by
 cases e<;>first|rfl|(simp[noStar]at h)
theorem gF:∀{es:List Expr} {dZ:kM},aV Γ dZ es=true->(backTo pos (starEach es env)).any (·.1)=false
 |[],_,_=>rfl
 |e::es,.nil,h=>by simp[aV]at h
 | e::es,.cons i dZ,h=>by
  simp only[aV,and_eq_true]at h;rw[bq h.1.1];show (false||(backTo pos (starEach es env)).any (·.1))=false;rw[gF (dZ:=dZ) h.2];rfl
theorem wc(h:aV Γ dZ es=true):(backTo pos (starEach es env)).all (λx=>!x.1)=true:=by
 have q:=gF (pos:=pos) (env:=env) h;rw[all_eq_true];intro x hx;have:=List.any_eq_false.mp q x hx;simpa using this
theorem yP(h:o9 e=true):zu e:=by
 intro o i;cases e<;>first|rfl|(simp[o9]at h)
theorem super_ok(h:superB e=true):attributeBase e x env whole=whole:=by
 cases e<;>first
  |rfl
  |skip
 rename_i f args kws pos;cases f<;>first
  |rfl
  |skip
 cases args with
 |cons a r=>rfl
 |nil=>
  cases kws with
  |cons a r=>rfl
  |nil=>simp[superB]at h
theorem dh(q:PE X e (tV Φ (bd X cl) EX ir))(he:∀whole,isTrue e X.env whole=(do let v <-whole;standAt e.pos;holding [v] (truthy v))):PT X e (tT Φ (bd X cl) EX ir) :=
 (CJ q he).imp λσ H Q ⟨ρ,env,h,hE,r,p⟩=>⟨ρ,env,h,hE,r,aA p λv h1 ρ1 x H1 g1 r1 q1 p1=>by
  obtain⟨b,e,w⟩:=cV r1 p1;exact⟨b,LG r1 q1 e,w⟩⟩
theorem CH:Sd X (unaryOp .USub) (λx H Q=>∃i,x=.int i/\Q (.int (-i)) H):=by
 intro pins s σ H x v Q I rx h;obtain⟨i,rfl,q⟩:=h;obtain⟨t,rfl⟩:=rx;exact neg_int ⟨.int (-i),H,I.tok _,⟨_,rfl⟩,q⟩
theorem J7(h:PT X (.BoolOp op vs pos) t):PW X (.BoolOp op vs pos) t:=λwhole pins s σ H Q I hw=>h pins s σ H Q I hw
def b9(Φ:Fn)(ir:IE):Prop:=∀(Γ:qX) (k:Nat) (X:Cx) (cl:Nat->Addr) (EX:Nat->List V->Hp->Prop) (e:Expr),Ctx Φ Γ k X cl EX->bJ Γ ir e=true->PE X e (tV Φ (bd X cl) EX ir)/\PT X e (tT Φ (bd X cl) EX ir)
def kW(Φ:Fn)(dZ:kM):Prop:=(∀(Γ:qX) (k:Nat) (X:Cx) (cl:Nat->Addr) (EX:Nat->List V->Hp->Prop) (es:List Expr),Ctx Φ Γ k X cl EX->aV Γ dZ es=true->PA X es (Vl Φ (bd X cl) EX dZ))/\match dZ with
 |.nil=>True
 | .cons e r=>b9 Φ e/\match r with
  |.nil=>True
  |.cons e' _=>b9 Φ e'
theorem Ie(h:L7 o op=true):op=Dv o:=Zv h
theorem Ig(h:P8 o op=true):op=zK o:=Zv h
theorem lH(hs:∀env h,aP Φ ir env h=.no):b9 Φ ir:=by
 intro Γ k X cl EX e c h;exact⟨λpins s σ H Q I ⟨ρ,env,h,hE,r,p⟩=>by rw[hs]at p;exact p.elim,λpins s σ H Q I ⟨ρ,env,h,hE,r,p⟩=>by unfold Om bnd at p;rw[hs]at p;exact p.elim⟩
theorem Ma{i:Nat}:b9 Φ (.var i):=by
 intro Γ k X cl EX e c h;apply o8 h;intro x pos h;simp only[and_eq_true,beq_iff_eq]at h;obtain⟨v1,v2,v3⟩:=c.vis h.2;have q:PE X (.Name x pos) (tV Φ (bd X cl) EX (.var i)):=by refine(KA (by rw[c.N];exact h.1) v1 v2 v3).imp λσ H Q aO=>?_;obtain⟨ρ,env,h,hE,r,p⟩:=aO;rw[aP.eq_def]at p;dsimp only at p;obtain⟨d,e1,w⟩:=cG r p;split at e1<;>cases e1;rename_i e1;obtain⟨x,e2,e3⟩:=hE i d e1;exact⟨x,e2,w x e3⟩
 exact⟨q,dh q λ_=>rfl⟩
theorem Mb:b9 Φ (.cst d):=by
 intro Γ k X cl EX e c h;apply vZ h;intro cc j pos h;have q:PE X (.Constant cc j pos) (tV Φ (bd X cl) EX (.cst d)):=by
  unfold DJ at h;split at h<;>first|cases h|skip
  ·refine KD.imp λσ H Q aO=>?_;obtain⟨ρ,env,h,hE,r,p⟩:=aO;simp only[aP]at p;exact aj r p _ VR.non
  ·cases eq_of_beq h;refine OH.imp λσ H Q aO=>?_;obtain⟨ρ,env,h,hE,r,p⟩:=aO;simp only[aP]at p;exact aj r p _ VR.bl
  ·cases eq_of_beq h;refine KC.imp λσ H Q aO=>?_;obtain⟨ρ,env,h,hE,r,p⟩:=aO;simp only[aP]at p;exact aj r p _ VR.int
  ·cases eq_of_beq h;refine KG.imp λσ H Q aO=>?_;obtain⟨ρ,env,h,hE,r,p⟩:=aO;simp only[aP]at p;exact aj r p _ VR.str
 exact⟨q,dh q λ_=>rfl⟩
theorem BI(h:yO a b=true):a=b:=by
 unfold yO at h;split at h<;>first|rfl|(cases eq_of_beq h;rfl)|cases h
theorem Mc:b9 Φ (.con x d):=by
 intro Γ k X cl EX e c h;apply o8 h;intro y pos h;simp only[and_eq_true,beq_iff_eq]at h;obtain⟨⟨h1,h2⟩,h3⟩:=h;subst h1;obtain⟨g1,g2,g3⟩:=c.gl h2;obtain⟨p,hp,h4⟩:=List.any_eq_true.mp h3;simp only[and_eq_true,beq_iff_eq]at h4;obtain⟨v,u,m1,m2,m3⟩:=c.cons p hp;rw[h4.1]at m1;have q:PE X (.Name x pos) (tV Φ (bd X cl) EX (.con x d)):=by refine(GJ g1 m1 m2 g2).imp λσ H Q aO=>?_;obtain⟨ρ,env,h,hE,r,p⟩:=aO;simp only[aP]at p;exact aj r p _ (by rw[<-BI h4.2];exact m3 _ _ _)
 exact⟨q,dh q λ_=>rfl⟩
theorem Qa:b9 Φ .no:=by
 intro Γ k X cl EX e c h
 (conv at h=>lhs;whnf);cases h
theorem DL:kW Φ .nil:=by
 refine⟨fun Γ k X cl EX es c h=>?_,trivial⟩;rw[aV]at h;cases es with
 |cons a r=>cases h
 |nil=>refine CM.imp λσ H Q aO=>?_;obtain⟨ρ,env,h,hE,r,p⟩:=aO;simp only[bG]at p;exact aj r p _ aE.nil
theorem zV(h1:b9 Φ e)(h2:kW Φ es):kW Φ (.cons e es):=by
 refine⟨fun Γ k X cl EX ls c h=>?_,h1,?_⟩
 ·rw[aV.eq_def]at h;dsimp only at h
  cases ls with
  |nil=>cases h
  |cons l ls=>simp only[and_eq_true]at h;refine(t7 (h1 Γ k X cl EX l c h.1.2).1 (h2.1 Γ k X cl EX ls c h.2) (bq h.1.1)).imp λσ H Q aO=>?_;obtain⟨ρ,env,h,hE,r,p⟩:=aO;simp only[bG]at p;refine⟨ρ,env,h,hE,r,aA p λv h1 ρ1 x H1 g1 r1 q1 p1=>⟨ρ1,env,h1,hE.up g1,r1,bN p1 λvs h2 ρ2 H2 g2 r2 p2 xs q2=>?_⟩⟩;exact aj r2 p2 _ (aE.cons (VR.up g2 _ _ q1) q2)
 ·cases es with
  |nil=>trivial
  |cons e' r=>exact h2.2.1
theorem Mf(ha:b9 Φ a)(hb:b9 Φ b):b9 Φ (.bin o a b):=by
 intro Γ k X cl EX e c h;apply LQ h;intro l op r pos h;simp only[and_eq_true]at h;obtain⟨⟨h1,h2⟩,h3⟩:=h;have eo:op=Dv o:=Ie h1;subst eo;have q:PE X (.BinOp l (Dv o) r pos) (tV Φ (bd X cl) EX (.bin o a b)):=by refine(O3 (LC (cl:=cl) (EX:=EX) o) (ha Γ k X cl EX l c h2).1 (hb Γ k X cl EX r c h3).1).imp λσ H Q aO=>?_;obtain⟨ρ,env,h,hE,r,p⟩:=aO;simp only[aP]at p;exact⟨ρ,env,h,hE,r,aA p λv h1 ρ1 x H1 g1 r1 q1 p1=>⟨ρ1,env,h1,hE.up g1,r1,aA p1 λw h2 ρ2 y H2 g2 r2 q2 p2=>⟨ρ2,h2,v,w,r2,VR.up g2 _ _ q1,q2,p2⟩⟩⟩
 exact⟨q,dh q λ_=>rfl⟩
theorem Mg(ha:b9 Φ a):b9 Φ (.neg a):=by
 intro Γ k X cl EX e c h;apply J2 h;intro q1 l pos h;apply v7 h;intro h;have q:PE X (.UnaryOp .USub l pos) (tV Φ (bd X cl) EX (.neg a)):=by
  refine(O4 CH (ha Γ k X cl EX l c h).1).imp λσ H Q aO=>?_;obtain⟨ρ,env,h,hE,r,p⟩:=aO;simp only[aP]at p;refine⟨ρ,env,h,hE,r,aA p λv h1 ρ1 x H1 g1 r1 q1 p1=>?_⟩;cases v<;>first|exact p1.elim|skip
  rw[VR]at q1;exact⟨_,q1,aj r1 p1 _ VR.int⟩
 exact⟨q,dh q λ_=>rfl⟩
theorem Mh(ha:b9 Φ a)(hb:b9 Φ b):b9 Φ (.cmp o a b):=by
 intro Γ k X cl EX e c h;apply LR h;intro l q1 q2 pos h;apply oN h;intro op h;apply oN h;intro r h;simp only[and_eq_true,not_eq_true']at h;obtain⟨⟨⟨h1,h4⟩,h2⟩,h3⟩:=h;have eo:op=zK o:=Ig h1;subst eo;refine⟨(GX (Dz (cl:=cl) c.units o) (ha Γ k X cl EX l c h2).1 (hb Γ k X cl EX r c h3).1 h4).imp λσ H Q ⟨ρ,env,h,hE,r,p⟩=>?_,(GY (Dz (cl:=cl) c.units o) (ha Γ k X cl EX l c h2).1 (hb Γ k X cl EX r c h3).1 h4).imp λσ H Q ⟨ρ,env,h,hE,r,p⟩=>?_⟩
 ·simp only[aP]at p;refine⟨ρ,env,h,hE,r,aA p λv h1 ρ1 x H1 g1 r1 q1 p1=>⟨ρ1,env,h1,hE.up g1,r1,aA p1 λw h2 ρ2 y H2 g2 r2 q2 p2=>?_⟩⟩;obtain⟨t,e,p3⟩:=aI p2;exact⟨ρ2,h2,v,w,t,r2,VR.up g2 _ _ q1,q2,e,aj r2 p3 _ VR.bl⟩
 ·simp only[Om,aP,bh,cP]at p;refine⟨ρ,env,h,hE,r,aA p λv h1 ρ1 x H1 g1 r1 q1 p1=>⟨ρ1,env,h1,hE.up g1,r1,aA p1 λw h2 ρ2 y H2 g2 r2 q2 p2=>?_⟩⟩;obtain⟨t,e,p3⟩:=aI p2;obtain⟨t',e',w'⟩:=cV r2 p3;cases (show some t=some t' from e');exact⟨ρ2,h2,v,w,t,r2,VR.up g2 _ _ q1,q2,e,t,rfl,w'⟩
theorem Mi(ha:b9 Φ a)(hb:b9 Φ b)(hd:b9 Φ d):b9 Φ (.chn o o' a b d):=lH λ_ _=>rfl
end
section
variable {B:Bd} {EX:Nat->List V->Hp->Prop} {ρ:List Addr} {H:Hp} {β:Type} {W:β -> Hs->List Addr->Hp->Prop} {h:Hs}
theorem post_bool(p:Post B EX ρ H W (bnd (qc v) f h)):∃t,v=.bl t/\Post B EX ρ H W (f t h):=by
 cases v with
 |bl t=>exact⟨t,rfl,p⟩
 |_=>exact p.elim
theorem nv(p:Post B EX ρ H W (bnd m F h))(k:∀v h1,Post B EX ρ H W (F v h1)->∃t,gZ h1 v=some t/\∀ρ1 H1,Gr ρ H ρ1 H1->HR B ρ1 h1 H1->Q t H1) :
  Post B EX ρ H (WT Q) (bnd m (λx=>ask λh=>gZ h x) h):=by
 unfold bnd at p |-;cases e:m h with
 |ok v h1=>
  rw[e]at p;obtain⟨t,e1,q⟩:=k v h1 p;show Post B EX ρ H (WT Q) (ask (λh=>gZ h v) h1);have e2:ask (λh=>gZ h v) h1=.ok t h1:=by unfold ask bx;dsimp only;rw[e1]
  rw[e2];exact λρ1 H1 g r=>q ρ1 H1 g r
 |exc c vs h1=>rw[e]at p;exact p
 |no=>rw[e]at p;exact p
end
section
variable {Φ:Fn} {Γ:qX} {k:Nat} {X:Cx} {cl:Nat->Addr} {EX:Nat->List V->Hp->Prop}
theorem Mj(ha:b9 Φ a)(hb:b9 Φ b):b9 Φ (.and a b):=by
 intro Γ k X cl EX e c h;apply sQ h;intro q1 q2 pos h;apply v7 h;intro h;apply yM h;intro l q3 h;apply yM h;intro m r h;simp only[and_eq_true]at h;obtain⟨h1,h2⟩:=h;have hB:PE X (.BoolOp .And (m::r) pos) (tV Φ (bd X cl) EX b)/\PW X (.BoolOp .And (m::r) pos) (tT Φ (bd X cl) EX b):=by
  cases r with
  |nil=>exact⟨Cy (hb Γ k X cl EX m c h2).1,GL (hb Γ k X cl EX m c h2).2⟩
  |cons n r'=>exact⟨(hb Γ k X cl EX _ c h2).1,J7 (hb Γ k X cl EX _ c h2).2⟩
 refine⟨(KL (ha Γ k X cl EX l c h1).1 hB.1).imp λσ H Q ⟨ρ,env,h,hE,r,p⟩=>?_,(KI (ha Γ k X cl EX l c h1).2 hB.2).pt.imp λσ H Q ⟨ρ,env,h,hE,r,p⟩=>?_⟩
 ·simp only[aP]at p
  refine⟨ρ,env,h,hE,r,aA p λv h1 ρ1 x H1 g1 r1 q1 p1=>?_⟩;obtain⟨t,rfl,p2⟩:=post_bool p1;rw[VR]at q1;refine⟨t,q1,?_⟩;cases t with
  |true=>rw[Zg rfl]at p2 |-;refine⟨ρ1,env,h1,hE.up g1,r1,aA p2 λw h2 ρ2 y H2 g2 r2 q2 p3=>?_⟩;obtain⟨u,rfl,p4⟩:=post_bool p3;exact aj r2 p4 _ q2
  |false=>rw[Zi Y9]at p2 |-;exact aj r1 p2 _ VR.bl
 ·simp only[Om,aP,bh]at p
  refine⟨ρ,env,h,hE,r,nv p λv h1 p1=>?_⟩;obtain⟨t,rfl,p2⟩:=post_bool p1;refine⟨t,rfl,λρ1 H1 g1 r1=>?_⟩;have p2:=Post.up g1 p2;cases t with
  |true=>rw[Zg rfl]at p2 |-;simp only[bh,cP]at p2;refine⟨ρ1,env,h1,hE.up g1,r1,nv p2 λw h2 p3=>?_⟩;obtain⟨u,rfl,p4⟩:=post_bool p3;exact⟨u,rfl,λρ2 H2 g2 r2=>by obtain⟨t',e',w'⟩:=cV r2 (Post.up g2 p4);cases (show some u=some t' from e');exact w'⟩
  |false=>rw[Zi Y9]at p2 |-;obtain⟨t',e',w'⟩:=cV r1 (show Post _ _ ρ1 H1 _ (ask (λh=>gZ h (.bl false)) h1) from p2);cases (show some false=some t' from e');exact w'
theorem Qc(ha:b9 Φ a)(hb:b9 Φ b):b9 Φ (.or a b):=by
 intro Γ k X cl EX e c h;apply sQ h;intro q1 q2 pos h;apply v7 h;intro h;apply yM h;intro l q3 h;apply yM h;intro m r h;simp only[and_eq_true]at h;obtain⟨h1,h2⟩:=h;have hB:PE X (.BoolOp .Or (m::r) pos) (tV Φ (bd X cl) EX b)/\PW X (.BoolOp .Or (m::r) pos) (tT Φ (bd X cl) EX b):=by
  cases r with
  |nil=>exact⟨Cy (hb Γ k X cl EX m c h2).1,KH (hb Γ k X cl EX m c h2).2⟩
  |cons n r'=>exact⟨(hb Γ k X cl EX _ c h2).1,J7 (hb Γ k X cl EX _ c h2).2⟩
 refine⟨(OM (ha Γ k X cl EX l c h1).1 hB.1).imp λσ H Q ⟨ρ,env,h,hE,r,p⟩=>?_,(OI (ha Γ k X cl EX l c h1).2 hB.2).pt.imp λσ H Q ⟨ρ,env,h,hE,r,p⟩=>?_⟩
 ·simp only[aP]at p
  refine⟨ρ,env,h,hE,r,aA p λv h1 ρ1 x H1 g1 r1 q1 p1=>?_⟩;obtain⟨t,rfl,p2⟩:=post_bool p1;rw[VR]at q1;refine⟨t,q1,?_⟩;cases t with
  |false=>rw[Zi Y9]at p2 |-;refine⟨ρ1,env,h1,hE.up g1,r1,aA p2 λw h2 ρ2 y H2 g2 r2 q2 p3=>?_⟩;obtain⟨u,rfl,p4⟩:=post_bool p3;exact aj r2 p4 _ q2
  |true=>rw[Zg rfl]at p2 |-;exact aj r1 p2 _ VR.bl
 ·simp only[Om,aP,bh]at p
  refine⟨ρ,env,h,hE,r,nv p λv h1 p1=>?_⟩;obtain⟨t,rfl,p2⟩:=post_bool p1;refine⟨t,rfl,λρ1 H1 g1 r1=>?_⟩;have p2:=Post.up g1 p2;cases t with
  |false=>rw[Zi Y9]at p2 |-;simp only[bh,cP]at p2;refine⟨ρ1,env,h1,hE.up g1,r1,nv p2 λw h2 p3=>?_⟩;obtain⟨u,rfl,p4⟩:=post_bool p3;exact⟨u,rfl,λρ2 H2 g2 r2=>by obtain⟨t',e',w'⟩:=cV r2 (Post.up g2 p4);cases (show some u=some t' from e');exact w'⟩
  |true=>rw[Zg rfl]at p2 |-;obtain⟨t',e',w'⟩:=cV r1 (show Post _ _ ρ1 H1 _ (ask (λh=>gZ h (.bl true)) h1) from p2);cases (show some true=some t' from e');exact w'
theorem Ml(ha:b9 Φ a):b9 Φ (.not a):=by
 intro Γ k X cl EX e c h;apply J2 h;intro q1 l pos h;apply v7 h;intro h;refine⟨(KN (ha Γ k X cl EX l c h).1).imp λσ H Q ⟨ρ,env,h,hE,r,p⟩=>?_,(KJ (ha Γ k X cl EX l c h).2).imp λσ H Q ⟨ρ,env,h,hE,r,p⟩=>?_⟩
 ·simp only[aP]at p;refine⟨ρ,env,h,hE,r,aA p λv h1 ρ1 x H1 g1 r1 q1 p1=>?_⟩;obtain⟨t,rfl,p2⟩:=post_bool p1;rw[VR]at q1;exact⟨t,q1,aj r1 p2 _ VR.bl⟩
 ·simp only[Om,aP,bh]at p;refine⟨ρ,env,h,hE,r,nv p λv h1 p1=>?_⟩;obtain⟨t,rfl,p2⟩:=post_bool p1;refine⟨t,rfl,λρ1 H1 g1 r1=>?_⟩;obtain⟨t',e',w'⟩:=cV r1 (show Post _ _ ρ1 H1 _ (ask (λh=>gZ h (.bl (!t))) h1) from Post.up g1 p2);cases (show some (!t)=some t' from e');exact w'
theorem Mm(ht:b9 Φ t)(ha:b9 Φ a)(hb:b9 Φ b):b9 Φ (.ite t a b):=lH λ_ _=>rfl
theorem Mn(hs:kW Φ es):b9 Φ (.tup es):=by
 intro Γ k X cl EX e c h;apply LS h;intro ls x1 pos h;have q:PE X (.Tuple ls x1 pos) (tV Φ (bd X cl) EX (.tup es)):=by refine(Lc (hs.1 Γ k X cl EX ls c h)).imp λσ H Q aO=>?_;obtain⟨ρ,env,h,hE,r,p⟩:=aO;simp only[aP]at p;refine⟨ρ,env,h,hE,r,bN p λvs h1 ρ1 H1 g1 r1 p1 xs q1=>?_⟩;obtain⟨e1,p2⟩:=aX p1;exact⟨by rw[<-q1.length];exact Zv e1,λq hq=>vX r1 hq q1 p2⟩
 exact⟨q,dh q λ_=>rfl⟩
theorem Mp(hs:kW Φ es):b9 Φ (.lst es):=by
 intro Γ k X cl EX e c h;apply LU h;intro ls pos h;have q:PE X (.List ls pos) (tV Φ (bd X cl) EX (.lst es)):=by refine(Ld (hs.1 Γ k X cl EX ls c h)).imp λσ H Q aO=>?_;obtain⟨ρ,env,h,hE,r,p⟩:=aO;simp only[aP]at p;refine⟨ρ,env,h,hE,r,bN p λvs h1 ρ1 H1 g1 r1 p1 xs q1=>?_⟩;obtain⟨e1,p2⟩:=aX p1;exact⟨by rw[<-q1.length];exact Zv e1,λq hq=>dO r1 hq q1 p2⟩
 exact⟨q,dh q λ_=>rfl⟩
theorem Ih:b9 Φ .dct0:=by
 intro Γ k X cl EX e c h;apply zO h;intro q1 q2 pos h;apply lG h;intro h;apply lG h;intro h;have q:PE X (.Dict [] [] pos) (tV Φ (bd X cl) EX .dct0):=by refine(CY (X:=X) (pos:=pos)).imp λσ H Q aO=>?_;obtain⟨ρ,env,h,hE,r,p⟩:=aO;simp only[aP]at p;exact λa ha=>vW (o:=.dct []) (O:=.dK []) r ha ⟨[],bg,(by rw[iw])⟩ p
 exact⟨q,dh q λ_=>rfl⟩
theorem Mq(ha:b9 Φ a)(hb:b9 Φ b):b9 Φ (.idx a b):=by
 intro Γ k X cl EX e c h;apply yL h;intro l r pos h;simp only[and_eq_true]at h;have q:PE X (.Subscript l r pos) (tV Φ (bd X cl) EX (.idx a b)):=by refine(Pg (LH (cl:=cl) c.units) (ha Γ k X cl EX l c h.1.2).1 (hb Γ k X cl EX r c h.2).1 (yP h.1.1)).imp λσ H Q aO=>?_;obtain⟨ρ,env,h,hE,r,p⟩:=aO;simp only[aP]at p;refine⟨ρ,env,h,hE,r,aA p λv h1 ρ1 x H1 g1 r1 q1 p1=>⟨ρ1,env,h1,hE.up g1,r1,aA p1 λw h2 ρ2 y H2 g2 r2 q2 p2=>?_⟩⟩;obtain⟨z,e,w'⟩:=cV r2 p2;exact⟨ρ2,h2,v,w,z,r2,VR.up g2 _ _ q1,q2,e,w'⟩
 exact⟨q,dh q λ_=>rfl⟩
def Qd(Φ:Fn)(ir:IE)(env:Env):M (Option Int):=if dm ir=true then ret none else bnd (aP Φ ir env) λv=>bnd (bx (k9 v)) λi=>ret (some i)
def tP(Φ:Fn)(B:Bd)(EX:Nat->List V->Hp->Prop)(ir:IE):TO:=λσ H Q=>∃ρ env h,cW B.K ρ env σ H/\HR B ρ h H/\Post B EX ρ H (λo _ _ H'=>Q o H') (Qd Φ ir env h)
theorem BJ{i:Int}(h:k9 d=some i):d=.int i:=by cases d<;>cases h;rfl
theorem zW(hi:b9 Φ ir)(c:Ctx Φ Γ k X cl EX)(h:(match o with|none=>dm ir|some e=>!dm ir&&bJ Γ ir e)=true):PO X o (tP Φ (bd X cl) EX ir):=by
 cases o with
 |none=>refine Hi.imp λσ H Q aO=>?_;obtain⟨ρ,env,h',hE,r,p⟩:=aO;unfold Qd at p;rw[Zg h]at p;exact aj r p
 |some e=>simp only[and_eq_true,not_eq_true']at h;refine(Hj (hi Γ k X cl EX e c h.2).1).imp λσ H Q aO=>?_;obtain⟨ρ,env,h',hE,r,p⟩:=aO;unfold Qd at p;rw[Zi (by rw[h.1];exact Y9)]at p;refine⟨ρ,env,h',hE,r,aA p λv h1 ρ1 x H1 g1 r1 q1 p1=>?_⟩;obtain⟨i,e1,p2⟩:=cD p1;cases BJ e1;rw[VR]at q1;exact⟨i,q1,aj r1 p2⟩
theorem Mr{a lo hi:IE}(ha:b9 Φ a)(hl:b9 Φ lo)(hh:b9 Φ hi):b9 Φ (.slc a lo hi):=by
 intro Γ k X cl EX e c h;apply yL h;intro l q1 pos h;apply LV h;intro l' h' q2 p2 h;apply zP h;intro h;simp only[and_eq_true]at h;have q:PE X (.Subscript l (.Slice l' h' none p2) pos) (tV Φ (bd X cl) EX (.slc a lo hi)):=by refine(CQ (LI (cl:=cl) (EX:=EX)) (ha Γ k X cl EX l c h.1.1).1 (zW hl c h.1.2) (zW hh c h.2)).imp λσ H Q aO=>?_;obtain⟨ρ,env,h,hE,r,p⟩:=aO;simp only[aP]at p;refine⟨ρ,env,h,hE,r,aA p λv h1 ρ1 x H1 g1 r1 q1 p1=>⟨ρ1,env,h1,hE.up g1,r1,bN (m:=Qd Φ lo env) p1 λlo' h2 ρ2 H2 g2 r2 p3=>⟨ρ2,env,h2,(hE.up g1).up g2,r2,bN (m:=Qd Φ hi env) p3 λhi' h3 ρ3 H3 g3 r3 p4=>?_⟩⟩⟩;exact⟨ρ3,h3,v,r3,VR.up (g2.trans g3) _ _ q1,p4⟩
 exact⟨q,dh q λ_=>rfl⟩
theorem Ms(ha:b9 Φ a)(hs:b9 Φ sx):b9 Φ (.rev a sx):=lH λ_ _=>rfl
theorem jZ:∀{dZ:kM} {ls:List Expr} {vs:List Val} {h h':Hs},aV Γ dZ ls=true->bG Φ dZ env h=.ok vs h'->vs.length=ls.length:=by
 intro dZ
 induction dZ using kM.rec (motive_1:=λ_=>True) with
 |nil=>
  intro ls ds h h' a b;rw[aV]at a;simp only[bG,ret]at b;cases b;cases ls with
  |nil=>rfl
  |cons _ _=>cases a
 |cons e es _ ih=>
  intro ls ds h h' a b;rw[aV.eq_def]at a;dsimp only at a;cases ls with
  |nil=>cases a
  |cons l ls=>
   simp only[and_eq_true]at a;simp only[bG,bnd]at b;cases e1:aP Φ e env h with
   |ok v h1=>
    rw[e1]at b;dsimp only at b;cases e2:bG Φ es env h1 with
    |ok vs h2=>rw[e2]at b;cases b;simp[ih a.2 e2]
    |exc _ _ _=>rw[e2]at b;cases b
    |no=>rw[e2]at b;cases b
   |exc _ _ _=>rw[e1]at b;cases b
   |no=>rw[e1]at b;cases b
 |_=>trivial
theorem fk{α β:Type}{W:β -> Hs->List Addr->Hp->Prop}{W':α -> Hs->List Addr->Hp->Prop}{m:M α}{f:α -> M β}(p:Post B EX ρ H W (bnd m f h))(k:∀v h1 ρ1 H1,m h=.ok v h1->Gr ρ H ρ1 H1->HR B ρ1 h1 H1->Post B EX ρ1 H1 W (f v h1)->W' v h1 ρ1 H1):Post B EX ρ H W' (m h):=by
 unfold bnd at p;cases e:m h with
 |ok v h1=>rw[e]at p;exact λρ1 H1 g r=>k v h1 ρ1 H1 e g r (Post.up g p)
 |exc c vs h1=>rw[e]at p;exact p
 |no=>rw[e]at p;exact p
theorem fm{α:Type}{h:Hs}{W:α -> Hs->List Addr->Hp->Prop}{o:Out α}(n:∀c xs H,¬ EX c xs H)(p:Post B EX ρ H W o):Post B (λ_ _ _=>False) ρ H W o:=by
 cases o with
 |ok a h'=>exact p
 |exc c vs h'=>exact λρ' H' xs g r q=>n _ _ _ (p ρ' H' xs g r q)
 |no=>exact p
theorem zX{n c:Nat}{φ0:List Val->M Val}(r:HR B ρ h H)(hv:aE B.K ρ H vs xs)(hl:vs.length=n)(p:Post B (λ_ _ _=>False) ρ H (WV B.K Q) (J0 c φ0 vs h))
  (nx:H x=none) (nd:H dx=none) (ne:dx≠x):ux B (n+1) φ0 (.ref x::xs) (upd (upd H dx (.own x)) x (.ins (B.cl c) dx [])) (λv H2=>v=.non/\Q (.ref x) H2) E:=by
 have r1:HR B ρ h (upd H dx (.own x)):=r.side nd;have Vm:(upd H dx (.own x)) x=none:=by rw[aL λz=>ne z.symm];exact nx
 have g:Gr ρ H (ρ ++ [x]) (upd (upd H dx (.own x)) x (.ins (B.cl c) dx [])):=(Gr.side nd).trans (Gr.new Vm);have r2:HR B (ρ ++ [x]) (h++[.ins c []]) (upd (upd H dx (.own x)) x (.ins (B.cl c) dx [])):=r1.new Vm ⟨dx,[],bg,rfl⟩;have hx:(ρ ++ [x])[h.length]?=some x:=by rw[<-r.len];simp
 refine⟨ρ ++ [x],h++[.ins c []],.ref h.length::vs,by simp[hl],r2,aE.cons (VR.ref hx) (aE.up g _ _ hv),?_⟩;have p2:Post B (λ_ _ _=>False) (ρ ++ [x]) (upd (upd H dx (.own x)) x (.ins (B.cl c) dx [])) (WV B.K Q) (bnd (φ0 (.ref h.length::vs)) (λr=>match r with|.non=>ret (.ref h.length)|_=>bx none) (h++[.ins c []])):=Post.up g p;refine bN p2 λv h1 ρ1 H1 g1 r3 p3 y hy=>?_;cases v<;>first|exact p3.elim|skip
 rw[VR]at hy;exact⟨hy,aj r3 p3 _ (VR.ref (o7 g1.pre hx))⟩
theorem Ii{j:Nat}{k:Nat}(hs:kW Φ es)(c:Ctx Φ Γ k X cl EX)
  (h:(zT Γ.sc x && Γ.fns[j]?==some (x,args.length)&&decide (args.length<1000)&&aV Γ es args)=true):PE X (.Call (.Name x p) args [] pos) (tV Φ (bd X cl) EX (.call j es))/\PT X (.Call (.Name x p) args [] pos) (tT Φ (bd X cl) EX (.call j es)):=by
 simp only[and_eq_true,beq_iff_eq,decide_eq_true_eq]at h;obtain⟨⟨⟨h1,h2⟩,h3⟩,h4⟩:=h;obtain⟨g1,g2,g3⟩:=c.gl h1;have room:dR k X.A:=c.room.mono (le_succ k);have q:PE X (.Call (.Name x p) args [] pos) (tV Φ (bd X cl) EX (.call j es)):=by
  rcases c.fns j x _ h2 with ⟨_,⟨f,fd,ps,f1,f2,f3,f4,f5⟩|⟨cc,f,fd,ps,φ0,f0,f1,f2,f3,f4,f5⟩⟩|⟨z,_⟩
  ·cases args with
   |nil=>
    cases es with
    |cons i dZ=>rw[aV.eq_def]at h4;cases h4
    |nil=>refine(CN f5 room g1 f2 f3 f4 .nil r9 g2).imp λσ H Q aO=>?_;obtain⟨ρ,env,h,hE,r,p⟩:=aO;simp only[aP,bG,cP]at p;exact⟨ρ,h,[],rfl,r,aE.nil,fm (h:=h) c.lW p⟩
   |cons l ls=>
    cases es with
    |nil=>rw[aV]at h4;cases h4
    |cons i dZ=>have h5:=h4;rw[aV.eq_def]at h5;dsimp only at h5;simp only[and_eq_true]at h5;refine(Hf f5 room g1 f2 f3 f4 .nil r9 (hs.1 Γ k X cl EX _ c h4) g2 (bq h5.1.1) (gF h5.2)).imp λσ H Q aO=>?_;obtain⟨ρ,env,h,hE,r,p⟩:=aO;simp only[aP]at p;refine⟨ρ,env,h,hE,r,fk p λvs h1 ρ1 H1 e1 g1 r1 p1 xs q1=>⟨ρ1,h1,vs,jZ h4 e1,r1,by rw[append_nil];exact q1,fm (h:=h1) c.lW p1⟩⟩
  ·cases args with
   |nil=>
    cases es with
    |cons i dZ=>rw[aV.eq_def]at h4;cases h4
    |nil=>refine(CO f3 f5 c.room g1 f2 f4 .nil r9 g2).imp λσ H Q aO=>?_;obtain⟨ρ,env,h,hE,r,p⟩:=aO;simp only[aP,bG,cP]at p;intro y dy ny T6 T7;rw[f0]at p;exact zX (B:=bd X cl) r aE.nil rfl (fm (h:=h) c.lW p) ny T6 T7
   |cons l ls=>
    cases es with
    |nil=>rw[aV]at h4;cases h4
    |cons i dZ=>have h5:=h4;rw[aV.eq_def]at h5;dsimp only at h5;simp only[and_eq_true]at h5;refine(Hg f3 f5 c.room g1 f2 f4 .nil r9 (hs.1 Γ k X cl EX _ c h4) g2 (bq h5.1.1) (gF h5.2)).imp λσ H Q aO=>?_;obtain⟨ρ,env,h,hE,r,p⟩:=aO;simp only[aP]at p;refine⟨ρ,env,h,hE,r,fk p λvs h1 ρ1 H1 e1 g1 r1 p1 xs q1 y dy ny T6 T7=>?_⟩;rw[f0]at p1;rw[append_nil];exact zX (B:=bd X cl) r1 q1 (jZ h4 e1) (fm (h:=h1) c.lW p1) ny T6 T7
  ·omega
 exact⟨q,dh q λ_=>rfl⟩
theorem Ij{j:Nat}(hs:kW Φ es):b9 Φ (.call j es):=by
 intro Γ k X cl EX e c h;apply nY h;intro x _ args _ h;exact Ii hs c h
theorem Mt{n:Nat}(ha:b9 Φ a):b9 Φ (.fld n a x):=by
 intro Γ k X cl EX e c h;apply uw h;intro o y pos h;simp only[and_eq_true,beq_iff_eq,List.contains_iff_mem]at h;obtain⟨⟨⟨⟨h1,h2⟩,h3⟩,h4⟩,h5⟩:=h;subst h1;have q:PE X (.Attribute o x pos) (tV Φ (bd X cl) EX (.fld n a x)):=by
  refine(pe_fld (ha Γ k X cl EX o c h5).1 (super_ok h2)).imp λσ H Q aO=>?_;obtain⟨ρ,env,h,hE,r,p⟩:=aO;simp only[aP]at p;refine⟨ρ,env,h,hE,r,aA p λv h1 ρ1 y H1 g1 r1 q1 p1=>?_⟩;obtain⟨z,e1,w⟩:=cV r1 p1;cases v<;>first|(cases e1;done)|(rw[VR]at q1;exact q1.elim)|skip
  rename_i i;rw[VR]at q1;obtain⟨ad,rfl,q1⟩:=q1;have hx:∃c0 fs,h1[i]?=some (.ins c0 fs)/\c0<n/\fs.lookup x=some z:=by
   change (match h1[i]? with|some (.ins c fs)=>if c<n then fs.lookup x else none|_=>none)=some z at e1;split at e1
   ·rename_i c0 fs e2
    split at e1
    ·rename_i hc;exact⟨c0,fs,e2,hc,e1⟩
    ·cases e1
   ·cases e1
  obtain⟨c0,fs,e2,hc,e3⟩:=hx;obtain⟨dx,gs,k1,k2⟩:=r1.ob i _ ad e2 q1;obtain⟨y,l1,l2⟩:=k2.look.2 z e3;obtain⟨cc,nn⟩:=c.cls c0 (by omega);exact⟨ad,cl c0,dx,gs,y,rfl,k1,cc,nn x h4,l1,w y l2⟩
 exact⟨q,dh q λ_=>rfl⟩
theorem we:∀{js:List (Nat×Nat)} {c j:Nat},js.lookup c=some j->(c,j)∈js
 | (a,b)::r,c,j,e=>by
  rw[lookup_cons]at e;cases hb:c==a with
  |true=>rw[hb]at e;cases e;rw[eq_of_beq hb];exact Zk
  |false=>rw[hb]at e;exact Zh _ (we e)
theorem Mv(ha:b9 Φ a)(hs:kW Φ es):b9 Φ (.mth a m js es):=by
 intro Γ k X cl EX e c h;apply zR h;intro o x ap args cp h;simp only[and_eq_true,beq_iff_eq,all_eq_true,decide_eq_true_eq,List.contains_iff_mem]at h;obtain⟨⟨⟨⟨⟨⟨h1,h2⟩,h3⟩,h4⟩,h5⟩,h6⟩,h7⟩:=h;subst h1;have few:((backTo cp (starEach args X.env)).all (λx=>!x.1)&&(backToKw cp (keywordEach [] X.env)).all (λx=>x.1.isSome)
   && decide (args.length+([]:List Keyword).length+(if ([]:List Keyword).isEmpty then 0 else 1)<30))=true:=by
  rw[wc h7];simp only[Bool.true_and,and_eq_true];exact⟨rfl,decide_eq_true (by simp;omega)⟩
 have hl:(ap.endLine==cp.line)=true:=by rw[h4];exact beq_self_eq_true _
 have room:dR k X.A:=c.room.mono (le_succ k);have main:∀(σ:L2.St) (H:Hp) (Q:VK) (v:Val) (h1:Hs) (ρ1:List Addr) (y:V) (H1:Hp) (F:Nat->M Val),HR (bd X cl) ρ1 h1 H1->VR X.K ρ1 H1 v y->Post (bd X cl) EX ρ1 H1 (WV X.K Q) (bnd (ask λh=>lF h v x js) F h1) ->
   ∃j i ad c0 dx gs fd ps,v=.ref i/\y=.ref ad/\H1 ad=some (.ins (cl c0) dx gs)/\Cp X.K (cl c0)/\Meth X.K (cl c0) x (cl (1000+j))/\gs.lookup x=none/\Binds X.K fd ps [] /\
    fG X.prog X.w X.K X.mg X.base yo k (cl (1000+j)) fd ps (ux (bd X cl) (1+args.length) (Φ j))/\Post (bd X cl) EX ρ1 H1 (WV X.K Q) (F j h1):=by
  intro σ H Q v h1 ρ1 y H1 F r1 q1 p1;obtain⟨j,e1,p2⟩:=aI p1;cases v<;>first|(cases e1;done)|(rw[VR]at q1;exact q1.elim)|skip
  rename_i i;rw[VR]at q1;obtain⟨ad,rfl,q1⟩:=q1;have hx:∃c0 fs,h1[i]?=some (.ins c0 fs)/\fs.lookup x=none/\js.lookup c0=some j:=by
   change (match h1[i]? with|some (.ins c fs)=>if (fs.lookup x).isNone=true then js.lookup c else none|_=>none)=some j at e1;split at e1
   ·rename_i c0 fs e2
    split at e1
    ·rename_i hc;exact⟨c0,fs,e2,by simpa using hc,e1⟩
    ·cases e1
   ·cases e1
  obtain⟨c0,fs,e2,hn,e3⟩:=hx;obtain⟨dx,gs,k1,k2⟩:=r1.ob i _ ad e2 q1;obtain⟨⟨m1,m2⟩,m3⟩:=h5 _ (we e3);dsimp only at m1 m2 m3;have cc:=(c.cls c0 m1).1;have mm:=c.Ib _ m2;dsimp only at mm;have hf:∃xx,Γ.fns[j]?=some (xx,1001+args.length):=by
   cases ef:Γ.fns[j]? with
   |none=>rw[ef]at m3;cases m3
   |some q=>rw[ef]at m3;obtain⟨q1,q2⟩:=q;exact⟨q1,by rw[show q2=_ from eq_of_beq m3]⟩
  obtain⟨xx,hf⟩:=hf
  rcases c.fns j xx _ hf with ⟨z,_⟩|⟨_,fd,ps,f1,f4,f5⟩
  ·omega
  ·rw[show 1001+args.length-1000=1+args.length by omega]at f5;exact⟨j,i,ad,c0,dx,gs,fd,ps,rfl,rfl,k1,cc,mm,k2.look.1 hn,f4,f5,p2⟩
 have q:PE X (.Call (.Attribute o x ap) args [] cp) (tV Φ (bd X cl) EX (.mth a x js es)):=by
  cases args with
  |nil=>
   cases es with
   |cons i dZ=>rw[aV.eq_def]at h7;cases h7
   |nil=>refine(pe_mth0 (k:=k) (ha Γ k X cl EX o c h6).1 (super_ok h2) hl room).imp λσ H Q aO=>?_;obtain⟨ρ,env,h,hE,r,p⟩:=aO;simp only[aP,bG,cP]at p;refine⟨ρ,env,h,hE,r,aA p λv h1 ρ1 y H1 g1 r1 q1 p1=>?_⟩;obtain⟨j,i,ad,c0,dx,gs,fd,ps,rfl,rfl,k1,cc,mm,k2,f4,f5,p2⟩:=main σ H Q v h1 ρ1 y H1 _ r1 q1 p1;exact⟨ad,cl c0,dx,gs,cl (1000+j),fd,ps,_,rfl,k1,cc,mm,k2,f4,f5,ρ1,h1,[.ref i],rfl,r1,aE.cons q1 aE.nil,fm (h:=h1) c.lW p2⟩
  |cons l ls=>
   cases es with
   |nil=>rw[aV]at h7;cases h7
   |cons i dZ=>have h8:=h7;rw[aV.eq_def]at h8;dsimp only at h8;simp only[and_eq_true]at h8;refine(pe_mthD (k:=k) (ha Γ k X cl EX o c h6).1 (hs.1 Γ k X cl EX _ c h7) (super_ok h2) few hl room (bq h8.1.1) (gF h8.2)).imp λσ H Q aO=>?_;obtain⟨ρ,env,h,hE,r,p⟩:=aO;simp only[aP]at p;refine⟨ρ,env,h,hE,r,aA p λv h1 ρ1 y H1 g1 r1 q1 p1=>?_⟩;obtain⟨j,i,ad,c0,dx,gs,fd,ps,rfl,rfl,k1,cc,mm,k2,f4,f5,p2⟩:=main σ H Q v h1 ρ1 y H1 _ r1 q1 p1;refine⟨ad,cl c0,dx,gs,cl (1000+j),fd,ps,_,rfl,k1,cc,mm,k2,f4,f5,ρ1,env,h1,hE.up g1,r1,fk p2 λvs h2 ρ2 H2 e4 g2 r2 p3 xs q2=>?_⟩;refine⟨ρ2,h2,.ref i::vs,?_,r2,aE.cons (VR.up g2 _ _ q1) q2,fm (h:=h2) c.lW p3⟩;rw[ZC,jZ h7 e4];omega
 exact⟨q,dh q λ_=>rfl⟩
end
section
variable {Φ:Fn} {Γ:qX} {k:Nat} {X:Cx} {cl:Nat->Addr} {EX:Nat->List V->Hp->Prop}
theorem Mw:bootBuiltins "all" = some (.builtin "all"):=by decide +kernel
theorem Mx:bootBuiltins "any" = some (.builtin "any"):=by decide +kernel
theorem sS:bootBuiltins "sorted" = some (.builtin "sorted"):=by decide +kernel
theorem My:bootBuiltins "min" = some (.builtin "min"):=by decide +kernel
theorem Mz:bootBuiltins "max" = some (.builtin "max"):=by decide +kernel
theorem uy:bootBuiltins "list" = some (.type "list"):=by decide +kernel
theorem wg:bootBuiltins "tuple" = some (.type "tuple"):=by decide +kernel
theorem DM:bootBuiltins "str" = some (.type "str"):=by decide +kernel
theorem DN:bootBuiltins "int" = some (.type "int"):=by decide +kernel
theorem Il:bootBuiltins "bool" = some (.type "bool"):=by decide +kernel
theorem Im:bootBuiltins "dict" = some (.type "dict"):=by decide +kernel
theorem Io:bootBuiltins "isinstance" = some (.builtin "isinstance"):=by decide +kernel
theorem wj:bG Φ #[e] env=bnd (aP Φ e env) λd=>ret [d]:=by
 simp only[bG,cP]
theorem six{T:String}(h:["list","tuple","str","bool","int","dict"].contains T=true):T = "list" \/ T = "tuple" \/ T = "str" \/ T = "bool" \/ T = "int" \/ T = "dict":=by simpa using h
theorem Ip{T:String}(h:["list","tuple","str","bool","int","dict"].contains T=true):(T:Str)∈bltNames/\bootBuiltins (T:Str)=some (.type T)/\(T:Str) ≠ "__name__" /\ ((T:Str)==("__debug__":Str))=false:=by
 rcases six h with rfl|rfl|rfl|rfl|rfl|rfl
 ·exact⟨by decide,uy,by decide,by decide⟩
 ·exact⟨by decide,wg,by decide,by decide⟩
 ·exact⟨by decide,DM,by decide,by decide⟩
 ·exact⟨by decide,Il,by decide,by decide⟩
 ·exact⟨by decide,DN,by decide,by decide⟩
 ·exact⟨by decide,Im,by decide,by decide⟩
theorem Iq{T:String}(hs:kW Φ es):b9 Φ (.blt (.isin T) es):=by
 intro Γ k X cl EX e c h;apply nY h;intro x p args pos h;simp only[and_eq_true,beq_iff_eq]at h;obtain⟨⟨h1,h2⟩,h3⟩:=h;subst h2;obtain⟨g1,g2,g3⟩:=c.gl h1;split at h3<;>first|cases h3|skip
 rename_i a y yp;simp only[and_eq_true,beq_iff_eq]at h3;obtain⟨⟨⟨k1,k2⟩,k3⟩,k4⟩:=h3;obtain⟨b1,b2,b3,b4⟩:=Ip k3;obtain⟨y1,y2,y3⟩:=c.gl k1;subst k2;cases es with
 |nil=>rw[aV]at k4;cases k4
 |cons i dZ=>
  rw[aV.eq_def]at k4;dsimp only at k4;simp only[and_eq_true]at k4;cases dZ with
  |cons j dZ=>have:=k4.2;rw[aV.eq_def]at this;cases this
  |nil=>
   have q:PE X (.Call (.Name (P9 (.isin T)) p) [a,.Name (T:Str) yp] [] pos) (tV Φ (bd X cl) EX (.blt (.isin T) #[i])):=by refine(gx (HU (cl:=cl) (EX:=EX) (T:=T)) g1 (c.blt _ (show ("isinstance":Str)∈bltNames by decide)) Io (t7 (hs.2.1 Γ k X cl EX a c k4.1.2).1 (t7 (GK (v:=.ty T) y1 (c.blt _ b1) b2 rfl b3 b4) CM) (bq k4.1.1)) g3 g2 (bq k4.1.1)).imp λσ H Q aO=>?_;obtain⟨ρ,env,h,hE,r,p⟩:=aO;simp only[aP,wj,bh,cP]at p;exact⟨ρ,env,h,hE,r,aA p λv h1 ρ1 x H1 g1 r1 q1 p1=>⟨ρ1,h1,v,x,rfl,r1,q1,p1⟩⟩
   exact⟨q,dh q λ_=>rfl⟩
theorem MA:bootBuiltins "set" = some (.type "set"):=by decide +kernel
theorem Ir(ha:b9 Φ a):b9 Φ (.sset a):=by
 intro Γ k X cl EX e c h;apply nY h;intro x p1 q1 pos1 h;apply oN h;intro q2 h;apply nY h;intro y p2 q3 pos2 h;apply oN h;intro l h;simp only[and_eq_true,beq_iff_eq]at h;obtain⟨⟨⟨⟨⟨h1,h2⟩,h3⟩,h4⟩,h5⟩,h6⟩:=h;subst h1;subst h2;have q:PE X (.Call (.Name "sorted" p1) [.Call (.Name "set" p2) [l] [] pos2] [] pos1) (tV Φ (bd X cl) EX (.sset a)):=by have qe:=(ha Γ k X cl EX l c h6).1;intro pins s σ H Q I hh;have hd:X.A.handled=none:=I.ok.hd c.calm;refine((HL hd (c.gl h3).1 (c.blt _ (by decide)) (c.gl h4).1 (c.blt _ (by decide)) sS MA qe (bq (env:=X.env) (es:=[]) h5)).imp λσ H Q ⟨ρ,env,h,hE,r,p⟩=>?_) pins s σ H Q I hh;simp only[aP]at p;refine⟨ρ,env,h,hE,r,aA p λv h1 ρ1 x H1 g1 r1 q1 p1=>?_⟩;obtain⟨zs,e,p1⟩:=aI p1;obtain⟨ns,e1,p1⟩:=cD p1;obtain⟨e2,p1⟩:=aX p1;obtain⟨b,ys,rfl,q2,q3⟩:=f7 r1 q1 e;rw[fj e1]at q3;rw[aE.ints.mp q3]at q2;exact⟨b,ns,rfl,q2,Zv e2,λl hl=>dO r1 hl (aE.ints.mpr rfl) p1⟩
 exact⟨q,dh q λ_=>rfl⟩
theorem Iu{d k x:IE}(hd:b9 Φ d)(hk:b9 Φ k)(hx:b9 Φ x):b9 Φ (.dget d k x):=by
 intro Γ n X cl EX e c h;apply zR h;intro o m ap q1 cp h;apply PZ h;intro a b h;simp only[and_eq_true,beq_iff_eq]at h;obtain⟨⟨⟨⟨⟨⟨⟨h1,h2⟩,h3⟩,h4⟩,h5⟩,h6⟩,h7⟩,h8⟩:=h;subst h1;have st:starEach [a,b] X.env=[(false,eval a X.env),(false,eval b X.env)]:=by rw[bq h3,bq h4];rfl
 have m2:M2 X o "get" ap a b cp:=⟨super_ok h2,by rw[st];rfl,by rw[h5];exact beq_self_eq_true _,by rw[st];rfl⟩;have q:PE X (.Call (.Attribute o "get" ap) [a,b] [] cp) (tV Φ (bd X cl) EX (.dget d k x)):=by
  refine(C1 (by have:=c.units;omega) (hd Γ n X cl EX o c h6).1 (hk Γ n X cl EX a c h7).1 (hx Γ n X cl EX b c h8).1 m2).imp λσ H Q aO=>?_;obtain⟨ρ,env,h,hE,r,p⟩:=aO;simp only[aP]at p;refine⟨ρ,env,h,hE,r,aA p λv h1 ρ1 y H1 g1 r1 q1 p1=>?_⟩;obtain⟨u0,e1,pA⟩:=aI p1;clear p1;cases v<;>first|(cases e1;done)|(rw[VR]at q1;exact q1.elim)|skip
  rename_i i;rw[VR]at q1;obtain⟨ad,rfl,q1⟩:=q1;have hdc:∃kvs,h1[i]?=some (.dct kvs):=by
   change (match h1[i]? with|some (.dct _)=>some ()|_=>none)=some _ at e1;split at e1
   ·rename_i kvs e2;exact⟨kvs,e2⟩
   ·cases e1
  obtain⟨kvs,e2⟩:=hdc;obtain⟨ks,k1,k2⟩:=r1.ob i _ ad e2 q1;refine⟨ad,rfl,.inl ⟨ks,.inl k1⟩,ρ1,env,h1,hE.up g1,r1,aA pA λw h2 ρ2 y2 H2 g2 r2 q2 p2=>?_⟩;obtain⟨kk,e3,p2⟩:=cD p2;refine⟨ρ2,env,h2,(hE.up g1).up g2,r2,aA p2 λz h3 ρ3 y3 H3 g3 r3 q3 p3=>?_⟩;obtain⟨rr,e4,p3⟩:=aI p3;have q4:ρ3[i]?=some ad:=o7 (g2.trans g3).pre q1;have Xb:∃kvs,h3[i]?=some (.dct kvs)/\rr=cT kvs kk:=by
   change (match h3[i]? with|some (.dct kvs)=>some (cT kvs kk)|_=>none)=some rr at e4;split at e4
   ·rename_i kvs e2;cases e4;exact⟨kvs,e2,rfl⟩
   ·cases e4
  obtain⟨T8,e5,rfl⟩:=Xb;obtain⟨Xc,k3,k4⟩:=r3.ob i _ ad e5 q4;have ek:y2=kV kk:=by
   cases w<;>first|(cases e3;done)|skip
   ·cases e3;rw[VR]at q2;exact q2
   ·cases e3;rw[VR]at q2;exact q2
  refine⟨jj Xc kk,by rw[ek];exact rq.k k3,?_⟩;cases ev:cT T8 kk with
  |none=>rw[ev]at p3;rw[(iw.val kk k4).1 ev];exact aj r3 p3 _ q3
  |some z'=>obtain⟨t,e6,q6⟩:=(iw.val kk k4).2 z' ev;rw[ev]at p3;rw[e6];exact aj r3 p3 _ q6
 exact⟨q,dh q λ_=>rfl⟩
theorem zY{K:Frag}{ρ:List Addr}{H:Hp}:∀{kvs:List (Key×Val)} {ks:List (Key×V)},iw K ρ H kvs ks->aE K ρ H ((kvs.map (·.1)).map Dt) (ks.map λkv=>kV kv.1)
 |[],ks,q=>by rw[iw]at q;subst q;exact rfl
 | (k,v)::kvs,ks,q=>by
  rw[iw]at q;obtain⟨x,r,rfl,_,q⟩:=q;refine⟨kV k,_,rfl,?_,zY q⟩;cases k with
  |inl i=>exact VR.int
  |inr s=>exact VR.str
theorem BK{oJ:Unit}:∀(σ:L2.St) (H:Hp) (Q:VK),tV Φ (bd X cl) EX (.lkeys d) σ H Q->Vg (tV Φ (bd X cl) EX d) σ H Q:=λσ H Q ⟨ρ,env,h,hE,r,p⟩=>by
 simp only[aP]at p;refine⟨ρ,env,h,hE,r,aA p λv h1 ρ1 y H1 g1 r1 q1 p1=>?_⟩;obtain⟨Xd,e1,pA⟩:=aI p1;clear p1;cases v<;>first|(cases e1;done)|(rw[VR]at q1;exact q1.elim)|skip
 rename_i i;rw[VR]at q1;obtain⟨ad,rfl,q1⟩:=q1;have hdc:∃kvs,h1[i]?=some (.dct kvs)/\Xd=kvs.map (·.1):=by
  change (match h1[i]? with|some (.dct kvs)=>some (kvs.map (·.1))|_=>none)=some _ at e1;split at e1
  ·rename_i kvs e2;cases e1;exact⟨kvs,e2,rfl⟩
  ·cases e1
 obtain⟨kvs,e2,rfl⟩:=hdc;obtain⟨ks,k1,k2⟩:=r1.ob i _ ad e2 q1;exact⟨ad,ks,rfl,k1,λl hl=>dO r1 hl (zY k2) pA⟩
theorem DO(hd:b9 Φ d):b9 Φ (.lkeys d):=by
 intro Γ n X cl EX e c h
 ·apply nY h;intro x p q1 pos h
  apply oN h;intro q2 h;apply o8 h;intro y qp h;simp only[and_eq_true,beq_iff_eq]at h;obtain⟨⟨h1,h3⟩,h6⟩:=h;subst h1;have q:PE X (.Call (.Name "list" p) [.Name y qp] [] pos) (tV Φ (bd X cl) EX (.lkeys d)):=by have qe:=(hd Γ n X cl EX _ c h6).1;intro pins s σ H Q I hh;have hdl:X.A.handled=none:=I.ok.hd c.calm;exact((Bx hdl (bq rfl) (c.gl h3).1 (c.blt _ (by decide)) uy qe).imp (BK (oJ:=()))) pins s σ H Q I hh
  exact⟨q,dh q λ_=>rfl⟩
theorem Iv{d k x:IE}(hd:b9 Φ d)(hk:b9 Φ k)(hx:b9 Φ x):b9 Φ (.sdef d k x):=lH λ_ _=>rfl
theorem zZ{α β:Type}{f:α -> β}:∀{l:List α},(l.map f).Nodup->∀a∈l,∀b∈l,f a=f b->a=b
 | x::l,h,a,ha,b,hb,e=>by
  rw[Zo,nodup_cons]at h
  rcases Zw.mp ha with e1|ha2
  ·rcases Zw.mp hb with e2|hb2
   ·rw[e1,e2]
   ·rw[e1]at e;exact(h.1 (e▸mem_map_of_mem hb2)).elim
  ·rcases Zw.mp hb with e2|hb2
   ·rw[e2]at e;exact(h.1 (e▸mem_map_of_mem ha2)).elim
   ·exact zZ h.2 a ha2 b hb2 e
theorem DP(hd:b9 Φ d):b9 Φ (.skeys d):=lH λ_ _=>rfl
theorem DQ(ha:b9 Φ a):b9 Φ (.svals a):=by
 intro Γ n X cl EX e c h;apply zR h;intro o m ap q cp h;apply lG h;intro h;simp only[and_eq_true,beq_iff_eq]at h;obtain⟨⟨⟨h1,h4⟩,h5⟩,h6⟩:=h;subst h1;refine(λq=>⟨q,dh q λ_=>rfl⟩) ?_;refine(Lj PySem.F.plainAttrs_list PySem.F.slot_list_clear PySem.F.type_list_clear CU (ha Γ n X cl EX o c h6).1 (super_ok h4) (by rw[h5];exact beq_self_eq_true _)).imp λσ H Q ⟨ρ,env,h,hE,r,p⟩=>?_;simp only[aP]at p;refine⟨ρ,env,h,hE,r,aA p λv h1 ρ1 x H1 g1 r1 q1 p1=>?_⟩
 match v,p1 with
 |.ref i,p1=>
  obtain⟨zs,e,p1⟩:=aI p1;split at e
  ·rename_i zs' e1;cases e;obtain⟨a,ys,rfl,q0,q1,q2⟩:=mw r1 q1 e1;refine⟨.inl ⟨rfl,ys,.inl (.inl q1)⟩,a,ys,rfl,rfl,q1,?_⟩;exact mz (o:=.lst []) r1 q0 e1 q1 rfl ⟨_,bg,aE.nil⟩ p1
  ·cases e
theorem MB(hs:kW Φ es):b9 Φ (.blt b es):=by
 cases b with
 |isin T=>exact Iq hs
 |_=>
  intro Γ k X cl EX e c h;apply nY h;intro x p args pos h;simp only[and_eq_true,beq_iff_eq]at h;obtain⟨⟨h1,h2⟩,h3⟩:=h;subst h2;obtain⟨g1,g2,g3⟩:=c.gl h1;cases args with
  |nil=>cases h3.1
  |cons l ls=>
   cases es with
   |nil=>have:=h3.2;rw[aV]at this;cases this
   |cons i dZ=>
    have h5:=h3.2;rw[aV.eq_def]at h5;dsimp only at h5;simp only[and_eq_true]at h5;have hA:=hs.1 Γ k X cl EX _ c h3.2;have st:=bq (env:=X.env) (es:=ls) h5.1.1;have an:=gF (pos:=pos) (env:=X.env) h5.2;refine(λq=>⟨q,dh q λ_=>rfl⟩) ?_
    first
     |refine(gx (LJ (cl:=cl) (EX:=EX)) g1 (c.blt _ (by decide)) PySem.boot_len hA g3 g2 st an).imp λσ H Q ⟨ρ,env,h,hE,r,p⟩=>?_
     |refine(gx (LK (cl:=cl) (EX:=EX) c.calm) g1 (c.blt _ (by decide)) My hA g3 g2 st an).imp λσ H Q ⟨ρ,env,h,hE,r,p⟩=>?_
     |refine(gx (LL (cl:=cl) (EX:=EX) c.calm) g1 (c.blt _ (by decide)) Mz hA g3 g2 st an).imp λσ H Q ⟨ρ,env,h,hE,r,p⟩=>?_
     |refine(gx (BD (cl:=cl) (EX:=EX)) g1 (c.blt _ (by decide)) sS hA g3 g2 st an).imp λσ H Q ⟨ρ,env,h,hE,r,p⟩=>?_
     |refine(gx (LO (cl:=cl) (EX:=EX) c.calm) g1 (c.blt _ (by decide)) Mw hA g3 g2 st an).imp λσ H Q ⟨ρ,env,h,hE,r,p⟩=>?_
     |refine(gx (LP (cl:=cl) (EX:=EX) c.calm) g1 (c.blt _ (by decide)) Mx hA g3 g2 st an).imp λσ H Q ⟨ρ,env,h,hE,r,p⟩=>?_
     |refine(kH (HQ (cl:=cl) (EX:=EX)) g1 (c.blt _ (by decide)) uy hA g3 g2 st an).imp λσ H Q ⟨ρ,env,h,hE,r,p⟩=>?_
     |refine(kH (DA (cl:=cl) (EX:=EX)) g1 (c.blt _ (by decide)) wg hA g3 g2 st an).imp λσ H Q ⟨ρ,env,h,hE,r,p⟩=>?_
     |refine(kH (LM (cl:=cl) (EX:=EX)) g1 (c.blt _ (by decide)) DM hA g3 g2 st an).imp λσ H Q ⟨ρ,env,h,hE,r,p⟩=>?_
     |refine(kH (LN (cl:=cl) (EX:=EX)) g1 (c.blt _ (by decide)) DN hA g3 g2 st an).imp λσ H Q ⟨ρ,env,h,hE,r,p⟩=>?_
    simp only[aP]at p;exact⟨ρ,env,h,hE,r,bN p λvs h1 ρ1 H1 g1 r1 p1 xs q1=>⟨ρ1,h1,vs,r1,q1,p1⟩⟩
def Vn:Me->String
 |.join=>"str" | .append=>"list" | .extend=>"list" | .remove=>"list"
theorem Iw(r:HR B ρ h H)(q:VR B.K ρ H v x)(e:recv h m v=some ()):Sh B.K (Vn m) x H:=by
 cases m<;>cases v<;>simp only[recv]at e<;>first|cases e|skip
 ·rw[VR]at q;subst q;rfl
 all_goals
  split at e
  ·rename_i xs e1;obtain⟨a,ys,rfl,q0,q1,q2⟩:=mw r q e1;exact .inl ⟨rfl,ys,.inl (.inl q1)⟩
  ·cases e
theorem MC(ha:b9 Φ a)(hs:kW Φ es):b9 Φ (.met m a es):=by
 intro Γ k X cl EX e c h;apply zR h;intro o x ap args cp h;simp only[and_eq_true,beq_iff_eq]at h;obtain⟨⟨⟨⟨⟨⟨h1,h2⟩,h3⟩,h4⟩,h5⟩,h6⟩,h7⟩:=h;subst h1;cases args with
 |nil=>cases h3
 |cons l ls=>
  have hA:=hs.1 Γ k X cl EX _ c h7;have h8:noStar l=true/\∃dZ,aV Γ dZ ls=true:=by
   cases es with
   |nil=>rw[aV]at h7;cases h7
   |cons i dZ=>rw[aV.eq_def]at h7;dsimp only at h7;simp only[and_eq_true]at h7;exact⟨h7.1.1,dZ,h7.2⟩
  obtain⟨n1,dZ,n2⟩:=h8;have st:=bq (env:=X.env) (es:=ls) n1;have an:=gF (pos:=cp) (env:=X.env) n2;have few:((backTo cp (starEach (l::ls) X.env)).all (λx=>!x.1)&&(backToKw cp (keywordEach [] X.env)).all (λx=>x.1.isSome)
   && decide ((l::ls).length+([]:List Keyword).length+(if ([]:List Keyword).isEmpty then 0 else 1)<30))=true:=by
   rw[wc h7];have:(l::ls).length<29:=Zv h4;simp only[Bool.true_and,and_eq_true];exact⟨rfl,decide_eq_true (by simp at this |-;omega)⟩
  have hl:(ap.endLine==cp.line)=true:=by rw[h5];exact beq_self_eq_true _
  refine(λq=>⟨q,dh q λ_=>rfl⟩) ?_;have fin:∀(T:String) (r:V->List V->Hp->VK->Prop),(∀x xs H Q,PN (bd X cl) EX m x xs H Q->r x xs H Q)->T=Vn m->∀σ H Q,tV Φ (bd X cl) EX (.met m a es) σ H Q->U0 X.K T r (tV Φ (bd X cl) EX a) (Vl Φ (bd X cl) EX es) σ H Q:=by rintro T rr hr rfl σ H Q ⟨ρ,env,h,hE,r,p⟩;simp only[aP]at p;refine⟨ρ,env,h,hE,r,aA p λv h1 ρ1 x H1 g1 r1 q1 p1=>?_⟩;obtain⟨_,e1,p2⟩:=aI p1;refine⟨Iw r1 q1 e1,ρ1,env,h1,hE.up g1,r1,bN p2 λvs h2 ρ2 H2 g2 r2 p3 xs q2=>hr _ _ _ _ ⟨ρ2,h2,v,vs,r2,VR.up g2 _ _ q1,q2,p3⟩⟩
  cases m with
  |join=>exact(zw PySem.F.plainAttrs_str PySem.F.slot_str_join PySem.F.type_str_join (HV (cl:=cl) (EX:=EX)) (ha Γ k X cl EX o c h6).1 hA (super_ok h2) few hl st an).imp (fin _ _ (λ_ _ _ _ z=>z) rfl)
  |append=>exact(zw PySem.F.plainAttrs_list PySem.F.slot_list_append PySem.F.type_list_append (BE (cl:=cl) (EX:=EX)) (ha Γ k X cl EX o c h6).1 hA (super_ok h2) few hl st an).imp (fin _ _ (λ_ _ _ _ z=>z) rfl)
  |extend=>exact(zw PySem.F.plainAttrs_list PySem.F.slot_list_extend PySem.F.type_list_extend (BF (cl:=cl) (EX:=EX)) (ha Γ k X cl EX o c h6).1 hA (super_ok h2) few hl st an).imp (fin _ _ (λ_ _ _ _ z=>z) rfl)
  |remove=>exact(zw PySem.F.plainAttrs_list PySem.F.slot_list_remove PySem.F.type_list_remove (BG (cl:=cl) (EX:=EX)) (ha Γ k X cl EX o c h6).1 hA (super_ok h2) few hl st an).imp (fin _ _ (λ_ _ _ _ z=>z) rfl)
end
theorem _root_.L2.PI.or(h:PI X tg iter t)(h':PI X tg iter t'):PI X tg iter (λσ H R=>t σ H R\/t' σ H R):=λpins s σ H R I hw=>hw.elim (h pins s σ H R I) (h' pins s σ H R I)
structure Walks (B:Bd) (src:Src) (J:It) (ρ1:List Addr) (H1:Hp):Prop where
 stop:∀{ρ h H i xs},Gw ρ1 H1 ρ H->HR B ρ h H->src.items h=some xs->xs.length<=i->J.stop i H
 go:∀{ρ h H i xs v},Gw ρ1 H1 ρ H->HR B ρ h H->src.items h=some xs->xs[i]?=some v->J.go i H
 AS:∀{ρ h H i xs v y H'},Gw ρ1 H1 ρ H->HR B ρ h H->src.items h=some xs->xs[i]?=some v->J.AS i H y H'->Gr ρ H ρ H'/\HR B ρ h H'/\VR B.K ρ H' v y
section
variable {B:Bd} {ρ1:List Addr} {H1:Hp} {a:Addr}
theorem BL(q:jO B.K H1 a xs)(e:aE B.K ρ1 H1 vs xs):Walks B (.fix vs) (S4 B.K a) ρ1 H1 where
 stop:=λg r hi hl=>by
  cases hi;exact⟨xs,g.Sn q,by rw[<-e.length];exact hl⟩
 go:=λg r hi hv=>by
  cases hi;obtain⟨x,k1,_⟩:=e.get hv;exact⟨xs,x,g.Sn q,k1⟩
 AS:=λg r hi hv y=>by
  cases hi;obtain⟨rfl,y⟩:=y;obtain⟨x,k1,k2⟩:=e.get hv;have:=y xs (g.Sn q);rw[k1]at this;cases this;exact⟨Gr.refl,r,VR.kU g _ _ k2⟩
theorem DR(q:LB B.K H1 a xs)(e:aE B.K ρ1 H1 vs xs):Walks B (.fix vs) (Sa B.K a) ρ1 H1 where
 stop:=λg r hi hl=>by
  cases hi;exact⟨xs,(g.PM q).sq,by rw[<-e.length];exact hl⟩
 go:=λg r hi hv=>by
  cases hi;obtain⟨x,k1,_⟩:=e.get hv;exact⟨xs,x,(g.PM q).sq,k1⟩
 AS:=λg r hi hv y=>by
  cases hi;obtain⟨rfl,y⟩:=y;obtain⟨x,k1,k2⟩:=e.get hv;have:=y xs (g.PM q).sq;rw[k1]at this;cases this;exact⟨Gr.refl,r,VR.kU g _ _ k2⟩
theorem pe{i:Nat}(q:ρ1[i]?=some a)(g:Gw ρ1 H1 ρ H)(r:HR B ρ h H)(hi:(Src.live i).items h=some xs):∃ys,gm B.K H a ys/\aE B.K ρ H xs ys:=by
 obtain⟨b,ys,e,k1,k2⟩:=f7 r (VR.ref (o7 g.pre q)) (show aD h (.ref i)=some xs from hi);cases e;exact⟨ys,k1,k2⟩
theorem yQ{i:Nat}(q:ρ1[i]?=some a):Walks B (.live i) (Sa B.K a) ρ1 H1 where
 stop:=λg r hi hl=>by
  obtain⟨ys,k1,k2⟩:=pe q g r hi;exact⟨ys,k1,by rw[<-k2.length];exact hl⟩
 go:=λg r hi hv=>by
  obtain⟨ys,k1,k2⟩:=pe q g r hi;obtain⟨x,k3,_⟩:=k2.get hv;exact⟨ys,x,k1,k3⟩
 AS:=λg r hi hv y=>by
  obtain⟨ys,k1,k2⟩:=pe q g r hi;obtain⟨rfl,y⟩:=y;obtain⟨x,k3,k4⟩:=k2.get hv;have:=y ys k1;rw[k3]at this;cases this;exact⟨Gr.refl,r,k4⟩
theorem iD(lo:Int)(n:Nat):(bZ lo n).length=n:=by unfold bZ;simp
theorem nZ{lo:Int}{n:Nat}:Walks B (.fix (bZ lo n)) (OX lo n) ρ1 H1 where
 stop:=λg r hi hl=>by
  cases hi;rw[iD]at hl;exact hl
 go:=λg r hi hv=>by
  cases hi;have:=(Zb.mp hv).1;rw[iD]at this;exact this
 AS:=λ{ρ h H i xs v y H'} g r hi hv y'=>by
  cases hi;obtain⟨rfl,rfl⟩:=y';have hl:=(Zb.mp hv).1;rw[iD]at hl;have e:(bZ lo n)[i]?=some (.int (lo+i)):=by unfold bZ;simp[hl]
  rw[e]at hv;cases hv;exact⟨Gr.refl,r,VR.int⟩
end
theorem qk:∀{xs ys:List Val} {i:Nat} {v:Val},(e8 xs ys)[i]?=some v->∃a b,xs[i]?=some a/\ys[i]?=some b/\v=.tup [a,b]
 |[],_,i,v,e=>by rw[e8.eq_def]at e;simp at e
 |a::r,[],i,v,e=>by rw[e8.eq_def]at e;simp at e
 |a::r,b::t,0,v,e=>by rw[e8]at e;simp at e;exact⟨a,b,rfl,rfl,e.symm⟩
 |a::r,b::t,i+1,v,e=>by rw[e8]at e;simp at e;obtain⟨x,y,h1,h2,h3⟩:=qk e;exact⟨x,y,by simpa using h1,by simpa using h2,h3⟩
theorem wm:∀{xs ys:List Val} {i:Nat},(e8 xs ys).length<=i->xs.length<=i\/ys.length<=i
 |[],_,i,_=>.inl (zero_le _)
 |a::r,[],i,_=>.inr (zero_le _)
 |a::r,b::t,0,e=>by rw[e8]at e;simp at e
 | a::r,b::t,i+1,e=>by
  rw[e8,ZC]at e
  rcases wm (Nat.le_of_succ_le_succ e) with h|h
  ·exact .inl (Nat.succ_le_succ h)
  ·exact .inr (Nat.succ_le_succ h)
theorem kN(hi:(Src.zip v w).items h=some vs):∃xs ys,aD h v=some xs/\aD h w=some ys/\vs=e8 xs ys:=by
 obtain⟨xs,e1,e2⟩:=Za.mp hi;obtain⟨ys,e3,e4⟩:=ZL.mp e2;exact⟨xs,ys,e1,e3,e4.symm⟩
def yR(B:Bd)(ρ1:List Addr)(H1:Hp)(v:Val)(a:Addr):Prop:=∀{ρ:List Addr} {h:Hs} {H:Hp} {xs:List Val},Gw ρ1 H1 ρ H->HR B ρ h H->aD h v=some xs->∃ys,gm B.K H a ys/\aE B.K ρ H xs ys
theorem z5{ρ1:List Addr}{h1:Hs}{H1:Hp}(hx:VR B.K ρ1 H1 v x)(w:aD h1 v=some us):∃a,x=.ref a/\yR B ρ1 H1 v a:=by
 cases v<;>first|(cases w;done)|skip
 ·rw[VR]at hx;obtain⟨a,xs,rfl,k1,k2⟩:=hx;exact⟨a,rfl,λg r e=>by cases e;exact⟨xs,(g.PM k1).sq,aE.kU g _ _ k2⟩⟩
 ·rw[VR]at hx;obtain⟨a,rfl,k1⟩:=hx;exact⟨a,rfl,λg r e=>pe k1 g r e⟩
theorem BN{ρ1:List Addr}{H1:Hp}(q:yR B ρ1 H1 v a)(q':yR B ρ1 H1 w b):Walks B (.zip v w) (TU B.K a b) ρ1 H1 where
 stop:=λg r hi hl=>by
  obtain⟨zs,ws,e1,e2,rfl⟩:=kN hi;obtain⟨ys,k1,k2⟩:=q g r e1;obtain⟨ys',Qe,Qf⟩:=q' g r e2;refine⟨ys,ys',k1,Qe,?_⟩;rw[<-k2.length,<-Qf.length];exact wm hl
 go:=λg r hi hv=>by
  obtain⟨zs,ws,e1,e2,rfl⟩:=kN hi;obtain⟨ys,k1,k2⟩:=q g r e1;obtain⟨ys',Qe,Qf⟩:=q' g r e2;obtain⟨d,d',h1,h2,_⟩:=qk hv;obtain⟨x,k3,_⟩:=k2.get h1;obtain⟨x',T9,_⟩:=Qf.get h2;exact⟨ys,ys',x,x',k1,Qe,k3,T9⟩
 AS:=λg r hi hv y=>by
  obtain⟨zs,ws,e1,e2,rfl⟩:=kN hi;obtain⟨ys,k1,k2⟩:=q g r e1;obtain⟨ys',Qe,Qf⟩:=q' g r e2;obtain⟨d,d',h1,h2,rfl⟩:=qk hv;obtain⟨x,k3,k4⟩:=k2.get h1;obtain⟨x',T9,Xe⟩:=Qf.get h2;obtain⟨p,u,w,hn,rfl,rfl,hy⟩:=y;obtain⟨y1,y2⟩:=hy ys ys' k1 Qe;rw[k3]at y1;cases y1;rw[T9]at y2;cases y2;exact⟨Gr.side hn,r.side hn,VR.tup (jO.of bg) (aE.cons (VR.up (Gr.side hn) _ _ k4) (aE.cons (VR.up (Gr.side hn) _ _ Xe) aE.nil))⟩
section
variable {Φ:Fn} {Γ:qX} {k:Nat} {X:Cx} {cl:Nat->Addr} {EX:Nat->List V->Hp->Prop}
def Oq(Φ:Fn)(ik:Ik)(it:kM)(env:Env):M Src:=bnd (bG Φ it env) λits=>bx (srcOf ik its)
def tI(Φ:Fn)(B:Bd)(EX:Nat->List V->Hp->Prop)(ik:Ik)(it:kM):TI:=λσ H R=>∃ρ env h,cW B.K ρ env σ H/\HR B ρ h H /\
 Post B EX ρ H (λsrc h' ρ' H'=>(∃xs,src.items h'=some xs)/\∀J,Walks B src J ρ' H'->R J H') (Oq Φ ik it env h)
theorem J8(hs:kW Φ it)(c:Ctx Φ Γ k X cl EX)(h:zU Γ ik it iter=true)(ht:ik=.enum\/ik=.zip->∃es kk pos,tg=.Tuple es kk pos):PI X tg iter (tI Φ (bd X cl) EX ik it)/\∀x,foldedSetIterable iter X.env x=pure x:=by
 cases it with
 |nil=>rw[zU]at h;cases h
 |cons e es=>
  cases ik with
  |seq=>
   replace h:=DK h;obtain⟨rfl,h⟩:=h;simp only[and_eq_true]at h;have q:=(hs.2.1 Γ k X cl EX iter c h.2).1;refine⟨((GU q).or (KY q)).imp λσ H R ⟨ρ,env,h,hE,r,p⟩=>?_,λx=>?_⟩
   ·simp only[Oq,wj,bh,cP]at p
    have key:∀(Q:VK),(∀v h1 ρ1 x H1,aP Φ e env h=.ok v h1->Gr ρ H ρ1 H1->HR (bd X cl) ρ1 h1 H1->VR X.K ρ1 H1 v x->Post (bd X cl) EX ρ1 H1 (λsrc h' ρ' H'=>(∃xs,src.items h'=some xs)/\∀J,Walks (bd X cl) src J ρ' H'->R J H') (bx (srcOf .seq [v]) h1)->Q x H1)->tV Φ (bd X cl) EX e σ H Q:=λQ kk=>
     ⟨ρ,env,h,hE,r,fk p λv h1 ρ1 H1 e1 g1 r1 p1 x q1=>kk v h1 ρ1 x H1 e1 g1 r1 q1 p1⟩
    cases ev:aP Φ e env h with
    |ok v h1=>
     cases v with
     |tup vs=>refine .inr (key _ λv h1 ρ1 x H1 e1 g1 r1 q1 p1=>?_);rw[ev]at e1;cases e1;obtain⟨src,e2,w1,w2⟩:=cG r1 p1;cases e2;rw[VR]at q1;obtain⟨a,xs,rfl,k1,k2⟩:=q1;exact⟨a,rfl,⟨xs,k1⟩,w2 _ (BL k1 k2)⟩
     |rl vs=>refine .inl (key _ λv h1 ρ1 x H1 e1 g1 r1 q1 p1=>?_);rw[ev]at e1;cases e1;obtain⟨src,e2,w1,w2⟩:=cG r1 p1;cases e2;rw[VR]at q1;obtain⟨a,xs,rfl,k1,k2⟩:=q1;exact⟨a,rfl,⟨xs,k1.sq⟩,w2 _ (DR k1 k2)⟩
     |ref i=>refine .inl (key _ λv h1 ρ1 x H1 e1 g1 r1 q1 p1=>?_);rw[ev]at e1;cases e1;obtain⟨src,e2,⟨zs,w1⟩,w2⟩:=cG r1 p1;cases e2;have q0:=q1;rw[VR]at q1;obtain⟨a,rfl,k1⟩:=q1;obtain⟨b,ys,e3,k2,k3⟩:=f7 r1 q0 (show aD h1 (.ref i)=some zs from w1);cases e3;exact⟨a,rfl,⟨ys,k2⟩,w2 _ (yQ k1)⟩
     |_=>refine .inl (key _ λv h1 ρ1 x H1 e1 g1 r1 q1 p1=>?_);rw[ev]at e1;cases e1;obtain⟨src,e2,_⟩:=cG r1 p1;cases e2
    |exc _ _ _=>exact .inl (key _ λv h1 ρ1 x H1 e1=>by rw[ev]at e1;cases e1)
    |no=>exact .inl (key _ λv h1 ρ1 x H1 e1=>by rw[ev]at e1;cases e1)
   ·cases iter<;>first|rfl|(exact absurd h.1 Y9)
  |range=>
   apply nY h;intro x xp q1 pos h;apply yM h;intro a args h;simp only[and_eq_true,beq_iff_eq]at h;obtain⟨⟨⟨⟨⟨h1,h2⟩,h3⟩,h4⟩,h5⟩,h6⟩:=h;subst h1;obtain⟨g1,g2,g3⟩:=c.gl h2;have hm:=c.blt _ (show ("range":Str)∈bltNames by decide);refine⟨?_,λx=>rfl⟩;have hA:=hs.1 Γ k X cl EX (a::args) c (by rw[aV.eq_def];simp[h3,h4,h5]);cases args with
   |nil=>
    cases es with
    |cons i dZ=>rw[aV.eq_def]at h5;cases h5
    |nil=>
     refine(AW g1 hm hA (bq h3)).imp λσ H R aO=>?_;obtain⟨ρ,env,h,hE,r,p⟩:=aO;refine⟨ρ,env,h,hE,r,fk p λvs h1 ρ1 H1 e1 Vo r1 p1 xs q1=>?_⟩;obtain⟨src,e2,w1,w2⟩:=cG r1 p1
     match vs,e2 with
     |[.int n],e2=>
      change (if inR n=true then some (Src.fix (bZ 0 n.toNat)) else none)=some src at e2;split at e2
      ·rename_i hn;cases e2;simp only[inR,and_eq_true,decide_eq_true_eq]at hn;obtain⟨x,rfl,hx⟩:=aE.one q1;rw[VR]at hx;subst hx;exact⟨n,rfl,hn.1,hn.2,w2 _ nZ⟩
      ·cases e2
     |[.int _,.int _],e2=>have:=jZ (Γ:=Γ) (ls:=[a]) (by rw[aV.eq_def];simp[h3,h4,aV]) e1;simp at this
   |cons b args=>
    cases args with
    |cons _ _=>have:=Zv h6;simp only[length_cons]at this;omega
    |nil=>
     have hb:noStar b=true:=by
      cases es with
      |nil=>rw[aV]at h5;cases h5
      |cons i dZ=>rw[aV.eq_def]at h5;dsimp only at h5;simp only[and_eq_true]at h5;exact h5.1.1
     refine(AX g1 hm hA (by rw[bq h3,bq hb];rfl) (by rw[bq hb];rfl)).imp λσ H R aO=>?_;obtain⟨ρ,env,h,hE,r,p⟩:=aO;refine⟨ρ,env,h,hE,r,fk p λvs h1 ρ1 H1 e1 Vo r1 p1 xs q1=>?_⟩;obtain⟨src,e2,w1,w2⟩:=cG r1 p1
     match vs,e2 with
     |[.int _],e2=>have:=jZ (Γ:=Γ) (ls:=[a,b]) (by rw[aV.eq_def];simp[h3,h4,h5]) e1;simp at this
     |[.int lo,.int hi],e2=>
      change (if (inR lo&&inR hi)=true then some (Src.fix (bZ lo (hi-lo).toNat)) else none)=some src at e2;split at e2
      ·rename_i hn;cases e2;simp only[inR,and_eq_true,decide_eq_true_eq]at hn;obtain⟨x,y,rfl,hx,hy⟩:=aE.two q1;rw[VR]at hx;rw[VR]at hy;subst hx;subst hy;exact⟨lo,hi,rfl,⟨hn.1.1,hn.1.2,hn.2.1,hn.2.2⟩,w2 _ nZ⟩
      ·cases e2
  |enum=>cases h
  |zip=>
   cases es with
   |nil=>cases h
   |cons e2 es=>
   replace h:=DK h;obtain⟨rfl,h⟩:=h;apply nY h;intro x xp q1 pos h;apply PZ h;intro a b h;simp only[and_eq_true,beq_iff_eq]at h;obtain⟨⟨⟨⟨⟨h1,h2⟩,h3⟩,h4⟩,h5⟩,h6⟩:=h;subst h1;obtain⟨g1,g2,g3⟩:=c.gl h2;have hm:=c.blt _ (show ("zip":Str)∈bltNames by decide);obtain⟨Y0,tk,tp,rfl⟩:=ht (.inr rfl);refine⟨?_,λx=>rfl⟩;have hA:=hs.1 Γ k X cl EX [a,b] c (by rw[aV.eq_def];simp[h3,h4,h5,h6,aV]);refine(Lz g1 hm hA (by rw[bq h3,bq h5];rfl) (by rw[bq h5];rfl)).imp λσ H R aO=>?_;obtain⟨ρ,env,h,hE,r,p⟩:=aO;refine⟨ρ,env,h,hE,r,fk p λvs h1 ρ1 H1 e1 Vo r1 p1 xs q1=>?_⟩;obtain⟨src,e3,⟨zs,w1⟩,w2⟩:=cG r1 p1
   match vs,e3 with
   |[v,w],e3=>cases e3;obtain⟨x,y,rfl,hx,hy⟩:=aE.two q1;obtain⟨us,ws,w3,w4,_⟩:=kN w1;obtain⟨b1,rfl,k1⟩:=z5 (B:=bd X cl) hx w3;obtain⟨b2,rfl,k2⟩:=z5 (B:=bd X cl) hy w4;obtain⟨ys,m1,_⟩:=k1 Gr.refl.w r1 w3;obtain⟨ys',m2,_⟩:=k2 Gr.refl.w r1 w4;exact⟨b1,b2,rfl,⟨ys,m1⟩,⟨ys',m2⟩,w2 _ (BN k1 k2)⟩
end
section
variable {Φ:Fn} {Γ:qX} {k:Nat} {X:Cx} {cl:Nat->Addr} {EX:Nat->List V->Hp->Prop}
def ql:List Nat->Og
 |[]=>OU
 |i::is=>JR (rQ i) (ql is)
def BO(K:Frag):yI->TG
 |.one i=>rQ i
 |.tup is=>OV K is.length (ql is)
def iE:List Nat->List V->L2.St->L2.St
 |i::is,v::vs,σ=>iE is vs (σ.set i (some v))
 |_,_,σ=>σ
theorem nC:∀{is:List Nat} {vs:List V} {σ:L2.St} {H:Hp} {Q:L2.St->Hp->Prop},vs.length=is.length->Q (iE is vs σ) H->ql is vs σ H Q
 |[],[],_,_,_,_,h=>⟨rfl,h⟩
 |i::is,v::vs,σ,H,Q,hl,h=>⟨v,vs,rfl,nC (by simpa using hl) h⟩
theorem sU(hnd:X.N.Nodup):∀{is:List Nat} {es:List Expr},es.length=is.length->(∀p∈is.zip es,∃x pos,p.2=.Name x pos/\X.N[p.1]?=some x/\X.env.scope.names.lookup x=some .local)->Oh X es (ql is)
 |[],[],_,_=>zm
 | i::is,e::es,hl,h=>by
  obtain⟨x,pos,rfl,h1,h2⟩:=h (i,e) (by simp);exact vm (oY hnd h1 (.inl h2) (.inr h2)) (sU hnd (by simpa using hl) λp hp=>h p (by simp[hp]))
theorem gG:∀{es:List Expr},(∀e∈es,∃x pos,e=.Name x pos)->(assignEach es env).length=es.length/\(assignEach es env).findIdx? (·.1)=none
 |[],_=>⟨rfl,rfl⟩
 | e::es,h=>by
  obtain⟨x,pos,rfl⟩:=h e Zk;obtain⟨h1,h2⟩:=gG (env:=env) (es:=es) λe he=>h e (Zh _ he);have e1:assignEach (Expr.Name x pos::es) env=(false,assign (Expr.Name x pos) env)::assignEach es env:=rfl;rw[e1];refine⟨by simp[h1],?_⟩;rw[List.findIdx?_cons,h2];rfl
theorem DS{i:Nat}(h:BH Γ (.one i) tg=true):∃x p,tg=.Name x p:=by
 cases tg<;>first|exact⟨_,_,rfl⟩|exact absurd h Y9
theorem wo{is:List Nat}(h:BH Γ (.tup is) tg=true):∃es k p,tg=.Tuple es k p:=by
 cases tg<;>first|exact⟨_,_,_,rfl⟩|exact absurd h Y9
theorem MD(c:Ctx Φ Γ k X cl EX)(hnd:X.N.Nodup)(h:BH Γ pat tg=true):PG X tg (BO X.K pat):=by
 cases pat with
 |one i=>obtain⟨x,xp,rfl⟩:=DS h;simp only[BH,and_eq_true,beq_iff_eq]at h;obtain⟨h1,h2⟩:=h;exact oY hnd (by rw[c.N];exact h1) (.inl (by rw[c.sc];exact h2)) (.inr (by rw[c.sc];exact h2))
 |tup is=>
  obtain⟨es,kk,pos,rfl⟩:=wo h
  ·
   simp only[BH,and_eq_true,beq_iff_eq,all_eq_true]at h;obtain⟨h1,h2⟩:=h;have names:∀p∈is.zip es,∃x pos,p.2=.Name x pos/\X.N[p.1]?=some x/\X.env.scope.names.lookup x=some .local:=λp hp=>by
    have q:=h2 p hp;cases ep:p.2<;>rw[ep]at q<;>simp at q;rename_i x pos';exact⟨x,pos',rfl,by rw[c.N];exact q.1,by rw[c.sc];exact q.2⟩
   have all:∀e∈es,∃x pos,e=.Name x pos:=λe he=>by
    obtain⟨n,hn,rfl⟩:=List.getElem_of_mem he;have hm:(is[n]'(by omega),es[n])∈is.zip es:=List.mem_iff_getElem?.mpr ⟨n,by rw[List.getElem?_zip_eq_some];simp[hn]⟩;obtain⟨x,pos,q,_⟩:=names _ hm;exact⟨x,pos,q⟩
   obtain⟨l1,l2⟩:=gG (env:=X.env) all;exact CC c.calm (sU hnd h1 names) (by rw[l1,h1]) l2
def wu(Γ:qX):yI->Expr->Bool
 |.one i,.Name x _=>Γ.N[i]?==some x&&(Γ.sc.names.lookup x==some .local || Γ.sc.names.lookup x==some .cell)
 | .tup is,.Tuple es _ _=>es.length==is.length&&(is.zip es).all λp=>match p.2 with
  |.Name x _=>Γ.N[p.1]?==some x&&(Γ.sc.names.lookup x==some .local || Γ.sc.names.lookup x==some .cell)
  |_=>false
 |_,_=>false
theorem qm(hfn:∀x,X.fn x=true)(hnd:X.N.Nodup):∀{is:List Nat} {es:List Expr},es.length=is.length->(∀p∈is.zip es,∃x pos,p.2=.Name x pos/\X.N[p.1]?=some x/\Loc X.env.scope x)->Oh X es (ql is)
 |[],[],_,_=>zm
 | i::is,e::es,hl,h=>by
  obtain⟨x,pos,rfl,h1,h2⟩:=h (i,e) (by simp);exact vm (oY hnd h1 h2 (.inl (hfn x))) (qm hfn hnd (by simpa using hl) λp hp=>h p (by simp[hp]))
theorem qo{i:Nat}(h:wu Γ (.one i) tg=true):∃x p,tg=.Name x p:=by
 cases tg<;>first|exact⟨_,_,rfl⟩|exact absurd h Y9
theorem mD{is:List Nat}(h:wu Γ (.tup is) tg=true):∃es k p,tg=.Tuple es k p:=by
 cases tg<;>first|exact⟨_,_,_,rfl⟩|exact absurd h Y9
theorem z6(c:Ctx Φ Γ k X cl EX)(hfn:∀x,X.fn x=true)(hnd:X.N.Nodup)(h:wu Γ pat tg=true):PG X tg (BO X.K pat):=by
 have loc:∀x,(Γ.sc.names.lookup x==some .local || Γ.sc.names.lookup x==some .cell)=true->Loc X.env.scope x:=λx e=>by
  unfold L2.Loc;rw[c.sc];simpa using e
 cases pat with
 |one i=>obtain⟨x,pos,rfl⟩:=qo h;simp only[wu,and_eq_true,beq_iff_eq]at h;obtain⟨h1,h2⟩:=h;exact oY hnd (by rw[c.N];exact h1) (loc _ h2) (.inl (hfn _))
 |tup is=>
  obtain⟨es,kk,pos,rfl⟩:=mD h
  ·
   simp only[wu,and_eq_true,beq_iff_eq,all_eq_true]at h;obtain⟨h1,h2⟩:=h;have names:∀p∈is.zip es,∃x pos,p.2=.Name x pos/\X.N[p.1]?=some x/\Loc X.env.scope x:=λp hp=>by
    have q:=h2 p hp;cases ep:p.2<;>rw[ep]at q<;>first|cases q|skip
    rename_i x pos';simp only[and_eq_true,beq_iff_eq]at q;exact⟨x,pos',rfl,by rw[c.N];exact q.1,loc _ q.2⟩
   have all:∀e∈es,∃x pos,e=.Name x pos:=λe he=>by
    obtain⟨n,hn,rfl⟩:=List.getElem_of_mem he;have hm:(is[n]'(by omega),es[n])∈is.zip es:=List.mem_iff_getElem?.mpr ⟨n,by rw[List.getElem?_zip_eq_some];simp[hn]⟩;obtain⟨x,pos,q,_⟩:=names _ hm;exact⟨x,pos,q⟩
   obtain⟨l1,l2⟩:=gG (env:=X.env) all;exact CC c.calm (qm hfn hnd h1 names) (by rw[l1,h1]) l2
theorem cW.set{K:Frag}{ρ:List Addr}{env:Env}{σ:L2.St}{H:Hp}{i:Nat}{v:Val}{x:V}(e:cW K ρ env σ H)(hl:env.length = σ.length)(q:VR K ρ H v x):cW K ρ (env.set i (some v)) (σ.set i (some x)) H:=λj w hj=>by
 by_cases hij:i=j
 ·subst hij
  have hi:i<env.length:=by have:=(Zb.mp hj).1;simpa using this
  rw[Zl hi]at hj;cases hj;exact⟨x,by rw[Zl (by rw[<-hl];exact hi)],q⟩
 ·rw[Zd hij]at hj;rw[Zd hij];exact e j w hj
theorem lI{K:Frag}{ρ:List Addr}{H:Hp}:∀{is:List Nat} {ds:List Val} {xs:List V} {env env':Env} {σ:L2.St},bindAll is ds env=some env'->aE K ρ H ds xs->cW K ρ env σ H->env.length = σ.length->cW K ρ env' (iE is xs σ) H/\env'.length=(iE is xs σ).length/\(iE is xs σ).length = σ.length/\xs.length=is.length
 | [],[],xs,env,env',σ,e,q,hE,hl=>by
  rw[aE]at q;subst q;simp only[bindAll]at e;cases e;exact⟨hE,hl,rfl,rfl⟩
 | i::is,d::ds,xs,env,env',σ,e,q,hE,hl=>by
  rw[aE]at q;obtain⟨x,r,rfl,q1,q2⟩:=q;simp only[bindAll]at e;obtain⟨a1,a2,a3,a4⟩:=lI e q2 (hE.set hl q1) (by simp[hl]);exact⟨a1,a2,by rw[show iE (i::is) (x::r) σ = iE is r (σ.set i (some x)) from rfl,a3];simp,by simp[a4]⟩
 |[],_::_,_,_,_,_,e,_,_,_=>by simp[bindAll]at e
 |_::_,[],_,_,_,_,e,_,_,_=>by simp[bindAll]at e
theorem z7{K:Frag}{ρ:List Addr}{H:Hp}{pat:yI}{v:Val}{x:V}{env env':Env}{σ:L2.St}{Q:L2.St->Hp->Prop}(e:fJ pat v env=some env')(q:VR K ρ H v x)(hE:cW K ρ env σ H)(hl:env.length = σ.length)
  (kk:∀σ',cW K ρ env' σ' H->env'.length = σ'.length -> σ'.length = σ.length->Q σ' H):BO K pat x σ H Q:=by
 cases pat with
 |one i=>simp only[fJ]at e;cases e;exact kk _ (hE.set hl q) (by simp[hl]) (by simp)
 |tup is=>
  cases v<;>simp only[fJ]at e<;>first|cases e|skip
  rw[VR]at q;obtain⟨a,xs,rfl,q1,q2⟩:=q;obtain⟨a1,a2,a3,a4⟩:=lI e q2 hE hl;exact⟨a,xs,rfl,q1,a4,nC a4 (kk _ a1 a2 a3)⟩
theorem kO{α β:Type}{W:β -> Hs->List Addr->Hp->Prop}{W':α -> Hs->List Addr->Hp->Prop}{m:M α}{f:α -> M β}(g:Gr ρ H ρ' H')(p:Post B EX ρ H W (bnd m f h))
  (kk:∀v h1 ρ2 H2,m h=.ok v h1->Post B EX ρ H W (f v h1)->Gr ρ' H' ρ2 H2->HR B ρ2 h1 H2->W' v h1 ρ2 H2):Post B EX ρ' H' W' (m h):=by
 unfold bnd at p;cases e:m h with
 |ok v h1=>rw[e]at p;exact λρ2 H2 g2 r2=>kk v h1 ρ2 H2 e p g2 r2
 |exc c vs h1=>rw[e]at p;exact λρ2 H2 xs g2 r2 q=>p ρ2 H2 xs (g.trans g2) r2 q
 |no=>rw[e]at p;exact p
theorem HR.adopt(r:HR B ρ h H)(hD:D ∉ ρ)(q:OR B (ρ ++ [D]) H D u):HR B (ρ ++ [D]) (h++[u]) H where
 len:=by simp[r.len]
 nd:=by rw[nodup_append];refine⟨r.nd,by simp,λa ha b hb=>?_⟩;rw[Zs.mp hb];rintro rfl;exact hD ha
 ob i v a q1 q2:=by
  by_cases hi:i<h.length
  ·rw[Zp hi]at q1;rw[Zp (by rw[r.len];exact hi)]at q2;exact OR.kU ⟨prefix_append _ _,λ_ _ e _=>e⟩ rfl (r.ob i v a q1 q2)
  ·rw[ZD (by omega)]at q1
   rw[ZD (by rw[r.len];omega)]at q2;have hi0:i-h.length=0:=by have:=(Zb.mp q1).1;simp at this;omega
   rw[hi0]at q1;rw[r.len,hi0]at q2;simp at q1 q2;subst q1;subst q2;exact q
theorem Gr.over(g:Gr ρ H ρ' H')(hD:H D=none):Gr ρ H ρ' (upd H' D o) where
 pre:=g.pre
 keep a u e n:=by rw[aL (aW e hD)];exact g.keep a u e n
 firm a u e n:=by rw[aL (aW e hD)];exact g.firm a u e n
 fresh:=g.fresh
theorem Gr.adopt(g:Gr ρ H ρ' H')(hD:H D=none):Gr ρ H (ρ'++[D]) H' where
 pre:=g.pre.trans (prefix_append _ _)
 keep:=g.keep
 firm:=g.firm
 fresh a z n:=by
  rcases ZP.mp z with z|z
  ·exact g.fresh a z n
  ·rw[Zs.mp z];exact hD
theorem Iz{K:Frag}{ρ:List Addr}{env:Env}{σ:L2.St}{H:Hp}{js:List (Option Nat)}(e:cW K ρ env σ H):cW K ρ (jX js env) (jk js σ) H:=λi v q=>by
 unfold jX at q;rw[Zx]at q;cases hj:js[i]? with
 |none=>rw[hj]at q;cases q
 |some o=>
  rw[hj]at q;simp only[map_some]at q;cases o with
  |none=>cases q
  |some j=>
   dsimp only at q;cases ej:env[j]? with
   |none=>rw[ej]at q;cases q
   |some w=>
    cases w with
    |none=>rw[ej]at q;cases q
    |some d=>rw[ej]at q;cases q;obtain⟨x,q1,q2⟩:=e j _ ej;refine⟨x,?_,q2⟩;unfold jk;rw[Zx,hj];simp only[map_some];rw[q1]
theorem DT{K:Frag}{ρ:List Addr}{env:Env}{σ σ':L2.St}{H:Hp}{js:List (Option Nat)}{pat:yI}(hp:(v9 pat).all (λi=>js[i]?==some none)=true)(e:cW K ρ (jX js env) σ H)(hs:∀i,i∉v9 pat -> σ'[i]? = σ[i]?):cW K ρ (jX js env) σ' H:=λi v q=>by
 have hi:i∉v9 pat:=λz=>by
  have h1:=all_eq_true.mp hp i z;have h2:js[i]?=some none:=eq_of_beq h1;unfold jX at q;rw[Zx,h2]at q;cases q
 obtain⟨x,q1,q2⟩:=e i v q;exact⟨x,(hs i hi).trans q1,q2⟩
theorem qq:∀{is:List Nat} {xs:List V} {σ:L2.St} {i:Nat},i∉is->(iE is xs σ)[i]? = σ[i]?
 |[],xs,σ,i,_=>by cases xs<;>rfl
 |j::is,[],σ,i,_=>rfl
 | j::is,x::xs,σ,i,h=>by
  rw[show iE (j::is) (x::xs) σ = iE is xs (σ.set j (some x)) from rfl,qq λz=>h (Zh _ z),Zd λz=>h (by rw[z];exact Zk)]
theorem DU{K:Frag}{ρ:List Addr}{H:Hp}{pat:yI}{v:Val}{x:V}{env env':Env}{σ:L2.St}{Q:L2.St->Hp->Prop}(e:fJ pat v env=some env')(q:VR K ρ H v x)(hE:cW K ρ env σ H)(hl:env.length = σ.length)
  (kk:∀σ',cW K ρ env' σ' H -> σ'.length = σ.length->(∀i,i∉v9 pat -> σ'[i]? = σ[i]?)->Q σ' H):BO K pat x σ H Q:=by
 cases pat with
 |one i=>simp only[fJ]at e;cases e;exact kk _ (hE.set hl q) (by simp) λj hj=>Zd λz=>hj (by rw[z];exact Zs.mpr rfl)
 |tup is=>
  cases v<;>simp only[fJ]at e<;>first|cases e|skip
  rw[VR]at q;obtain⟨a,xs,rfl,q1,q2⟩:=q;obtain⟨a1,a2,a3,a4⟩:=lI e q2 hE hl;exact⟨a,xs,rfl,q1,a4,nC a4 (kk _ a1 a3 λj hj=>qq hj)⟩
theorem qt(hs:kW Φ it)(hc:b9 Φ t)(he:b9 Φ elt)(c:Ctx Φ Γ k X cl EX)(h:bJ Γ (.comp N' js pat ik it t elt) e=true) :
  ∃e' tg iter ifs scope pos wi g tt te,e=.ListComp e' [⟨tg,iter,ifs,0⟩] scope pos/\kJ X.N X.env.scope scope N' js=true/\PI X tg iter wi/\(∀cls C s H fp,PG (bS X scope N' cls C s H fp) tg g)/\(∀cls C s H fp,Hz (bS X scope N' cls C s H fp) ifs tt) /\
   (∀cls C s H fp,PE (bS X scope N' cls C s H fp) e' te)/\(∀x,foldedSetIterable iter X.env x=pure x)/\∀σ H Q,tV Φ (bd X cl) EX (.comp N' js pat ik it t elt) σ H Q->C5 wi js g tt te σ H Q:=by
 apply HX h;intro e' q1 scope pos h;apply oN h;intro q2 h;apply LX h;intro tg iter ifs q3 h;apply v7 h;intro h;simp only[and_eq_true]at h;obtain⟨⟨⟨⟨⟨⟨⟨h1,h2⟩,h3⟩,h4⟩,h5⟩,h6⟩,h7⟩,h8⟩:=h;have hnd:N'.Nodup:=Zv h3;have hen:ik=.enum\/ik=.zip->∃es kk pos,tg=.Tuple es kk pos:=by
  intro hz;cases pat with
  |one i=>rcases hz with rfl|rfl<;>cases h6
  |tup is=>exact wo h4
 obtain⟨hi,hf⟩:=J8 hs c h2 hen
 let tt:TT:=if dm t=true then vD else tT Φ (bd X cl) EX t
 have Tf:∀cls C s H fp,Hz (bS X scope N' cls C s H fp) ifs tt:=λcls C s H fp=>by
  have c':=c.J6 scope N' cls C s H fp;cases ifs with
  |nil=>have:dm t=true:=h7;show Hz _ [] (if dm t=true then vD else tT Φ (bd X cl) EX t);rw[Zg this];exact HD
  |cons a r=>
   cases r with
   |cons _ _=>cases h7
   |nil=>simp only[and_eq_true,not_eq_true']at h7;show Hz _ [a] (if dm t=true then vD else tT Φ (bd X cl) EX t);rw[Zi (by rw[h7.1];exact Y9)];exact HE (hc _ _ _ _ _ _ c' h7.2).2
 refine⟨e',tg,iter,ifs,scope,pos,_,BO X.K pat,tt,tV Φ (bd X cl) EX elt,rfl,by rw[c.N,c.sc];exact h1,hi,λcls C s H fp=>MD (c.J6 scope N' cls C s H fp) hnd h4,Tf,λcls C s H fp=>(he _ _ _ _ _ _ (c.J6 scope N' cls C s H fp) h8).1,hf,λσ H Q ⟨ρ,env,h,hE,r,p⟩=>?_⟩
 ·skip
  simp only[aP]at p
  let f:Val->M (Option Val):=λd=>bnd (bx (fJ pat d (jX js env))) λenv'=>bnd (if dm t=true then ret true else bnd (aP Φ t env') λv=>ask λh=>gZ h v) λt=>
    if t=true then bnd (aP Φ elt env') λe=>ret (some e) else ret none
  have p':Post (bd X cl) EX ρ H (WV X.K Q) (bnd (Oq Φ ik it env) (λsrc=>bnd (ask λh=>src.items h) λxs=>aQ (decide (xs.length<=100000)) (bnd (fK src f xs.length 0 []) λys=>new (.lst ys))) h):=by unfold Oq;rw[bh];exact p
  refine⟨ρ,env,h,hE,r,bN p' λsrc h1 ρ1 H1 g1 r1 p1=>?_⟩;obtain⟨xs,e1,p2⟩:=aI p1;obtain⟨e2,p3⟩:=aX p2;have e2:=Zv e2;refine⟨⟨xs,e1⟩,λJ wk D hD=>?_⟩;have Y3:(100000:Nat)<sizeLine:=by rw[sizeLine_eq];decide
  refine⟨λi m σ' H'=>∃ρ' h' acc ys,Gr ρ1 H1 ρ' H'/\HR (bd X cl) ρ' h' H'/\D ∉ ρ'/\H' D=some (.lst ys)/\aE X.K ρ' H' acc ys/\cW X.K ρ' (jX js env) σ' H' /\ σ'.length=js.length/\acc.length<=i/\i+m=xs.length /\
   Post (bd X cl) EX ρ1 H1 (WV X.K Q) (bnd (fK src f m i acc) (λys=>new (.lst ys)) h'),⟨xs.length,ρ1,h1,[],[],Gr.side hD,r1.side hD,r1.out hD,bg,aE.nil,(Iz (hE.up g1)).up (Gr.side hD),kZ js σ,Zm _,by omega,p3⟩,?_⟩
  rintro i m σ' H' ⟨ρ',h',acc,ys,w1,w2,w3,w4,w5,w6,w7,w8,w9,uz⟩;have fin:∀p:Post (bd X cl) EX ρ1 H1 (WV X.K Q) (new (.lst acc) h'),Q (.ref D) H':=λp=>by
   refine p (ρ'++[D]) H' (w1.adopt hD) (w2.adopt w3 ⟨ys,w4,aE.kU ⟨prefix_append _ _,λ_ _ e _=>e⟩ _ _ w5⟩) _ (VR.ref (by rw[<-w2.len];simp))
  cases m with
  |zero=>
   simp only[fK,bh]at uz;obtain⟨xs',k1,uz⟩:=aI uz;have Qg:Post (bd X cl) EX ρ1 H1 (WV X.K Q) (bnd (aQ (decide (xs'.length<=i)) (ret acc)) (λys=>new (.lst ys)) h'):=uz;unfold aQ at Qg
   by_cases hl:xs'.length<=i
   ·have:bnd (λh=>if decide (xs'.length<=i)=true then ret acc h else Out.no) (λys=>new (.lst ys)) h'=new (.lst acc) h':=by
     unfold bnd;dsimp only;rw[Zg (decide_eq_true hl)];rfl
    rw[this] at Qg;exact .inl ⟨wk.stop w1.w w2 k1 hl,fin Qg⟩
   ·have:bnd (λh=>if decide (xs'.length<=i)=true then ret acc h else Out.no) (λys=>new (.lst ys)) h'=Out.no:=by
     unfold bnd;dsimp only;rw[Zi (by rw[decide_eq_false hl];exact Y9)]
    rw[this] at Qg;exact Qg.elim
  |succ m=>
   simp only[fK,bh]at uz;obtain⟨xs',k1,uz⟩:=aI uz;cases hx:xs'[i]? with
   |none=>rw[hx]at uz;exact .inl ⟨wk.stop w1.w w2 k1 (List.getElem?_eq_none_iff.mp hx),fin uz⟩
   |some v=>
    rw[hx]at uz;dsimp only at uz;refine .inr ⟨wk.go w1.w w2 k1 hx,_,λCq Lr w=>⟨m,lt_succ_self _,w⟩,λy H2 hy=>?_⟩;obtain⟨z1,z2,z3⟩:=wk.AS w1.w w2 k1 hx hy;simp only[bh]at uz;simp only[f,bh]at uz;obtain⟨env',k2,uz⟩:=cD uz;refine DU k2 z3 (w6.up z1) (by rw[w7];simp[jX]) λσ2 Sq hl2 hout=>?_;have Qh:H2 D=some (.lst ys):=z1.keep _ _ w4 w3;have G2:Gr ρ1 H1 ρ' H2:=w1.trans z1;have body:∀(b:Bool) (h3:Hs) (ρ3:List Addr) (H3:Hp),Gr ρ' H2 ρ3 H3->HR (bd X cl) ρ3 h3 H3->Post (bd X cl) EX ρ1 H1 (WV X.K Q) (bnd (if b=true then bnd (aP Φ elt env') λe=>ret (some e) else ret none) (λo=>bnd (fK src f m (i+1) (match o with|some e=>acc++[e]|none=>acc)) λys=>new (.lst ys)) h3) ->
      (if b=true then tV Φ (bd X cl) EX elt σ2 H3 (λy H4=>∃ys,H4 D=some (.lst ys)/\ys.length<sizeLine/\(λσ' H'=>∃ρ' h' acc ys,Gr ρ1 H1 ρ' H'/\HR (bd X cl) ρ' h' H'/\D ∉ ρ'/\H' D=some (.lst ys)/\aE X.K ρ' H' acc ys/\cW X.K ρ' (jX js env) σ' H' /\ σ'.length=js.length/\acc.length<=i+1/\i+1+m=xs.length /\
       Post (bd X cl) EX ρ1 H1 (WV X.K Q) (bnd (fK src f m (i+1) acc) (λys=>new (.lst ys)) h')) σ2 (upd H4 D (.lst (ys++[y]))))
      else (λσ' H'=>∃ρ' h' acc ys,Gr ρ1 H1 ρ' H'/\HR (bd X cl) ρ' h' H'/\D ∉ ρ'/\H' D=some (.lst ys)/\aE X.K ρ' H' acc ys/\cW X.K ρ' (jX js env) σ' H' /\ σ'.length=js.length/\acc.length<=i+1/\i+1+m=xs.length /\
       Post (bd X cl) EX ρ1 H1 (WV X.K Q) (bnd (fK src f m (i+1) acc) (λys=>new (.lst ys)) h')) σ2 H3):=by
     intro b h3 ρ3 H3 g3 r3 p5;have Ua:D ∉ ρ3:=λz=>by have:=g3.fresh D z w3;rw[Qh]at this;cases this
     have Ub:H3 D=some (.lst ys):=g3.keep _ _ Qh w3;have E3:cW X.K ρ3 (jX js env) σ2 H3:=(DT h5 (w6.up z1) hout).up g3;cases b with
     |true=>
      rw[Zg rfl]at p5 |-;simp only[bh,cP]at p5;refine⟨ρ3,env',h3,Sq.up g3,r3,kO (G2.trans g3) p5 λv4 h4 ρ4 H4 _ p6 g4 r4 y4 q4=>?_⟩;have Vp:D ∉ ρ4:=λz=>by have:=g4.fresh D z Ua;rw[Ub]at this;cases this
      have Uc:H4 D=some (.lst ys):=g4.keep _ _ Ub Ua;have gw:Gw ρ4 H4 ρ4 (upd H4 D (.lst (ys++[y4]))):=Gw.other Uc rfl;have la:=w5.length;refine⟨ys,Uc,by omega,ρ4,h4,acc++[v4],ys++[y4],((G2.trans g3).trans g4).over hD,r4.other Vp Uc rfl,Vp,bg,aE.append (aE.kU gw _ _ (aE.up ((z1.trans g3).trans g4) _ _ w5)) (aE.kU gw _ _ (aE.cons q4 aE.nil)),(E3.up g4).kU gw,by rw[hl2,w7],by simp;omega,by omega,p6⟩
     |false=>rw[Zi Y9]at p5 |-;exact⟨ρ3,h3,acc,ys,G2.trans g3,r3,Ua,Ub,aE.up (z1.trans g3) _ _ w5,E3,by rw[hl2,w7],by omega,by omega,p5⟩
    show (if dm t=true then vD else tT Φ (bd X cl) EX t) σ2 H2 _
    by_cases hn:dm t=true
    ·rw[Zg hn];rw[Zg hn,cP]at uz;exact body true h' ρ' H2 Gr.refl z2 uz
    ·rw[Zi hn];rw[Zi hn]at uz;exact⟨ρ',env',h',Sq,z2,kO G2 uz λb h3 ρ3 H3 _ p5 g3 r3=>body b h3 ρ3 H3 g3 r3 p5⟩
theorem ID(hs:kW Φ it)(hc:b9 Φ t)(he:b9 Φ elt):b9 Φ (.comp N' js pat ik it t elt):=by
 intro Γ k X cl EX e c h;obtain⟨e',tg,iter,ifs,scope,pos,wi,g,tt,te,rfl,h1,h2,h3,h4,h5,h6,h7⟩:=qt hs hc he c h;have q:=(HF (pos:=pos) h1 c.calm h2 h3 h4 h5 h6).imp h7;exact⟨q,dh q λ_=>rfl⟩
theorem IF{k v:IE}(hk:b9 Φ k)(hv:b9 Φ v):b9 Φ (.dct1 k v):=by
 intro Γ n X cl EX e c h;apply zO h;intro q1 q2 pos h;apply oN h;intro q3 h;apply zQ h;intro a h;apply oN h;intro b h;simp only[and_eq_true]at h;have q:PE X (.Dict [some a] [b] pos) (tV Φ (bd X cl) EX (.dct1 k v)):=by
  refine(Hx (CZ (hk Γ n X cl EX a c h.1).1 (hv Γ n X cl EX b c h.2).1 Hw) rfl rfl (by simp) (by simp)).imp λσ H Q aO=>?_;obtain⟨ρ,env,h,hE,r,p⟩:=aO;intro D hD;have g0:Gr ρ H ρ (upd H D (.dK [])):=Gr.side hD;simp only[aP]at p;refine⟨ρ,env,h,hE.up g0,r.side hD,kO g0 p λx h1 ρ1 H1 _ p1 g1 r1 y1 q1=>?_⟩;obtain⟨kk,e1,p1⟩:=cD p1;refine⟨ρ1,env,h1,(hE.up g0).up g1,r1,kO (g0.trans g1) p1 λy h2 ρ2 H2 _ p2 g2 r2 y2 q2=>?_⟩;have Vq:D ∉ ρ:=r.out hD;have Qh:D ∉ ρ2:=λz=>by have:=(g1.trans g2).fresh D z Vq;rw[bg]at this;cases this
  have e2:H2 D=some (.dK []):=(g1.trans g2).keep D _ bg Vq;have ek:y1=kV kk:=by
   cases x<;>first|(cases e1;done)|skip
   ·cases e1;rw[VR]at q1;exact q1
   ·cases e1;rw[VR]at q1;exact q1
  refine⟨e2,[(kk,y2)],by rw[ek];rfl,by simp,?_⟩;have gw:Gw ρ2 H2 (ρ2++[D]) (upd H2 D (.dK (ng [] [(kk,y2)]))):=⟨prefix_append _ _,(Gw.other (ρ:=ρ2) e2 rfl).firm⟩;exact p2 (ρ2++[D]) _ ((((g0.trans g1).trans g2).over hD).adopt hD) ((r2.other Qh e2 rfl).adopt Qh ⟨[(kk,y2)],bg,y2,[],rfl,VR.kU gw _ _ q2,rfl⟩) _ (zH r2)
 exact⟨q,dh q λ_=>rfl⟩
theorem IG{p q:Nat}:b9 Φ (.dflt N' js p q d w):=lH λ_ _=>rfl
theorem ME(ha:b9 Φ a):b9 Φ (.isc a x bs):=lH λ_ _=>rfl
theorem nD:(∀ir,b9 Φ ir)/\∀dZ,kW Φ dZ:=by
 have one:∀ir,b9 Φ ir:=by
  intro ir;exact IE.rec (motive_1:=λir=>b9 Φ ir) (motive_2:=λdZ=>kW Φ dZ) (λ_=>Ma) (λ_=>Mb) (λ_ _=>Mc) Qa (λ_ _ _ a b=>Mf a b) (λ_ a=>Mg a) (λ_ _ _ a b=>Mh a b) (λ_ _ _ _ _ a b c=>Mi a b c)
   (λ_ _ a b=>Mj a b) (λ_ _ a b=>Qc a b) (λ_ a=>Ml a) (λ_ _ _ a b c=>Mm a b c) (λ_ a=>Mn a) (λ_ a=>Mp a) (λ_ _ a b=>Mq a b) (λ_ _ _ a b c=>Mr a b c) (λ_ _ a=>Ij a) (λ_ _ a=>MB a)
   (λ_ _ _ a b=>MC a b) (λ_ _ _ _ _ _ _ a b c=>ID a b c) Ih (λ_ a=>Ir a) (λ_ _ _ a b c=>Iu a b c) (λ_ _ a b=>IF a b) (λ_ a=>DO a) (λ_ _ _ a b c=>Iv a b c) (λ_ a=>DQ a) (λ_ a=>DP a) (λ_ _ _ a=>Mt a) (λ_ _ _ _ a b=>Mv a b) (λ_ _ a b=>Ms a b) (λ_ _ _ _ _ _ _ _=>IG) (λ_ _ _ a=>ME a) DL (λ_ _ a b=>zV a b) ir
 refine⟨one,λdZ=>?_⟩
 induction dZ using kM.rec (motive_1:=λ_=>True) with
 |nil=>exact DL
 |cons e es _ ih=>exact zV (one e) ih
 |_=>trivial
end
def nG:Expr->Bool
 |.ListComp ..=>false|.SetComp ..=>false|.DictComp ..=>false
 |_=>true
def Qi:Expr->Bool
 |.Tuple ..=>false
 |_=>true
def Ud:Expr->Bool
 |.SetComp ..=>false|.DictComp ..=>false
 |_=>true
mutual
noncomputable def Qj(Γ:qX):IS->Stmt->Bool
 |.expr e,s=>DH (λx _=>nG x&&bJ Γ e x) s
 |.asg p e,s=>HY (λq1 x _=>k1 (λtg=>wu Γ p tg&&bJ Γ e x&&(match p with|.one _=>Ud x|.tup _=>nG x&&Qi x)) q1) s
 |.aug i o e,s=>T5 (λq1 op v _=>qj (λx _=>Γ.N[i]?==some x&&(Γ.sc.names.lookup x==some .local || Γ.sc.names.lookup x==some .cell)&&L7 o op&&(match o with|.pow=>false|_=>true)&&bJ Γ e v) q1) s
 |.gB o i v,s=>HY (λq1 x _=>k1 (λq2=>HW (λa b _=>o9 b&&nG x&&bJ Γ o a&&bJ Γ i b&&bJ Γ v x) q2) q1) s
 |.iff c a b,s=>Vk (λt x y _=>bJ Γ c t&&aT Γ a x&&aT Γ b y) s
 |.for p k it body,s=>P5 (λtg iter x q1 _=>rH q1 (wu Γ p tg&&zU Γ k it iter&&(match k,p with|.enum,.one _=>false|.zip,.one _=>false|_,_=>true)&&aT Γ body x)) s
 |.whl _ c body,s=>L0 (λt x q1 _=>rH q1 (bJ Γ c t&&aT Γ body x)) s
 |.ret e,s=>L1 (λq1 _=>DG (λx=>bJ Γ e x) q1) s
 |.Dr,s=>L1 (λq1 _=>DF q1 (true)) s
 |.brk,s=>P6 (λ_=>true) s
 |.cnt,s=>P7 (λ_=>true) s
 |.pass,s=>J4 (λ_=>true) s||DH (λq1 _=>yK (λq2 _ _=>P1 (λ_=>true) q2) q1) s
 |.never,_=>true
 |.setF n a x v,s=>HY (λq1 e _=>k1 (λq2=>zN (λo y _=>x==y&&nG e&&n == Γ.tb.nc && Γ.tb.Ia.contains x&&bJ Γ a o&&bJ Γ v e) q2) q1) s
noncomputable def aT(Γ:qX):b8->List Stmt->Bool
 |.nil,ls=>ls.isEmpty
 | .cons s r,ls=>match ls with
  |l::ls=>Qj Γ s l&&aT Γ r ls
  |[]=>false
end
structure MF (Φ:Fn) (Γ:qX) (k:Nat) (X:Cx) (cl:Nat->Addr) (EX:Nat->List V->Hp->Prop):Prop extends Ctx Φ Γ k X cl EX where
 fn:∀x,X.fn x=true
 nd:X.N.Nodup
 kind:X.env.scope.kind=.function
 xe:PassesOwn (model X.prog X.w) X.A X.env X.xe
def WF(K:Frag)(D:Ends):Fl->Hs->List Addr->Hp->Prop
 |.nx env',_,ρ',H'=>∀σ',cW K ρ' env' σ' H'->env'.length = σ'.length->D.nx σ' H'
 |.rt v,_,ρ',H'=>∀x,VR K ρ' H' v x->D.rt x H'
 |.bk env',_,ρ',H'=>∀σ',cW K ρ' env' σ' H'->env'.length = σ'.length->D.bk σ' H'
 |.ct env',_,ρ',H'=>∀σ',cW K ρ' env' σ' H'->env'.length = σ'.length->D.ct σ' H'
def tS(Φ:Fn)(B:Bd)(EX:Nat->List V->Hp->Prop)(ir:IS):TS:=λD σ H=>∃ρ env h,cW B.K ρ env σ H/\env.length = σ.length/\HR B ρ h H/\Post B EX ρ H (WF B.K D) (e7 Φ ir env h)
def Xf(Φ:Fn)(B:Bd)(EX:Nat->List V->Hp->Prop)(ir:b8):TS:=λD σ H=>∃ρ env h,cW B.K ρ env σ H/\env.length = σ.length/\HR B ρ h H/\Post B EX ρ H (WF B.K D) (ff Φ ir env h)
theorem _root_.L2.PS.imp(h:PS X e t)(i:∀D σ H,t' D σ H->t D σ H):PS X e t':=λpins s σ H D I hw=>h pins s σ H D I (i D σ H hw)
theorem _root_.L2.x9.imp(h:x9 X e t)(i:∀D σ H,t' D σ H->t D σ H):x9 X e t':=λpins s σ H D I hw=>h pins s σ H D I (i D σ H hw)
section
variable {Φ:Fn} {Γ:qX} {k:Nat} {X:Cx} {cl:Nat->Addr} {EX:Nat->List V->Hp->Prop}
def wz(Φ:Fn)(ir:IS):Prop:=∀(Γ:qX) (k:Nat) (X:Cx) (cl:Nat->Addr) (EX:Nat->List V->Hp->Prop) (st:Stmt),MF Φ Γ k X cl EX->Qj Γ ir st=true->PS X st (tS Φ (bd X cl) EX ir)
def uA(Φ:Fn)(dZ:b8):Prop:=∀(Γ:qX) (k:Nat) (X:Cx) (cl:Nat->Addr) (EX:Nat->List V->Hp->Prop) (st:List Stmt),MF Φ Γ k X cl EX->aT Γ dZ st=true->x9 X st (Xf Φ (bd X cl) EX dZ)
theorem j3{n:Nat}(h:nG e=true):swapsWith e t n env=pure false:=by
 cases e<;>first|rfl|(exact absurd h Y9)
theorem J9(ir:IE)(c:Ctx Φ Γ k X cl EX)(h:bJ Γ ir e=true):PE X e (tV Φ (bd X cl) EX ir):=(nD.1 ir Γ k X cl EX e c h).1
theorem Xg(ir:IE)(c:Ctx Φ Γ k X cl EX)(h:bJ Γ ir e=true):PT X e (tT Φ (bd X cl) EX ir):=(nD.1 ir Γ k X cl EX e c h).2
theorem Ka(hs:∀env h,e7 Φ ir env h=.no):wz Φ ir:=by
 intro Γ k X cl EX st c h;refine pJ.imp λD σ H ⟨ρ,env,h,hE,hl,r,p⟩=>?_;rw[hs]at p;exact p.elim
theorem MG:wz Φ (.expr e):=by
 intro Γ k X cl EX st c h;apply zS h;intro x _ h;simp only[and_eq_true]at h;refine(GP (J9 e c.toCtx h.2) (j3 h.1)).imp λD σ H aO=>?_;obtain⟨ρ,env,h,hE,hl,r,p⟩:=aO;simp only[e7]at p;exact⟨ρ,env,h,hE,r,aA p λv h1 ρ1 x H1 g1 r1 q1 p1=>aj r1 p1 σ (hE.up g1) hl⟩
theorem Qk:wz Φ (.asg p e):=by
 intro Γ k X cl EX st c h;apply yN h;intro q1 x pos h;apply oN h;intro tg h;simp only[and_eq_true]at h;obtain⟨⟨h1,h2⟩,h3⟩:=h;have hg:=z6 c.toCtx c.fn c.nd h1;have he:=J9 e c.toCtx h2;have fin:∀D σ H,tS Φ (bd X cl) EX (.asg p e) D σ H->GR (tV Φ (bd X cl) EX e) (BO X.K p) D σ H:=λD σ H ⟨ρ,env,h,hE,hl,r,pp⟩=>by
  simp only[e7]at pp;refine⟨ρ,env,h,hE,r,aA pp λv h1 ρ1 x H1 g1 r1 q1 p1=>?_⟩;obtain⟨env',e1,p2⟩:=cD p1;exact z7 e1 q1 (hE.up g1) hl λσ' Ue hl' _=>aj r1 p2 σ' Ue hl'
 have Xh:(assignEach [tg] X.env).map (·.2)=[assign tg X.env]:=by
  cases p with
  |one i=>obtain⟨t,tp,rfl⟩:=qo h1;rfl
  |tup is=>obtain⟨es,kk,tp,rfl⟩:=mD h1;rfl
 cases p with
 |tup is=>
  simp only[and_eq_true]at h3;refine(CD he hg ?_ ?_ Xh).imp fin
  ·show swapsWith x (some tg) _ _=_;exact j3 h3.1
  ·obtain⟨es,kk,tp,rfl⟩:=mD h1;cases x<;>first|rfl|(exact absurd h3.2 Y9)
 |one i=>
  obtain⟨t,tp,rfl⟩:=qo h1
  ·
   simp only[wu,and_eq_true,beq_iff_eq]at h1;have loc:L2.Loc X.env.scope t:=by unfold L2.Loc;rw[c.sc];simpa using h1.2
   have pl:nG x=true->PS X (.Assign [.Name t tp] x pos) (tS Φ (bd X cl) EX (.asg (.one i) e)):=λhx=>(CF c.nd (by rw[c.N];exact h1.1) loc he (j3 hx) (.inl (c.fn t))).imp fin;cases x with
   |ListComp e' gens scope p2=>
    cases hb:(X.env.kindOf t==some .local&&tp.line==p2.line && !(scope.names.any λ(n,k)=>n==t&&(k==.local||k==.cell))) with
    |false=>
     refine(CF c.nd (by rw[c.N];exact h1.1) loc he ?_ (.inl (c.fn t))).imp fin;have bk:(X.env.blockKind==.function)=true:=by unfold Env.blockKind;rw[c.kind];rfl
     show (pure (X.env.blockKind==.function&&X.env.kindOf t==some .local&&tp.line==p2.line && !(scope.names.any λ(n,k)=>n==t&&(k==.local||k==.cell))):Sem Bool)=pure false;rw[bk,Bool.true_and,hb]
    |true=>
     have bk:(X.env.blockKind==.function)=true:=by unfold Env.blockKind;rw[c.kind];rfl
     have hsw:swapsWith (.ListComp e' gens scope p2) (some (.Name t tp)) pos.line X.env=pure true:=by show (pure (X.env.blockKind==.function&&X.env.kindOf t==some .local&&tp.line==p2.line && !(scope.names.any λ(n,k)=>n==t&&(k==.local||k==.cell))):Sem Bool)=pure true;rw[bk,Bool.true_and,hb]
     cases e with
     |comp N' js pat ik it Ql elt=>obtain⟨e2,Y4,iter,ifs,Ug,pos2,wi,g,tt,te,q0,q1,q2,q3,q4,q5,q6,q7⟩:=qt (nD.2 it) (nD.1 Ql) (nD.1 elt) c.toCtx h2;cases q0;refine(HG c.nd (by rw[c.N];exact h1.1) loc q1 c.calm q2 q3 q4 q5 hsw (.inl (c.fn t)) q6).imp λD σ H hh=>?_;exact q7 σ H _ (fin D σ H hh)
     |dflt N' js p q d w=>refine pJ.imp λD σ H hh=>?_;obtain⟨ρ,env,h,hE,hl,r,pp⟩:=hh;simp only[e7,aP]at pp;exact pp.elim
     |_=>first|exact absurd h2 Y9|(rw[bJ.eq_def]at h2;cases h2)
   |SetComp _ _ _ _=>exact absurd h3 Y9
   |DictComp _ _ _ _ _=>exact absurd h3 Y9
   |_=>exact pl rfl
theorem Qm{i:Nat}:wz Φ (.aug i o e):=Ka λ_ _=>rfl
def Qn(B:Bd)(EX:Nat->List V->Hp->Prop):KS:=λo i v H Q=>∃ρ h a b w,HR B ρ h H/\VR B.K ρ H a o/\VR B.K ρ H b i/\VR B.K ρ H w v/\Post B EX ρ H (λ_ _ _ H'=>Q H') (zF a b w h)
theorem MH(hu:X.A.units+64<cLine):OT X (Qn (bd X cl) EX):=by
 intro pins s σ H o i v ov iv u Q I ro ri rv hh;obtain⟨ρ,h,a,b,w,r,ha,hb,hw,p⟩:=hh;cases a with
 |ref j=>
  simp only[zF]at p;obtain⟨ob,e1,p⟩:=aI p;have dict:∀kvs,ob=.dct kvs->Post (bd X cl) EX ρ H (λ_ _ _ H'=>Q H') (bnd (bx (keyOf b)) (λk=>aQ (decide (kvs.length<sizeLine)) (put j (.dct (kT kvs k w)))) h)->wpAny (model X.prog X.w) X.A (setItem ov iv u) (λ_ s'=>∃H',L2.Inv X pins σ H' s'/\Q H') X.xe s:=by rintro kvs rfl p;obtain⟨kk,e2,p⟩:=cD p;obtain⟨e3,p⟩:=aX p;have e3:=Zv e3;rw[VR]at ha;obtain⟨A,rfl,k1⟩:=ha;obtain⟨ks,k2,k3⟩:=r.ob j _ A e1 k1;cases ro;have ek:=LF hb e2;subst ek;refine Bh (by omega) I (Hu.k (v:=v) k2 (by rw[<-k3.length];exact e3)) ri rv λs' I'=>⟨_,I',?_⟩;have g:Gr ρ H ρ (upd H A (.dK (putK ks kk v))):=Gr.put (Zz k1) k2 rfl;exact p ρ _ g (r.put k1 e1 (u:=.dct (kT kvs kk w)) ⟨_,bg,iw.put kk (VR.up g _ _ hw) (iw.up g _ _ k3)⟩)
  cases ob with
  |dct kvs=>exact dict kvs rfl p
  |_=>exact p.elim
 |_=>exact p.elim
theorem MI:wz Φ (.gB o i v):=by
 intro Γ k X cl EX st c h;apply yN h;intro q1 x pos h;apply oN h;intro q2 h;apply yL h;intro a b sp h;simp only[and_eq_true]at h;obtain⟨⟨⟨⟨h1,h2⟩,h3⟩,h4⟩,h5⟩:=h;have Xi:PG X (.Subscript a b sp) (OW (tV Φ (bd X cl) EX o) (tV Φ (bd X cl) EX i) (Qn (bd X cl) EX)):=KW (J9 o c.toCtx h3) (J9 i c.toCtx h4) (MH c.units) (by
  intro v;cases b<;>first|rfl|(exact absurd h1 Y9))
 refine(CD (J9 v c.toCtx h5) Xi (j3 (t:=some (.Subscript a b sp)) (n:=pos.line) (env:=X.env) h2) (by cases x<;>rfl) rfl).imp λD σ H aO=>?_;obtain⟨ρ,env,h,hE,hl,r,p⟩:=aO;simp only[e7]at p;refine⟨ρ,env,h,hE,r,aA p λw h1 ρ1 x1 H1 g1 r1 q1 p1=>⟨ρ1,env,h1,hE.up g1,r1,aA p1 λw2 h2 ρ2 x2 H2 g2 r2 q2 p2=>⟨ρ2,env,h2,(hE.up g1).up g2,r2,aA p2 λw3 h3 ρ3 x3 H3 g3 r3 q3 p3=>?_⟩⟩⟩;refine⟨ρ3,h3,w2,w3,w,r3,VR.up g3 _ _ q2,q3,VR.up (g2.trans g3) _ _ q1,bN p3 λ_ h4 ρ4 H4 g4 r4 p4=>?_⟩;exact aj r4 p4 σ (((hE.up g1).up g2).up g3 |>.up g4) hl
theorem Qo(ha:uA Φ a)(hb:uA Φ b):wz Φ (.iff t a b):=by
 intro Γ k X cl EX st c h;apply P4 h;intro tt x y pos h;simp only[and_eq_true]at h;refine(OS (Xg t c.toCtx h.1.1) (ha Γ k X cl EX x c h.1.2) (hb Γ k X cl EX y c h.2)).imp λD σ H aO=>?_;obtain⟨ρ,env,h,hE,hl,r,p⟩:=aO;simp only[e7]at p;refine⟨ρ,env,h,hE,r,nv p λv h1 p1=>?_⟩;obtain⟨s,e1,p2⟩:=aI p1;refine⟨s,e1,λρ1 H1 g1 r1=>?_⟩;have p2:=Post.up g1 p2;cases s with
 |true=>rw[Zg rfl]at p2 |-;exact⟨ρ1,env,h1,hE.up g1,hl,r1,p2⟩
 |false=>rw[Zi Y9]at p2 |-;exact⟨ρ1,env,h1,hE.up g1,hl,r1,p2⟩
theorem Qp(hb:uA Φ body):wz Φ (.for p ik it body):=by
 intro Γ k X cl EX st c h;apply LZ h;intro tg iter x q1 pos h;apply lG h;intro h;simp only[and_eq_true]at h;obtain⟨⟨⟨h1,h2⟩,h3⟩,h4⟩:=h;have hen:ik=.enum\/ik=.zip->∃es kk pos,tg=.Tuple es kk pos:=by
  intro hz;cases p with
  |one i=>rcases hz with rfl|rfl<;>cases h3
  |tup is=>exact mD h1
 obtain⟨hi,hf⟩:=J8 (nD.2 it) c.toCtx h2 hen;refine(KZ c.xe c.calm hi (z6 c.toCtx c.fn c.nd h1) (hb Γ k X cl EX x c h4) hf).imp λD σ H aO=>?_;obtain⟨ρ,env,h,hE,hl,r,pp⟩:=aO;simp only[e7]at pp;have p':Post (bd X cl) EX ρ H (WF X.K D) (bnd (Oq Φ ik it env) (λsrc=>bnd (ask λh=>src.items h) λxs=>forM src (λx env=>bnd (bx (fJ p x env)) λenv'=>ff Φ body env') xs.length 0 env) h):=by unfold Oq;rw[bh];exact pp
 refine⟨ρ,env,h,hE,r,bN p' λsrc h1 ρ1 H1 g1 r1 p1=>?_⟩;obtain⟨xs,e1,p2⟩:=aI p1;refine⟨⟨xs,e1⟩,λJ wk=>?_⟩;refine⟨λi m σ' H'=>∃ρ' env' h',Gr ρ1 H1 ρ' H'/\cW X.K ρ' env' σ' H'/\env'.length = σ'.length/\HR (bd X cl) ρ' h' H'/\Post (bd X cl) EX ρ' H' (WF X.K D) (forM src (λx env=>bnd (bx (fJ p x env)) λenv'=>ff Φ body env') m i env' h'),
  ⟨xs.length,ρ1,env,h1,Gr.refl,hE.up g1,hl,r1,p2⟩,?_⟩
 rintro i m σ' H' ⟨ρ',env',h',w1,w2,w3,w4,w5⟩;cases m with
 |zero=>simp only[forM]at w5;obtain⟨xs',k1,w5⟩:=aI w5;obtain⟨k2,w5⟩:=aX w5;exact .inl ⟨wk.stop w1.w w4 k1 (Zv k2),aj w4 w5 σ' w2 w3⟩
 |succ m=>
  simp only[forM]at w5;obtain⟨xs',k1,w5⟩:=aI w5;cases hx:xs'[i]? with
  |none=>rw[hx]at w5;exact .inl ⟨wk.stop w1.w w4 k1 (List.getElem?_eq_none_iff.mp hx),aj w4 w5 σ' w2 w3⟩
  |some v=>
   rw[hx]at w5;dsimp only at w5;refine .inr ⟨wk.go w1.w w4 k1 hx,_,λCq Lr w=>⟨m,lt_succ_self _,w⟩,λy H2 hy=>?_⟩;obtain⟨z1,z2,z3⟩:=wk.AS w1.w w4 k1 hx hy;rw[bh]at w5;obtain⟨iF,k2,w5⟩:=cD w5;refine z7 k2 z3 (w2.up z1) w3 λσ2 Sq hl2 _=>⟨ρ',iF,h',Sq,hl2,z2,bN (Post.up z1 w5) λf h3 ρ3 H3 g3 r3 p3=>?_⟩;cases f with
   |nx II=>exact λσ3 Qq hl3=>⟨ρ3,II,h3,(w1.trans z1).trans g3,Qq,hl3,r3,p3⟩
   |ct II=>exact λσ3 Qq hl3=>⟨ρ3,II,h3,(w1.trans z1).trans g3,Qq,hl3,r3,p3⟩
   |bk II=>exact λσ3 Qq hl3=>aj r3 p3 σ3 Qq hl3
   |rt v=>exact(aj r3 p3:WF X.K D (.rt v) h3 ρ3 H3)
theorem Qs{n:Nat}(hb:uA Φ body):wz Φ (.whl n t body):=Ka λ_ _=>rfl
theorem Qt:wz Φ (.ret e):=by
 intro Γ k X cl EX st c h;apply DI h;intro q1 _ h;apply zQ h;intro x h;refine(KQ (J9 e c.toCtx h)).imp λD σ H aO=>?_;obtain⟨ρ,env,h,hE,hl,r,p⟩:=aO;simp only[e7]at p;exact⟨ρ,env,h,hE,r,aA p λv h1 ρ1 x H1 g1 r1 q1 p1=>aj r1 p1 x q1⟩
theorem MJ:wz Φ .Dr:=by
 intro Γ k X cl EX st c h;apply DI h;intro q1 _ h;apply zP h;intro h;refine GQ.imp λD σ H aO=>?_;obtain⟨ρ,env,h,hE,hl,r,p⟩:=aO;simp only[e7]at p;exact aj r p _ VR.non
theorem Qu:wz Φ .brk:=by
 intro Γ k X cl EX st c h;apply L3 h;intro _ h;refine CB.imp λD σ H aO=>?_;obtain⟨ρ,env,h,hE,hl,r,p⟩:=aO;simp only[e7]at p;exact aj r p σ hE hl
theorem Qv:wz Φ .cnt:=by
 intro Γ k X cl EX st c h;apply L4 h;intro _ h;refine vj.imp λD σ H aO=>?_;obtain⟨ρ,env,h,hE,hl,r,p⟩:=aO;simp only[e7]at p;exact aj r p σ hE hl
theorem MK:wz Φ .pass:=by
 intro Γ k X cl EX st c h
 rcases W8 h with h|h
 ·apply HZ h;intro _ h;refine GO.imp λD σ H aO=>?_;obtain⟨ρ,env,h,hE,hl,r,p⟩:=aO;simp only[e7]at p;exact aj r p σ hE hl
 ·apply zS h;intro q1 _ h;apply vZ h;intro q2 _ _ h;apply LY h;intro _ h;refine KP.imp λD σ H aO=>?_;obtain⟨ρ,env,h,hE,hl,r,p⟩:=aO;simp only[e7]at p;exact aj r p σ hE hl
theorem IJ:wz Φ .never:=by
 intro Γ k X cl EX st c h;refine pJ.imp λD σ H aO=>?_;obtain⟨ρ,env,h,hE,hl,r,p⟩:=aO;simp only[e7]at p;exact p.elim
theorem BP{α β:Type}(c:Bool)(m:M α)(f:α -> M β):bnd (aQ c m) f=aQ c (bnd m f):=by
 funext h;unfold bnd aQ;cases c<;>rfl
theorem ML{n:Nat}:wz Φ (.setF n a x v):=by
 intro Γ k X cl EX st c h;apply yN h;intro q1 e pos h;apply oN h;intro q2 h;apply uw h;intro o y ap h;simp only[and_eq_true,beq_iff_eq,List.contains_iff_mem]at h;obtain⟨⟨⟨⟨⟨h1,h2⟩,h3⟩,h4⟩,h5⟩,h6⟩:=h;subst h1;refine(La (J9 a c.toCtx h5) (J9 v c.toCtx h6) (j3 (t:=some (.Attribute o x ap)) (n:=pos.line) (env:=X.env) h2)).imp λD σ H aO=>?_;obtain⟨ρ,env,h,hE,hl,r,p⟩:=aO;simp only[e7]at p;refine⟨ρ,env,h,hE,r,aA p λw h1 ρ1 x1 H1 g1 r1 q1 p1=>⟨ρ1,env,h1,hE.up g1,r1,aA p1 λw2 h2 ρ2 x2 H2 g2 r2 q2 p2=>?_⟩⟩;cases w2<;>first|exact p2.elim|skip
 rename_i i;rw[VR]at q2;obtain⟨ad,rfl,q2⟩:=q2;unfold zE at p2;dsimp only at p2;rw[bh]at p2;obtain⟨pr,e1,p3⟩:=aI p2;have hx:h2[i]?=some (.ins pr.1 pr.2)/\pr.1<n:=by
  split at e1
  ·rename_i c0 fs e2
   split at e1
   ·rename_i hc;cases e1;exact⟨e2,hc⟩
   ·cases e1
  ·cases e1
 obtain⟨dx,gs,k1,k2⟩:=r2.ob i _ ad hx.1 q2;obtain⟨cc,nn⟩:=c.cls pr.1 (by omega);have p4:Post (bd X cl) EX ρ2 H2 (WF X.K D) (aQ (decide (pr.2.length<1000)) (bnd (put i (.ins pr.1 (gE x w pr.2))) λ_=>ret (.nx env)) h2):=by rw[<-BP];exact p3
 obtain⟨el,p5⟩:=aX p4;refine⟨ad,cl pr.1,dx,gs,rfl,k1,cc,nn x h4,by rw[<-k2.length];exact Zv el,?_⟩;have g:Gr ρ2 H2 ρ2 (upd H2 ad (.ins (cl pr.1) dx (jh x x1 gs))):=Gr.put (Zz q2) k1 rfl;exact p5 ρ2 _ g (r2.put q2 hx.1 (u:=.ins pr.1 (gE x w pr.2)) ⟨dx,_,bg,mq.put (VR.up (g2.trans g) _ _ q1) (mq.up g _ _ k2)⟩) σ (((hE.up g1).up g2).up g) hl
theorem MM:uA Φ .nil:=by
 intro Γ k X cl EX st c h;rw[aT]at h;cases st with
 |cons _ _=>cases h
 |nil=>refine GN.imp λD σ H aO=>?_;obtain⟨ρ,env,h,hE,hl,r,p⟩:=aO;simp only[ff]at p;exact aj r p σ hE hl
theorem IK(h1:wz Φ s)(h2:uA Φ ss):uA Φ (.cons s ss):=by
 intro Γ k X cl EX st c h;rw[aT.eq_def]at h;dsimp only at h;cases st with
 |nil=>cases h
 |cons l ls=>
  simp only[and_eq_true]at h;refine(CA (h1 Γ k X cl EX l c h.1) (h2 Γ k X cl EX ls c h.2)).imp λD σ H aO=>?_;obtain⟨ρ,env,h,hE,hl,r,p⟩:=aO;simp only[ff]at p;refine⟨ρ,env,h,hE,hl,r,bN p λf h1 ρ1 H1 g1 r1 p1=>?_⟩;cases f with
  |nx env'=>exact λσ' Ue hl'=>⟨ρ1,env',h1,Ue,hl',r1,p1⟩
  |rt v=>exact(aj r1 p1:WF X.K D (.rt v) h1 ρ1 H1)
  |bk env'=>exact(aj r1 p1:WF X.K D (.bk env') h1 ρ1 H1)
  |ct env'=>exact(aj r1 p1:WF X.K D (.ct env') h1 ρ1 H1)
theorem DV:∀dZ,uA Φ dZ:=by
 intro dZ;exact b8.rec (motive_1:=λs=>wz Φ s) (motive_2:=λss=>uA Φ ss) (λ_=>MG) (λ_ _=>Qk) (λ_ _ _=>Qm) (λ_ _ _=>MI) (λ_ _ _ a b=>Qo a b) (λ_ _ _ _ a=>Qp a) (λ_ _ _ a=>Qs a) (λ_=>Qt) MJ Qu Qv MK IJ (λ_ _ _ _=>ML)
  MM (λ_ _ a b=>IK a b) dZ
end
abbrev Row:=Str×Nat×(List Val->M Val)
def look(fs:List Row)(j:Nat):List Val->M Val:=match fs[j]? with
 |some r=>r.2.2
 |none=>λ_=>bx none
def bQ(P:Program)(w:World)(B:Bd)(mg:Str->Option Value)(base:Heap)(k:Nat)(fs:List Row):Prop:=∀(j:Nat) (r:Row),fs[j]?=some r->Oo P w B mg base k j r.1 r.2.1 r.2.2
def aM(N P:List Str)(sc:Scope):Bool :=
 sc.kind==.function && !sc.isCoroutine && !sc.isGenerator&&decide N.Nodup&&N.take P.length==P&&(P.all λx=>sc.names.lookup x==some .local||sc.names.lookup x==some .cell)&&(sc.names.all λy=>y.2 != .free)
theorem DW(h:aM N P sc=true):o5 N P sc:=by
 unfold aM at h;simp only[and_eq_true,beq_iff_eq,not_eq_true',decide_eq_true_eq,all_eq_true,or_eq_true,bne_iff_ne]at h;obtain⟨⟨⟨⟨⟨⟨h1,h2⟩,h3⟩,h4⟩,h5⟩,h6⟩,h7⟩:=h;exact⟨h1,h2,h3,h4,h5,h6,h7⟩
structure Base (K:Frag) (cl:Nat->Addr) (mg:Str->Option Value) (cons:List (Str×Val)) (tb:Tb):Prop where
 blt:∀x∈bltNames,mg x=none
 cons:∀p∈cons,∃v u,mg p.1=some u/\RelV v u/\∀K ρ H,VR K ρ H p.2 v
 cls:∀c,c<tb.nc->Cp K (cl c)/\∀x∈tb.Ia,jR K (cl c) x
 Ib:∀p∈tb.Ib,Meth K (cl p.1) p.2.1 (cl (1000+p.2.2))
 L5:∀p∈tb.L5,∃C,mg p.1=some (.ref C)/\PF K C p.2.1 (cl (1000+p.2.2))
 isc:∀p∈tb.isc,∃C,mg p.1=some (.ref C)/\∀c b,p.2[c]?=some b->Vi K (cl c)/\kitOne K (.ref (cl c)) (.ref C)=some b
section
variable {P:Program} {w:World} {K:Frag} {cl:Nat->Addr} {mg:Str->Option Value} {base:Heap} {k:Nat} {fs:List Row} {cons:List (Str×Val)} {tb:Tb}
theorem z8{x qual:Str}{st:Stmt}{f:Addr}{fd:FuncData}{N ps:List Str}{body:b8}(T:Base K cl mg cons tb)(A:bQ P w ⟨K,cl⟩ mg base k fs)(F:Gz K x qual st f fd)(hS:aM N ps (af st)=true)
  (hc:aT ⟨N,af st,fs.map (λr=>(r.1,r.2.1)),cons,tb⟩ body (aq st)=true):fG P w K mg base yo (k+2) f fd ps (ux ⟨K,cl⟩ ps.length (fh (look fs) N.length body)):=by
 have S:=DW hS;refine F.ok S (λvs H Q E h=>?_) (λcdv A' outer s H vs Q E hr h=>?_)
 ·obtain⟨ρ,h,ws,h1,_,h2,_⟩:=h;rw[<-h2.length,h1]
 ·obtain⟨ρ,h,ws,hl,r,hv,p⟩:=h
  have lv:=hv.length
  let X:Cx:=(yj yo P w K mg base N qual (af st) f cdv A' outer s H E).ON
  have c:MF (look fs) ⟨N,af st,fs.map (λr=>(r.1,r.2.1)),cons,tb⟩ k X cl (λ_ _ _=>False):=by
   refine { N:=rfl,sc:=rfl,calm:=rfl,room:=hr,lW:=λ_ _ _ z=>z,fns:=λj x n e=>?_,cls:=T.cls,Ib:=T.Ib,L5:=T.L5,isc:=T.isc,cons:=T.cons,blt:=T.blt,fn:=λ_=>rfl,nd:=S.nd,kind:=S.kind,xe:=PassesOwn.never };have e':(fs.map (λr=>(r.1,r.2.1)))[j]?=some (x,n):=e;rw[Zx]at e';cases er:fs[j]? with
   |none=>rw[er]at e';cases e'
   |some r=>rw[er]at e';cases e';have:=A j r er;unfold look;rw[er];exact this
  refine⟨_,DV body _ k X cl _ (aq st) c hc,ρ,ws.map some++replicate (N.length-ws.length) none,h,λi v e=>?_,?_,r,bN p λfl h1 ρ1 H1 g1 r1 p1=>?_⟩
  ·by_cases hi:i<ws.length
   ·rw[Zp (by simpa using hi)]at e
    rw[Zx]at e;cases ei:ws[i]? with
    |none=>rw[ei]at e;cases e
    |some w'=>rw[ei]at e;cases e;obtain⟨y,q1,q2⟩:=hv.get ei;refine⟨y,?_,q2⟩;show (vs.map some++_)[i]?=_;rw[Zp (by rw[Ze,<-lv];exact hi),Zx,q1];rfl
   ·rw[ZD (by simp;omega)]at e;have:=Zz e;rw[mem_replicate]at this;exact absurd this.2 (by simp)
  ·show _=(vs.map some++_).length;simp[lv]
  ·cases fl with
   |nx env'=>exact λσ' _ _=>aj r1 p1 _ VR.non
   |rt v=>exact(aj r1 p1:WV K Q v h1 ρ1 H1)
   |bk env'=>exact p1.elim
   |ct env'=>exact p1.elim
theorem _root_.Hv.Oo.mono{j:Nat}{n:Nat}(g:Oo P w B mg base k j x n φ):Oo P w B mg base (k+2) j x n φ:=by
 have le:k<=k+2:=Nat.le_add_right _ _
 rcases g with ⟨h,⟨f,fd,ps,q1,q2,q3,q4,q5⟩|⟨c,f,fd,ps,φ0,q0,q1,q2,q3,q4,q5⟩⟩|⟨h,fd,ps,q1,q4,q5⟩
 ·exact .inl ⟨h,.inl ⟨f,fd,ps,q1,q2,q3,q4,q5.mono le⟩⟩
 ·exact .inl ⟨h,.inr ⟨c,f,fd,ps,φ0,q0,q1,q2,q3,q4,q5.mono le⟩⟩
 ·exact .inr ⟨h,fd,ps,q1,q4,q5.mono le⟩
theorem all_nil:bQ P w ⟨K,cl⟩ mg base k []:=λj r e=>by simp at e
theorem uB{r0:Row}(A:bQ P w ⟨K,cl⟩ mg base k fs)(g:Oo P w ⟨K,cl⟩ mg base (k+2) fs.length r0.1 r0.2.1 r0.2.2):bQ P w ⟨K,cl⟩ mg base (k+2) (fs++[r0]):=λj r e=>by
 by_cases hj:j<fs.length
 ·rw[Zp hj]at e;exact(A j r e).mono
 ·rw[ZD (by omega)]at e
  have hj0:j-fs.length=0:=by have:=(Zb.mp e).1;simp at this;omega
  rw[hj0]at e;simp at e;subst e;rw[show j=fs.length by omega];exact g
theorem DX{x qual:Str}{st:Stmt}{f:Addr}{fd:FuncData}{N ps:List Str}{body:b8}(T:Base K cl mg cons tb)(A:bQ P w ⟨K,cl⟩ mg base k fs)(F:Gz K x qual st f fd)(hm:mg x=some (.ref f))(hb:Binds K fd ps [])(qu:ps.length<1000)(hS:aM N ps (af st)=true)
  (hc:aT ⟨N,af st,fs.map (λr=>(r.1,r.2.1)),cons,tb⟩ body (aq st)=true):bQ P w ⟨K,cl⟩ mg base (k+2) (fs++[(x,ps.length,fh (look fs) N.length body)]) :=
 uB (r0:=(x,ps.length,fh (look fs) N.length body)) A (.inl ⟨qu,.inl ⟨f,fd,ps,rfl,hm,F.kp,hb,z8 T A F hS hc⟩⟩)
theorem DY{x qual y:Str}{st:Stmt}{f:Addr}{fd:FuncData}{N ps:List Str}{body:b8}(T:Base K cl mg cons tb)(A:bQ P w ⟨K,cl⟩ mg base k fs)(F:Gz K x qual st f fd)(hf:cl (1000+fs.length)=f)(hb:Binds K fd ps [])(hS:aM N ps (af st)=true)
  (hc:aT ⟨N,af st,fs.map (λr=>(r.1,r.2.1)),cons,tb⟩ body (aq st)=true):bQ P w ⟨K,cl⟩ mg base (k+2) (fs++[(y,1000+ps.length,fh (look fs) N.length body)]):=by
 refine uB (r0:=(y,1000+ps.length,fh (look fs) N.length body)) A (.inr ⟨Nat.le_add_right _ _,fd,ps,?_,hb,?_⟩)
 ·show ps.length=1000+ps.length-1000;omega
 ·show fG P w K mg base yo (k+2) (cl (1000+fs.length)) fd ps (ux ⟨K,cl⟩ (1000+ps.length-1000) _);rw[hf,show 1000+ps.length-1000=ps.length by omega];exact z8 T A F hS hc
theorem all_class{x i qual:Str}{st:Stmt}{f:Addr}{fd:FuncData}{N ps:List Str}{n c:Nat}{body:b8}(T:Base K cl mg cons tb)(A:bQ P w ⟨K,cl⟩ mg base k fs)(F:Gz K i qual st f fd)(hm:mg x=some (.ref (cl c)))(M:Mk K (cl c) f)(hb:Binds K fd ps [])(hn:ps.length=n+1)(qu:n<1000)(hS:aM N ps (af st)=true)
  (hc:aT ⟨N,af st,fs.map (λr=>(r.1,r.2.1)),cons,tb⟩ body (aq st)=true):bQ P w ⟨K,cl⟩ mg base (k+2) (fs++[(x,n,J0 c (fh (look fs) N.length body))]):=by
 refine uB (r0:=(x,n,J0 c (fh (look fs) N.length body))) A (.inl ⟨qu,.inr ⟨c,f,fd,ps,_,rfl,hn,hm,M,hb,?_⟩⟩);rw[<-hn];exact z8 T A F hS hc
end
def jn(K:Frag)(x qual:Str)(st:Stmt)(f:Addr):Prop:=∃fd,Gz K x qual st f fd
theorem jn.kp{K:Frag}{x qual:Str}{st:Stmt}{f:Addr}(F:jn K x qual st f):keepIn K (.ref f)=true:=F.elim λ_ F=>F.kp
section
variable {α:Type} {p:List α -> Prop}
theorem wB:∀{us:List α},us.length=1->(∀a,p [a])->p us
 |[a],_,h=>h a
theorem ln2:∀{us:List α},us.length=2->(∀a b,p [a,b])->p us
 |[a,b],_,h=>h a b
theorem Qw:∀{us:List α},us.length=3->(∀a b c,p [a,b,c])->p us
 |[a,b,c],_,h=>h a b c
theorem Vr:∀{us:List α},us.length=4->(∀a b c d,p [a,b,c,d])->p us
 |[a,b,c,d],_,h=>h a b c d
end
def Uh(x qual:Str)(st:Stmt)(ps:List Str):Prop:=∀(kV doc pm:Value) (an:Option Addr) (cdv ct:Value) (us:List Value),us.length=ps.length->bindArgs (fnOf x qual (l5 st) (aq st) (af st) .none kV doc pm an cdv ct) ⟨us,[]⟩=pure (ps.zip us)
section
variable {P:Program} {w:World} {K:Frag} {cl:Nat->Addr} {mg:Str->Option Value} {base:Heap} {k:Nat} {fs:List Row} {cons:List (Str×Val)} {tb:Tb} {x i y qual:Str} {st:Stmt} {f:Addr} {N ps:List Str} {body:b8} (T:Base K cl mg cons tb) (A:bQ P w ⟨K,cl⟩ mg base k fs)
include T A
theorem cg(F:jn K x qual st f)(hm:mg x=some (.ref f))(hS:aM N ps (af st)=true)
  (hc:aT ⟨N,af st,fs.map (λr=>(r.1,r.2.1)),cons,tb⟩ body (aq st)=true) (qu:ps.length<1000) (hb:Uh x qual st ps):bQ P w ⟨K,cl⟩ mg base (k+2) (fs++[(x,ps.length,fh (look fs) N.length body)]):=F.elim λ_ F=>DX T A F hm (F.binds hb) qu hS hc
theorem wC(F:jn K x qual st f)(hf:cl (1000+fs.length)=f)(hS:aM N ps (af st)=true)
  (hc:aT ⟨N,af st,fs.map (λr=>(r.1,r.2.1)),cons,tb⟩ body (aq st)=true) (hb:Uh x qual st ps):bQ P w ⟨K,cl⟩ mg base (k+2) (fs++[(y,1000+ps.length,fh (look fs) N.length body)]):=F.elim λ_ F=>DY T A F hf (F.binds hb) hS hc
theorem MN{n c:Nat}(F:jn K i qual st f)(hm:mg x=some (.ref (cl c)))(M:Mk K (cl c) f)(hS:aM N ps (af st)=true)
  (hc:aT ⟨N,af st,fs.map (λr=>(r.1,r.2.1)),cons,tb⟩ body (aq st)=true) (hn:ps.length=n+1) (qu:n<1000) (hb:Uh i qual st ps):bQ P w ⟨K,cl⟩ mg base (k+2) (fs++[(x,n,J0 c (fh (look fs) N.length body))]):=F.elim λ_ F=>all_class T A F hm M (F.binds hb) hn qu hS hc
end
theorem MO{K:Frag}{cl:Nat->Addr}{φ:List Val->M Val}{H:Hp}{a:Addr}{ns:List Int}(hO:C2 H)(hS:gm K H a (ns.map V.int))(h:∃h',φ [.rl (ns.map .int)] []=.ok (.bl true) h') :
  ux ⟨K,cl⟩ 1 φ [.ref a] H (λv _=>v=.bl true) λ_ _ _=>False:=by
 obtain⟨h',e⟩:=h;have sr:LB K H a (ns.map V.int):=by
  rcases hS with (z|z)|z
  ·rcases hO a with y|⟨o,xs,y⟩
   ·rw[y]at z;cases z
   ·rw[y]at z;cases z
  ·exact .inl z
  ·exact .inr (.inr z)
 refine⟨[],[],[.rl (ns.map .int)],rfl,⟨rfl,nodup_nil,λi o a e=>by simp at e⟩,aE.cons (by rw[VR];exact⟨a,_,rfl,sr,aE.ints.mpr rfl⟩) aE.nil,?_⟩;rw[e];intro ρ' H' g r x q;rw[VR]at q;exact q
def Ss(K:Frag):Sp:=λvs H Q _=>∃(a:Addr) (ns:List Int),vs=[.ref a]/\C2 H/\gm K H a (ns.map V.int)/\ns.length<=63/\∀H',Q (.bl true) H'
theorem MP{K:Frag}{cl:Nat->Addr}{φ:List Val->M Val}(hφ:∀ns:List Int,ns.length<=63->∃h',φ [.rl (ns.map .int)] []=.ok (.bl true) h')(vs:List V)(H:Hp)(Q:VK)(E:XK)(h:Ss K vs H Q E):ux ⟨K,cl⟩ 1 φ vs H Q E:=by
 obtain⟨a,ns,rfl,hO,hS,hl,hq⟩:=h;obtain⟨ρ,h,vs,q1,q2,q3,q4⟩:=MO (cl:=cl) hO hS (hφ ns hl);refine⟨ρ,h,vs,q1,q2,q3,?_⟩;revert q4;cases φ vs h with
 |ok v h'=>exact λq4 ρ' H' g r x hx=>by rw[show x=_ from q4 ρ' H' g r x hx];exact hq H'
 |exc c ws h'=>exact λq4=>q4
 |no=>exact λq4=>q4
theorem walk{l:PySem.W.OpenLaw}{q:Program}{loose:List Str}{XP:(Str->Option Value)->Heap->Prop}{YP:World->Heap->Prop}{d:DefRec}{K:Params->Frag}{k:Nat}{x:Str}(hn:l.most=some 63)(hdf:d.params.defaults=[])(hr:dR k callerA)
  (hY:∀(w:World) (h:Heap),YP w h->(K w.params).In h)
  (F:∀(w:World) (mg:Str->Option Value) (fa:Addr) (h:Heap),(K w.params).In h->h.Ns mainGlobals mg->mg d.name=some (.ref fa) ->
   ∃fd:FuncData,(∀(s:Shared) (u:Value),BindsTo s fd ⟨[u],[]⟩ [(x,u)])/\∀base:Heap,(K w.params).In base->base.Ns mainGlobals mg->fG l.prog w (K w.params) mg base yo k fa fd [x] (Ss (K w.params))) :
  PySem.W.WalkO q loose XP YP l.row.toRowW d [] (λf vs=>PySem.call f vs) :=
 L2.Hy (n:=63) (k:=k) (x:=x) (CX:=λ_=>yo) (sp:=λw=>Ss (K w.params)) hn (by decide) hdf hr hY F (λ_ _ a ns hl hO hS=>⟨a,ns,rfl,hO,hS,hl,λ_=>rfl⟩) λ_ _ _ _ _ z=>z
end Hv
end
section
namespace Hv
open PySem L2
inductive Pr (α:Type)
 |ok (a:α)|exc (c:Nat) (ds:List Val)|no
def pb{α β:Type}(m:Pr α)(f:α -> Pr β):Pr β:=match m with
 |.ok a=>f a
 |.exc c ds=>.exc c ds
 |.no=>.no
def pl{α:Type}(o:Option α):Pr α:=match o with
 |some a=>.ok a
 |none=>.no
def pg{α:Type}(c:Bool)(m:Pr α):Pr α:=if c=true then m else .no
inductive Mk
 |sh|nw|ow
def n6:Mk->Bool
 |.ow=>false
 |_=>true
def Ot:Mk->Bool
 |.nw=>true
 |_=>false
abbrev aN:=List (Option (Mk×Val))
abbrev FV:=Bool×Val
mutual
noncomputable def lJ:Val->Bool
 |.rl _=>false
 |.dc _ _=>false
 |.ob _ _ _=>false
 |.ref _=>false
 |.tup vs=>bC vs
 |.non=>true
 |.bl _=>true
 |.int _=>true
 |.str _=>true
noncomputable def bC:List Val->Bool
 |[]=>true
 |v::vs=>lJ v&&bC vs
end
def fL(f:Bool)(d:Val):Mk:=if (f && !lJ d)=true then .nw else .sh
def putD(ks:List Key)(ds:List Val)(k:Key)(d:Val):Val:=.dc ((kT (ks.zip ds) k d).map (·.1)) ((kT (ks.zip ds) k d).map (·.2))
def lK:JY->Val->Val->Pr FV
 |.add,.int a,.int b=>.ok (true,.int (a+b))
 |.add,.rl a,.rl b=>pg (decide (a.length+b.length<=sizeLine)) (.ok (bC (a++b),.rl (a++b)))
 |.sub,.int a,.int b=>.ok (true,.int (a-b))
 |.mul,.int a,.int b=>pg (jV a b) (.ok (true,.int (a*b)))
 |.fdiv,.int a,.int b=>pg (gD b) (.ok (true,.int (a/b)))
 |.mod,.int a,.int b=>pg (decide (0<b)) (.ok (true,.int (a%b)))
 |.pow,.int a,.int b=>pg (decide (0<=b/\b<=1000000/\a.natAbs<2 ^ 64)) (.ok (true,.int (a ^ b.toNat)))
 |_,_,_=>.no
def BQ(v:Val)(lo hi:Option Int):Pr FV:=match v with
 |.tup vs=>pg (!(decide (HT.dS vs.length 0 lo=0)&&decide (HT.dS vs.length vs.length hi=vs.length))) (.ok (bC (cU vs lo hi),.tup (cU vs lo hi)))
 |.rl vs=>.ok (bC (cU vs lo hi),.rl (cU vs lo hi))
 |_=>.no
def iI:Bl->List Val->Pr FV
 |.len,[v]=>pb (pl (nq [] v)) λn=>.ok (true,.int n)
 |.min,[.int a,.int b]=>.ok (true,.int (if b<a then b else a))
 |.max,[.int a,.int b]=>.ok (true,.int (if b>a then b else a))
 |.min,[v]=>pb (pl (cM [] v)) λxs=>pb (pl ((bz xs).bind ur)) λm=>.ok (true,m)
 |.max,[v]=>pb (pl (cM [] v)) λxs=>pb (pl ((bz xs).bind uu)) λm=>.ok (true,m)
 |.sorted,[.rl xs]=>pb (pl (gC xs)) λys=>.ok (true,.rl ys)
 |.list,[v]=>pb (pl (cM [] v)) λxs=>.ok (bC xs,.rl xs)
 |.int,[.bl b]=>.ok (true,.int (if b=true then 1 else 0))
 |.int,[.int i]=>.ok (true,.int i)
 |.all,[.rl xs]=>pb (pl (dM xs)) λbs=>.ok (true,.bl (bs.all id))
 |.isin T,[v]=>pb (pl (vQ [] v)) λt=>pb (pl (vR T t)) λb=>.ok (true,.bl b)
 |_,_=>.no
def gg:Ik->List Val->Option (List Val)
 |.seq,[.tup vs]=>some vs
 |.seq,[.rl vs]=>some vs
 |.range,[.int n]=>if inR n then some (bZ 0 n.toNat) else none
 |.range,[.int a,.int b]=>if inR a&&inR b then some (bZ a (b-a).toNat) else none
 |.enum,[.rl vs]=>some (p9 0 vs)
 |_,_=>none
def BR(k:Ik)(ds:List Val):Option (List Val):=match k with
 | .zip=>(match ds with
  |[.rl a,.rl b]=>some (e8 a b)
  |_=>none)
 |k=>gg k ds
def bK:List Nat->List Val->aN->Option aN
 |[],[],env=>some env
 |i::is,d::ds,env=>bK is ds (env.set i (some (.sh,d)))
 |_,_,_=>none
def bH:yI->Val->aN->Option aN
 |.one i,d,env=>some (env.set i (some (.sh,d)))
 |.tup is,.tup ds,env=>bK is ds env
 |_,_,_=>none
def fM(js:List (Option Nat))(env:aN):aN:=js.map λo=>match o with
 |none=>none
 | some j=>match env[j]? with
  |some (some d)=>some d
  |_=>none
def jB(f:Val->Pr (Option FV)):List Val->Pr (Bool×List Val)
 |[]=>.ok (true,[])
 |x::r=>pb (f x) λo=>pb (jB f r) λp=>.ok (match o with|some e=>(e.1&&p.1,e.2::p.2)|none=>p)
def qv:Val->Pr Bool
 |.bl b=>.ok b
 |_=>.no
def jq(env:aN):IE->Option FV
 | .var i=>match env[i]? with
  |some (some (_,d))=>some (lJ d,d)
  |_=>none
 |_=>none
def isVar:IE->Bool
 |.var _=>true
 |_=>false
mutual
noncomputable def aS(Ψ:Nat->List Val->Pr FV):IE->aN->Pr FV
 | .var i,env=>match env[i]? with
  |some (some (m,d))=>pg (n6 m) (.ok (lJ d,d))
  |_=>.no
 |.cst d,_=>.ok (lJ d,d)
 |.con _ d,_=>.ok (lJ d,d)
 |.no,_=>.no
 |.bin o a b,env=>pb (if isVar a=true then pl (jq env a) else aS Ψ a env) λx=>pb (if isVar b=true then pl (jq env b) else aS Ψ b env) λy=>lK o x.2 y.2
 | .neg a,env=>pb (aS Ψ a env) λx=>match x.2 with
  |.int i=>.ok (true,.int (-i))
  |_=>.no
 |.cmp o a b,env=>pb (if isVar a=true then pl (jq env a) else aS Ψ a env) λx=>pb (if isVar b=true then pl (jq env b) else aS Ψ b env) λy=>pb (pl (cop [] o x.2 y.2)) λt=>.ok (true,.bl t)
 |.chn _ _ _ _ _,_=>.no
 |.and a b,env=>pb (aS Ψ a env) λx=>pb (qv x.2) λt=>if t=true then pb (aS Ψ b env) λy=>pb (qv y.2) λu=>.ok (true,.bl u) else .ok (true,.bl false)
 |.or a b,env=>pb (aS Ψ a env) λx=>pb (qv x.2) λt=>if t=true then .ok (true,.bl true) else pb (aS Ψ b env) λy=>pb (qv y.2) λu=>.ok (true,.bl u)
 |.not a,env=>pb (aS Ψ a env) λx=>pb (qv x.2) λt=>.ok (true,.bl (!t))
 |.ite _ _ _,_=>.no
 |.tup es,env=>pb (j4 Ψ es env) λp=>pg (decide (p.2.length<=sizeLine)) (.ok (p.1,.tup p.2))
 |.lst es,env=>pb (j4 Ψ es env) λp=>pg (decide (p.2.length<=sizeLine)) (.ok (p.1,.rl p.2))
 |.idx a b,env=>pb (if isVar a=true then pl (jq env a) else aS Ψ a env) λx=>pb (aS Ψ b env) λy=>pb (pl (jm [] x.2 y.2)) λz=>.ok (lJ z,z)
 |.slc a lo hi,env=>pb (if isVar a=true then pl (jq env a) else aS Ψ a env) λx=>pb (if dm lo=true then .ok none else pb (aS Ψ lo env) λv=>pb (pl (k9 v.2)) λi=>.ok (some i)) λl=>
   pb (if dm hi=true then .ok none else pb (aS Ψ hi env) λv=>pb (pl (k9 v.2)) λi=>.ok (some i)) λu=>BQ x.2 l u
 |.call j es,env=>pb (j4 Ψ es env) λp=>Ψ j p.2
 |.blt b es,env=>pb (cQ Ψ es env) λds=>iI b ds
 | .met m a es,env=>match m with
  |.join=>.no
  |_=>.no
 | .comp _ js pat k it c elt,env=>pb (cQ Ψ it env) λits=>pb (pl (BR k its)) λxs=>pg (decide (xs.length<=100000))
   (pb (jB (λd=>pb (pl (bH pat d (fM js env))) λenv'=>pb (if dm c=true then .ok true else pb (aS Ψ c env') λv=>pl (gZ [] v.2)) λt=>
    if t=true then pb (aS Ψ elt env') λe=>.ok (some e) else .ok none) xs) λp=>.ok (p.1,.rl p.2))
 |.dct0,_=>.ok (true,.dc [] [])
 | .sset a,env=>pb (if isVar a=true then pl (jq env a) else aS Ψ a env) λx=>match x.2 with
  |.rl xs=>pb (pl (bz xs)) λns=>pg (decide (ns.length<64)) (.ok (true,.rl ((sortI (L2.iB [] ns)).map .int)))
  |_=>.no
 |.dget d k x,env=>pb (if isVar d=true then pl (jq env d) else aS Ψ d env) λo=>pb (pl (Ds [] o.2)) λ_=>pb (aS Ψ k env) λi=>pb (pl (keyOf i.2)) λkk=>pb (aS Ψ x env) λz=>pb (pl (BA [] o.2 kk)) λr=>.ok (lJ (r.getD z.2),r.getD z.2)
 |.dct1 k v,env=>pb (aS Ψ k env) λx=>pb (pl (keyOf x.2)) λkk=>pb (aS Ψ v env) λy=>.ok (y.1,.dc [kk] [y.2])
 |.lkeys d,env=>pb (if isVar d=true then pl (jq env d) else aS Ψ d env) λo=>pb (pl (vP [] o.2)) λks=>.ok (true,.rl (ks.map Dt))
 |.sdef ..,_=>.no
 |.svals _,_=>.no
 |.skeys _,_=>.no
 |.fld n a x,env=>pb (if isVar a=true then pl (jq env a) else aS Ψ a env) λo=>pb (pl (qf n [] o.2 x)) λz=>.ok (lJ z,z)
 |.mth a m js es,env=>pb (aS Ψ a env) λo=>pb (pl (lF [] o.2 m js)) λj=>pb (j4 Ψ es env) λp=>Ψ j (o.2::p.2)
 |.rev _ _,_=>.no
 |.dflt _ _ _ _ _ _,_=>.no
 |.isc _ _ _,_=>.no
noncomputable def j4(Ψ:Nat->List Val->Pr FV):kM->aN->Pr (Bool×List Val)
 |.nil,_=>.ok (true,[])
 |.cons e es,env=>pb (aS Ψ e env) λd=>pb (j4 Ψ es env) λp=>.ok (d.1&&p.1,d.2::p.2)
noncomputable def cQ(Ψ:Nat->List Val->Pr FV):kM->aN->Pr (List Val)
 |.nil,_=>.ok []
 |.cons e es,env=>pb (if isVar e=true then pl (jq env e) else aS Ψ e env) λd=>pb (cQ Ψ es env) λp=>.ok (d.2::p)
end
def GF(Ψ:Nat->List Val->Pr FV)(e:IE)(env:aN):Pr FV:=if isVar e=true then pl (jq env e) else aS Ψ e env
inductive u9
 |nx (env:aN)|rt (p:FV)|bk (env:aN)|ct (env:aN)
mutual
noncomputable def uC:IS->List Nat
 |.expr (.met .append (.var i) _)=>[i]
 |.expr (.met .extend (.var i) _)=>[i]
 |.gB (.var i) _ _=>[i]
 |.iff _ a b=>iJ a++iJ b
 |.for _ _ _ b=>iJ b
 |.whl _ _ b=>iJ b
 |_=>[]
noncomputable def iJ:b8->List Nat
 |.nil=>[]
 |.cons s r=>uC s++iJ r
end
def stored:yI->List Nat
 |.one i=>[i]
 |.tup is=>is
mutual
noncomputable def oO:IS->List Nat
 |.asg p _=>stored p
 |.aug i _ _=>[i]
 |.iff _ a b=>lg a++lg b
 |.for p _ _ b=>stored p++lg b
 |.whl _ _ b=>lg b
 |_=>[]
noncomputable def lg:b8->List Nat
 |.nil=>[]
 |.cons s r=>oO s++lg r
end
def Ui:IE->Bool
 |.lst _=>true
 |.comp ..=>true
 |.slc ..=>true
 |.blt .list _=>true
 |.blt .sorted _=>true
 |.dct0=>true
 |.dct1 ..=>true
 |_=>false
def fq(body:Val->aN->Pr u9):List Val->aN->Pr u9
 |[],env=>.ok (.nx env)
 | x::r,env=>pb (body x env) λf=>match f with
  |.nx env'=>fq body r env'
  |.ct env'=>fq body r env'
  |.bk env'=>.ok (.nx env')
  |.rt p=>.ok (.rt p)
def Vs:Mk->Mk
 |.ow=>.sh
 |m=>m
def Vt:Option (Mk×Val)->Option (Mk×Val)
 |none=>none
 |some (m,d)=>some (Vs m,d)
def tU(env:aN):aN:=env.map Vt
def IL(env:aN):kM->Option (Val×Val)
 | .cons (.var i) #[.var j]=>match env[i]?,env[j]? with
  |some (some (.nw,d)),some (some (.nw,e))=>some (d,e)
  |_,_=>none
 |_=>none
def IM(Ψ:Nat->List Val->Pr FV)(es:kM)(env:aN):Pr FV:=match IL env es with
 |some p=>.ok (true,.tup [p.1,p.2])
 |none=>aS Ψ (.tup es) (tU env)
def Su(Ψ:Nat->List Val->Pr FV)(e:IE)(env:aN):Pr FV:=match e with
 | .var i=>match env[i]? with
  | some (some (m,d))=>if n6 m=true then .ok (lJ d||Ot m,d) else match d with
   |.rl ds=>.ok (bC ds,.rl ds)
   |.dc ks ds=>.ok (bC ds,.dc ks ds)
   |_=>.no
  |_=>.no
 |.call j es=>aS Ψ (.call j es) (tU env)
 |.tup es=>IM Ψ es env
 |e=>aS Ψ e env
def qw(p:yI)(it:kM)(body:b8):Bool:=match it with
 |.cons (.var i) .nil=>!(iJ body).contains i && !(lg body).contains i && !(stored p).contains i
 |_=>true
def BS(k:Ik)(z o:Pr u9):Pr u9:=match k with
 |.zip=>z
 |_=>o
def BU:List Val->Option (List Val)
 |[.rl a,.rl b]=>some (e8 a b)
 |_=>none
mutual
noncomputable def aY(Ψ:Nat->List Val->Pr FV)(ms:List Nat):IS->aN->Pr u9
 | .expr e,env=>match e with
  | .met .append (.var i) #[a]=>match env[i]? with
   |some (some (.ow,.rl ds))=>pb (aS Ψ a env) λx=>pg (decide (ds.length<sizeLine)) (.ok (.nx (env.set i (some (.ow,.rl (ds++[x.2]))))))
   |_=>.no
  | .met .extend (.var i) #[a]=>match env[i]? with
   | some (some (.ow,.rl ds))=>pb (aS Ψ a env) λx=>match x.2 with
    |.tup vs=>pg (decide (ds.length+vs.length<=sizeLine)) (.ok (.nx (env.set i (some (.ow,.rl (ds++vs))))))
    |_=>.no
   |_=>.no
  |e=>pb (aS Ψ e env) λ_=>.ok (.nx env)
 | .asg p e,env=>match p with
  | .one i=>if ms.contains i=true then pg (Ui e) (pb (aS Ψ e env) λx=>match x.2 with
    |.rl ds=>.ok (.nx (env.set i (some (.ow,.rl ds))))
    |.dc ks ds=>.ok (.nx (env.set i (some (.ow,.dc ks ds))))
    |_=>.no) else pb (aS Ψ e env) λx=>.ok (.nx (env.set i (some (fL x.1 x.2,x.2))))
  |.tup is=>pg (is.all λi=>!ms.contains i) (pb (aS Ψ e env) λx=>pb (pl (bH (.tup is) x.2 env)) λenv'=>.ok (.nx env'))
 |.aug _ _ _,_=>.no
 | .gB o i v,env=>match o with
  | .var j=>pb (aS Ψ v env) λx=>match env[j]? with
   |some (some (.ow,.dc ks ds))=>pb (aS Ψ i env) λz=>pb (pl (keyOf z.2)) λk=>pg (decide (ks.length<sizeLine)) (.ok (.nx (env.set j (some (.ow,putD ks ds k x.2)))))
   |_=>.no
  |_=>.no
 |.iff c a b,env=>pb (GF Ψ c env) λx=>pb (pl (gZ [] x.2)) λt=>if t=true then aF Ψ ms a env else aF Ψ ms b env
 | .for p k it body,env=>BS k (pg ((stored p).all λi=>!ms.contains i) (pb (j4 Ψ it env) λq=>pb (pl (BU q.2)) λxs=>fq (λx env=>pb (pl (bH p x env)) λenv'=>aF Ψ ms body env') xs env))
  (pg (qw p it body&&(stored p).all λi=>!ms.contains i) (pb (cQ Ψ it env) λits=>pb (pl (gg k its)) λxs=>
   fq (λx env=>pb (pl (bH p x env)) λenv'=>aF Ψ ms body env') xs env))
 |.whl _ _ _,_=>.no
 |.ret e,env=>pb (Su Ψ e env) λp=>.ok (.rt p)
 |.Dr,_=>.ok (.rt (true,.non))
 |.brk,env=>.ok (.bk env)
 |.cnt,env=>.ok (.ct env)
 |.pass,env=>.ok (.nx env)
 |.never,_=>.no
 |.setF _ _ _ _,_=>.no
noncomputable def aF(Ψ:Nat->List Val->Pr FV)(ms:List Nat):b8->aN->Pr u9
 |.nil,env=>.ok (.nx env)
 | .cons s r,env=>pb (aY Ψ ms s env) λf=>match f with
  |.nx env'=>aF Ψ ms r env'
  |f=>.ok f
end
def di(Ψ:Nat->List Val->Pr FV)(n:Nat)(body:b8)(ds:List Val):Pr FV :=
 pb (aF Ψ (iJ body) body (ds.map (λd=>some (.sh,d))++replicate (n-ds.length) none)) λf=>match f with
  |.nx _=>.ok (true,.non)
  |.rt p=>.ok p
  |_=>.no
abbrev AP:=Option Nat->Prop
def Fr(n:Nat):AP:=λo=>match o with
 |none=>False
 |some k=>n<=k
theorem Fr.le{n m:Nat}(h:n<=m):∀o,Fr m o->Fr n o
 |none,e=>e
 |some k,e=>ZE h e
mutual
noncomputable def Dn(A:AP)(h:Hs):Val->Val->Prop
 |.non,v=>v=.non
 |.bl b,v=>v=.bl b
 |.int i,v=>v=.int i
 |.str x,v=>v=.str x
 |.tup ds,v=>∃vs,v=.tup vs/\ao A h ds vs
 |.rl ds,v=>(∃vs,v=.rl vs/\A none/\ao A h ds vs)\/∃i vs,v=.ref i/\A (some i)/\h[i]?=some (.lst vs)/\ao A h ds vs
 |.dc ks ds,v=>∃i kvs,v=.ref i/\A (some i)/\h[i]?=some (.dct kvs)/\kvs.map (·.1)=ks/\ao A h ds (kvs.map (·.2))
 |.ob c xs ds,v=>∃i fs,v=.ref i/\A (some i)/\h[i]?=some (.ins c fs)/\fs.map (·.1)=xs/\ao A h ds (fs.map (·.2))
 |.ref _,_=>False
noncomputable def ao(A:AP)(h:Hs):List Val->List Val->Prop
 |[],vs=>vs=[]
 |d::ds,vs=>∃v r,vs=v::r/\Dn A h d v/\ao A h ds r
end
section
variable {A A':AP} {h h' h1:Hs}
mutual
theorem Dn.mono(hA:∀i,A i->A' i)(hh:∀(i:Nat) (o:Ob),A (some i)->h[i]?=some o->h'[i]?=some o):∀(d v:Val),Dn A h d v->Dn A' h' d v
 |.non,v,e=>by rw[Dn]at e |-;exact e
 |.bl _,v,e=>by rw[Dn]at e |-;exact e
 |.int _,v,e=>by rw[Dn]at e |-;exact e
 |.str _,v,e=>by rw[Dn]at e |-;exact e
 | .tup ds,v,e=>by
  rw[Dn]at e |-;obtain⟨vs,rfl,q⟩:=e;exact⟨vs,rfl,ao.mono hA hh ds vs q⟩
 | .rl ds,v,e=>by
  rw[Dn]at e |-
  rcases e with ⟨vs,rfl,n,q⟩|⟨i,vs,rfl,a,g,q⟩
  ·exact .inl ⟨vs,rfl,hA _ n,ao.mono hA hh ds vs q⟩
  ·exact .inr ⟨i,vs,rfl,hA _ a,hh i _ a g,ao.mono hA hh ds vs q⟩
 | .dc ks ds,v,e=>by
  rw[Dn]at e |-;obtain⟨i,kvs,rfl,a,g,k,q⟩:=e;exact⟨i,kvs,rfl,hA _ a,hh i _ a g,k,ao.mono hA hh ds _ q⟩
 | .ob c xs ds,v,e=>by
  rw[Dn]at e |-;obtain⟨i,kvs,rfl,a,g,k,q⟩:=e;exact⟨i,kvs,rfl,hA _ a,hh i _ a g,k,ao.mono hA hh ds _ q⟩
 |.ref _,v,e=>by rw[Dn]at e;exact e.elim
theorem ao.mono(hA:∀i,A i->A' i)(hh:∀(i:Nat) (o:Ob),A (some i)->h[i]?=some o->h'[i]?=some o):∀(ds vs:List Val),ao A h ds vs->ao A' h' ds vs
 |[],vs,e=>by rw[ao]at e |-;exact e
 | d::ds,vs,e=>by
  rw[ao]at e |-;obtain⟨v,r,rfl,q1,q2⟩:=e;exact⟨v,r,rfl,Dn.mono hA hh d v q1,ao.mono hA hh ds r q2⟩
end
theorem ck{i:Nat}(p:h<+:h')(e:h[i]?=some o):h'[i]?=some o:=by
 obtain⟨t,rfl⟩:=p;have hi:i<h.length:=(Zb.mp e).1;rw[Zp hi];exact e
theorem Dn.ext(p:h<+:h')(e:Dn A h d v):Dn A h' d v:=Dn.mono (λ_ a=>a) (λ_ _ _ q=>ck p q) d v e
theorem ao.ext(p:h<+:h')(e:ao A h d v):ao A h' d v:=ao.mono (λ_ a=>a) (λ_ _ _ q=>ck p q) d v e
theorem Dn.dI(hA:∀i,A i->A' i)(e:Dn A h d v):Dn A' h d v:=Dn.mono hA (λ_ _ _ q=>q) d v e
theorem ao.dI(hA:∀i,A i->A' i)(e:ao A h d v):ao A' h d v:=ao.mono hA (λ_ _ _ q=>q) d v e
mutual
theorem lM:∀(d v:Val),lJ d=true->(Dn A h d v↔v=d)
 |.non,v,_=>by rw[Dn]
 |.bl _,v,_=>by rw[Dn]
 |.int _,v,_=>by rw[Dn]
 |.str _,v,_=>by rw[Dn]
 | .tup ds,v,e=>by
  rw[lJ]at e;rw[Dn];constructor
  ·rintro⟨vs,rfl,q⟩;rw[(bu ds vs e).mp q]
  ·rintro rfl;exact⟨ds,rfl,(bu ds ds e).mpr rfl⟩
 |.rl _,v,e=>by rw[lJ]at e;cases e
 |.dc _ _,v,e=>by rw[lJ]at e;cases e
 |.ob _ _ _,v,e=>by rw[lJ]at e;cases e
 |.ref _,v,e=>by rw[lJ]at e;cases e
theorem bu:∀(ds vs:List Val),bC ds=true->(ao A h ds vs↔vs=ds)
 |[],vs,_=>by rw[ao]
 | d::ds,vs,e=>by
  rw[bC,and_eq_true]at e;rw[ao];constructor
  ·rintro⟨v,r,rfl,q1,q2⟩;rw[(lM d v e.1).mp q1,(bu ds r e.2).mp q2]
  ·rintro rfl;exact⟨d,ds,rfl,(lM d d e.1).mpr rfl,(bu ds ds e.2).mpr rfl⟩
end
theorem ao.nil:ao A h [] []:=by rw[ao]
theorem ao.cons{d v:Val}{ds vs:List Val}(a:Dn A h d v)(b:ao A h ds vs):ao A h (d::ds) (v::vs):=by rw[ao];exact⟨v,vs,rfl,a,b⟩
theorem ao.length:∀{ds vs:List Val},ao A h ds vs->ds.length=vs.length
 |[],vs,e=>by rw[ao]at e;subst e;rfl
 |d::ds,vs,e=>by rw[ao]at e;obtain⟨v,r,rfl,_,q⟩:=e;simp[ao.length q]
theorem ao.get:∀{ds vs:List Val} {i:Nat} {d:Val},ao A h ds vs->ds[i]?=some d->∃v,vs[i]?=some v/\Dn A h d v
 |[],vs,i,d,e,q=>by simp at q
 | c::ds,vs,0,d,e,q=>by
  rw[ao]at e;obtain⟨v,r,rfl,a,_⟩:=e;simp at q;subst q;exact⟨v,rfl,a⟩
 | c::ds,vs,i+1,d,e,q=>by
  rw[ao]at e;obtain⟨v,r,rfl,_,b⟩:=e;simp at q;obtain⟨w,q1,q2⟩:=ao.get b q;exact⟨w,by simpa using q1,q2⟩
theorem ao.append:∀{ds es vs ws:List Val},ao A h ds vs->ao A h es ws->ao A h (ds++es) (vs++ws)
 |[],es,vs,ws,e,q=>by rw[ao]at e;subst e;exact q
 | d::ds,es,vs,ws,e,q=>by
  rw[ao]at e;obtain⟨v,r,rfl,a,b⟩:=e;exact ao.cons a (ao.append b q)
theorem ao.take:∀{ds vs:List Val} (n:Nat),ao A h ds vs->ao A h (ds.take n) (vs.take n)
 |_,_,0,_=>by simp;exact ao.nil
 |[],vs,n+1,e=>by rw[ao]at e;subst e;simp;exact ao.nil
 | d::ds,vs,n+1,e=>by
  rw[ao]at e;obtain⟨v,r,rfl,a,b⟩:=e;exact ao.cons a (ao.take n b)
theorem ao.drop:∀{ds vs:List Val} (n:Nat),ao A h ds vs->ao A h (ds.drop n) (vs.drop n)
 |_,_,0,e=>by simpa using e
 |[],vs,n+1,e=>by rw[ao]at e;subst e;simp;exact ao.nil
 | d::ds,vs,n+1,e=>by
  rw[ao]at e;obtain⟨v,r,rfl,a,b⟩:=e;exact ao.drop n b
theorem ao.cut(lo hi:Option Int)(e:ao A h ds vs):ao A h (cU ds lo hi) (cU vs lo hi):=by
 unfold cU;rw[e.length];exact ao.take _ (ao.drop _ e)
theorem ao.ji{i:Int}(e:ao A h ds vs)(q:L2.ji ds i=some d):∃v,L2.ji vs i=some v/\Dn A h d v:=by
 unfold L2.ji at q |-;rw[e.length]at q;cases hi:L2.JV vs.length i with
 |none=>rw[hi]at q;cases q
 |some n=>rw[hi]at q;exact ao.get e q
theorem ao.one(e:ao A h [d] vs):∃v,vs=[v]/\Dn A h d v:=by
 rw[ao]at e;obtain⟨v,r,rfl,a,b⟩:=e;rw[ao]at b;subst b;exact⟨v,rfl,a⟩
def OD(A:AP)(h:Hs)(d:Val)(a:Nat):Prop:=match d with
 |.rl ds=>∃vs,h[a]?=some (.lst vs)/\ao A h ds vs
 |.dc ks ds=>∃kvs,h[a]?=some (.dct kvs)/\kvs.map (·.1)=ks/\ao A h ds (kvs.map (·.2))
 |_=>False
theorem OD.mono{a:Nat}(e:OD A h d a)(ho:∀o,h[a]?=some o->h'[a]?=some o)(hq:∀ds vs,ao A h ds vs->ao A' h' ds vs):OD A' h' d a:=by
 cases d with
 |rl ds=>obtain⟨vs,g,q⟩:=e;exact⟨vs,ho _ g,hq _ _ q⟩
 |dc ks ds=>obtain⟨kvs,g,k,q⟩:=e;exact⟨kvs,ho _ g,k,hq _ _ q⟩
 |_=>exact False.elim e
theorem OD.ext{a:Nat}(p:h<+:h')(e:OD A h d a):OD A h' d a:=e.mono (λ_ g=>ck p g) λ_ _ q=>q.ext p
theorem OD.lt{a:Nat}(e:OD A h d a):a<h.length:=by
 cases d with
 |rl ds=>obtain⟨vs,g,q⟩:=e;exact(Zb.mp g).1
 |dc ks ds=>obtain⟨kvs,g,k,q⟩:=e;exact(Zb.mp g).1
 |_=>exact False.elim e
theorem OD.dn{a:Nat}(e:OD A h d a)(ha:A (.some a)):Dn A h d (.ref a):=by
 cases d with
 |rl ds=>obtain⟨vs,g,q⟩:=e;rw[Dn];exact .inr ⟨a,vs,rfl,ha,g,q⟩
 |dc ks ds=>obtain⟨kvs,g,k,q⟩:=e;rw[Dn];exact⟨a,kvs,rfl,ha,g,k,q⟩
 |_=>exact False.elim e
def OB(A:AP)(h:Hs)(d:Val)(o:Ob):Prop:=match d with
 |.rl ds=>∃vs,o=.lst vs/\ao A h ds vs
 |.dc ks ds=>∃kvs,o=.dct kvs/\kvs.map (·.1)=ks/\ao A h ds (kvs.map (·.2))
 |_=>False
theorem OB.od{a:Nat}(e:OB A h d o)(g:h'[a]?=.some o)(hq:∀ds vs,ao A h ds vs->ao A' h' ds vs):OD A' h' d a:=by
 cases d with
 |rl ds=>obtain⟨vs,rfl,q⟩:=e;exact⟨vs,g,hq _ _ q⟩
 |dc ks ds=>obtain⟨kvs,rfl,k,q⟩:=e;exact⟨kvs,g,k,hq _ _ q⟩
 |_=>exact False.elim e
def DB(A:AP)(h:Hs)(d v:Val):Prop:=Dn A h d v\/∃i,v=.ref i/\OD A h d i
theorem DB.all(e:DB A h d v):Dn (λ_=>True) h d v:=by
 rcases e with e|⟨i,rfl,q⟩
 ·exact e.dI λ_ _=>trivial
 ·exact(q.mono (A':=λ_=>True) (λ_ g=>g) λ_ _ z=>z.dI λ_ _=>trivial).dn trivial
theorem DB.ext(p:h<+:h')(e:DB A h d v):DB A h' d v:=by
 rcases e with e|⟨i,rfl,q⟩
 ·exact .inl (e.ext p)
 ·exact .inr ⟨i,rfl,q.ext p⟩
theorem DB.dc(e:DB A h (.dc ks ds) v):∃i kvs,v=.ref i/\h[i]?=some (.dct kvs)/\kvs.map (·.1)=ks/\ao A h ds (kvs.map (·.2)):=by
 rcases e with e|⟨i,rfl,kvs,g,k,q⟩
 ·rw[Dn]at e;obtain⟨i,kvs,rfl,_,g,k,q⟩:=e;exact⟨i,kvs,rfl,g,k,q⟩
 ·exact⟨i,kvs,rfl,g,k,q⟩
theorem DB.lst(e:DB A h (.rl ds) v):∃vs,aD h v=some vs/\ao A h ds vs:=by
 rcases e with e|⟨i,rfl,vs,g,q⟩
 ·rw[Dn]at e
  rcases e with ⟨vs,rfl,_,q⟩|⟨i,vs,rfl,_,g,q⟩
  ·exact⟨vs,rfl,q⟩
  ·exact⟨vs,by simp[aD,g],q⟩
 ·exact⟨vs,by simp[aD,g],q⟩
theorem DB.seq(e:DB A h d v)(q:cM [] d=some ds):∃vs,cM h v=some vs/\ao A h ds vs:=by
 cases d with
 |tup es=>
  simp only[cM]at q;cases q
  rcases e with e|⟨_,_,e1⟩
  ·rw[Dn]at e;obtain⟨vs,rfl,q⟩:=e;exact⟨vs,rfl,q⟩
  ·exact False.elim e1
 |rl es=>simp only[cM,aD]at q;cases q;obtain⟨vs,q1,q2⟩:=e.lst;refine⟨vs,?_,q2⟩;cases v<;>first|(simp[aD]at q1;done)|exact q1
 |ref i=>simp[cM,aD]at q
 |_=>simp[cM,aD]at q
theorem DB.int{i:Int}(e:DB A h (.int i) v):v=.int i:=by
 rcases e with e|⟨_,_,e1⟩
 ·rw[Dn]at e;exact e
 ·exact False.elim e1
theorem DB.str(e:DB A h (.str i) v):v=.str i:=by
 rcases e with e|⟨_,_,e1⟩
 ·rw[Dn]at e;exact e
 ·exact False.elim e1
theorem DB.bl{i:Bool}(e:DB A h (.bl i) v):v=.bl i:=by
 rcases e with e|⟨_,_,e1⟩
 ·rw[Dn]at e;exact e
 ·exact False.elim e1
theorem DB.tup(e:DB A h (.tup ds) v):∃vs,v=.tup vs/\ao A h ds vs:=by
 rcases e with e|⟨_,_,e1⟩
 ·rw[Dn]at e;exact e
 ·exact False.elim e1
theorem uD:∀(n:Nat) (d v:Val) (p:PyData),Dn (λ_=>True) h d v->toD n [] d=some p->toD n h v=some p:=by
 intro n
 induction n with
 |zero=>intro d v p _ e;simp[toD]at e
 |succ n ih=>
  have all:∀(ds vs:List Val) (ps:List PyData),ao (λ_=>True) h ds vs->cI (toD n []) ds=some ps->cI (toD n h) vs=some ps:=by
   intro ds
   induction ds with
   |nil=>intro vs ps q e;rw[ao]at q;subst q;exact e
   |cons d ds Xj=>intro vs ps q e;rw[ao]at q;obtain⟨v,r,rfl,q1,q2⟩:=q;simp only[cI]at e |-;obtain⟨x,e1,e⟩:=Za.mp e;obtain⟨xs,e2,e⟩:=Za.mp e;rw[ih d v x q1 e1,Xj r xs q2 e2];exact e
  intro d v p q e;cases d with
  |non=>rw[Dn]at q;subst q;exact e
  |bl b=>rw[Dn]at q;subst q;exact e
  |int b=>rw[Dn]at q;subst q;exact e
  |str b=>rw[Dn]at q;subst q;exact e
  |tup ds=>rw[Dn]at q;obtain⟨vs,rfl,q⟩:=q;simp only[toD]at e |-;obtain⟨ps,e1,e⟩:=Za.mp e;rw[all ds vs ps q e1];exact e
  |rl ds=>
   rw[Dn]at q;simp only[toD]at e;obtain⟨ps,e1,e⟩:=Za.mp e
   rcases q with ⟨vs,rfl,_,q⟩|⟨i,vs,rfl,_,g,q⟩
   ·simp only[toD];rw[all ds vs ps q e1];exact e
   ·simp only[toD,aD,g,bind_some];rw[all ds vs ps q e1];exact e
  |dc ks ds=>simp[toD]at e
  |ob c xs ds=>simp[toD]at e
  |ref i=>rw[Dn]at q;exact q.elim
theorem Kc{b:Bool}(a:DB A h d v)(c:DB A h e w)(q:zC [] d e=some b):zC h v w=some b:=by
 unfold zC at q |-;obtain⟨x,e1,q⟩:=Za.mp q;obtain⟨y,e2,q⟩:=Za.mp q;rw[uD 16 d v x a.all e1,uD 16 e w y c.all e2];exact q
theorem DZ(a:DB A h d v):jW v=jW d:=by
 rcases a with a|⟨i,rfl,q⟩
 ·cases d<;>rw[Dn]at a
  ·subst a;rfl
  ·subst a;rfl
  ·subst a;rfl
  ·subst a;rfl
  ·obtain⟨vs,rfl,_⟩:=a;rfl
  ·rcases a with ⟨vs,rfl,_⟩|⟨i,vs,rfl,_⟩<;>rfl
  ·obtain⟨i,kvs,rfl,_⟩:=a;rfl
  ·obtain⟨i,kvs,rfl,_⟩:=a;rfl
  ·exact a.elim
 ·cases d<;>first|exact False.elim q|rfl
theorem D3{b:Bool}(a:DB A h d v)(c:DB A h e w)(q:vO [] d e=some b):vO h v w=some b:=by
 have data:memD [] d e=some b->memD h v w=some b:=λq=>by
  unfold memD at q |-;obtain⟨x,e1,q⟩:=Za.mp q;obtain⟨y,e2,q⟩:=Za.mp q;rw[uD 16 e w x c.all e1,uD 16 d v y a.all e2];exact q
 exact data q
theorem D4{b:Bool}(a:DB A h d v)(c:DB A h e w)(q:JZ d e=some b):JZ v w=some b:=by
 cases e<;>first|(cases q;done)|skip
 ·have:w=.non:=by
   rcases c with c|⟨_,_,e1⟩
   ·rw[Dn]at c;exact c
   ·exact False.elim e1
  subst this;show some (jW v)=_;rw[DZ a];exact q
theorem MQ{b:Bool}(a:DB A h d v)(c:DB A h e w)(q:cop [] o d e=some b):cop h o v w=some b:=by
 cases o with
 |eq=>exact Kc a c q
 |ne=>obtain⟨x,e1,e2⟩:=ZL.mp (show (zC [] d e).map _=some b from q);show (zC h v w).map _=_;rw[Kc a c e1];exact ZN some e2
 |isn=>exact D4 a c q
 |ntn=>obtain⟨x,e1,e2⟩:=ZL.mp (show (JZ d e).map _=some b from q);show (JZ v w).map _=_;rw[D4 a c e1];exact ZN some e2
 |Cr=>exact D3 a c q
 |nin=>obtain⟨x,e1,e2⟩:=ZL.mp (show (vO [] d e).map _=some b from q);show (vO h v w).map _=_;rw[D3 a c e1];exact ZN some e2
 |lt=>obtain⟨i,j,rfl,rfl⟩:=jY (.inl rfl) q;have:=a.int;subst this;have:=c.int;subst this;exact q
 |le=>obtain⟨i,j,rfl,rfl⟩:=jY (.inr (.inl rfl)) q;have:=a.int;subst this;have:=c.int;subst this;exact q
 |gt=>obtain⟨i,j,rfl,rfl⟩:=jY (.inr (.inr (.inl rfl))) q;have:=a.int;subst this;have:=c.int;subst this;exact q
 |ge=>obtain⟨i,j,rfl,rfl⟩:=jY (.inr (.inr (.inr rfl))) q;have:=a.int;subst this;have:=c.int;subst this;exact q
theorem uE{b:Bool}(a:DB A h d v)(q:gZ [] d=some b):gZ h v=some b:=by
 cases d<;>first|(cases q;done)|skip
 have:=a.bl;subst this;exact q
theorem MR{n:Nat}(a:DB A h d v)(q:nq [] d=some n):nq h v=some n:=by
 cases d with
 |rl ds=>
  obtain⟨vs,q1,q2⟩:=a.lst;have l:=q2.length;simp only[nq]at q;rw[l]at q;cases v<;>simp only[aD]at q1<;>first|(cases q1;done)|skip
  ·cases q1;exact q
  ·split at q1<;>cases q1;rename_i g;simp only[nq,g];exact q
 |tup ds=>obtain⟨vs,rfl,q2⟩:=a.tup;simp only[nq]at q |-;rw[<-q2.length];exact q
 |dc ks ds=>obtain⟨i,kvs,rfl,g,hk,_⟩:=a.dc;subst hk;simp only[nq,g]at q |-;rw[<-q];simp
 |_=>simp[nq]at q
theorem Qx{t:String}(a:DB A h d v)(q:vQ [] d=some t):vQ h v=some t:=by
 cases d with
 |rl ds=>
  obtain⟨vs,q1,q2⟩:=a.lst;cases v<;>simp only[aD]at q1<;>first|(cases q1;done)|skip
  ·exact q
  ·split at q1<;>cases q1;rename_i g;simp only[vQ,g];exact q
 |tup ds=>obtain⟨vs,rfl,q2⟩:=a.tup;exact q
 |dc ks ds=>obtain⟨i,kvs,rfl,g,hk,_⟩:=a.dc;simp only[vQ,g]at q |-;exact q
 |ob c xs ds=>cases q
 |ref i=>
  rcases a with a|⟨_,_,e1⟩
  ·rw[Dn]at a;exact a.elim
  ·exact False.elim e1
 |non=>
  rcases a with a|⟨_,_,e1⟩
  ·rw[Dn]at a;subst a;exact q
  ·exact False.elim e1
 |bl b=>have:=a.bl;subst this;exact q
 |int b=>have:=a.int;subst this;exact q
 |str b=>have:=a.str;subst this;exact q
theorem uF:∀{kvs:List (Key×Val)} {ks:List Key} {ds:List Val} {z:Val},kvs.map (·.1)=ks->ao A h ds (kvs.map (·.2))->cT (ks.zip ds) k=some z->∃v,cT kvs k=some v/\Dn A h z v
 |[],ks,ds,z,hk,q,e=>by subst hk;simp[cT]at e
 | (k',v')::kvs,ks,ds,z,hk,q,e=>by
  subst hk;have l:=q.length;cases ds with
  |nil=>simp at l
  |cons d ds=>
   simp only[map_cons]at q;rw[ao]at q;obtain⟨v,r,e1,q1,q2⟩:=q;cases e1
   by_cases hkk:k'=k
   ·subst hkk;simp[cT]at e |-;subst e;exact q1
   ·have e':cT ((kvs.map (·.1)).zip ds) k=some z:=by simpa [cT,hkk] using e
    obtain⟨w,a1,a2⟩:=uF rfl q2 e';exact⟨w,by simpa [cT,hkk] using a1,a2⟩
theorem DB.qy{j:Nat}(c:DB A h (.ref j) v):False:=by
 rcases c with c|⟨_,_,e1⟩
 ·rw[Dn]at c;exact c
 ·exact e1
theorem z9:∀{kvs:List (Key×Val)} {ds:List Val},ao A h ds (kvs.map (·.2))->cT ((kvs.map (·.1)).zip ds) k=none->cT kvs k=none
 |[],ds,q,e=>rfl
 | (k',v')::kvs,ds,q,e=>by
  cases ds with
  |nil=>rw[ao]at q;cases q
  |cons d ds=>
   rw[Zo,ao]at q;obtain⟨v,r,eq,q1,q2⟩:=q;cases eq;unfold cT at e |-;rw[Zo,zip_cons_cons,find?_cons]at e;rw[find?_cons]
   by_cases hk:k'=k
   ·simp[hk]at e
   ·simp only[hk,decide_false]at e |-;exact z9 q2 e
theorem yS(a:Dn A h d v)(e:keyOf d=some kk):keyOf v=some kk:=by
 cases d<;>first|(cases e;done)|skip
 ·rw[Dn]at a;subst a;exact e
 ·rw[Dn]at a;subst a;exact e
theorem MS(a:DB A h o v)(e:BA [] o k=some r):∃r',BA h v k=some r'/\∀z z',Dn A h z z'->Dn A h (r.getD z) (r'.getD z'):=by
 cases o<;>first|(cases e;done)|(exact(DB.qy a).elim)|skip
 rename_i ks ds;obtain⟨i,kvs,rfl,g,hk,q⟩:=a.dc;cases e;have eg:BA h (.ref i) k=some (cT kvs k):=by show (match h[i]? with|some (.dct kvs)=>some (cT kvs k)|_=>none)=_;rw[g]
 refine⟨_,eg,λz z' hz=>?_⟩;cases ev:cT (ks.zip ds) k with
 |none=>subst hk;rw[z9 q ev];exact hz
 |some d=>obtain⟨u,e1,e2⟩:=uF hk q ev;rw[e1];exact e2
theorem D5(a:DB A h o v)(e:vP [] o=some ks):vP h v=some ks:=by
 cases o<;>first|(cases e;done)|(exact(DB.qy a).elim)|skip
 obtain⟨i,kvs,rfl,g,hk,q⟩:=a.dc;cases e;show (match h[i]? with|some (.dct kvs)=>some (kvs.map (λkv:Key×Val=>kv.1))|_=>none)=_;rw[g];exact ZN some hk
theorem mG:∀ks:List Key,bC (ks.map Dt)=true
 |[]=>rfl
 |.inl _::ks=>by rw[Zo,bC,mG ks];rfl
 |.inr _::ks=>by rw[Zo,bC,mG ks];rfl
theorem IP{u:Unit}(a:DB A h o v)(e:Ds [] o=some u):Ds h v=some u:=by
 cases o<;>first|(cases e;done)|(exact(DB.qy a).elim)|skip
 obtain⟨i,kvs,rfl,g,hk,q⟩:=a.dc;show (match h[i]? with|some (.dct _)=>some ()|_=>none)=_;rw[g]
theorem MT(a:DB A h d v)(c:Dn A h e w)(q:jm [] d e=some z):∃u,jm h v w=some u/\Dn A h z u:=by
 cases e with
 |int i=>
  rw[Dn]at c;subst c;cases d with
  |tup ds=>obtain⟨vs,rfl,q2⟩:=a.tup;exact q2.ji q
  |rl ds=>
   obtain⟨vs,q1,q2⟩:=a.lst;obtain⟨u,q3,q4⟩:=q2.ji q;refine⟨u,?_,q4⟩;cases v<;>simp only[aD]at q1<;>first|(cases q1;done)|skip
   ·cases q1;exact q3
   ·split at q1<;>cases q1;rename_i g;unfold jm;simp only[aD,g,bind_some];exact q3
  |dc ks ds=>obtain⟨i',kvs,rfl,g,hk,q2⟩:=a.dc;obtain⟨u,q3,q4⟩:=uF hk q2 q;refine⟨u,?_,q4⟩;show (match h[i']? with|some (.dct kvs)=>cT kvs (.inl i)|_=>(aD h (.ref i')).bind λxs=>ji xs i)=_;rw[g];exact q3
  |ref j=>exact(DB.qy a).elim
  |_=>cases q
 |_=>cases d<;>first|(cases q;done)|exact(DB.qy a).elim
theorem uG:∀{fs:List (Str×Val)} {ds:List Val},ao A h ds (fs.map (·.2))->(((fs.map (·.1)).zip ds).lookup x=none->fs.lookup x=none)/\∀z,((fs.map (·.1)).zip ds).lookup x=some z->∃u,fs.lookup x=some u/\Dn A h z u
 |[],ds,q=>⟨λ_=>rfl,λz e=>by simp at e⟩
 | (k,v)::fs,ds,q=>by
  cases ds with
  |nil=>rw[ao]at q;cases q
  |cons d ds=>
   rw[Zo,ao]at q;obtain⟨w,r,eq,q1,q2⟩:=q;cases eq;rw[Zo,zip_cons_cons,lookup_cons,lookup_cons];cases hb:x==k with
   |true=>exact⟨λz=>(by cases z),λz e=>(by cases e;exact⟨v,rfl,q1⟩)⟩
   |false=>exact uG q2
theorem DB.ob{c:Nat}(e:DB A h (.ob c xs ds) v):∃i fs,v=.ref i/\h[i]?=some (.ins c fs)/\fs.map (·.1)=xs/\ao A h ds (fs.map (·.2)):=by
 rcases e with e|⟨_,_,e1⟩
 ·rw[Dn]at e;obtain⟨i,fs,rfl,_,g,k,q⟩:=e;exact⟨i,fs,rfl,g,k,q⟩
 ·exact False.elim e1
theorem MU{n:Nat}(a:DB A h o v)(e:qf n [] o x=some z):∃u,qf n h v x=some u/\Dn A h z u:=by
 cases o<;>first|(cases e;done)|(exact(DB.qy a).elim)|skip
 obtain⟨i,fs,rfl,g,hk,q⟩:=a.ob;subst hk;unfold qf at e;dsimp only at e;split at e
 ·rename_i hc;obtain⟨u,e1,e2⟩:=(uG q).2 z e;refine⟨u,?_,e2⟩;unfold qf;dsimp only;rw[g];dsimp only;rw[Zg hc];exact e1
 ·cases e
theorem D6{j:Nat}(a:DB A h o v)(e:lF [] o m js=some j):lF h v m js=some j:=by
 cases o<;>first|(cases e;done)|(exact(DB.qy a).elim)|skip
 obtain⟨i,fs,rfl,g,hk,q⟩:=a.ob;subst hk;unfold lF at e;dsimp only at e;split at e
 ·rename_i hc;have e1:=(uG q).1 (by simpa using hc);unfold lF;dsimp only;rw[g];dsimp only;rw[Zg (by rw[e1];rfl)];exact e
 ·cases e
end
def Up(A:AP)(h:Hs):Prop:=∀k,h.length<=k->A (some k)
def Rel(A:AP)(h:Hs){α β:Type}(R:α -> Hs -> β -> Prop)(o:Out β):Pr α -> Prop
 |.ok a=>∃b h',o=.ok b h'/\h<+:h'/\R a h' b
 |.exc c es=>∃ws h',o=.exc c ws h'/\h<+:h'/\ao A h' es ws
 |.no=>True
def RV(A:AP)(h:Hs):FV->Hs->Val->Prop:=λx h' v=>Dn A h' x.2 v/\(x.1=true->Dn (Fr h.length) h' x.2 v)
def Xk(A:AP)(h:Hs):Bool×List Val->Hs->List Val->Prop:=λx h' v=>ao A h' x.2 v/\(x.1=true->ao (Fr h.length) h' x.2 v)
def Uj(A:AP):FV->Hs->Val->Prop:=λx h' v=>DB A h' x.2 v
def GG(A:AP)(h:Hs):List Val->List Val->Prop
 |[],vs=>vs=[]
 |d::ds,vs=>∃v r,vs=v::r/\DB A h d v/\GG A h ds r
def ER(A:AP)(aa:aN)(env:Env)(h:Hs):Prop:=∀(i:Nat) (f:Mk) (d:Val),aa[i]?=some (some (f,d)) ->
 if n6 f=false then ∃a,env[i]?=some (some (.ref a))/\OD A h d a else ∃v,env[i]?=some (some v)/\Dn A h d v
section
variable {A:AP} {h h1:Hs} {α β γ δ:Type}
theorem Up.ext(u:Up A h)(p:h<+:h1):Up A h1:=λk hk=>u k (ZE p.length_le hk)
theorem ER.ext(e:ER A aa env h)(p:h<+:h1):ER A aa env h1:=λi f d q=>by
 have:=e i f d q;revert this;generalize n6 f=t;intro this;cases t with
 |false=>rw[Zg rfl]at this |-;obtain⟨a,k2,k3⟩:=this;exact⟨a,k2,k3.ext p⟩
 |true=>rw[Zi (by decide)]at this |-;obtain⟨v,k1,k2⟩:=this;exact⟨v,k1,k2.ext p⟩
theorem ai(r:Rel A h R (m h) p)(k:∀a h1 b,h<+:h1->R a h1 b->Rel A h1 R' (f b h1) (F a)):Rel A h R' (bnd m f h) (pb p F):=by
 unfold bnd;cases p with
 |ok a=>
  obtain⟨b,h1,e,q,r⟩:=r;rw[e];show Rel A h R' (f b h1) (F a);have:=k a h1 b q r;cases e2:F a with
  |ok c=>rw[e2]at this;obtain⟨d,h2,e3,q2,r2⟩:=this;exact⟨d,h2,e3,q.trans q2,r2⟩
  |exc c es=>rw[e2]at this;obtain⟨d,h2,e3,q2,r2⟩:=this;exact⟨d,h2,e3,q.trans q2,r2⟩
  |no=>trivial
 |exc c es=>obtain⟨ws,h1,e,q,r⟩:=r;rw[e];exact⟨ws,h1,rfl,q,r⟩
 |no=>trivial
theorem aH(r:R a h b):Rel A h R (ret b h) (.ok a):=⟨b,h,rfl,Zu _,r⟩
theorem bB(r:∀a,o=some a->∃b,o'=some b/\R a h b):Rel A h R (bx o' h) (pl o):=by
 cases o with
 |none=>trivial
 |some a=>obtain⟨b,rfl,q⟩:=r a rfl;exact⟨b,h,rfl,Zu _,q⟩
theorem cA(r:∀a,o=some a->∃b,f h=some b/\R a h b):Rel A h R (ask f h) (pl o):=bB r
theorem cH{c c':Bool}(e:c=true->c'=true)(r:c=true->Rel A h R (m h) p):Rel A h R (aQ c' m h) (pg c p):=by
 unfold aQ pg;cases c with
 |true=>rw[Zg (e rfl),Zg rfl];exact r rfl
 |false=>rw[Zi Y9];trivial
theorem wD(r:Rel A h R o p)(k:∀a h' b,h<+:h'->R a h' b->R' a h' b):Rel A h R' o p:=by
 cases p with
 |ok a=>obtain⟨b,h',e,q,r⟩:=r;exact⟨b,h',e,q,k a h' b q r⟩
 |exc c es=>exact r
 |no=>trivial
theorem dw(o:Ob):h<+:h++[o]:=prefix_append _ _
theorem iK(o:Ob):(h++[o])[h.length]?=some o:=by simp
theorem iy{f:Bool}{h0:Hs}(u:Up A h)(p:h0<+:h)(q:ao A h xs vs)(g:f=true->ao (Fr h0.length) h xs vs):Rel A h (RV A h0) (new (.lst vs) h) (.ok (f,.rl xs)):=by
 refine⟨_,_,rfl,dw _,?_,λhf=>?_⟩
 ·show Dn A _ (.rl xs) _;rw[Dn];exact .inr ⟨_,vs,rfl,u _ (Zm _),iK _,q.ext (dw _)⟩
 ·show Dn _ _ (.rl xs) _;rw[Dn];exact .inr ⟨_,vs,rfl,p.length_le,iK _,(g hf).ext (dw _)⟩
theorem nI{h0:Hs}(q:Dn A h d v):RV A h0 (lJ d,d) h v:=⟨q,λhi=>(lM d v hi).mpr ((lM d v hi).mp q)⟩
theorem iL(q:ao A h ds vs)(hi:bC ds=true):ao A' h' ds vs:=(bu ds vs hi).mpr ((bu ds vs hi).mp q)
theorem iG{i:Int}{h0:Hs}{f:Bool}:RV A h0 (f,.int i) h (.int i):=⟨by rw[Dn],λ_=>by rw[Dn]⟩
theorem n8{i:Bool}{h0:Hs}{f:Bool}:RV A h0 (f,.bl i) h (.bl i):=⟨by rw[Dn],λ_=>by rw[Dn]⟩
theorem RV.br{h0:Hs}(r:RV A h0 x h v):Uj A x h v:=.inl r.1
theorem IQ(ho:o≠.add)(v w:Val):(∃i j,v=.int i/\w=.int j)\/lK o v w=.no:=by
 cases v with
 |int i=>
  cases w with
  |int j=>exact .inl ⟨i,j,rfl,rfl⟩
  |_=>right;cases o<;>first|rfl|exact absurd rfl ho
 |_=>right;cases o<;>first|rfl|exact absurd rfl ho
theorem IT{h0:Hs}(u:Up A h)(p:h0<+:h)(a:DB A h d v)(c:DB A h e w):Rel A h (RV A h0) (Oj o v w h) (lK o d e):=by
 have ii:o≠.add->(∃i j,d=.int i/\e=.int j)\/lK o d e=.no:=λho=>IQ ho d e;cases o with
 |add=>
  cases d<;>cases e<;>first|trivial|skip
  ·have:=a.int;subst this;have:=c.int;subst this;exact aH iG
  ·rename_i xs ys
   obtain⟨vs,e1,q1⟩:=a.lst;obtain⟨ws,e2,q2⟩:=c.lst;have eb:Oj .add v w=bnd (ask λh=>aD h v) λa=>bnd (ask λh=>aD h w) λb=>aQ (decide (a.length+b.length<=sizeLine)) (new (.lst (a++b))):=by
    cases v<;>simp only[aD]at e1<;>first|(cases e1;done)|skip
    all_goals cases w<;>simp only[aD]at e2<;>first|(cases e2;done)|rfl
   have ev:Oj .add v w h=aQ (decide (vs.length+ws.length<=sizeLine)) (new (.lst (vs++ws))) h:=by rw[eb];unfold bnd ask bx;dsimp only;rw[e1];dsimp only;rw[e2]
   rw[ev];refine cH (λz=>?_) λ_=>iy u p (q1.append q2) λhi=>iL (q1.append q2) hi;rw[<-q1.length,<-q2.length];exact z
 |_=>
  rcases ii (by intro z;cases z) with ⟨i,j,rfl,rfl⟩|z
  case inr=>rw[z];trivial
  have:=a.int;subst this;have:=c.int;subst this
  first
   |exact aH iG
   |exact cH (λz=>z) λ_=>aH iG
theorem IU{lo hi:Option Int}{h0:Hs}(u:Up A h)(p:h0<+:h)(a:DB A h d v):Rel A h (RV A h0) (rG v lo hi h) (BQ d lo hi):=by
 cases d with
 |tup ds=>
  obtain⟨vs,rfl,q⟩:=a.tup;have l:=q.length;simp only[BQ,rG];refine cH (λz=>?_) λ_=>aH ⟨?_,λhi=>?_⟩
  ·rw[l]at z;exact z
  ·show Dn A h (.tup _) _;rw[Dn];exact⟨_,rfl,q.cut lo hi⟩
  ·show Dn _ h (.tup _) _;rw[Dn];exact⟨_,rfl,iL (q.cut _ _) hi⟩
 |rl ds=>
  obtain⟨vs,e1,q⟩:=a.lst;have ev:rG v lo hi h=new (.lst (cU vs lo hi)) h:=by
   have:rG v lo hi=bnd (ask λh=>aD h v) λxs=>new (.lst (cU xs lo hi)):=by cases v<;>simp only[aD]at e1<;>first|(cases e1;done)|rfl
   rw[this];unfold bnd ask bx;dsimp only;rw[e1]
  rw[ev];exact iy u p (q.cut lo hi) λhh=>iL (q.cut lo hi) hh
 |_=>trivial
theorem GG.one(e:GG A h [d] vs):∃v,vs=[v]/\DB A h d v:=by
 obtain⟨v,r,rfl,a,b⟩:=e;cases (show r=[] from b);exact⟨v,rfl,a⟩
theorem IV{ns:List Int}(q:ao A h ds vs)(e:bz ds=some ns):vs=ds:=by
 have:bC ds=true:=by
  clear q
  induction ds generalizing ns with
  |nil=>rfl
  |cons d ds ih=>
   simp only[bz,cI]at e;obtain⟨i,e1,e⟩:=Za.mp e;obtain⟨is,e2,e⟩:=Za.mp e;cases d<;>first|(cases e1;done)|skip
   rw[bC,lJ,Bool.true_and];exact ih e2
 exact(bu ds vs this).mp q
theorem D7(q:ao A h ds vs)(e:dM ds=some ns):vs=ds:=by
 have:bC ds=true:=by
  clear q
  induction ds generalizing ns with
  |nil=>rfl
  |cons d ds ih=>
   simp only[dM,cI]at e;obtain⟨i,e1,e⟩:=Za.mp e;obtain⟨is,e2,e⟩:=Za.mp e;cases d<;>first|(cases e1;done)|skip
   rw[bC,lJ,Bool.true_and];exact ih e2
 exact(bu ds vs this).mp q
theorem qz:∀{ds:List Val} {ns:List Int},bz ds=some ns->bC ds=true
 |[],_,_=>rfl
 | d::ds,ns,e=>by
  simp only[bz,cI]at e;obtain⟨i,e1,e⟩:=Za.mp e;obtain⟨is,e2,e⟩:=Za.mp e;cases d<;>first|(cases e1;done)|skip
  rw[bC,lJ,Bool.true_and];exact qz (show bz ds=some is from e2)
theorem wF:∀{ds:List Val} {ns:List (List Int)},k8 ds=some ns->bC ds=true
 |[],_,_=>rfl
 | d::ds,ns,e=>by
  simp only[k8,cI]at e;obtain⟨i,e1,e⟩:=Za.mp e;obtain⟨is,e2,e⟩:=Za.mp e;cases d<;>first|(cases e1;done)|skip
  rename_i vs;dsimp only at e1;split at e1
  ·cases e1
  ·rw[bC,lJ,qz e1,Bool.true_and];exact wF (show k8 ds=some is from e2)
theorem cy:∀ns:List Int,bC (ns.map .int)=true
 |[]=>rfl
 |n::ns=>by rw[Zo,bC,lJ,Bool.true_and];exact cy ns
theorem mH:∀o6:List (List Int),bC (o6.map fH)=true
 |[]=>rfl
 |n::ns=>by rw[Zo,bC,fH,lJ,cy,Bool.true_and];exact mH ns
theorem sV(e:gC xs=some ys):bC xs=true/\bC ys=true:=by
 unfold gC at e;split at e
 ·cases e2:bz xs with
  |some ns=>rw[e2]at e;cases e;exact⟨qz e2,cy _⟩
  |none=>rw[e2]at e;obtain⟨o6,e3,e4⟩:=Za.mp e;cases e4;exact⟨wF e3,mH _⟩
 ·cases e
theorem IW{h0:Hs}(u:Up A h)(p:h0<+:h)(a:GG A h ds vs):Rel A h (RV A h0) (blt b vs h) (iI b ds):=by
 have mm:∀(f:List Int->Option Val) (d:Val),(∀ns m,f ns=some m->∃i,m=.int i)->∀v,DB A h d v->Rel A h (RV A h0) (bnd (ask λh=>cM h v) (λxs=>bx ((bz xs).bind f)) h) (pb (pl (cM [] d)) λxs=>pb (pl ((bz xs).bind f)) λm=>.ok (true,m)):=by
  intro f d hf v hv;refine ai (R:=λxs h' ws=>ao A h' xs ws) (cA λxs e=>hv.seq e) λxs h1 ws q1 q=>?_;have:bx ((bz ws).bind f) h1=bnd (bx ((bz ws).bind f)) (λm=>ret m) h1:=by unfold bnd bx;cases (bz ws).bind f<;>rfl
  rw[this];refine ai (R:=λm _ m'=>m'=m/\∃i,m=.int i) (bB λm e=>?_) λm h2 m' _ hm=>?_
  ·obtain⟨ns,e1,e2⟩:=Za.mp e;rw[IV q e1];exact⟨m,e,rfl,hf ns m e2⟩
  ·obtain⟨rfl,i,rfl⟩:=hm;exact aH iG
 have hmin:∀ns m,ur ns=some m->∃i,m=Val.int i:=λns m e=>by cases ns<;>simp[ur]at e;exact⟨_,e.symm⟩
 have Uk:∀ns m,uu ns=some m->∃i,m=Val.int i:=λns m e=>by cases ns<;>simp[uu]at e;exact⟨_,e.symm⟩
 match ds,a with
 |[],a=>cases b<;>trivial
 |[d],a=>
  obtain⟨v,rfl,hv⟩:=a.one;cases b with
  |len=>exact ai (R:=λn _ m=>m=n) (cA λn e=>⟨n,MR hv e,rfl⟩) λn h1 m _ e=>by subst e;exact aH iG
  |min=>
   have e1:iI .min [d]=pb (pl (cM [] d)) λxs=>pb (pl ((bz xs).bind ur)) λm=>.ok (true,m):=by cases d<;>rfl
   have e2:blt .min [v]=bnd (ask λh=>cM h v) λxs=>bx ((bz xs).bind ur):=by cases v<;>rfl
   rw[e1,e2];exact mm ur d hmin v hv
  |max=>
   have e1:iI .max [d]=pb (pl (cM [] d)) λxs=>pb (pl ((bz xs).bind uu)) λm=>.ok (true,m):=by cases d<;>rfl
   have e2:blt .max [v]=bnd (ask λh=>cM h v) λxs=>bx ((bz xs).bind uu):=by cases v<;>rfl
   rw[e1,e2];exact mm uu d Uk v hv
  |sorted=>
   cases d<;>first|trivial|skip
   rename_i xs;obtain⟨ws,e1,q⟩:=hv.lst;have ev:bnd (ask λh=>aD h v) (λxs=>bnd (bx (gC xs)) λys=>new (.lst ys)) h=bnd (bx (gC ws)) (λys=>new (.lst ys)) h:=by unfold bnd ask bx;dsimp only;rw[e1]
   show Rel A h (RV A h0) (bnd (ask λh=>aD h v) (λxs=>bnd (bx (gC xs)) λys=>new (.lst ys)) h) _;rw[ev];refine ai (R:=λys _ zs=>zs=ys/\bC ys=true) (bB λys e=>?_) λys h1 zs q1 hz=>?_
   ·obtain⟨i1,i2⟩:=sV e;rw[(bu xs ws i1).mp q];exact⟨ys,e,rfl,i2⟩
   ·obtain⟨rfl,hi⟩:=hz;exact iy (u.ext q1) (p.trans q1) ((bu _ _ hi).mpr rfl) λ_=>(bu _ _ hi).mpr rfl
  |list=>refine ai (R:=λxs h' ws=>ao A h' xs ws) (cA λxs e=>hv.seq e) λxs h1 ws q1 q=>?_;exact iy (u.ext q1) (p.trans q1) q λhi=>iL q hi
  |tuple=>trivial
  |str=>trivial
  |int=>
   cases d<;>first|trivial|skip
   ·have:=hv.bl;subst this;exact aH iG
   ·have:=hv.int;subst this;exact aH iG
  |all=>
   cases d<;>first|trivial|skip
   rename_i xs;obtain⟨ws,e1,q⟩:=hv.lst;have ev:bnd (ask λh=>aD h v) (λxs=>bnd (bx (dM xs)) λbs=>ret (Val.bl (bs.all id))) h=bnd (bx (dM ws)) (λbs=>ret (Val.bl (bs.all id))) h:=by unfold bnd ask bx;dsimp only;rw[e1]
   show Rel A h (RV A h0) (bnd (ask λh=>aD h v) (λxs=>bnd (bx (dM xs)) λbs=>ret (Val.bl (bs.all id))) h) _;rw[ev];exact ai (R:=λys _ zs=>zs=ys) (bB λys e=>⟨ys,by rw[D7 q e];exact e,rfl⟩) λys h1 zs q1 hz=>by subst hz;exact aH n8
  |any=>trivial
  |isin T=>refine ai (R:=λn _ m=>m=n) (cA λn e=>⟨n,Qx hv e,rfl⟩) λn h1 m _ e=>?_;subst e;exact ai (R:=λn _ m=>m=n) (bB λn e=>⟨n,e,rfl⟩) λn h1 m _ e=>by subst e;exact aH n8
 |[d,e],a=>
  obtain⟨v,r,rfl,hv,hr⟩:=a;obtain⟨w,rfl,hw⟩:=GG.one hr;cases b<;>first|trivial|(cases d<;>trivial)|skip
  ·cases d<;>cases e<;>first|trivial|skip
   have:=hv.int;subst this;have:=hw.int;subst this;exact aH iG
  ·cases d<;>cases e<;>first|trivial|skip
   have:=hv.int;subst this;have:=hw.int;subst this;exact aH iG
 |x::y::z::t,a=>cases b<;>first|trivial|(cases x<;>trivial)|(cases x<;>cases y<;>trivial)
end
def Imp(φ:List Val->M Val)(ψ:List Val->Pr FV):Prop:=∀(A:AP) (h:Hs) (ds vs:List Val),Up A h->ao A h ds vs->Rel A h (RV A h) (φ vs h) (ψ ds)
section
variable {Φ:Nat->List Val->M Val} {Ψ:Nat->List Val->Pr FV} {A:AP} {h h1:Hs}
theorem cX{x y:Bool}(f:(x&&y)=true):x=true/\y=true:=Bool.and_eq_true_iff.mp f
theorem oQ{x y z:Bool}(f:(x&&y&&z)=true):(x=true/\y=true)/\z=true:=⟨cX (cX f).1,(cX f).2⟩
def bT(Φ:Nat->List Val->M Val)(Ψ:Nat->List Val->Pr FV)(ir:IE):Prop:=∀(aa:aN) (env:Env) (A:AP) (h:Hs),Up A h->ER A aa env h->Rel A h (RV A h) (aP Φ ir env h) (aS Ψ ir aa)
def jG(Φ:Nat->List Val->M Val)(Ψ:Nat->List Val->Pr FV)(dZ:kM):Prop:=(∀(aa:aN) (env:Env) (A:AP) (h:Hs),Up A h->ER A aa env h->Rel A h (Xk A h) (bG Φ dZ env h) (j4 Ψ dZ aa)) /\
 ∀(aa:aN) (env:Env) (A:AP) (h:Hs),Up A h->ER A aa env h->Rel A h (λds h' vs=>GG A h' ds vs) (bG Φ dZ env h) (cQ Ψ dZ aa)
theorem RV.up{h0 h':Hs}(p:h0<+:h)(r:RV A h x h' v):RV A h0 x h' v:=⟨r.1,λf=>(r.2 f).dI (Fr.le p.length_le)⟩
theorem D8{h0:Hs}(p:h0<+:h)(r:Rel A h (RV A h) o x):Rel A h (RV A h0) o x:=wD r λ_ _ _ _ q=>q.up p
theorem Qy{i:Nat}(e:ER A aa env h):Rel A h (Uj A) (aP Φ (.var i) env h) (pl (jq aa (.var i))):=by
 rw[aP];refine bB λx hx=>?_;simp only[jq]at hx;split at hx
 ·rename_i f d hd
  cases hx;have:=e i f d hd;revert this;generalize n6 f=t;intro this;cases t with
  |false=>rw[Zg rfl]at this;obtain⟨a,k2,k3⟩:=this;exact⟨.ref a,by rw[k2],.inr ⟨a,rfl,k3⟩⟩
  |true=>rw[Zi (by decide)]at this;obtain⟨v,k1,k2⟩:=this;exact⟨v,by rw[k1],.inl k2⟩
 ·cases hx
theorem nJ(o:bT Φ Ψ ir)(u:Up A h)(e:ER A aa env h):Rel A h (Uj A) (aP Φ ir env h) (if isVar ir=true then pl (jq aa ir) else aS Ψ ir aa):=by
 by_cases hv:isVar ir=true
 ·rw[Zg hv];cases ir<;>first|(cases hv;done)|exact Qy e
 ·rw[Zi hv];exact wD (o aa env A h u e) λ_ _ _ _ q=>q.br
theorem IX{α β:Type}{R:α -> Hs -> β -> Prop}{c:Bool}{o:Out β}{p:Pr α}(r:c=true->Rel A h R o p):Rel A h R o (pg c p):=by
 unfold pg;cases c with
 |true=>rw[Zg rfl];exact r rfl
 |false=>rw[Zi Y9];trivial
theorem v_var{i:Nat}:bT Φ Ψ (.var i):=λaa env A h u e=>by
 rw[aP,aS];cases hv:aa[i]? with
 |none=>trivial
 |some o=>
  cases o with
  |none=>trivial
  |some fd=>
   obtain⟨f,d⟩:=fd;refine IX λhf=>?_
   ·have:=e i f d hv;rw[Zi (by simp[hf])]at this;obtain⟨v,k1,k2⟩:=this;rw[k1];exact⟨v,h,rfl,Zu _,nI k2⟩
theorem Aa{α:Type}{f:Hs->Option α}:ask f h=bnd (ask f) (λz=>ret z) h:=by unfold bnd ask bx;cases f h<;>rfl
theorem Ab(f:lJ d=true):Dn A h d d:=(lM d d f).mpr rfl
theorem Qz(f:lJ d=true):bT Φ Ψ (.cst d):=λaa env A h u e=>by rw[aP,aS];exact aH (nI (Ab f))
theorem QA(f:lJ d=true):bT Φ Ψ (.con x d):=λaa env A h u e=>by rw[aP,aS];exact aH (nI (Ab f))
theorem Ul:bT Φ Ψ .no:=λaa env A h u e=>by rw[aS];trivial
theorem QB(ha:bT Φ Ψ a)(hb:bT Φ Ψ b):bT Φ Ψ (.bin o a b):=λaa env A h u e=>by
 rw[aP,aS];exact ai (nJ ha u e) λx h1 v p1 q1=>ai (nJ hb (u.ext p1) (e.ext p1)) λy h2 w p2 q2=>IT ((u.ext p1).ext p2) (p1.trans p2) (DB.ext p2 q1) q2
theorem QC(ha:bT Φ Ψ a):bT Φ Ψ (.neg a):=λaa env A h u e=>by
 rw[aP,aS];refine ai (ha aa env A h u e) λx h1 v p1 q1=>?_;obtain⟨f,d⟩:=x;have q:=q1.1;cases d<;>dsimp only<;>first|trivial|skip
 dsimp only at q;rw[Dn]at q;subst q;exact aH iG
theorem QD(ha:bT Φ Ψ a)(hb:bT Φ Ψ b):bT Φ Ψ (.cmp o a b):=λaa env A h u e=>by
 rw[aP,aS];exact ai (nJ ha u e) λx h1 v p1 q1=>ai (nJ hb (u.ext p1) (e.ext p1)) λy h2 w p2 q2=>
  ai (R:=λt _ t'=>t'=t) (cA λt et=>⟨t,MQ (DB.ext p2 q1) q2 et,rfl⟩) λt h3 t' p3 et=>by subst et;exact aH n8
theorem QE(ha:bT Φ Ψ a)(hb:bT Φ Ψ b)(hc:bT Φ Ψ c):bT Φ Ψ (.chn o o' a b c):=λaa env A h u e=>by rw[aS];trivial
theorem j5(q:Dn A h d v):Rel A h (λt _ t'=>t'=t) (qc v h) (qv d):=by
 cases d<;>first|trivial|skip
 rw[Dn]at q;subst q;exact aH rfl
theorem v_and(ha:bT Φ Ψ a)(hb:bT Φ Ψ b):bT Φ Ψ (.and a b):=λaa env A h u e=>by
 rw[aP,aS];refine ai (ha aa env A h u e) λx h1 v p1 q1=>ai (j5 q1.1) λt h2 t' p2 et=>?_;subst et;cases t' with
 |true=>rw[Zg rfl,Zg rfl];exact ai (hb aa env A h2 ((u.ext p1).ext p2) ((e.ext p1).ext p2)) λy h3 w p3 q3=>ai (j5 q3.1) λt h2 t' p2 et=>by subst et;exact aH n8
 |false=>rw[Zi Y9,Zi Y9];exact aH n8
theorem v_or(ha:bT Φ Ψ a)(hb:bT Φ Ψ b):bT Φ Ψ (.or a b):=λaa env A h u e=>by
 rw[aP,aS];refine ai (ha aa env A h u e) λx h1 v p1 q1=>ai (j5 q1.1) λt h2 t' p2 et=>?_;subst et;cases t' with
 |false=>rw[Zi Y9,Zi Y9];exact ai (hb aa env A h2 ((u.ext p1).ext p2) ((e.ext p1).ext p2)) λy h3 w p3 q3=>ai (j5 q3.1) λt h2 t' p2 et=>by subst et;exact aH n8
 |true=>rw[Zg rfl,Zg rfl];exact aH n8
theorem v_not(ha:bT Φ Ψ a):bT Φ Ψ (.not a):=λaa env A h u e=>by
 rw[aP,aS];exact ai (ha aa env A h u e) λx h1 v p1 q1=>ai (j5 q1.1) λt h2 t' p2 et=>by subst et;exact aH n8
theorem v_ite(hc:bT Φ Ψ c)(ha:bT Φ Ψ a)(hb:bT Φ Ψ b):bT Φ Ψ (.ite c a b):=λaa env A h u e=>by rw[aS];trivial
theorem Kd:jG Φ Ψ .nil:=⟨λaa env A h u e=>by rw[bG,j4];exact aH ⟨ao.nil,λ_=>ao.nil⟩,λaa env A h u e=>by rw[bG,cQ];exact aH rfl⟩
theorem D9(he:bT Φ Ψ e)(hs:jG Φ Ψ es):jG Φ Ψ (.cons e es):=by
 refine⟨λaa env A h u er=>?_,λaa env A h u er=>?_⟩
 ·rw[bG,j4]
  refine ai (he aa env A h u er) λx h1 v p1 q1=>ai (hs.1 aa env A h1 (u.ext p1) (er.ext p1)) λy h2 vs p2 q2=>?_;refine aH ⟨ao.cons (q1.1.ext p2) q2.1,λhf=>?_⟩;have hf':x.1=true/\y.1=true:=by simpa using hf
  exact ao.cons ((q1.2 hf'.1).ext p2) ((q2.2 hf'.2).dI (Fr.le p1.length_le))
 ·rw[bG,cQ];refine ai (nJ he u er) λx h1 v p1 q1=>ai (hs.2 aa env A h1 (u.ext p1) (er.ext p1)) λy h2 vs p2 q2=>?_;exact aH ⟨v,vs,rfl,DB.ext p2 q1,q2⟩
theorem QF(hs:jG Φ Ψ es):bT Φ Ψ (.tup es):=λaa env A h u e=>by
 rw[aP,aS];refine ai (hs.1 aa env A h u e) λx h1 vs p1 q1=>cH (λz=>by rw[<-q1.1.length];exact z) λ_=>aH ⟨?_,λhf=>?_⟩
 ·show Dn A h1 (.tup _) _;rw[Dn];exact⟨vs,rfl,q1.1⟩
 ·show Dn _ h1 (.tup _) _;rw[Dn];exact⟨vs,rfl,q1.2 hf⟩
theorem MV:bT Φ Ψ .dct0:=λaa env A h u e=>by
 rw[aP,aS];refine⟨_,_,rfl,dw _,?_,λhf=>?_⟩
 ·show Dn A _ (.dc [] []) _;rw[Dn];exact⟨_,[],rfl,u _ (Zm _),iK _,rfl,ao.nil⟩
 ·show Dn _ _ (.dc [] []) _;rw[Dn];exact⟨_,[],rfl,Zm _,iK _,rfl,ao.nil⟩
theorem MW(hk:bT Φ Ψ k)(hv:bT Φ Ψ v):bT Φ Ψ (.dct1 k v):=λaa env A h u e=>by
 rw[aP,aS];refine ai (hk aa env A h u e) λx h1 w p1 q1=>ai (R:=λkk _ kk'=>kk'=kk) (bB λkk ek=>⟨kk,yS q1.1 ek,rfl⟩) λkk h2 kk' p2 hkk=>?_;subst hkk;refine ai (hv aa env A h2 ((u.ext p1).ext p2) ((e.ext p1).ext p2)) λy h3 z p3 q3=>?_;have p:=(p1.trans p2).trans p3;refine⟨_,_,rfl,dw _,?_,λhf=>?_⟩
 ·show Dn A _ (.dc [kk'] [y.2]) _;rw[Dn];exact⟨_,[(kk',z)],rfl,u _ p.length_le,iK _,rfl,ao.cons (q3.1.ext (dw _)) ao.nil⟩
 ·show Dn _ _ (.dc [kk'] [y.2]) _;rw[Dn];exact⟨_,[(kk',z)],rfl,p.length_le,iK _,rfl,ao.cons (((q3.2 hf).dI (Fr.le (p1.trans p2).length_le)).ext (dw _)) ao.nil⟩
theorem MX(hd:bT Φ Ψ d)(hk:bT Φ Ψ k)(hx:bT Φ Ψ x):bT Φ Ψ (.dget d k x):=λaa env A h u e=>by
 rw[aP,aS];refine ai (nJ hd u e) λo h1 v p1 q1=>ai (R:=λ_ _ _=>True) (cA λt et=>⟨t,IP q1 et,trivial⟩) λ_ h2 _ p2 _=>?_;refine ai (hk aa env A h2 ((u.ext p1).ext p2) ((e.ext p1).ext p2)) λi h3 w p3 q3=>ai (R:=λkk _ kk'=>kk'=kk) (bB λkk ek=>⟨kk,yS q3.1 ek,rfl⟩) λkk h4 kk' p4 hkk=>?_;subst hkk;have Vu:=((p1.trans p2).trans p3).trans p4;refine ai (hx aa env A h4 (u.ext Vu) (e.ext Vu)) λz h5 z' p5 q5=>?_;refine ai (R:=λr h' r'=>∀a b,Dn A h5 a b->Dn A h' (r.getD a) (r'.getD b)) (cA λr er=>?_) λr h6 r' p6 hr=>aH (nI (hr _ _ q5.1));obtain⟨r',e1,e2⟩:=MS (DB.ext ((p2.trans p3).trans (p4.trans p5)) q1) er;exact⟨r',e1,e2⟩
theorem IY(hd:bT Φ Ψ d):bT Φ Ψ (.lkeys d):=λaa env A h u e=>by
 rw[aP,aS];refine ai (nJ hd u e) λo h1 v p1 q1=>ai (R:=λks _ ks'=>ks'=ks) (cA λks ek=>⟨ks,D5 q1 ek,rfl⟩) λks h2 ks' p2 hk=>?_;subst hk;exact iy ((u.ext p1).ext p2) (p1.trans p2) ((bu _ _ (mG ks')).mpr rfl) λ_=>(bu _ _ (mG ks')).mpr rfl
theorem IZ(hd:bT Φ Ψ d):bT Φ Ψ (.skeys d):=λaa env A h u e=>by rw[aS];trivial
theorem wG:∀{xs:List Val} {ns:List Int},bz xs=some ns->xs=ns.map .int
 |[],ns,e=>by cases e;rfl
 | x::xs,ns,e=>by
  unfold bz at e;rw[cI]at e;obtain⟨i,e1,e⟩:=Za.mp e;obtain⟨r,e2,e⟩:=Za.mp e;cases e;cases x<;>simp at e1;subst e1;rw[wG e2];rfl
theorem MY{p q:Nat}(hd:bT Φ Ψ d)(hw:bT Φ Ψ w):bT Φ Ψ (.dflt N' js p q d w):=λaa env A h u e=>by rw[aS];trivial
theorem QG(ha:bT Φ Ψ a):bT Φ Ψ (.isc a x bs):=λaa env A h u e=>by rw[aS];trivial
theorem MZ(ha:bT Φ Ψ a):bT Φ Ψ (.sset a):=λaa env A h u e=>by
 rw[aP,aS];refine ai (nJ ha u e) λx h1 v p1 q1=>?_;obtain⟨f,d⟩:=x;cases d<;>first|trivial|skip
 rename_i xs;obtain⟨vs,e1,e2⟩:=DB.lst q1;have ea:∀(F:List Val->M Val),bnd (ask λh=>aD h v) F h1=F vs h1:=λF=>by unfold bnd ask bx;dsimp only;rw[e1]
 rw[ea];show Rel A h1 _ _ (pb (pl (bz xs)) _);refine ai (R:=λns h' ns'=>ns'=ns) (bB λns en=>⟨ns,?_,rfl⟩) λns h2 ns' p2 en=>?_
 ·have ei:=wG en;subst ei;rw[(bu _ _ (cy ns)).mp e2];exact en
 ·subst en;refine cH (λz=>z) λ_=>?_;have hi:∀ms:List Int,ao A h2 (ms.map Val.int) (ms.map Val.int):=λms=>(bu _ _ (cy ms)).mpr rfl;exact iy ((u.ext p1).ext p2) (p1.trans p2) (hi _) λ_=>(bu _ _ (cy _)).mpr rfl
theorem QH(hs:jG Φ Ψ es):bT Φ Ψ (.lst es):=λaa env A h u e=>by
 rw[aP,aS];exact ai (hs.1 aa env A h u e) λx h1 vs p1 q1=>cH (λz=>by rw[<-q1.1.length];exact z) λ_=>iy (u.ext p1) p1 q1.1 q1.2
theorem QI(ha:bT Φ Ψ a)(hb:bT Φ Ψ b):bT Φ Ψ (.idx a b):=λaa env A h u e=>by
 rw[aP,aS];refine ai (nJ ha u e) λx h1 v p1 q1=>ai (hb aa env A h1 (u.ext p1) (e.ext p1)) λy h2 w p2 q2=>?_;rw[Aa];exact ai (R:=λz h' z'=>Dn A h' z z') (cA λz ez=>MT (DB.ext p2 q1) q2.1 ez) λz h3 z' p3 q3=>aH (nI q3)
theorem mJ(o:bT Φ Ψ ir)(u:Up A h)(e:ER A aa env h) :
  Rel A h (λ(t:Option Int) _ t'=>t'=t) ((if dm ir=true then ret none else bnd (aP Φ ir env) λv=>bnd (bx (k9 v)) λi=>ret (some i)) h) (if dm ir=true then .ok none else pb (aS Ψ ir aa) λv=>pb (pl (k9 v.2)) λi=>.ok (some i)):=by
 by_cases hn:dm ir=true
 ·rw[Zg hn,Zg hn];exact aH rfl
 ·rw[Zi hn,Zi hn]
  refine ai (o aa env A h u e) λx h1 v p1 q1=>ai (R:=λt _ t'=>t'=t) (bB λi ei=>?_) λt h2 t' p2 et=>by subst et;exact aH rfl
  obtain⟨f,d⟩:=x;have q:=q1.1;cases d<;>first|(cases ei;done)|skip
  dsimp only at q;rw[Dn]at q;subst q;exact⟨i,ei,rfl⟩
theorem QJ(ha:bT Φ Ψ a)(hl:bT Φ Ψ lo)(hh:bT Φ Ψ hi):bT Φ Ψ (.slc a lo hi):=λaa env A h u e=>by
 rw[aP,aS];refine ai (nJ ha u e) λx h1 v p1 q1=>ai (mJ hl (u.ext p1) (e.ext p1)) λl h2 l' p2 el=>ai (mJ hh ((u.ext p1).ext p2) ((e.ext p1).ext p2)) λr h3 r' p3 er=>?_;subst el;subst er;exact IU (((u.ext p1).ext p2).ext p3) ((p1.trans p2).trans p3) (DB.ext (p2.trans p3) q1)
theorem QK(ha:bT Φ Ψ a)(hs:bT Φ Ψ sx):bT Φ Ψ (.rev a sx):=λaa env A h u e=>by rw[aS];trivial
theorem M0{j:Nat}(hΦ:∀j,Imp (Φ j) (Ψ j))(hs:jG Φ Ψ es):bT Φ Ψ (.call j es):=λaa env A h u e=>by
 rw[aP,aS];exact ai (hs.1 aa env A h u e) λx h1 vs p1 q1=>D8 p1 (hΦ j A h1 x.2 vs (u.ext p1) q1.1)
theorem QL{n:Nat}(ha:bT Φ Ψ a):bT Φ Ψ (.fld n a x):=λaa env A h u e=>by
 rw[aP,aS];refine ai (nJ ha u e) λo h1 v p1 q1=>?_;rw[Aa];exact ai (R:=λz h' z'=>Dn A h' z z') (cA λz ez=>MU q1 ez) λz h3 z' p3 q3=>aH (nI q3)
theorem QM(hΦ:∀j,Imp (Φ j) (Ψ j))(ha:bT Φ Ψ a)(hs:jG Φ Ψ es):bT Φ Ψ (.mth a m js es):=λaa env A h u e=>by
 rw[aP,aS];refine ai (ha aa env A h u e) λo h1 v p1 q1=>ai (R:=λj _ j'=>j'=j) (cA λj ej=>⟨j,D6 (.inl q1.1) ej,rfl⟩) λj h2 j' p2 hj=>?_;subst hj;exact ai (hs.1 aa env A h2 ((u.ext p1).ext p2) ((e.ext p1).ext p2)) λx h3 vs p3 q3=>D8 ((p1.trans p2).trans p3) (hΦ j' A h3 (o.2::x.2) (v::vs) (((u.ext p1).ext p2).ext p3) (ao.cons (q1.1.ext (p2.trans p3)) q3.1))
theorem QN(hs:jG Φ Ψ es):bT Φ Ψ (.blt b es):=λaa env A h u e=>by
 rw[aP,aS];exact ai (hs.2 aa env A h u e) λx h1 vs p1 q1=>IW (u.ext p1) p1 q1
theorem QO(ha:bT Φ Ψ a)(hs:jG Φ Ψ es):bT Φ Ψ (.met m a es):=λaa env A h u e=>by
 cases m with
 |join=>rw[aS];trivial
 |_=>rw[aS]<;>first|trivial|(intro z;cases z)
def SrcR(A:AP)(h:Hs)(xs:List Val)(src:Src):Prop:=∃ws,ao A h xs ws/\∀h',h<+:h'->src.items h'=some ws
theorem iM{lo:Int}{n:Nat}:ao A h (bZ lo n) (bZ lo n):=by
 unfold bZ;generalize List.range n=l
 induction l with
 |nil=>exact ao.nil
 |cons a l ih=>exact ao.cons (by rw[Dn]) ih
theorem fN:∀{xs ws:List Val} (i:Nat),ao A h xs ws->ao A h (p9 i xs) (p9 i ws)
 |[],ws,i,q=>by rw[ao]at q;subst q;exact ao.nil
 | x::xs,ws,i,q=>by
  rw[ao]at q;obtain⟨w,r,rfl,a,b⟩:=q;exact ao.cons (by rw[Dn];exact⟨_,rfl,ao.cons (by rw[Dn]) (ao.cons a ao.nil)⟩) (fN (i+1) b)
theorem uH{ds vs:List Val}(a:DB A h (.rl ds) v):∃ws,ao A h ds ws/\((v=.rl ws)\/∃i,v=.ref i/\∀h',h<+:h'->aD h' (.ref i)=some ws):=by
 rcases a with a|⟨i,rfl,vs,g,q⟩
 ·rw[Dn]at a
  rcases a with ⟨vs,rfl,_,q⟩|⟨i,vs,rfl,_,g,q⟩
  ·exact⟨vs,q,.inl rfl⟩
  ·exact⟨vs,q,.inr ⟨i,rfl,λh' p=>by simp[aD,ck p g]⟩⟩
 ·exact⟨vs,q,.inr ⟨i,rfl,λh' p=>by simp[aD,ck p g]⟩⟩
theorem uI:∀{xs ws ys zs:List Val},ao A h xs ws->ao A h ys zs->ao A h (e8 xs ys) (e8 ws zs)
 |[],ws,ys,zs,q,_=>by rw[ao]at q;subst q;rw[e8.eq_def,e8.eq_def];exact ao.nil
 | x::xs,ws,[],zs,q,q'=>by
  rw[ao]at q;rw[ao]at q';subst q';obtain⟨w,r,rfl,a,b⟩:=q;rw[e8.eq_def,e8.eq_def];exact ao.nil
 | x::xs,ws,y::ys,zs,q,q'=>by
  rw[ao]at q;rw[ao]at q';obtain⟨w,r,rfl,a,b⟩:=q;obtain⟨w',r',rfl,a',b'⟩:=q';rw[e8,e8];exact ao.cons (by rw[Dn];exact⟨_,rfl,ao.cons a (ao.cons a' ao.nil)⟩) (uI b b')
theorem wH(a:DB A h (.rl ds) v):∃ws,ao A h ds ws/\∀h',h<+:h'->aD h' v=some ws:=by
 obtain⟨ws,q,rfl|⟨i,rfl,g⟩⟩:=uH (vs:=[]) a
 ·exact⟨ws,q,λ_ _=>rfl⟩
 ·exact⟨ws,q,g⟩
theorem Ac(a:GG A h ds vs):Rel A h (λxs h' src=>SrcR A h' xs src) (bx (srcOf k vs) h) (pl (BR k ds)):=by
 refine bB λxs e=>?_;cases k with
 |seq=>
  match ds,e with
  |[.tup es],e=>cases e;obtain⟨v,rfl,hv⟩:=a.one;obtain⟨ws,rfl,q⟩:=hv.tup;exact⟨.fix ws,rfl,ws,q,λ_ _=>rfl⟩
  |[.rl es],e=>
   cases e;obtain⟨v,rfl,hv⟩:=a.one;obtain⟨ws,q,rfl|⟨i,rfl,g⟩⟩:=uH (vs:=[]) hv
   ·exact⟨.fix ws,rfl,ws,q,λ_ _=>rfl⟩
   ·exact⟨.live i,rfl,ws,q,λh' p=>g h' p⟩
 |range=>
  match ds,e with
  |[.int n],e=>
   obtain⟨v,rfl,hv⟩:=a.one;have:=hv.int;subst this;change (if inR n=true then some (bZ 0 n.toNat) else none)=some _ at e;split at e
   ·rename_i hn;cases e;exact⟨.fix _,Zg hn,_,iM,λ_ _=>rfl⟩
   ·cases e
  |[.int n,.int m],e=>
   obtain⟨v,r,rfl,hv,hr⟩:=a;obtain⟨w,rfl,hw⟩:=GG.one hr;have:=hv.int;subst this;have:=hw.int;subst this;change (if (inR n&&inR m)=true then some (bZ n (m-n).toNat) else none)=some _ at e;split at e
   ·rename_i hn;cases e;exact⟨.fix _,Zg hn,_,iM,λ_ _=>rfl⟩
   ·cases e
 |enum=>
  match ds,e with
  |[.rl es],e=>
   cases e;obtain⟨v,rfl,hv⟩:=a.one;obtain⟨ws,q,rfl|⟨i,rfl,g⟩⟩:=uH (vs:=[]) hv
   ·exact⟨.fix _,rfl,_,fN 0 q,λ_ _=>rfl⟩
   ·exact⟨.enum i,rfl,_,fN 0 q,λh' p=>by simp[Src.items,g h' p]⟩
 |zip=>
  match ds,e with
  |[.rl es,.rl fs],e=>cases e;obtain⟨v,r,rfl,hv,hr⟩:=a;obtain⟨w,rfl,hw⟩:=GG.one hr;obtain⟨ws,q,g⟩:=wH hv;obtain⟨zs,q',g'⟩:=wH hw;exact⟨.zip v w,rfl,_,uI q q',λh' p=>by show (aD h' v).bind _=_;rw[g h' p];show (aD h' w).map _=_;rw[g' h' p];rfl⟩
theorem Ad:∀{is:List Nat} {ds vs:List Val} {aa aB:aN} {env:Env},bK is ds aa=some aB->ao A h ds vs->ER A aa env h->(∀i∈is,i<aa.length->i<env.length)->∃env',bindAll is vs env=some env'/\ER A aB env' h
 | [],[],vs,aa,aB,env,e,q,er,_=>by
  rw[ao]at q;subst q;simp only[bK]at e;cases e;exact⟨env,rfl,er⟩
 | i::is,d::ds,vs,aa,aB,env,e,q,er,hl=>by
  rw[ao]at q;obtain⟨v,r,rfl,q1,q2⟩:=q;simp only[bK]at e;have Xl:ER A (aa.set i (some (.sh,d))) (env.set i (some v)) h:=λj f d' hj=>by
   by_cases hij:i=j
   ·subst hij
    have hi:i<aa.length:=by have:=(Zb.mp hj).1;simpa using this
    rw[Zl hi]at hj;cases hj;rw[Zi (by decide)];exact⟨v,by rw[Zl (hl i Zk hi)],q1⟩
   ·rw[Zd hij]at hj;rw[Zd hij];exact er j f d' hj
  simp only[bindAll];exact Ad e q2 Xl λj hj hl'=>by simpa using hl j (Zh _ hj) (by simpa using hl')
 |[],_::_,_,_,_,_,e,_,_,_=>by simp[bK]at e
 |_::_,[],_,_,_,_,e,_,_,_=>by simp[bK]at e
theorem wI(e:bH p d aa=some aB)(q:Dn A h d v)(er:ER A aa env h)(hl:aa.length<=env.length):∃env',fJ p v env=some env'/\ER A aB env' h:=by
 cases p with
 |one i=>
  simp only[bH]at e;cases e;refine⟨_,rfl,λj f d' hj=>?_⟩
  by_cases hij:i=j
  ·subst hij
   have hi:i<aa.length:=by have:=(Zb.mp hj).1;simpa using this
   rw[Zl hi]at hj;cases hj;rw[Zi (by decide)];exact⟨v,by rw[Zl (by omega)],q⟩
  ·rw[Zd hij]at hj;rw[Zd hij];exact er j f d' hj
 |tup is=>
  cases d<;>simp only[bH]at e<;>first|(cases e;done)|skip
  rw[Dn]at q;obtain⟨vs,rfl,q⟩:=q;exact Ad e q er λi _ hi=>by omega
theorem Ae(e:ER A aa env h):ER A (fM js aa) (jX js env) h:=λi f d q=>by
 unfold fM at q;rw[Zx]at q;cases hj:js[i]? with
 |none=>rw[hj]at q;cases q
 |some o=>
  rw[hj]at q;simp only[map_some]at q;cases o with
  |none=>cases q
  |some j=>
   dsimp only at q;cases ej:aa[j]? with
   |none=>rw[ej]at q;cases q
   |some w=>
    cases w with
    |none=>rw[ej]at q;cases q
    |some fd=>
     rw[ej]at q;cases q;have:=e j f d ej;revert this;generalize n6 f=t;intro this;cases t with
     |false=>rw[Zg rfl]at this |-;obtain⟨a,k2,k3⟩:=this;refine⟨a,?_,k3⟩;unfold jX;rw[Zx,hj];simp only[map_some];rw[k2]
     |true=>rw[Zi (by decide)]at this |-;obtain⟨v,k1,k2⟩:=this;refine⟨v,?_,k2⟩;unfold jX;rw[Zx,hj];simp only[map_some];rw[k1]
theorem qA :
  ∀(xs:List Val) (vs:List Val) (i:Nat) (acc:List Val) (h:Hs),hb<+:h->Up A h->(∀h',h<+:h'->src.items h'=some ws)->ws.drop i=vs->ao A h xs vs ->
   (∀x v h',h<+:h'->Dn A h' x v->Rel A h' (λo h'' o'=>match o,o' with|some e,some e'=>RV A hb e h'' e'|none,none=>True|_,_=>False) (f v h') (g x)) ->
   Rel A h (λp h' ys=>∃zs,ys=acc++zs/\ao A h' p.2 zs/\(p.1=true->ao (Fr hb.length) h' p.2 zs)) (fK src f vs.length i acc h) (jB g xs)
 | [],vs,i,acc,h,Vv,u,hi,hd,q,hf=>by
  rw[ao]at q;subst q;have hl:ws.length<=i:=List.drop_eq_nil_iff.mp hd;have ev:fK src f ([]:List Val).length i acc h=.ok acc h:=by show fK src f 0 i acc h=_;simp only[fK];unfold bnd ask bx aQ;dsimp only;rw[hi h (Zu _)];dsimp only;rw[Zg (decide_eq_true hl)];rfl
  rw[ev,jB];exact⟨acc,h,rfl,Zu _,[],by simp,ao.nil,λ_=>ao.nil⟩
 | x::xs,vs,i,acc,h,Vv,u,hi,hd,q,hf=>by
  rw[ao]at q;obtain⟨v,r,rfl,q1,q2⟩:=q;have hv:ws[i]?=some v:=by have:=ZN (λl=>l[0]?) hd;simpa using this
  have hr:ws.drop (i+1)=r:=by
   have:ws.drop (i+1)=(ws.drop i).drop 1:=by rw[drop_drop]
   rw[this,hd];rfl
  have ev:fK src f (v::r).length i acc h=bnd (f v) (λo=>fK src f r.length (i+1) (match o with|some e=>acc++[e]|none=>acc)) h:=by show fK src f (r.length+1) i acc h=_;simp only[fK];unfold bnd ask bx;dsimp only;rw[hi h (Zu _)];dsimp only;rw[hv];try rfl
  rw[ev,jB];refine ai (hf x v h (Zu _) q1) λo h1 o' p1 ho=>?_;have ih:=λacc'=>qA xs r (i+1) acc' h1 (Vv.trans p1) (u.ext p1) (λh' p=>hi h' (p1.trans p)) hr (q2.ext p1) λx v h' p=>hf x v h' (p1.trans p);cases o' with
  |some e'=>
   cases o with
   |none=>exact ho.elim
   |some e=>
    have ih:=ih (acc++[e']);cases e2:jB g xs with
    |ok p=>
     rw[e2]at ih;obtain⟨ys,h2,e3,p2,zs,rfl,z1,z2⟩:=ih;refine⟨_,h2,e3,p2,e'::zs,by simp,ao.cons (ho.1.ext p2) z1,λhp=>?_⟩;have Vw:e.1=true/\p.1=true:=by simpa using hp
     exact ao.cons ((ho.2 Vw.1).ext p2) (z2 Vw.2)
    |exc c es=>rw[e2]at ih;exact ih
    |no=>trivial
  |none=>
   cases o with
   |some e'=>exact ho.elim
   |none=>
    have ih:=ih acc;cases e2:jB g xs with
    |ok p=>rw[e2]at ih;obtain⟨ys,h2,e3,p2,zs,rfl,z1,z2⟩:=ih;exact⟨_,h2,e3,p2,zs,rfl,z1,z2⟩
    |exc c es=>rw[e2]at ih;exact ih
    |no=>trivial
theorem M1(hs:jG Φ Ψ it)(hc:bT Φ Ψ c)(he:bT Φ Ψ elt):bT Φ Ψ (.comp N js pat k it c elt):=λaa env A h u e=>by
 rw[aP,aS];refine ai (hs.2 aa env A h u e) λds h1 vs p1 q1=>ai (Ac q1) λxs h2 src p2 q2=>?_;obtain⟨ws,q3,q4⟩:=q2;have l:=q3.length;have ev:∀(F:List Val->M Val),bnd (ask λh=>src.items h) F h2=F ws h2:=λF=>by unfold bnd ask bx;dsimp only;rw[q4 h2 (Zu _)]
 rw[ev];refine cH (λz=>by rw[<-l];exact z) λ_=>?_;have u2:=(u.ext p1).ext p2;have e2:=(e.ext p1).ext p2;refine ai (qA (hb:=h) xs ws 0 [] h2 (p1.trans p2) u2 q4 rfl q3 λx v h' p' qx=>?_) λp h3 ys p3 hp=>?_
 ·refine ai (R:=λaB _ env'=>∃_:ER A aB env' h',True) (bB λaB ev'=>?_) λaB h4 env' p4 he'=>?_
  ·obtain⟨env',a1,a2⟩:=wI ev' qx (Ae (e2.ext p')) (by simp[fM,jX]);exact⟨env',a1,a2,trivial⟩
  ·obtain⟨er,_⟩:=he'
   have er:=er.ext p4;have u4:=(u2.ext p').ext p4;have Ql:Rel A h4 (λt _ t'=>t'=t) ((if dm c=true then ret true else bnd (aP Φ c env') λv=>ask λh=>gZ h v) h4) (if dm c=true then .ok true else pb (aS Ψ c aB) λv=>pl (gZ [] v.2)):=by
    by_cases hn:dm c=true
    ·rw[Zg hn,Zg hn];exact aH rfl
    ·rw[Zi hn,Zi hn];exact ai (hc aB env' A h4 u4 er) λy h5 w p5 q5=>cA λt et=>⟨t,uE q5.br et,rfl⟩
   refine ai Ql λt h5 t' p5 et=>?_;subst et;cases t' with
   |true=>rw[Zg rfl,Zg rfl];exact ai (he aB env' A h5 (u4.ext p5) (er.ext p5)) λy h6 w p6 q6=>aH (q6.up ((p1.trans p2).trans (p'.trans (p4.trans p5))))
   |false=>rw[Zi Y9,Zi Y9];exact aH trivial
 ·obtain⟨zs,rfl,z1,z2⟩:=hp;exact iy (u2.ext p3) ((p1.trans p2).trans p3) z1 z2
mutual
noncomputable def dj:IE->Bool
 |.cst d=>lJ d
 |.con _ d=>lJ d
 |.bin _ a b=>dj a&&dj b
 |.neg a=>dj a
 |.cmp _ a b=>dj a&&dj b
 |.chn _ _ a b c=>dj a&&dj b&&dj c
 |.and a b=>dj a&&dj b
 |.or a b=>dj a&&dj b
 |.not a=>dj a
 |.ite a b c=>dj a&&dj b&&dj c
 |.tup es=>lN es
 |.lst es=>lN es
 |.idx a b=>dj a&&dj b
 |.slc a b c=>dj a&&dj b&&dj c
 |.call _ es=>lN es
 |.blt _ es=>lN es
 |.met _ a es=>dj a&&lN es
 |.comp _ _ _ _ es a b=>lN es&&dj a&&dj b
 |.var _=>true
 |.no=>true
 |.dct0=>true
 |.sset a=>dj a
 |.dget a b c=>dj a&&dj b&&dj c
 |.dct1 a b=>dj a&&dj b
 |.lkeys a=>dj a
 |.sdef ..=>false
 |.svals a=>dj a
 |.skeys a=>dj a
 |.fld _ a _=>dj a
 |.mth a _ _ es=>dj a&&lN es
 |.rev a b=>dj a&&dj b
 |.dflt _ _ _ _ a b=>dj a&&dj b
 |.isc a _ _=>dj a
noncomputable def lN:kM->Bool
 |.nil=>true
 |.cons e es=>dj e&&lN es
end
theorem v_all(hΦ:∀j,Imp (Φ j) (Ψ j)):(∀ir,dj ir=true->bT Φ Ψ ir)/\∀dZ,lN dZ=true->jG Φ Ψ dZ:=by
 have one:∀ir,dj ir=true->bT Φ Ψ ir:=by
  intro ir;refine IE.rec (motive_1:=λir=>dj ir=true->bT Φ Ψ ir) (motive_2:=λdZ=>lN dZ=true->jG Φ Ψ dZ) ?_ ?_ ?_ ?_ ?_ ?_ ?_ ?_ ?_ ?_ ?_ ?_ ?_ ?_ ?_ ?_ ?_ ?_ ?_ ?_ ?_ ?_ ?_ ?_ ?_ ?_ ?_ ?_ ?_ ?_ ?_ ?_ ?_ ?_ ?_ ir
  ·exact λ_ _=>v_var
  ·exact λ_ f=>Qz f
  ·exact λ_ _ f=>QA f
  ·exact λ_=>Ul
  ·intro _ _ _ a b f;have f:=cX f;exact QB (a f.1) (b f.2)
  ·intro _ a f;exact QC (a f)
  ·intro _ _ _ a b f;have f:=cX f;exact QD (a f.1) (b f.2)
  ·intro _ _ _ _ _ a b c f;have f:=oQ f;exact QE (a f.1.1) (b f.1.2) (c f.2)
  ·intro _ _ a b f;have f:=cX f;exact v_and (a f.1) (b f.2)
  ·intro _ _ a b f;have f:=cX f;exact v_or (a f.1) (b f.2)
  ·intro _ a f;exact v_not (a f)
  ·intro _ _ _ a b c f;have f:=oQ f;exact v_ite (a f.1.1) (b f.1.2) (c f.2)
  ·intro _ a f;exact QF (a f)
  ·intro _ a f;exact QH (a f)
  ·intro _ _ a b f;have f:=cX f;exact QI (a f.1) (b f.2)
  ·intro _ _ _ a b c f;have f:=oQ f;exact QJ (a f.1.1) (b f.1.2) (c f.2)
  ·intro _ _ a f;exact M0 hΦ (a f)
  ·intro _ _ a f;exact QN (a f)
  ·intro _ _ _ a b f;have f:=cX f;exact QO (a f.1) (b f.2)
  ·intro _ _ _ _ _ _ _ a b c f;have f:=oQ f;exact M1 (a f.1.1) (b f.1.2) (c f.2)
  ·exact λ_=>MV
  ·intro _ a f;exact MZ (a f)
  ·intro _ _ _ a b c f;have f:=oQ f;exact MX (a f.1.1) (b f.1.2) (c f.2)
  ·intro _ _ a b f;have f:=cX f;exact MW (a f.1) (b f.2)
  ·intro _ a f;exact IY (a f)
  ·intro _ _ _ _ _ _ f;exact nomatch (show false=true from f)
  ·intro _ _ f aa env A h u e;rw[aS];trivial
  ·intro _ a f;exact IZ (a f)
  ·intro _ _ _ a f;exact QL (a f)
  ·intro _ _ _ _ a b f;have f:=cX f;exact QM hΦ (a f.1) (b f.2)
  ·intro _ _ a b f;have f:=cX f;exact QK (a f.1) (b f.2)
  ·intro _ _ _ _ _ _ a b f;have f:=cX f;exact MY (a f.1) (b f.2)
  ·intro _ _ _ a f;exact QG (a f)
  ·exact λ_=>Kd
  ·intro _ _ a b f;have f:=cX f;exact D9 (a f.1) (b f.2)
 refine⟨one,λdZ=>?_⟩
 induction dZ using kM.rec (motive_1:=λ_=>True) with
 |nil=>exact λ_=>Kd
 |cons e es _ ih=>exact λf=>by have f:=cX f;exact D9 (one e f.1) (ih f.2)
 |_=>trivial
end
section
variable {A A':AP} {h h':Hs}
mutual
theorem Dn.move(hn:A none->A' none)(hh:∀(i:Nat) (o:Ob),A (some i)->h[i]?=some o->A' (some i)/\h'[i]?=some o):∀(d v:Val),Dn A h d v->Dn A' h' d v
 |.non,v,e=>by rw[Dn]at e |-;exact e
 |.bl _,v,e=>by rw[Dn]at e |-;exact e
 |.int _,v,e=>by rw[Dn]at e |-;exact e
 |.str _,v,e=>by rw[Dn]at e |-;exact e
 | .tup ds,v,e=>by
  rw[Dn]at e |-;obtain⟨vs,rfl,q⟩:=e;exact⟨vs,rfl,ao.move hn hh ds vs q⟩
 | .rl ds,v,e=>by
  rw[Dn]at e |-
  rcases e with ⟨vs,rfl,n,q⟩|⟨i,vs,rfl,a,g,q⟩
  ·exact .inl ⟨vs,rfl,hn n,ao.move hn hh ds vs q⟩
  ·exact .inr ⟨i,vs,rfl,(hh i _ a g).1,(hh i _ a g).2,ao.move hn hh ds vs q⟩
 | .dc ks ds,v,e=>by
  rw[Dn]at e |-;obtain⟨i,kvs,rfl,a,g,k,q⟩:=e;exact⟨i,kvs,rfl,(hh i _ a g).1,(hh i _ a g).2,k,ao.move hn hh ds _ q⟩
 | .ob c xs ds,v,e=>by
  rw[Dn]at e |-;obtain⟨i,kvs,rfl,a,g,k,q⟩:=e;exact⟨i,kvs,rfl,(hh i _ a g).1,(hh i _ a g).2,k,ao.move hn hh ds _ q⟩
 |.ref _,v,e=>by rw[Dn]at e;exact e.elim
theorem ao.move(hn:A none->A' none)(hh:∀(i:Nat) (o:Ob),A (some i)->h[i]?=some o->A' (some i)/\h'[i]?=some o):∀(ds vs:List Val),ao A h ds vs->ao A' h' ds vs
 |[],vs,e=>by rw[ao]at e |-;exact e
 | d::ds,vs,e=>by
  rw[ao]at e |-;obtain⟨v,r,rfl,q1,q2⟩:=e;exact⟨v,r,rfl,Dn.move hn hh d v q1,ao.move hn hh ds r q2⟩
end
end
def Al(A0:AP)(O:Nat->Option Nat):AP:=λo=>A0 o/\∀i,o.isSome=true->O i≠o
structure SR (A0:AP) (h0:Hs) (aa:aN) (env:Env) (h:Hs) (O:Nat->Option Nat):Prop where
 len:aa.length=env.length
 sh:∀(i:Nat) (m:Mk) (d:Val),aa[i]?=some (some (m,d))->n6 m=true->∃v,env[i]?=some (some v)/\Dn (Al A0 O) h d v/\(Ot m=true->Dn (Al (Fr h0.length) O) h d v)
 ow:∀(i:Nat) (d:Val),aa[i]?=some (some (.ow,d))->∃a,env[i]?=some (some (.ref a))/\O i=some a/\OD (Al A0 O) h d a
 own:∀i a,O i=some a->h0.length<=a/\a<h.length/\∃d,aa[i]?=some (some (.ow,d))
 inj:∀i j a,O i=some a->O j=some a->i=j
 pre:h0<+:h
 up:Up A0 h0
structure Fm (m:List Nat) (aa:aN) (env:Env) (h:Hs) (O:Nat->Option Nat) (aB:aN) (env':Env) (h':Hs) (O':Nat->Option Nat):Prop where
 le:h.length<=h'.length
 keep:∀k,k<h.length->(∀i,O i≠some k)->h'[k]?=h[k]?/\∀i,O' i≠some k
 stay:∀i,i∉m->O' i=O i/\aB[i]?=aa[i]?/\env'[i]?=env[i]?/\∀a,O i=some a->h'[a]?=h[a]?
def RF(A0:AP)(h0:Hs)(m:List Nat)(aa:aN)(env:Env)(h:Hs)(O:Nat->Option Nat):u9->Hs->Fl->Prop
 |.nx aB,h',.nx env'=>∃O',SR A0 h0 aB env' h' O'/\Fm m aa env h O aB env' h' O'
 |.bk aB,h',.bk env'=>∃O',SR A0 h0 aB env' h' O'/\Fm m aa env h O aB env' h' O'
 |.ct aB,h',.ct env'=>∃O',SR A0 h0 aB env' h' O'/\Fm m aa env h O aB env' h' O'
 |.rt p,h',.rt v=>Dn A0 h' p.2 v/\(p.1=true->Dn (Fr h0.length) h' p.2 v)/\h0<+:h'
 |_,_,_=>False
def gH(A0:AP)(h0:Hs){α β:Type}(R:α -> Hs -> β -> Prop)(o:Out β):Pr α -> Prop
 |.ok f=>∃g h',o=.ok g h'/\R f h' g
 |.exc c es=>∃ws h',o=.exc c ws h'/\h0<+:h'/\ao A0 h' es ws
 |.no=>True
section
variable {A0:AP} {h0:Hs} {aa:aN} {env:Env} {h h1:Hs} {O:Nat->Option Nat} {m:List Nat}
theorem SR.er(s:SR A0 h0 aa env h O):ER (Al A0 O) aa env h:=λi f d e=>by
 cases f with
 |ow=>rw[Zg (show n6 .ow=false by decide)];obtain⟨a,k2,_,k3⟩:=s.ow i d e;exact⟨a,k2,k3⟩
 |sh=>rw[Zi (by decide)];obtain⟨v,k1,k2,_⟩:=s.sh i _ d e rfl;exact⟨v,k1,k2⟩
 |nw=>rw[Zi (by decide)];obtain⟨v,k1,k2,_⟩:=s.sh i _ d e rfl;exact⟨v,k1,k2⟩
theorem SR.BV(s:SR A0 h0 aa env h O):Up (Al A0 O) h:=λk hk=>⟨s.up k (ZE s.pre.length_le hk),λi _ e=>by have:=(s.own i k e).2.1;omega⟩
theorem SR.ext(s:SR A0 h0 aa env h O)(p:h<+:h1):SR A0 h0 aa env h1 O where
 len:=s.len
 sh i m d e hm:=by obtain⟨v,k1,k2,k3⟩:=s.sh i m d e hm;exact⟨v,k1,k2.ext p,λz=>(k3 z).ext p⟩
 ow i d e:=by obtain⟨a,k2,k3,k4⟩:=s.ow i d e;exact⟨a,k2,k3,k4.ext p⟩
 own i a e:=by obtain⟨k1,k2,k3⟩:=s.own i a e;exact⟨k1,Zn k2 p.length_le,k3⟩
 inj:=s.inj
 pre:=s.pre.trans p
 up:=s.up
theorem cR(p:h<+:h1){k:Nat}(hk:k<h.length):h1[k]?=h[k]?:=by
 obtain⟨t,rfl⟩:=p;rw[Zp hk]
theorem Fm.refl(s:SR A0 h0 aa env h O)(p:h<+:h1):Fm m aa env h O aa env h1 O where
 le:=p.length_le
 keep k hk n:=⟨cR p hk,n⟩
 stay i _:=⟨rfl,rfl,rfl,λa e=>cR p (s.own i a e).2.1⟩
theorem Fm.trans{mK iN:aN}{qB iF:Env}{h2:Hs}{O1 O2:Nat->Option Nat}(a:Fm m aa env h O mK qB h1 O1)(b:Fm m mK qB h1 O1 iN iF h2 O2):Fm m aa env h O iN iF h2 O2 where
 le:=ZE a.le b.le
 keep k hk n:=by obtain⟨a1,a2⟩:=a.keep k hk n;obtain⟨b1,b2⟩:=b.keep k (Zn hk a.le) a2;exact⟨b1.trans a1,b2⟩
 stay i hi:=by obtain⟨a1,a2,a3,a4⟩:=a.stay i hi;obtain⟨b1,b2,b3,b4⟩:=b.stay i hi;exact⟨b1.trans a1,b2.trans a2,b3.trans a3,λc e=>(b4 c (a1.trans e)).trans (a4 c e)⟩
theorem Fm.dI{m':List Nat}(hm:∀i∈m,i∈m')(a:Fm m aa env h O aB env' h1 O'):Fm m' aa env h O aB env' h1 O':=⟨a.le,a.keep,λi hi=>a.stay i λz=>hi (hm i z)⟩
theorem RF.pre(s:SR A0 h0 aa env h O)(p:h<+:h1)(r:RF A0 h0 m aa env h1 O f h' g):RF A0 h0 m aa env h O f h' g:=by
 cases f<;>cases g<;>first|exact r.elim|exact r|(obtain⟨O',a,b⟩:=r;exact⟨O',a,(Fm.refl s p).trans b⟩)
theorem RF.dI{m':List Nat}(hm:∀i∈m,i∈m')(r:RF A0 h0 m aa env h O f h' g):RF A0 h0 m' aa env h O f h' g:=by
 cases f<;>cases g<;>first|exact r.elim|exact r|(obtain⟨O',a,b⟩:=r;exact⟨O',a,b.dI hm⟩)
theorem RF.seq{mK:aN}{qB:Env}{O1:Nat->Option Nat}(a:Fm m aa env h O mK qB h1 O1)(r:RF A0 h0 m mK qB h1 O1 f h' g):RF A0 h0 m aa env h O f h' g:=by
 cases f<;>cases g<;>first|exact r.elim|exact r|(obtain⟨O',b,c⟩:=r;exact⟨O',b,a.trans c⟩)
theorem bW{α β γ δ:Type}{R:α -> Hs -> β -> Prop}{R':γ -> Hs -> δ -> Prop}{mm:M β}{f:β -> M δ}{p:Pr α}{F:α -> Pr γ}(s:SR A0 h0 aa env h O)(r:Rel (Al A0 O) h R (mm h) p)(k:∀a h1 b,h<+:h1->R a h1 b->gH A0 h0 R' (f b h1) (F a)):gH A0 h0 R' (bnd mm f h) (pb p F):=by
 unfold bnd;cases p with
 |ok a=>obtain⟨b,h1,e,q,r⟩:=r;rw[e];exact k a h1 b q r
 |exc c es=>obtain⟨ws,h1,e,q,r⟩:=r;rw[e];exact⟨ws,h1,rfl,s.pre.trans q,r.dI λ_ z=>z.1⟩
 |no=>trivial
theorem bM{α β:Type}{R:α -> Hs -> β -> Prop}{a:α}{b:β}(r:R a h b):gH A0 h0 R (ret b h) (.ok a):=⟨b,h,rfl,r⟩
theorem iO{α β:Type}{R R':α -> Hs -> β -> Prop}{o:Out β}{p:Pr α}(r:gH A0 h0 R o p)(k:∀a h' b,R a h' b->R' a h' b):gH A0 h0 R' o p:=by
 cases p with
 |ok a=>obtain⟨b,h',e,r⟩:=r;exact⟨b,h',e,k a h' b r⟩
 |exc c es=>exact r
 |no=>trivial
theorem qC{α β γ δ:Type}{R:α -> Hs -> β -> Prop}{R':γ -> Hs -> δ -> Prop}{mm:M β}{f:β -> M δ}{p:Pr α}{F:α -> Pr γ}(r:gH A0 h0 R (mm h) p)(k:∀a h1 b,R a h1 b->gH A0 h0 R' (f b h1) (F a)):gH A0 h0 R' (bnd mm f h) (pb p F):=by
 unfold bnd;cases p with
 |ok a=>obtain⟨b,h1,e,r⟩:=r;rw[e];exact k a h1 b r
 |exc c es=>obtain⟨ws,h1,e,q,r⟩:=r;rw[e];exact⟨ws,h1,rfl,q,r⟩
 |no=>trivial
theorem jr{α β:Type}{R:α -> Hs -> β -> Prop}{c:Bool}{o:Out β}{p:Pr α}(r:c=true->gH A0 h0 R o p):gH A0 h0 R o (pg c p):=by
 unfold pg;cases c with
 |true=>rw[Zg rfl];exact r rfl
 |false=>rw[Zi Y9];trivial
def gc(O:Nat->Option Nat)(i:Nat):Nat->Option Nat:=λj=>if j=i then none else O j
theorem pq:Al A0 O none->Al A0 O none:=id
theorem j6:Al A0 O none->Al A0 O' none:=λh=>⟨h.1,λ_ z=>by cases z⟩
theorem jt{i:Nat}:∀k,Al A0 O k->Al A0 (gc O i) k:=λk ⟨a,b⟩=>⟨a,λj z=>by unfold gc;split;(cases k<;>simp_all);exact b j z⟩
theorem SR.setM(s:SR A0 h0 aa env h O){i:Nat}{mk:Mk}{d v:Val}(Xm:n6 mk=true)(q:Dn (Al A0 O) h d v)(qn:Ot mk=true->Dn (Al (Fr h0.length) O) h d v):SR A0 h0 (aa.set i (some (mk,d))) (env.set i (some v)) h (gc O i)/\Fm [i] aa env h O (aa.set i (some (mk,d))) (env.set i (some v)) h (gc O i):=by
 refine⟨⟨by simp[s.len],λj m' d' e hm'=>?_,λj d' e=>?_,λj a e=>?_,λj l a e1 e2=>?_,s.pre,s.up⟩,Zm _,λk hk n=>⟨rfl,λj=>?_⟩,λj hj=>?_⟩
 ·by_cases hij:i=j
  ·subst hij
   have hi:i<aa.length:=by have:=(Zb.mp e).1;simpa using this
   rw[Zl hi]at e;cases e;exact⟨v,by rw[Zl (by rw[<-s.len];exact hi)],q.dI jt,λz=>(qn z).dI jt⟩
  ·rw[Zd hij]at e;rw[Zd hij];obtain⟨w,k1,k2,k3⟩:=s.sh j m' d' e hm';exact⟨w,k1,k2.dI jt,λz=>(k3 z).dI jt⟩
 ·by_cases hij:i=j
  ·subst hij
   have hi:i<aa.length:=by have:=(Zb.mp e).1;simpa using this
   rw[Zl hi]at e;cases e;cases Xm
  ·rw[Zd hij]at e;rw[Zd hij];obtain⟨a,k2,k3,k4⟩:=s.ow j d' e;exact⟨a,k2,by unfold gc;rw[Zi (λz=>hij z.symm)];exact k3,k4.mono (λ_ g=>g) λ_ _ z=>z.dI jt⟩
 ·unfold gc at e
  split at e
  ·cases e
  ·rename_i hj;obtain⟨k1,k2,d',k3⟩:=s.own j a e;exact⟨k1,k2,d',by rw[Zd (λz=>hj z.symm)];exact k3⟩
 ·unfold gc at e1 e2
  split at e1
  ·cases e1
  ·split at e2
   ·cases e2
   ·exact s.inj j l a e1 e2
 ·unfold gc;split;simp;exact n j
 ·have hj':j≠i:=by simpa using hj
  exact⟨by unfold gc;rw[Zi hj'],Zd (λz=>hj' z.symm),Zd (λz=>hj' z.symm),λ_ _=>rfl⟩
theorem SR.set(s:SR A0 h0 aa env h O){i:Nat}(q:Dn (Al A0 O) h d v):SR A0 h0 (aa.set i (some (.sh,d))) (env.set i (some v)) h (gc O i)/\Fm [i] aa env h O (aa.set i (some (.sh,d))) (env.set i (some v)) h (gc O i):=s.setM rfl q λz=>nomatch z
theorem SR.binds:∀{is:List Nat} {ds vs:List Val} {aa:aN} {env:Env} {O:Nat->Option Nat} {aB:aN},SR A0 h0 aa env h O->bK is ds aa=some aB->ao (Al A0 O) h ds vs ->
  ∃env' O',bindAll is vs env=some env'/\SR A0 h0 aB env' h O'/\Fm is aa env h O aB env' h O'
 | [],[],vs,aa,env,O,aB,s,e,q=>by
  rw[ao]at q;subst q;simp only[bK]at e;cases e;exact⟨env,O,rfl,s,Fm.refl s (Zu _)⟩
 | i::is,d::ds,vs,aa,env,O,aB,s,e,q=>by
  rw[ao]at q;obtain⟨v,r,rfl,q1,q2⟩:=q;simp only[bK]at e;obtain⟨s1,f1⟩:=s.set (i:=i) q1;obtain⟨env',O',b1,b2,b3⟩:=SR.binds s1 e (q2.dI jt);refine⟨env',O',by simp only[bindAll];exact b1,b2,(f1.dI λj hj=>?_).trans (b3.dI λj hj=>Zh _ hj)⟩;rw[Zs.mp hj];exact Zk
 |[],_::_,_,_,_,_,_,_,e,_=>by simp[bK]at e
 |_::_,[],_,_,_,_,_,_,e,_=>by simp[bK]at e
theorem SR.bind(s:SR A0 h0 aa env h O)(e:bH p d aa=some aB)(q:Dn (Al A0 O) h d v):∃env' O',fJ p v env=some env'/\SR A0 h0 aB env' h O'/\Fm (stored p) aa env h O aB env' h O':=by
 cases p with
 |one i=>simp only[bH]at e;cases e;obtain⟨s1,f1⟩:=s.set (i:=i) q;exact⟨_,_,rfl,s1,f1⟩
 |tup is=>
  cases d<;>simp only[bH]at e<;>first|(cases e;done)|skip
  rw[Dn]at q;obtain⟨vs,rfl,q⟩:=q;exact s.binds e q
theorem I0{a:Nat}(p:h0<+:h)(ha:h0.length<=a):h0<+:h.set a o:=by
 obtain⟨t,rfl⟩:=p;rw[List.set_append_right _ _ ha];exact prefix_append _ _
theorem SR.put(s:SR A0 h0 aa env h O){i a:Nat}{d d1:Val}(e:aa[i]?=some (some (.ow,d)))(ha:O i=some a)(q:OB (Al A0 O) h d1 ob) :
  SR A0 h0 (aa.set i (some (.ow,d1))) env (h.set a ob) O/\Fm [i] aa env h O (aa.set i (some (.ow,d1))) env (h.set a ob) O:=by
 obtain⟨o1,o2,_⟩:=s.own i a ha;have hi:i<aa.length:=(Zb.mp e).1;have mv:∀{A0:AP} (k:Nat) (o:Ob),Al A0 O k->h[k]?=some o->Al A0 O k/\(h.set a ob)[k]?=some o:=λk o hk g=>⟨hk,by rw[Zd λz=>hk.2 i rfl (by rw[<-z];exact ha)];exact g⟩;obtain⟨a0,e2,e3,_⟩:=s.ow i d e;refine⟨⟨by simp[s.len],λj m' d' ej hm'=>?_,λj d' ej=>?_,λj b ej=>?_,s.inj,I0 s.pre o1,s.up⟩,by simp,λk hk n=>⟨?_,n⟩,λj hj=>?_⟩
 ·by_cases hij:i=j
  ·subst hij;rw[Zl hi]at ej;cases ej;cases hm'
  ·rw[Zd hij]at ej;obtain⟨w,k1,k2,k3⟩:=s.sh j m' d' ej hm';exact⟨w,k1,Dn.move pq mv _ _ k2,λz=>Dn.move pq mv _ _ (k3 z)⟩
 ·by_cases hij:i=j
  ·subst hij;rw[Zl hi]at ej;cases ej;rw[ha]at e3;cases e3;exact⟨a,e2,ha,q.od (by rw[Zl o2]) λ_ _ z=>ao.move pq mv _ _ z⟩
  ·rw[Zd hij]at ej;obtain⟨a1,k2,k3,k4⟩:=s.ow j d' ej;have:a≠a1:=λz=>hij (s.inj i j a ha (by rw[z];exact k3));exact⟨a1,k2,k3,k4.mono (λ_ g=>by rw[Zd this];exact g) λ_ _ z=>ao.move pq mv _ _ z⟩
 ·obtain⟨k1,k2,d',k3⟩:=s.own j b ej
  refine⟨k1,by simp[k2],?_⟩
  by_cases hij:i=j
  ·subst hij;exact⟨_,by rw[Zl hi]⟩
  ·exact⟨d',by rw[Zd hij];exact k3⟩
 ·rw[Zd λz=>n i (by rw[<-z];exact ha)]
 ·have hj':j≠i:=by simpa using hj
  exact⟨rfl,Zd (λz=>hj' z.symm),rfl,λb eb=>by rw[Zd λz=>hj' (s.inj j i b eb (by rw[<-z];exact ha))]⟩
def rJ(O:Nat->Option Nat)(i a:Nat):Nat->Option Nat:=λj=>if j=i then some a else O j
theorem SR.fresh(s:SR A0 h0 aa env h O){i:Nat}{d1:Val}{h2:Hs}(p:h<+:h2)(q:OB (Al A0 O) h2 d1 ob) :
  SR A0 h0 (aa.set i (some (.ow,d1))) (env.set i (some (.ref h2.length))) (h2++[ob]) (if i<aa.length then rJ O i h2.length else gc O i) /\
   Fm [i] aa env h O (aa.set i (some (.ow,d1))) (env.set i (some (.ref h2.length))) (h2++[ob]) (if i<aa.length then rJ O i h2.length else gc O i):=by
 have pp:h<+:h2++[ob]:=p.trans (prefix_append _ _);have s2:=s.ext p;have mv:∀{A0:AP} (j:Nat),∀(k:Nat) (o:Ob),Al A0 O k->h2[k]?=some o->Al A0 (if i<aa.length then rJ O i h2.length else gc O i) k/\(h2++[ob])[k]?=some o:=λ{A0} j k o hk g=>by
  have hlt:k<h2.length:=(Zb.mp g).1;refine⟨?_,by rw[Zp hlt];exact g⟩
  split
  ·refine⟨hk.1,λl _=>?_⟩
   unfold rJ
   split
   ·intro z;cases z;omega
   ·exact hk.2 l rfl
  ·exact jt k hk
 by_cases hi:i<aa.length
 ·rw[Zg hi]at mv |-
  refine⟨⟨by simp[s.len],λj m' d' ej hm'=>?_,λj d' ej=>?_,λj b ej=>?_,λj l b e1 e2=>?_,s.pre.trans pp,s.up⟩,pp.length_le,λk hk n=>⟨cR pp hk,λl=>?_⟩,λj hj=>?_⟩
  ·by_cases hij:i=j
   ·subst hij;rw[Zl hi]at ej;cases ej;cases hm'
   ·rw[Zd hij]at ej;rw[Zd hij];obtain⟨w,k1,k2,k3⟩:=s2.sh j m' d' ej hm';exact⟨w,k1,Dn.move j6 (mv 0) _ _ k2,λz=>Dn.move j6 (mv 0) _ _ (k3 z)⟩
  ·by_cases hij:i=j
   ·subst hij;rw[Zl hi]at ej;cases ej;exact⟨h2.length,by rw[Zl (by rw[<-s.len];exact hi)],by unfold rJ;rw[Zg rfl],q.od (by simp) λ_ _ z=>ao.move j6 (mv 0) _ _ z⟩
   ·rw[Zd hij]at ej;rw[Zd hij];obtain⟨a1,k2,k3,k4⟩:=s2.ow j d' ej;have hlt:a1<h2.length:=k4.lt;exact⟨a1,k2,by unfold rJ;rw[Zi λz=>hij z.symm];exact k3,k4.mono (λ_ g=>by rw[Zp hlt];exact g) λ_ _ z=>ao.move j6 (mv 0) _ _ z⟩
  ·unfold rJ at ej
   split at ej
   ·rename_i hj;cases ej;subst hj;exact⟨ZE s.pre.length_le p.length_le,by simp,_,by rw[Zl hi]⟩
   ·rename_i hj;obtain⟨k1,k2,d',k3⟩:=s2.own j b ej;exact⟨k1,by simp;omega,d',by rw[Zd λz=>hj z.symm];exact k3⟩
  ·unfold rJ at e1 e2
   split at e1
   ·rename_i h1;cases e1
    split at e2
    ·rename_i h3;rw[h1,h3]
    ·have:=(s2.own l _ e2).2.1;omega
   ·split at e2
    ·cases e2;have:=(s2.own j _ e1).2.1;omega
    ·exact s.inj j l b e1 e2
  ·unfold rJ;split
   ·intro z;cases z;have:=p.length_le;omega
   ·exact n l
  ·have hj':j≠i:=by simpa using hj
   exact⟨by unfold rJ;rw[Zi hj'],Zd (λz=>hj' z.symm),Zd (λz=>hj' z.symm),λb eb=>cR pp (s.own j b eb).2.1⟩
 ·rw[Zi hi]at mv |-
  have e1:aa.set i (some (.ow,d1))=aa:=List.set_eq_of_length_le (by omega);have e2:env.set i (some (.ref h2.length))=env:=List.set_eq_of_length_le (by rw[<-s.len];omega);have e3:gc O i=O:=by
   funext j;unfold gc;split
   ·rename_i hj;subst hj
    cases e:O j with
    |none=>rfl
    |some a=>obtain⟨_,_,d,k⟩:=s.own j a e;exact absurd (Zb.mp k).1 hi
   ·rfl
  rw[e1,e2,e3];exact⟨s.ext pp,Fm.refl s pp⟩
end
section
variable {Φ:Nat->List Val->M Val} {Ψ:Nat->List Val->Pr FV} {A:AP} {h h1:Hs}
def isRef:Val->Bool
 |.rl _=>true
 |.dc _ _=>true
 |_=>false
def RN(A:AP)(h:Hs):FV->Hs->Val->Prop:=λx h' v=>isRef x.2=true->∃h2 o,h'=h2++[o]/\v=.ref h2.length/\h<+:h2/\OB A h2 x.2 o
def Ke(Φ:Nat->List Val->M Val)(Ψ:Nat->List Val->Pr FV)(ir:IE):Prop:=∀(aa:aN) (env:Env) (A:AP) (h:Hs),Up A h->ER A aa env h->Rel A h (RN A h) (aP Φ ir env h) (aS Ψ ir aa)
theorem j7{f:Bool}{h0:Hs}(p:h0<+:h)(q:ao A h xs vs):Rel A h (RN A h0) (new (.lst vs) h) (.ok (f,.rl xs)) :=
 ⟨_,_,rfl,dw _,λ_=>⟨h,.lst vs,rfl,rfl,p,vs,rfl,q⟩⟩
theorem M3:Ke Φ Ψ .dct0:=λaa env A h u e=>by
 rw[aP,aS];exact⟨_,_,rfl,dw _,λ_=>⟨h,.dct [],rfl,rfl,Zu _,[],rfl,rfl,ao.nil⟩⟩
theorem M4(hk:bT Φ Ψ k)(hv:bT Φ Ψ v):Ke Φ Ψ (.dct1 k v):=λaa env A h u e=>by
 rw[aP,aS];refine ai (hk aa env A h u e) λx h1 w p1 q1=>ai (R:=λkk _ kk'=>kk'=kk) (bB λkk ek=>⟨kk,yS q1.1 ek,rfl⟩) λkk h2 kk' p2 hkk=>?_;subst hkk;refine ai (hv aa env A h2 ((u.ext p1).ext p2) ((e.ext p1).ext p2)) λy h3 z p3 q3=>?_;exact⟨_,_,rfl,dw _,λ_=>⟨h3,.dct [(kk',z)],rfl,rfl,(p1.trans p2).trans p3,[(kk',z)],rfl,rfl,ao.cons q3.1 ao.nil⟩⟩
theorem QS(hs:jG Φ Ψ es):Ke Φ Ψ (.lst es):=λaa env A h u e=>by
 rw[aP,aS];exact ai (hs.1 aa env A h u e) λx h1 vs p1 q1=>cH (λz=>by rw[<-q1.1.length];exact z) λ_=>j7 p1 q1.1
theorem QT(ha:bT Φ Ψ a)(hl:bT Φ Ψ lo)(hh:bT Φ Ψ hi):Ke Φ Ψ (.slc a lo hi):=λaa env A h u e=>by
 rw[aP,aS];refine ai (nJ ha u e) λx h1 v p1 q1=>ai (mJ hl (u.ext p1) (e.ext p1)) λl h2 l' p2 el=>ai (mJ hh ((u.ext p1).ext p2) ((e.ext p1).ext p2)) λr h3 r' p3 er=>?_;subst el;subst er;have q1:=DB.ext (p2.trans p3) q1;obtain⟨f,d⟩:=x;cases d with
 |tup ds=>obtain⟨vs,rfl,q⟩:=DB.tup q1;have l:=q.length;simp only[BQ,rG];exact cH (λz=>by rw[l]at z;exact z) λ_=>aH λe=>by cases e
 |rl ds=>
  obtain⟨vs,e1,q⟩:=DB.lst q1;have ev:rG v l' r' h3=new (.lst (cU vs l' r')) h3:=by
   have:rG v l' r'=bnd (ask λh=>aD h v) λxs=>new (.lst (cU xs l' r')):=by cases v<;>simp only[aD]at e1<;>first|(cases e1;done)|rfl
   rw[this];unfold bnd ask bx;dsimp only;rw[e1]
  rw[ev];exact j7 ((p1.trans p2).trans p3) (q.cut l' r')
 |_=>trivial
theorem M5(hs:jG Φ Ψ es):Ke Φ Ψ (.blt .list es):=λaa env A h u e=>by
 rw[aP,aS];refine ai (hs.2 aa env A h u e) λds h1 vs p1 q1=>?_
 match ds,q1 with
 |[],q1=>trivial
 |[d],q1=>obtain⟨v,rfl,hv⟩:=q1.one;exact ai (R:=λxs h' ws=>ao A h' xs ws) (cA λxs e=>hv.seq e) λxs h2 ws p2 q=>j7 (p1.trans p2) q
 |_::_::_,_=>trivial
theorem Ea(hs:jG Φ Ψ es):Ke Φ Ψ (.blt .sorted es):=λaa env A h u e=>by
 rw[aP,aS];refine ai (hs.2 aa env A h u e) λds h1 vs p1 q1=>?_
 match ds,q1 with
 |[],q1=>trivial
 |[d],q1=>
  obtain⟨v,rfl,hv⟩:=q1.one;cases d<;>first|trivial|skip
  rename_i xs;obtain⟨ws,e1,q⟩:=hv.lst;have ev:bnd (ask λh=>aD h v) (λxs=>bnd (bx (gC xs)) λys=>new (.lst ys)) h1=bnd (bx (gC ws)) (λys=>new (.lst ys)) h1:=by unfold bnd ask bx;dsimp only;rw[e1]
  show Rel A h1 (RN A h) (bnd (ask λh=>aD h v) (λxs=>bnd (bx (gC xs)) λys=>new (.lst ys)) h1) _;rw[ev];refine ai (R:=λys _ zs=>zs=ys/\bC ys=true) (bB λys e=>?_) λys h2 zs p2 hz=>?_
  ·obtain⟨i1,i2⟩:=sV e;rw[(bu xs ws i1).mp q];exact⟨ys,e,rfl,i2⟩
  ·obtain⟨rfl,hi⟩:=hz;exact j7 (p1.trans p2) ((bu _ _ hi).mpr rfl)
 |x::_::_,_=>cases x<;>trivial
theorem M6(hs:jG Φ Ψ it)(hc:bT Φ Ψ c)(he:bT Φ Ψ elt):Ke Φ Ψ (.comp N js pat k it c elt):=λaa env A h u e=>by
 rw[aP,aS];refine ai (hs.2 aa env A h u e) λds h1 vs p1 q1=>ai (Ac q1) λxs h2 src p2 q2=>?_;obtain⟨ws,q3,q4⟩:=q2;have l:=q3.length;have ev:∀(F:List Val->M Val),bnd (ask λh=>src.items h) F h2=F ws h2:=λF=>by unfold bnd ask bx;dsimp only;rw[q4 h2 (Zu _)]
 rw[ev];refine cH (λz=>by rw[<-l];exact z) λ_=>?_;have u2:=(u.ext p1).ext p2;have e2:=(e.ext p1).ext p2;refine ai (qA (hb:=h) xs ws 0 [] h2 (p1.trans p2) u2 q4 rfl q3 λx v h' p' qx=>?_) λp h3 ys p3 hp=>?_
 ·refine ai (R:=λaB _ env'=>∃_:ER A aB env' h',True) (bB λaB ev'=>?_) λaB h4 env' p4 he'=>?_
  ·obtain⟨env',a1,a2⟩:=wI ev' qx (Ae (e2.ext p')) (by simp[fM,jX]);exact⟨env',a1,a2,trivial⟩
  ·obtain⟨er,_⟩:=he'
   have er:=er.ext p4;have u4:=(u2.ext p').ext p4;have Ql:Rel A h4 (λt _ t'=>t'=t) ((if dm c=true then ret true else bnd (aP Φ c env') λv=>ask λh=>gZ h v) h4) (if dm c=true then .ok true else pb (aS Ψ c aB) λv=>pl (gZ [] v.2)):=by
    by_cases hn:dm c=true
    ·rw[Zg hn,Zg hn];exact aH rfl
    ·rw[Zi hn,Zi hn];exact ai (hc aB env' A h4 u4 er) λy h5 w p5 q5=>cA λt et=>⟨t,uE q5.br et,rfl⟩
   refine ai Ql λt h5 t' p5 et=>?_;subst et;cases t' with
   |true=>rw[Zg rfl,Zg rfl];exact ai (he aB env' A h5 (u4.ext p5) (er.ext p5)) λy h6 w p6 q6=>aH (q6.up ((p1.trans p2).trans (p'.trans (p4.trans p5))))
   |false=>rw[Zi Y9,Zi Y9];exact aH trivial
 ·obtain⟨zs,rfl,z1,z2⟩:=hp;exact j7 ((p1.trans p2).trans p3) z1
theorem QU(hΦ:∀j,Imp (Φ j) (Ψ j))(hf:Ui e=true)(ho:dj e=true):Ke Φ Ψ e:=by
 have V:=v_all hΦ;cases e<;>first|(cases hf;done)|skip
 ·exact QS (V.2 _ ho)
 ·have ho:=oQ ho;exact QT (V.1 _ ho.1.1) (V.1 _ ho.1.2) (V.1 _ ho.2)
 ·rename_i b es
  change lN _=true at ho;cases b<;>first|(cases hf;done)|skip
  ·exact Ea (V.2 _ ho)
  ·exact M5 (V.2 _ ho)
 ·have ho:=oQ ho;exact M6 (V.2 _ ho.1.1) (V.1 _ ho.1.2) (V.1 _ ho.2)
 ·exact M3
 ·have ho:=cX ho;exact M4 (V.1 _ ho.1) (V.1 _ ho.2)
mutual
noncomputable def Um:IS->Bool
 |.expr e=>dj e
 |.asg _ e=>dj e
 |.aug _ _ e=>dj e
 |.gB o i v=>dj o&&dj i&&dj v
 |.iff c a b=>dj c&&oR a&&oR b
 |.for _ _ it b=>lN it&&oR b
 |.whl _ c b=>dj c&&oR b
 |.ret e=>dj e
 |_=>true
noncomputable def oR:b8->Bool
 |.nil=>true
 |.cons s r=>Um s&&oR r
end
def mS(s:IS):List Nat:=uC s++oO s
def Ja(s:b8):List Nat:=iJ s++lg s
variable {ms:List Nat}
def Af(Φ:Nat->List Val->M Val)(Ψ:Nat->List Val->Pr FV)(ms:List Nat)(s:IS):Prop:=∀(A0:AP) (h0:Hs) (aa:aN) (env:Env) (h:Hs) (O:Nat->Option Nat),SR A0 h0 aa env h O->gH A0 h0 (RF A0 h0 (mS s) aa env h O) (e7 Φ s env h) (aY Ψ ms s aa)
def rK(Φ:Nat->List Val->M Val)(Ψ:Nat->List Val->Pr FV)(ms:List Nat)(s:b8):Prop:=∀(A0:AP) (h0:Hs) (aa:aN) (env:Env) (h:Hs) (O:Nat->Option Nat),SR A0 h0 aa env h O->gH A0 h0 (RF A0 h0 (Ja s) aa env h O) (ff Φ s env h) (aF Ψ ms s aa)
theorem Eb(he:bT Φ Ψ e)(hx:∀aa,aY Ψ ms (.expr e) aa=pb (aS Ψ e aa) λ_=>.ok (.nx aa)):Af Φ Ψ ms (.expr e):=λA0 h0 aa env h O s=>by
 rw[e7,hx];exact bW s (he aa env _ h s.BV s.er) λx h1 v p1 q1=>bM ⟨O,s.ext p1,Fm.refl s p1⟩
theorem av{α β γ:Type}(m:M α)(f:α -> M β)(g:β -> M γ):bnd (bnd m f) g=bnd m λx=>bnd (f x) g:=by
 funext h;show (match (match m h with|.ok a h'=>f a h'|.exc c vs h'=>.exc c vs h'|.no=>.no) with|.ok a h'=>g a h'|.exc c vs h'=>.exc c vs h'|.no=>.no)=(match m h with|.ok a h'=>bnd (f a) g h'|.exc c vs h'=>.exc c vs h'|.no=>.no);cases m h<;>rfl
theorem aK{α β:Type}{m:M α}{f:α -> M β}{a:α}{h h1:Hs}(e:m h=.ok a h1):bnd m f h=f a h1:=by unfold bnd;rw[e]
theorem cJ{i:Nat}(e:env[i]?=some (some v)):aP Φ (.var i) env h=.ok v h:=by rw[aP,e];rfl
theorem BW{i:Nat}(ha:bT Φ Ψ a):Af Φ Ψ ms (.expr (.met .append (.var i) #[a])):=λA0 h0 aa env h O s=>by
 rw[e7,aY];try dsimp only
 split
 ·rename_i ds hv
  obtain⟨b,e2,e3,vs,e4,e5⟩:=s.ow i _ hv;have ev:bnd (aP Φ (.met .append (.var i) #[a]) env) (λ_=>ret (Fl.nx env)) h=bnd (aP Φ a env) (λv=>bnd (met .append (.ref b) [v]) λ_=>ret (Fl.nx env)) h:=by
   rw[aP,av,aK (cJ e2)];rw[av,aK (a:=()) (h1:=h) (by unfold ask bx;simp[recv,e4])];rw[av,bG,av]
   congr 1
  rw[ev];refine bW s (ha aa env _ h s.BV s.er) λx h1 v p1 q1=>jr λhg=>?_;have s1:=s.ext p1;obtain⟨s2,f2⟩:=s1.put (d1:=.rl (ds++[x.2])) (ob:=.lst (vs++[v])) hv e3 ⟨_,rfl,(e5.ext p1).append (ao.cons q1.1 ao.nil)⟩;have l:=e5.length;refine⟨.nx env,h1.set b (.lst (vs++[v])),?_,O,s2,(Fm.refl s p1).trans (f2.dI λj hj=>?_)⟩
  ·have g:=ck p1 e4;unfold met bnd ask bx aQ put ret;dsimp only;rw[g];dsimp only;rw[Zg (by rw[<-l];exact hg)]
  ·rw[Zs.mp hj];exact mem_append_left _ Zk
 ·trivial
theorem BX{i:Nat}(ha:bT Φ Ψ a):Af Φ Ψ ms (.expr (.met .extend (.var i) #[a])):=λA0 h0 aa env h O s=>by
 rw[e7,aY];try dsimp only
 split
 ·rename_i ds hv
  obtain⟨b,e2,e3,vs,e4,e5⟩:=s.ow i _ hv;have ev:bnd (aP Φ (.met .extend (.var i) #[a]) env) (λ_=>ret (Fl.nx env)) h=bnd (aP Φ a env) (λv=>bnd (met .extend (.ref b) [v]) λ_=>ret (Fl.nx env)) h:=by
   rw[aP,av,aK (cJ e2)];rw[av,aK (a:=()) (h1:=h) (by unfold ask bx;simp[recv,e4])];rw[av,bG,av]
   congr 1
  rw[ev];refine bW s (ha aa env _ h s.BV s.er) λx h1 v p1 q1=>?_;obtain⟨f,d⟩:=x;cases d<;>first|trivial|skip
  rename_i ts;have q:=q1.1;dsimp only at q;rw[Dn]at q;obtain⟨ws,rfl,q⟩:=q;refine jr λhg=>?_;have s1:=s.ext p1;obtain⟨s2,f2⟩:=s1.put (d1:=.rl (ds++ts)) (ob:=.lst (vs++ws)) hv e3 ⟨_,rfl,(e5.ext p1).append q⟩;have l:=e5.length;have l2:=q.length;refine⟨.nx env,h1.set b (.lst (vs++ws)),?_,O,s2,(Fm.refl s p1).trans (f2.dI λj hj=>?_)⟩
  ·have g:=ck p1 e4;unfold met bnd ask bx aQ put ret zB;dsimp only;rw[g];dsimp only;rw[Zg (by rw[<-l,<-l2];exact hg)]
  ·rw[Zs.mp hj];exact mem_append_left _ Zk
 ·trivial
theorem Jb(hΦ:∀j,Imp (Φ j) (Ψ j))(ho:dj e=true):Af Φ Ψ ms (.expr e):=by
 have V:=v_all hΦ;have gen:(∀aa,aY Ψ ms (.expr e) aa=pb (aS Ψ e aa) λ_=>.ok (.nx aa))->Af Φ Ψ ms (.expr e):=λhx=>Eb (V.1 e ho) hx;cases e with
 |met m a es=>
  cases m with
  |join=>exact gen λaa=>by rw[aY]<;>(intros;simp_all)
  |append=>
   cases a with
   |var i=>
    cases es with
    |nil=>exact gen λaa=>by rw[aY]<;>(intros;simp_all)
    |cons x r=>
     cases r with
     |nil=>exact BW (V.1 x (cX (cX ho).2).1)
     |cons _ _=>exact gen λaa=>by rw[aY]<;>(intros;simp_all)
   |_=>exact gen λaa=>by rw[aY]<;>(intros;simp_all)
  |extend=>
   cases a with
   |var i=>
    cases es with
    |nil=>exact gen λaa=>by rw[aY]<;>(intros;simp_all)
    |cons x r=>
     cases r with
     |nil=>exact BX (V.1 x (cX (cX ho).2).1)
     |cons _ _=>exact gen λaa=>by rw[aY]<;>(intros;simp_all)
   |_=>exact gen λaa=>by rw[aY]<;>(intros;simp_all)
  |remove=>exact gen λaa=>by rw[aY]<;>(intros;simp_all)
 |_=>exact gen λaa=>by rw[aY]<;>(intros;simp_all)
end
section
variable {Φ:Nat->List Val->M Val} {Ψ:Nat->List Val->Pr FV} {ms:List Nat}
theorem Jc{i:Nat}{l:List Nat}(h:i∈l):∀j∈[i],j∈l:=λj hj=>by rw[Zs.mp hj];exact h
theorem M7(hΦ:∀j,Imp (Φ j) (Ψ j))(ho:dj e=true):Af Φ Ψ ms (.asg p e):=λA0 h0 aa env h O s=>by
 have V:=(v_all hΦ).1 e ho;cases p with
 |one i=>
  rw[e7,aY];try dsimp only
  split
  ·refine jr λhf=>?_
   refine bW s (QU hΦ hf ho aa env _ h s.BV s.er) λx h1 v p1 q1=>?_;obtain⟨f,d⟩:=x;cases d<;>first|trivial|skip
   ·obtain⟨h2,vs,rfl,rfl,p2,q2⟩:=q1 rfl;obtain⟨s2,f2⟩:=s.fresh (i:=i) p2 q2;exact⟨_,_,rfl,_,s2,f2.dI (Jc (by simp[mS,oO,stored]))⟩
   ·obtain⟨h2,vs,rfl,rfl,p2,q2⟩:=q1 rfl;obtain⟨s2,f2⟩:=s.fresh (i:=i) p2 q2;exact⟨_,_,rfl,_,s2,f2.dI (Jc (by simp[mS,oO,stored]))⟩
  ·refine bW s (V aa env _ h s.BV s.er) λx h1 v p1 q1=>?_
   have hnw:Ot (fL x.1 x.2)=true->Dn (Al (Fr h0.length) O) h1 x.2 v:=λz=>by
    have hx:x.1=true:=by
     unfold fL at z;split at z
     ·rename_i hh;simp only[and_eq_true]at hh;exact hh.1
     ·cases z
    refine(q1.2 hx).dI λo ho=>?_;cases o with
    |none=>exact ho.elim
    |some k=>exact⟨ZE s.pre.length_le ho,λj _ e=>by have:=(s.own j k e).2.1;have ho':h.length<=k:=ho;omega⟩
   have hrd:n6 (fL x.1 x.2)=true:=by unfold fL;split<;>rfl
   obtain⟨s2,f2⟩:=(s.ext p1).setM (i:=i) hrd q1.1 hnw;exact⟨_,_,rfl,_,s2,(Fm.refl s p1).trans (f2.dI (Jc (by simp[mS,oO,stored])))⟩
 |tup is=>
  rw[e7,aY];try dsimp only
  refine jr λhf=>bW s (V aa env _ h s.BV s.er) λx h1 v p1 q1=>?_;have s1:=s.ext p1;refine bW s1 (R:=λaB h' env'=>∃O',SR A0 h0 aB env' h' O'/\Fm (stored (.tup is)) aa env h1 O aB env' h' O') (bB λaB ev=>?_) λaB h2 env' p2 hh=>?_
  ·obtain⟨env',O',b1,b2,b3⟩:=s1.bind ev q1.1;exact⟨env',b1,O',b2,b3⟩
  ·obtain⟨O',b2,b3⟩:=hh;exact bM ⟨O',b2,(Fm.refl s p1).trans (b3.dI λj hj=>by simp only[mS,oO];exact ZF _ hj)⟩
theorem M8{i:Nat}(hΦ:∀j,Imp (Φ j) (Ψ j))(ho:dj e=true):Af Φ Ψ ms (.aug i o e):=λA0 h0 aa env h O s=>by rw[aY];trivial
theorem Ag(k:Key)(l:List (Key×Val)):(l.any λkv=>decide (kv.1=k))=((l.map (·.1)).any λx=>decide (x=k)):=by
 rw[List.any_map];rfl
theorem Ah(e:Dn A h d v):∀{kvs:List (Key×Val)} {ds:List Val},ao A h ds (kvs.map (·.2)) ->
  ao A h ((((kvs.map (·.1)).zip ds).map λkv=>if kv.1=k then (kv.1,d) else kv).map (·.2)) ((kvs.map λkv=>if kv.1=k then (kv.1,v) else kv).map (·.2))
 |[],ds,q=>by simp only[map_nil,List.zip_nil_left];exact ao.nil
 | (k',v')::kvs,ds,q=>by
  have l:=q.length;cases ds with
  |nil=>simp at l
  |cons d' ds=>
   simp only[map_cons]at q;rw[ao]at q;obtain⟨v1,r,e1,q1,q2⟩:=q;cases e1;simp only[map_cons,zip_cons_cons];refine ao.cons ?_ (Ah e q2)
   by_cases hk:k'=k
   ·rw[Zg hk,Zg hk];exact e
   ·rw[Zi hk,Zi hk];exact q1
theorem n9(k:Key)(d:Val)(l:List (Key×Val)):(l.map λkv=>if kv.1=k then (kv.1,d) else kv).map (·.1)=l.map (·.1):=by
 rw[ZQ];refine map_congr_left λx _=>?_;show (if x.1=k then (x.1,d) else x).1=x.1
 split<;>rfl
theorem Jd(hk:kvs.map (·.1)=ks)(q:ao A h ds (kvs.map (·.2)))(e:Dn A h d v) :
  (kT kvs k v).map (·.1)=(kT (ks.zip ds) k d).map (·.1)/\ao A h ((kT (ks.zip ds) k d).map (·.2)) ((kT kvs k v).map (·.2)):=by
 subst hk;have l:=q.length;rw[Ze]at l;have z1:((kvs.map (·.1)).zip ds).map (·.1)=kvs.map (·.1):=List.map_fst_zip (by rw[Ze];omega);have z2:((kvs.map (·.1)).zip ds).map (·.2)=ds:=List.map_snd_zip (by rw[Ze];omega);unfold kT;rw[Ag,Ag,z1]
 split
 ·rw[n9,n9,z1];exact⟨rfl,Ah e q⟩
 ·rw[ZK,ZK,ZK,ZK,z1,z2];exact⟨rfl,q.append (ao.cons e ao.nil)⟩
theorem Je(hΦ:∀j,Imp (Φ j) (Ψ j))(ho:dj o=true)(hi:dj i=true)(hv:dj v=true):Af Φ Ψ ms (.gB o i v):=λA0 h0 aa env h O s=>by
 have V:=(v_all hΦ).1;cases o with
 |var j=>
  rw[e7,aY];refine bW s (V v hv aa env _ h s.BV s.er) λx h1 w p1 q1=>?_;have s1:=s.ext p1
  split
  ·rename_i ks ds hj
   obtain⟨b,e2,e3,kvs,e4,ek,e5⟩:=s1.ow j _ hj;rw[aK (cJ e2)];refine bW s1 (V i hi aa env _ h1 s1.BV s1.er) λz h2 u p2 q2=>?_;have s2:=s1.ext p2;obtain⟨f,d⟩:=z;have q:=q2.1;dsimp only at q;show gH A0 h0 _ _ (pb (pl (keyOf d)) _);cases hk:keyOf d with
   |none=>trivial
   |some kk=>
    have hu:keyOf u=some kk:=by
     cases d<;>simp only[keyOf]at hk<;>first|(cases hk;done)|skip
     all_goals (rw[Dn]at q;subst q;exact hk)
    show gH A0 h0 _ _ (pg _ _);refine jr λhl=>?_;have g:=ck p2 e4;obtain⟨k1,k2⟩:=Jd (k:=kk) ek (e5.ext p2) (q1.1.ext p2);obtain⟨s3,f3⟩:=s2.put (d1:=putD ks ds kk x.2) (ob:=.dct (kT kvs kk w)) hj e3 ⟨_,rfl,k1,k2⟩;refine⟨.nx env,h2.set b (.dct (kT kvs kk w)),?_,O,s3,(Fm.refl s (p1.trans p2)).trans (f3.dI (Jc (by simp[mS,uC])))⟩;have hl':decide (kvs.length<sizeLine)=true:=by rw[<-ek,Ze]at hl;exact hl
    simp only[zF];unfold bnd ask bx put ret aQ;dsimp only;rw[g];dsimp only;rw[hu];dsimp only;rw[Zg hl']
  ·trivial
 |_=>rw[aY]<;>first|trivial|(intros;simp_all)
theorem M9(hΦ:∀j,Imp (Φ j) (Ψ j))(hc:dj c=true)(ha:rK Φ Ψ ms a)(hb:rK Φ Ψ ms b):Af Φ Ψ ms (.iff c a b):=λA0 h0 aa env h O s=>by
 have V:=(v_all hΦ).1 c hc;rw[e7,aY];refine bW s (nJ V s.BV s.er) λx h1 v p1 q1=>?_;have s1:=s.ext p1;refine bW s1 (R:=λt _ t'=>t'=t) (cA λt et=>⟨t,uE q1 et,rfl⟩) λt h2 t' p2 et=>?_;subst et;have s2:=s1.ext p2;cases t' with
 |true=>
  rw[Zg rfl,Zg rfl];refine iO (ha A0 h0 aa env h2 O s2) λf h' g r=>(r.pre s (p1.trans p2)).dI λi hi=>?_;simp only[Ja,mS,uC,oO,mem_append]at hi |-
  rcases hi with z|z
  ·exact .inl (.inl z)
  ·exact .inr (.inl z)
 |false=>
  rw[Zi Y9,Zi Y9];refine iO (hb A0 h0 aa env h2 O s2) λf h' g r=>(r.pre s (p1.trans p2)).dI λi hi=>?_;simp only[Ja,mS,uC,oO,mem_append]at hi |-
  rcases hi with z|z
  ·exact .inl (.inr z)
  ·exact .inr (.inr z)
def uJ(h:Hs)(O:Nat->Option Nat)(m:List Nat)(src:Src)(ws:List Val):Prop :=
 ∀h':Hs,(∀k,k<h.length->(∀i,O i≠some k)->h'[k]?=h[k]?)->(∀i,i∉m->∀a,O i=some a->h'[a]?=h[a]?)->src.items h'=some ws
theorem fu{i:Nat}(e:h[i]?=some (.lst ws)):(Src.live i).items h=some ws:=by simp[Src.items,aD,e]
theorem fy{i:Nat}(e:h[i]?=some (.lst ws)):(Src.enum i).items h=some (p9 0 ws):=by simp[Src.items,aD,e]
theorem wJ{A0:AP}{h0:Hs}{m:List Nat}(hb:∀aa env h O x v,SR A0 h0 aa env h O->Dn (Al A0 O) h x v->gH A0 h0 (RF A0 h0 m aa env h O) (body v env h) (bodyV x aa))
  {mK:aN} {qB:Env} {h1:Hs} {O1:Nat->Option Nat} (st:uJ h1 O1 m src ws) :
  ∀(xs vs:List Val) (i:Nat) (aa:aN) (env:Env) (h:Hs) (O:Nat->Option Nat),SR A0 h0 aa env h O->Fm m mK qB h1 O1 aa env h O->ws.drop i=vs->ao (Al A0 O) h xs vs ->
   gH A0 h0 (RF A0 h0 m mK qB h1 O1) (forM src body vs.length i env h) (fq bodyV xs aa)
 | [],vs,i,aa,env,h,O,s,f,hd,q=>by
  rw[ao]at q;subst q;have hl:ws.length<=i:=List.drop_eq_nil_iff.mp hd;have hi:=st h (λk hk n=>(f.keep k hk n).1) (λj hj a e=>(f.stay j hj).2.2.2 a e);rw[fq];refine⟨.nx env,h,?_,O,s,f⟩;show forM src body 0 i env h=_;simp only[forM];unfold bnd ask bx aQ;dsimp only;rw[hi];dsimp only;rw[Zg (decide_eq_true hl)];rfl
 | x::xs,vs,i,aa,env,h,O,s,f,hd,q=>by
  rw[ao]at q;obtain⟨v,r,rfl,q1,q2⟩:=q;have hv:ws[i]?=some v:=by have:=ZN (λl=>l[0]?) hd;simpa using this
  have hr:ws.drop (i+1)=r:=by
   have:ws.drop (i+1)=(ws.drop i).drop 1:=by rw[drop_drop]
   rw[this,hd];rfl
  have hi:=st h (λk hk n=>(f.keep k hk n).1) (λj hj a e=>(f.stay j hj).2.2.2 a e);have ev:forM src body (v::r).length i env h=bnd (body v env) (λf=>match f with
   |.nx env'=>forM src body r.length (i+1) env'
   |.ct env'=>forM src body r.length (i+1) env'
   |.bk env'=>ret (.nx env')
   |.rt v=>ret (.rt v)) h:=by
   show forM src body (r.length+1) i env h=_;simp only[forM];unfold bnd ask bx;dsimp only;rw[hi];dsimp only;rw[hv];try rfl
  rw[ev,fq];refine qC (hb aa env h O x v s q1) λfl h2 gl hr2=>?_;have go:∀aB env' O',SR A0 h0 aB env' h2 O'->Fm m aa env h O aB env' h2 O'->gH A0 h0 (RF A0 h0 m mK qB h1 O1) (forM src body r.length (i+1) env' h2) (fq bodyV xs aB):=λaB env' O' s' f'=>by
   refine wJ hb st xs r (i+1) aB env' h2 O' s' (f.trans f') hr (ao.move j6 (λk o hk g=>?_) _ _ q2);have hlt:k<h.length:=(Zb.mp g).1;obtain⟨a1,a2⟩:=f'.keep k hlt λi=>hk.2 i rfl;exact⟨⟨hk.1,λi _=>a2 i⟩,a1.trans g⟩
  cases fl<;>cases gl<;>first|exact hr2.elim|skip
  ·obtain⟨O',s',f'⟩:=hr2;exact go _ _ O' s' f'
  ·exact bM hr2
  ·obtain⟨O',s',f'⟩:=hr2;exact bM ⟨O',s',f.trans f'⟩
  ·obtain⟨O',s',f'⟩:=hr2;exact go _ _ O' s' f'
theorem Ec{A0:AP}{m:List Nat}(q:Dn (Al A0 O) h d v)(e:gg k [d]=some xs):∃src ws,srcOf k [v]=some src/\ao (Al A0 O) h xs ws/\src.items h=some ws/\uJ h O m src ws:=by
 have lst:∀es,d=.rl es->(∃ws,v=.rl ws/\ao (Al A0 O) h es ws)\/∃a ws,v=.ref a/\h[a]?=some (.lst ws)/\ao (Al A0 O) h es ws/\∀h':Hs,(∀k,k<h.length->(∀i,O i≠some k)->h'[k]?=h[k]?)->h'[a]?=some (Ob.lst ws):=by
  rintro es rfl;rw[Dn]at q
  rcases q with ⟨ws,rfl,_,q⟩|⟨a,ws,rfl,al,g,q⟩
  ·exact .inl ⟨ws,rfl,q⟩
  ·exact .inr ⟨a,ws,rfl,g,q,λh' hk=>(hk a (Zb.mp g).1 λi=>al.2 i rfl).trans g⟩
 cases k with
 |seq=>
  cases d<;>first|(cases e;done)|skip
  ·cases e;rw[Dn]at q;obtain⟨ws,rfl,q⟩:=q;exact⟨.fix ws,ws,rfl,q,rfl,λ_ _ _=>rfl⟩
  ·cases e
   rcases lst _ rfl with ⟨ws,rfl,q'⟩|⟨a,ws,rfl,g,q',st⟩
   ·exact⟨.fix ws,ws,rfl,q',rfl,λ_ _ _=>rfl⟩
   ·exact⟨.live a,ws,rfl,q',fu g,λh' hk _=>fu (st h' hk)⟩
 |range=>
  cases d<;>first|(cases e;done)|skip
  rw[Dn]at q;subst q;rename_i n;change (if inR n=true then some (bZ 0 n.toNat) else none)=some _ at e;split at e
  ·rename_i hn;cases e;exact⟨.fix _,_,Zg hn,iM,rfl,λ_ _ _=>rfl⟩
  ·cases e
 |enum=>
  cases d<;>first|(cases e;done)|skip
  cases e
  rcases lst _ rfl with ⟨ws,rfl,q'⟩|⟨a,ws,rfl,g,q',st⟩
  ·exact⟨.fix _,_,rfl,fN 0 q',rfl,λ_ _ _=>rfl⟩
  ·exact⟨.enum a,_,rfl,fN 0 q',fy g,λh' hk _=>fy (st h' hk)⟩
 |zip=>cases e
theorem Ed{α β γ δ:Type}{R:α -> Hs -> β -> Prop}{R':γ -> Hs -> δ -> Prop}{m:M β}{f:β -> M δ}{p:Pr α}{F:α -> Pr γ}(r:Rel A h R (m h) p)(k:∀a h1 b,p=.ok a->h<+:h1->R a h1 b->Rel A h1 R' (f b h1) (F a)):Rel A h R' (bnd m f h) (pb p F):=by
 unfold bnd;cases p with
 |ok a=>
  obtain⟨b,h1,e,q,r⟩:=r;rw[e];show Rel A h R' (f b h1) (F a);have:=k a h1 b rfl q r;cases e2:F a with
  |ok c=>rw[e2]at this;obtain⟨d,h2,e3,q2,r2⟩:=this;exact⟨d,h2,e3,q.trans q2,r2⟩
  |exc c es=>rw[e2]at this;obtain⟨d,h2,e3,q2,r2⟩:=this;exact⟨d,h2,e3,q.trans q2,r2⟩
  |no=>trivial
 |exc c es=>obtain⟨ws,h1,e,q,r⟩:=r;rw[e];exact⟨ws,h1,rfl,q,r⟩
 |no=>trivial
theorem Ef{e e2:IE}(h:cQ Ψ (.cons e (.cons e2 r)) aa=.ok ds):2<=ds.length:=by
 rw[cQ,cQ]at h;cases h1:(if isVar e=true then pl (jq aa e) else aS Ψ e aa) with
 |ok a=>
  rw[h1]at h;cases h2:(if isVar e2=true then pl (jq aa e2) else aS Ψ e2 aa) with
  |ok b=>
   rw[h2]at h;cases h3:cQ Ψ r aa with
   |ok c=>rw[h3]at h;cases h;simp
   |exc _ _=>rw[h3]at h;cases h
   |no=>rw[h3]at h;cases h
  |exc _ _=>rw[h2]at h;cases h
  |no=>rw[h2]at h;cases h
 |exc _ _=>rw[h1]at h;cases h
 |no=>rw[h1]at h;cases h
theorem Eg{d1 d2:Val}(ex:gg k [d1,d2]=some xs):k=.range/\∃n m,d1=.int n/\d2=.int m/\(inR n&&inR m)=true/\xs=bZ n (m-n).toNat:=by
 cases k with
 |seq=>cases d1<;>cases ex
 |enum=>cases d1<;>cases ex
 |zip=>cases ex
 |range=>
  cases d1<;>first|(cases ex;done)|skip
  cases d2<;>first|(cases ex;done)|skip
  rename_i n m;change (if (inR n&&inR m)=true then some (bZ n (m-n).toNat) else none)=some xs at ex
  by_cases hn:(inR n&&inR m)=true
  ·rw[Zg hn]at ex;cases ex;exact⟨rfl,n,m,rfl,rfl,hn,rfl⟩
  ·rw[Zi hn]at ex;cases ex
theorem yT{d1 d2 d3:Val}:gg k (d1::d2::d3::r)=none:=by
 cases k with
 |seq=>cases d1<;>rfl
 |enum=>cases d1<;>rfl
 |zip=>rfl
 |range=>cases d1<;>first|rfl|(cases d2<;>rfl)
theorem Jf{A0:AP}{h0:Hs}{m:List Nat}(hΦ:∀j,Imp (Φ j) (Ψ j))(hi:lN it=true)(s:SR A0 h0 aa env h O)(hm:∀i,it=.cons (.var i) .nil->i∉m) :
  Rel (Al A0 O) h (λxs h' src=>∃ws,ao (Al A0 O) h' xs ws/\src.items h'=some ws/\uJ h' O m src ws) (bnd (bG Φ it env) (λits=>bx (srcOf k its)) h) (pb (cQ Ψ it aa) λits=>pl (gg k its)):=by
 have V:=v_all hΦ;cases it with
 |nil=>rw[cQ];cases k<;>trivial
 |cons e es=>
  cases es with
  |nil=>
   replace hi:=cX hi
   by_cases hv:isVar e=true
   ·cases e<;>first|(cases hv;done)|skip
    rename_i i;rw[cQ,cQ,Zg hv];simp only[jq];cases hx:aa[i]? with
    |none=>trivial
    |some o=>
     cases o with
     |none=>trivial
     |some fd=>
      obtain⟨f,d⟩:=fd;show Rel _ _ _ _ (pl (gg k [d]));cases hf:n6 f with
      |false=>
       have hf:f=.ow:=by cases f<;>first|rfl|cases hf
       subst hf;obtain⟨a,e2,e3,e4⟩:=s.ow i d hx;have ev:bnd (bG Φ #[.var i] env) (λits=>bx (srcOf k its)) h=bx (srcOf k [.ref a]) h:=by rw[bG,bG,av,aK (cJ e2)];rfl
       rw[ev];refine bB λxs ex=>?_;have hd:∃ds,d=.rl ds:=by cases d<;>first|exact⟨_,rfl⟩|exact False.elim e4|(cases k<;>cases ex)
       obtain⟨ds,rfl⟩:=hd;obtain⟨vs,e4,e5⟩:=e4;have st:∀h':Hs,(∀i,i∉m->∀a,O i=some a->h'[a]?=h[a]?)->h'[a]?=some (Ob.lst vs):=λh' hs=>(hs i (hm i rfl) a e3).trans e4;cases k with
       |seq=>cases ex;exact⟨.live a,rfl,vs,e5,fu e4,λh' _ hs=>fu (st h' hs)⟩
       |range=>cases ex
       |enum=>cases ex;exact⟨.enum a,rfl,_,fN 0 e5,fy e4,λh' _ hs=>fy (st h' hs)⟩
       |zip=>cases ex
      |true=>
       obtain⟨v,e1,e2,_⟩:=s.sh i f d hx hf;have ev:bnd (bG Φ #[.var i] env) (λits=>bx (srcOf k its)) h=bx (srcOf k [v]) h:=by rw[bG,bG,av,aK (cJ e1)];rfl
       rw[ev];refine bB λxs ex=>?_;obtain⟨src,ws,a1,a2,a3,a4⟩:=Ec (m:=m) e2 ex;exact⟨src,a1,ws,a2,a3,a4⟩
   ·rw[cQ,cQ,Zi hv]
    have ev:bnd (bG Φ #[e] env) (λits=>bx (srcOf k its)) h=bnd (aP Φ e env) (λv=>bx (srcOf k [v])) h:=by rw[bG,bG,av];rfl
    rw[ev];have ep:(pb (pb (aS Ψ e aa) λd=>pb (Pr.ok ([]:List Val)) λp=>Pr.ok (d.2::p)) λits=>pl (gg k its))=pb (aS Ψ e aa) λd=>pl (gg k [d.2]):=by cases aS Ψ e aa<;>rfl
    rw[ep];refine ai (V.1 e hi.1 aa env _ h s.BV s.er) λx h1 v p1 q1=>bB λxs ex=>?_;obtain⟨src,ws,a1,a2,a3,a4⟩:=Ec (m:=m) q1.1 ex;exact⟨src,a1,ws,a2,a3,a4⟩
  |cons e2 r=>
   have V2:=V.2 _ hi;refine Ed (V2.2 aa env _ h s.BV s.er) λds h1 vs eb p1 q1=>bB λxs ex=>?_;have hl:2<=ds.length:=Ef eb
   match ds,q1 with
   |[],q1=>cases k<;>cases ex
   |[d],q1=>simp at hl
   |[d1,d2],q1=>obtain⟨v,rr,rfl,hv,hr⟩:=q1;obtain⟨w,rfl,hw⟩:=GG.one hr;obtain⟨rfl,n,m',rfl,rfl,hn,rfl⟩:=Eg ex;have:=hv.int;subst this;have:=hw.int;subst this;exact⟨.fix _,Zg hn,_,iM,rfl,λ_ _ _=>rfl⟩
   |d1::d2::d3::dr,q1=>rw[yT]at ex;cases ex
theorem Eh{A0:AP}{h0:Hs}(hb:rK Φ Ψ ms body)(s:SR A0 h0 aa env h O)
  (hm:Rel (Al A0 O) h (λxs h' src=>∃ws,ao (Al A0 O) h' xs ws/\src.items h'=some ws/\uJ h' O (mS (.for p k it body)) src ws) (m h) P) :
  gH A0 h0 (RF A0 h0 (mS (.for p k it body)) aa env h O) (bnd m (λsrc=>bnd (ask λh=>src.items h) λxs=>forM src (λx env=>bnd (bx (fJ p x env)) λenv'=>ff Φ body env') xs.length 0 env) h) (pb P λxs=>fq (λx env=>pb (pl (bH p x env)) λenv'=>aF Ψ ms body env') xs aa):=by
 refine bW s hm λxs h1 src p1 hx=>?_;obtain⟨ws,q1,q2,st⟩:=hx;have s1:=s.ext p1;have l:=q1.length;have Uo:∀(F:List Val->M Fl),bnd (ask λh=>src.items h) F h1=F ws h1:=λF=>by unfold bnd ask bx;dsimp only;rw[q2]
 rw[Uo];refine iO (wJ (m:=mS (.for p k it body)) (λaB env' h' O' x v s' qx=>?_) st xs ws 0 aa env h1 O s1 (Fm.refl s1 (Zu _)) rfl q1) λf h' g r=>r.pre s p1;refine bW s' (R:=λiN h2 iF=>∃O2,SR A0 h0 iN iF h2 O2/\Fm (stored p) aB env' h' O' iN iF h2 O2) (bB λiN e2=>?_) λiN h2 iF p2 hh=>?_
 ·obtain⟨iF,O2,b1,b2,b3⟩:=s'.bind e2 qx;exact⟨iF,b1,O2,b2,b3⟩
 ·obtain⟨O2,b2,b3⟩:=hh
  refine iO (hb A0 h0 iN iF h2 O2 b2) λf h'' g r=>RF.seq (b3.dI λi hi=>?_) (r.dI λi hi=>?_)
  ·simp only[mS,uC,oO,mem_append];exact .inr (.inl hi)
  ·simp only[Ja,mS,uC,oO,mem_append]at hi |-
   rcases hi with z|z
   ·exact .inl z
   ·exact .inr (.inr z)
theorem Na(hΦ:∀j,Imp (Φ j) (Ψ j))(hi:lN it=true)(hb:rK Φ Ψ ms body):Af Φ Ψ ms (.for p k it body):=λA0 h0 aa env h O s=>by
 rw[e7,aY];have ev:∀(F:Src->M Fl),bnd (bG Φ it env) (λits=>bnd (bx (srcOf k its)) F) h=bnd (bnd (bG Φ it env) λits=>bx (srcOf k its)) F h:=λF=>by rw[av]
 rw[ev]
 by_cases hz:k=.zip
 ·subst hz
  show gH A0 h0 _ _ (pg _ _);refine jr λ_=>?_;have ep:∀(F:List Val->Pr u9),pb (j4 Ψ it aa) (λq=>pb (pl (BU q.2)) F)=pb (pb (j4 Ψ it aa) λq=>pl (BU q.2)) F:=λF=>by cases j4 Ψ it aa<;>rfl
  rw[ep];refine Eh hb s (ai (((v_all hΦ).2 it hi).1 aa env _ h s.BV s.er) λq h1 vs p1 q1=>bB λxs ex=>?_);obtain⟨f,ds⟩:=q;unfold BU at ex;split at ex
  ·rename_i a b hab
   cases ex;have q2:=q1.1;rw[show ds=[.rl a,.rl b] from hab]at q2;rw[ao]at q2;obtain⟨v,r,rfl,qa,q2⟩:=q2;obtain⟨w,rfl,qb⟩:=ao.one q2;have Vx:∀(c:List Val) (v:Val),Dn (Al A0 O) h1 (.rl c) v->∃ws,ao (Al A0 O) h1 c ws/\∀h':Hs,(∀k,k<h1.length->(∀i,O i≠some k)->h'[k]?=h1[k]?)->aD h' v=some ws:=λc v q=>by
    rw[Dn]at q
    rcases q with ⟨ws,rfl,_,q⟩|⟨i,ws,rfl,al,g,q⟩
    ·exact⟨ws,q,λ_ _=>rfl⟩
    ·refine⟨ws,q,λh' hk=>?_⟩;show (match h'[i]? with|some (.lst xs)=>some xs|_=>none)=_;rw[(hk i (Zb.mp g).1 λj=>al.2 j rfl).trans g]
   obtain⟨wa,ea,sa⟩:=Vx _ _ qa;obtain⟨wb,eb,sb⟩:=Vx _ _ qb;have it':∀h':Hs,(∀k,k<h1.length->(∀i,O i≠some k)->h'[k]?=h1[k]?)->(Src.zip v w).items h'=some (e8 wa wb):=λh' hk=>by
    show (aD h' v).bind (λxs=>(aD h' w).map λys=>e8 xs ys)=_;rw[sa h' hk,sb h' hk];rfl
   exact⟨.zip v w,rfl,e8 wa wb,uI ea eb,it' h1 λ_ _ _=>rfl,λh' hk _=>it' h' hk⟩
  ·cases ex
 ·rw[show ∀z o:Pr u9,BS k z o=o from λz o=>by cases k<;>first|rfl|exact(hz rfl).elim]
  refine jr λhg=>?_;rw[and_eq_true]at hg;have hm:∀i,it=.cons (.var i) .nil->i∉mS (.for p k it body):=by
   rintro i rfl z;simp only[qw,and_eq_true,not_eq_true',List.contains_eq_mem,decide_eq_false_iff_not]at hg;simp only[mS,uC,oO,mem_append]at z
   rcases z with z|z|z
   ·exact hg.1.1.1 z
   ·exact hg.1.2 z
   ·exact hg.1.1.2 z
  have ep:∀(F:List Val->Pr u9),pb (cQ Ψ it aa) (λits=>pb (pl (gg k its)) F)=pb (pb (cQ Ψ it aa) λits=>pl (gg k its)) F:=λF=>by cases cQ Ψ it aa<;>rfl
  rw[ep];exact Eh hb s (Jf (m:=mS (.for p k it body)) hΦ hi s hm)
theorem Nb{n:Nat}(hΦ:∀j,Imp (Φ j) (Ψ j))(hc:dj c=true)(hb:rK Φ Ψ ms body):Af Φ Ψ ms (.whl n c body):=λA0 h0 aa env h O s=>by rw[aY];trivial
theorem Kf:n6 (Vs m)=true:=by cases m<;>rfl
theorem SR.fr{A0:AP}{h0:Hs}(s:SR A0 h0 aa env h O):ER A0 (tU aa) env h:=λi f d e=>by
 unfold tU at e;rw[Zx]at e;cases hx:aa[i]? with
 |none=>rw[hx]at e;cases e
 |some o=>
  rw[hx]at e;cases o with
  |none=>cases e
  |some fd=>
   obtain⟨m,d'⟩:=fd;cases e;rw[Zi (by rw[Kf];decide)];cases hm:n6 m with
   |false=>
    have hm:m=.ow:=by cases m<;>first|rfl|cases hm
    subst hm;obtain⟨a,e2,e3,e4⟩:=s.ow i d hx;exact⟨_,e2,(e4.mono (A':=A0) (λ_ g=>g) λ_ _ z=>z.dI λ_ y=>y.1).dn (s.up a (s.own i a e3).1)⟩
   |true=>obtain⟨v,e1,e2,_⟩:=s.sh i m d hx hm;exact⟨v,e1,e2.dI λ_ z=>z.1⟩
theorem sW{A0:AP}{h0:Hs}{α β γ δ:Type}{R:α -> Hs -> β -> Prop}{R':γ -> Hs -> δ -> Prop}{mm:M β}{f:β -> M δ}{p:Pr α}{F:α -> Pr γ}(s:SR A0 h0 aa env h O)(r:Rel A0 h R (mm h) p)(k:∀a h1 b,h<+:h1->R a h1 b->gH A0 h0 R' (f b h1) (F a)):gH A0 h0 R' (bnd mm f h) (pb p F):=by
 unfold bnd;cases p with
 |ok a=>obtain⟨b,h1,e,q,r⟩:=r;rw[e];exact k a h1 b q r
 |exc c es=>obtain⟨ws,h1,e,q,r⟩:=r;rw[e];exact⟨ws,h1,rfl,s.pre.trans q,r⟩
 |no=>trivial
theorem BY(h:IL env es=some p):∃i j,es=.cons (.var i) #[.var j]/\env[i]?=some (some (.nw,p.1))/\env[j]?=some (some (.nw,p.2)):=by
 unfold IL at h;split at h
 ·split at h
  ·rename_i a b;cases h;exact⟨_,_,rfl,a,b⟩
  ·cases h
 ·cases h
theorem Nc(hΦ:∀j,Imp (Φ j) (Ψ j))(ho:dj e=true):Af Φ Ψ ms (.ret e):=λA0 h0 aa env h O s=>by
 have V:=(v_all hΦ).1 e ho;have gen:Su Ψ e aa=aS Ψ e aa->gH A0 h0 (RF A0 h0 (mS (.ret e)) aa env h O) (e7 Φ (.ret e) env h) (aY Ψ ms (.ret e) aa):=λhe=>by
  rw[e7,aY,he];exact bW s (V aa env _ h s.BV s.er) λx h1 v p1 q1=>bM ⟨q1.1.dI λ_ z=>z.1,λf=>(q1.2 f).dI (Fr.le s.pre.length_le),s.pre.trans p1⟩
 cases e with
 |var i=>
  rw[e7,aY];simp only[Su];cases hx:aa[i]? with
  |none=>trivial
  |some o=>
   cases o with
   |none=>trivial
   |some fd=>
    obtain⟨f,d⟩:=fd;cases hf:n6 f with
    |false=>
     have hf:f=.ow:=by cases f<;>first|rfl|cases hf
     subst hf;obtain⟨a,e2,e3,e4⟩:=s.ow i d hx;rw[aK (cJ e2)];have ha:=s.own i a e3;cases d<;>first|exact False.elim e4|skip
     ·refine⟨_,h,rfl,?_,λhi=>?_,s.pre⟩
      ·exact(e4.mono (A':=A0) (λ_ g=>g) λ_ _ z=>z.dI λ_ y=>y.1).dn (s.up a ha.1)
      ·obtain⟨vs,e4,e5⟩:=e4;show Dn _ h (.rl _) (.ref a);rw[Dn];exact .inr ⟨a,vs,rfl,ha.1,e4,iL e5 hi⟩
     ·refine⟨_,h,rfl,?_,λhi=>?_,s.pre⟩
      ·exact(e4.mono (A':=A0) (λ_ g=>g) λ_ _ z=>z.dI λ_ y=>y.1).dn (s.up a ha.1)
      ·obtain⟨kvs,e4,ek,e5⟩:=e4;show Dn _ h (.dc _ _) (.ref a);rw[Dn];exact⟨a,kvs,rfl,ha.1,e4,ek,iL e5 hi⟩
    |true=>
     obtain⟨v,e1,e2,e3⟩:=s.sh i f d hx hf;rw[aK (cJ e1)];dsimp only;rw[Zg hf];refine⟨_,h,rfl,e2.dI λ_ z=>z.1,λhi=>?_,s.pre⟩
     rcases(or_eq_true _ _).mp hi with hi|hi
     ·exact(lM d v hi).mpr ((lM d v hi).mp e2)
     ·exact(e3 hi).dI λ_ z=>z.1
 |call j es=>rw[e7,aY];exact sW s (V (tU aa) env A0 h (s.up.ext s.pre) s.fr) λx h1 v p1 q1=>bM ⟨q1.1,λf=>(q1.2 f).dI (Fr.le s.pre.length_le),s.pre.trans p1⟩
 |tup es=>
  rw[e7,aY];change gH A0 h0 _ _ (pb (IM Ψ es aa) _);unfold IM
  split
  ·rename_i pp hp
   obtain⟨i,j,he,hi,hj⟩:=BY hp;subst he;obtain⟨v,e1,e2,e3⟩:=s.sh i .nw _ hi rfl;obtain⟨w,k1,k2,k3⟩:=s.sh j .nw _ hj rfl;have ev:aP Φ (.tup #[.var i,.var j]) env h=.ok (.tup [v,w]) h:=by rw[aP,bG,bG,bG];rw[aK (a:=[v,w]) (h1:=h) (by rw[aK (cJ e1),aK (a:=[w]) (h1:=h) (by rw[aK (cJ k1)];rfl)];rfl)];rfl
   rw[aK ev];refine⟨_,h,rfl,?_,λ_=>?_,s.pre⟩
   ·show Dn A0 h (.tup _) _;rw[Dn];exact⟨_,rfl,ao.cons (e2.dI λ_ z=>z.1) (ao.cons (k2.dI λ_ z=>z.1) ao.nil)⟩
   ·show Dn (Fr h0.length) h (.tup _) _;rw[Dn];exact⟨_,rfl,ao.cons ((e3 rfl).dI λ_ z=>z.1) (ao.cons ((k3 rfl).dI λ_ z=>z.1) ao.nil)⟩
  exact sW s (V (tU aa) env A0 h (s.up.ext s.pre) s.fr) λx h1 v p1 q1=>bM ⟨q1.1,λf=>(q1.2 f).dI (Fr.le s.pre.length_le),s.pre.trans p1⟩
 |_=>exact gen rfl
theorem Nd:rK Φ Ψ ms .nil:=λA0 h0 aa env h O s=>by rw[ff,aF];exact bM ⟨O,s,Fm.refl s (Zu _)⟩
theorem Jg(ha:Af Φ Ψ ms a)(hr:rK Φ Ψ ms r):rK Φ Ψ ms (.cons a r):=λA0 h0 aa env h O s=>by
 rw[ff,aF];have w1:∀i∈mS a,i∈Ja (.cons a r):=λi hi=>by
  simp only[mS,Ja,iJ,lg,mem_append]at hi |-
  rcases hi with z|z
  ·exact .inl (.inl z)
  ·exact .inr (.inl z)
 have w2:∀i∈Ja r,i∈Ja (.cons a r):=λi hi=>by
  simp only[Ja,iJ,lg,mem_append]at hi |-
  rcases hi with z|z
  ·exact .inl (.inr z)
  ·exact .inr (.inr z)
 refine qC (ha A0 h0 aa env h O s) λf h1 g rr=>?_;have rr:=rr.dI w1;cases f<;>cases g<;>first|exact rr.elim|skip
 ·obtain⟨O',s',f'⟩:=rr;exact iO (hr A0 h0 _ _ h1 O' s') λf h' g r'=>RF.seq f' (r'.dI w2)
 ·exact bM rr
 ·exact bM rr
 ·exact bM rr
theorem QV(hΦ:∀j,Imp (Φ j) (Ψ j)):∀ss,oR ss=true->rK Φ Ψ ms ss:=by
 intro ss;refine b8.rec (motive_1:=λs=>Um s=true->Af Φ Ψ ms s) (motive_2:=λss=>oR ss=true->rK Φ Ψ ms ss) ?_ ?_ ?_ ?_ ?_ ?_ ?_ ?_ ?_ ?_ ?_ ?_ ?_ ?_ ?_ ?_ ss
 ·exact λe f=>Jb hΦ f
 ·exact λp e f=>M7 hΦ f
 ·exact λi o e f=>M8 hΦ f
 ·intro o i v f;have f:=oQ f;exact Je hΦ f.1.1 f.1.2 f.2
 ·intro c a b ia ib f;have f:=oQ f;exact M9 hΦ f.1.1 (ia f.1.2) (ib f.2)
 ·intro p k it b ib f;have f:=cX f;exact Na hΦ f.1 (ib f.2)
 ·intro n c b ib f;have f:=cX f;exact Nb hΦ f.1 (ib f.2)
 ·exact λe f=>Nc hΦ f
 ·exact λ_ A0 h0 aa env h O s=>by rw[e7,aY];exact bM ⟨by rw[Dn],λ_=>by rw[Dn],s.pre⟩
 ·exact λ_ A0 h0 aa env h O s=>by rw[e7,aY];exact bM ⟨O,s,Fm.refl s (Zu _)⟩
 ·exact λ_ A0 h0 aa env h O s=>by rw[e7,aY];exact bM ⟨O,s,Fm.refl s (Zu _)⟩
 ·exact λ_ A0 h0 aa env h O s=>by rw[e7,aY];exact bM ⟨O,s,Fm.refl s (Zu _)⟩
 ·exact λ_ A0 h0 aa env h O s=>by rw[aY];trivial
 ·exact λ_ _ _ _ _ A0 h0 aa env h O s=>by rw[aY];trivial
 ·exact λ_=>Nd
 ·intro a r ia ir f;have f:=cX f;exact Jg (ia f.1) (ir f.2)
theorem QW{n:Nat}(u:Up A h)(q:ao A h ds vs):SR A h (ds.map (λd=>some (.sh,d))++replicate (n-ds.length) none) (vs.map some++replicate (n-vs.length) none) h (λ_=>none):=by
 have l:=q.length;have al:∀k,A k->Al A (λ_=>none) k:=λk hk=>⟨hk,λi z e=>by subst e;cases z⟩;have get:∀(i:Nat) (f:Mk) (d:Val),(ds.map (λd=>some (.sh,d))++replicate (n-ds.length) none:aN)[i]?=some (some (f,d))->f=.sh/\ds[i]?=some d:=λi f d e=>by
  by_cases hi:i<ds.length
  ·rw[Zp (by simpa using hi),Zx]at e
   cases ei:ds[i]? with
   |none=>rw[ei]at e;cases e
   |some d'=>rw[ei]at e;cases e;exact⟨rfl,rfl⟩
  ·rw[ZD (by simp;omega)]at e;have:=Zz e;rw[mem_replicate]at this;exact absurd this.2 (by simp)
 refine⟨by simp[l],λi m d e hm=>?_,λi d e=>?_,(λi a e=>nomatch e),(λi j a e=>nomatch e),Zu _,u⟩
 ·obtain⟨hm',e⟩:=get i m d e;obtain⟨v,k1,k2⟩:=q.get e;have hi:i<vs.length:=(Zb.mp k1).1;exact⟨v,by rw[Zp (by simpa using hi),Zx,k1];rfl,k2.dI al,λz=>by subst hm';cases z⟩
 ·obtain⟨z,_⟩:=get i .ow d e;cases z
theorem bw{n:Nat}(hΦ:∀j,Imp (Φ j) (Ψ j))(ho:oR body=true):Imp (fh Φ n body) (di Ψ n body):=λA h ds vs u q=>by
 have l:=q.length;have s:=QW (n:=n) u q;unfold fh di;have r:=qC (R':=λx h' v=>h<+:h'/\RV A h x h' v) (QV (ms:=iJ body) hΦ body ho A h _ _ h _ s) (f:=λf=>match f with
  |.nx _=>ret .non
  |.rt v=>ret v
  |_=>bx none) (F:=λf=>match f with
  |.nx _=>.ok (true,.non)
  |.rt p=>.ok p
  | _=>.no) λf h1 g rr=>by
   cases f<;>cases g<;>first|exact rr.elim|skip
   ·obtain⟨O',s',_⟩:=rr;exact bM ⟨s'.pre,by show Dn _ _ Val.non _;rw[Dn],λ_=>by show Dn _ _ Val.non _;rw[Dn]⟩
   ·exact bM ⟨rr.2.2,rr.1,rr.2.1⟩
   ·trivial
   ·trivial
 revert r;generalize (pb (aF Ψ (iJ body) body (ds.map (λd=>some (.sh,d))++replicate (n-ds.length) none)) _)=p;intro r;cases p with
 |ok x=>obtain⟨v,h',e,a,b⟩:=r;exact⟨v,h',e,a,b⟩
 |exc c es=>exact r
 |no=>trivial
end
abbrev aU:=List Val->Pr FV
def ah(gs:List aU)(j:Nat):aU:=match gs[j]? with
 |some g=>g
 |none=>λ_=>.no
def cE(fs:List Row)(gs:List aU):Prop:=fs.length=gs.length/\∀(j:Nat) (r:Row) (g:aU),fs[j]?=some r->gs[j]?=some g->Imp r.2.2 g
theorem Ei:cE [] []:=⟨rfl,λj r g e=>by simp at e⟩
theorem au(a:cE fs gs)(j:Nat):Imp (look fs j) (ah gs j):=by
 unfold look ah;cases e:fs[j]? with
 |none=>
  have:gs[j]?=none:=by have:=List.getElem?_eq_none_iff.mp e;exact List.getElem?_eq_none_iff.mpr (by rw[<-a.1];exact this)
  rw[this];exact λ_ _ _ _ _ _=>trivial
 |some r=>
  cases e2:gs[j]? with
  |none=>exact λ_ _ _ _ _ _=>trivial
  |some g=>exact a.2 j r g e e2
theorem ay{k:Nat}(a:cE fs gs)(i:Imp f g):cE (fs++[(x,k,f)]) (gs++[g]):=by
 refine⟨by simp[a.1],λj r g' e1 e2=>?_⟩
 by_cases hj:j<fs.length
 ·rw[Zp hj]at e1;rw[Zp (by rw[<-a.1];exact hj)]at e2;exact a.2 j r g' e1 e2
 ·rw[ZD (by omega)]at e1
  rw[ZD (by rw[<-a.1];omega)]at e2;have hj0:j-fs.length=0:=by have:=(Zb.mp e1).1;simp at this;omega
  rw[<-a.1]at e2;rw[hj0]at e1 e2;simp at e1 e2;subst e1;subst e2;exact i
section
variable {α β γ:Type}
theorem aC(a:α)(f:α -> Pr β):pb (.ok a) f=f a:=rfl
theorem Nf(c:Prop)[Decidable c](m n:Pr α)(f:α -> Pr β):pb (if c then m else n) f=if c then pb m f else pb n f:=by split<;>rfl
theorem wK(m:Pr α)(f:α -> Pr β)(g:β -> Pr γ):pb (pb m f) g=pb m λx=>pb (f x) g:=by cases m<;>rfl
theorem aZ(a:α):pl (some a)=.ok a:=rfl
theorem Jh(m:Pr α):pg true m=m:=rfl
theorem Ng(c:Prop)[Decidable c](m:Pr α):pg (decide c) m=if c then m else .no:=by unfold pg;simp
theorem uK{c:Bool}(h:c=true)(m:Pr α):pg c m=m:=by rw[h];rfl
end
theorem Ai{f:Bool}:n6 (fL f d)=true:=by unfold fL;split<;>rfl
theorem QX:n6 .sh=true:=rfl
theorem QY:n6 .nw=true:=rfl
theorem QZ:n6 .ow=false:=rfl
theorem Q0:Ot .sh=false:=rfl
theorem Q2:Ot .nw=true:=rfl
theorem Nh{f:Bool}{i:Int}:fL f (.int i)=.sh:=by cases f<;>rfl
theorem Q3{f:Bool}{i:Bool}:fL f (.bl i)=.sh:=by cases f<;>rfl
theorem Ni{f:Bool}:fL f (.str i)=.sh:=by cases f<;>rfl
theorem Nj{f:Bool}:fL f .non=.sh:=by cases f<;>rfl
theorem Uq:fL false d=.sh:=rfl
theorem Q4:fL true (.rl ds)=.nw:=rfl
theorem Q5:fL true (.dc ks ds)=.nw:=rfl
section
variable {a b:Int} {x y:Str} {t:Bool} {vs ws:List Val} {v:Val}
theorem Q6:lK .add (.int a) (.int b)=.ok (true,.int (a+b)):=rfl
theorem Q7:lK .sub (.int a) (.int b)=.ok (true,.int (a-b)):=rfl
theorem wL(h:jV a b=true):lK .mul (.int a) (.int b)=.ok (true,.int (a*b)):=by simp only[lK];exact uK h _
theorem dN(h:gD b=true):lK .fdiv (.int a) (.int b)=.ok (true,.int (a/b)):=by simp only[lK];exact uK h _
theorem dz(h:decide (0<b)=true):lK .mod (.int a) (.int b)=.ok (true,.int (a%b)):=by simp only[lK];exact uK h _
theorem Kg(h:decide (0<=b/\b<=1000000/\a.natAbs<2 ^ 64)=true):lK .pow (.int a) (.int b)=.ok (true,.int (a ^ b.toNat)):=by simp only[lK];exact uK h _
theorem Ur:cop [] .lt (.int a) (.int b)=some (decide (a<b)):=rfl
theorem Us:cop [] .le (.int a) (.int b)=some (decide (a<=b)):=rfl
theorem Ut:cop [] .gt (.int a) (.int b)=some (decide (b<a)):=rfl
theorem Uu:cop [] .ge (.int a) (.int b)=some (decide (b<=a)):=rfl
theorem Uv:cop [] .eq (.int a) (.int b)=some (decide (a=b)):=by
 show some (a==b)=_
 congr 1
theorem Uw:cop [] .ne (.int a) (.int b)=some (!decide (a=b)):=by
 show some (!(a==b))=_
 congr 1
theorem Q8:cop [] .isn v .non=some (jW v):=by cases v<;>rfl
theorem Q9:cop [] .ntn v .non=some (!jW v):=by cases v<;>rfl
theorem Ra:gZ [] (.bl t)=some t:=rfl
theorem Rb:iI .len [.rl vs]=.ok (true,.int vs.length):=rfl
theorem Rc:iI .len [.tup vs]=.ok (true,.int vs.length):=rfl
theorem Rf:iI .min [.int a,.int b]=.ok (true,.int (if b<a then b else a)):=rfl
theorem Rg:iI .max [.int a,.int b]=.ok (true,.int (if b>a then b else a)):=rfl
theorem Nk:iI .min [.tup [.int a,.int b]]=.ok (true,.int (min a b)):=rfl
theorem Nl:iI .max [.tup [.int a,.int b]]=.ok (true,.int (max a b)):=rfl
theorem Nn:iI .list [.rl vs]=.ok (bC vs,.rl vs):=rfl
theorem Np:iI .list [.tup vs]=.ok (bC vs,.rl vs):=rfl
theorem Rh:iI .int [.bl t]=.ok (true,.int (if t=true then 1 else 0)):=rfl
theorem gf(h:ji vs a=some v):jm [] (.rl vs) (.int a)=some v:=h
theorem bI(h:ji vs a=some v):jm [] (.tup vs) (.int a)=some v:=h
end
theorem iP:ji (v::vs) (0:Int)=some v:=by
 have:=l0 (xs:=v::vs) (j:=0) (v:=v) rfl;exact this
theorem gh:ji (u::v::vs) (1:Int)=some v:=by
 have:=l0 (xs:=u::v::vs) (j:=1) (v:=v) rfl;exact this
theorem fz{T:String}{t:String}(h1:vQ [] v=some t)(h2:vR T t=some true):iI (.isin T) [v]=.ok (true,.bl true):=by
 show pb (pl (vQ [] v)) _=_;rw[h1,aZ,aC,h2];rfl
theorem yU{T:String}{t:String}(h1:vQ [] v=some t)(h2:vR T t=some false):iI (.isin T) [v]=.ok (true,.bl false):=by
 show pb (pl (vQ [] v)) _=_;rw[h1,aZ,aC,h2];rfl
theorem ne_self(h:toD 16 [] d=some p)(hp:p.canLay0=true):cop [] .ne d d=some false:=by
 simp only[cop,zC,h,bind_some];rw[SeqAt.eqv_refl p hp];rfl
theorem Nq:BS .seq z o=o:=rfl
theorem Nr:BS .range z o=o:=rfl
theorem Ej:BS .zip z o=z:=rfl
theorem Ek:BU [.rl a,.rl b]=some (e8 a b):=rfl
theorem Ri:gg .seq [.tup vs]=some vs:=rfl
theorem fO:gg .seq [.rl vs]=some vs:=rfl
theorem Nt:BR .seq ds=gg .seq ds:=rfl
theorem Nu:BR .range ds=gg .range ds:=rfl
theorem Nv:BR .enum ds=gg .enum ds:=rfl
theorem Nx:BR .zip [.rl a,.rl b]=some (e8 a b):=rfl
theorem El{lo hi:Option Int}:BQ (.rl vs) lo hi=.ok (bC (cU vs lo hi),.rl (cU vs lo hi)):=rfl
theorem aR{i:Nat}:bH (.one i) d env=some (env.set i (some (.sh,d))):=rfl
theorem Em{i j:Nat}:bH (.tup [i,j]) (.tup [d,e]) env=some ((env.set i (some (.sh,d))).set j (some (.sh,e))):=rfl
theorem qD{α β:Type}(f:α -> β)(ds:List α)(lo hi:Option Int):cU (ds.map f) lo hi=(cU ds lo hi).map f:=by
 unfold cU;simp only[length_map,List.map_take,List.map_drop]
theorem gI{α β γ:Type}{f:β -> Option γ}{g:α -> β}{k:α -> γ}:∀(xs:List α),(∀x∈xs,f (g x)=some (k x))->cI f (xs.map g)=some (xs.map k)
 |[],_=>rfl
 | x::r,h=>by
  rw[Zo,cI,h x Zk,gI r λy hy=>h y (Zh _ hy)];rfl
theorem ints_map(xs:List Int):bz (xs.map .int)=some xs:=by
 have:=gI (f:=λv=>match v with|.int i=>some i|_=>none) (g:=Val.int) (k:=id) xs λ_ _=>rfl;rw[map_id]at this;exact this
theorem yV(o6:List (List Int))(h:∀k∈o6,k≠[])(hl:o6.length<64):gC (o6.map fH)=some ((mj o6).map fH):=by
 unfold gC;rw[Zg (by rw[Ze];exact hl)];cases o6 with
 |nil=>rfl
 |cons k r=>
  have e:bz (List.map fH (k::r))=none:=by unfold bz ;rw[Zo,cI];rfl
  rw[e];have e2:k8 (List.map fH (k::r))=some (k::r):=by
   have:=gI (f:=λv=>match v with|.tup vs=>if vs.isEmpty then none else bz vs|_=>none) (g:=fH) (k:=id) (k::r) λx hx=>by
    have hx:=h x hx;show (if (x.map Val.int).isEmpty=true then none else bz (x.map .int))=some x;rw[Zi (by simpa using hx),ints_map]
   rw[map_id]at this;exact this
  show (k8 (List.map fH (k::r))).bind _=_;rw[e2];rfl
theorem eu(s:String):PyData.strOk (Str.ofString s)=true:=by
 have:=PyProof.Rows.signs_ofString s;unfold PyData.strOk;rw[<-Array.all_toList,this,all_eq_true];intro c hc;obtain⟨d,_,rfl⟩:=mem_map.mp hc;have:=d.valid;simp only[decide_eq_true_eq];show d.val.toNat<1114112;unfold UInt32.isValidChar Nat.isValidChar at this;omega
theorem Aj{n:Nat}(e:PyData.strOk x=true):toD (n+1) h (.str x)=some (.str x):=Zg e
theorem yW{α:Type}{n:Nat}(f:α -> Val)(g:α -> PyData)(xs:List α)(e:∀x∈xs,toD n h (f x)=some (g x)):toD (n+1) h (.rl (xs.map f))=some (.list (xs.map g)):=by
 show (cI (toD n h) _).bind _=_;rw[gI xs e];rfl
theorem Ji{α:Type}{n:Nat}(f:α -> Val)(g:α -> PyData)(xs:List α)(e:∀x∈xs,toD n h (f x)=some (g x)):toD (n+1) h (.tup (xs.map f))=some (.tuple (xs.map g)):=by
 show (cI (toD n h) _).bind _=_;rw[gI xs e];rfl
theorem En{n:Nat}(ks:List Int):toD (n+2) h (fH ks)=some (.tuple (ks.map .int)):=Ji _ _ ks λ_ _=>rfl
theorem ju{α:Type}(g:α -> PyData):∀(xs:List α),(∀x∈xs,(g x).canLay0=true)->PyData.canLayAll0 (xs.map g)=true
 |[],_=>by simp[PyData.canLayAll0]
 | x::r,h=>by
  rw[Zo,PyData.canLayAll0,h x Zk,ju g r λy hy=>h y (Zh _ hy)];rfl
theorem sX{α:Type}(enc:α -> Val)(Q:List α -> aN->Prop):∀(us done:List α) (env:aN),Q done env->(∀(pre:List α) (u:α) (post:List α) (env:aN),done++us=pre++u::post->Q pre env->∃env',body (enc u) env=.ok (.nx env')/\Q (pre++[u]) env')->∃env',fq body (us.map enc) env=.ok (.nx env')/\Q (done++us) env'
 |[],done,env,q,_=>⟨env,rfl,by rw[append_nil];exact q⟩
 | x::xs,done,env,q,h=>by
  obtain⟨env',e,q'⟩:=h done x xs env rfl q;have eq:done++x::xs=done++[x]++xs:=by simp
  obtain⟨iF,e2,q2⟩:=sX enc Q xs (done++[x]) env' q' (by rw[<-eq];exact h);refine⟨iF,?_,by rw[eq];exact q2⟩;rw[Zo,fq,e,aC];exact e2
theorem gn{α:Type}(enc:α -> Val){us:List α}{oJ:aN}{β:Type}{k:u9->Pr β}(G:Pr β -> Prop)(Q:List α -> aN->Prop)(h0:Q [] oJ)
  (step:∀(pre:List α) (u:α) (post:List α) (env:aN),us=pre++u::post->Q pre env->∃env',body (enc u) env=.ok (.nx env')/\Q (pre++[u]) env')
  (post:∀env',Q us env'->G (k (.nx env'))):G (pb (fq body (us.map enc) oJ) k):=by
 obtain⟨env',e,q⟩:=sX enc Q us [] oJ h0 (λpre x post env ep q=>step pre x post env ep q);rw[e,aC];exact post env' q
abbrev vc(xs:List Int)(g:Int->Val):Val:=.dc (xs.map Sum.inl) (xs.map g)
def qE(g:Int->Val)(x:Int)(v:Val):Int->Val:=λy=>if y=x then v else g y
theorem yX(xs:List Int)(g:Int->Val):(xs.map (Sum.inl:Int->Key)).zip (xs.map g)=xs.map λx=>((Sum.inl x:Key),g x):=by
 induction xs with
 |nil=>rfl
 |cons x r ih=>simp only[map_cons,zip_cons_cons,ih]
theorem f9{xs:List Int}{x:Int}(h:x∈xs):jm [] (vc xs g) (.int x)=some (g x):=by
 show cT _ _=_;rw[yX];unfold cT
 induction xs with
 |nil=>simp at h
 |cons y r ih=>
  rw[Zo,find?_cons]
  by_cases e:y=x
  ·subst e;simp
  ·have:((Sum.inl y:Key)=Sum.inl x)=False:=by simp[e]
   simp only[this,decide_false];exact ih (by rcases Zw.mp h with h|h;exact absurd h.symm e;exact h)
theorem Eo(xs:List Int)(g:Int->Val)(x:Int):((xs.map λx=>((Sum.inl x:Key),g x)).any λkv=>decide (kv.1=Sum.inl x))=decide (x∈xs):=by
 induction xs with
 |nil=>rfl
 |cons y r ih=>
  rw[Zo,any_cons,ih]
  by_cases e:y=x
  ·subst e;simp
  ·have e':¬ x=y:=λh=>e h.symm;simp[e,e']
theorem uL{xs:List Int}{x:Int}(h:x∈xs):putD (xs.map Sum.inl) (xs.map g) (.inl x) v=vc xs (qE g x v):=by
 unfold putD kT;rw[yX,Eo,Zg (by simpa using h)];unfold vc;rw[ZQ,ZQ]
 congr 1
 ·refine map_congr_left λy _=>?_
  show ((if (Sum.inl y:Key)=Sum.inl x then ((Sum.inl y:Key),v) else (Sum.inl y,g y)).1)=_
  split<;>rfl
 ·rw[ZQ,ZQ]
  refine map_congr_left λy _=>?_;show ((if (Sum.inl y:Key)=Sum.inl x then ((Sum.inl y:Key),v) else (Sum.inl y,g y)).2)=_;unfold qE
  by_cases e:y=x
  ·rw[Zg (by rw[e]),Zg e]
  ·rw[Zi (by simpa using e),Zi e]
theorem Ak{xs:List Int}{x:Int}(h:x∉xs):putD (xs.map Sum.inl) (xs.map g) (.inl x) v=vc (xs++[x]) (qE g x v):=by
 unfold putD kT;rw[yX,Eo,Zi (by simpa using h)];unfold vc;simp only[List.map_append,map_map,map_cons,map_nil]
 congr 1
 congr 1
 ·refine map_congr_left λy hy=>?_;show g y=qE g x v y;unfold qE;rw[Zi (λe:y=x=>h (e▸hy))]
 ·simp[qE]
theorem cY{xs:List Int}(h:∀x∈xs,g x=g' x):vc xs g=vc xs g':=by
 unfold vc;rw[map_congr_left h]
theorem mL{x:Int}:keyOf (.int x)=some (.inl x):=rfl
theorem Jj(a b:Int):PyData.eqv (.int a) (.int b)=decide (a=b):=by
 show (a==b)=_
 by_cases h:a=b<;>simp[h]
theorem Rj{xs:List Int}{x:Int}:cop [] .Cr (.int x) (.rl (xs.map .int))=some (decide (x∈xs)):=by
 show (toD 16 [] (.rl (xs.map .int))).bind _=_;rw[yW Val.int PyData.int xs λ_ _=>rfl];show some ((xs.map PyData.int).any λy=>PyData.eqv y (.int x))=_
 congr 1
 induction xs with
 |nil=>rfl
 |cons y r ih=>
  rw[Zo,any_cons,ih,Jj]
  by_cases e:y=x
  ·subst e;simp
  ·have e':¬ x=y:=λh=>e h.symm;simp[e,e']
theorem wM(x:Int):∀(ns ks:List Int),x∈iB ks ns↔x∈ks\/x∈ns
 |[],ks=>by simp[iB]
 | k::r,ks=>by
  rw[iB,wM x r,gA]
  split
  ·rename_i h
   constructor
   ·rintro(h'|h')
    ·exact .inl h'
    ·exact .inr (Zh _ h')
   ·rintro(h'|h')
    ·exact .inl h'
    ·rcases Zw.mp h' with h'|h'
     ·exact .inl (h'▸h)
     ·exact .inr h'
  ·simp[or_assoc]
theorem qF:∀(ns ks:List Int),ks.Nodup->(iB ks ns).Nodup
 |[],ks,h=>h
 | k::r,ks,h=>by
  rw[iB];refine qF r _ ?_;rw[gA]
  split
  ·exact h
  ·rename_i hk;rw[nodup_append];exact⟨h,by simp,λa ha b hb=>by simp at hb;subst hb;exact λe=>hk (e▸ha)⟩
def gB(ns:List Int):List Int:=sortI (iB [] ns)
theorem Ep(x:Int)(ns:List Int):x∈gB ns↔x∈ns:=by
 unfold gB;rw[(sortI_perm _).mem_iff,wM];simp
theorem yY(ns:List Int):(gB ns).Nodup:=by
 unfold gB;rw[(sortI_perm _).nodup_iff];exact qF ns [] nodup_nil
inductive Way (es:List (Int×Int)):Int->Int->Prop
 |refl (a:Int):Way es a a
 |fwd {a b c:Int}:Way es a b->(b,c)∈es->Way es a c
 |bwd {a b c:Int}:Way es a b->(c,b)∈es->Way es a c
theorem Way.trans{a b c:Int}(h:Way es a b)(k:Way es b c):Way es a c:=by
 induction k with
 |refl=>exact h
 |fwd _ m ih=>exact .fwd ih m
 |bwd _ m ih=>exact .bwd ih m
theorem Way.symm{a b:Int}(h:Way es a b):Way es b a:=by
 induction h with
 |refl=>exact .refl _
 |fwd _ m ih=>exact(Way.bwd (.refl _) m).trans ih
 |bwd _ m ih=>exact(Way.fwd (.refl _) m).trans ih
theorem Way.mono(hs:∀e∈es,e∈fs){a b:Int}(h:Way es a b):Way fs a b:=by
 induction h with
 |refl=>exact .refl _
 |fwd _ m ih=>exact .fwd ih (hs _ m)
 |bwd _ m ih=>exact .bwd ih (hs _ m)
theorem Way.const{α:Type}(f:Int -> α)(hf:∀e∈es,f e.1=f e.2){a b:Int}(h:Way es a b):f a=f b:=by
 induction h with
 |refl=>rfl
 |fwd _ m ih=>exact ih.trans (hf _ m)
 |bwd _ m ih=>exact ih.trans (hf _ m).symm
structure wN (ps:List Int) (es:List (Int×Int)) (f:Int->Int):Prop where
 Cr:∀x∈ps,f x∈ps
 way:∀x∈ps,Way es x (f x)
 same:∀e∈es,f e.1=f e.2
theorem wN.iff{ps:List Int}(h:wN ps es f){x y:Int}(hx:x∈ps)(hy:y∈ps):f x=f y↔Way es x y:=by
 constructor
 ·intro e;have:=(h.way y hy).symm;rw[<-e]at this;exact(h.way x hx).trans this
 ·exact λw=>w.const f h.same
theorem wN.start(ps:List Int):wN ps [] id:=⟨λx h=>h,λx _=>.refl x,λe h=>by simp at h⟩
theorem wN.step{ps:List Int}(h:wN ps es f){a b:Int}(ha:a∈ps)(hb:b∈ps)(kept gone:Int)(hk:(kept=f a/\gone=f b)\/(kept=f b/\gone=f a)):wN ps (es++[(a,b)]) (λx=>if f x=gone then kept else f x):=by
 have up:∀{x y},Way es x y->Way (es++[(a,b)]) x y:=λw=>w.mono λe he=>mem_append_left _ he;have ab:Way (es++[(a,b)]) a b:=.fwd (.refl _) (by simp);refine⟨λx hx=>?_,λx hx=>?_,λe he=>?_⟩
 ·split
  ·rcases hk with ⟨k,_⟩|⟨k,_⟩<;>rw[k]<;>exact h.Cr _ (by assumption)
  ·exact h.Cr x hx
 ·split
  ·rename_i e
   have w1:=up (h.way x hx);rw[e]at w1;refine w1.trans ?_
   rcases hk with ⟨k,g⟩|⟨k,g⟩
   ·rw[k,g];exact((up (h.way b hb)).symm.trans ab.symm).trans (up (h.way a ha))
   ·rw[k,g];exact((up (h.way a ha)).symm.trans ab).trans (up (h.way b hb))
  ·exact up (h.way x hx)
 ·rcases ZP.mp he with he|he
  ·rw[h.same e he]
  ·rw[Zs]at he
   subst he
   rcases hk with ⟨k,g⟩|⟨k,g⟩
   ·rw[k,g];rw[Zg (rfl:f b=f b)];split<;>rfl
   ·rw[k,g];rw[Zg (rfl:f a=f a)];split<;>rfl
abbrev T3:=Int×Int×Int
def l3(t:T3):List Int:=[t.1,t.2.1,t.2.2]
def aG(t:T3):Val:=.tup [.int t.1,.int t.2.1,.int t.2.2]
def uM(x:T3):List T3->List T3
 |[]=>[x]
 |y::r=>if HT.lexLt (l3 y) (l3 x)=true then y::uM x r else x::y::r
def iz:List T3->List T3
 |[]=>[]
 |x::r=>uM x (iz r)
theorem wO(x:T3):∀l:List T3,uq (l3 x) (l.map l3)=(uM x l).map l3
 |[]=>rfl
 | y::r=>by
  rw[Zo,uq,uM]
  split
  ·rw[Zo,wO x r]
  ·rfl
theorem sY:∀l:List T3,mj (l.map l3)=(iz l).map l3
 |[]=>rfl
 |x::r=>by rw[Zo,mj,sY r,wO];rfl
theorem nK(x:T3):∀l:List T3,(uM x l).Perm (x::l)
 |[]=>.refl _
 | y::r=>by
  rw[uM]
  split
  ·exact((nK x r).cons y).trans (List.Perm.swap ..)
  ·exact .refl _
theorem fB:∀l:List T3,(iz l).Perm l
 |[]=>.refl _
 |x::r=>(nK x _).trans ((fB r).cons x)
theorem Jk(ts:List T3)(hl:ts.length<64):gC (ts.map aG)=some ((iz ts).map aG):=by
 have e:∀us:List T3,us.map aG=(us.map l3).map fH:=λus=>by rw[ZQ];rfl
 rw[e,yV _ (λk hk=>by obtain⟨t,_,rfl⟩:=mem_map.mp hk;simp[l3]) (by rw[Ze];exact hl),sY,e]
theorem wQ(hl:ts.length<64):iI .sorted [.rl (ts.map aG)]=.ok (true,.rl ((iz ts).map aG)):=by
 show pb (pl (gC _)) _=_;rw[Jk ts hl];rfl
def sZ(ts:List T3):Prop:=ts.Pairwise λa b=>a.1<b.1
theorem Am(x:T3):∀l:List T3,sZ l->(∀y∈l,y.1≠x.1)->sZ (uM x l)
 |[],_,_=>by simp[uM,sZ]
 | y::r,h,hn=>by
  unfold sZ at *;rw[pairwise_cons]at h;have ny:y.1≠x.1:=hn y Zk;rw[uM];have lx:HT.lexLt (l3 y) (l3 x)=decide (y.1<x.1):=by show HT.lexLt (y.1::_) (x.1::_)=_;rw[HT.gy,Zi ny]
  rw[lx]
  by_cases c:y.1<x.1
  ·rw[Zg (by simpa using c),pairwise_cons]
   refine⟨λz hz=>?_,Am x r h.2 λz hz=>hn z (Zh _ hz)⟩
   rcases Zw.mp ((nK x r).mem_iff.mp hz) with hz|hz
   ·rw[hz];exact c
   ·exact h.1 z hz
  ·rw[Zi (by simpa using c),pairwise_cons,pairwise_cons]
   refine⟨λz hz=>?_,h⟩;have:x.1<y.1:=by omega
   rcases Zw.mp hz with hz|hz
   ·rw[hz];exact this
   ·have:=h.1 z hz;omega
theorem qG:∀l:List T3,(l.map (·.1)).Nodup->sZ (iz l)
 |[],_=>.nil
 | x::r,h=>by
  rw[Zo,nodup_cons]at h;refine Am x _ (qG r h.2) λy hy e=>h.1 ?_;rw[(fB r).mem_iff]at hy;exact mem_map.mpr ⟨y,hy,e⟩
def turnT(t:T3):T3:=(t.1,if t.2.2<t.2.1 then t.2.2 else t.2.1,if t.2.2>t.2.1 then t.2.2 else t.2.1)
def ak(p q:Int)(ts:List T3):Val:=.tup [.tup [.int p,.int q],.rl (ts.map aG)]
theorem An(p q:Int)(ts:List T3):cop [] .ne (ak p q ts) (ak p q ts)=some false:=by
 have h1:toD 15 [] (.tup [.int p,.int q])=some (.tuple [.int p,.int q]):=rfl;have h2:toD 15 [] (.rl (ts.map aG))=some (.list (ts.map λt=>.tuple ((l3 t).map .int))):=yW aG _ ts λt _=>En (l3 t);have h:toD 16 [] (ak p q ts)=some (.tuple [.tuple [.int p,.int q],.list (ts.map λt=>.tuple ((l3 t).map .int))]):=by show (cI (toD 15 []) _).bind _=_;rw[cI,h1,cI,h2,cI];rfl
 refine ne_self h ?_;have hi:∀xs:List Int,PyData.canLayAll0 (xs.map PyData.int)=true:=λxs=>ju _ _ λ_ _=>by rw[PyData.canLay0]
 have h3:PyData.canLayAll0 (ts.map λt=>.tuple ((l3 t).map .int))=true:=ju _ _ λt _=>by rw[PyData.canLay0];exact hi _
 have h4:=hi [p,q];simp only[map_cons,map_nil]at h4;rw[PyData.canLay0,PyData.canLayAll0,PyData.canLay0,h4,PyData.canLayAll0,PyData.canLay0,h3,PyData.canLayAll0];rfl
theorem pB{i j k:Nat}:bH (.tup [i,j,k]) (aG t) env=some (((env.set i (some (.sh,.int t.1))).set j (some (.sh,.int t.2.1))).set k (some (.sh,.int t.2.2))):=rfl
theorem BZ{α:Type}(ds:List α)(lo:Int)(n:Nat)(h:0<=lo):(cU ds (some lo) (some (lo+n))).length<=n:=by
 unfold cU HT.dS;dsimp only;rw[Zi (by omega),Zi (by omega)];simp only[length_take,length_drop];omega
theorem Er:BQ (aG t) (some 1) none=.ok (true,.tup [.int t.2.1,.int t.2.2]):=rfl
theorem qH{α:Type}(enc:α -> Val)(g:α -> FV):∀(us:List α),(∀u∈us,f (enc u)=.ok (some (g u)))->jB f (us.map enc)=.ok (us.all λu=>(g u).1,us.map λu=>(g u).2)
 |[],_=>rfl
 | x::xs,h=>by
  rw[Zo,jB,h x Zk,aC,qH enc g xs λy hy=>h y (Zh _ hy),aC];rfl
theorem b6{α:Type}(enc dec:α -> Val)(us:List α)(h:∀u∈us,f (enc u)=.ok (some (true,dec u))):jB f (us.map enc)=.ok (true,us.map dec):=by
 rw[qH enc (λu=>(true,dec u)) us h];simp
theorem lO{α:Type}(enc dec:α -> Val)(t:α -> Bool):∀(us:List α),(∀u∈us,f (enc u)=.ok (if t u=true then some (true,dec u) else none))->jB f (us.map enc)=.ok (true,(us.filter t).map dec)
 |[],_=>rfl
 | x::xs,h=>by
  rw[Zo,jB,h x Zk,aC,lO enc dec t xs λy hy=>h y (Zh _ hy),aC]
  by_cases hx:t x=true
  ·rw[Zg hx,List.filter_cons_of_pos hx];rfl
  ·rw[Zi hx,filter_cons_of_neg hx]
theorem Jl:∀m,m<67->∀d,d<67->0<m->0<d->(m*d)%67≠0:=by decide +kernel
theorem Jm{m c i j:Int}(hm:0<m/\m<67)(hi:0<=i/\i<67)(hj:0<=j/\j<67)(e:(m*i+c)%67=(m*j+c)%67):i=j:=by
 have key:∀i j:Int,0<=i->j<67->i<j->(m*i+c)%67=(m*j+c)%67->False:=by
  intro i j h0 h1 hlt e;obtain⟨a,ha⟩:=Int.eq_ofNat_of_zero_le (show 0<=m by omega);obtain⟨d,hd⟩:=Int.eq_ofNat_of_zero_le (show 0<=j-i by omega);have p:=Jl a (by omega) d (by omega) (by omega) (by omega);have:m*j=m*i+m*(j-i):=by rw[Int.mul_sub];omega
  rw[this]at e;have e2:(m*(j-i))%67=0:=by omega
  rw[ha,hd]at e2;apply p;have:((a*d:Nat):Int)%67=0:=by rw[Int.natCast_mul];exact e2
  omega
 rcases Int.lt_trichotomy i j with h|h|h
 ·exact(key i j hi.1 hj.2 h e).elim
 ·exact h
 ·exact(key j i hj.1 hi.2 h e.symm).elim
theorem wR{α:Type}{f:Hs->Option α}{a:α}(e:f h=some a):ask f h=.ok a h:=by show (match f h with|some a=>Out.ok a h|none=>Out.no)=_;rw[e]
theorem pC{α β:Type}{f:Hs->Option α}{g:α -> M β}{a:α}(e:f h=some a):bnd (ask f) g h=g a h:=aK (wR e)
def cC(aa:aN):aN:=aa.map λo=>match o with
 |some (_,d)=>some (.sh,d)
 |none=>none
def oh(aa:aN):aN:=aa.map λo=>match o with
 |some (.sh,d)=>some (.sh,d)
 |_=>none
def Ou(Ψ:Nat->List Val->Pr FV)(e:IE)(env:aN):Pr FV:=match aS Ψ e (oh env) with
 |.ok x=>.ok x
 |_=>pb (aS Ψ e (cC env)) λx=>pg x.1 (.ok x)
structure Sp where
 ids:List Nat
 mu:Nat->List Val->Pr FV
def Rk:List Str:=["deed","take","back","again"]
def Jo:IE->Option (Nat×Str×List (Nat×Nat)×kM)
 |.mth (.var i) m js es=>if Rk.contains m=true then some (i,m,js,es) else none
 |_=>none
inductive XK
 |app (i:Nat) (a:IE)
 |apI (i:Nat) (j:Int) (a:IE)
 |Cs (i:Nat) (j:Int)
def XK.ie:XK->IE
 |.app i a=>.met .append (.var i) #[a]
 |.apI i j a=>.met .append (.idx (.var i) (.cst (.int j))) #[a]
 |.Cs i j=>.svals (.idx (.var i) (.cst (.int j)))
def XK.at:XK->Nat
 |.app i _=>i
 |.apI i _ _=>i
 |.Cs i _=>i
def xV:IE->Option Nat
 |.var i=>some i
 |_=>none
def xX:IE->Option (IE×IE)
 |.idx a b=>some (a,b)
 |_=>none
def xI:IE->Option Val
 |.cst d=>some d
 |_=>none
def xM:IE->Option (Me×IE×kM)
 |.met m a es=>some (m,a,es)
 |_=>none
def xO:kM->Option IE
 |.cons a .nil=>some a
 |_=>none
def xJ(o:IE):Option (Nat×Int):=(xX o).bind λy=>(xV y.1).bind λx=>(xI y.2).bind λd=>(k9 d).bind λj=>some (x,j)
def Xn:Me->IE->IE->Option XK
 |.append,a,x=>(match xV a with|some i=>some (.app i x)|none=>(xJ a).bind λy=>some (.apI y.1 y.2 x))
 |_,_,_=>none
def Ux:IE->Option XK
 |.svals a=>(xJ a).bind λy=>some (.Cs y.1 y.2)
 |_=>none
def Vy(e:IE):Option XK:=(xM e).bind λm=>(xO m.2.2).bind λx=>Xn m.1 m.2.1 x
def Ov(e:IE):Option XK:=match Ux e with
 |some k=>some k
 |none=>Vy e
section
variable {e:IE}
theorem Rm{i:Nat}(h:xV e=some i):e=.var i:=by
 cases e<;>first|(cases h;rfl)|exact nomatch (show none=some _ from h)
theorem Uy(h:xX e=some y):e=.idx y.1 y.2:=by
 cases e<;>first|(cases h;rfl)|exact nomatch (show none=some _ from h)
theorem Uz(h:xI e=some d):e=.cst d:=by
 cases e<;>first|(cases h;rfl)|exact nomatch (show none=some _ from h)
theorem UA(h:xM e=some y):e=.met y.1 y.2.1 y.2.2:=by
 cases e<;>first|(cases h;rfl)|exact nomatch (show none=some _ from h)
theorem UB(h:xO es=some e):es=.cons e .nil:=by
 cases es with
 |nil=>cases h
 |cons a r=>
  cases r with
  |nil=>cases h;rfl
  |cons _ _=>cases h
theorem Rn(h:xJ e=some y):e=.idx (.var y.1) (.cst (.int y.2)):=by
 obtain⟨z,h1,h⟩:=Za.mp h;obtain⟨x,h2,h⟩:=Za.mp h;obtain⟨d,h3,h⟩:=Za.mp h;obtain⟨j,h4,h⟩:=Za.mp h;cases h;rw[Uy h1,Rm h2,Uz h3];cases d<;>first|(cases h4;rfl)|cases h4
theorem Ro(h:Vy e=some k):e=k.ie:=by
 obtain⟨⟨m,a,es⟩,h1,h⟩:=Za.mp h;obtain⟨x,h2,h⟩:=Za.mp h;rw[UA h1,UB h2];clear h1 h2;cases m with
 |append=>
  cases h3:xV a with
  |some i=>change (match xV a with|some i=>some (XK.app i x)|none=>(xJ a).bind λy=>some (XK.apI y.1 y.2 x))=some k at h;rw[h3]at h;cases h;rw[Rm h3];rfl
  |none=>change (match xV a with|some i=>some (XK.app i x)|none=>(xJ a).bind λy=>some (XK.apI y.1 y.2 x))=some k at h;rw[h3]at h;obtain⟨y,h4,h⟩:=Za.mp h;cases h;rw[Rn h4];rfl
 |_=>cases h
theorem Rp(h:Ux e=some k):e=k.ie:=by
 cases e<;>first|exact nomatch (show none=some _ from h)|skip
 obtain⟨y,h4,h⟩:=Za.mp h;cases h;rw[Rn h4];rfl
theorem Rq(h:Ov e=some k):e=k.ie:=by
 unfold Ov at h;cases hc:Ux e with
 |some k'=>rw[hc]at h;cases h;exact Rp hc
 |none=>rw[hc]at h;exact Ro h
end
def Es(Ψ:Nat->List Val->Pr FV):XK->aN->Pr u9
 | .app i a,env=>match env[i]? with
  |some (some (.ow,.rl ds))=>pb (aS Ψ a (cC env)) λx=>pg (decide (ds.length<sizeLine)) (.ok (.nx (env.set i (if bC (ds++[x.2])=true then some (.ow,.rl (ds++[x.2])) else none))))
  |_=>.no
 | .apI i j a,env=>match env[i]? with
  | some (some (.ow,.tup ds))=>match ji ds j with
   |some (.rl es)=>pb (aS Ψ a (cC env)) λx=>pg (decide (es.length<sizeLine)) (.ok (.nx (env.set i none)))
   |_=>.no
  |_=>.no
 | .Cs i j,env=>match env[i]? with
  | some (some (.ow,.tup ds))=>match ji ds j with
   |some (.rl _)=>.ok (.nx (env.set i none))
   |_=>.no
  |_=>.no
def Sv(Ψ:Nat->List Val->Pr FV)(sp:Sp)(t:Nat)(y:Nat×Str×List (Nat×Nat)×kM)(env:aN):Pr u9:=match env[y.1]? with
 | some (some (.ow,o))=>pb (pl (lF [] o y.2.1 y.2.2.1)) λj=>pb (j4 Ψ y.2.2.2 (cC env)) λp=>pg (bC p.2&&decide (t≠y.1)) (match sp.mu j (o::p.2) with
  |.ok (_,.tup [o',r])=>.ok (.nx (((env.set t none).set y.1 (some (.ow,o'))).set t (some (if sp.ids.contains t=true then .ow else .sh,r))))
  |_=>.no)
 |_=>.no
mutual
noncomputable def b7(Ψ:Nat->List Val->Pr FV)(sp:Sp):IS->aN->Pr u9
 | .expr e,env=>match Ov e with
  |some k=>Es Ψ k env
  |none=>.no
 | .asg p e,env=>match p with
  | .one i=>(match Jo e with
   |some y=>Sv Ψ sp i y env
   | none=>if sp.ids.contains i=true then pb (aS Ψ e (cC env)) λx=>pg x.1 (.ok (.nx (env.set i (some (.ow,x.2)))))
    else pb (Ou Ψ e env) λx=>.ok (.nx (env.set i (some (.sh,x.2)))))
  |.tup _=>.no
 |.iff c a b,env=>pb (aS Ψ c (cC env)) λx=>pb (pl (gZ [] x.2)) λt=>if t=true then bX Ψ sp a env else bX Ψ sp b env
 | .for p k it body,env=>match it with
  |.cons e .nil=>pb (Ou Ψ e env) λx=>pb (pl (gg k [x.2])) λxs=>fq (λx env=>pb (pl (bH p x env)) λenv'=>bX Ψ sp body env') xs env
  |_=>.no
 |.ret e,env=>pb (aS Ψ e (cC env)) λp=>.ok (.rt p)
 |.brk,env=>.ok (.bk env)
 |.cnt,env=>.ok (.ct env)
 |.pass,env=>.ok (.nx env)
 |.gB ..,_=>.no
 |.aug ..,_=>.no
 |.whl ..,_=>.no
 |.Dr,_=>.no
 |.never,_=>.no
 |.setF ..,_=>.no
noncomputable def bX(Ψ:Nat->List Val->Pr FV)(sp:Sp):b8->aN->Pr u9
 |.nil,env=>.ok (.nx env)
 | .cons s r,env=>pb (b7 Ψ sp s env) λf=>match f with
  |.nx env'=>bX Ψ sp r env'
  |f=>.ok f
end
mutual
noncomputable def UC:IS->List Nat
 |.expr e=>(match Ov e with|some k=>[k.at]|none=>[])
 |.asg _ e=>(match Jo e with|some y=>[y.1]|none=>[])
 |.iff _ a b=>jC a++jC b
 |.for _ _ _ b=>jC b
 |_=>[]
noncomputable def jC:b8->List Nat
 |.nil=>[]
 |.cons s r=>UC s++jC r
end
theorem Ny(h:Ov e=some k):b7 Ψ sp (.expr e) env=Es Ψ k env:=by rw[b7,h]
def yZ(Ψ Θ:Nat->List Val->Pr FV)(n:Nat)(body:b8)(ds:List Val):Pr FV :=
 pb (bX Ψ ⟨jC body,Θ⟩ body (ds.map (λd=>some (.sh,d))++replicate (n-ds.length) none)) λf=>match f with
  |.nx _=>.ok (true,.non)
  |.rt p=>.ok p
  |_=>.no
abbrev UR:=Nat->Nat->Prop
def AU(U:UR):AP:=λo=>match o with
 |none=>True
 |some k=>∀i,¬ U i k
def RU(U:UR)(i:Nat):AP:=λo=>match o with
 |none=>False
 |some k=>U i k
structure SL (aa:aN) (env:Env) (h:Hs) (U:UR):Prop where
 len:aa.length=env.length
 sh:∀(i:Nat) (d:Val),aa[i]?=some (some (.sh,d))->∃v,env[i]?=some (some v)/\Dn (AU U) h d v
 un:∀(i:Nat) (d:Val),aa[i]?=some (some (.ow,d))->∃v,env[i]?=some (some v)/\Dn (RU U i) h d v
 nn:∀(i:Nat) (d:Val),aa[i]?≠some (some (.nw,d))
 ub:∀i k,U i k->k<h.length
 Ct:∀i j k,U i k->U j k->i=j
structure KU (h:Hs) (U:UR) (h':Hs) (U':UR):Prop where
 le:h.length<=h'.length
 keep:∀k,k<h.length->(∀i,¬ U i k)->h'[k]?=h[k]?/\∀i,¬ U' i k
def Cs(U:UR)(i:Nat):UR:=λj k=>j≠i/\U j k
def Jp(U:UR)(i n m:Nat):UR:=λj k=>if j=i then n<=k/\k<m else U j k
def gJ{α β:Type}(R:α -> Hs -> β -> Prop)(o:Out β):Pr α -> Prop
 |.ok a=>∃b h',o=.ok b h'/\R a h' b
 |_=>True
def RL(h:Hs)(U:UR):u9->Hs->Fl->Prop
 |.nx aB,h',.nx env'=>∃U',SL aB env' h' U'/\KU h U h' U'
 |.bk aB,h',.bk env'=>∃U',SL aB env' h' U'/\KU h U h' U'
 |.ct aB,h',.ct env'=>∃U',SL aB env' h' U'/\KU h U h' U'
 |.rt p,h',.rt v=>RV (λ_=>True) h p h' v/\∃U',KU h U h' U'
 |_,_,_=>False
section
variable {α β γ δ:Type} {h h1 h2:Hs} {U U1 U2:UR} {aa:aN} {env:Env}
theorem bY(r:gJ R (m h) p)(k:∀a h1 b,R a h1 b->gJ R' (f b h1) (F a)):gJ R' (bnd m f h) (pb p F):=by
 unfold bnd;cases p with
 |ok a=>obtain⟨b,h1,e,q⟩:=r;rw[e];exact k a h1 b q
 |exc c es=>trivial
 |no=>trivial
theorem Ao(r:Rel A h R o p):gJ (λa h' b=>h<+:h'/\R a h' b) o p:=by
 cases p with
 |ok a=>exact r
 |exc c es=>trivial
 |no=>trivial
theorem dB(r:R a h b):gJ R (ret b h) (.ok a):=⟨b,h,rfl,r⟩
theorem mO(r:∀a,o=some a->∃b,o'=some b/\R a h b):gJ R (bx o' h) (pl o):=by
 cases o with
 |none=>trivial
 |some a=>obtain⟨b,rfl,q⟩:=r a rfl;exact⟨b,h,rfl,q⟩
theorem mP{c:Bool}(r:c=true->gJ R o p):gJ R o (pg c p):=by
 unfold pg;cases c with
 |true=>rw[Zg rfl];exact r rfl
 |false=>rw[Zi Y9];trivial
theorem iQ(r:gJ R o p)(k:∀a h' b,R a h' b->R' a h' b):gJ R' o p:=by
 cases p with
 |ok a=>obtain⟨b,h',e,r⟩:=r;exact⟨b,h',e,k a h' b r⟩
 |exc c es=>trivial
 |no=>trivial
theorem KU.refl(s:SL aa env h U)(p:h<+:h1):KU h U h1 U:=⟨p.length_le,λk hk n=>⟨cR p hk,n⟩⟩
theorem KU.trans(a:KU h U h1 U1)(b:KU h1 U1 h2 U2):KU h U h2 U2 where
 le:=ZE a.le b.le
 keep k hk n:=by obtain⟨a1,a2⟩:=a.keep k hk n;obtain⟨b1,b2⟩:=b.keep k (Zn hk a.le) a2;exact⟨b1.trans a1,b2⟩
theorem RL.seq(a:KU h U h1 U1)(r:RL h1 U1 f h' g):RL h U f h' g:=by
 cases f<;>cases g<;>first|exact r.elim|(obtain⟨O',b,c⟩:=r;exact⟨O',b,a.trans c⟩)|(obtain⟨⟨b,c⟩,O',d⟩:=r;exact⟨⟨b,λz=>(c z).dI (Fr.le a.le)⟩,O',a.trans d⟩)
theorem SL.ext(s:SL aa env h U)(p:h<+:h1):SL aa env h1 U where
 len:=s.len
 sh i d e:=by obtain⟨v,k1,k2⟩:=s.sh i d e;exact⟨v,k1,k2.ext p⟩
 un i d e:=by obtain⟨v,k1,k2⟩:=s.un i d e;exact⟨v,k1,k2.ext p⟩
 nn:=s.nn
 ub i k e:=Zn (s.ub i k e) p.length_le
 Ct:=s.Ct
theorem SL.flat(s:SL aa env h U):ER (λ_=>True) (cC aa) env h:=λi f d q=>by
 unfold cC at q;rw[Zx]at q;cases e:aa[i]? with
 |none=>rw[e]at q;cases q
 |some o=>
  rw[e]at q;cases o with
  |none=>cases q
  |some fd=>
   obtain⟨g,d'⟩:=fd;cases g with
   |nw=>exact(s.nn i _ e).elim
   |ow=>cases q;rw[Zi (by decide)];obtain⟨v,k1,k2⟩:=s.un i _ e;exact⟨v,k1,k2.dI λ_ _=>trivial⟩
   |sh=>cases q;rw[Zi (by decide)];obtain⟨v,k1,k2⟩:=s.sh i _ e;exact⟨v,k1,k2.dI λ_ _=>trivial⟩
theorem SL.hide(s:SL aa env h U):ER (AU U) (oh aa) env h:=λi f d q=>by
 unfold oh at q;rw[Zx]at q;cases e:aa[i]? with
 |none=>rw[e]at q;cases q
 |some o=>
  rw[e]at q;cases o with
  |none=>cases q
  |some fd=>
   obtain⟨g,d'⟩:=fd;cases g with
   |ow=>cases q
   |nw=>cases q
   |sh=>cases q;rw[Zi (by decide)];exact s.sh i _ e
theorem SL.up(s:SL aa env h U):Up (AU U) h:=λk hk i z=>by have:=s.ub i k z;omega
theorem uN{i:Nat}:∀o,AU U o->AU (Cs U i) o
 |none,_=>trivial
 |some k,n=>λj z=>n j z.2
theorem SL.gen(s:SL aa env h U){i:Nat}(hl:env'.length=env.length)(he:∀j,j≠i->env'[j]?=env[j]?)
  (mA:∀(k:Nat) (b:Ob),AU U (some k)->h[k]?=some b->AU U' (some k)/\h'[k]?=some b) (mR:∀j,j≠i->∀(k:Nat) (b:Ob),U j k->h[k]?=some b->U' j k/\h'[k]?=some b)
  (ub:∀j k,U' j k->k<h'.length) (Ct:∀j l k,U' j k->U' l k->j=l)
  (at':∀m d,i<aa.length->o=some (m,d)->∃v,env'[i]?=some (some v)/\match m with
   |.sh=>Dn (AU U') h' d v
   |.ow=>Dn (RU U' i) h' d v
   |.nw=>False):SL (aa.set i o) env' h' U':=by
 have off:∀(j:Nat) (m:Mk) (d:Val),(aa.set i o)[j]?=some (some (m,d))->(j=i/\i<aa.length/\o=some (m,d))\/(j≠i/\aa[j]?=some (some (m,d))):=λj m d e=>by
  by_cases hij:i=j
  ·subst hij
   have hi:i<aa.length:=by have:=(Zb.mp e).1;simpa using this
   rw[Zl hi]at e;cases e;exact .inl ⟨rfl,hi,rfl⟩
  ·rw[Zd hij]at e;exact .inr ⟨λz=>hij z.symm,e⟩
 refine⟨by simp[s.len,hl],λj d e=>?_,λj d e=>?_,λj d e=>?_,ub,Ct⟩
 ·rcases off j _ _ e with ⟨rfl,a,b⟩|⟨n,e⟩
  ·exact at' _ _ a b
  ·obtain⟨w,k1,k2⟩:=s.sh j d e;exact⟨w,(he j n).trans k1,Dn.move (λ_=>trivial) mA _ _ k2⟩
 ·rcases off j _ _ e with ⟨rfl,a,b⟩|⟨n,e⟩
  ·exact at' _ _ a b
  ·obtain⟨w,k1,k2⟩:=s.un j d e;exact⟨w,(he j n).trans k1,Dn.move (A:=RU U j) (A':=RU U' j) (λz=>False.elim z) (λk b a g=>mR j n k b a g) _ _ k2⟩
 ·rcases off j _ _ e with ⟨rfl,a,b⟩|⟨n,e⟩
  ·obtain⟨_,_,z⟩:=at' _ _ a b;exact z
  ·exact s.nn j d e
theorem uO{i:Nat}:∀j,j≠i->(env.set i v)[j]?=env[j]?:=λj n=>Zd λz=>n z.symm
theorem SL.at_(s:SL aa env h U){i:Nat}(hi:i<aa.length):(env.set i (some v))[i]?=some (some v):=Zl (by rw[<-s.len];exact hi)
theorem SL.set(s:SL aa env h U){i:Nat}(q:Dn (AU U) h d v):SL (aa.set i (some (.sh,d))) (env.set i (some v)) h (Cs U i)/\KU h U h (Cs U i) :=
 ⟨s.gen (by simp) uO (λk b a g=>⟨uN _ a,g⟩) (λj n k b a g=>⟨⟨n,a⟩,g⟩) (λj k e=>s.ub j k e.2) (λj l k a b=>s.Ct j l k a.2 b.2) (λm d' hi e=>by cases e;exact⟨v,s.at_ hi,q.dI uN⟩),Zm _,λk hk n=>⟨rfl,λj z=>n j z.2⟩⟩
theorem SL.UD(s:SL aa env h U)(p:h<+:h1){i:Nat}(q:Dn (Fr h.length) h1 d v):SL (aa.set i (some (.ow,d))) (env.set i (some v)) h1 (Jp U i h.length h1.length)/\KU h U h1 (Jp U i h.length h1.length):=by
 have no:∀k j,k<h.length->¬ U j k->¬ Jp U i h.length h1.length j k:=λk j hk n z=>by
  unfold Jp at z;split at z
  ·omega
  ·exact n z
 refine⟨s.gen (by simp) uO (λk o a g=>⟨λj=>no k j (Zb.mp g).1 (a j),ck p g⟩) (λj n k b a g=>⟨?_,ck p g⟩) (λj k e=>?_) (λj l k e1 e2=>?_) (λm d' hi e=>?_),p.length_le,λk hk n=>⟨cR p hk,λj=>no k j hk (n j)⟩⟩
 ·unfold Jp;rw[Zi n];exact a
 ·unfold Jp at e
  split at e
  ·exact e.2
  ·exact Zn (s.ub j k e) p.length_le
 ·unfold Jp at e1 e2
  split at e1<;>split at e2
  ·rename_i a b;rw[a,b]
  ·have:=s.ub l k e2;omega
  ·have:=s.ub j k e1;omega
  ·exact s.Ct j l k e1 e2
 ·cases e;refine⟨v,s.at_ hi,Dn.move (A:=Fr h.length) (λz=>False.elim z) (λk o a g=>⟨?_,g⟩) _ _ q⟩;show Jp U i h.length h1.length i k;unfold Jp;rw[Zg rfl];exact⟨a,(Zb.mp g).1⟩
theorem SL.binds:∀{is:List Nat} {ds vs:List Val} {aa:aN} {env:Env} {U:UR} {aB:aN},SL aa env h U->bK is ds aa=some aB->ao (AU U) h ds vs ->
  ∃env' U',bindAll is vs env=some env'/\SL aB env' h U'/\KU h U h U'
 | [],[],vs,aa,env,U,aB,s,e,q=>by
  rw[ao]at q;subst q;simp only[bK]at e;cases e;exact⟨env,U,rfl,s,KU.refl s (Zu _)⟩
 | i::is,d::ds,vs,aa,env,U,aB,s,e,q=>by
  rw[ao]at q;obtain⟨v,r,rfl,q1,q2⟩:=q;simp only[bK]at e;obtain⟨s1,f1⟩:=s.set (i:=i) q1;obtain⟨env',U',b1,b2,b3⟩:=SL.binds s1 e (q2.dI uN);exact⟨env',U',by simp only[bindAll];exact b1,b2,f1.trans b3⟩
 |[],_::_,_,_,_,_,_,_,e,_=>by simp[bK]at e
 |_::_,[],_,_,_,_,_,_,e,_=>by simp[bK]at e
theorem SL.bind(s:SL aa env h U)(e:bH p d aa=some aB)(q:Dn (AU U) h d v):∃env' U',fJ p v env=some env'/\SL aB env' h U'/\KU h U h U':=by
 cases p with
 |one i=>simp only[bH]at e;cases e;obtain⟨s1,f1⟩:=s.set (i:=i) q;exact⟨_,_,rfl,s1,f1⟩
 |tup is=>
  cases d<;>simp only[bH]at e<;>first|(cases e;done)|skip
  rw[Dn]at q;obtain⟨vs,rfl,q⟩:=q;exact s.binds e q
theorem SL.Rt(s:SL aa env h U){i b:Nat}(hb:U i b) (at':∀m d,i<aa.length->x=some (m,d)->∃v,env[i]?=some (some v)/\match m with
   |.sh=>Dn (AU U) (h.set b o) d v
   |.ow=>Dn (RU U i) (h.set b o) d v
   |.nw=>False):SL (aa.set i x) env (h.set b o) U/\KU h U (h.set b o) U :=
 ⟨s.gen rfl (λ_ _=>rfl) (λk b' a g=>⟨a,by rw[Zd λz=>a i (by rw[<-z];exact hb)];exact g⟩) (λj n k b' a g=>⟨a,by rw[Zd λz=>n (s.Ct j i k a (by rw[<-z];exact hb))];exact g⟩)
  (λj k e=>by rw[length_set];exact s.ub j k e) s.Ct at',by simp,λk hk n=>⟨by rw[Zd λz=>n i (by rw[<-z];exact hb)],n⟩⟩
theorem SL.UE(s:SL aa env h U){i b:Nat}(hb:U i b):SL (aa.set i none) env (h.set b o) U/\KU h U (h.set b o) U:=s.Rt hb λ_ _ _ e=>nomatch e
theorem SL.Et(s:SL aa env h U){i b:Nat}(hb:U i b):SL (aa.set i none) env (h.set b o) U/\KU h U (h.set b o) U:=s.UE hb
theorem SL.regrow(s:SL aa env h U){i b:Nat}{mk:Mk}{d dn w:Val}{o:Ob}(e:aa[i]?=some (some (mk,d)))(ee:env[i]?=some (some w))(hb:U i b)(nw:Dn (RU U i) (h.set b o) dn w) :
  SL (aa.set i (some (.ow,dn))) env (h.set b o) U/\KU h U (h.set b o) U:=s.Rt hb λ_ _ _ e=>by cases e;exact⟨w,ee,nw⟩
theorem SL.grow(s:SL aa env h U){i b:Nat}(e:aa[i]?=some (some (.ow,d)))(ee:env[i]?=some (some (.ref b)))(hb:U i b)(hi:bC ds=true)(hv:vs=ds) :
  SL (aa.set i (some (.ow,.rl ds))) env (h.set b (.lst vs)) U/\KU h U (h.set b (.lst vs)) U :=
 s.regrow e ee hb (by rw[Dn];exact .inr ⟨b,vs,rfl,hb,by rw[Zl (s.ub i b hb)],(bu _ _ hi).mpr hv⟩)
end
section
variable {Φ:Nat->List Val->M Val} {Ψ:Nat->List Val->Pr FV} {sp:Sp} {aa:aN} {env:Env} {h:Hs} {U:UR}
theorem Aq(V:bT Φ Ψ e)(s:SL aa env h U):gJ (λx h' v=>h<+:h'/\Dn (AU U) h' x.2 v) (aP Φ e env h) (Ou Ψ e aa):=by
 have r1:=V (oh aa) env (AU U) h s.up s.hide;have r2:=V (cC aa) env (λ_=>True) h (λ_ _=>trivial) s.flat
 have go:gJ (λx h' v=>h<+:h'/\Dn (AU U) h' x.2 v) (aP Φ e env h) (pb (aS Ψ e (cC aa)) λx=>pg x.1 (.ok x)):=by
  cases e2:aS Ψ e (cC aa) with
  |ok x=>
   rw[e2]at r2;obtain⟨v,h',ev,p,q⟩:=r2;show gJ _ _ (pg x.1 (.ok x));refine mP λhx=>⟨v,h',ev,p,(q.2 hx).dI λo z=>?_⟩;cases o with
   |none=>exact False.elim z
   |some k=>exact s.up k z
  |exc c es=>trivial
  |no=>trivial
 unfold Ou;cases e1:aS Ψ e (oh aa) with
 |ok x=>rw[e1]at r1;obtain⟨v,h',ev,p,q⟩:=r1;exact⟨v,h',ev,p,q.1⟩
 |exc c es=>exact go
 |no=>exact go
theorem j8(V:bT Φ Ψ e)(s:SL aa env h U):gJ (λx h' v=>h<+:h'/\RV (λ_=>True) h x h' v) (aP Φ e env h) (aS Ψ e (cC aa)):=Ao (V (cC aa) env (λ_=>True) h (λ_ _=>trivial) s.flat)
def Eu(Φ:Nat->List Val->M Val)(Ψ:Nat->List Val->Pr FV)(sp:Sp)(s:IS):Prop:=∀(aa:aN) (env:Env) (h:Hs) (U:UR),SL aa env h U->gJ (RL h U) (e7 Φ s env h) (b7 Ψ sp s aa)
def wU(Φ:Nat->List Val->M Val)(Ψ:Nat->List Val->Pr FV)(sp:Sp)(s:b8):Prop:=∀(aa:aN) (env:Env) (h:Hs) (U:UR),SL aa env h U->gJ (RL h U) (ff Φ s env h) (bX Ψ sp s aa)
theorem uP{b:Nat}{h1:Hs}(g:h1[b]?=some (.lst vs))(hl:decide (vs.length<sizeLine)=true):bnd (met .append (.ref b) [v]) (λ_=>ret (Fl.nx env)) h1=.ok (.nx env) (h1.set b (.lst (vs++[v]))):=by
 simp only[met];unfold bnd ask bx aQ put ret;dsimp only;rw[g];dsimp only;rw[Zg hl]
theorem Ew{i:Nat}(ha:bT Φ Ψ a):Eu Φ Ψ sp (.expr (.met .append (.var i) #[a])):=λaa env h U s=>by
 rw[e7,b7];try dsimp only
 change gJ (RL h U) _ (Es Ψ (.app i a) aa);unfold Es;try dsimp only
 split
 ·rename_i ds hv
  obtain⟨w,e2,q⟩:=s.un i _ hv;rw[Dn]at q
  rcases q with ⟨_,_,n,_⟩|⟨b,vs,rfl,hb,e4,e5⟩
  ·exact False.elim n
  have ev:bnd (aP Φ (.met .append (.var i) #[a]) env) (λ_=>ret (Fl.nx env)) h=bnd (aP Φ a env) (λv=>bnd (met .append (.ref b) [v]) λ_=>ret (Fl.nx env)) h:=by
   rw[aP,av,aK (cJ e2)];rw[av,aK (a:=()) (h1:=h) (by unfold ask bx;simp[recv,e4])];rw[av,bG,av]
   congr 1
  rw[ev];refine bY (j8 ha s) λx h1 v ⟨p1,q1⟩=>mP λhg=>?_;have s1:=s.ext p1;have l:=e5.length;have run:=uP (env:=env) (v:=v) (ck p1 e4) (by rw[<-l];exact hg)
  by_cases hi:bC (ds++[x.2])=true
  ·rw[Zg hi];have eq:vs++[v]=ds++[x.2]:=(bu (A:=λ_=>True) (h:=h1) _ _ hi).mp (((e5.dI λ_ _=>trivial).ext p1).append (ao.cons q1.1 ao.nil));obtain⟨s2,f2⟩:=s1.grow hv e2 hb hi eq;exact⟨_,_,run,U,s2,(KU.refl s p1).trans f2⟩
  ·rw[Zi hi];obtain⟨s2,f2⟩:=s1.Et (o:=.lst (vs++[v])) hb;exact⟨_,_,run,_,s2,(KU.refl s p1).trans f2⟩
 ·trivial
theorem B0{i:Nat}{j:Int}(ha:bT Φ Ψ a):Eu Φ Ψ sp (.expr (.met .append (.idx (.var i) (.cst (.int j))) #[a])):=λaa env h U s=>by
 rw[e7,b7];try dsimp only
 change gJ (RL h U) _ (Es Ψ (.apI i j a) aa);unfold Es;try dsimp only
 split
 ·rename_i ds hv
  split
  ·rename_i es hj
   obtain⟨w,e2,q⟩:=s.un i _ hv;rw[Dn]at q;obtain⟨ws,rfl,q⟩:=q;obtain⟨u,hu,q⟩:=q.ji hj;rw[Dn]at q
   rcases q with ⟨_,_,n,_⟩|⟨b,vs,rfl,hb,e4,e5⟩
   ·exact False.elim n
   have er:aP Φ (.idx (.var i) (.cst (.int j))) env h=.ok (.ref b) h:=by rw[aP,aK (cJ e2),aP];unfold bnd ask bx ret;dsimp only;rw[show jm h (.tup ws) (.int j)=some (.ref b) from hu]
   have ev:bnd (aP Φ (.met .append (.idx (.var i) (.cst (.int j))) #[a]) env) (λ_=>ret (Fl.nx env)) h=bnd (aP Φ a env) (λv=>bnd (met .append (.ref b) [v]) λ_=>ret (Fl.nx env)) h:=by
    rw[aP,av,aK er];rw[av,aK (a:=()) (h1:=h) (by unfold ask bx;simp[recv,e4])];rw[av,bG,av]
    congr 1
   rw[ev];refine bY (j8 ha s) λx h1 v ⟨p1,q1⟩=>mP λhg=>?_;have s1:=s.ext p1;have l:=e5.length;have run:=uP (env:=env) (v:=v) (ck p1 e4) (by rw[<-l];exact hg);obtain⟨s2,f2⟩:=s1.Et (o:=.lst (vs++[v])) hb;exact⟨_,_,run,_,s2,(KU.refl s p1).trans f2⟩
  ·trivial
 ·trivial
theorem Jq{i:Nat}{j:Int}:Eu Φ Ψ sp (.expr (.svals (.idx (.var i) (.cst (.int j))))):=λaa env h U s=>by
 rw[e7,b7];try dsimp only
 change gJ (RL h U) _ (Es Ψ (.Cs i j) aa);unfold Es;try dsimp only
 split
 ·rename_i ds hv
  split
  ·rename_i es hj
   obtain⟨w,e2,q⟩:=s.un i _ hv;rw[Dn]at q;obtain⟨ws,rfl,q⟩:=q;obtain⟨u,hu,q⟩:=q.ji hj;rw[Dn]at q
   rcases q with ⟨_,_,n,_⟩|⟨b,vs,rfl,hb,e4,e5⟩
   ·exact False.elim n
   have er:aP Φ (.idx (.var i) (.cst (.int j))) env h=.ok (.ref b) h:=by rw[aP,aK (cJ e2),aP];unfold bnd ask bx ret;dsimp only;rw[show jm h (.tup ws) (.int j)=some (.ref b) from hu]
   obtain⟨s2,f2⟩:=s.Et (o:=.lst []) hb;refine⟨.nx env,_,?_,_,s2,f2⟩;rw[aP,av,aK er];unfold PK bnd ask bx put ret;dsimp only;rw[e4]
  ·trivial
 ·trivial
def RO(R:Nat->Prop):AP:=λo=>match o with
 |none=>False
 |some k=>R k
def wV(φ:List Val->M Val)(θ:List Val->Pr FV):Prop:=∀(R:Nat->Prop) (h:Hs) (o a:Val) (ds:List Val) (f:Bool) (o' r:Val),(∀k,R k->k<h.length)->Dn (RO R) h o a->bC ds=true -> θ (o::ds)=.ok (f,.tup [o',r]) ->
 ∃(v:Val) (n1:Nat) (h':Hs),φ (a::ds) h=.ok v h'/\h.length<=n1/\n1<=h'.length/\(∀k,k<h.length->¬ R k->h'[k]?=h[k]?)/\Dn (RO λk=>R k\/(h.length<=k/\k<n1)) h' o' a/\Dn (Fr n1) h' r v
theorem tu:wV φ (λ_=>.no):=λ_ _ _ _ _ _ _ _ _ _ _ e=>nomatch e
theorem Ru{t:Nat}(hy:Jo e=some y)(V:jG Φ Ψ y.2.2.2)(hΘ:∀j,wV (Φ j) (sp.mu j))(s:SL aa env h U):gJ (RL h U) (bnd (aP Φ e env) (λv=>bnd (bx (fJ (.one t) v env)) λenv'=>ret (Fl.nx env')) h) (Sv Ψ sp t y aa):=by
 have ee:e=.mth (.var y.1) y.2.1 y.2.2.1 y.2.2.2:=by
  unfold Jo at hy;split at hy
  ·split at hy
   ·cases hy;rfl
   ·cases hy
  ·cases hy
 obtain⟨i,m,js,es⟩:=y;subst ee;unfold Sv;dsimp only
 split
 ·rename_i o hv
  obtain⟨a,e2,q⟩:=s.un i _ hv;rw[aP,av,aK (cJ e2),av];refine bY (R:=λj h' j'=>h'=h/\j'=j) (m:=ask λh=>lF h a m js) (mO λj ej=>⟨j,D6 (.inl q) ej,rfl,rfl⟩) λj h0 j' aO=>?_;obtain⟨rfl,rfl⟩:=aO;rw[av];refine bY (Ao (V.1 (cC aa) env (λ_=>True) h0 (λ_ _=>trivial) s.flat)) λp h1 vs aO=>mP λhg=>?_;obtain⟨p1,q1⟩:=aO;have hg:=cX hg;have hti:t≠i:=Zv hg.2;have Xo:vs=p.2:=(bu _ _ hg.1).mp q1.1;subst Xo
  split
  ·rename_i f o' r et
   have s1:=s.ext p1;obtain⟨v,n1,h',ev,l1,l2,kp,d1,d2⟩:=hΘ j' (U i) h1 o a p.2 f o' r (s1.ub i) (Dn.dI (λz hz=>by cases z<;>exact hz) (q.ext p1)) hg.1 et;rw[aK ev]
   let U1:UR:=λj k=>if j=t then sp.ids.contains t=true/\n1<=k/\k<h'.length else if j=i then U i k\/(h1.length<=k/\k<n1) else U j k
   have u1t:∀k,U1 t k↔(sp.ids.contains t=true/\n1<=k/\k<h'.length):=λk=>by show (if t=t then _ else _)↔_;rw[Zg rfl]
   have u1i:∀k,U1 i k↔(U i k\/(h1.length<=k/\k<n1)):=λk=>by show (if i=t then _ else _)↔_;rw[Zi (Ne.symm hti),Zg rfl]
   have u1j:∀j k,j≠t->j≠i->(U1 j k↔U j k):=λj k a b=>by show (if j=t then _ else _)↔_;rw[Zi a,Zi b]
   have lo:∀j k,j≠t->U1 j k->k<n1:=λj k a b=>by
    by_cases c:j=i
    ·subst c
     rcases(u1i k).mp b with z|z
     ·exact Zn (s1.ub _ _ z) l1
     ·exact z.2
    ·exact Zn (s1.ub _ _ ((u1j j k a c).mp b)) l1
   have un:∀k,k<h1.length->∀j,j≠t->U1 j k->U j k:=λk hk j a b=>by
    by_cases c:j=i
    ·subst c
     rcases(u1i k).mp b with z|z
     ·exact z
     ·omega
    ·exact(u1j j k a c).mp b
   have sA:SL (aa.set t none) env h1 (Cs U t):=s1.gen rfl (λ_ _=>rfl) (λk b a g=>⟨uN _ a,g⟩) (λj n k b a g=>⟨⟨n,a⟩,g⟩) (λj k e=>s1.ub j k e.2) (λj l k a b=>s1.Ct j l k a.2 b.2) λ_ _ _ e=>nomatch e
   have key:∀j k,j≠t->U1 j k->U j k\/(j=i/\h1.length<=k):=λj k a b=>by
    by_cases hk:k<h1.length
    ·exact .inl (un k hk j a b)
    ·by_cases c:j=i
     ·exact .inr ⟨c,by omega⟩
     ·exact .inl ((u1j j k a c).mp b)
   have sB:SL ((aa.set t none).set i (some (.ow,o'))) env h' U1:=by
    refine sA.gen rfl (λ_ _=>rfl) (λk b z g=>?_) (λj n k b z g=>?_) (λj k e=>?_) (λj l k x y=>?_) (λm d _ e=>?_)
    ·have hk:=(Zb.mp g).1
     refine⟨λj w=>?_,(kp k hk λw=>z i ⟨Ne.symm hti,w⟩).trans g⟩
     by_cases c:j=t
     ·subst c;have:=(u1t k).mp w;omega
     ·exact z j ⟨c,un k hk j c w⟩
    ·have hk:=(Zb.mp g).1;exact⟨(u1j j k z.1 n).mpr z.2,(kp k hk λw=>n (s1.Ct j i k z.2 w)).trans g⟩
    ·by_cases c:j=t
     ·subst c;exact((u1t k).mp e).2.2
     ·exact Zn (lo j k c e) l2
    ·by_cases c:j=t
     ·by_cases c':l=t
      ·rw[c,c']
      ·subst c;have:=((u1t k).mp x).2.1;have:=lo l k c' y;omega
     ·by_cases c':l=t
      ·subst c';have:=((u1t k).mp y).2.1;have:=lo j k c x;omega
      ·rcases key j k c x with x|⟨x,x'⟩<;>rcases key l k c' y with y|⟨y,y'⟩
       ·exact s1.Ct j l k x y
       ·have:=s1.ub j k x;omega
       ·have:=s1.ub l k y;omega
       ·rw[x,y]
    ·cases e
     exact⟨a,e2,d1.dI λz hz=>by
      cases z with
      |none=>exact hz
      |some k=>exact(u1i k).mpr hz⟩
   have sC:SL (((aa.set t none).set i (some (.ow,o'))).set t (some (if sp.ids.contains t=true then .ow else .sh,r))) (env.set t (some v)) h' U1:=by
    refine sB.gen (by simp) uO (λ_ _ z g=>⟨z,g⟩) (λ_ _ _ _ z g=>⟨z,g⟩) sB.ub sB.Ct λm d hlt e=>?_;refine⟨v,sB.at_ hlt,?_⟩;cases e
    by_cases c:sp.ids.contains t=true
    ·rw[Zg c];refine Dn.move (A:=Fr n1) (λz=>False.elim z) (λk o z g=>⟨?_,g⟩) _ _ d2;exact(u1t k).mpr ⟨c,z,(Zb.mp g).1⟩
    ·rw[Zi c]
     refine d2.dI λz hz=>?_;cases z with
     |none=>exact trivial
     |some k=>
      intro j w
      by_cases cj:j=t
      ·subst cj;exact c ((u1t k).mp w).1
      ·have:=lo j k cj w;have:n1<=k:=hz;omega
   refine⟨_,_,rfl,U1,sC,(KU.refl s p1).trans ⟨ZE l1 l2,λk hk n=>⟨kp k hk (n i),λj w=>?_⟩⟩⟩
   by_cases c:j=t
   ·subst c;have:=(u1t k).mp w;omega
   ·exact n j (un k hk j c w)
  ·trivial
 ·trivial
theorem Rv(V:bT Φ Ψ e)(V2:∀y,Jo e=some y->jG Φ Ψ y.2.2.2)(hΘ:∀j,wV (Φ j) (sp.mu j)):Eu Φ Ψ sp (.asg p e):=λaa env h U s=>by
 cases p with
 |one i=>
  rw[e7,b7];try dsimp only
  split
  ·rename_i y hy;exact Ru hy (V2 _ hy) hΘ s
  ·split
   ·refine bY (j8 V s) λx h1 v ⟨p1,q1⟩=>mP λhx=>?_;obtain⟨s2,f2⟩:=s.UD p1 (i:=i) (q1.2 hx);exact⟨_,_,rfl,_,s2,f2⟩
   ·refine bY (Aq V s) λx h1 v aO=>?_;obtain⟨p1,q1⟩:=aO;obtain⟨s2,f2⟩:=(s.ext p1).set (i:=i) q1;exact⟨_,_,rfl,_,s2,(KU.refl s p1).trans f2⟩
 |tup is=>rw[b7];trivial
theorem Rw(V:bT Φ Ψ c)(ha:wU Φ Ψ sp a)(hb:wU Φ Ψ sp b):Eu Φ Ψ sp (.iff c a b):=λaa env h U s=>by
 rw[e7,b7];refine bY (j8 V s) λx h1 v aO=>?_;obtain⟨p1,q1⟩:=aO;refine bY (R:=λt h' t'=>h'=h1/\t'=t) (mO λt ht=>⟨t,uE (.inl q1.1) ht,rfl,rfl⟩) λt h2 t' aO=>?_;obtain⟨e1,e2⟩:=aO;subst e1;subst e2;have s1:=s.ext p1;cases t' with
 |true=>rw[Zg rfl,Zg rfl];exact iQ (ha aa env _ U s1) λf h' g r=>r.seq (KU.refl s p1)
 |false=>rw[Zi Y9,Zi Y9];exact iQ (hb aa env _ U s1) λf h' g r=>r.seq (KU.refl s p1)
theorem Rx(V:bT Φ Ψ e):Eu Φ Ψ sp (.ret e):=λaa env h U s=>by
 rw[e7,b7];exact bY (j8 V s) λx h1 v ⟨p1,q1⟩=>dB ⟨q1,U,KU.refl s p1⟩
def UG(h:Hs)(U:UR)(src:Src)(ws:List Val):Prop:=∀h':Hs,(∀k,k<h.length->(∀i,¬ U i k)->h'[k]?=h[k]?)->src.items h'=some ws
theorem Ry(q:Dn (AU U) h d v)(e:gg k [d]=some xs):∃src ws,srcOf k [v]=some src/\ao (AU U) h xs ws/\src.items h=some ws/\UG h U src ws:=by
 have lst:∀es,d=.rl es->(∃ws,v=.rl ws/\ao (AU U) h es ws)\/∃a ws,v=.ref a/\h[a]?=some (.lst ws)/\ao (AU U) h es ws/\∀h':Hs,(∀k,k<h.length->(∀i,¬ U i k)->h'[k]?=h[k]?)->h'[a]?=some (Ob.lst ws):=by
  rintro es rfl;rw[Dn]at q
  rcases q with ⟨ws,rfl,_,q⟩|⟨a,ws,rfl,al,g,q⟩
  ·exact .inl ⟨ws,rfl,q⟩
  ·exact .inr ⟨a,ws,rfl,g,q,λh' hk=>(hk a (Zb.mp g).1 al).trans g⟩
 cases k with
 |seq=>
  cases d<;>simp only[gg]at e<;>first|(cases e;done)|skip
  ·cases e;rw[Dn]at q;obtain⟨ws,rfl,q⟩:=q;exact⟨.fix ws,ws,rfl,q,rfl,λ_ _=>rfl⟩
  ·cases e
   rcases lst _ rfl with ⟨ws,rfl,q'⟩|⟨a,ws,rfl,g,q',st⟩
   ·exact⟨.fix ws,ws,rfl,q',rfl,λ_ _=>rfl⟩
   ·exact⟨.live a,ws,rfl,q',fu g,λh' hk=>fu (st h' hk)⟩
 |range=>
  cases d<;>simp only[gg]at e<;>first|(cases e;done)|skip
  rw[Dn]at q;subst q;split at e
  ·rename_i hn;cases e;exact⟨.fix _,_,by simp only[srcOf];rw[Zg hn],iM,rfl,λ_ _=>rfl⟩
  ·cases e
 |enum=>
  cases d<;>simp only[gg]at e<;>first|(cases e;done)|skip
  cases e
  rcases lst _ rfl with ⟨ws,rfl,q'⟩|⟨a,ws,rfl,g,q',st⟩
  ·exact⟨.fix _,_,rfl,fN 0 q',rfl,λ_ _=>rfl⟩
  ·exact⟨.enum a,_,rfl,fN 0 q',fy g,λh' hk=>fy (st h' hk)⟩
 |zip=>cases e
theorem wW(hb:∀aa env h U x v,SL aa env h U->Dn (AU U) h x v->gJ (RL h U) (body v env h) (bodyV x aa))
  {h1:Hs} {U1:UR} (st:UG h1 U1 src ws) :
  ∀(xs vs:List Val) (i:Nat) (aa:aN) (env:Env) (h:Hs) (U:UR),SL aa env h U->KU h1 U1 h U->ws.drop i=vs->ao (AU U) h xs vs ->
   gJ (RL h1 U1) (forM src body vs.length i env h) (fq bodyV xs aa)
 | [],vs,i,aa,env,h,U,s,f,hd,q=>by
  rw[ao]at q;subst q;have hl:ws.length<=i:=List.drop_eq_nil_iff.mp hd;have hi:=st h (λk hk n=>(f.keep k hk n).1);rw[fq];refine⟨.nx env,h,?_,U,s,f⟩;show forM src body 0 i env h=_;simp only[forM];unfold bnd ask bx aQ;dsimp only;rw[hi];dsimp only;rw[Zg (decide_eq_true hl)];try rfl
 | x::xs,vs,i,aa,env,h,U,s,f,hd,q=>by
  rw[ao]at q;obtain⟨v,r,rfl,q1,q2⟩:=q;have hv:ws[i]?=some v:=by have:=ZN (λl=>l[0]?) hd;simpa using this
  have hr:ws.drop (i+1)=r:=by
   have:ws.drop (i+1)=(ws.drop i).drop 1:=by rw[drop_drop]
   rw[this,hd];rfl
  have hi:=st h (λk hk n=>(f.keep k hk n).1);have ev:forM src body (v::r).length i env h=bnd (body v env) (λf=>match f with
   |.nx env'=>forM src body r.length (i+1) env'
   |.ct env'=>forM src body r.length (i+1) env'
   |.bk env'=>ret (.nx env')
   |.rt v=>ret (.rt v)) h:=by
   show forM src body (r.length+1) i env h=_;simp only[forM];unfold bnd ask bx;dsimp only;rw[hi];dsimp only;rw[hv];try rfl
  rw[ev,fq];refine bY (hb aa env h U x v s q1) λfl h2 gl hr2=>?_;have go:∀aB env' U',SL aB env' h2 U'->KU h U h2 U'->gJ (RL h1 U1) (forM src body r.length (i+1) env' h2) (fq bodyV xs aB):=λaB env' U' s' f'=>by
   refine wW hb st xs r (i+1) aB env' h2 U' s' (f.trans f') hr (ao.move (A:=AU U) (λ_=>trivial) (λk o hk g=>?_) _ _ q2);have hlt:k<h.length:=(Zb.mp g).1;obtain⟨a1,a2⟩:=f'.keep k hlt hk;exact⟨a2,a1.trans g⟩
  cases fl<;>cases gl<;>first|exact hr2.elim|skip
  ·obtain⟨U',s',f'⟩:=hr2;exact go _ _ U' s' f'
  ·exact dB (RL.seq (f:=.rt _) (g:=.rt _) f hr2)
  ·obtain⟨U',s',f'⟩:=hr2;exact dB ⟨U',s',f.trans f'⟩
  ·obtain⟨U',s',f'⟩:=hr2;exact go _ _ U' s' f'
theorem Rz(V:bT Φ Ψ e)(hb:wU Φ Ψ sp body):Eu Φ Ψ sp (.for p k #[e] body):=λaa env h U s=>by
 rw[b7];try dsimp only
 rw[e7];have ev:∀(F:List Val->M Fl),bnd (bG Φ #[e] env) F h=bnd (aP Φ e env) (λv=>F [v]) h:=λF=>by
  rw[bG,bG,av];rfl
 rw[ev];refine bY (Aq V s) λx h1 v aO=>?_;obtain⟨p1,q1⟩:=aO;have s1:=s.ext p1;refine bY (R:=λxs h' src=>h'=h1/\∃ws,ao (AU U) h1 xs ws/\src.items h1=some ws/\UG h1 U src ws) (mO λxs ex=>?_) λxs h2 src ⟨e2,ws,q2,q3,st⟩=>?_
 ·obtain⟨src,ws,a1,a2,a3,a4⟩:=Ry q1 ex;exact⟨src,a1,rfl,ws,a2,a3,a4⟩
 ·subst e2
  have Uo:∀(F:List Val->M Fl),bnd (ask λh=>src.items h) F h2=F ws h2:=λF=>by unfold bnd ask bx;dsimp only;rw[q3]
  rw[Uo];refine iQ (wW (λaB env' h' U' x v s' qx=>?_) st xs ws 0 aa env h2 U s1 (KU.refl s1 (Zu _)) rfl q2) λf h' g r=>r.seq (KU.refl s p1);refine bY (R:=λiN h2 iF=>∃U2,SL iN iF h2 U2/\KU h' U' h2 U2) (mO λiN e2=>?_) λiN h2 iF hh=>?_
  ·obtain⟨iF,U2,b1,b2,b3⟩:=s'.bind e2 qx;exact⟨iF,b1,U2,b2,b3⟩
  ·obtain⟨U2,b2,b3⟩:=hh;exact iQ (hb iN iF h2 U2 b2) λf h'' g r=>r.seq b3
theorem RA:wU Φ Ψ sp .nil:=λaa env h U s=>by rw[ff,bX];exact dB ⟨U,s,KU.refl s (Zu _)⟩
theorem Nz(ha:Eu Φ Ψ sp a)(hr:wU Φ Ψ sp r):wU Φ Ψ sp (.cons a r):=λaa env h U s=>by
 rw[ff,bX];refine bY (ha aa env h U s) λf h1 g q=>?_;cases f<;>cases g<;>first|exact q.elim|skip
 ·obtain⟨U1,s1,f1⟩:=q;exact iQ (hr _ _ h1 U1 s1) λf h' g r=>r.seq f1
 ·exact dB q
 ·exact dB q
 ·exact dB q
theorem uQ(e:∀aa,b7 Ψ sp s aa=.no):Eu Φ Ψ sp s:=λaa env h U _=>by rw[e];trivial
theorem NB(V:∀e,dj e=true->bT Φ Ψ e)(ho:dj e=true):Eu Φ Ψ sp (.expr e):=by
 cases hk:Ov e with
 |none=>exact uQ λaa=>by rw[b7,hk]
 |some k=>
  cases Rq hk;cases k with
  |app i a=>exact Ew (V a (cX (cX ho).2).1)
  |apI i j a=>exact B0 (V a (cX (cX ho).2).1)
  |Cs i j=>exact Jq
theorem Kh(hΦ:∀j,Imp (Φ j) (Ψ j))(hΘ:∀j,wV (Φ j) (sp.mu j)):∀ss,oR ss=true->wU Φ Ψ sp ss:=by
 have V:=(v_all hΦ).1;intro ss;refine b8.rec (motive_1:=λs=>Um s=true->Eu Φ Ψ sp s) (motive_2:=λss=>oR ss=true->wU Φ Ψ sp ss) ?_ ?_ ?_ ?_ ?_ ?_ ?_ ?_ ?_ ?_ ?_ ?_ ?_ ?_ ?_ ?_ ss
 ·intro e f;exact NB V f
 ·intro p e f;exact Rv (V e f) (λy hy=>by
   unfold Jo at hy;split at hy
   ·split at hy
    ·rename_i i m js es hm;cases hy;have f:(dj (.var i)&&lN es)=true:=f;exact(v_all hΦ).2 _ (cX f).2
    ·cases hy
   ·cases hy) hΘ
 ·intro i o e f;exact uQ λaa=>by rw[b7]
 ·intro o i v f;exact uQ λaa=>by rw[b7]
 ·intro c a b ha hb f;have f:=oQ f;exact Rw (V c f.1.1) (ha f.1.2) (hb f.2)
 ·intro p k it b hb f
  have f:=cX f;cases it with
  |nil=>exact uQ λaa=>by rw[b7.eq_def]<;>rfl
  |cons e es=>
   cases es with
   |nil=>exact Rz (V e (cX f.1).1) (hb f.2)
   |cons _ _=>exact uQ λaa=>by rw[b7];intro _ z;cases z
 ·intro n c b _ f;exact uQ λaa=>by rw[b7]
 ·intro e f;exact Rx (V e f)
 ·intro _;exact uQ λaa=>by rw[b7]
 ·intro _ aa env h U s;rw[e7,b7];exact dB ⟨U,s,KU.refl s (Zu _)⟩
 ·intro _ aa env h U s;rw[e7,b7];exact dB ⟨U,s,KU.refl s (Zu _)⟩
 ·intro _ aa env h U s;rw[e7,b7];exact dB ⟨U,s,KU.refl s (Zu _)⟩
 ·intro _;exact uQ λaa=>by rw[b7]
 ·intro _ _ _ _ _;exact uQ λaa=>by rw[b7]
 ·intro _;exact RA
 ·intro a r ha hr f;have f:=cX f;exact Nz (ha f.1) (hr f.2)
theorem ao.at:∀{ds vs:List Val} {i:Nat} {d:Val},ao A h ds vs->ds[i]?=some d->∃v,vs[i]?=some v/\Dn A h d v
 |[],vs,i,d,q,e=>by cases e
 | d::ds,vs,0,d',q,e=>by
  rw[ao]at q;obtain⟨v,r,rfl,q1,q2⟩:=q;cases e;exact⟨v,rfl,q1⟩
 | d::ds,vs,i+1,d',q,e=>by
  rw[ao]at q;obtain⟨v,r,rfl,q1,q2⟩:=q;exact ao.at (i:=i) q2 e
theorem Kl{n:Nat}(q:ao A h ds vs):SL (ds.map (λd=>some (.sh,d))++replicate (n-ds.length) none) (vs.map some++replicate (n-vs.length) none) h (λ_ _=>False):=by
 have l:=q.length;have here:∀(i:Nat) (m:Mk) (d:Val),(ds.map (λd=>some (Mk.sh,d))++replicate (n-ds.length) none)[i]?=some (some (m,d))->m=.sh/\ds[i]?=some d:=λi m d e=>by
  by_cases hi:i<ds.length
  ·rw[Zp (by simpa using hi),Zx,ZG hi]at e;cases e;exact⟨rfl,ZG hi⟩
  ·rw[ZD (by simpa using hi)]at e;cases (mem_replicate.mp (Zz e)).2
 refine⟨by simp[l],λi d e=>?_,λi d e=>?_,λi d e=>?_,λ_ _ z=>z.elim,λ_ _ _ z=>z.elim⟩
 ·obtain⟨_,e⟩:=here i _ d e;obtain⟨v,e2,q2⟩:=q.at e;refine⟨v,?_,q2.dI λo _=>by cases o<;>first|trivial|exact λ_ z=>z⟩;have hi:=(Zb.mp e2).1;rw[Zp (by simpa using hi),Zx,e2];rfl
 ·cases (here i _ d e).1
 ·cases (here i _ d e).1
theorem B3{n:Nat}(hΦ:∀j,Imp (Φ j) (Ψ j))(hΘ:∀j,wV (Φ j) (Θ j))(ho:oR body=true){ns:List Int}{f:Bool}(e:yZ Ψ Θ n body [.rl (ns.map .int)]=.ok (f,.bl true)):∃h',fh Φ n body [.rl (ns.map .int)] []=.ok (.bl true) h':=by
 have s:SL ([(Val.rl (ns.map .int))].map (λd=>some (.sh,d))++replicate (n-1) none) ([(Val.rl (ns.map .int))].map some++replicate (n-1) none) [] (λ_ _=>False):=Kl (A:=λ_=>True) (h:=[]) (n:=n) (ds:=[.rl (ns.map .int)]) (vs:=[.rl (ns.map .int)]) (ao.cons (by rw[Dn];exact .inl ⟨_,rfl,trivial,(bu _ _ (cy ns)).mpr rfl⟩) ao.nil);have r:=Kh (sp:=⟨jC body,Θ⟩) hΦ hΘ body ho _ _ [] _ s;unfold yZ at e;show ∃h',bnd (ff Φ body ([(Val.rl (ns.map .int))].map some++replicate (n-1) none)) _ []=_;change pb (bX Ψ ⟨jC body,Θ⟩ body ([(Val.rl (ns.map .int))].map (λd=>some (.sh,d))++replicate (n-1) none)) _=_ at e;cases e1:bX Ψ ⟨jC body,Θ⟩ body ([(Val.rl (ns.map .int))].map (λd=>some (.sh,d))++replicate (n-1) none) with
 |ok fl=>
  rw[e1]at e r;obtain⟨g,h',eg,q⟩:=r;unfold bnd;rw[eg];cases fl with
  |rt p=>
   cases g<;>first|exact q.elim|skip
   change Pr.ok p=_ at e;cases e;have q:Dn (λ_=>True) h' (.bl true) _:=q.1.1;rw[Dn]at q;subst q;exact⟨h',rfl⟩
  |nx _=>cases e
  |bk _=>cases e
  |ct _=>cases e
 |exc c es=>rw[e1]at e;cases e
 |no=>rw[e1]at e;cases e
def Jr(Ψ:Nat->List Val->Pr FV)(n:Nat)(body:b8)(ds:List Val):Pr FV:=match yZ Ψ (λ_ _=>.no) n body ds with
 |.ok x=>pg x.1 (.ok x)
 |_=>.no
theorem Ex(k:KU h (λ_ _=>False) h' U'):h<+:h':=by
 refine List.prefix_iff_eq_take.mpr (List.ext_getElem? λi=>?_);rw[List.getElem?_take]
 by_cases hi:i<h.length
 ·rw[Zg hi];exact(k.keep i hi λ_ z=>z).1.symm
 ·rw[Zi hi];exact List.getElem?_eq_none (by omega)
theorem Js{n:Nat}(hΦ:∀j,Imp (Φ j) (Ψ j))(ho:oR body=true):Imp (fh Φ n body) (Jr Ψ n body):=λA h ds vs u q=>by
 have r:=Kh (sp:=⟨jC body,λ_ _=>.no⟩) hΦ (λ_=>tu) body ho _ _ h _ (Kl (n:=n) q);have up:∀o,Fr h.length o->A o:=λo z=>by
  cases o with
  |none=>exact z.elim
  |some k=>exact u k z
 unfold Jr yZ fh;cases e1:bX Ψ ⟨jC body,λ_ _=>.no⟩ body (ds.map (λd=>some (.sh,d))++replicate (n-ds.length) none) with
 |ok fl=>
  rw[e1]at r;obtain⟨g,h',eg,q⟩:=r;unfold bnd;rw[eg];cases fl with
  |rt p=>
   cases g<;>first|exact q.elim|skip
   obtain⟨⟨_,b⟩,U',k⟩:=q;show Rel A h _ _ (pg p.1 (.ok p));cases hp:p.1 with
   |true=>exact⟨_,h',rfl,Ex k,(b hp).dI up,λ_=>b hp⟩
   |false=>trivial
  |nx _=>
   cases g<;>first|exact q.elim|skip
   obtain⟨U',_,k⟩:=q;exact⟨_,h',rfl,Ex k,by show Dn _ _ Val.non _;rw[Dn],λ_=>by show Dn _ _ Val.non _;rw[Dn]⟩
  |bk _=>trivial
  |ct _=>trivial
 |exc c es=>trivial
 |no=>trivial
end
section
variable {Φ:Nat->List Val->M Val} {Ψ:Nat->List Val->Pr FV} {env env':Env} {h h1 h2:Hs}
theorem y9(e:e7 Φ st env h=.ok (.nx env') h1):ff Φ (.cons st r) env h=ff Φ r env' h1:=by
 rw[ff,aK e]
theorem Jt{n c i:Nat}(hc:c<n)(g:h[i]?=some (.ins c fs))(hl:fs.length<1000):bnd (zE n (.ref i) x v) (λ_=>ret (Fl.nx env)) h=.ok (.nx env) (h.set i (.ins c (gE x v fs))):=by
 unfold zE;dsimp only;rw[av,pC (a:=(c,fs)) (by rw[g];dsimp only;rw[Zg hc])];dsimp only;unfold bnd aQ;rw[Zg (decide_eq_true hl)];rfl
theorem uR{n c i:Nat}(h0:env[0]?=some (some (.ref i)))(ev:aP Φ e env h=.ok v h1)(hc:c<n)(g:h1[i]?=some (.ins c fs))(hl:fs.length<1000):e7 Φ (.setF n (!0) x e) env h=.ok (.nx env) (h1.set i (.ins c (gE x v fs))):=by
 rw[e7,aK ev,aK (cJ h0)];exact Jt hc g hl
theorem Ey:Imp φ (λ_=>.no):=λ_ _ _ _ _ _=>trivial
def rL(Ψ:Nat->List Val->Pr FV)(env:aN):b8->List Str->List Val->Pr (List Str×List Val)
 |.nil,xs,vs=>.ok (xs,vs)
 | .cons s r,xs,vs=>match s with
  |.setF _ (!0) x e=>pg (!xs.contains x&&decide (xs.length<9)) (pb (aS Ψ e env) λy=>pg y.1 (rL Ψ env r (xs++[x]) (vs++[y.2])))
  |_=>.no
def Ju(Ψ:Nat->List Val->Pr FV)(c:Nat)(body:b8)(ds:List Val):Pr FV:=match rL Ψ (none::ds.map λd=>some (.sh,d)) body [] [] with
 |.ok p=>.ok (true,.ob c p.1 p.2)
 |_=>.no
def Sw(n:Nat):b8->Bool
 |.nil=>true
 |.cons (.setF m (!0) _ e) r=>decide (m=n)&&dj e&&Sw n r
 |_=>false
theorem tw:∀{fs:List (Str×Val)},(fs.map (·.1)).contains x=false->gE x v fs=fs++[(x,v)]
 |[],_=>rfl
 | (g,y)::r,e=>by
  simp only[map_cons,List.contains_cons,Bool.or_eq_false_iff,beq_eq_false_iff_ne]at e;rw[gE,Zi λz=>e.1 z.symm,tw e.2];rfl
theorem Ar{n c o:Nat}(hΦ:∀j,Imp (Φ j) (Ψ j))(hc:c<n)(h0:env[0]?=some (some (.ref o)))(hA:¬ A (some o))(hv:∀(i:Nat) (f:Mk) (d:Val),aa[i]?=some (some (f,d))->n6 f=true):∀(body:b8) (h:Hs) (xs:List Str) (ds:List Val) (fs:List (Str×Val)) (xs':List Str) (ds':List Val),Sw n body=true ->
  Up A h->ER A aa env h->h[o]?=some (.ins c fs)->fs.map (·.1)=xs->ao (Fr (o+1)) h ds (fs.map (·.2))->rL Ψ aa body xs ds=.ok (xs',ds') ->
  ∃h' fs',ff Φ body env h=.ok (.nx env) h'/\h.length<=h'.length/\(∀k,k<o->h'[k]?=h[k]?)/\h'[o]?=some (.ins c fs')/\fs'.map (·.1)=xs'/\ao (Fr (o+1)) h' ds' (fs'.map (·.2))
 | .nil,h,xs,ds,fs,xs',ds',_,u,er,g,e1,q,e=>by
  rw[rL]at e;cases e;exact⟨h,fs,by rw[ff];rfl,Zm _,λ_ _=>rfl,g,e1,q⟩
 | .cons s r,h,xs,ds,fs,xs',ds',ho,u,er,g,e1,q,e=>by
  unfold Sw at ho;split at ho
  ·rename_i hh;cases hh
  ·rename_i m x ex r' hh
   cases hh;have ho:=oQ ho;have hm:m=n:=Zv ho.1.1;subst hm;rw[rL]at e
   try dsimp only at e
   unfold pg at e;split at e
   ·rename_i hg
    have hg:=cX hg;have V:=(v_all hΦ).1 ex ho.1.2 aa env A h u er;cases ev:aS Ψ ex aa with
    |ok y=>
     rw[ev]at e V;obtain⟨v,h1,e2,p1,q1⟩:=V;change (if y.1=true then _ else _)=_ at e;split at e
     ·rename_i hy
      have g1:=ck p1 g;have ol:o<h.length:=(Zb.mp g).1;have l1:=p1.length_le;have hn:(fs.map (·.1)).contains x=false:=by rw[e1];simpa using hg.1
      have lf:fs.length<1000:=by have:=Zv hg.2;rw[<-e1,Ze]at this;omega
      have st:=uR (x:=x) h0 e2 hc g1 lf;rw[tw hn]at st;have mv:∀(B:AP),¬ B (some o)->∀ds vs,ao B h1 ds vs->ao B (h1.set o (.ins c (fs++[(x,v)]))) ds vs:=λB nb=>ao.mono (λ_ z=>z) λi ob a gi=>by
       rw[Zd λz=>nb (by rw[z];exact a)];exact gi
      obtain⟨h',fs',r1,r2,r3,r4,r5,r6⟩:=Ar hΦ hc h0 hA hv r (h1.set o (.ins c (fs++[(x,v)]))) (xs++[x]) (ds++[y.2]) (fs++[(x,v)]) xs' ds' ho.2 (λk hk=>u k (by rw[length_set]at hk;omega))
       (λi f d z=>by
        have:=er i f d z;revert this
        split
        ·rename_i hf;rw[hv i f d z]at hf;cases hf
        ·rintro⟨w,k1,k2⟩
         exact⟨w,k1,by
          have:=mv A hA [d] [w] (ao.cons (k2.ext p1) ao.nil);rw[ao]at this;obtain⟨_,_,e,z,_⟩:=this;cases e;exact z⟩)
       (Zl (by omega)) (by rw[ZK,e1];rfl)
       (by
        rw[ZK];refine mv (Fr (o+1)) (λz=>by have:o+1<=o:=z;omega) _ _ (ao.append (q.ext p1) (ao.cons ((q1.2 hy).dI (Fr.le (by omega))) ao.nil))) e
      refine⟨h',fs',by rw[y9 st];exact r1,by rw[length_set]at r2;omega,λk hk=>?_,r4,r5,r6⟩;rw[r3 k hk,Zd (by omega),cR p1 (by omega)]
     ·cases e
    |exc _ _=>rw[ev]at e;cases e
    |no=>rw[ev]at e;cases e
   ·cases e
  ·cases ho
theorem Jv{n c m:Nat}(hc:c<n)(hΦ:∀j,Imp (Φ j) (Ψ j))(ho:Sw n body=true):Imp (J0 c (fh Φ m body)) (Ju Ψ c body):=λA h ds vs u q=>by
 unfold Ju;cases e:rL Ψ (none::ds.map λd=>some (.sh,d)) body [] [] with
 |ok p=>
  obtain⟨xs',ds'⟩:=p;have hsh:∀(i:Nat) (f:Mk) (d:Val),(none::ds.map λd=>some (Mk.sh,d):aN)[i]?=some (some (f,d))->f=.sh/\∃k,i=k+1/\ds[k]?=some d:=λi f d z=>by
   cases i with
   |zero=>cases z
   |succ k=>
    rw[List.getElem?_cons_succ,Zx]at z;cases ek:ds[k]? with
    |none=>rw[ek]at z;cases z
    |some d'=>rw[ek]at z;cases z;exact⟨rfl,k,rfl,ek⟩
  let env:Env:=(Val.ref h.length::vs).map some++replicate (m-(Val.ref h.length::vs).length) none
  obtain⟨h',fs',r1,r2,r3,r4,r5,r6⟩:=Ar (n:=n) (c:=c) (o:=h.length) (A:=λa=>A a/\a≠some h.length) (env:=env) hΦ hc rfl (λz=>z.2 rfl) (λi f d z=>by rw[(hsh i f d z).1];rfl) body (h++[Ob.ins c []]) [] [] [] xs' ds' ho
   (λk hk=>⟨u k (by simp at hk;omega),λz=>by injection z with z;simp at hk;omega⟩)
   (λi f d z=>by
    obtain⟨rfl,k,rfl,ek⟩:=hsh i f d z;rw[Zi (by decide)];obtain⟨w,k1,k2⟩:=q.get ek;refine⟨w,?_,?_⟩
    ·have hk:=(Zb.mp k1).1;show ((Val.ref h.length::vs).map some++_)[k+1]?=_;rw[Zp (by simpa using hk),Zx,List.getElem?_cons_succ,k1];rfl
    ·refine Dn.move (A:=A) (A':=λa=>A a/\a≠some h.length) (λz=>⟨z,λz=>nomatch z⟩) (λi ob a g=>⟨⟨a,λz=>?_⟩,ck (prefix_append _ _) g⟩) _ _ k2
     injection z with z
     have:=(Zb.mp g).1;omega)
   (by simp) rfl ao.nil e
  have run:J0 c (fh Φ m body) vs h=.ok (.ref h.length) h':=by
   show bnd (fh Φ m body (.ref h.length::vs)) _ (h++[Ob.ins c []])=_;have:fh Φ m body (.ref h.length::vs) (h++[Ob.ins c []])=.ok .non h':=by unfold fh;rw[aK r1];rfl
   rw[aK this];rfl
  have hpre:h<+:h':=by refine List.prefix_iff_getElem?.mpr λi hi=>?_;rw[r3 i hi,Zp hi,ZG hi]
  have dn:Dn (Fr h.length) h' (.ob c xs' ds') (.ref h.length):=by rw[Dn];exact⟨h.length,fs',rfl,Zm _,r4,r5,r6.dI (Fr.le (by omega))⟩
  exact⟨_,h',run,hpre,dn.dI λz hz=>by
   cases z with
   |none=>exact hz.elim
   |some k=>exact u k hz,λ_=>dn⟩
 |exc _ _=>trivial
 |no=>trivial
abbrev wX(n jd:Nat):IE:=.call jd #[.fld n (!0) "net",!1,!2]
abbrev wY(jo:Nat):IE:=.call jo #[!1]
abbrev Km(n jd jo:Nat)(jsw jsl:List (Nat×Nat))(r1 r2:b8):b8 :=
 .cons (.asg (.one 3) (.mth (!0) "won" jsw .nil)) (.cons (.iff (.cmp .ntn (!3) (.cst .non)) r1 .nil) (.cons (.iff (.cmp .ne (!1) (.fld n (!0) "side")) r2 .nil) (.cons (.setF n (!0) "net" (wX n jd)) (.cons (.setF n (!0) "side" (wY jo))
  #[.expr (.met .append (.fld n (!0) "done") #[.tup #[!1,!2]]),.ret (.mth (!0) "lying" jsl .nil)]))))
def cz(c:Nat)(N:Val)(s:Str)(ds:List Val):Val:=.ob c ["net","side","done"] [N,.str s,.rl ds]
def fP(o:Val)(s:Str)(t:Int):aN:=[some (.sh,o),some (.sh,.str s),some (.sh,.int t),some (.sh,.non)]
def As(s:Str)(t:Int):aN:=[none,some (.sh,.str s),some (.sh,.int t),some (.sh,.non)]
def wZ(Ψ:Nat->List Val->Pr FV)(n c jd jo:Nat)(jsw jsl:List (Nat×Nat))(N:Val)(s:Str)(ds:List Val)(t:Int):Pr FV:=match aS Ψ (.mth (!0) "won" jsw .nil) (fP (cz c N s ds) s t) with
 | .ok (_,.non)=>(match aS Ψ (.cmp .ne (!1) (.fld n (!0) "side")) (fP (cz c N s ds) s t) with
  | .ok (_,.bl false)=>(match aS Ψ (wX n jd) (fP (cz c N s ds) s t) with
   | .ok (true,N')=>(match aS Ψ (wY jo) (As s t) with
    | .ok (_,.str s2)=>(match aS Ψ (.mth (!0) "lying" jsl .nil) (fP (cz c N' s2 (ds++[.tup [.str s,.int t]])) s t) with
     |.ok (true,r)=>.ok (true,.tup [cz c N' s2 (ds++[.tup [.str s,.int t]]),r])
     |_=>.no)
    |_=>.no)
   |_=>.no)
  |_=>.no)
 |_=>.no
def Ez(Ψ:Nat->List Val->Pr FV)(n c jd jo:Nat)(jsw jsl:List (Nat×Nat)):List Val->Pr FV
 |[.ob c' xs [N,.str s,.rl ds],.str s',.int t]=>pg (decide (c'=c/\xs=(["net","side","done"]:List Str)/\s'=s)&&bC ds&&decide (ds.length<1000)) (wZ Ψ n c jd jo jsw jsl N s ds t)
 |_=>.no
theorem xg:∀(a b:List Val),bC (a++b)=(bC a&&bC b)
 |[],_=>rfl
 |x::a,b=>by rw[List.cons_append,bC,bC,xg a b,Bool.and_assoc]
theorem pD{t:Int}(q:Dn A h o a):ER A (fP o s t) [some a,some (.str s),some (.int t),some .non] h:=λi f d z=>by
 match i,z with
 |0,z=>cases z;exact⟨a,rfl,q⟩
 |1,z=>cases z;exact⟨_,rfl,by rw[Dn]⟩
 |2,z=>cases z;exact⟨_,rfl,by rw[Dn]⟩
 |3,z=>cases z;exact⟨_,rfl,by rw[Dn]⟩
theorem EA{n c jd jo:Nat}{r1 r2:b8}(hc:c<n)(hΦ:∀j,Imp (Φ j) (Ψ j)):wV (fh Φ 4 (Km n jd jo jsw jsl r1 r2)) (Ez Ψ n c jd jo jsw jsl):=λR h o a ds f o' r hR q hi e=>by
 have V:=(v_all hΦ).1;unfold Ez at e;split at e
 ·rename_i c' xs N s dd s' t ho
  cases ho;unfold pg at e;split at e
  ·rename_i hg
   have hg:=oQ hg;obtain⟨rfl,rfl,rfl⟩:=Zv hg.1.1;have hl:=Zv hg.2;have q0:=q;rw[Dn]at q;obtain⟨i,fs,rfl,ri,gi,ef,q⟩:=q;have li:=hR i ri;rw[ao]at q;obtain⟨vN,_,e1,qN,q⟩:=q;rw[ao]at q;obtain⟨vs,_,rfl,qs,q⟩:=q;obtain⟨vd,rfl,qd⟩:=ao.one q;rw[Dn]at qs;subst qs;rw[Dn]at qd
   rcases qd with ⟨_,_,z,_⟩|⟨d,ws,rfl,rd,gd,qd⟩
   ·exact z.elim
   have ew:ws=dd:=(bu _ _ hg.1.2).mp qd;subst ew;have ld:=hR d rd;have Xp:fs=[(("net":Str),vN),("side",.str s'),("done",.ref d)]:=by
    match fs,ef,e1 with
    |[(x1,y1),(x2,y2),(x3,y3)],ef,e1=>simp only[map_cons,map_nil,List.cons.injEq,and_true]at ef e1;obtain⟨rfl,rfl,rfl⟩:=ef;obtain⟨rfl,rfl,rfl⟩:=e1;rfl
   subst Xp;have nid:i≠d:=λz=>by rw[z,gd]at gi;cases gi
   let T:AP:=λ_=>True
   have uT:∀g:Hs,Up T g:=λ_ _ _=>trivial;have qT:Dn T h (cz c' N s' ws) (.ref i):=q0.dI λ_ _=>trivial
   let env:Env:=[some (.ref i),some (.str s'),some (.int t),some .non]
   unfold wZ at e;have W:=V (.mth (!0) "won" jsw .nil) rfl (fP (cz c' N s' ws) s' t) env T h (uT h) (pD qT);split at e
   ·rename_i fw ew
    rw[ew] at W;obtain⟨v1,h1,w1,p1,w2⟩:=W;have w2:=w2.1;dsimp only at w2;rw[Dn]at w2;subst w2;have Vz:=qT.ext p1;have C:=V (.cmp .ne (!1) (.fld n (!0) "side")) rfl (fP (cz c' N s' ws) s' t) env T h1 (uT h1) (pD Vz);split at e
    ·rename_i fc ec
     rw[ec] at C;obtain⟨v2,h2,x1,p2,x2⟩:=C;have x2:=x2.1;dsimp only at x2;rw[Dn]at x2;subst x2;have Xq:=Vz.ext p2;have D:=V (wX n jd) rfl (fP (cz c' N s' ws) s' t) env T h2 (uT h2) (pD Xq);split at e
     ·rename_i N' ed
      rw[ed] at D;obtain⟨vN',h3,y1,p3,y2⟩:=D;have y2:=y2.2 rfl;have UH:=(p1.trans p2).trans p3;have g3:=ck UH gi;have d3:=ck UH gd;have Y5:=(p1.trans p2).length_le;have Y6:=p3.length_le
      let h4:Hs:=h3.set i (.ins c' [("net",vN'),("side",.str s'),("done",.ref d)])
      have g4:h4[i]?=some (.ins c' [("net",vN'),("side",.str s'),("done",.ref d)]):=Zl (by omega);have O:=V (wY jo) rfl (As s' t) env T h4 (uT h4) (λk f' d' z=>by
       match k,z with
       |0,z=>cases z
       |1,z=>cases z;exact⟨_,rfl,by rw[Dn]⟩
       |2,z=>cases z;exact⟨_,rfl,by rw[Dn]⟩
       |3,z=>cases z;exact⟨_,rfl,by rw[Dn]⟩)
      split at e
      ·rename_i fo s2 eo
       rw[eo] at O;obtain⟨v5,h5,z1,p5,z2⟩:=O;have z2:=z2.1;dsimp only at z2;rw[Dn]at z2;subst z2;have g5:=ck p5 g4;have l4:h4.length=h3.length:=length_set;have Y7:=p5.length_le
       let h6:Hs:=h5.set i (.ins c' [("net",vN'),("side",.str s2),("done",.ref d)])
       have l6:h6.length=h5.length:=length_set;have d6:h6[d]?=some (.lst ws):=by show (h5.set i _)[d]?=_;rw[Zd nid,cR p5 (by omega)];show (h3.set i _)[d]?=_;rw[Zd nid];exact d3
       let h7:Hs:=h6.set d (.lst (ws++[.tup [.str s',.int t]]))
       have l7:h7.length=h6.length:=length_set;have g7:h7[i]?=some (.ins c' [("net",vN'),("side",.str s2),("done",.ref d)]):=by show (h6.set d _)[i]?=_;rw[Zd (Ne.symm nid)];exact Zl (by omega)
       have d7:h7[d]?=some (.lst (ws++[.tup [.str s',.int t]])):=Zl (by omega);have k7:∀k,k≠i->k≠d->k<h3.length->h7[k]?=h3[k]?:=λk a b hk=>by
        show (h6.set d _)[k]?=_;rw[Zd (Ne.symm b)];show (h5.set i _)[k]?=_;rw[Zd (Ne.symm a),cR p5 (by omega)];show (h3.set i _)[k]?=_;rw[Zd (Ne.symm a)]
       have qN7:∀h8,h7<+:h8->Dn (RO λk=>R k\/(h.length<=k/\k<h7.length)) h8 (cz c' N' s2 (ws++[.tup [.str s',.int t]])) (.ref i):=λh8 p8=>by
        show Dn _ _ (.ob _ _ _) _;rw[Dn];refine⟨i,_,rfl,.inl ri,ck p8 g7,rfl,ao.cons ?_ (ao.cons (by rw[Dn]) (ao.cons ?_ ao.nil))⟩
        ·refine Dn.move (A:=Fr h2.length) (λz=>False.elim z) (λk ob ha g=>?_) _ _ y2;have ha:h2.length<=k:=ha;have hk:=(Zb.mp g).1;exact⟨.inr ⟨by omega,by omega⟩,ck p8 ((k7 k (by omega) (by omega) hk).trans g)⟩
        ·rw[Dn];refine .inr ⟨d,_,rfl,.inl rd,ck p8 d7,(bu _ _ ?_).mpr rfl⟩;rw[xg,hg.1.2];rfl
       have L:=V (.mth (!0) "lying" jsl .nil) rfl (fP (cz c' N' s2 (ws++[.tup [.str s',.int t]])) s' t) env T h7 (uT h7) (pD ((qN7 h7 (Zu _)).dI λ_ _=>trivial));split at e
       ·rename_i rr er
        cases e;rw[er] at L;obtain⟨v8,h8,b1,p8,b2⟩:=L;have b2:=b2.2 rfl;refine⟨v8,h7.length,h8,?_,by omega,p8.length_le,λk hk nk=>?_,qN7 h8 p8,b2⟩
        ·show bnd (ff Φ (Km n jd jo jsw jsl r1 r2) [some (.ref i),some (.str s'),some (.int t),none]) _ h=_
         rw[aK (a:=.rt v8) (h1:=h8)]
         ·rfl
         have a1:e7 Φ (.asg (.one 3) (.mth (!0) "won" jsw .nil)) [some (.ref i),some (.str s'),some (.int t),none] h=.ok (.nx env) h1:=by
          have:aP Φ (.mth (!0) "won" jsw .nil) [some (.ref i),some (.str s'),some (.int t),none] h=.ok .non h1:=by rw[aP]at w1 |-;exact w1
          rw[e7,aK this];rfl
         rw[y9 a1];have a2:e7 Φ (.iff (.cmp .ntn (!3) (.cst .non)) r1 .nil) env h1=.ok (.nx env) h1:=by
          rw[e7,aK (a:=.bl false) (h1:=h1)]
          ·rw[pC (a:=false) rfl,Zi Y9,ff];rfl
          ·rw[aP,aK (cJ (v:=.non) rfl),aK (a:=.non) (h1:=h1) (by rw[aP];rfl)];rfl
         rw[y9 a2];have a3:e7 Φ (.iff (.cmp .ne (!1) (.fld n (!0) "side")) r2 .nil) env h1=.ok (.nx env) h2:=by rw[e7,aK x1,pC (a:=false) rfl,Zi Y9,ff];rfl
         have a4:=uR (x:="net") (env:=env) rfl y1 hc g3 (by decide:3<1000);rw[show gE "net" vN' [("net",vN),("side",.str s'),("done",.ref d)]=[(("net":Str),vN'),("side",.str s'),("done",.ref d)] by rw[gE,Zg rfl]]at a4;have a5:=uR (x:="side") (env:=env) rfl z1 hc g5 (by decide:3<1000);rw[show gE "side" (.str s2) [("net",vN'),("side",.str s'),("done",.ref d)]=[(("net":Str),vN'),("side",.str s2),("done",.ref d)] by rw[gE,Zi (by decide),gE,Zg rfl]]at a5;rw[y9 a3,y9 a4,y9 a5];have a6:e7 Φ (.expr (.met .append (.fld n (!0) "done") #[.tup #[!1,!2]])) env h6=.ok (.nx env) h7:=by
          have g6:h6[i]?=some (.ins c' [("net",vN'),("side",.str s2),("done",.ref d)]):=Zl (by omega);have f6:aP Φ (.fld n (!0) "done") env h6=.ok (.ref d) h6:=by rw[aP,aK (cJ (v:=.ref i) rfl)];refine wR (f:=λg=>qf n g (.ref i) "done") ?_;unfold qf;dsimp only;rw[g6];dsimp only;rw[Zg hc];rfl
          have t6:aP Φ (.tup #[!1,!2]) env h6=.ok (.tup [.str s',.int t]) h6:=by
           rw[aP,aK (a:=[.str s',.int t]) (h1:=h6)]
           ·rfl
           ·rw[bG,aK (cJ (v:=.str s') rfl),aK (a:=[.int t]) (h1:=h6)]
            ·rfl
            ·rw[bG,aK (cJ (v:=.int t) rfl),bG];rfl
          rw[e7,aP,av,aK f6];have b1:recv h6 .append (.ref d)=some ():=by show (match h6[d]? with|some (.lst _)=>some ()|_=>none)=_;rw[d6]
          rw[av,pC (f:=λh=>recv h .append (.ref d)) b1,av,aK (a:=[.tup [.str s',.int t]]) (h1:=h6)]
          ·exact uP d6 (decide_eq_true (by unfold sizeLine;omega))
          ·rw[bG,aK t6,bG];rfl
         rw[y9 a6,ff,e7,aK (a:=.rt v8) (h1:=h8)]
         ·rfl
         ·rw[aK b1];rfl
        ·rw[cR p8 (by omega),k7 k (λz=>nk (z▸ri)) (λz=>nk (z▸rd)) (by omega),cR UH hk]
       ·cases e
      ·cases e
     ·cases e
    ·cases e
   ·cases e
  ·cases e
 ·cases e
end
end Hv
end
section
namespace K61
open PySem L2 Hv
abbrev EB:List PySem.Str:=["_law_script","_law_k"]
abbrev NC:List PySem.Str:=["_law_cell_here","_law_big","_law_step","_law_shift","_law_a","_law_b"]
abbrev ND:List PySem.Str:=["_law_script","_law_style","_law_many","_law_most","_law_pairs_here","_law_again","_law_k","_law_more","_law_cell_here"]
abbrev RB:List PySem.Str:=["_law_script","_law_style","_law_many","_law_most"]
abbrev NF:List PySem.Str:=["_law_script","_law_style","_law_most","_law_head","_law_many","_law_places","_law_names_here","_law_ends","_law_ties","_law_name","_law_pair","_law_one","_law_other_here"]
abbrev RC:List PySem.Str:=["_law_script","_law_style","_law_most"]
abbrev EC:List PySem.Str:=["_law_cell_here"]
abbrev oS:List PySem.Str:=["_law_net_here"]
abbrev NG:List PySem.Str:=["poles","ties","named","name","one","other"]
abbrev jv:List PySem.Str:=["net"]
abbrev xh:List PySem.Str:=["self","net","begins"]
abbrev dP:List PySem.Str:=["self"]
abbrev ED:List PySem.Str:=["places","pairs","firsts","place","one","other","kept","gone"]
abbrev EE:List PySem.Str:=["net","places","tie"]
abbrev EF:List PySem.Str:=["_law_net_here","_law_row","_law_marks_here","_law_ties","_law_tie","_law_old","_law_new","_law_end"]
abbrev EG:List PySem.Str:=["_law_net_here","_law_marks_here"]
abbrev qI:List PySem.Str:=["_law_found"]
abbrev EH:List PySem.Str:=["_law_found","_law_row"]
abbrev EI:List PySem.Str:=["_law_play","_law_now","_law_turn","_law_done","_law_told","_law_lying"]
abbrev Kn:List PySem.Str:=["_law_play","_law_now","_law_turn","_law_done"]
abbrev EJ:List PySem.Str:=["net","tie","name","one","other"]
abbrev iA:List PySem.Str:=["net","tie"]
abbrev EK:List PySem.Str:=["net","tie","ends","places","poles","ties","name","one","other"]
abbrev xj:List PySem.Str:=["net","side","tie"]
abbrev EL:List PySem.Str:=["self","side","tie","winner"]
abbrev EM:List PySem.Str:=["_law_net_here","_law_side_here","_law_name","_law_gone","_law_ties","_law_ends","_law_tie","_law_renamed","_law_pairs_here"]
abbrev Ko:List PySem.Str:=["_law_net_here","_law_side_here","_law_name"]
abbrev xm:List PySem.Str:=["_law_side_here"]
abbrev Kp:List PySem.Str:=["_law_script","_law_net_here","_law_turn","_law_handed","_law_play","_law_now","_law_done","_law_cell_here","_law_names_here","_law_name","_law_told"]
def top(i:Nat):Stmt:=PySem.Challenge.pw_linkorcut_k61_deeds_done.main.body.getD i (.Pass ⟨0,0,0,0⟩)
def cons:List (Str×Val):=[]
def tb:Tb:=⟨1,["net","side","done"],[(0,"deeds",9),(0,"lying",10),(0,"turn",11),(0,"won",17),(0,"deed",30)],[],[]⟩
def cN(i:Nat):Stmt:=match top 22 with|.ClassDef (body:=b) ..=>b.getD i (.Pass ⟨0,0,0,0⟩)|_=>.Pass ⟨0,0,0,0⟩
def iR:b8:=#[.iff (.cmp .lt (!1) (.blt .len #[!0])) #[.ret (.idx (!0) (!1))] .nil,.ret (¬0)]
def eB:b8:=#[.asg (.one 2) (¬1),.asg (.one 3) (¬0),.iff (.cmp .gt (.bin .mod (!0) (¬3)) (¬0)) #[.asg (.one 2) (.bin .add (¬1) (.bin .mod (!1) (.bin .pow (¬10) (¬57)))),.asg (.one 3) (.bin .mod (.bin .fdiv (!1) (¬7)) (.bin .pow (¬10) (¬59)))] .nil,.asg (.one 4) (.bin .add (¬1) (.bin .mod (.bin .fdiv (!0) (¬3)) (¬66))),.asg (.one 5) (.bin .mod (.bin .fdiv (!0) (¬198)) (¬67)),.ret (.comp ["_law_k","_law_shift","_law_step","_law_b","_law_a"] [none,some 3,some 2,some 5,some 4] (.one 0) .range #[¬15] .no (.bin .add (.bin .mul (!2) (.bin .mod (.bin .add (.bin .mul (!4) (!0)) (!3)) (¬67))) (!1)))]
def gK:b8:=#[.asg (.one 4) (.lst .nil),.for (.one 5) .range #[.idx (.lst #[¬0,¬2,¬0,¬1]) (!1)] #[.for (.one 6) .range #[¬1,!2] #[.expr (.met .append (!4) #[.tup #[!6,.bin .mod (.bin .fdiv (.call 0 #[!0,.bin .add (¬4) (!6)]) (.bin .add (¬1) (.bin .mul (¬7) (!5)))) (!6)]])]],.iff (.cmp .eq (!1) (¬2)) #[.for (.one 6) .range #[.bin .sub (!2) (¬1)] #[.for (.one 5) .range #[.bin .add (¬1) (.bin .mod (.call 0 #[!0,.bin .add (¬5) (!6)]) (¬3))] #[.expr (.met .append (!4) #[.tup #[!6,.bin .add (!6) (¬1)]])]]] .nil,.asg (.one 7) (.bin .mod (.bin .fdiv (.call 0 #[!0,¬0]) (¬28)) (¬4)),.iff (.cmp .eq (!1) (¬0)) #[.asg (.one 7) (.bin .mod (.bin .fdiv (.call 0 #[!0,¬0]) (¬28)) (.bin .add (!3) (¬1)))] .nil,.for (.one 8) .seq #[.slc (!0) (¬5) (.bin .add (¬5) (!7))] #[.expr (.met .append (!4) #[.tup #[.bin .mod (.bin .fdiv (!8) (¬3)) (!2),.bin .mod (.bin .fdiv (!8) (¬31)) (!2)]])],.ret (.slc (!4) .no (!3))]
def j9:b8:=#[.asg (.one 3) (.call 0 #[!0,¬0]),.asg (.one 4) (.bin .add (¬2) (.bin .mod (.bin .fdiv (!3) (¬4)) (.idx (.lst #[¬7,.bin .fdiv (!2) (¬2),¬4,.blt .min #[¬7,!2]]) (!1)))),.asg (.one 5) (.call 1 #[.call 0 #[!0,¬1],.call 0 #[!0,¬2]]),.asg (.one 6) (.call 1 #[.call 0 #[!0,¬3],.call 0 #[!0,¬4]]),.asg (.one 7) (.lst #[.idx (!5) (¬0),.idx (!5) (¬1)]),.iff (.cmp .eq (!1) (¬2)) #[.asg (.one 7) (.lst #[.idx (!5) (¬0),.idx (!5) (.bin .sub (!4) (¬1))])] .nil,.iff (.cmp .eq (.bin .mod (.bin .fdiv (!3) (¬112)) (¬9)) (¬4)) #[.asg (.one 7) (.lst #[.idx (!5) (¬0),.idx (!5) (¬0)])] .nil,.asg (.one 8) (.lst .nil),.for (.tup [9,10]) .zip #[!6,.call 2 #[!0,!1,!4,!2]] #[.asg (.one 11) (.idx (!5) (.idx (!10) (¬0))),.asg (.one 12) (.idx (!5) (.idx (!10) (¬1))),.expr (.met .append (!8) #[.tup #[!9,.blt .min #[!11,!12],.blt .max #[!11,!12]]])],.ret (.tup #[.tup #[.blt .min #[!7],.blt .max #[!7]],.blt .sorted #[!8]])]
def iS:b8:=#[.ret (.idx (.lst #[.cst (.str "linker"),.cst (.str "cutter")]) (.bin .mod (!0) (¬2)))]
def iT:b8:=#[.ret (.tup #[.idx (!0) (¬0),.blt .list #[.idx (!0) (¬1)]])]
def cF:b8:=#[.asg (.one 2) (.lst .nil),.for (.tup [3,4,5]) .seq #[!1] #[.expr (.met .append (!2) #[.tup #[!3,.blt .min #[!4,!5],.blt .max #[!4,!5]]])],.ret (.tup #[.tup #[.blt .min #[.idx (!0) (¬0),.idx (!0) (¬1)],.blt .max #[.idx (!0) (¬0),.idx (!0) (¬1)]],.blt .sorted #[!2]])]
def gM:b8:=#[.ret (.call 6 #[.idx (!0) (¬0),.idx (!0) (¬1)])]
def mQ:b8:=#[.setF 1 (!0) "net" (.call 7 #[!1]),.setF 1 (!0) "side" (!2),.setF 1 (!0) "done" (.lst .nil)]
def dD:b8:=#[.ret (.comp ["side","tie"] [none,none] (.tup [0,1]) .seq #[.fld 1 (!0) "done"] .no (.tup #[!0,!1]))]
def dF:b8:=#[.ret (.call 7 #[.fld 1 (!0) "net"])]
def eE:b8:=#[.ret (.fld 1 (!0) "side")]
def eF:b8:=#[.ret (.cmp .eq (.idx (.idx (!0) (¬0)) (¬0)) (.idx (.idx (!0) (¬0)) (¬1)))]
def eG:b8:=#[.asg (.one 2) .dct0,.for (.one 3) .seq #[!0] #[.gB (!2) (!3) (!3)],.for (.tup [4,5]) .seq #[!1] #[.asg (.one 6) (.blt .min #[.idx (!2) (!4),.idx (!2) (!5)]),.asg (.one 7) (.blt .max #[.idx (!2) (!4),.idx (!2) (!5)]),.for (.one 3) .seq #[!0] #[.iff (.cmp .eq (.idx (!2) (!3)) (!7)) #[.gB (!2) (!3) (!6)] .nil]],.ret (!2)]
def eL:b8:=#[.asg (.one 1) (.blt .list #[.idx (!0) (¬0)]),.for (.one 2) .seq #[.idx (!0) (¬1)] #[.expr (.met .extend (!1) #[.slc (!2) (¬1) .no])],.ret (.sset (!1))]
def eN:b8:=#[.asg (.one 1) (.call 13 #[.call 14 #[!0],.comp ["tie"] [none] (.one 0) .seq #[.idx (!0) (¬1)] .no (.slc (!0) (¬1) .no)]),.ret (.cmp .ne (.idx (!1) (.idx (.idx (!0) (¬0)) (¬0))) (.idx (!1) (.idx (.idx (!0) (¬0)) (¬1))))]
def eO:b8:=#[.iff (.call 12 #[!0]) #[.ret (.cst (.str "linker"))] .nil,.iff (.call 15 #[!0]) #[.ret (.cst (.str "cutter"))] .nil,.ret (.cst .non)]
def fQ:b8:=#[.ret (.call 16 #[.fld 1 (!0) "net"])]
def gO:b8:=#[.asg (.one 2) .dct0,.asg (.one 3) (.bin .add (.lst #[.tup #[.neg (¬1),.idx (.idx (!0) (¬0)) (¬0),.idx (.idx (!0) (¬0)) (¬1)]]) (.idx (!0) (¬1))),.for (.one 4) .seq #[!3] #[.gB (!2) (.idx (!4) (¬1)) (.idx (!4) (¬1)),.gB (!2) (.idx (!4) (¬2)) (.idx (!4) (¬2))],.for (.one 4) .seq #[!3] #[.asg (.one 5) (.idx (!2) (.idx (!4) (¬2))),.asg (.one 6) (.idx (!2) (.idx (!4) (¬1))),.iff (.and (.cmp .Cr (.idx (!4) (¬0)) (!1)) (.cmp .ne (!5) (!6))) #[.for (.one 7) .seq #[.lkeys (!2)] #[.iff (.cmp .eq (.idx (!2) (!7)) (!5)) #[.gB (!2) (!7) (!6)] .nil]] .nil],.ret (!2)]
def gP:b8:=#[.ret (.comp ["_law_tie"] [none] (.one 0) .seq #[.idx (!0) (¬1)] .no (.idx (!0) (¬0)))]
def kc:b8:=#[.iff (.cmp .eq (.idx (.idx (!0) (¬0)) (¬0)) (.idx (.idx (!0) (¬0)) (¬1))) #[.ret (.cst (.str "linker"))] .nil,.asg (.one 1) (.call 18 #[!0,.call 19 #[!0]]),.iff (.cmp .ne (.idx (!1) (.idx (.idx (!0) (¬0)) (¬0))) (.idx (!1) (.idx (.idx (!0) (¬0)) (¬1)))) #[.ret (.cst (.str "cutter"))] .nil,.ret (.cst .non)]
def gQ:b8:=#[.ret (.and (.blt (.isin "int") #[!0]) (.not (.blt (.isin "bool") #[!0])))]
def dG:b8:=#[.iff (.or (.not (.blt (.isin "tuple") #[!0])) (.cmp .ne (.blt .len #[!0]) (¬2))) #[.ret (.cst (.bl false))] .nil,.iff (.or (.not (.blt (.isin "tuple") #[.idx (!0) (¬0)])) (.not (.blt (.isin "list") #[.idx (!0) (¬1)]))) #[.ret (.cst (.bl false))] .nil,.for (.one 1) .seq #[.bin .add (.lst #[.idx (!0) (¬0)]) (.idx (!0) (¬1))] #[.iff (.or (.not (.blt (.isin "tuple") #[!1])) (.not (.blt .all #[.comp ["_law_number"] [none] (.one 0) .seq #[!1] .no (.call 21 #[!0])]))) #[.ret (.cst (.bl false))] .nil],.ret (.cst (.bl true))]
def fD:b8:=#[.asg (.one 4) (.mth (!0) "deeds" [(0,9)] .nil),.iff (.or (.not (.blt (.isin "list") #[!4])) (.or (.cmp .ne (!4) (!3)) (.or (.cmp .ne (.mth (!0) "turn" [(0,11)] .nil) (!2)) (.cmp .ne (.mth (!0) "won" [(0,17)] .nil) (.call 20 #[!1]))))) #[.ret (.cst (.bl false))] .nil,.asg (.one 5) (.mth (!0) "lying" [(0,10)] .nil),.iff (.or (.not (.call 22 #[!5])) (.cmp .ne (!5) (!1))) #[.ret (.cst (.bl false))] .nil,.expr (.met .append (!4) #[.tup #[.cst (.str "linker"),¬0]]),.expr (.met .append (.idx (!5) (¬1)) #[.tup #[¬0,¬0,¬0]]),.ret (.blt .all #[.comp ["_law_deed"] [none] (.one 0) .seq #[.mth (!0) "deeds" [(0,9)] .nil] .no (.blt (.isin "tuple") #[!0])])]
def gR:b8:=#[.for (.tup [2,3,4]) .seq #[.idx (!0) (¬1)] #[.iff (.cmp .eq (!2) (!1)) #[.ret (.tup #[!3,!4])] .nil],.never]
def gS:b8:=#[.expr (.call 24 #[!0,!1]),.ret (.comp ["each","tie"] [none,some 1] (.one 0) .seq #[.idx (!0) (¬1)] (.cmp .ne (.idx (!0) (¬0)) (!1)) (!0))]
def eT:b8:=#[.ret (.call 6 #[.idx (!0) (¬0),.call 25 #[!0,!1]])]
def kg:b8:=#[.asg (.one 2) (.call 24 #[!0,!1]),.asg (.one 3) (.dct1 (.idx (!2) (¬1)) (.idx (!2) (¬0))),.asg (.one 4) (.tup #[.dget (!3) (.idx (.idx (!0) (¬0)) (¬0)) (.idx (.idx (!0) (¬0)) (¬0)),.dget (!3) (.idx (.idx (!0) (¬0)) (¬1)) (.idx (.idx (!0) (¬0)) (¬1))]),.asg (.one 5) (.lst .nil),.for (.tup [6,7,8]) .seq #[.call 25 #[!0,!1]] #[.expr (.met .append (!5) #[.tup #[!6,.dget (!3) (!7) (!7),.dget (!3) (!8) (!8)]])],.ret (.call 6 #[!4,!5])]
def gT:b8:=#[.iff (.cmp .eq (!1) (.cst (.str "linker"))) #[.ret (.call 27 #[!0,!2])] .nil,.ret (.call 26 #[!0,!2])]
def dH:b8:=#[.iff (.cmp .eq (!0) (.cst (.str "linker"))) #[.ret (.cst (.str "cutter"))] .nil,.ret (.cst (.str "linker"))]
def jw:b8:=#[.asg (.one 3) (.mth (!0) "won" [(0,17)] .nil),.iff (.cmp .ntn (!3) (.cst .non)) #[.never] .nil,.iff (.cmp .ne (!1) (.fld 1 (!0) "side")) #[.never] .nil,.setF 1 (!0) "net" (.call 28 #[.fld 1 (!0) "net",!1,!2]),.setF 1 (!0) "side" (.call 29 #[!1]),.expr (.met .append (.fld 1 (!0) "done") #[.tup #[!1,!2]]),.ret (.mth (!0) "lying" [(0,10)] .nil)]
def fR:b8:=#[.asg (.one 3) (.idx (.comp ["_law_tie","_law_name"] [none,some 2] (.one 0) .seq #[.idx (!0) (¬1)] (.cmp .eq (.idx (!0) (¬0)) (!1)) (!0)) (¬0)),.asg (.one 4) (.lst .nil),.asg (.one 5) (.blt .list #[.idx (!0) (¬0)]),.for (.one 6) .seq #[.idx (!0) (¬1)] #[.iff (.cmp .ne (.idx (!6) (¬0)) (!2)) #[.expr (.met .append (!4) #[!6])] .nil],.iff (.cmp .eq (!1) (.cst (.str "linker"))) #[.asg (.one 7) (.dct1 (.idx (!3) (¬2)) (.idx (!3) (¬1))),.asg (.one 5) (.comp ["_law_end","_law_renamed"] [none,some 7] (.one 0) .seq #[!5] .no (.dget (!1) (!0) (!0))),.asg (.one 8) (.comp ["_law_tie","_law_renamed"] [none,some 7] (.one 0) .seq #[!4] .no (.tup #[.idx (!0) (¬0),.dget (!1) (.idx (!0) (¬1)) (.idx (!0) (¬1)),.dget (!1) (.idx (!0) (¬2)) (.idx (!0) (¬2))])),.asg (.one 4) (.comp ["_law_one"] [none] (.one 0) .seq #[!8] .no (.tup #[.idx (!0) (¬0),.blt .min #[.idx (!0) (¬1),.idx (!0) (¬2)],.blt .max #[.idx (!0) (¬1),.idx (!0) (¬2)]]))] .nil,.ret (.tup #[.tup #[.blt .min #[!5],.blt .max #[!5]],!4])]
def gU:b8:=#[.ret (.idx (.lst #[.cst (.str "linker"),.cst (.str "cutter")]) (.blt .int #[.cmp .eq (!0) (.cst (.str "linker"))]))]
def qJ:b8:=#[.asg (.one 1) (.call 3 #[!0,.bin .mod (.call 0 #[!0,¬0]) (¬4),¬14]),.asg (.one 2) (.call 4 #[.bin .fdiv (.call 0 #[!0,¬1]) (¬5)]),.asg (.one 3) (.call 5 #[!1]),.asg (.one 4) (.call 8 #[!3,!2]),.expr (.svals (.idx (!3) (¬1))),.asg (.one 5) (!1),.asg (.one 6) (.lst .nil),.for (.one 7) .seq #[.slc (!0) (¬5) (¬63)] #[.iff (.not (.call 23 #[!4,!5,!2,!6])) #[.ret (.cst (.bl false))] .nil,.iff (.cmp .isn (.call 20 #[!5]) (.cst .non)) #[.asg (.one 8) (.call 19 #[!5]),.asg (.one 9) (.idx (!8) (.bin .mod (.bin .fdiv (!7) (¬2)) (.blt .len #[!8]))),.asg (.one 10) (.mth (!4) "deed" [(0,30)] #[!2,!9]),.asg (.one 5) (.call 31 #[!5,!2,!9]),.expr (.met .append (!6) #[.tup #[!2,!9]]),.asg (.one 2) (.call 32 #[!2]),.iff (.or (.not (.call 22 #[!10])) (.cmp .ne (!10) (!5))) #[.ret (.cst (.bl false))] .nil,.expr (.svals (.idx (!10) (¬1)))] .nil],.ret (.call 23 #[!4,!5,!2,!6])]
def RD:List Row:=[]
def xq:List Val->M Val:=fh (look RD) 2 iR
def RE:List Row:=RD++[(("_law_cell":Str),2,xq)]
def oj:List Val->M Val:=fh (look RE) 6 eB
def RG:List Row:=RE++[(("_law_numbers":Str),2,oj)]
def tB:List Val->M Val:=fh (look RG) 9 gK
def RH:List Row:=RG++[(("_law_pairs":Str),4,tB)]
def Au:List Val->M Val:=fh (look RH) 13 j9
def RI:List Row:=RH++[(("_law_net":Str),3,Au)]
def xr:List Val->M Val:=fh (look RI) 1 iS
def RJ:List Row:=RI++[(("_law_side":Str),1,xr)]
def xu:List Val->M Val:=fh (look RJ) 1 iT
def RK:List Row:=RJ++[(("_law_copy":Str),1,xu)]
def kh:List Val->M Val:=fh (look RK) 6 cF
def RM:List Row:=RK++[(("put_in_order":Str),2,kh)]
def tD:List Val->M Val:=fh (look RM) 1 gM
def RP:List Row:=RM++[(("own_net":Str),1,tD)]
def EN:List Val->M Val:=J0 0 (fh (look RP) 3 mQ)
def RQ:List Row:=RP++[(("Play":Str),2,EN)]
def mT:List Val->M Val:=fh (look RQ) 1 dD
def EO:List Row:=RQ++[(("Play.deeds":Str),1001,mT)]
def mU:List Val->M Val:=fh (look EO) 1 dF
def ES:List Row:=EO++[(("Play.lying":Str),1001,mU)]
def om:List Val->M Val:=fh (look ES) 1 eE
def ET:List Row:=ES++[(("Play.turn":Str),1001,om)]
def oq:List Val->M Val:=fh (look ET) 1 eF
def EU:List Row:=ET++[(("is_linked":Str),1,oq)]
def ou:List Val->M Val:=fh (look EU) 8 eG
def EW:List Row:=EU++[(("firsts_by":Str),2,ou)]
def oz:List Val->M Val:=fh (look EW) 3 eL
def EY:List Row:=EW++[(("places_of":Str),1,oz)]
def oA:List Val->M Val:=fh (look EY) 2 eN
def EZ:List Row:=EY++[(("is_parted":Str),1,oA)]
def oB:List Val->M Val:=fh (look EZ) 1 eO
def E1:List Row:=EZ++[(("winner_of":Str),1,oB)]
def qK:List Val->M Val:=fh (look E1) 1 fQ
def E2:List Row:=E1++[(("Play.won":Str),1001,qK)]
def tE:List Val->M Val:=fh (look E2) 8 gO
def E4:List Row:=E2++[(("_law_marks":Str),2,tE)]
def tF:List Val->M Val:=fh (look E4) 1 gP
def E5:List Row:=E4++[(("_law_names":Str),1,tF)]
def Av:List Val->M Val:=fh (look E5) 2 kc
def E6:List Row:=E5++[(("_law_won":Str),1,Av)]
def tG:List Val->M Val:=fh (look E6) 1 gQ
def E7:List Row:=E6++[(("_law_whole":Str),1,tG)]
def mV:List Val->M Val:=fh (look E7) 2 dG
def E8:List Row:=E7++[(("_law_net_like":Str),1,mV)]
def xw:List Val->M Val:=fh (look E8) 6 fD
def E9:List Row:=E8++[(("_law_same":Str),4,xw)]
def tH:List Val->M Val:=fh (look E9) 5 gR
def Fb:List Row:=E9++[(("ends_of":Str),2,tH)]
def tK:List Val->M Val:=fh (look Fb) 2 gS
def Fc:List Row:=Fb++[(("without":Str),2,tK)]
def oE:List Val->M Val:=fh (look Fc) 2 eT
def Fd:List Row:=Fc++[(("taken_out":Str),2,oE)]
def Aw:List Val->M Val:=fh (look Fd) 9 kg
def Fe:List Row:=Fd++[(("drawn":Str),2,Aw)]
def tL:List Val->M Val:=fh (look Fe) 3 gT
def Ff:List Row:=Fe++[(("done_by":Str),3,tL)]
def mW:List Val->M Val:=fh (look Ff) 1 dH
def B4:List Row:=Ff++[(("other_side":Str),1,mW)]
def ki:List Val->M Val:=fh (look B4) 4 jw
def Fg:List Row:=B4++[(("Play.deed":Str),1003,ki)]
def qL:List Val->M Val:=fh (look Fg) 9 fR
def Fi:List Row:=Fg++[(("_law_behind":Str),3,qL)]
def tM:List Val->M Val:=fh (look Fi) 1 gU
def Fj:List Row:=Fi++[(("_law_other":Str),1,tM)]
def Fo:List Val->M Val:=fh (look Fj) 11 qJ
def UI:List aU:=[]
def bO:aU:=di (ah UI) 2 iR
def UJ:List aU:=UI++[bO]
def fS:aU:=di (ah UJ) 6 eB
def pF:List aU:=UJ++[fS]
def iU:aU:=di (ah pF) 9 gK
def xW:List aU:=pF++[iU]
def mX:aU:=di (ah xW) 13 j9
def UK:List aU:=xW++[mX]
def kj:aU:=di (ah UK) 1 iS
def UL:List aU:=UK++[kj]
def ko:aU:=di (ah UL) 1 iT
def UM:List aU:=UL++[ko]
def bU:aU:=di (ah UM) 6 cF
def Sx:List aU:=UM++[bU]
def gp:aU:=di (ah Sx) 1 gM
def NH:List aU:=Sx++[gp]
def qM:aU:=Ju (ah NH) 0 mQ
def UN:List aU:=NH++[qM]
def eV:aU:=di (ah UN) 1 dD
def Jw:List aU:=UN++[eV]
def cZ:aU:=di (ah Jw) 1 dF
def NI:List aU:=Jw++[cZ]
def dQ:aU:=di (ah NI) 1 eE
def NJ:List aU:=NI++[dQ]
def fT:aU:=di (ah NJ) 1 eF
def NK:List aU:=NJ++[fT]
def fU:aU:=di (ah NK) 8 eG
def NL:List aU:=NK++[fU]
def fV:aU:=di (ah NL) 3 eL
def Fp:List aU:=NL++[fV]
def fW:aU:=di (ah Fp) 2 eN
def Fq:List aU:=Fp++[fW]
def fX:aU:=di (ah Fq) 1 eO
def Jx:List aU:=Fq++[fX]
def fE:aU:=di (ah Jx) 1 fQ
def kq:List aU:=Jx++[fE]
def iV:aU:=di (ah kq) 8 gO
def NN:List aU:=kq++[iV]
def gq:aU:=di (ah NN) 1 gP
def Ft:List aU:=NN++[gq]
def kP:aU:=di (ah Ft) 2 kc
def NO:List aU:=Ft++[kP]
def iW:aU:=di (ah NO) 1 gQ
def qO:List aU:=NO++[iW]
def dg:aU:=di (ah qO) 2 dG
def qP:List aU:=qO++[dg]
def kr:aU:=Jr (ah qP) 6 fD
def NP:List aU:=qP++[kr]
def gr:aU:=di (ah NP) 5 gR
def Jy:List aU:=NP++[gr]
def gu:aU:=di (ah Jy) 2 gS
def Fv:List aU:=Jy++[gu]
def fY:aU:=di (ah Fv) 2 eT
def B5:List aU:=Fv++[fY]
def mY:aU:=di (ah B5) 9 kg
def Fw:List aU:=B5++[mY]
def iX:aU:=di (ah Fw) 3 gT
def NQ:List aU:=Fw++[iX]
def eW:aU:=di (ah NQ) 1 dH
def nL:List aU:=NQ++[eW]
def oF:aU:=λ_=>.no
def rM:List aU:=nL++[oF]
def gW:aU:=di (ah rM) 9 fR
def NR:List aU:=rM++[gW]
def iY:aU:=di (ah NR) 1 gU
def iH:List aU:=NR++[iY]
def mu(j:Nat):aU:=if j=30 then Ez (ah nL) 1 0 28 29 [(0,17)] [(0,10)] else λ_=>.no
def Fx:aU:=yZ (ah iH) mu 11 qJ
theorem cO:ah pF 0=bO:=rfl
theorem gb:ah xW 0=bO:=rfl
theorem gX:ah xW 1=fS:=rfl
theorem nM:ah xW 2=iU:=rfl
theorem iZ:ah Sx 6=bU:=rfl
theorem oU:ah NH 7=gp:=rfl
theorem jH:ah Jw 7=gp:=rfl
theorem eX:ah Fp 13=fU:=rfl
theorem jx:ah Fp 14=fV:=rfl
theorem cB:ah Fq 12=fT:=rfl
theorem eY:ah Fq 15=fW:=rfl
theorem jI:ah Jx 16=fX:=rfl
theorem ja:ah Ft 18=iV:=rfl
theorem jb:ah Ft 19=gq:=rfl
theorem jJ:ah qO 21=iW:=rfl
theorem fZ:ah qP 9=eV:=rfl
theorem ku:ah qP 10=cZ:=rfl
theorem kX:ah qP 11=dQ:=rfl
theorem lP:ah qP 17=fE:=rfl
theorem oV:ah qP 20=kP:=rfl
theorem kB:ah qP 22=dg:=rfl
theorem lQ:ah Jy 24=gr:=rfl
theorem g9:ah Fv 6=bU:=rfl
theorem kD:ah Fv 25=gu:=rfl
theorem jK:ah B5 6=bU:=rfl
theorem nN:ah B5 24=gr:=rfl
theorem nO:ah B5 25=gu:=rfl
theorem kE:ah Fw 26=fY:=rfl
theorem nP:ah Fw 27=mY:=rfl
theorem jc:ah nL 10=cZ:=rfl
theorem jL:ah nL 17=fE:=rfl
theorem kF:ah nL 28=iX:=rfl
theorem je:ah nL 29=eW:=rfl
theorem lq:ah iH 0=bO:=rfl
theorem uS:ah iH 3=mX:=rfl
theorem rN:ah iH 4=kj:=rfl
theorem rO:ah iH 5=ko:=rfl
theorem xy:ah iH 8=qM:=rfl
theorem qQ:ah iH 19=gq:=rfl
theorem uU:ah iH 20=kP:=rfl
theorem mZ:ah iH 22=dg:=rfl
theorem lu:ah iH 23=kr:=rfl
theorem oW:ah iH 31=gW:=rfl
theorem qR:ah iH 32=iY:=rfl
theorem i0:cE RD UI:=Ei
theorem Fy:Imp xq bO:=bw (au i0) (by decide +kernel)
theorem i1:cE RE UJ:=ay i0 Fy
theorem xA:Imp oj fS:=bw (au i1) (by decide +kernel)
theorem i2:cE RG pF:=ay i1 xA
theorem B6:Imp tB iU:=bw (au i2) (by decide +kernel)
theorem i3:cE RH xW:=ay i2 B6
theorem Jz:Imp Au mX:=bw (au i3) (by decide +kernel)
theorem i4:cE RI UK:=ay i3 Jz
theorem Fz:Imp xr kj:=bw (au i4) (by decide +kernel)
theorem i5:cE RJ UL:=ay i4 Fz
theorem FA:Imp xu ko:=bw (au i5) (by decide +kernel)
theorem i6:cE RK UM:=ay i5 FA
theorem qS:Imp kh bU:=bw (au i6) (by decide +kernel)
theorem i7:cE RM Sx:=ay i6 qS
theorem B7:Imp tD gp:=bw (au i7) (by decide +kernel)
theorem i8:cE RP NH:=ay i7 B7
theorem NS:Imp EN qM:=Jv (n:=1) (by decide) (au i8) (by decide +kernel)
theorem i9:cE RQ UN:=ay i8 NS
theorem uV:Imp mT eV:=bw (au i9) (by decide +kernel)
theorem VA:cE EO Jw:=ay i9 uV
theorem uW:Imp mU cZ:=bw (au VA) (by decide +kernel)
theorem VB:cE ES NI:=ay VA uW
theorem xB:Imp om dQ:=bw (au VB) (by decide +kernel)
theorem i12:cE ET NJ:=ay VB xB
theorem xC:Imp oq fT:=bw (au i12) (by decide +kernel)
theorem VC:cE EU NK:=ay i12 xC
theorem xD:Imp ou fU:=bw (au VC) (by decide +kernel)
theorem VD:cE EW NL:=ay VC xD
theorem xE:Imp oz fV:=bw (au VD) (by decide +kernel)
theorem VE:cE EY Fp:=ay VD xE
theorem xF:Imp oA fW:=bw (au VE) (by decide +kernel)
theorem VF:cE EZ Fq:=ay VE xF
theorem xG:Imp oB fX:=bw (au VF) (by decide +kernel)
theorem VG:cE E1 Jx:=ay VF xG
theorem zb:Imp qK fE:=bw (au VG) (by decide +kernel)
theorem VH:cE E2 kq:=ay VG zb
theorem B8:Imp tE iV:=bw (au VH) (by decide +kernel)
theorem VI:cE E4 NN:=ay VH B8
theorem B9:Imp tF gq:=bw (au VI) (by decide +kernel)
theorem VJ:cE E5 Ft:=ay VI B9
theorem JA:Imp Av kP:=bw (au VJ) (by decide +kernel)
theorem VL:cE E6 NO:=ay VJ JA
theorem Ca:Imp tG iW:=bw (au VL) (by decide +kernel)
theorem VM:cE E7 qO:=ay VL Ca
theorem uX:Imp mV dg:=bw (au VM) (by decide +kernel)
theorem VN:cE E8 qP:=ay VM uX
theorem FD:Imp xw kr:=Js (au VN) (by decide +kernel)
theorem VO:cE E9 NP:=ay VN FD
theorem Cb:Imp tH gr:=bw (au VO) (by decide +kernel)
theorem VP:cE Fb Jy:=ay VO Cb
theorem Cc:Imp tK gu:=bw (au VP) (by decide +kernel)
theorem VQ:cE Fc Fv:=ay VP Cc
theorem xH:Imp oE fY:=bw (au VQ) (by decide +kernel)
theorem VS:cE Fd B5:=ay VQ xH
theorem JB:Imp Aw mY:=bw (au VS) (by decide +kernel)
theorem VT:cE Fe Fw:=ay VS JB
theorem Cd:Imp tL iX:=bw (au VT) (by decide +kernel)
theorem VU:cE Ff NQ:=ay VT Cd
theorem uY:Imp mW eW:=bw (au VU) (by decide +kernel)
theorem VW:cE B4 nL:=ay VU uY
theorem xK:Imp ki oF:=Ey
theorem VX:cE Fg rM:=ay VW xK
theorem zc:Imp qL gW:=bw (au VX) (by decide +kernel)
theorem VY:cE Fi NR:=ay VX zc
theorem Ce:Imp tM iY:=bw (au VY) (by decide +kernel)
theorem Xr:cE Fj iH:=ay VY Ce
theorem RS:∀k,wV (look Fj k) (mu k):=λk=>by
 unfold mu
 split
 ·rename_i h;subst h;show wV ki _;exact EA (Φ:=look B4) (by decide) (au VW)
 ·exact tu
theorem JC{ns:List Int}{f:Bool}(e:Fx [.rl (ns.map .int)]=.ok (f,.bl true)):∃h',Fo [.rl (ns.map .int)] []=.ok (.bl true) h':=B3 (au Xr) RS (by decide +kernel) e
theorem c0:aM EB EB (af (top 24))=true:=by decide +kernel
theorem d0:aT ⟨EB,af (top 24),RD.map (λr=>(r.1,r.2.1)),cons,tb⟩ iR (aq (top 24))=true:=by decide +kernel
theorem c1:aM NC ["_law_cell_here","_law_big"] (af (top 26))=true:=by decide +kernel
theorem d1:aT ⟨NC,af (top 26),RE.map (λr=>(r.1,r.2.1)),cons,tb⟩ eB (aq (top 26))=true:=by decide +kernel
theorem c2:aM ND RB (af (top 27))=true:=by decide +kernel
theorem d2:aT ⟨ND,af (top 27),RG.map (λr=>(r.1,r.2.1)),cons,tb⟩ gK (aq (top 27))=true:=by decide +kernel
theorem c3:aM NF RC (af (top 28))=true:=by decide +kernel
theorem d3:aT ⟨NF,af (top 28),RH.map (λr=>(r.1,r.2.1)),cons,tb⟩ j9 (aq (top 28))=true:=by decide +kernel
theorem c4:aM EC EC (af (top 36))=true:=by decide +kernel
theorem d4:aT ⟨EC,af (top 36),RI.map (λr=>(r.1,r.2.1)),cons,tb⟩ iS (aq (top 36))=true:=by decide +kernel
theorem c5:aM oS oS (af (top 29))=true:=by decide +kernel
theorem d5:aT ⟨oS,af (top 29),RJ.map (λr=>(r.1,r.2.1)),cons,tb⟩ iT (aq (top 29))=true:=by decide +kernel
theorem c6:aM NG ["poles","ties"] (af (top 6))=true:=by decide +kernel
theorem d6:aT ⟨NG,af (top 6),RK.map (λr=>(r.1,r.2.1)),cons,tb⟩ cF (aq (top 6))=true:=by decide +kernel
theorem c7:aM jv jv (af (top 7))=true:=by decide +kernel
theorem d7:aT ⟨jv,af (top 7),RM.map (λr=>(r.1,r.2.1)),cons,tb⟩ gM (aq (top 7))=true:=by decide +kernel
theorem c8:aM xh xh (af (cN 0))=true:=by decide +kernel
theorem d8:aT ⟨xh,af (cN 0),RP.map (λr=>(r.1,r.2.1)),cons,tb⟩ mQ (aq (cN 0))=true:=by decide +kernel
theorem c9:aM dP dP (af (cN 5))=true:=by decide +kernel
theorem d9:aT ⟨dP,af (cN 5),RQ.map (λr=>(r.1,r.2.1)),cons,tb⟩ dD (aq (cN 5))=true:=by decide +kernel
theorem Xs:aM dP dP (af (cN 1))=true:=by decide +kernel
theorem Xu:aT ⟨dP,af (cN 1),EO.map (λr=>(r.1,r.2.1)),cons,tb⟩ dF (aq (cN 1))=true:=by decide +kernel
theorem Xv:aM dP dP (af (cN 2))=true:=by decide +kernel
theorem Xw:aT ⟨dP,af (cN 2),ES.map (λr=>(r.1,r.2.1)),cons,tb⟩ eE (aq (cN 2))=true:=by decide +kernel
theorem c12:aM jv jv (af (top 18))=true:=by decide +kernel
theorem Xx:aT ⟨jv,af (top 18),ET.map (λr=>(r.1,r.2.1)),cons,tb⟩ eF (aq (top 18))=true:=by decide +kernel
theorem Xy:aM ED ["places","pairs"] (af (top 17))=true:=by decide +kernel
theorem Xz:aT ⟨ED,af (top 17),EU.map (λr=>(r.1,r.2.1)),cons,tb⟩ eG (aq (top 17))=true:=by decide +kernel
theorem XA:aM EE jv (af (top 8))=true:=by decide +kernel
theorem XC:aT ⟨EE,af (top 8),EW.map (λr=>(r.1,r.2.1)),cons,tb⟩ eL (aq (top 8))=true:=by decide +kernel
theorem XD:aM ["net","firsts"] jv (af (top 19))=true:=by decide +kernel
theorem XE:aT ⟨["net","firsts"],af (top 19),EY.map (λr=>(r.1,r.2.1)),cons,tb⟩ eN (aq (top 19))=true:=by decide +kernel
theorem XF:aM jv jv (af (top 20))=true:=by decide +kernel
theorem XG:aT ⟨jv,af (top 20),EZ.map (λr=>(r.1,r.2.1)),cons,tb⟩ eO (aq (top 20))=true:=by decide +kernel
theorem XH:aM dP dP (af (cN 3))=true:=by decide +kernel
theorem XI:aT ⟨dP,af (cN 3),E1.map (λr=>(r.1,r.2.1)),cons,tb⟩ fQ (aq (cN 3))=true:=by decide +kernel
theorem XJ:aM EF ["_law_net_here","_law_row"] (af (top 32))=true:=by decide +kernel
theorem XM:aT ⟨EF,af (top 32),E2.map (λr=>(r.1,r.2.1)),cons,tb⟩ gO (aq (top 32))=true:=by decide +kernel
theorem XO:aM oS oS (af (top 30))=true:=by decide +kernel
theorem XQ:aT ⟨oS,af (top 30),E4.map (λr=>(r.1,r.2.1)),cons,tb⟩ gP (aq (top 30))=true:=by decide +kernel
theorem XR:aM EG oS (af (top 33))=true:=by decide +kernel
theorem XS:aT ⟨EG,af (top 33),E5.map (λr=>(r.1,r.2.1)),cons,tb⟩ kc (aq (top 33))=true:=by decide +kernel
theorem XT:aM qI qI (af (top 25))=true:=by decide +kernel
theorem XU:aT ⟨qI,af (top 25),E6.map (λr=>(r.1,r.2.1)),cons,tb⟩ gQ (aq (top 25))=true:=by decide +kernel
theorem XW:aM EH qI (af (top 35))=true:=by decide +kernel
theorem XX:aT ⟨EH,af (top 35),E7.map (λr=>(r.1,r.2.1)),cons,tb⟩ dG (aq (top 35))=true:=by decide +kernel
theorem XY:aM EI Kn (af (top 37))=true:=by decide +kernel
theorem XZ:aT ⟨EI,af (top 37),E8.map (λr=>(r.1,r.2.1)),cons,tb⟩ fD (aq (top 37))=true:=by decide +kernel
theorem X0:aM EJ iA (af (top 9))=true:=by decide +kernel
theorem X3:aT ⟨EJ,af (top 9),E9.map (λr=>(r.1,r.2.1)),cons,tb⟩ gR (aq (top 9))=true:=by decide +kernel
theorem X4:aM iA iA (af (top 11))=true:=by decide +kernel
theorem X5:aT ⟨iA,af (top 11),Fb.map (λr=>(r.1,r.2.1)),cons,tb⟩ gS (aq (top 11))=true:=by decide +kernel
theorem X6:aM iA iA (af (top 12))=true:=by decide +kernel
theorem X7:aT ⟨iA,af (top 12),Fc.map (λr=>(r.1,r.2.1)),cons,tb⟩ eT (aq (top 12))=true:=by decide +kernel
theorem X8:aM EK iA (af (top 13))=true:=by decide +kernel
theorem Yb:aT ⟨EK,af (top 13),Fd.map (λr=>(r.1,r.2.1)),cons,tb⟩ kg (aq (top 13))=true:=by decide +kernel
theorem Yc:aM xj xj (af (top 14))=true:=by decide +kernel
theorem Yd:aT ⟨xj,af (top 14),Fe.map (λr=>(r.1,r.2.1)),cons,tb⟩ gT (aq (top 14))=true:=by decide +kernel
theorem Ye:aM ["side"] ["side"] (af (top 15))=true:=by decide +kernel
theorem Yg:aT ⟨["side"],af (top 15),Ff.map (λr=>(r.1,r.2.1)),cons,tb⟩ dH (aq (top 15))=true:=by decide +kernel
theorem Yh:aM EL ["self","side","tie"] (af (cN 4))=true:=by decide +kernel
theorem Yi:aT ⟨EL,af (cN 4),B4.map (λr=>(r.1,r.2.1)),cons,tb⟩ jw (aq (cN 4))=true:=by decide +kernel
theorem Yj:aM EM Ko (af (top 31))=true:=by decide +kernel
theorem Yk:aT ⟨EM,af (top 31),Fg.map (λr=>(r.1,r.2.1)),cons,tb⟩ fR (aq (top 31))=true:=by decide +kernel
theorem Yl:aM xm xm (af (top 34))=true:=by decide +kernel
theorem Ym:aT ⟨xm,af (top 34),Fi.map (λr=>(r.1,r.2.1)),cons,tb⟩ gU (aq (top 34))=true:=by decide +kernel
theorem Yn:aM Kp ["_law_script"] (af (top 38))=true:=by decide +kernel
theorem Yo:aT ⟨Kp,af (top 38),Fj.map (λr=>(r.1,r.2.1)),cons,tb⟩ qJ (aq (top 38))=true:=by decide +kernel
section
variable {P:Program} {w:World} {K:Frag} {mg:Str->Option Value} {base:Heap}
theorem all_mk{l:PySem.W.OpenLaw}{h:Heap}{fa:Addr}(X:K.In h)(G:h.Ns mainGlobals mg)(Yp:mg "law" = some (.ref fa))(hφ:∀ns:List Int,ns.length<=63->∃h',Fo [.rl (ns.map .int)] []=.ok (.bl true) h'){D0:Addr}{a0:Addr}{a1:Addr}{a2:Addr}{a3:Addr}{a4:Addr}{a5:Addr}{a6:Addr}{a7:Addr}{a8:Addr}{a9:Addr}{Sy:Addr}{Sz:Addr}{VZ:Addr}{V0:Addr}{V1:Addr}{V3:Addr}{V4:Addr}{SA:Addr}{V5:Addr}{V6:Addr}{V7:Addr}{V8:Addr}{V9:Addr}{Wa:Addr}{Wb:Addr}{Wc:Addr}{Wd:Addr}{We:Addr}{Wf:Addr}{Wg:Addr}{SD:Addr}{Wh:Addr}{a32:Addr}{Wi:Addr}
  (DA0:nsIn K mainGlobals "Play" = some (some (.ref D0))) (DG0:plainGet K D0 Str.empty=true) (DH0:hasDictIn K D0=true) (DO0:plainOver K D0=true) (DS0:findIn K (.ref D0) "__setattr__" = some (some (.builtin "object.__setattr__"))) (DM0:makesIn K D0=true) (DK0:keepIn K (.ref D0)=true)
  (DN0_0:findIn K (.ref D0) "net" = some none)
  (DN0_1:findIn K (.ref D0) "side" = some none)
  (DN0_2:findIn K (.ref D0) "done" = some none)
  (A0:nsIn K mainGlobals "_law_cell" = some (some (.ref a0)))
  (F0:jn K "_law_cell" "_law_cell" (top 24) a0)
  (A1:nsIn K mainGlobals "_law_numbers" = some (some (.ref a1)))
  (F1:jn K "_law_numbers" "_law_numbers" (top 26) a1)
  (A2:nsIn K mainGlobals "_law_pairs" = some (some (.ref a2)))
  (F2:jn K "_law_pairs" "_law_pairs" (top 27) a2)
  (A3:nsIn K mainGlobals "_law_net" = some (some (.ref a3)))
  (F3:jn K "_law_net" "_law_net" (top 28) a3)
  (A4:nsIn K mainGlobals "_law_side" = some (some (.ref a4)))
  (F4:jn K "_law_side" "_law_side" (top 36) a4)
  (A5:nsIn K mainGlobals "_law_copy" = some (some (.ref a5)))
  (F5:jn K "_law_copy" "_law_copy" (top 29) a5)
  (A6:nsIn K mainGlobals "put_in_order" = some (some (.ref a6)))
  (F6:jn K "put_in_order" "put_in_order" (top 6) a6)
  (A7:nsIn K mainGlobals "own_net" = some (some (.ref a7)))
  (F7:jn K "own_net" "own_net" (top 7) a7)
  (A8:findIn K (.ref D0) "__init__" = some (some (.ref a8))) (I8:isFn K (.ref a8)=true)
  (F8:jn K "__init__" "Play.__init__" (cN 0) a8)
  (M0_9:findIn K (.ref D0) "deeds" = some (some (.ref a9)))
  (I9:isFn K (.ref a9)=true)
  (F9:jn K "deeds" "Play.deeds" (cN 5) a9)
  (M0_10:findIn K (.ref D0) "lying" = some (some (.ref Sy)))
  (I10:isFn K (.ref Sy)=true)
  (F10:jn K "lying" "Play.lying" (cN 1) Sy)
  (M0_11:findIn K (.ref D0) "turn" = some (some (.ref Sz)))
  (I11:isFn K (.ref Sz)=true)
  (F11:jn K "turn" "Play.turn" (cN 2) Sz)
  (A12:nsIn K mainGlobals "is_linked" = some (some (.ref VZ)))
  (F12:jn K "is_linked" "is_linked" (top 18) VZ)
  (A13:nsIn K mainGlobals "firsts_by" = some (some (.ref V0)))
  (F13:jn K "firsts_by" "firsts_by" (top 17) V0)
  (A14:nsIn K mainGlobals "places_of" = some (some (.ref V1)))
  (F14:jn K "places_of" "places_of" (top 8) V1)
  (A15:nsIn K mainGlobals "is_parted" = some (some (.ref V3)))
  (F15:jn K "is_parted" "is_parted" (top 19) V3)
  (A16:nsIn K mainGlobals "winner_of" = some (some (.ref V4)))
  (F16:jn K "winner_of" "winner_of" (top 20) V4)
  (M0_17:findIn K (.ref D0) "won" = some (some (.ref SA)))
  (I17:isFn K (.ref SA)=true)
  (F17:jn K "won" "Play.won" (cN 3) SA)
  (A18:nsIn K mainGlobals "_law_marks" = some (some (.ref V5)))
  (F18:jn K "_law_marks" "_law_marks" (top 32) V5)
  (A19:nsIn K mainGlobals "_law_names" = some (some (.ref V6)))
  (F19:jn K "_law_names" "_law_names" (top 30) V6)
  (A20:nsIn K mainGlobals "_law_won" = some (some (.ref V7)))
  (F20:jn K "_law_won" "_law_won" (top 33) V7)
  (A21:nsIn K mainGlobals "_law_whole" = some (some (.ref V8)))
  (F21:jn K "_law_whole" "_law_whole" (top 25) V8)
  (A22:nsIn K mainGlobals "_law_net_like" = some (some (.ref V9)))
  (F22:jn K "_law_net_like" "_law_net_like" (top 35) V9)
  (A23:nsIn K mainGlobals "_law_same" = some (some (.ref Wa)))
  (F23:jn K "_law_same" "_law_same" (top 37) Wa)
  (A24:nsIn K mainGlobals "ends_of" = some (some (.ref Wb)))
  (F24:jn K "ends_of" "ends_of" (top 9) Wb)
  (A25:nsIn K mainGlobals "without" = some (some (.ref Wc)))
  (F25:jn K "without" "without" (top 11) Wc)
  (A26:nsIn K mainGlobals "taken_out" = some (some (.ref Wd)))
  (F26:jn K "taken_out" "taken_out" (top 12) Wd)
  (A27:nsIn K mainGlobals "drawn" = some (some (.ref We)))
  (F27:jn K "drawn" "drawn" (top 13) We)
  (A28:nsIn K mainGlobals "done_by" = some (some (.ref Wf)))
  (F28:jn K "done_by" "done_by" (top 14) Wf)
  (A29:nsIn K mainGlobals "other_side" = some (some (.ref Wg)))
  (F29:jn K "other_side" "other_side" (top 15) Wg)
  (M0_30:findIn K (.ref D0) "deed" = some (some (.ref SD)))
  (I30:isFn K (.ref SD)=true)
  (F30:jn K "deed" "Play.deed" (cN 4) SD)
  (A31:nsIn K mainGlobals "_law_behind" = some (some (.ref Wh)))
  (F31:jn K "_law_behind" "_law_behind" (top 31) Wh)
  (A32:nsIn K mainGlobals "_law_other" = some (some (.ref a32)))
  (F32:jn K "_law_other" "_law_other" (top 34) a32)
  (A33:nsIn K mainGlobals "law" = some (some (.ref Wi)))
  (F33:jn K "law" "law" (top 38) Wi)
  (Z:∀x∈bltNames,nsIn K mainGlobals x=some none) :
  ∃fd:FuncData,(∀(s:Shared) (v:Value),BindsTo s fd ⟨[v],[]⟩ [("_law_script",v)])/\∀base:Heap,K.In base->base.Ns mainGlobals mg->fG l.prog w K mg base yo 68 fa fd ["_law_script"] (Ss K):=by
 have e:=Yp.symm.trans (Zy X G A33);cases e;obtain⟨cl,hcl⟩:∃cl:Nat->Addr,cl=λn=>if n=0 then D0 else if n=1009 then a9 else if n=1010 then Sy else if n=1011 then Sz else if n=1017 then SA else if n=1030 then SD else 0:=⟨_,rfl⟩
 have T:Base K cl mg cons tb:=by
  subst hcl;refine⟨λx hx=>?_,λp hp=>?_,λc hc=>?_,λp hp=>?_,λp hp=>?_,λp hp=>?_⟩
  ·exact PySem.W.mg_none_of X G (Z x hx)
  ·simp[cons]at hp
  ·have hc:c<1:=hc
   match c,hc with
   |0,_=>
    refine⟨⟨DG0,DH0,DO0,DS0⟩,λx hx=>?_⟩;simp only[tb,mem_cons,not_mem_nil,or_false]at hx
    rcases hx with rfl|rfl|rfl
    ·exact DN0_0
    ·exact DN0_1
    ·exact DN0_2
  ·simp only[tb,mem_cons,not_mem_nil,or_false]at hp
   rcases hp with rfl|rfl|rfl|rfl|rfl
   ·exact⟨M0_9,I9,F9.kp⟩
   ·exact⟨M0_10,I10,F10.kp⟩
   ·exact⟨M0_11,I11,F11.kp⟩
   ·exact⟨M0_17,I17,F17.kp⟩
   ·exact⟨M0_30,I30,F30.kp⟩
  ·simp[tb]at hp
  ·simp[tb]at hp
 obtain⟨fd,F⟩:=F33;obtain⟨_,_,_,_,_,_,_,_,_,e,_⟩:=F.ex;refine⟨fd,λs v=>by rw[e];exact .of_eq rfl,λbase _ _=>?_⟩;have G0:bQ l.prog w ⟨K,cl⟩ mg base 0 RD:=all_nil;have G1:bQ l.prog w ⟨K,cl⟩ mg base 2 RE:=cg (x:="_law_cell") (N:=EB) (ps:=EB) (body:=iR) T G0 F0 (Zy X G A0) c0 d0 (by decide) (by intro _ _ _ _ _ _ _ l;apply ln2 l;intros;rfl);have G2:bQ l.prog w ⟨K,cl⟩ mg base 4 RG:=cg (x:="_law_numbers") (N:=NC) (ps:=["_law_cell_here","_law_big"]) (body:=eB) T G1 F1 (Zy X G A1) c1 d1 (by decide) (by intro _ _ _ _ _ _ _ l;apply ln2 l;intros;rfl);have G3:bQ l.prog w ⟨K,cl⟩ mg base 6 RH:=cg (x:="_law_pairs") (N:=ND) (ps:=RB) (body:=gK) T G2 F2 (Zy X G A2) c2 d2 (by decide) (by intro _ _ _ _ _ _ _ l;apply Vr l;intros;rfl);have G4:bQ l.prog w ⟨K,cl⟩ mg base 8 RI:=cg (x:="_law_net") (N:=NF) (ps:=RC) (body:=j9) T G3 F3 (Zy X G A3) c3 d3 (by decide) (by intro _ _ _ _ _ _ _ l;apply Qw l;intros;rfl);have G5:bQ l.prog w ⟨K,cl⟩ mg base 10 RJ:=cg (x:="_law_side") (N:=EC) (ps:=EC) (body:=iS) T G4 F4 (Zy X G A4) c4 d4 (by decide) (by intro _ _ _ _ _ _ _ l;apply wB l;intros;rfl);have G6:bQ l.prog w ⟨K,cl⟩ mg base 12 RK:=cg (x:="_law_copy") (N:=oS) (ps:=oS) (body:=iT) T G5 F5 (Zy X G A5) c5 d5 (by decide) (by intro _ _ _ _ _ _ _ l;apply wB l;intros;rfl);have G7:bQ l.prog w ⟨K,cl⟩ mg base 14 RM:=cg (x:="put_in_order") (N:=NG) (ps:=["poles","ties"]) (body:=cF) T G6 F6 (Zy X G A6) c6 d6 (by decide) (by intro _ _ _ _ _ _ _ l;apply ln2 l;intros;rfl);have G8:bQ l.prog w ⟨K,cl⟩ mg base 16 RP:=cg (x:="own_net") (N:=jv) (ps:=jv) (body:=gM) T G7 F7 (Zy X G A7) c7 d7 (by decide) (by intro _ _ _ _ _ _ _ l;apply wB l;intros;rfl);have G9:bQ l.prog w ⟨K,cl⟩ mg base 18 RQ:=MN (x:="Play") (N:=xh) (ps:=xh) (body:=mQ) (n:=2) (f:=a8) (c:=0) T G8 F8 (by rw[hcl];exact Zy X G DA0) (by rw[hcl];exact⟨DM0,A8,I8,DK0⟩) c8 d8 rfl (by decide) (by intro _ _ _ _ _ _ _ l;apply Qw l;intros;rfl);have Yq:bQ l.prog w ⟨K,cl⟩ mg base 20 EO:=wC (y:="Play.deeds") (N:=dP) (ps:=dP) (body:=dD) T G9 F9 (by rw[hcl];rfl) c9 d9 (by intro _ _ _ _ _ _ _ l;apply wB l;intros;rfl);have Yr:bQ l.prog w ⟨K,cl⟩ mg base 22 ES:=wC (y:="Play.lying") (N:=dP) (ps:=dP) (body:=dF) T Yq F10 (by rw[hcl];rfl) Xs Xu (by intro _ _ _ _ _ _ _ l;apply wB l;intros;rfl);have Ys:bQ l.prog w ⟨K,cl⟩ mg base 24 ET:=wC (y:="Play.turn") (N:=dP) (ps:=dP) (body:=eE) T Yr F11 (by rw[hcl];rfl) Xv Xw (by intro _ _ _ _ _ _ _ l;apply wB l;intros;rfl);have Yt:bQ l.prog w ⟨K,cl⟩ mg base 26 EU:=cg (x:="is_linked") (N:=jv) (ps:=jv) (body:=eF) T Ys F12 (Zy X G A12) c12 Xx (by decide) (by intro _ _ _ _ _ _ _ l;apply wB l;intros;rfl);have Yu:bQ l.prog w ⟨K,cl⟩ mg base 28 EW:=cg (x:="firsts_by") (N:=ED) (ps:=["places","pairs"]) (body:=eG) T Yt F13 (Zy X G A13) Xy Xz (by decide) (by intro _ _ _ _ _ _ _ l;apply ln2 l;intros;rfl);have Yv:bQ l.prog w ⟨K,cl⟩ mg base 30 EY:=cg (x:="places_of") (N:=EE) (ps:=jv) (body:=eL) T Yu F14 (Zy X G A14) XA XC (by decide) (by intro _ _ _ _ _ _ _ l;apply wB l;intros;rfl);have Yw:bQ l.prog w ⟨K,cl⟩ mg base 32 EZ:=cg (x:="is_parted") (N:=["net","firsts"]) (ps:=jv) (body:=eN) T Yv F15 (Zy X G A15) XD XE (by decide) (by intro _ _ _ _ _ _ _ l;apply wB l;intros;rfl);have Yx:bQ l.prog w ⟨K,cl⟩ mg base 34 E1:=cg (x:="winner_of") (N:=jv) (ps:=jv) (body:=eO) T Yw F16 (Zy X G A16) XF XG (by decide) (by intro _ _ _ _ _ _ _ l;apply wB l;intros;rfl);have Yy:bQ l.prog w ⟨K,cl⟩ mg base 36 E2:=wC (y:="Play.won") (N:=dP) (ps:=dP) (body:=fQ) T Yx F17 (by rw[hcl];rfl) XH XI (by intro _ _ _ _ _ _ _ l;apply wB l;intros;rfl);have Yz:bQ l.prog w ⟨K,cl⟩ mg base 38 E4:=cg (x:="_law_marks") (N:=EF) (ps:=["_law_net_here","_law_row"]) (body:=gO) T Yy F18 (Zy X G A18) XJ XM (by decide) (by intro _ _ _ _ _ _ _ l;apply ln2 l;intros;rfl);have YA:bQ l.prog w ⟨K,cl⟩ mg base 40 E5:=cg (x:="_law_names") (N:=oS) (ps:=oS) (body:=gP) T Yz F19 (Zy X G A19) XO XQ (by decide) (by intro _ _ _ _ _ _ _ l;apply wB l;intros;rfl);have YB:bQ l.prog w ⟨K,cl⟩ mg base 42 E6:=cg (x:="_law_won") (N:=EG) (ps:=oS) (body:=kc) T YA F20 (Zy X G A20) XR XS (by decide) (by intro _ _ _ _ _ _ _ l;apply wB l;intros;rfl);have YC:bQ l.prog w ⟨K,cl⟩ mg base 44 E7:=cg (x:="_law_whole") (N:=qI) (ps:=qI) (body:=gQ) T YB F21 (Zy X G A21) XT XU (by decide) (by intro _ _ _ _ _ _ _ l;apply wB l;intros;rfl);have YD:bQ l.prog w ⟨K,cl⟩ mg base 46 E8:=cg (x:="_law_net_like") (N:=EH) (ps:=qI) (body:=dG) T YC F22 (Zy X G A22) XW XX (by decide) (by intro _ _ _ _ _ _ _ l;apply wB l;intros;rfl);have YE:bQ l.prog w ⟨K,cl⟩ mg base 48 E9:=cg (x:="_law_same") (N:=EI) (ps:=Kn) (body:=fD) T YD F23 (Zy X G A23) XY XZ (by decide) (by intro _ _ _ _ _ _ _ l;apply Vr l;intros;rfl);have YF:bQ l.prog w ⟨K,cl⟩ mg base 50 Fb:=cg (x:="ends_of") (N:=EJ) (ps:=iA) (body:=gR) T YE F24 (Zy X G A24) X0 X3 (by decide) (by intro _ _ _ _ _ _ _ l;apply ln2 l;intros;rfl);have YG:bQ l.prog w ⟨K,cl⟩ mg base 52 Fc:=cg (x:="without") (N:=iA) (ps:=iA) (body:=gS) T YF F25 (Zy X G A25) X4 X5 (by decide) (by intro _ _ _ _ _ _ _ l;apply ln2 l;intros;rfl);have YH:bQ l.prog w ⟨K,cl⟩ mg base 54 Fd:=cg (x:="taken_out") (N:=iA) (ps:=iA) (body:=eT) T YG F26 (Zy X G A26) X6 X7 (by decide) (by intro _ _ _ _ _ _ _ l;apply ln2 l;intros;rfl);have YI:bQ l.prog w ⟨K,cl⟩ mg base 56 Fe:=cg (x:="drawn") (N:=EK) (ps:=iA) (body:=kg) T YH F27 (Zy X G A27) X8 Yb (by decide) (by intro _ _ _ _ _ _ _ l;apply ln2 l;intros;rfl);have YJ:bQ l.prog w ⟨K,cl⟩ mg base 58 Ff:=cg (x:="done_by") (N:=xj) (ps:=xj) (body:=gT) T YI F28 (Zy X G A28) Yc Yd (by decide) (by intro _ _ _ _ _ _ _ l;apply Qw l;intros;rfl);have YK:bQ l.prog w ⟨K,cl⟩ mg base 60 B4:=cg (x:="other_side") (N:=["side"]) (ps:=["side"]) (body:=dH) T YJ F29 (Zy X G A29) Ye Yg (by decide) (by intro _ _ _ _ _ _ _ l;apply wB l;intros;rfl);have YL:bQ l.prog w ⟨K,cl⟩ mg base 62 Fg:=wC (y:="Play.deed") (N:=EL) (ps:=["self","side","tie"]) (body:=jw) T YK F30 (by rw[hcl];rfl) Yh Yi (by intro _ _ _ _ _ _ _ l;apply Qw l;intros;rfl);have YM:bQ l.prog w ⟨K,cl⟩ mg base 64 Fi:=cg (x:="_law_behind") (N:=EM) (ps:=Ko) (body:=fR) T YL F31 (Zy X G A31) Yj Yk (by decide) (by intro _ _ _ _ _ _ _ l;apply Qw l;intros;rfl);have YN:bQ l.prog w ⟨K,cl⟩ mg base 66 Fj:=cg (x:="_law_other") (N:=xm) (ps:=xm) (body:=gU) T YM F32 (Zy X G A32) Yl Ym (by decide) (by intro _ _ _ _ _ _ _ l;apply wB l;intros;rfl);exact(z8 T YN F Yn Yo).imp (MP hφ)
end
end K61
end
section
open PySem L2 Hv
set_option hygiene false
local macro_rules | `(tactic| simp only[EV,$ls,*] $[$l:location]?)=>`(tactic| simp only[di,Nq,Nr,Ej,Ek,Nt,Nu,Nv,Nx,Ai,QX,QY,QZ,Q0,Q2,Nh,Q3,Ni,Nj,Uq,Q4,Q5,aF,aY,GF,aS,j4,cQ,Su,IM,IL,tU,Vt,Kf,aC,Nf,aZ,Jh,Ng,isVar,jq,List.getElem?_cons_zero,List.getElem?_cons_succ,set_cons_zero,set_cons_succ,map_cons,map_nil,length_cons,length_nil,List.cons_append,List.nil_append,List.replicate_succ,List.replicate_zero,Nat.reduceSub,Nat.reduceAdd,Nat.reduceLeDiff,Q6,Q7,Ur,Us,Ut,Uu,Uv,Uw,Q8,Q9,Ra,Rb,Rc,Rf,Rg,Nk,Nl,Nn,Np,Rh,lJ,bC,qv,Ui,dm,k9,Hv.stored,List.contains_nil,List.contains_cons,List.elem_nil,List.elem_cons,Nat.reduceBEq,Nat.reduceEqDiff,BEq.rfl,List.all_cons,List.all_nil,beq_self_eq_true,qw,iJ,uC,lg,oO,↓reduceIte,Bool.and_true,Bool.true_and,Bool.false_and,Bool.and_false,Bool.or_false,Bool.false_or,Bool.or_true,Bool.true_or,Bool.or_self,zero_le,Bool.not_true,Bool.not_false,false_eq_true,decide_eq_true_eq,not_eq_true',decide_eq_false_iff_not,append_nil,List.nil_append,reduceCtorEq,$ls,*] $[$l:location]?)
section
open PySem L2 Hv
namespace K61
def gY(t:T3):Int×Int:=(t.2.1,t.2.2)
def jD(p q:Int)(ts:List T3):List Int:=p::q::ts.flatMap λt=>[t.2.1,t.2.2]
def JD(p q:Int)(ts:List T3):List Int:=gB (jD p q ts)
theorem nQ(p q:Int)(ts:List T3):(jD p q ts).length=2+2*ts.length:=by
 unfold jD
 induction ts with
 |nil=>rfl
 |cons t r ih=>simp only[List.flatMap_cons,length_cons,length_append,length_nil] at *;omega
theorem xN:∀(ns ks:List Int),(iB ks ns).length<=ks.length+ns.length
 |[],ks=>Zm _
 | k::r,ks=>by
  rw[iB,ZC];have:=xN r (gA ks k);have:=jU ks k;omega
theorem JE{p q:Int}(h:ts.length<=14):(JD p q ts).length<64:=by
 unfold JD gB;rw[(sortI_perm _).length_eq];have:=xN (jD p q ts) [];rw[nQ]at this;simp only[length_nil]at this;omega
theorem pG{p q x:Int}:x∈JD p q ts↔x=p\/x=q\/∃t∈ts,x=t.2.1\/x=t.2.2:=by
 unfold JD;rw[Ep];unfold jD;simp only[mem_cons,List.mem_flatMap,not_mem_nil,or_false]
theorem places_eq{p q:Int}(h:ts.length<=14):fV [ak p q ts]=.ok (true,.rl ((JD p q ts).map .int)):=by
 unfold fV eL ak;simp only[EV,bI iP,bI gh,fO];rw[wK];refine gn aG (λr:Pr FV=>r=.ok (true,.rl ((JD p q ts).map .int)))
  (λdone env=>∃a,env=[some (.sh,ak p q ts),some (.ow,.rl ((jD p q done).map .int)),a])
  ⟨none,rfl⟩ ?_ ?_
 ·rintro pre t post env hx ⟨a,rfl⟩
  refine⟨[some (.sh,ak p q ts),some (.ow,.rl ((jD p q (pre++[t])).map .int)),some (.sh,aG t)],?_,_,rfl⟩;have hpl:pre.length<14:=by have:=ZN length hx;rw[ZA,ZC]at this;omega
  have z:((jD p q pre).map Val.int).length+2<=sizeLine:=by rw[Ze,nQ];unfold sizeLine;omega
  have ea:(jD p q (pre++[t])).map Val.int=(jD p q pre).map Val.int++[.int t.2.1,.int t.2.2]:=by unfold jD;simp
  simp only[EV,aR,Er,z,ea]
 ·rintro env ⟨a,rfl⟩
  have hl:(jD p q ts).length<64:=by rw[nQ];omega
  simp only[EV,ints_map,hl];rfl
end K61
end
section
open PySem L2 Hv
namespace K61
def bV(e:Int×Int):Val:=.tup [.int e.1,.int e.2]
theorem JF{i j:Nat}:bH (.tup [i,j]) (bV e) env=some ((env.set i (some (.sh,.int e.1))).set j (some (.sh,.int e.2))):=rfl
theorem Cf(ps:List Int)(hn:ps.Nodup)(hl:ps.length<64)(es:List (Int×Int))(he:∀e∈es,e.1∈ps/\e.2∈ps):∃f φ,fU [.rl (ps.map .int),.rl (es.map bV)]=.ok (f,vc ps λx=>.int (φ x))/\wN ps es φ:=by
 unfold fU eG;simp only[EV,fO];rw[wK];have hz:∀pre:List Int,pre.length<=ps.length->(pre.map (Sum.inl:Int->Key)).length<sizeLine:=λpre h=>by rw[Ze];unfold sizeLine;omega
 refine gn Val.int (λr:Pr FV=>∃f φ,r=.ok (f,vc ps λx=>.int (φ x))/\wN ps es φ)
  (λdone env=>∃a,env=[some (.sh,.rl (ps.map .int)),some (.sh,.rl (es.map bV)),some (.ow,vc done λx=>.int x),a,none,none,none,none])
  ⟨none,rfl⟩ ?_ ?_
 ·rintro pre x post env hx ⟨a,rfl⟩
  have RT:x∉pre:=by rw[hx,nodup_append]at hn;exact λh=>hn.2.2 x h x (by simp) rfl
  refine⟨[some (.sh,.rl (ps.map .int)),some (.sh,.rl (es.map bV)),some (.ow,vc (pre++[x]) λx=>.int x),some (.sh,.int x),none,none,none,none],?_,_,rfl⟩;simp only[EV,aR,mL,hz pre (by rw[hx];simp),Ak RT];rw[cY (g':=λx=>Val.int x)];intro y _;unfold qE
  split
  ·rename_i e;rw[e]
  ·rfl
 ·rintro env ⟨a,rfl⟩
  simp only[EV,fO];rw[wK];refine gn bV (λr:Pr FV=>∃f φ,r=.ok (f,vc ps λx=>.int (φ x))/\wN ps es φ)
   (λdone env=>∃(φ:Int->Int) (a b c d e:Option (Mk×Val)),env=[some (.sh,.rl (ps.map .int)),some (.sh,.rl (es.map bV)),some (.ow,vc ps λx=>.int (φ x)),a,b,c,d,e]/\wN ps done φ)
   ⟨id,_,_,_,_,_,rfl,wN.start ps⟩ ?_ ?_
  ·rintro pre e post env hx ⟨φ,a,b,c,d,f,rfl,xY⟩
   obtain⟨h1,h2⟩:=he e (by rw[hx];simp);simp only[EV,JF,f9 h1,f9 h2,fO];have hk:∃kept gone:Int,(if φ e.2 < φ e.1 then φ e.2 else φ e.1)=kept/\(if φ e.2 > φ e.1 then φ e.2 else φ e.1)=gone/\((kept = φ e.1/\gone = φ e.2)\/(kept = φ e.2/\gone = φ e.1)):=by
    refine⟨_,_,rfl,rfl,?_⟩
    split<;>split<;>omega
   obtain⟨kept,gone,ek,eg,hk⟩:=hk;rw[ek,eg];refine gn Val.int (λr:Pr u9=>∃env',r=.ok (.nx env')/\∃(φ:Int->Int) (a b c d f:Option (Mk×Val)),env'=[some (.sh,.rl (ps.map .int)),some (.sh,.rl (es.map bV)),some (.ow,vc ps λx=>.int (φ x)),a,b,c,d,f]/\wN ps (pre++[e]) φ)
    (λdone env=>∃a,env=[some (.sh,.rl (ps.map .int)),some (.sh,.rl (es.map bV)),some (.ow,vc ps λx=>.int (if x∈done /\ φ x=gone then kept else φ x)),a,some (.sh,.int e.1),some (.sh,.int e.2),some (.sh,.int kept),some (.sh,.int gone)])
    ⟨a,by simp⟩ ?_ ?_
   ·rintro done x post env hy ⟨a,rfl⟩
    have RT:x∉done:=by rw[hy,nodup_append]at hn;exact λh=>hn.2.2 x h x (by simp) rfl
    have hxs:x∈ps:=by rw[hy];simp
    refine⟨_,?_,some (.sh,.int x),rfl⟩;simp only[EV,aR,f9 hxs,mL,hz ps (Nat.le_refl _),uL hxs,RT,false_and,if_false]
    by_cases hg:φ x=gone
    ·simp only[hg,↓reduceIte]
     rw[cY];intro y _;unfold qE
     by_cases e:y=x
     ·subst e;simp[hg]
     ·simp[e]
    ·simp only[hg,↓reduceIte]
     rw[cY];intro y _
     by_cases e:y=x
     ·subst e;simp[hg]
     ·simp[e]
   ·rintro env ⟨a,rfl⟩;refine⟨_,rfl,(λx=>if φ x=gone then kept else φ x),a,some (.sh,.int e.1),some (.sh,.int e.2),some (.sh,.int kept),some (.sh,.int gone),?_,xY.step h1 h2 kept gone hk⟩;rw[cY];intro y hy;simp[hy]
  ·rintro env ⟨φ,a,b,c,d,e,rfl,xY⟩;simp only[EV,aC];exact⟨_,φ,rfl,xY⟩
end K61
end
section
open PySem L2 Hv
namespace K61
def Apart(p q:Int)(ts:List T3):Prop:=¬ Way (ts.map gY) p q
open Classical in
theorem Cg{p q:Int}(h:ts.length<=14):fW [ak p q ts]=.ok (true,.bl (decide (Apart p q ts))):=by
 have e1:=places_eq (p:=p) (q:=q) h;obtain⟨f,φ,e2,xY⟩:=Cf (JD p q ts) (yY _) (JE h) (ts.map gY) (λe he=>by
  obtain⟨t,ht,rfl⟩:=mem_map.mp he;exact⟨pG.mpr (.inr (.inr ⟨t,ht,.inl rfl⟩)),pG.mpr (.inr (.inr ⟨t,ht,.inr rfl⟩))⟩)
 have hp:p∈JD p q ts:=pG.mpr (.inl rfl);have hq:q∈JD p q ts:=pG.mpr (.inr (.inl rfl));unfold fW eN;have hc:ts.length<=100000:=by omega
 unfold ak at *;simp only[EV,jx,eX,e1,bI iP,bI gh,fO,fM,length_map,hc];rw[b6 aG (λt=>bV (gY t)) ts (λt ht=>by
  simp only[EV,aR,Er];rfl)]
 have em:ts.map (λt=>bV (gY t))=(ts.map gY).map bV:=by rw[ZQ];rfl
 rw[em];simp only[EV,eX,e2,f9 hp,f9 hq,bI iP,bI gh];have:=xY.iff hp hq;unfold Apart;rw[<-this]
 by_cases c:φ p = φ q<;>simp[c]
theorem order_eq{p q:Int}{us:List T3}(hl:us.length<=16):bU [.tup [.int p,.int q],.rl (us.map aG)]=.ok (true,ak (if q<p then q else p) (if q>p then q else p) (iz (us.map turnT))):=by
 unfold bU cF;have z0:0<=sizeLine:=by decide
 have z2:2<=sizeLine:=by decide
 have z3:3<=sizeLine:=by decide
 simp only[EV,fO];rw[wK];refine gn aG (λr:Pr FV=>r=.ok (true,ak (if q<p then q else p) (if q>p then q else p) (iz (us.map turnT))))
  (λdone env=>∃a b c,env=[some (.sh,.tup [.int p,.int q]),some (.sh,.rl (us.map aG)),some (.ow,.rl ((done.map turnT).map aG)),a,b,c])
  ⟨none,none,none,rfl⟩ ?_ ?_
 ·rintro pre t post env hx ⟨a,b,c,rfl⟩
  have hpl:pre.length<16:=by have:=ZN length hx;rw[ZA,ZC]at this;omega
  have z:((pre.map turnT).map aG).length<sizeLine:=by rw[Ze,Ze];unfold sizeLine;omega
  refine⟨[some (.sh,.tup [.int p,.int q]),some (.sh,.rl (us.map aG)),some (.ow,.rl (((pre++[t]).map turnT).map aG)),some (.sh,.int t.1),some (.sh,.int t.2.1),some (.sh,.int t.2.2)],?_,_,_,_,rfl⟩;have ea:((pre++[t]).map turnT).map aG=(pre.map turnT).map aG++[aG (turnT t)]:=by simp
  simp only[EV,pB,z3,z,ea];rfl
 ·rintro env ⟨a,b,c,rfl⟩;simp only[EV,bI iP,bI gh,z2,wQ (show (us.map turnT).length<64 by rw[length_map];omega)];rfl
theorem xP{α:Type}(enc:α -> Val)(Q:aN->Prop)(x:α)(res:FV):∀(us:List α) (env:aN),Q env->x∈us ->
  (∀u∈us,∀env,Q env->(body (enc u) env=.ok (.rt res))\/(u≠x/\∃env',body (enc u) env=.ok (.nx env')/\Q env'))->fq body (us.map enc) env=.ok (.rt res)
 | u::us,env,q,hx,h=>by
  rw[Zo,fq]
  rcases h u (Zk ..) env q with e|⟨ne,env',e,q'⟩
  ·rw[e,aC]
  ·rw[e,aC]
   rcases Zw.mp hx with hx|hx
   ·exact(ne hx.symm).elim
   ·exact xP enc Q x res us env' q' hx λv hv=>h v (Zh _ hv)
theorem Ax{p q:Int}(hn:(ts.map (·.1)).Nodup)(ht:t∈ts):gr [ak p q ts,.int t.1]=.ok (true,bV (gY t)):=by
 unfold gr gR ak;simp only[EV,bI iP,bI gh,fO];rw[xP aG (λenv=>∃a b c,env=[some (.sh,.tup [.tup [.int p,.int q],.rl (ts.map aG)]),some (.sh,.int t.1),a,b,c]) t (true,bV (gY t)) ts _ ⟨none,none,none,rfl⟩ ht]
 ·rfl
 ·rintro u hu env ⟨a,b,c,rfl⟩
  by_cases e:u.1=t.1
  ·left
   have:=zZ hn u hu t ht e;subst this;simp only[EV,pB,decide_true,↓reduceIte];rfl
  ·right
   refine⟨λz=>e (by rw[z]),[some (.sh,.tup [.tup [.int p,.int q],.rl (ts.map aG)]),some (.sh,.int t.1),some (.sh,.int u.1),some (.sh,.int u.2.1),some (.sh,.int u.2.2)],?_,_,_,_,rfl⟩;simp only[EV,pB];simp[e]
def others(ts:List T3)(t:T3):List T3:=ts.filter λu=>!decide (u.1=t.1)
def Ay(e:Int×Int)(a b:Int):Prop:=e=(a,b)\/e=(b,a)
theorem Ay.way{a b:Int}(s:Ay e a b)(h:e∈es):Way es a b:=by
 rcases s with rfl|rfl
 ·exact .fwd (.refl _) h
 ·exact .bwd (.refl _) h
theorem Ay.ne{a b:Int}(s:Ay e a b):e.1=e.2↔a=b:=by
 rcases s with rfl|rfl
 ·exact Iff.rfl
 ·exact eq_comm
theorem Ay.map{a b:Int}(s:Ay e a b)(g:Int->Int):Ay (g e.1,g e.2) (g a) (g b):=by
 rcases s with rfl|rfl
 ·exact .inl rfl
 ·exact .inr rfl
theorem Ay.trans{a b c d:Int}(s:Ay e a b)(k:Ay (a,b) c d):Ay e c d:=by
 rcases k with k|k<;>(injection k with k1 k2;subst k1;subst k2)
 ·exact s
 ·exact s.symm
def uZ(D:List (Int×Int))(f:Int->Int):Prop:=∀x y,f x=f y↔Way D x y
theorem FE(g:uZ D f)(h1:∀e∈es,∃e'∈es',Ay e' (f e.1) (f e.2))(h2:∀e'∈es',∃e∈es,Ay e' (f e.1) (f e.2))(x y:Int):Way es' (f x) (f y)↔Way (es++D) x y:=by
 have up:∀{x y},f x=f y->Way (es++D) x y:=λe=>((g _ _).mp e).mono λe he=>ZF _ he;constructor
 ·have aux:∀u v,Way es' u v->∀x,u=f x->∃y,v=f y/\Way (es++D) x y:=by
   intro u v w
   induction w with
   |refl=>exact λx e=>⟨x,e,.refl _⟩
   |fwd _ m ih=>
    intro x e;obtain⟨y,e1,w1⟩:=ih x e;obtain⟨⟨a,b⟩,he,s⟩:=h2 _ m;have m':(a,b)∈es++D:=mem_append_left _ he
    rcases s with s|s<;>(injection s with s1 s2;dsimp only at s1 s2)
    ·exact⟨b,s2,(w1.trans (up (e1.symm.trans s1))).fwd m'⟩
    ·exact⟨a,s2,(w1.trans (up (e1.symm.trans s1))).bwd m'⟩
   |bwd _ m ih=>
    intro x e;obtain⟨y,e1,w1⟩:=ih x e;obtain⟨⟨a,b⟩,he,s⟩:=h2 _ m;have m':(a,b)∈es++D:=mem_append_left _ he
    rcases s with s|s<;>(injection s with s1 s2;dsimp only at s1 s2)
    ·exact⟨a,s1,(w1.trans (up (e1.symm.trans s2))).bwd m'⟩
    ·exact⟨b,s1,(w1.trans (up (e1.symm.trans s2))).fwd m'⟩
  intro w;obtain⟨z,e,w⟩:=aux _ _ w x rfl;exact w.trans (up e.symm)
 ·intro w
  have st:∀a b,(a,b)∈es++D->Way es' (f a) (f b):=λa b m=>by
   rcases ZP.mp m with m|m
   ·obtain⟨e',he',s⟩:=h1 _ m;exact s.way he'
   ·rw[(g a b).mpr (.fwd (.refl _) m)];exact .refl _
  induction w with
  |refl=>exact .refl _
  |fwd _ m ih=>exact ih.trans (st _ _ m)
  |bwd _ m ih=>exact ih.trans (st _ _ m).symm
theorem uZ.nil:uZ [] id:=λx y=>⟨λe=>by cases e;exact .refl _,λw=>w.const id λe he=>by simp at he⟩
def gj(a b x:Int):Int:=if x=b then a else x
theorem uZ.one(a b:Int):uZ [(a,b)] (gj a b):=λx y=>by
 have ab:Way [(a,b)] a b:=.fwd (.refl _) (by simp);constructor
 ·unfold gj
  intro e;split at e<;>split at e
  ·rename_i h1 h2;rw[h1,h2];exact .refl _
  ·rename_i h1 h2;rw[h1,<-e];exact ab.symm
  ·rename_i h1 h2;rw[h2,e];exact ab
  ·rw[e];exact .refl _
 ·exact λw=>w.const (gj a b) λe he=>by
   rw[Zs]at he;subst he;unfold gj;simp
theorem uZ.comp{a b c d:Int}(g:uZ D f)(s:Ay (c,d) (f a) (f b)):uZ ((a,b)::D) λx=>gj c d (f x):=λx y=>by
 rw[uZ.one c d (f x) (f y),FE (es:=[(a,b)]) (es':=[(c,d)]) g (λe he=>⟨_,Zs.mpr rfl,by rw[Zs]at he;subst he;exact s⟩) (λe he=>⟨_,Zs.mpr rfl,by rw[Zs]at he;subst he;exact s⟩)];exact Iff.rfl
theorem jy:u∈others ts t↔u∈ts/\u.1≠t.1:=by
 unfold others;rw[mem_filter];simp
theorem lR{n:Nat}(h:ts.length<=n):(others ts t).length<=n:=ZE (List.length_filter_le ..) h
def Az(g:Int->Int)(t:T3):T3:=(t.1,g t.2.1,g t.2.2)
theorem ze:lJ (aG t)=true:=rfl
theorem qU{p q:Int}(h:ts.length<=14)(hn:(ts.map (·.1)).Nodup)(ht:t∈ts):gu [ak p q ts,.int t.1]=.ok (true,.rl ((others ts t).map aG)):=by
 have e1:=Ax (p:=p) (q:=q) hn ht;unfold gu gS;have hc:ts.length<=100000:=by omega
 unfold ak at *;simp only[EV,lQ,e1,bI gh,fO,fM,length_map,hc];rw[lO aG aG (λu=>!decide (u.1=t.1)) ts (λu hu=>by
  have i0:jm [] (aG u) (.int 0)=some (.int u.1):=rfl;simp only[EV,aR,i0,ze]
  by_cases c:u.1=t.1<;>simp[c])]
 rfl
theorem FF{p q:Int}(h:ts.length<=14)(hn:(ts.map (·.1)).Nodup)(ht:t∈ts):fY [ak p q ts,.int t.1]=.ok (true,ak (if q<p then q else p) (if q>p then q else p) (iz ((others ts t).map turnT))):=by
 have e1:=qU (p:=p) (q:=q) h hn ht;have e2:=order_eq (p:=p) (q:=q) (us:=others ts t) (ZE (lR h) (by decide));unfold fY eT;unfold ak at e1 |-;simp only[EV,kD,g9,e1,bI iP,e2];rfl
theorem JG{a b x:Int}:BA [] (.dc [Sum.inl b] [.int a]) (.inl x)=some (if x=b then some (.int a) else none):=by
 show some (cT [((Sum.inl b:Key),Val.int a)] (.inl x))=_;unfold cT
 by_cases c:x=b
 ·subst c;simp
 ·have c':¬ b=x:=λz=>c z.symm;simp[c,c']
theorem AA{a b x:Int}:(if x=b then some (Val.int a) else none).getD (.int x)=.int (gj a b x):=by
 unfold gj;split<;>rfl
theorem AB:Ds [] (.dc ks vs)=some ():=rfl
theorem NT:jm [] (bV e) (.int 0)=some (.int e.1):=rfl
theorem NU:jm [] (bV e) (.int 1)=some (.int e.2):=rfl
theorem FG{p q:Int}(h:ts.length<=14)(hn:(ts.map (·.1)).Nodup)(ht:t∈ts):mY [ak p q ts,.int t.1]=.ok (true,ak (turnT (0,gj t.2.1 t.2.2 p,gj t.2.1 t.2.2 q)).2.1 (turnT (0,gj t.2.1 t.2.2 p,gj t.2.1 t.2.2 q)).2.2 (iz (((others ts t).map (Az (gj t.2.1 t.2.2))).map turnT))):=by
 have e1:=qU (p:=p) (q:=q) h hn ht;have e0:=Ax (p:=p) (q:=q) hn ht;have e2:=order_eq (p:=gj t.2.1 t.2.2 p) (q:=gj t.2.1 t.2.2 q) (us:=(others ts t).map (Az (gj t.2.1 t.2.2))) (by rw[Ze];exact ZE (lR h) (by decide));have z2:2<=sizeLine:=by decide
 have z3:3<=sizeLine:=by decide
 have z0:0<=sizeLine:=by decide
 unfold mY kg;unfold ak at e1 e0 |-;have ee:∀t:T3,(gY t).1=t.2.1/\(gY t).2=t.2.2:=λ_=>⟨rfl,rfl⟩;simp only[EV,nN,nO,e0,e1,NT,NU,ee,bI iP,bI gh,mL,AB,JG,AA,fO,z0,z2]
 repeat rw[wK]
 refine gn aG (λr:Pr FV=>r=.ok (true,.tup [.tup [.int (turnT (0,gj t.2.1 t.2.2 p,gj t.2.1 t.2.2 q)).2.1,.int (turnT (0,gj t.2.1 t.2.2 p,gj t.2.1 t.2.2 q)).2.2],.rl ((iz (((others ts t).map (Az (gj t.2.1 t.2.2))).map turnT)).map aG)]))
  (λdone env=>∃m1 m2 a b c,env=[some (.sh,.tup [.tup [.int p,.int q],.rl (ts.map aG)]),some (.sh,.int t.1),some (m1,bV (gY t)),some (.nw,.dc [Sum.inl t.2.2] [.int t.2.1]),some (m2,.tup [.int (gj t.2.1 t.2.2 p),.int (gj t.2.1 t.2.2 q)]),some (.ow,.rl ((done.map (Az (gj t.2.1 t.2.2))).map aG)),a,b,c])
  ⟨_,_,none,none,none,rfl⟩ ?_ ?_
 ·rintro pre u post env hx ⟨m1,m2,a,b,c,rfl⟩
  have hpl:pre.length<14:=by have:=ZN length hx;rw[ZA,ZC]at this;have:=lR (t:=t) h;omega
  have z:((pre.map (Az (gj t.2.1 t.2.2))).map aG).length<sizeLine:=by rw[Ze,Ze];unfold sizeLine;omega
  have ea:((pre++[u]).map (Az (gj t.2.1 t.2.2))).map aG=(pre.map (Az (gj t.2.1 t.2.2))).map aG++[aG (Az (gj t.2.1 t.2.2) u)]:=by simp
  refine⟨_,?_,m1,m2,some (.sh,.int u.1),some (.sh,.int u.2.1),some (.sh,.int u.2.2),rfl⟩;simp only[EV,pB,mL,AB,JG,AA,z3,z,ea];rfl
 ·rintro env ⟨m1,m2,a,b,c,rfl⟩;simp only[EV,jK,e2];rfl
theorem AD:∀{l l':List T3},sZ l->sZ l'->l.Perm l'->l=l'
 |[],_,_,_,h=>(List.nil_perm.mp h).symm
 |x::r,[],_,_,h=>absurd h.length_eq (by simp)
 | x::r,y::r',u,u',h=>by
  unfold sZ at u u';rw[pairwise_cons]at u u';have e:x=y:=by
   rcases Zw.mp (h.mem_iff.mp Zk) with e|m
   ·exact e
   ·rcases Zw.mp (h.mem_iff.mpr Zk) with e|m'
    ·exact e.symm
    ·have:=u.1 y m';have:=u'.1 x m;omega
  subst e;rw[AD u.2 u'.2 h.cons_inv]
theorem FH(h:sZ l):(l.map (·.1)).Nodup:=by
 unfold sZ at h;rw[List.Nodup,pairwise_map];exact h.imp λh=>by omega
theorem lT(h:sZ l):iz l=l:=AD (qG l (FH h)) h (fB l)
theorem tN(h:t.2.1<=t.2.2):turnT t=t:=by
 obtain⟨a,b,c⟩:=t;unfold turnT;dsimp only at *
 congr 2<;>split<;>omega
end K61
end
section
open PySem L2 Hv
namespace K61
def cellAt(ns:List Int)(k:Nat):Int:=ns.getD k 0
theorem gk(ns:List Int)(k:Nat):bO [.rl (ns.map .int),.int k]=.ok (true,.int (cellAt ns k)):=by
 unfold bO iR
 by_cases h:k<ns.length
 ·have e:ji (List.map Val.int ns) (k:Int)=some (.int (ns[k])):=l0 (by simp[h])
  have h':(k:Int)<ns.length:=by omega
  simp only[EV,gf e,length_map,h',cellAt,List.getD,List.getElem?_eq_getElem h,Option.getD_some]
 ·have h':¬ (k:Int)<ns.length:=by omega
  have e:ns[k]?=none:=by simp;omega
  simp only[EV,length_map,h',cellAt,List.getD,e,getD_none]
theorem FI(ns:List Int){x:Int}(h:0<=x):∃c,bO [.rl (ns.map .int),.int x]=.ok (true,.int c):=by
 obtain⟨k,rfl⟩:=Int.eq_ofNat_of_zero_le h;exact⟨_,gk ns k⟩
theorem Ci(a b:Int)(h:0<=b/\b<67):jV a b=true:=by
 unfold jV;simp only[or_eq_true,and_eq_true,decide_eq_true_eq];right;omega
theorem qV(a b:Int)(h:0<=a/\a<67):jV a b=true:=by
 unfold jV;simp only[or_eq_true,and_eq_true,decide_eq_true_eq];left;omega
theorem FJ{n:Int}(h:inR n=true):gg .range [.int n]=some ((List.range n.toNat).map λ(i:Nat)=>Val.int (0+(i:Int))):=by
 show (if inR n=true then some (bZ 0 n.toNat) else none)=_;rw[Zg h];rfl
theorem NV{a b:Int}(h:(inR a&&inR b)=true):gg .range [.int a,.int b]=some ((List.range (b-a).toNat).map λ(i:Nat)=>Val.int (a+(i:Int))):=by
 show (if (inR a&&inR b)=true then some (bZ a (b-a).toNat) else none)=_;rw[Zg h];rfl
theorem az{ms:List Nat}(h:aY Ψ ms s env=.ok (.nx env')):aF Ψ ms (.cons s r) env=aF Ψ ms r env':=by
 rw[aF,h,aC]
def kG(a b k:Int):Int:=(if 0<a%3 then 1+b%10 ^ 57 else 1)*(((1+a/3%66)*k+a/198%67)%67)+(if 0<a%3 then b/7%10 ^ 59 else 0)
theorem FL(a b i j:Int)(hi:0<=i/\i<67)(hj:0<=j/\j<67)(e:kG a b i=kG a b j):i=j:=by
 unfold kG at e;have hs:∃st:Int,(if 0<a%3 then 1+b%10 ^ 57 else 1)=st/\1<=st:=by refine⟨_,rfl,?_⟩;split<;>omega
 obtain⟨st,e1,a1⟩:=hs;rw[e1]at e;have e2:st*(((1+a/3%66)*i+a/198%67)%67)=st*(((1+a/3%66)*j+a/198%67)%67):=by omega
 have e3:=Int.eq_of_mul_eq_mul_left (by omega:st≠0) e2;exact Jm (by omega) hi hj e3
theorem FN(a b k:Int):0<=kG a b k:=by
 unfold kG;refine Int.add_nonneg (Int.mul_nonneg ?_ ?_) ?_
 ·split<;>omega
 ·omega
 ·split<;>omega
def cS(a b:Int):List Val:=(List.range 15).map λi:Nat=>.int (kG a b (0+(i:Int)))
theorem JH(a b:Int)(i:Int)(h0:0<=i)(h1:i<15):ji (cS a b) i=some (.int (kG a b i)):=by
 obtain⟨k,rfl⟩:=Int.eq_ofNat_of_zero_le h0;refine l0 ?_;unfold cS;rw[Zx,List.getElem?_range (by omega)];simp
theorem qW(a b:Int):∃f,fS [.int a,.int b]=.ok (f,.rl (cS a b)):=by
 unfold fS eB;have m1:∀k:Int,jV (1+a/3%66) k=true:=λk=>qV _ _ (by omega);have m2:∀x k:Int,jV x (((1+a/3%66)*k+a/198%67)%67)=true:=λx k=>Ci _ _ (by omega);have hR:inR 15=true:=by decide
 have hc:(15:Int).toNat<=100000:=by decide
 by_cases h:0<a%3
 ·have en:cS a b=(List.range 15).map λi:Nat=>.int ((1+b%10 ^ 57)*(((1+a/3%66)*(0+(i:Int))+a/198%67)%67)+b/7%10 ^ 59):=by unfold cS kG;simp only[if_pos h]
  rw[en];simp only[EV,dz (show decide ((0:Int)<3)=true by decide),h,dz (show decide ((0:Int)<66)=true by decide),dz (show decide ((0:Int)<67)=true by decide),dN (show gD 3=true by decide),dN (show gD 7=true by decide),dN (show gD 198=true by decide),Kg (show decide ((0:Int)<=57/\(57:Int)<=1000000/\(10:Int).natAbs<2 ^ 64)=true by decide),Kg (show decide ((0:Int)<=59/\(59:Int)<=1000000/\(10:Int).natAbs<2 ^ 64)=true by decide),dz (show decide ((0:Int)<10 ^ (57:Int).toNat)=true by decide),dz (show decide ((0:Int)<10 ^ (59:Int).toNat)=true by decide),FJ hR,fM,length_map,length_range,hc];rw[b6 (λi:Nat=>Val.int (0+(i:Int))) (λi:Nat=>.int ((1+b%10 ^ 57)*(((1+a/3%66)*(0+(i:Int))+a/198%67)%67)+b/7%10 ^ 59)) (List.range (15:Int).toNat) (λi hi=>by
   simp only[EV,aR,wL (m1 _),wL (m2 _ _),dz (show decide ((0:Int)<67)=true by decide)];rfl)]
  exact⟨_,rfl⟩
 ·have en:cS a b=(List.range 15).map λi:Nat=>.int (1*(((1+a/3%66)*(0+(i:Int))+a/198%67)%67)+0):=by unfold cS kG;simp only[if_neg h]
  rw[en];simp only[EV,dz (show decide ((0:Int)<3)=true by decide),h,dz (show decide ((0:Int)<66)=true by decide),dz (show decide ((0:Int)<67)=true by decide),dN (show gD 3=true by decide),dN (show gD 198=true by decide),FJ hR,fM,length_map,length_range,hc];rw[b6 (λi:Nat=>Val.int (0+(i:Int))) (λi:Nat=>.int (1*(((1+a/3%66)*(0+(i:Int))+a/198%67)%67)+0)) (List.range (15:Int).toNat) (λi hi=>by
   simp only[EV,aR,wL (m1 _),wL (m2 _ _),dz (show decide ((0:Int)<67)=true by decide)])]
  exact⟨_,rfl⟩
end K61
end
section
open PySem L2 Hv
namespace K61
theorem dJ{α:Type}(enc:α -> Val)(Q:List α -> aN->Prop)(us:List α)(oJ:aN)(h0:Q [] oJ)
  (step:∀(pre:List α) (u:α) (post:List α) (env:aN),us=pre++u::post->Q pre env->∃env',body (enc u) env=.ok (.nx env')/\Q (pre++[u]) env'):∃env',fq body (us.map enc) oJ=.ok (.nx env')/\Q us env':=by
 have go:∀(post pre:List α) (env:aN),us=pre++post->Q pre env->∃env',fq body (post.map enc) env=.ok (.nx env')/\Q us env':=by
  intro post
  induction post with
  |nil=>exact λpre env e q=>⟨env,rfl,by rw[e,append_nil];exact q⟩
  |cons u post ih=>intro pre env e q;obtain⟨qB,e1,q1⟩:=step pre u post env e q;obtain⟨iF,e2,q2⟩:=ih (pre++[u]) qB (by rw[e,List.append_assoc];rfl) q1;exact⟨iF,by rw[Zo,fq,e1,aC];exact e2,q2⟩
 exact go us [] oJ rfl h0
section
variable {Ψ:Nat->List Val->Pr FV} {ms:List Nat} {p:yI} {it:kM} {body:b8} {env:aN}
theorem FO(hk:k≠.zip)(hs:(qw p it body&&(stored p).all λi=>!ms.contains i)=true)(eb:cQ Ψ it env=.ok ds)(ex:gg k ds=some xs):aY Ψ ms (.for p k it body) env=fq (λx env=>pb (pl (bH p x env)) λenv'=>aF Ψ ms body env') xs env:=by
 rw[aY,show ∀z o:Pr u9,BS k z o=o from λz o=>by cases k<;>first|rfl|exact(hk rfl).elim];unfold pg;rw[Zg hs,eb,aC,ex,aZ,aC]
theorem FP{n:Int}(hs:(qw p it body&&(stored p).all λi=>!ms.contains i)=true)(eb:cQ Ψ it env=.ok [.int n])(hn:inR n=true):aY Ψ ms (.for p .range it body) env=fq (λx env=>pb (pl (bH p x env)) λenv'=>aF Ψ ms body env') ((List.range n.toNat).map λi:Nat=>.int (0+(i:Int))) env:=FO (λz=>nomatch z) hs eb (FJ hn)
theorem NW{a b:Int}(hs:(qw p it body&&(stored p).all λi=>!ms.contains i)=true)(eb:cQ Ψ it env=.ok [.int a,.int b])(hn:(inR a&&inR b)=true):aY Ψ ms (.for p .range it body) env=fq (λx env=>pb (pl (bH p x env)) λenv'=>aF Ψ ms body env') ((List.range (b-a).toNat).map λi:Nat=>.int (a+(i:Int))) env:=FO (λz=>nomatch z) hs eb (NV hn)
theorem tO(hs:(qw p it body&&(stored p).all λi=>!ms.contains i)=true)(eb:cQ Ψ it env=.ok [.rl xs]):aY Ψ ms (.for p .seq it body) env=fq (λx env=>pb (pl (bH p x env)) λenv'=>aF Ψ ms body env') xs env:=FO (λz=>nomatch z) hs eb fO
end
theorem u5{n u:Nat}{pre post:List Nat}(e:List.range n=pre++u::post):u<n/\pre.length<n:=by
 have h1:u∈List.range n:=by rw[e];simp
 have h2:=ZN length e;rw[length_range,ZA,ZC]at h2;exact⟨List.mem_range.mp h1,by omega⟩
def u6(many:Int)(es:List (Int×Int)):Prop:=∀e∈es,(0<=e.1/\e.1<many)/\0<=e.2/\e.2<many
theorem u6.snoc{many a b:Int}(h:u6 many es)(ha:0<=a/\a<many)(hb:0<=b/\b<many):u6 many (es++[(a,b)]):=λe he=>by
 rcases ZP.mp he with he|he
 ·exact h e he
 ·rw[Zs.mp he];exact⟨ha,hb⟩
def pE(ns:List Int)(st many:Int)(es:List (Int×Int))(a b c d:Option (Mk×Val)):aN:=[some (.sh,.rl (ns.map .int)),some (.sh,.int st),some (.sh,.int many),some (.sh,.int 14),some (.ow,.rl (es.map bV)),a,b,c,d]
theorem FQ{a b:Int}:es.map bV++[.tup [.int a,.int b]]=(es++[(a,b)]).map bV:=by rw[ZK];rfl
def SE:b8:=#[.for (.one 6) .range #[¬1,!2] #[.expr (.met .append (!4) #[.tup #[!6,.bin .mod (.bin .fdiv (.call 0 #[!0,.bin .add (¬4) (!6)]) (.bin .add (¬1) (.bin .mul (¬7) (!5)))) (!6)]])]]
def Wj:IS:=.for (.one 5) .range #[.idx (.lst #[¬0,¬2,¬0,¬1]) (!1)] SE
def SG:b8:=#[.for (.one 5) .range #[.bin .add (¬1) (.bin .mod (.call 0 #[!0,.bin .add (¬5) (!6)]) (¬3))] #[.expr (.met .append (!4) #[.tup #[!6,.bin .add (!6) (¬1)]])]]
def UO:IS:=.for (.one 6) .range #[.bin .sub (!2) (¬1)] SG
def Wk:IS:=.for (.one 8) .seq #[.slc (!0) (¬5) (.bin .add (¬5) (!7))] #[.expr (.met .append (!4) #[.tup #[.bin .mod (.bin .fdiv (!8) (¬3)) (!2),.bin .mod (.bin .fdiv (!8) (¬31)) (!2)]])]
def pT:b8:=.cons (.asg (.one 7) (.bin .mod (.bin .fdiv (.call 0 #[!0,¬0]) (¬28)) (¬4))) #[.iff (.cmp .eq (!1) (¬0)) #[.asg (.one 7) (.bin .mod (.bin .fdiv (.call 0 #[!0,¬0]) (¬28)) (.bin .add (!3) (¬1)))] .nil,Wk,.ret (.slc (!4) .no (!3))]
theorem FT:gK=.cons (.asg (.one 4) (.lst .nil)) (.cons Wj (.cons (.iff (.cmp .eq (!1) (¬2)) #[UO] .nil) pT)):=rfl
section
variable {ns:List Int} {st many:Int}
theorem FU{es:List (Int×Int)}(h:es.length<=60):(es.map bV).length<sizeLine:=by rw[Ze];unfold sizeLine;omega
theorem xQ{n:Int}(h:0<=n/\n<=100):inR n=true:=by
 unfold inR;rw[and_eq_true,decide_eq_true_eq,decide_eq_true_eq];omega
theorem RW(hm:2<=many/\many<=8)(j:Nat)(hj:j<2)(es:List (Int×Int))(hl:es.length<=40)(ok:u6 many es)(b c d:Option (Mk×Val)) :
  ∃es' b',aF (ah pF) [4,4,4] SE (pE ns st many es (some (.sh,.int (0+(j:Int)))) b c d)=.ok (.nx (pE ns st many es' (some (.sh,.int (0+(j:Int)))) b' c d))/\es'.length<=es.length+7/\u6 many es':=by
 unfold SE;have hr:(inR 1&&inR many)=true:=by rw[xQ (by omega),xQ (by omega)];rfl
 have z2:2<=sizeLine:=by decide
 obtain⟨env',e1,es',b',rfl,h1,h2⟩:=dJ (λi:Nat=>Val.int (1+(i:Int))) (body:=λx env=>pb (pl (bH (.one 6) x env)) λenv'=>aF (ah pF) [4,4,4] #[.expr (.met .append (!4) #[.tup #[!6,.bin .mod (.bin .fdiv (.call 0 #[!0,.bin .add (¬4) (!6)]) (.bin .add (¬1) (.bin .mul (¬7) (!5)))) (!6)]])] env')
  (λpre env=>∃es' b',env=pE ns st many es' (some (.sh,.int (0+(j:Int)))) b' c d/\es'.length<=es.length+pre.length/\u6 many es') (List.range (many-1).toNat) (pE ns st many es (some (.sh,.int (0+(j:Int)))) b c d) ⟨es,b,rfl,by simp,ok⟩ (λpre u post env hx hq=>by
   obtain⟨es',b',rfl,h1,h2⟩:=hq;obtain⟨hu,hp⟩:=u5 hx;obtain⟨cc,ec⟩:=FI ns (x:=4+(1+(u:Int))) (by omega);have k1:decide (0<1+(u:Int))=true:=by rw[decide_eq_true_eq];omega
   have k2:jV 7 (0+(j:Int))=true:=qV _ _ (by omega);have k3:gD (1+7*(0+(j:Int)))=true:=by unfold gD;rw[decide_eq_true_eq];omega
   have b1:=emod_nonneg (cc/(1+7*(0+(j:Int)))) (show 1+(u:Int)≠0 by omega);have b2:=emod_lt_of_pos (cc/(1+7*(0+(j:Int)))) (show 0<1+(u:Int) by omega);refine⟨pE ns st many (es'++[(1+(u:Int),cc/(1+7*(0+(j:Int)))%(1+(u:Int)))]) (some (.sh,.int (0+(j:Int)))) (some (.sh,.int (1+(u:Int)))) c d,?_,_,_,rfl,by simp only[length_append,length_singleton];omega,h2.snoc (by omega) (by omega)⟩;unfold pE;simp only[EV,aR,cO,ec,wL k2,dN k3,dz k1,z2,FU (show es'.length<=60 by omega),FQ])
 rw[length_range]at h1;refine⟨es',b',?_,by omega,h2⟩;have eb:cQ (ah pF) #[¬1,!2] (pE ns st many es (some (.sh,.int (0+(j:Int)))) b c d)=.ok [.int 1,.int many]:=by unfold pE;simp only[EV,aC]
 rw[az ((NW rfl eb hr).trans e1),aF]
theorem RX(hs:0<=st/\st<4)(hm:2<=many/\many<=8)(c d:Option (Mk×Val)):∃es a b,aY (ah pF) [4,4,4] Wj (pE ns st many [] none none c d)=.ok (.nx (pE ns st many es a b c d))/\es.length<=14/\u6 many es:=by
 have h4:∃n:Nat,ji [Val.int 0,.int 2,.int 0,.int 1] st=some (.int (n:Int))/\n<=2:=by
  have:st=0\/st=1\/st=2\/st=3:=by omega
  rcases this with rfl|rfl|rfl|rfl
  ·exact⟨0,rfl,by omega⟩
  ·exact⟨2,rfl,by omega⟩
  ·exact⟨0,rfl,by omega⟩
  ·exact⟨1,rfl,by omega⟩
 obtain⟨n,e4,hn⟩:=h4;have z4:4<=sizeLine:=by decide
 obtain⟨env',e1,es,a,b,rfl,h1,h2⟩:=dJ (λi:Nat=>Val.int (0+(i:Int))) (body:=λx env=>pb (pl (bH (.one 5) x env)) λenv'=>aF (ah pF) [4,4,4] SE env')
  (λpre env=>∃es a b,env=pE ns st many es a b c d/\es.length<=7*pre.length/\u6 many es) (List.range (n:Int).toNat) (pE ns st many [] none none c d) ⟨[],none,none,rfl,by simp,λe he=>by simp at he⟩ (λpre u post env hx hq=>by
   obtain⟨es,a,b,rfl,h1,h2⟩:=hq;obtain⟨hu,hp⟩:=u5 hx;obtain⟨es',b',k1,k2,k3⟩:=RW (ns:=ns) (st:=st) hm u (by omega) es (by omega) h2 b c d;refine⟨pE ns st many es' (some (.sh,.int (0+(u:Int)))) b' c d,?_,es',_,_,rfl,by simp only[length_append,length_singleton];omega,k3⟩;rw[aR,aZ,aC];exact k1)
 rw[length_range]at h1;refine⟨es,a,b,?_,by omega,h2⟩;have eb:cQ (ah pF) #[.idx (.lst #[¬0,¬2,¬0,¬1]) (!1)] (pE ns st many [] none none c d)=.ok [.int (n:Int)]:=by unfold pE;simp only[EV,z4,gf e4]
 exact(FP rfl eb (xQ (by omega))).trans e1
end
end K61
end
section
open PySem L2 Hv
namespace K61
section
variable {ns:List Int} {st many:Int}
theorem RY(hm:2<=many/\many<=8)(k:Nat)(hk:(k:Int)<many-1)(es:List (Int×Int))(hl:es.length<=40)(ok:u6 many es)(a c d:Option (Mk×Val)) :
  ∃es' a',aF (ah pF) [4,4,4] SG (pE ns st many es a (some (.sh,.int (0+(k:Int)))) c d)=.ok (.nx (pE ns st many es' a' (some (.sh,.int (0+(k:Int)))) c d))/\es'.length<=es.length+3/\u6 many es':=by
 unfold SG;obtain⟨cc,ec⟩:=FI ns (x:=5+(0+(k:Int))) (by omega);have z2:2<=sizeLine:=by decide
 have hb:0<=1+cc%3/\1+cc%3<=3:=by omega
 have eb:cQ (ah pF) #[.bin .add (¬1) (.bin .mod (.call 0 #[!0,.bin .add (¬5) (!6)]) (¬3))] (pE ns st many es a (some (.sh,.int (0+(k:Int)))) c d)=.ok [.int (1+cc%3)]:=by unfold pE;simp only[EV,cO,ec,dz (show decide ((0:Int)<3)=true by decide)]
 generalize 1+cc%3=m at *;obtain⟨env',e1,es',a',rfl,h1,h2⟩:=dJ (λi:Nat=>Val.int (0+(i:Int))) (body:=λx env=>pb (pl (bH (.one 5) x env)) λenv'=>aF (ah pF) [4,4,4] #[.expr (.met .append (!4) #[.tup #[!6,.bin .add (!6) (¬1)]])] env')
  (λpre env=>∃es' a',env=pE ns st many es' a' (some (.sh,.int (0+(k:Int)))) c d/\es'.length<=es.length+pre.length/\u6 many es') (List.range m.toNat) (pE ns st many es a (some (.sh,.int (0+(k:Int)))) c d) ⟨es,a,rfl,by simp,ok⟩ (λpre u post env hx hq=>by
   obtain⟨es',b',rfl,h1,h2⟩:=hq;obtain⟨hu,hp⟩:=u5 hx;refine⟨pE ns st many (es'++[(0+(k:Int),0+(k:Int)+1)]) (some (.sh,.int (0+(u:Int)))) (some (.sh,.int (0+(k:Int)))) c d,?_,_,_,rfl,by simp only[length_append,length_singleton];omega,h2.snoc (by omega) (by omega)⟩;unfold pE;simp only[EV,aR,z2,FU (show es'.length<=60 by omega),FQ])
 rw[length_range]at h1;refine⟨es',a',?_,by omega,h2⟩;rw[az ((FP rfl eb (xQ (by omega))).trans e1),aF]
theorem RZ(hm:2<=many/\many<=8)(es:List (Int×Int))(hl:es.length<=14)(ok:u6 many es)(a b c d:Option (Mk×Val)):∃es' a' b',aY (ah pF) [4,4,4] UO (pE ns st many es a b c d)=.ok (.nx (pE ns st many es' a' b' c d))/\es'.length<=35/\u6 many es':=by
 have eb:cQ (ah pF) #[.bin .sub (!2) (¬1)] (pE ns st many es a b c d)=.ok [.int (many-1)]:=by unfold pE;simp only[EV,aC]
 obtain⟨env',e1,es',a',b',rfl,h1,h2⟩:=dJ (λi:Nat=>Val.int (0+(i:Int))) (body:=λx env=>pb (pl (bH (.one 6) x env)) λenv'=>aF (ah pF) [4,4,4] SG env')
  (λpre env=>∃es' a b,env=pE ns st many es' a b c d/\es'.length<=es.length+3*pre.length/\u6 many es') (List.range (many-1).toNat) (pE ns st many es a b c d) ⟨es,a,b,rfl,by simp,ok⟩ (λpre u post env hx hq=>by
   obtain⟨es',a,b,rfl,h1,h2⟩:=hq;obtain⟨hu,hp⟩:=u5 hx;obtain⟨rF,b',k1,k2,k3⟩:=RY (ns:=ns) (st:=st) hm u (by omega) es' (by omega) h2 a c d;refine⟨pE ns st many rF b' (some (.sh,.int (0+(u:Int)))) c d,?_,rF,_,_,rfl,by simp only[length_append,length_singleton];omega,k3⟩;rw[aR,aZ,aC];exact k1)
 rw[length_range]at h1;exact⟨es',a',b',(FP rfl eb (xQ (by omega))).trans e1,by omega,h2⟩
theorem R0(hm:2<=many/\many<=8)(es:List (Int×Int))(hl:es.length<=35)(ok:u6 many es){more:Int}(hmo:0<=more/\more<=14)(a b d:Option (Mk×Val)):∃es' d',aY (ah pF) [4,4,4] Wk (pE ns st many es a b (some (.sh,.int more)) d)=.ok (.nx (pE ns st many es' a b (some (.sh,.int more)) d'))/\u6 many es':=by
 have eb:cQ (ah pF) #[.slc (!0) (¬5) (.bin .add (¬5) (!7))] (pE ns st many es a b (some (.sh,.int more)) d)=.ok [.rl ((cU ns (some 5) (some (5+more))).map .int)]:=by unfold pE;simp only[EV,El,qD]
 have hlen:(cU ns (some 5) (some (5+more))).length<=14:=by
  unfold cU;rw[length_take,length_drop];unfold HT.dS;dsimp only
  repeat' split
  all_goals omega
 have hmp:decide (0<many)=true:=by rw[decide_eq_true_eq];omega
 have z2:2<=sizeLine:=by decide
 generalize cU ns (some 5) (some (5+more))=cs at *;obtain⟨env',e1,es',d',rfl,h1,h2⟩:=dJ Val.int (body:=λx env=>pb (pl (bH (.one 8) x env)) λenv'=>aF (ah pF) [4,4,4] #[.expr (.met .append (!4) #[.tup #[.bin .mod (.bin .fdiv (!8) (¬3)) (!2),.bin .mod (.bin .fdiv (!8) (¬31)) (!2)]])] env')
  (λpre env=>∃es' d,env=pE ns st many es' a b (some (.sh,.int more)) d/\es'.length<=es.length+pre.length/\u6 many es') cs (pE ns st many es a b (some (.sh,.int more)) d) ⟨es,d,rfl,by simp,ok⟩ (λpre u post env hx hq=>by
   obtain⟨es',d,rfl,h1,h2⟩:=hq;have hp:=ZN length hx;rw[ZA,ZC]at hp;have b1:=emod_nonneg (u/3) (show many≠0 by omega);have b2:=emod_lt_of_pos (u/3) (show 0<many by omega);have b3:=emod_nonneg (u/31) (show many≠0 by omega);have b4:=emod_lt_of_pos (u/31) (show 0<many by omega);refine⟨pE ns st many (es'++[(u/3%many,u/31%many)]) a b (some (.sh,.int more)) (some (.sh,.int u)),?_,_,_,rfl,by simp only[length_append,length_singleton];omega,h2.snoc ⟨b1,b2⟩ ⟨b3,b4⟩⟩;unfold pE;simp only[EV,aR,dz hmp,dN (show gD 3=true by decide),dN (show gD 31=true by decide),z2,FU (show es'.length<=60 by omega),FQ])
 exact⟨es',d',(tO rfl eb).trans e1,h2⟩
theorem FW(hs:0<=st/\st<4)(hm:2<=many/\many<=8):∃f es,iU [.rl (ns.map .int),.int st,.int many,.int 14]=.ok (f,.rl (es.map bV))/\es.length<=14/\u6 many es:=by
 unfold iU;rw[FT];show ∃f es,pb (aF (ah pF) [4,4,4] _ [some (.sh,.rl (ns.map .int)),some (.sh,.int st),some (.sh,.int many),some (.sh,.int 14),none,none,none,none,none]) _=_/\_;rw[az (env':=pE ns st many [] none none none none) (by unfold pE;simp only[EV,show (0:Nat)<=sizeLine by decide])];obtain⟨es1,a1,b1,e1,l1,o1⟩:=RX (ns:=ns) hs hm none none;rw[az e1];have s2:∃rF a2 b2,aY (ah pF) [4,4,4] (.iff (.cmp .eq (!1) (¬2)) #[UO] .nil) (pE ns st many es1 a1 b1 none none)=.ok (.nx (pE ns st many rF a2 b2 none none))/\rF.length<=35/\u6 many rF:=by
  have ec:GF (ah pF) (.cmp .eq (!1) (¬2)) (pE ns st many es1 a1 b1 none none)=.ok (true,.bl (decide (st=2))):=by unfold pE;simp only[EV,aC]
  by_cases c:st=2
  ·obtain⟨rF,a2,b2,e2,l2,o2⟩:=RZ (ns:=ns) (st:=st) hm es1 l1 o1 a1 b1 none none;refine⟨rF,a2,b2,?_,l2,o2⟩;rw[aY,ec,aC,decide_eq_true c];show pb (pl (some true)) _=_;rw[aZ,aC,Zg rfl,az e2,aF]
  ·refine⟨es1,a1,b1,?_,by omega,o1⟩;rw[aY,ec,aC,decide_eq_false c];show pb (pl (some false)) _=_;rw[aZ,aC,Zi Y9,aF]
 obtain⟨rF,a2,b2,e2,l2,o2⟩:=s2;rw[az e2];unfold pT;have c0:bO [.rl (ns.map .int),.int 0]=.ok (true,.int (cellAt ns 0)):=gk ns 0;generalize cellAt ns 0=x0 at *;rw[az (env':=pE ns st many rF a2 b2 (some (.sh,.int (x0/28%4))) none) (by unfold pE;simp only[EV,cO,c0,dN (show gD 28=true by decide),dz (show decide ((0:Int)<4)=true by decide)])];have s3:∃more,(0<=more/\more<=14)/\aY (ah pF) [4,4,4] (.iff (.cmp .eq (!1) (¬0)) #[.asg (.one 7) (.bin .mod (.bin .fdiv (.call 0 #[!0,¬0]) (¬28)) (.bin .add (!3) (¬1)))] .nil) (pE ns st many rF a2 b2 (some (.sh,.int (x0/28%4))) none)=.ok (.nx (pE ns st many rF a2 b2 (some (.sh,.int more)) none)):=by
  have ec:GF (ah pF) (.cmp .eq (!1) (¬0)) (pE ns st many rF a2 b2 (some (.sh,.int (x0/28%4))) none)=.ok (true,.bl (decide (st=0))):=by unfold pE;simp only[EV,aC]
  by_cases c:st=0
  ·refine⟨x0/28%15,by omega,?_⟩;rw[aY,ec,aC,decide_eq_true c];show pb (pl (some true)) _=_;rw[aZ,aC,Zg rfl,az (env':=pE ns st many rF a2 b2 (some (.sh,.int (x0/28%15))) none) (by unfold pE;simp only[EV,cO,c0,dN (show gD 28=true by decide),show (14:Int)+1=15 from rfl,dz (show decide ((0:Int)<15)=true by decide)]),aF]
  ·refine⟨x0/28%4,by omega,?_⟩;rw[aY,ec,aC,decide_eq_false c];show pb (pl (some false)) _=_;rw[aZ,aC,Zi Y9,aF]
 obtain⟨more,hmo,e3⟩:=s3;rw[az e3];obtain⟨Wl,d4,e4,o4⟩:=R0 (ns:=ns) (st:=st) hm rF l2 o2 hmo a2 b2 none;rw[az e4];refine⟨bC ((cU Wl none (some 14)).map bV),cU Wl none (some 14),?_,?_,λe he=>o4 e ?_⟩
 ·unfold pE;simp only[EV,El,qD]
 ·unfold cU
  rw[length_take,length_drop];unfold HT.dS;dsimp only
  repeat' split
  all_goals omega
 ·unfold cU at he;exact List.mem_of_mem_drop (List.mem_of_mem_take he)
end
end K61
end
section
open PySem L2 Hv
namespace K61
theorem AE(f:Nat->Val):∀(es:List (Int×Int)) (s n:Nat),es.length<=n->e8 ((range' s n).map f) (es.map bV)=(es.zipIdx s).map λe=>.tup [f e.2,bV e.1]
 |[],s,n,_=>by cases n<;>rfl
 |e::es,s,0,h=>absurd h (Nat.not_succ_le_zero _)
 | e::es,s,n+1,h=>by
  rw[List.range'_succ,Zo,Zo,e8,AE f es (s+1) n (Nat.le_of_succ_le_succ h),List.zipIdx_cons,Zo]
theorem FY{a b:Int}:iI .min [.rl [.int a,.int b]]=.ok (true,.int (min a b)):=rfl
theorem FZ{a b:Int}:iI .max [.rl [.int a,.int b]]=.ok (true,.int (max a b)):=rfl
structure eZ (p q:Int) (ts:List T3):Prop where
 ord:p<=q
 len:ts.length<=14
 up:sZ ts
 ends:∀t∈ts,t.2.1<=t.2.2
 pos:∀t∈ts,0<=t.1
def nB:b8:=#[.asg (.one 11) (.idx (!5) (.idx (!10) (¬0))),.asg (.one 12) (.idx (!5) (.idx (!10) (¬1))),.expr (.met .append (!8) #[.tup #[!9,.blt .min #[!11,!12],.blt .max #[!11,!12]]])]
def nF:IS:=.for (.tup [9,10]) .zip #[!6,.call 2 #[!0,!1,!4,!2]] nB
def nR:b8:=#[.ret (.tup #[.tup #[.blt .min #[!7],.blt .max #[!7]],.blt .sorted #[!8]])]
def nH(T:b8):b8:=(.cons (.asg (.one 3) (.call 0 #[!0,¬0])) (.cons (.asg (.one 4) (.bin .add (¬2) (.bin .mod (.bin .fdiv (!3) (¬4)) (.idx (.lst #[¬7,.bin .fdiv (!2) (¬2),¬4,.blt .min #[¬7,!2]]) (!1))))) (.cons (.asg (.one 5) (.call 1 #[.call 0 #[!0,¬1],.call 0 #[!0,¬2]])) (.cons (.asg (.one 6) (.call 1 #[.call 0 #[!0,¬3],.call 0 #[!0,¬4]])) (.cons (.asg (.one 7) (.lst #[.idx (!5) (¬0),.idx (!5) (¬1)])) T)))))
def UP:IS:=.iff (.cmp .eq (!1) (¬2)) #[.asg (.one 7) (.lst #[.idx (!5) (¬0),.idx (!5) (.bin .sub (!4) (¬1))])] .nil
def UQ:IS:=.iff (.cmp .eq (.bin .mod (.bin .fdiv (!3) (¬112)) (¬9)) (¬4)) #[.asg (.one 7) (.lst #[.idx (!5) (¬0),.idx (!5) (¬0)])] .nil
theorem NX:j9=nH (.cons UP (.cons UQ (.cons (.asg (.one 8) (.lst .nil)) (.cons nF nR)))):=rfl
def nE(ns:List Int)(st x0 many:Int)(m5 m6 m7:Mk)(Pl Nm:List Val)(p q:Int)(a b c d e:Option (Mk×Val)):aN:=[some (.sh,.rl (ns.map .int)),some (.sh,.int st),some (.sh,.int 14),some (.sh,.int x0),some (.sh,.int many),some (m5,.rl Pl),some (m6,.rl Nm),some (m7,.rl [.int p,.int q]),a,b,c,d,e]
theorem NY(ns:List Int){st:Int}(hs:0<=st/\st<4):∃p q ts,mX [.rl (ns.map .int),.int st,.int 14]=.ok (true,ak p q ts)/\eZ p q ts:=by
 have c0:bO [.rl (ns.map .int),.int 0]=.ok (true,.int (cellAt ns 0)):=gk ns 0;have c1:bO [.rl (ns.map .int),.int 1]=.ok (true,.int (cellAt ns 1)):=gk ns 1;have c2:bO [.rl (ns.map .int),.int 2]=.ok (true,.int (cellAt ns 2)):=gk ns 2;have c3:bO [.rl (ns.map .int),.int 3]=.ok (true,.int (cellAt ns 3)):=gk ns 3;have c4:bO [.rl (ns.map .int),.int 4]=.ok (true,.int (cellAt ns 4)):=gk ns 4;obtain⟨f1,n1⟩:=qW (cellAt ns 1) (cellAt ns 2);obtain⟨f2,n2⟩:=qW (cellAt ns 3) (cellAt ns 4);have a1:=JH (cellAt ns 1) (cellAt ns 2);generalize cS (cellAt ns 1) (cellAt ns 2)=Pl at *;generalize kG (cellAt ns 1) (cellAt ns 2)=pf at *;generalize cellAt ns 0=x0 at *;generalize cellAt ns 1=x1 at *;generalize cellAt ns 2=x2 at *;generalize cellAt ns 3=x3 at *;generalize cellAt ns 4=x4 at *;have h4:∃m:Int,ji [Val.int 7,.int (14/2),.int 4,.int (if (14:Int)<7 then 14 else 7)] st=some (.int m)/\1<=m/\m<=7:=by
  have:st=0\/st=1\/st=2\/st=3:=by omega
  rcases this with rfl|rfl|rfl|rfl
  ·exact⟨7,rfl,by omega,by omega⟩
  ·exact⟨7,rfl,by omega,by omega⟩
  ·exact⟨4,rfl,by omega,by omega⟩
  ·exact⟨7,rfl,by omega,by omega⟩
 obtain⟨m,e4,hm1,hm2⟩:=h4;have z4:4<=sizeLine:=by decide
 have z3:3<=sizeLine:=by decide
 have z2:2<=sizeLine:=by decide
 have z0:0<=sizeLine:=by decide
 have YO:decide (0<m)=true:=by rw[decide_eq_true_eq];omega
 have b1:=emod_nonneg (x0/4) (show m≠0 by omega);have b2:=emod_lt_of_pos (x0/4) (show 0<m by omega);have j0:=a1 0 (by omega) (by omega);have j1:=a1 1 (by omega) (by omega);unfold mX;rw[NX];show ∃p q ts,pb (aF (ah xW) [8] _ [some (.sh,.rl (ns.map .int)),some (.sh,.int st),some (.sh,.int 14),none,none,none,none,none,none,none,none,none,none]) _=_/\_;have hH:∀T,aF (ah xW) [8] (nH T) [some (.sh,.rl (ns.map .int)),some (.sh,.int st),some (.sh,.int 14),none,none,none,none,none,none,none,none,none,none]=aF (ah xW) [8] T (nE ns st x0 (2+x0/4%m) (fL f1 (.rl Pl)) (fL f2 (.rl (cS x3 x4))) .nw Pl (cS x3 x4) (pf 0) (pf 1) none none none none none):=λT=>by
  unfold nH;rw[az (env':=[some (.sh,.rl (ns.map .int)),some (.sh,.int st),some (.sh,.int 14),some (.sh,.int x0),none,none,none,none,none,none,none,none,none]) (by simp only[EV,gb,c0])];rw[az (env':=[some (.sh,.rl (ns.map .int)),some (.sh,.int st),some (.sh,.int 14),some (.sh,.int x0),some (.sh,.int (2+x0/4%m)),none,none,none,none,none,none,none,none]) (by simp only[EV,dN (show gD 4=true by decide),dN (show gD 2=true by decide),z4,gf e4,dz YO])];rw[az (env':=[some (.sh,.rl (ns.map .int)),some (.sh,.int st),some (.sh,.int 14),some (.sh,.int x0),some (.sh,.int (2+x0/4%m)),some (fL f1 (.rl Pl),.rl Pl),none,none,none,none,none,none,none]) (by simp only[EV,gb,gX,c1,c2,n1])];rw[az (env':=[some (.sh,.rl (ns.map .int)),some (.sh,.int st),some (.sh,.int 14),some (.sh,.int x0),some (.sh,.int (2+x0/4%m)),some (fL f1 (.rl Pl),.rl Pl),some (fL f2 (.rl (cS x3 x4)),.rl (cS x3 x4)),none,none,none,none,none,none]) (by simp only[EV,gb,gX,c3,c4,n2])];rw[az (env':=nE ns st x0 (2+x0/4%m) (fL f1 (.rl Pl)) (fL f2 (.rl (cS x3 x4))) .nw Pl (cS x3 x4) (pf 0) (pf 1) none none none none none) (by unfold nE;simp only[EV,gf j0,gf j1,z2])]
 rw[hH];have R1:2<=2+x0/4%m/\2+x0/4%m<=8:=by omega
 have r5:n6 (fL f1 (.rl Pl))=true:=Ai;have r6:n6 (fL f2 (.rl (cS x3 x4)))=true:=Ai;generalize fL f1 (.rl Pl)=m5 at *;generalize fL f2 (.rl (cS x3 x4))=m6 at *;generalize 2+x0/4%m=many at *;have s1:∃q,aY (ah xW) [8] UP (nE ns st x0 many m5 m6 .nw Pl (cS x3 x4) (pf 0) (pf 1) none none none none none)=.ok (.nx (nE ns st x0 many m5 m6 .nw Pl (cS x3 x4) (pf 0) q none none none none none)):=by
  have ec:GF (ah xW) (.cmp .eq (!1) (¬2)) (nE ns st x0 many m5 m6 .nw Pl (cS x3 x4) (pf 0) (pf 1) none none none none none)=.ok (true,.bl (decide (st=2))):=by unfold nE;simp only[EV,aC]
  have j2:=a1 (many-1) (by omega) (by omega);unfold UP
  by_cases c:st=2
  ·refine⟨pf (many-1),?_⟩;rw[aY,ec,aC,decide_eq_true c];show pb (pl (some true)) _=_;rw[aZ,aC,Zg rfl,az (env':=nE ns st x0 many m5 m6 .nw Pl (cS x3 x4) (pf 0) (pf (many-1)) none none none none none) (by unfold nE;simp only[EV,r5,gf j0,gf j2,z2]),aF]
  ·refine⟨pf 1,?_⟩;rw[aY,ec,aC,decide_eq_false c];show pb (pl (some false)) _=_;rw[aZ,aC,Zi Y9,aF]
 obtain⟨q1,s1⟩:=s1;rw[az s1];have s2:∃q,aY (ah xW) [8] UQ (nE ns st x0 many m5 m6 .nw Pl (cS x3 x4) (pf 0) q1 none none none none none)=.ok (.nx (nE ns st x0 many m5 m6 .nw Pl (cS x3 x4) (pf 0) q none none none none none)):=by
  have ec:GF (ah xW) (.cmp .eq (.bin .mod (.bin .fdiv (!3) (¬112)) (¬9)) (¬4)) (nE ns st x0 many m5 m6 .nw Pl (cS x3 x4) (pf 0) q1 none none none none none)=.ok (true,.bl (decide (x0/112%9=4))):=by unfold nE;simp only[EV,dN (show gD 112=true by decide),dz (show decide ((0:Int)<9)=true by decide)]
  unfold UQ
  by_cases c:x0/112%9=4
  ·refine⟨pf 0,?_⟩;rw[aY,ec,aC,decide_eq_true c];show pb (pl (some true)) _=_;rw[aZ,aC,Zg rfl,az (env':=nE ns st x0 many m5 m6 .nw Pl (cS x3 x4) (pf 0) (pf 0) none none none none none) (by unfold nE;simp only[EV,r5,gf j0,z2]),aF]
  ·refine⟨q1,?_⟩;rw[aY,ec,aC,decide_eq_false c];show pb (pl (some false)) _=_;rw[aZ,aC,Zi Y9,aF]
 obtain⟨q2,s2⟩:=s2;rw[az s2];generalize pf 0=p0 at *;rw[az (env':=nE ns st x0 many m5 m6 .nw Pl (cS x3 x4) p0 q2 (some (.ow,.rl [])) none none none none) (by unfold nE;simp only[EV,z0])];obtain⟨f3,es,n3,hl,ok⟩:=FW (ns:=ns) hs R1;have ez:BU [.rl (cS x3 x4),.rl (es.map bV)]=some (es.zipIdx.map λe=>.tup [.int (kG x3 x4 (0+(e.2:Int))),bV e.1]):=by rw[Ek];unfold cS;rw[List.range_eq_range',AE _ es 0 15 (by omega)]
 have ev:j4 (ah xW) #[!6,.call 2 #[!0,!1,!4,!2]] (nE ns st x0 many m5 m6 .nw Pl (cS x3 x4) p0 q2 (some (.ow,.rl [])) none none none none)=.ok (lJ (.rl (cS x3 x4))&&(f3&&true),[.rl (cS x3 x4),.rl (es.map bV)]):=by unfold nE;simp only[EV,r6,nM,n3]
 obtain⟨env',e1,ts,a,b,c,d,rfl,h1,h2⟩:=dJ (λe:(Int×Int)×Nat=>.tup [.int (kG x3 x4 (0+(e.2:Int))),bV e.1]) (body:=λx env=>pb (pl (bH (.tup [9,10]) x env)) λenv'=>aF (ah xW) [8] nB env')
  (λpre env=>∃ts a b c d,env=nE ns st x0 many m5 m6 .nw Pl (cS x3 x4) p0 q2 (some (.ow,.rl (ts.map aG))) a b c d/\ts.map (·.1)=pre.map (λe=>kG x3 x4 (0+(e.2:Int)))/\∀t∈ts,t.2.1<=t.2.2) es.zipIdx (nE ns st x0 many m5 m6 .nw Pl (cS x3 x4) p0 q2 (some (.ow,.rl [])) none none none none) ⟨[],none,none,none,none,rfl,rfl,λt ht=>by simp at ht⟩ (λpre u post env hx hq=>by
   obtain⟨ts,a,b,c,d,rfl,h1,h2⟩:=hq;have hlen:ts.length<14:=by have e1:=ZN length h1;have e2:=ZN length hx;rw[List.length_zipIdx,ZA,ZC]at e2;rw[Ze,Ze]at e1;omega
   obtain⟨e,i⟩:=u;have hu:(e,i)∈es.zipIdx:=by rw[hx];simp
   have he:e∈es:=by have:=List.mem_zipIdx hu;obtain⟨_,h3,h4⟩:=this;rw[h4];exact List.getElem_mem _
   obtain⟨⟨o1,o2⟩,o3,o4⟩:=ok e he;have i1:=a1 e.1 o1 (by omega);have i2:=a1 e.2 o3 (by omega);generalize pf e.1=y1 at *;generalize pf e.2=y2 at *;have k0:jm [] (bV e) (.int 0)=some (.int e.1):=rfl;have k1:jm [] (bV e) (.int 1)=some (.int e.2):=rfl;have zl:(ts.map aG).length<sizeLine:=by rw[Ze];unfold sizeLine;omega
   refine⟨nE ns st x0 many m5 m6 .nw Pl (cS x3 x4) p0 q2 (some (.ow,.rl ((ts++[(kG x3 x4 (0+(i:Int)),if y2<y1 then y2 else y1,if y2>y1 then y2 else y1)]).map aG))) (some (.sh,.int (kG x3 x4 (0+(i:Int))))) (some (.sh,bV e)) (some (.sh,.int y1)) (some (.sh,.int y2)),?_,_,_,_,_,_,rfl,?_,?_⟩
   ·rw[Em,aZ,aC];unfold nB nE;rw[ZK];simp only[EV,r5,k0,k1,gf i1,gf i2,z3,zl];rfl
   ·rw[ZK,ZK,h1];rfl
   ·intro t ht
    rcases ZP.mp ht with ht|ht
    ·exact h2 t ht
    ·rw[Zs.mp ht]
     dsimp only
     split<;>split<;>omega)
 have sF:aY (ah xW) [8] nF (nE ns st x0 many m5 m6 .nw Pl (cS x3 x4) p0 q2 (some (.ow,.rl [])) none none none none)=.ok (.nx (nE ns st x0 many m5 m6 .nw Pl (cS x3 x4) p0 q2 (some (.ow,.rl (ts.map aG))) a b c d)):=by unfold nF;rw[aY,Ej];unfold pg;rw[Zg (by rfl),ev,aC,ez,aZ,aC];exact e1
 rw[az sF];have hlt:ts.length<=14:=by have:=ZN length h1;rw[Ze,Ze,List.length_zipIdx]at this;omega
 have nd:(ts.map (·.1)).Nodup:=by rw[h1,show (es.zipIdx.map λe=>kG x3 x4 (0+(e.2:Int)))=(es.zipIdx.map (·.2)).map λi:Nat=>kG x3 x4 (0+(i:Int)) by rw[ZQ];rfl,List.zipIdx_map_snd];unfold List.Nodup;rw[pairwise_map];refine(List.nodup_range' (s:=0) (n:=es.length)).imp_of_mem λ{x y} hx hy n e=>n ?_;rw[List.mem_range'_1]at hx hy;have:=FL x3 x4 (0+(x:Int)) (0+(y:Int)) (by omega) (by omega) e;omega
 refine⟨min p0 q2,max p0 q2,iz ts,?_,⟨by omega,by rw[(fB _).length_eq];exact hlt,qG _ nd,λt ht=>h2 t ((fB _).mem_iff.mp ht),λt ht=>?_⟩⟩
 ·unfold nR nE;simp only[EV,FY,FZ,z2,wQ (show ts.length<64 by omega)];rfl
 ·have:=mem_map_of_mem (f:=(·.1)) ((fB _).mem_iff.mp ht);rw[h1]at this;obtain⟨e,_,he⟩:=mem_map.mp this;rw[<-he];exact FN _ _ _
end K61
end
section
open PySem L2 Hv
namespace K61
theorem JI(hx:PyData.strOk x=true)(hy:PyData.strOk y=true):cop [] .eq (.str x) (.str y)=some (decide (x=y)):=by
 show zC [] (.str x) (.str y)=_;unfold zC;rw[Aj hx,Aj hy];show some (PyData.eqv (.str x) (.str y))=_
 congr 1
def fF(s:Bool):Str:=if s then "linker" else "cutter"
def bD(s:Bool):Val:=.str (fF s)
theorem NZ:∀a b:Bool,cop [] .eq (bD a) (bD b)=some (a==b)
 |true,true=>(JI (eu _) (eu _)).trans (ZN some (by decide))
 |true,false=>(JI (eu _) (eu _)).trans (ZN some (by decide))
 |false,true=>(JI (eu _) (eu _)).trans (ZN some (by decide))
 |false,false=>(JI (eu _) (eu _)).trans (ZN some (by decide))
theorem AF(a:Bool):cop [] .eq (bD a) (.str "linker")=some a:=(NZ a true).trans (by cases a<;>rfl)
theorem nS{ms:List Nat}{f t:Bool}(h:GF Ψ c env=.ok (f,.bl t)):aY Ψ ms (.iff c a b) env=if t=true then aF Ψ ms a env else aF Ψ ms b env:=by
 rw[aY,h,aC];show pb (pl (some t)) _=_;rw[aZ,aC]
theorem Ga(h:a.length+b.length<=sizeLine):lK .add (.rl a) (.rl b)=.ok (bC (a++b),.rl (a++b)):=by
 show pg _ _=_;unfold pg;rw[Zg (decide_eq_true h)]
theorem tQ{ks:List Int}(h:ks.Nodup)(a:Int):(gA ks a).Nodup:=by
 unfold gA
 split
 ·exact h
 ·rename_i hn;rw[nodup_append];exact⟨h,by simp,λx hx y hy e=>hn (by rw[Zs.mp hy]at e;exact e▸hx)⟩
theorem jz{ks:List Int}{a x:Int}:x∈gA ks a↔x∈ks\/x=a:=by
 unfold gA
 split
 ·rename_i h;exact⟨.inl,λk=>k.elim id λe=>e▸h⟩
 ·rw[ZP,Zs]
theorem xR(ks:List Int)(x:Int):putD (ks.map Sum.inl) (ks.map λx=>.int x) (.inl x) (.int x)=vc (gA ks x) λx=>.int x:=by
 by_cases c:x∈ks
 ·rw[gA,Zg c]
  refine(uL c).trans (cY λy _=>?_);unfold qE
  split
  ·rename_i e;rw[e]
  ·rfl
 ·rw[gA,Zi c]
  refine(Ak c).trans (cY λy _=>?_);unfold qE
  split
  ·rename_i e;rw[e]
  ·rfl
theorem US{ks:List Int}(h:ks.length<=40):(ks.map (Sum.inl:Int->Key)).length<sizeLine:=by rw[Ze];unfold sizeLine;omega
def mB:b8:=#[.gB (!2) (.idx (!4) (¬1)) (.idx (!4) (¬1)),.gB (!2) (.idx (!4) (¬2)) (.idx (!4) (¬2))]
def mI:b8:=#[.iff (.cmp .eq (.idx (!2) (!7)) (!5)) #[.gB (!2) (!7) (!6)] .nil]
def mF:IS:=.for (.one 7) .seq #[.lkeys (!2)] mI
def mC:b8:=#[.asg (.one 5) (.idx (!2) (.idx (!4) (¬2))),.asg (.one 6) (.idx (!2) (.idx (!4) (¬1))),.iff (.and (.cmp .Cr (.idx (!4) (¬0)) (!1)) (.cmp .ne (!5) (!6))) #[mF] .nil]
theorem Gb:gO=.cons (.asg (.one 2) .dct0) #[.asg (.one 3) (.bin .add (.lst #[.tup #[.neg (¬1),.idx (.idx (!0) (¬0)) (¬0),.idx (.idx (!0) (¬0)) (¬1)]]) (.idx (!0) (¬1))),.for (.one 4) .seq #[!3] mB,.for (.one 4) .seq #[!3] mC,.ret (!2)]:=rfl
def mE(N:Val)(row:List Int)(m:Mk)(us:List T3)(d:Val)(a b c e:Option (Mk×Val)):aN:=[some (.sh,N),some (.sh,.rl (row.map .int)),some (.ow,d),some (m,.rl (us.map aG)),a,b,c,e]
abbrev lV(ks:List Int)(φ:Int->Int):Val:=vc ks λx=>.int (φ x)
theorem zf:jm [] (aG t) (.int 0)=some (.int t.1):=rfl
theorem Gd:jm [] (aG t) (.int 1)=some (.int t.2.1):=rfl
theorem Ge:jm [] (aG t) (.int 2)=some (.int t.2.2):=rfl
section
variable {N:Val} {row:List Int} {m:Mk} {us:List T3}
theorem R3(hm:n6 m=true)(hl:us.length<=15)(b c e:Option (Mk×Val)):∃ks a,aY (ah kq) [2,2,2] (.for (.one 4) .seq #[!3] mB) (mE N row m us (.dc [] []) none b c e)=.ok (.nx (mE N row m us (lV ks id) a b c e))/\ks.Nodup/\ks.length<=30/\∀t∈us,t.2.1∈ks/\t.2.2∈ks:=by
 have eb:cQ (ah kq) #[!3] (mE N row m us (.dc [] []) none b c e)=.ok [.rl (us.map aG)]:=by unfold mE;simp only[EV,aC]
 obtain⟨env',e1,ks,a,rfl,h1,h2,h3⟩:=dJ aG (body:=λx env=>pb (pl (bH (.one 4) x env)) λenv'=>aF (ah kq) [2,2,2] mB env')
  (λpre env=>∃ks a,env=mE N row m us (lV ks id) a b c e/\ks.Nodup/\ks.length<=2*pre.length/\∀t∈pre,t.2.1∈ks/\t.2.2∈ks) us (mE N row m us (.dc [] []) none b c e) ⟨[],none,rfl,nodup_nil,by simp,λt ht=>by simp at ht⟩ (λpre t post env hx hq=>by
   obtain⟨ks,a,rfl,h1,h2,h3⟩:=hq;have hp:=ZN length hx;rw[ZA,ZC]at hp;have l1:=jU ks t.2.1;have l2:=jU (gA ks t.2.1) t.2.2;refine⟨mE N row m us (lV (gA (gA ks t.2.1) t.2.2) id) (some (.sh,aG t)) b c e,?_,_,_,rfl,tQ (tQ h1 _) _,by simp only[length_append,length_singleton];omega,λu hu=>?_⟩
   ·have k1:=xR ks t.2.1;have k2:=xR (gA ks t.2.1) t.2.2;unfold mB mE lV id;simp only[EV,aR,Gd,Ge,mL,US (show ks.length<=40 by omega),US (show (gA ks t.2.1).length<=40 by omega),k1,k2]
   ·rcases ZP.mp hu with hu|hu
    ·exact⟨jz.mpr (.inl (jz.mpr (.inl (h3 u hu).1))),jz.mpr (.inl (jz.mpr (.inl (h3 u hu).2)))⟩
    ·rw[Zs.mp hu];exact⟨jz.mpr (.inl (jz.mpr (.inr rfl))),jz.mpr (.inr rfl)⟩)
 exact⟨ks,a,(tO rfl eb).trans e1,h1,by omega,h3⟩
theorem R4{ks:List Int}{old new:Int}(hn:ks.Nodup)(hl:ks.length<=30)(a e:Option (Mk×Val)):∃e',aY (ah kq) [2,2,2] mF (mE N row m us (lV ks φ) a (some (.sh,.int old)) (some (.sh,.int new)) e)=.ok (.nx (mE N row m us (lV ks λx=>if φ x=old then new else φ x) a (some (.sh,.int old)) (some (.sh,.int new)) e')):=by
 have eb:cQ (ah kq) #[.lkeys (!2)] (mE N row m us (lV ks φ) a (some (.sh,.int old)) (some (.sh,.int new)) e)=.ok [.rl (ks.map .int)]:=by
  have ky:vP [] (lV ks φ)=some (ks.map Sum.inl):=rfl;have kv:(ks.map (Sum.inl:Int->Key)).map Dt=ks.map Val.int:=by rw[ZQ];rfl
  unfold mE;simp only[EV,ky,kv]
 obtain⟨env',e1,e',rfl⟩:=dJ Val.int (body:=λx env=>pb (pl (bH (.one 7) x env)) λenv'=>aF (ah kq) [2,2,2] mI env')
  (λpre env=>∃e',env=mE N row m us (lV ks λx=>if x∈pre /\ φ x=old then new else φ x) a (some (.sh,.int old)) (some (.sh,.int new)) e') ks (mE N row m us (lV ks φ) a (some (.sh,.int old)) (some (.sh,.int new)) e) ⟨e,by simp⟩ (λpre x post env hx hq=>by
   obtain⟨e',rfl⟩:=hq;have RT:x∉pre:=by rw[hx,nodup_append]at hn;exact λh=>hn.2.2 x h x (by simp) rfl
   have hxs:x∈ks:=by rw[hx];simp
   refine⟨_,?_,some (.sh,.int x),rfl⟩;unfold mI mE lV;simp only[EV,aR,f9 hxs,mL,US (show ks.length<=40 by omega),uL hxs,RT,false_and,if_false]
   by_cases hg:φ x=old
   ·simp only[hg,↓reduceIte]
    rw[cY];intro y _;unfold qE
    by_cases e:y=x
    ·subst e;simp[hg]
    ·simp[e]
   ·simp only[hg,↓reduceIte]
    rw[cY];intro y _
    by_cases e:y=x
    ·subst e;simp[hg]
    ·simp[e])
 refine⟨e',?_⟩;unfold mF;rw[tO rfl eb,e1];unfold mE lV;rw[cY (g':=λx=>.int (if φ x=old then new else φ x))];intro y hy;simp[hy]
theorem R5(hm:n6 m=true){ks:List Int}(hn:ks.Nodup)(hl:ks.length<=30)(hk:∀t∈us,t.2.1∈ks/\t.2.2∈ks)(a b c e:Option (Mk×Val)):∃φ a' b' c' e',aY (ah kq) [2,2,2] (.for (.one 4) .seq #[!3] mC) (mE N row m us (lV ks id) a b c e)=.ok (.nx (mE N row m us (lV ks φ) a' b' c' e'))/\wN ks ((us.filter λt=>decide (t.1∈row)).map gY) φ:=by
 have eb:cQ (ah kq) #[!3] (mE N row m us (lV ks id) a b c e)=.ok [.rl (us.map aG)]:=by unfold mE;simp only[EV,aC]
 obtain⟨env',e1,φ,a',b',c',e',rfl,xY⟩:=dJ aG (body:=λx env=>pb (pl (bH (.one 4) x env)) λenv'=>aF (ah kq) [2,2,2] mC env')
  (λpre env=>∃φ a b c e,env=mE N row m us (lV ks φ) a b c e/\wN ks ((pre.filter λt=>decide (t.1∈row)).map gY) φ) us (mE N row m us (lV ks id) a b c e) ⟨id,_,_,_,_,rfl,wN.start ks⟩ (λpre t post env hx hq=>by
   obtain⟨φ,a,b,c,e,rfl,xY⟩:=hq;have ht:t∈us:=by rw[hx];simp
   obtain⟨h1,h2⟩:=hk t ht;have q1:aF (ah kq) [2,2,2] mC (mE N row m us (lV ks φ) (some (.sh,aG t)) b c e)=aF (ah kq) [2,2,2] #[.iff (.and (.cmp .Cr (.idx (!4) (¬0)) (!1)) (.cmp .ne (!5) (!6))) #[mF] .nil] (mE N row m us (lV ks φ) (some (.sh,aG t)) (some (.sh,.int (φ t.2.2))) (some (.sh,.int (φ t.2.1))) e):=by unfold mC;rw[az (env':=mE N row m us (lV ks φ) (some (.sh,aG t)) (some (.sh,.int (φ t.2.2))) c e) (by unfold mE lV;simp only[EV,Ge,f9 h2])];rw[az (env':=mE N row m us (lV ks φ) (some (.sh,aG t)) (some (.sh,.int (φ t.2.2))) (some (.sh,.int (φ t.2.1))) e) (by unfold mE lV;simp only[EV,Gd,f9 h1])]
   have ec:GF (ah kq) (.and (.cmp .Cr (.idx (!4) (¬0)) (!1)) (.cmp .ne (!5) (!6))) (mE N row m us (lV ks φ) (some (.sh,aG t)) (some (.sh,.int (φ t.2.2))) (some (.sh,.int (φ t.2.1))) e)=.ok (true,.bl (decide (t.1∈row /\ φ t.2.2 ≠ φ t.2.1))):=by
    unfold mE
    by_cases hr:t.1∈row<;>by_cases hp:φ t.2.2 = φ t.2.1<;>simp only[EV,zf,Rj,hr,hp,decide_true,decide_false]<;>simp[hp]
   rw[aR,aZ,aC];show ∃env',aF (ah kq) [2,2,2] mC (mE N row m us (lV ks φ) (some (.sh,aG t)) b c e)=_/\_;rw[q1]
   by_cases hr:t.1∈row
   ·have st:=xY.step h1 h2 (φ t.2.1) (φ t.2.2) (.inl ⟨rfl,rfl⟩)
    have ef:((pre++[t]).filter λt=>decide (t.1∈row)).map gY=(pre.filter λt=>decide (t.1∈row)).map gY++[(t.2.1,t.2.2)]:=by rw[filter_append,List.filter_cons_of_pos (by simpa using hr),ZK];rfl
    by_cases hp:φ t.2.2 = φ t.2.1
    ·refine⟨mE N row m us (lV ks φ) (some (.sh,aG t)) (some (.sh,.int (φ t.2.2))) (some (.sh,.int (φ t.2.1))) e,?_,φ,_,_,_,_,rfl,?_⟩
     ·rw[az ((nS ec).trans (by rw[Zi (by simp[hp]),aF])),aF]
     ·rw[ef,show φ = λx=>if φ x = φ t.2.2 then φ t.2.1 else φ x from funext λx=>by split;(rename_i z;rw[z,hp]);rfl];exact st
    ·obtain⟨e',k⟩:=R4 (N:=N) (row:=row) (m:=m) (us:=us) (φ:=φ) (old:=φ t.2.2) (new:=φ t.2.1) hn hl (some (.sh,aG t)) e;refine⟨mE N row m us (lV ks λx=>if φ x = φ t.2.2 then φ t.2.1 else φ x) (some (.sh,aG t)) (some (.sh,.int (φ t.2.2))) (some (.sh,.int (φ t.2.1))) e',?_,_,_,_,_,e',rfl,by rw[ef];exact st⟩;rw[az ((nS ec).trans (by rw[Zg (by simp[hr,hp]),az k,aF])),aF]
   ·refine⟨mE N row m us (lV ks φ) (some (.sh,aG t)) (some (.sh,.int (φ t.2.2))) (some (.sh,.int (φ t.2.1))) e,?_,φ,_,_,_,_,rfl,?_⟩
    ·rw[az ((nS ec).trans (by rw[Zi (by simp[hr]),aF])),aF]
    ·rw[filter_append,filter_cons_of_neg (by simpa using hr),ZK];simpa using xY)
 exact⟨φ,a',b',c',e',(tO rfl eb).trans e1,xY⟩
end
theorem Gf{p q:Int}{row:List Int}(h:ts.length<=14)(hr:(-1:Int)∉row):∃f ks φ,iV [ak p q ts,.rl (row.map .int)]=.ok (f,lV ks φ)/\p∈ks/\q∈ks/\wN ks ((ts.filter λt=>decide (t.1∈row)).map gY) φ:=by
 unfold iV;rw[Gb];show ∃f ks φ,pb (aF (ah kq) [2,2,2] _ [some (.sh,ak p q ts),some (.sh,.rl (row.map .int)),none,none,none,none,none,none]) _=_/\_;have z3:3<=sizeLine:=by decide
 have z1:1<=sizeLine:=by decide
 have za:[aG (-1,p,q)].length+(ts.map aG).length<=sizeLine:=by simp only[length_map,length_cons,length_nil];unfold sizeLine;omega
 obtain⟨m0,hm0,r0⟩:∃m0,m0=fL (bC ([aG (-1,p,q)]++ts.map aG)) (.rl ([aG (-1,p,q)]++ts.map aG))/\n6 m0=true:=⟨_,rfl,Ai⟩;rw[az (env':=[some (.sh,ak p q ts),some (.sh,.rl (row.map .int)),some (.ow,.dc [] []),none,none,none,none,none]) (by simp only[EV,aC])];rw[az (env':=mE (ak p q ts) row m0 ((-1,p,q)::ts) (.dc [] []) none none none none) (by
  have e0:([Val.tup [.int (-1),.int p,.int q]]:List Val)=[aG (-1,p,q)]:=rfl;rw[hm0];unfold mE ak;simp only[EV,bI iP,bI gh,z3,z1,e0,Ga za])]
 obtain⟨ks,a,e1,hn,hl,hk⟩:=R3 (N:=ak p q ts) (row:=row) (m:=m0) (us:=(-1,p,q)::ts) r0 (by rw[ZC];omega) none none none;rw[az e1];obtain⟨φ,a,b,c,e,e2,xY⟩:=R5 (N:=ak p q ts) (row:=row) (m:=m0) (us:=(-1,p,q)::ts) r0 hn hl hk a none none none;rw[az e2];have h0:=hk (-1,p,q) Zk;rw[filter_cons_of_neg (by simpa using hr)]at xY;unfold mE;simp only[EV,aC];exact⟨_,ks,φ,rfl,h0.1,h0.2,xY⟩
end K61
end
section
open PySem L2 Hv
namespace K61
def jM(a b:Int)(ts:List T3):Val:=open Classical in if a=b then .str "linker" else if Apart a b ts then .str "cutter" else .non
theorem Cj{a b:Int}:fT [ak a b ts]=.ok (true,.bl (decide (a=b))):=by
 unfold fT eF ak;simp only[EV,bI iP,bI gh]
theorem Ck{a b:Int}(h:ts.length<=14):∃f,fX [ak a b ts]=.ok (f,jM a b ts):=by
 have e1:=Cj (a:=a) (b:=b) (ts:=ts);have e2:=Cg (p:=a) (q:=b) h;unfold fX eO jM;generalize ak a b ts=N at *
 by_cases c1:a=b
 ·rw[Zg c1];exact⟨true,by simp only[EV,cB,e1,c1,decide_true]⟩
 ·rw[Zi c1]
  by_cases c2:Apart a b ts
  ·rw[Zg c2];exact⟨true,by simp only[EV,cB,eY,e1,e2,c1,c2,decide_true,decide_false]⟩
  ·rw[Zi c2];exact⟨true,by simp only[EV,cB,eY,e1,e2,c1,c2,decide_true,decide_false]⟩
def xZ(ts:List T3):List Int:=ts.map (·.1)
theorem xS{a b:Int}(h:ts.length<=14):gq [ak a b ts]=.ok (true,.rl ((xZ ts).map .int)):=by
 unfold gq gP ak;have hc:ts.length<=100000:=by omega
 simp only[EV,bI gh,fO,fM,length_map,hc];rw[b6 aG (λt=>.int t.1) ts (λt ht=>by
  simp only[EV,aR,zf])]
 unfold xZ;rw[ZQ];rfl
theorem eZ.neg{p q:Int}(ok:eZ p q ts):(-1:Int)∉xZ ts:=λh=>by
 obtain⟨t,ht,e⟩:=mem_map.mp h;have:=ok.pos t ht;omega
theorem AG{p q:Int}(ok:eZ p q ts):∃f,kP [ak p q ts]=.ok (f,jM p q ts):=by
 obtain⟨f,ks,φ,e1,hp,hq,xY⟩:=Gf (p:=p) (q:=q) (row:=xZ ts) ok.len ok.neg;have e2:=xS (a:=p) (b:=q) ok.len;rw[show (ts.filter λt=>decide (t.1∈xZ ts))=ts from List.filter_eq_self.mpr λt ht=>decide_eq_true (mem_map_of_mem (f:=(·.1)) ht)]at xY;have hl:=xY.iff hp hq;unfold kP kc jM;unfold ak at *
 by_cases c1:p=q
 ·rw[Zg c1];exact⟨true,by simp only[EV,bI iP,bI gh,c1,decide_true]⟩
 ·rw[Zi c1]
  unfold lV at e1
  by_cases c2:φ p = φ q
  ·rw[Zi (show ¬ Apart p q ts from λz=>z (hl.mp c2))];exact⟨true,by simp only[EV,bI iP,bI gh,c1,decide_false,jb,ja,e2,e1,f9 hp,f9 hq,c2,not_true]⟩
  ·rw[Zg (show Apart p q ts from λz=>c2 (hl.mpr z))];exact⟨true,by simp only[EV,bI iP,bI gh,c1,decide_false,jb,ja,e2,e1,f9 hp,f9 hq,c2,not_false_iff,decide_true]⟩
theorem N1{x y:Int}:(if y<x then y else x)=min x y:=by split<;>omega
theorem N2{x y:Int}:(if y>x then y else x)=max x y:=by split<;>omega
def jE(s:Bool)(t:T3)(x:Int):Int:=if s then gj t.2.1 t.2.2 x else x
def jN(s:Bool)(ts:List T3)(t:T3):List T3:=if s then ((others ts t).map (Az (gj t.2.1 t.2.2))).map turnT else others ts t
abbrev nT(s:Bool)(p q:Int)(ts:List T3)(t:T3):Val:=ak (min (jE s t p) (jE s t q)) (max (jE s t p) (jE s t q)) (jN s ts t)
theorem zg(h:sZ ts)(t:T3):sZ (others ts t):=by
 unfold sZ at *;exact h.sublist List.filter_sublist
theorem N3(h:sZ ts)(g:T3->T3)(hg:∀t,(g t).1=t.1):sZ (ts.map g):=by
 unfold sZ at *;rw[pairwise_map];exact h.imp λ{a b} z=>by rw[hg,hg];exact z
theorem Gg(h:sZ ts)(s:Bool)(t:T3):sZ (jN s ts t):=by
 unfold jN
 split
 ·rw[ZQ];exact N3 (zg h t) _ λ_=>rfl
 ·exact zg h t
theorem eZ.jE{p q:Int}(ok:eZ p q ts)(s:Bool)(t:T3):eZ (min (jE s t p) (jE s t q)) (max (jE s t p) (jE s t q)) (jN s ts t):=by
 refine⟨by omega,?_,Gg ok.up s t,λu hu=>?_,λu hu=>?_⟩
 ·unfold jN
  split
  ·rw[Ze,Ze];exact lR ok.len
  ·exact lR ok.len
 ·unfold jN at hu
  split at hu
  ·obtain⟨v,_,rfl⟩:=mem_map.mp hu;unfold turnT;dsimp only;split<;>split<;>omega
  ·exact ok.ends u (jy.mp hu).1
 ·unfold jN at hu
  split at hu
  ·obtain⟨v,hv,rfl⟩:=mem_map.mp hu;obtain⟨w,hw,rfl⟩:=mem_map.mp hv;exact ok.pos w (jy.mp hw).1
  ·exact ok.pos u (jy.mp hu).1
theorem JJ{p q:Int}(ok:eZ p q ts)(s:Bool)(ht:t∈ts):iX [ak p q ts,bD s,.int t.1]=.ok (true,nT s p q ts t):=by
 have sl:=AF s;have nd:=FH ok.up;unfold iX gT;cases s with
 |true=>have e:=FG (p:=p) (q:=q) ok.len nd ht;rw[show (turnT (0,gj t.2.1 t.2.2 p,gj t.2.1 t.2.2 q)).2.1=min (gj t.2.1 t.2.2 p) (gj t.2.1 t.2.2 q) from N1,show (turnT (0,gj t.2.1 t.2.2 p,gj t.2.1 t.2.2 q)).2.2=max (gj t.2.1 t.2.2 p) (gj t.2.1 t.2.2 q) from N2,show iz (((others ts t).map (Az (gj t.2.1 t.2.2))).map turnT)=jN true ts t from lT (Gg ok.up true t)]at e;generalize ak p q ts=N at *;simp only[EV,sl,nP,e];rfl
 |false=>
  have e:=FF (p:=p) (q:=q) ok.len nd ht;have e2:(others ts t).map turnT=others ts t:=by
   conv=>rhs;rw[<-map_id (others ts t)]
   exact map_congr_left λu hu=>tN (ok.ends u (jy.mp hu).1)
  rw[N1,N2,e2,lT (zg ok.up t)]at e;generalize ak p q ts=N at *;simp only[EV,sl,kE,e];rfl
theorem Gh(s:Bool):∃f,eW [bD s]=.ok (f,bD (!s)):=by
 have sl:=AF s;unfold eW dH;cases s with
 |true=>exact⟨true,by simp only[EV,sl];rfl⟩
 |false=>exact⟨true,by simp only[EV,sl];rfl⟩
theorem Cm(s:Bool):∃f,iY [bD s]=.ok (f,bD (!s)):=by
 have sl:=AF s;have z2:2<=sizeLine:=by decide
 unfold iY gU;cases s with
 |true=>exact⟨true,by simp only[EV,sl,z2,if_true,gf gh];rfl⟩
 |false=>exact⟨true,by simp only[EV,sl,z2,false_eq_true,if_false,gf iP];rfl⟩
theorem JK(x:Int):∃f s,kj [.int x]=.ok (f,bD s):=by
 have z2:2<=sizeLine:=by decide
 unfold kj iS;have:x%2=0\/x%2=1:=by omega
 rcases this with h|h
 ·exact⟨true,true,by simp only[EV,dz (show decide ((0:Int)<2)=true by decide),z2,h,gf iP];rfl⟩
 ·exact⟨true,false,by simp only[EV,dz (show decide ((0:Int)<2)=true by decide),z2,h,gf gh];rfl⟩
theorem AH:∀l:List T3,bC (l.map aG)=true
 |[]=>rfl
 |t::l=>by rw[Zo,bC,AH l];rfl
theorem copy_eq{p q:Int}:ko [ak p q ts]=.ok (true,ak p q ts):=by
 have z2:2<=sizeLine:=by decide
 have sq:cM [] (.rl (ts.map aG))=some (ts.map aG):=rfl;have il:=AH ts;unfold ko iT ak;simp only[EV,bI iP,bI gh,z2,il]
theorem tR{p q:Int}(ok:eZ p q ts):gp [ak p q ts]=.ok (true,ak p q ts):=by
 have e:=order_eq (p:=p) (q:=q) (us:=ts) (ZE ok.len (by decide));have e2:ts.map turnT=ts:=by
  conv=>rhs;rw[<-map_id ts]
  exact map_congr_left λu hu=>tN (ok.ends u hu)
 rw[N1,N2,e2,lT ok.up,show min p q=p from Int.min_eq_left ok.ord,show max p q=q from Int.max_eq_right ok.ord]at e;unfold gp gM;unfold ak at e |-;simp only[EV,iZ,bI iP,bI gh,e]
theorem Gi(i:Int):iW [.int i]=.ok (true,.bl true):=by
 unfold iW gQ;simp only[EV,fz (T:="int") (v:=.int i) (t:="int") rfl rfl,yU (T:="bool") (v:=.int i) (t:="int") rfl rfl]
 try rfl
end K61
end
section
open PySem L2 Hv
namespace K61
theorem Gj(ks:List Int)(hk:ks.length<=100)(N:Val):aF (ah qO) [] #[.iff (.or (.not (.blt (.isin "tuple") #[!1])) (.not (.blt .all #[.comp ["_law_number"] [none] (.one 0) .seq #[!1] .no (.call 21 #[!0])]))) #[.ret (.cst (.bl false))] .nil] [some (.sh,N),some (.sh,fH ks)]=.ok (.nx [some (.sh,N),some (.sh,fH ks)]):=by
 have ec:GF (ah qO) (.or (.not (.blt (.isin "tuple") #[!1])) (.not (.blt .all #[.comp ["_law_number"] [none] (.one 0) .seq #[!1] .no (.call 21 #[!0])]))) [some (.sh,N),some (.sh,fH ks)]=.ok (true,.bl false):=by
  have hc:ks.length<=100000:=by omega
  unfold fH;simp only[EV,fz (T:="tuple") (v:=.tup (ks.map .int)) (t:="tuple") rfl rfl,Ri,fM,length_map,hc];rw[b6 Val.int (λ_=>.bl true) ks (λk hk=>by
   simp only[EV,aR,jJ,Gi])]
  have hb:iI .all [.rl (ks.map λ_=>.bl true)]=.ok (true,.bl true):=by have:dM (ks.map λ_=>Val.bl true)=some (ks.map λ_=>true):=gI ks λ_ _=>rfl;show pb (pl (dM _)) _=_;rw[this,aZ,aC];simp
  simp only[EV,hb]
 rw[az ((nS ec).trans (by rw[Zi Y9,aF])),aF]
theorem like_eq{p q:Int}(h:ts.length<=14):∃f,dg [ak p q ts]=.ok (f,.bl true):=by
 have z1:1<=sizeLine:=by decide
 have za:[fH [p,q]].length+(ts.map aG).length<=sizeLine:=by simp only[length_map,length_cons,length_nil];unfold sizeLine;omega
 have ex:[fH [p,q]]++ts.map aG=([p,q]::ts.map l3).map fH:=by rw[Zo,ZQ];rfl
 unfold dg dG;show ∃f,pb (aF (ah qO) [] _ [some (.sh,ak p q ts),none]) _=_;have q1:aY (ah qO) [] (.iff (.or (.not (.blt (.isin "tuple") #[!0])) (.cmp .ne (.blt .len #[!0]) (¬2))) #[.ret (.cst (.bl false))] .nil) [some (.sh,ak p q ts),none]=.ok (.nx [some (.sh,ak p q ts),none]):=by unfold ak;simp only[EV,fz (T:="tuple") (v:=.tup [.tup [.int p,.int q],.rl (ts.map aG)]) (t:="tuple") rfl rfl,length_cons,length_nil];rfl
 have q2:aY (ah qO) [] (.iff (.or (.not (.blt (.isin "tuple") #[.idx (!0) (¬0)])) (.not (.blt (.isin "list") #[.idx (!0) (¬1)]))) #[.ret (.cst (.bl false))] .nil) [some (.sh,ak p q ts),none]=.ok (.nx [some (.sh,ak p q ts),none]):=by unfold ak;simp only[EV,bI iP,bI gh,fz (T:="tuple") (v:=.tup [.int p,.int q]) (t:="tuple") rfl rfl,fz (T:="list") (v:=.rl (ts.map aG)) (t:="list") rfl rfl]
 rw[az q1,az q2];have eb:cQ (ah qO) #[.bin .add (.lst #[.idx (!0) (¬0)]) (.idx (!0) (¬1))] [some (.sh,ak p q ts),none]=.ok [.rl (([p,q]::ts.map l3).map fH)]:=by have e0:([Val.tup [.int p,.int q]]:List Val)=[fH [p,q]]:=rfl;unfold ak;simp only[EV,bI iP,bI gh,z1,e0,Ga za,ex]
 obtain⟨env',e1,a,rfl⟩:=dJ fH (body:=λx env=>pb (pl (bH (.one 1) x env)) λenv'=>aF (ah qO) [] #[.iff (.or (.not (.blt (.isin "tuple") #[!1])) (.not (.blt .all #[.comp ["_law_number"] [none] (.one 0) .seq #[!1] .no (.call 21 #[!0])]))) #[.ret (.cst (.bl false))] .nil] env')
  (λ_ env=>∃a,env=[some (.sh,ak p q ts),a]) ([p,q]::ts.map l3) [some (.sh,ak p q ts),none] ⟨none,rfl⟩ (λpre ks post env hx hq=>by
   obtain⟨a,rfl⟩:=hq;have hk:ks.length<=100:=by
    have:ks∈[p,q]::ts.map l3:=by rw[hx];simp
    rcases Zw.mp this with rfl|h
    ·simp
    ·obtain⟨t,_,rfl⟩:=mem_map.mp h;simp[l3]
   refine⟨[some (.sh,ak p q ts),some (.sh,fH ks)],?_,_,rfl⟩;rw[aR,aZ,aC];exact Gj ks hk _)
 rw[az ((tO rfl eb).trans e1)];exact⟨true,by simp only[EV,aC]⟩
def bF:IS:=.for (.one 6) .seq #[.idx (!0) (¬1)] #[.iff (.cmp .ne (.idx (!6) (¬0)) (!2)) #[.expr (.met .append (!4) #[!6])] .nil]
def bL:b8:=#[.asg (.one 7) (.dct1 (.idx (!3) (¬2)) (.idx (!3) (¬1))),.asg (.one 5) (.comp ["_law_end","_law_renamed"] [none,some 7] (.one 0) .seq #[!5] .no (.dget (!1) (!0) (!0))),.asg (.one 8) (.comp ["_law_tie","_law_renamed"] [none,some 7] (.one 0) .seq #[!4] .no (.tup #[.idx (!0) (¬0),.dget (!1) (.idx (!0) (¬1)) (.idx (!0) (¬1)),.dget (!1) (.idx (!0) (¬2)) (.idx (!0) (¬2))])),.asg (.one 4) (.comp ["_law_one"] [none] (.one 0) .seq #[!8] .no (.tup #[.idx (!0) (¬0),.blt .min #[.idx (!0) (¬1),.idx (!0) (¬2)],.blt .max #[.idx (!0) (¬1),.idx (!0) (¬2)]]))]
def bR:b8:=#[.ret (.tup #[.tup #[.blt .min #[!5],.blt .max #[!5]],!4])]
theorem Cn:fR=.cons (.asg (.one 3) (.idx (.comp ["_law_tie","_law_name"] [none,some 2] (.one 0) .seq #[.idx (!0) (¬1)] (.cmp .eq (.idx (!0) (¬0)) (!1)) (!0)) (¬0))) (.cons (.asg (.one 4) (.lst .nil)) (.cons (.asg (.one 5) (.blt .list #[.idx (!0) (¬0)])) (.cons bF (.cons (.iff (.cmp .eq (!1) (.cst (.str "linker"))) bL .nil) bR)))):=rfl
def bE(N:Val)(s:Bool)(t:T3)(us:List T3)(m:Mk)(x y:Int)(a b c:Option (Mk×Val)):aN:=[some (.sh,N),some (.sh,bD s),some (.sh,.int t.1),some (.sh,aG t),some (.ow,.rl (us.map aG)),some (m,.rl [.int x,.int y]),a,b,c]
theorem JL{ts:List T3}(hn:(ts.map (·.1)).Nodup){t:T3}(ht:t∈ts):ts.filter (λu=>decide (u.1=t.1))=[t]:=by
 induction ts with
 |nil=>simp at ht
 |cons u ts ih=>
  rw[Zo,nodup_cons]at hn
  rcases Zw.mp ht with rfl|ht
  ·rw[List.filter_cons_of_pos (by simp),List.filter_eq_nil_iff.mpr λv hv z=>hn.1 (by rw[<-Zv z];exact mem_map_of_mem (f:=(·.1)) hv)]
  ·rw[filter_cons_of_neg λz=>hn.1 (by rw[Zv z];exact mem_map_of_mem (f:=(·.1)) ht)];exact ih hn.2 ht
theorem Co{p q:Int}(ok:eZ p q ts)(s:Bool)(ht:t∈ts):∃f,gW [ak p q ts,bD s,.int t.1]=.ok (f,nT s p q ts t):=by
 have hn:=FH ok.up;have hl:=ok.len;unfold gW;rw[Cn];show ∃f,pb (aF (ah rM) [4] _ [some (.sh,ak p q ts),some (.sh,bD s),some (.sh,.int t.1),none,none,none,none,none,none]) _=_;have hc:ts.length<=100000:=by omega
 have z0:0<=sizeLine:=by decide
 have z2:2<=sizeLine:=by decide
 have z3:3<=sizeLine:=by decide
 rw[az (env':=[some (.sh,ak p q ts),some (.sh,bD s),some (.sh,.int t.1),some (.sh,aG t),none,none,none,none,none]) (by
  unfold ak;simp only[EV,bI gh,fO,fM,length_map,hc];rw[lO aG aG (λu=>decide (u.1=t.1)) ts (λu hu=>by
   simp only[EV,aR,zf,ze]
   by_cases c:u.1=t.1<;>simp[c]),JL hn ht]
  simp only[EV,map_cons,map_nil,gf iP,ze];rfl)]
 rw[az (env':=[some (.sh,ak p q ts),some (.sh,bD s),some (.sh,.int t.1),some (.sh,aG t),some (.ow,.rl []),none,none,none,none]) (by simp only[EV,z0])];rw[az (env':=bE (ak p q ts) s t [] .nw p q none none none) (by
  have sq:cM [] (.tup [.int p,.int q])=some [.int p,.int q]:=rfl;unfold bE ak;simp only[EV,bI iP,map_nil]
  try rfl)]
 have eb:cQ (ah rM) #[.idx (!0) (¬1)] (bE (ak p q ts) s t [] .nw p q none none none)=.ok [.rl (ts.map aG)]:=by unfold bE ak;simp only[EV,bI gh]
 obtain⟨env',e1,a,rfl⟩:=dJ aG (body:=λx env=>pb (pl (bH (.one 6) x env)) λenv'=>aF (ah rM) [4] #[.iff (.cmp .ne (.idx (!6) (¬0)) (!2)) #[.expr (.met .append (!4) #[!6])] .nil] env')
  (λpre env=>∃a,env=bE (ak p q ts) s t (others pre t) .nw p q a none none) ts (bE (ak p q ts) s t [] .nw p q none none none) ⟨none,rfl⟩ (λpre u post env hx hq=>by
   obtain⟨a,rfl⟩:=hq;have hp:=ZN length hx;rw[ZA,ZC]at hp;have lo:=lR (t:=t) (Zm pre.length);have zl:((others pre t).map aG).length<sizeLine:=by rw[Ze];unfold sizeLine;omega
   refine⟨bE (ak p q ts) s t (others (pre++[u]) t) .nw p q (some (.sh,aG u)) none none,?_,_,rfl⟩;unfold bE;have eo:others (pre++[u]) t=others pre t++if u.1=t.1 then [] else [u]:=by
    unfold others;rw[filter_append]
    congr 1
    by_cases c:u.1=t.1<;>simp[c]
   rw[eo]
   by_cases c:u.1=t.1
   ·simp only[EV,aR,zf,c,not_true,decide_false,if_true,append_nil]
   ·simp only[EV,aR,zf,c,not_false_iff,decide_true,if_false,List.map_append,map_cons,map_nil,zl])
 rw[az (show aY (ah rM) [4] bF _=_ from(tO rfl eb).trans e1)];have lo:=lR (t:=t) hl;have sl:=AF s;have ec:GF (ah rM) (.cmp .eq (!1) (.cst (.str "linker"))) (bE (ak p q ts) s t (others ts t) .nw p q a none none)=.ok (true,.bl s):=by unfold bE;simp only[EV,sl]
 have fin:∀(us:List T3) (m:Mk) (x y:Int) (b c:Option (Mk×Val)),n6 m=true->pb (aF (ah rM) [4] bR (bE (ak p q ts) s t us m x y a b c)) (λf=>match f with|.nx _=>.ok (true,.non)|.rt p=>.ok p|_=>.no)=.ok (false,ak (min x y) (max x y) us):=λus m x y b c hm=>by
  unfold bR bE;simp only[EV,FY,FZ,z2,map_cons,map_nil,hm];rfl
 cases s with
 |false=>rw[az ((nS ec).trans (by rw[Zi Y9,aF]))];exact⟨_,fin _ _ _ _ _ _ rfl⟩
 |true=>
  have hL:∃m b c,aF (ah rM) [4] bL (bE (ak p q ts) true t (others ts t) .nw p q a none none)=.ok (.nx (bE (ak p q ts) true t (jN true ts t) m (jE true t p) (jE true t q) a b c))/\n6 m=true:=by
   have ho:(others ts t).length<=100000:=by omega
   have h2:2<=100000:=by decide
   unfold bL;rw[az (env':=bE (ak p q ts) true t (others ts t) .nw p q a (some (.nw,.dc [Sum.inl t.2.2] [.int t.2.1])) none) (by
    unfold bE;simp only[EV,Gd,Ge,mL]
    try rfl)]
   rw[az (env':=bE (ak p q ts) true t (others ts t) .nw (gj t.2.1 t.2.2 p) (gj t.2.1 t.2.2 q) a (some (.nw,.dc [Sum.inl t.2.2] [.int t.2.1])) none) (by
    unfold bE;simp only[EV,fO,fM,length_map,length_cons,length_nil];rw[show ([Val.int p,.int q]:List Val)=[p,q].map Val.int from rfl,b6 Val.int (λx=>.int (gj t.2.1 t.2.2 x)) [p,q] (λx hx=>by
     simp only[EV,aR,mL,AB,JG,AA])]
    simp only[EV,aC]
    try rfl)]
   rw[az (env':=bE (ak p q ts) true t (others ts t) .nw (gj t.2.1 t.2.2 p) (gj t.2.1 t.2.2 q) a (some (.nw,.dc [Sum.inl t.2.2] [.int t.2.1])) (some (.nw,.rl (((others ts t).map (Az (gj t.2.1 t.2.2))).map aG)))) (by
    unfold bE;simp only[EV,fO,fM,length_map,ho];rw[b6 aG (λu=>aG (Az (gj t.2.1 t.2.2) u)) (others ts t) (λu hu=>by
     simp only[EV,aR,zf,Gd,Ge,mL,AB,JG,AA,z3]
     try rfl)]
    simp only[EV,map_map]
    try rfl)]
   rw[az (env':=bE (ak p q ts) true t (jN true ts t) .nw (gj t.2.1 t.2.2 p) (gj t.2.1 t.2.2 q) a (some (.nw,.dc [Sum.inl t.2.2] [.int t.2.1])) (some (.nw,.rl (((others ts t).map (Az (gj t.2.1 t.2.2))).map aG)))) (by
    unfold bE;simp only[EV,fO,fM,length_map,ho];rw[b6 aG (λu=>aG (turnT u)) ((others ts t).map (Az (gj t.2.1 t.2.2))) (λu hu=>by
     simp only[EV,aR,zf,Gd,Ge,z3]
     try rfl)]
    simp only[EV,map_map];unfold jN;rw[Zg rfl,ZQ,ZQ]
    try rfl),aF]
   exact⟨_,_,_,rfl,rfl⟩
  obtain⟨m,b,c,hL,hm⟩:=hL;rw[az ((nS ec).trans (by rw[Zg rfl];exact hL))];exact⟨_,fin _ _ _ _ _ _ hm⟩
end K61
end
section
open PySem L2 Hv
namespace K61
def aJ(d:Bool×Int):Val:=.tup [bD d.1,.int d.2]
theorem kQ(s:Bool):PyData.strOk (fF s)=true:=by cases s<;>exact eu _
theorem Gk(n:Nat)(d:Bool×Int):toD (n+2) [] (aJ d)=some (.tuple [.str (fF d.1),.int d.2]):=by
 show (cI (toD (n+1) []) _).bind _=_;rw[cI,show toD (n+1) [] (bD d.1)=some (.str (fF d.1)) from Zg (kQ d.1),cI,show toD (n+1) [] (.int d.2)=some (.int d.2) from rfl,cI];rfl
theorem Gm(D:List (Bool×Int)):cop [] .ne (.rl (D.map aJ)) (.rl (D.map aJ))=some false:=by
 refine ne_self (yW aJ _ D λd _=>Gk 13 d) ?_;rw[PyData.canLay0];exact ju _ _ λd _=>by
  rw[PyData.canLay0,PyData.canLayAll0,PyData.canLay0,PyData.canLayAll0,PyData.canLay0,PyData.canLayAll0,kQ];rfl
theorem u7(s:Bool):cop [] .ne (bD s) (bD s)=some false:=by
 refine ne_self (p:=.str (fF s)) (Zg (kQ s)) ?_;rw[PyData.canLay0,kQ]
theorem N4(p q:Int)(ts:List T3):cop [] .ne (jM p q ts) (jM p q ts)=some false:=by
 unfold jM
 split
 ·exact u7 true
 ·split
  ·exact u7 false
  ·rfl
theorem kR:∀D:List (Bool×Int),bC (D.map aJ)=true
 |[]=>rfl
 |d::D=>by rw[Zo,bC,kR D];rfl
abbrev jP(p q:Int)(ts:List T3)(s:Bool)(D:List (Bool×Int)):Val:=cz 0 (ak p q ts) (fF s) (D.map aJ)
section
variable {N:Val} {s:Str} {ds:List Val}
theorem Gn:qf 1 [] (cz 0 N s ds) "net" = some N:=rfl
theorem Gp:qf 1 [] (cz 0 N s ds) "side" = some (.str s):=rfl
theorem N5:qf 1 [] (cz 0 N s ds) "done" = some (.rl ds):=rfl
theorem AI:lF [] (cz 0 N s ds) "deeds" [(0,9)]=some 9:=rfl
theorem N6:lF [] (cz 0 N s ds) "turn" [(0,11)]=some 11:=rfl
theorem Kq:lF [] (cz 0 N s ds) "won" [(0,17)]=some 17:=rfl
theorem AJ:lF [] (cz 0 N s ds) "lying" [(0,10)]=some 10:=rfl
theorem N7:lF [] (cz 0 N s ds) "deed" [(0,30)]=some 30:=rfl
theorem JM:dQ [cz 0 N s ds]=.ok (true,.str s):=by
 unfold dQ eE;simp only[EV,Gp]
end
section
variable {p q:Int} {ts:List T3} {s:Bool} {D:List (Bool×Int)}
theorem Gq(hl:D.length<=1000):eV [jP p q ts s D]=.ok (true,.rl (D.map aJ)):=by
 have hc:D.length<=100000:=by omega
 have z2:2<=sizeLine:=by decide
 unfold eV dD jP;generalize ak p q ts=N;simp only[EV,N5,fO,fM,length_map,hc];rw[b6 aJ aJ D (λd hd=>by
  unfold aJ bD;simp only[EV,Em,z2])]
 rfl
theorem xT(ok:eZ p q ts):cZ [jP p q ts s D]=.ok (true,ak p q ts):=by
 have e:=tR ok;unfold cZ dF jP;generalize ak p q ts=N at *;simp only[EV,Gn,jH,e]
theorem AK(ok:eZ p q ts):∃f,fE [jP p q ts s D]=.ok (f,jM p q ts):=by
 obtain⟨f,e⟩:=Ck (a:=p) (b:=q) ok.len;unfold fE fQ jP;refine⟨f,?_⟩;generalize ak p q ts=N at *;simp only[EV,Gn,jI,e]
theorem JN(ok:eZ p q ts):qM [ak p q ts,bD s]=.ok (true,jP p q ts s []):=by
 have e:=tR ok;have z0:0<=sizeLine:=by decide
 unfold qM Ju mQ jP;generalize ak p q ts=N at *;unfold bD;rw[rL]
 try dsimp only
 unfold pg;rw[Zg (by decide)];rw[show aS (ah NH) (.call 7 #[!1]) (none::[N,.str (fF s)].map λd=>some (Mk.sh,d))=.ok (true,N) by simp only[EV,map_cons,map_nil,oU,e],aC];rw[Zg rfl,rL]
 try dsimp only
 unfold pg;rw[Zg (by decide)];rw[show aS (ah NH) (!2) (none::[N,.str (fF s)].map λd=>some (Mk.sh,d))=.ok (true,.str (fF s)) by simp only[EV,map_cons,map_nil],aC];rw[Zg rfl,rL]
 try dsimp only
 unfold pg;rw[Zg (by decide)];rw[show aS (ah NH) (.lst .nil) (none::[N,.str (fF s)].map λd=>some (Mk.sh,d))=.ok (true,.rl []) by simp only[EV,map_cons,map_nil,z0],aC];rw[Zg rfl,rL];rfl
variable {Ψ:Nat->List Val->Pr FV} {sp:Hv.Sp} {env env':aN} {e:IE} {t:Nat} {d:Val} {f b:Bool}
theorem bf(h:b7 Ψ sp st env=.ok (.nx env')):bX Ψ sp (.cons st r) env=bX Ψ sp r env':=by
 rw[bX,h,aC]
theorem xU(hm:Jo e=none)(ht:sp.ids.contains t=true)(he:aS Ψ e (cC env)=.ok (true,d)):b7 Ψ sp (.asg (.one t) e) env=.ok (.nx (env.set t (some (.ow,d)))):=by
 rw[b7];try dsimp only
 rw[hm];try dsimp only
 rw[Zg ht,he,aC];rfl
theorem zh(hm:Jo e=none)(ht:sp.ids.contains t=false)(he:aS Ψ e (oh env)=.ok (f,d)):b7 Ψ sp (.asg (.one t) e) env=.ok (.nx (env.set t (some (.sh,d)))):=by
 rw[b7];try dsimp only
 rw[hm];try dsimp only
 rw[Zi (by rw[ht];exact Y9)];unfold Ou;rw[he];rfl
theorem N8(he:aS Ψ e (cC env)=.ok (f,.bl b)):b7 Ψ sp (.iff e x y) env=if b=true then bX Ψ sp x env else bX Ψ sp y env:=by
 rw[b7,he,aC];show pb (pl (some b)) _=_;rw[aZ,aC]
theorem AL(he:aS Ψ e (cC env)=.ok (f,.bl false)):b7 Ψ sp (.iff e x .nil) env=.ok (.nx env):=by
 rw[N8 he,Zi Y9,bX]
theorem Gs{i:Nat}(hi:env[i]?=some (some (.ow,.rl ds)))(he:aS Ψ a (cC env)=.ok (f,x))(hl:ds.length<sizeLine)(hm:bC (ds++[x])=true):b7 Ψ sp (.expr (.met .append (.var i) #[a])) env=.ok (.nx (env.set i (some (.ow,.rl (ds++[x]))))):=by
 rw[Ny (k:=.app i a) rfl];unfold Es;dsimp only;rw[hi];dsimp only;rw[he,aC];unfold pg;rw[Zg (decide_eq_true hl)];dsimp only;rw[Zg hm]
theorem N9{i:Nat}{j:Int}(hi:env[i]?=some (some (.ow,.tup ds)))(hj:ji ds j=some (.rl es))(he:aS Ψ a (cC env)=.ok (f,x))(hl:es.length<sizeLine):b7 Ψ sp (.expr (.met .append (.idx (.var i) (.cst (.int j))) #[a])) env=.ok (.nx (env.set i none)):=by
 rw[Ny (k:=.apI i j a) rfl];unfold Es;dsimp only;rw[hi];dsimp only;rw[hj];dsimp only;rw[he,aC];unfold pg;rw[Zg (decide_eq_true hl)]
theorem Gu{i:Nat}{j:Int}(hi:env[i]?=some (some (.ow,.tup ds)))(hj:ji ds j=some (.rl es)):b7 Ψ sp (.expr (.svals (.idx (.var i) (.cst (.int j))))) env=.ok (.nx (env.set i none)):=by
 rw[Ny (k:=.Cs i j) rfl];unfold Es;dsimp only;rw[hi];dsimp only;rw[hj]
end
theorem Gv:jC fD=[4,5]:=rfl
theorem AM{p q:Int}{s:Bool}(ok:eZ p q ts)(hl:D.length<=900):kr [jP p q ts s D,ak p q ts,bD s,.rl (D.map aJ)]=.ok (true,.bl true):=by
 have e1:=Gq (p:=p) (q:=q) (ts:=ts) (s:=s) (D:=D) (by omega);have e2:=xT (s:=s) (D:=D) ok;obtain⟨f3,e3⟩:=AK (s:=s) (D:=D) ok;obtain⟨f4,e4⟩:=AG ok;obtain⟨f5,e5⟩:=like_eq (p:=p) (q:=q) ok.len;have n1:=Gm D;have n2:=u7 s;have n3:=N4 p q ts;have n4:=An p q ts;have e6:∀N,dQ [cz 0 N (fF s) (D.map aJ)]=.ok (true,bD s):=λN=>JM;have z2:2<=sizeLine:=by decide
 have z3:3<=sizeLine:=by decide
 have zd:(D.map aJ).length<sizeLine:=by rw[Ze];unfold sizeLine;omega
 have zt:(ts.map aG).length<sizeLine:=by rw[Ze];have:=ok.len;unfold sizeLine;omega
 have il:∀i:Int,bC (D.map aJ++[aJ (true,i)])=true:=λi=>by
  have:=kR (D++[(true,i)]);rw[ZK]at this;exact this
 unfold kr Jr yZ;rw[Gv];show (match pb (bX (ah qP) ⟨[4,5],λ_ _=>.no⟩ fD [some (.sh,jP p q ts s D),some (.sh,ak p q ts),some (.sh,bD s),some (.sh,.rl (D.map aJ)),none,none]) _ with|.ok x=>pg (Prod.fst x) (.ok x)|_=>Pr.no)=(Pr.ok (true,Val.bl true):Pr FV);unfold fD;rw[bf (xU (d:=.rl (D.map aJ)) rfl rfl (by
  show aS _ _ [some (.sh,jP p q ts s D),some (.sh,ak p q ts),some (.sh,bD s),some (.sh,.rl (D.map aJ)),none,none]=_;unfold jP at *;simp only[EV,AI,fZ,e1]))]
 simp only[set_cons_succ,set_cons_zero];rw[bf (AL (f:=true) (by
  show aS _ _ [some (.sh,jP p q ts s D),some (.sh,ak p q ts),some (.sh,bD s),some (.sh,.rl (D.map aJ)),some (.sh,.rl (D.map aJ)),none]=_;unfold jP at *;generalize ak p q ts=N at *;generalize jM p q ts=W at *;simp only[EV,fz (T:="list") (v:=.rl (D.map aJ)) (t:="list") rfl rfl,n1,N6,Kq,kX,lP,oV,e6,e3,e4,n2,n3]))]
 rw[bf (xU (d:=ak p q ts) rfl rfl (by
  show aS _ _ [some (.sh,jP p q ts s D),some (.sh,ak p q ts),some (.sh,bD s),some (.sh,.rl (D.map aJ)),some (.sh,.rl (D.map aJ)),none]=_;unfold jP at *;simp only[EV,AJ,ku,e2]))]
 simp only[set_cons_succ,set_cons_zero];rw[bf (AL (f:=true) (by
  show aS _ _ [some (.sh,jP p q ts s D),some (.sh,ak p q ts),some (.sh,bD s),some (.sh,.rl (D.map aJ)),some (.sh,.rl (D.map aJ)),some (.sh,ak p q ts)]=_;unfold jP at *;generalize ak p q ts=N at *;simp only[EV,kB,e5,n4]))]
 rw[bf (Gs (f:=true) (x:=aJ (true,0)) rfl (by
  show aS _ _ [some (.sh,jP p q ts s D),some (.sh,ak p q ts),some (.sh,bD s),some (.sh,.rl (D.map aJ)),some (.sh,.rl (D.map aJ)),some (.sh,ak p q ts)]=_;simp only[EV,z2];rfl) zd (il 0))]
 simp only[set_cons_succ,set_cons_zero];rw[bf (N9 (f:=true) (x:=aG (0,0,0)) (es:=ts.map aG) (ds:=[.tup [.int p,.int q],.rl (ts.map aG)]) rfl gh (by
  show aS _ _ [some (.sh,jP p q ts s D),some (.sh,ak p q ts),some (.sh,bD s),some (.sh,.rl (D.map aJ)),some (.sh,.rl (D.map aJ++[aJ (true,0)])),some (.sh,ak p q ts)]=_;simp only[EV,z3];rfl) zt)]
 simp only[set_cons_succ,set_cons_zero];rw[bX,b7];rw[show aS (ah qP) (.blt .all #[.comp ["_law_deed"] [none] (.one 0) .seq #[.mth (!0) "deeds" [(0,9)] .nil] .no (.blt (.isin "tuple") #[!0])]) (cC [some (.sh,jP p q ts s D),some (.sh,ak p q ts),some (.sh,bD s),some (.sh,.rl (D.map aJ)),some (.ow,.rl (D.map aJ++[aJ (true,0)])),none])=.ok (true,.bl true) by
  show aS _ _ [some (.sh,jP p q ts s D),some (.sh,ak p q ts),some (.sh,bD s),some (.sh,.rl (D.map aJ)),some (.sh,.rl (D.map aJ++[aJ (true,0)])),none]=_;have hc:D.length<=100000:=by omega
  unfold jP at *;simp only[EV,AI,fZ,e1,fO,fM,length_map,hc];rw[b6 aJ (λ_=>.bl true) D (λd hd=>by
   simp only[EV,aR,fz (T:="tuple") (v:=aJ d) (t:="tuple") rfl rfl])]
  have hb:iI .all [.rl (D.map λ_=>.bl true)]=.ok (true,.bl true):=by have:dM (D.map λ_=>Val.bl true)=some (D.map λ_=>true):=gI D λ_ _=>rfl;show pb (pl (dM _)) _=_;rw[this,aZ,aC];simp
  simp only[EV,hb]]
 rfl
end K61
end
section
open PySem L2 Hv
namespace K61
theorem JO{p q:Int}{s:Bool}(ok:eZ p q ts)(ht:t∈ts)(hw:jM p q ts=.non)(hl:D.length<=900) :
  mu 30 [jP p q ts s D,bD s,.int t.1]=.ok (true,.tup [jP (min (jE s t p) (jE s t q)) (max (jE s t p) (jE s t q)) (jN s ts t) (!s) (D++[(s,t.1)]),nT s p q ts t]):=by
 obtain⟨f1,e1⟩:=AK (s:=s) (D:=D) ok;rw[hw]at e1;have e2:=JJ ok s ht;obtain⟨f3,e3⟩:=Gh s;have e4:=xT (s:=!s) (D:=D++[(s,t.1)]) (ok.jE s t);have n1:=u7 s;have ea:D.map aJ++[.tup [.str (fF s),.int t.1]]=(D++[(s,t.1)]).map aJ:=by rw[ZK];rfl
 have ig:=kR D;have il:decide ((D.map aJ).length<1000)=true:=by rw[decide_eq_true_eq,Ze];omega
 unfold mu;rw[Zg rfl];show pg (decide ((0:Nat)=0/\(["net","side","done"]:List Str)=(["net","side","done"]:List Str)/\fF s=fF s)&&bC (D.map aJ)&&decide ((D.map aJ).length<1000)) (wZ (ah nL) 1 0 28 29 [(0,17)] [(0,10)] (ak p q ts) (fF s) (D.map aJ) t.1)=_;rw[decide_eq_true (show (0:Nat)=0/\(["net","side","done"]:List Str)=(["net","side","done"]:List Str)/\fF s=fF s from⟨rfl,rfl,rfl⟩),ig,il];show wZ _ _ _ _ _ _ _ _ _ _ _=_;unfold wZ;unfold jP at *;unfold bD at n1 e2 e3;rw[show aS (ah nL) (.mth (!0) "won" [(0,17)] .nil) (fP (cz 0 (ak p q ts) (fF s) (D.map aJ)) (fF s) t.1)=.ok (f1,.non) by
  unfold fP;simp only[EV,Kq,jL,e1]]
 dsimp only;rw[show aS (ah nL) (.cmp .ne (!1) (.fld 1 (!0) "side")) (fP (cz 0 (ak p q ts) (fF s) (D.map aJ)) (fF s) t.1)=.ok (true,.bl false) by
  unfold fP;simp only[EV,Gp,n1]]
 dsimp only;rw[show aS (ah nL) (wX 1 28) (fP (cz 0 (ak p q ts) (fF s) (D.map aJ)) (fF s) t.1)=.ok (true,nT s p q ts t) by
  unfold fP wX;simp only[EV,Gn,kF,e2]]
 dsimp only;rw[show aS (ah nL) (wY 29) (As (fF s) t.1)=.ok (f3,.str (fF !s)) by
  unfold As wY;simp only[EV,je,e3]]
 dsimp only;rw[ea];rw[show aS (ah nL) (.mth (!0) "lying" [(0,10)] .nil) (fP (cz 0 (nT s p q ts t) (fF !s) ((D++[(s,t.1)]).map aJ)) (fF s) t.1)=.ok (true,nT s p q ts t) by
  unfold fP;simp only[EV,AJ,jc,e4]]
theorem Oa{t i j:Nat}{f f':Bool}(hm:Rk.contains m=true)(hi:env[i]?=some (some (.ow,o)))(hj:lF [] o m js=some j)(he:j4 Ψ es (cC env)=.ok (f,ds))(hd:bC ds=true)(ht:t≠i)(hc:sp.ids.contains t=true)(hr:sp.mu j (o::ds)=.ok (f',.tup [o',r])) :
  b7 Ψ sp (.asg (.one t) (.mth (.var i) m js es)) env=.ok (.nx (((env.set t none).set i (some (.ow,o'))).set t (some (.ow,r)))):=by
 rw[b7];try dsimp only
 rw[show Jo (.mth (.var i) m js es)=some (i,m,js,es) from Zg hm];dsimp only;unfold Sv;dsimp only;rw[hi];dsimp only;rw[hj,aZ,aC,he,aC];unfold pg;rw[Zg (by rw[hd,decide_eq_true ht];rfl)];dsimp only;rw[hr];dsimp only;rw[Zg hc]
abbrev R6:Hv.Sp:=⟨[3,4,6,10],mu⟩
def lE(ns:List Int)(N0:Val)(p q:Int)(ts:List T3)(s:Bool)(D:List (Bool×Int))(a b c:Option (Mk×Val)):aN:=[some (.sh,.rl (ns.map .int)),some (.sh,N0),some (.sh,bD s),none,some (.ow,jP p q ts s D),some (.sh,ak p q ts),some (.ow,.rl (D.map aJ)),a,b,c,none]
def Wm:IS:=.iff (.not (.call 23 #[!4,!5,!2,!6])) #[.ret (.cst (.bl false))] .nil
def lD:b8:=#[.asg (.one 8) (.call 19 #[!5]),.asg (.one 9) (.idx (!8) (.bin .mod (.bin .fdiv (!7) (¬2)) (.blt .len #[!8]))),.asg (.one 10) (.mth (!4) "deed" [(0,30)] #[!2,!9]),.asg (.one 5) (.call 31 #[!5,!2,!9]),.expr (.met .append (!6) #[.tup #[!2,!9]]),.asg (.one 2) (.call 32 #[!2]),.iff (.or (.not (.call 22 #[!10])) (.cmp .ne (!10) (!5))) #[.ret (.cst (.bl false))] .nil,.expr (.svals (.idx (!10) (¬1)))]
def lB:b8:=.cons Wm #[.iff (.cmp .isn (.call 20 #[!5]) (.cst .non)) lD .nil]
theorem Oc:qJ=.cons (.asg (.one 1) (.call 3 #[!0,.bin .mod (.call 0 #[!0,¬0]) (¬4),¬14])) #[.asg (.one 2) (.call 4 #[.bin .fdiv (.call 0 #[!0,¬1]) (¬5)]),.asg (.one 3) (.call 5 #[!1]),.asg (.one 4) (.call 8 #[!3,!2]),.expr (.svals (.idx (!3) (¬1))),.asg (.one 5) (!1),.asg (.one 6) (.lst .nil),.for (.one 7) .seq #[.slc (!0) (¬5) (¬63)] lB,.ret (.call 23 #[!4,!5,!2,!6])]:=rfl
theorem JP:jC qJ=[3,4,6,10]:=rfl
section
variable {ns:List Int} {N0:Val} {p q:Int} {ts:List T3} {s:Bool} {D:List (Bool×Int)}
theorem Gx(ok:eZ p q ts)(hl:D.length<=800)(hw:jM p q ts=.non)(cell:Int)(b c:Option (Mk×Val)):∃(t:T3) (b' c':Option (Mk×Val)),bX (ah iH) R6 lD (lE ns N0 p q ts s D (some (.sh,.int cell)) b c)=.ok (.nx (lE ns N0 (min (jE s t p) (jE s t q)) (max (jE s t p) (jE s t q)) (jN s ts t) (!s) (D++[(s,t.1)]) (some (.sh,.int cell)) b' c')):=by
 have hne:ts≠[]:=λz=>by
  subst z;unfold jM at hw;split at hw
  ·cases hw
  ·rename_i h1
   split at hw
   ·cases hw
   ·rename_i h2;refine h2 λw=>h1 (w.const id λe he=>by simp at he)
 have hlen:0<ts.length:=List.length_pos_iff.mpr hne;have e1:=xS (a:=p) (b:=q) ok.len;have YQ:decide ((0:Int)<(ts.length:Int))=true:=by rw[decide_eq_true_eq];omega
 have b1:=emod_nonneg (cell/2) (show (ts.length:Int)≠0 by omega);have b2:=emod_lt_of_pos (cell/2) (show 0<(ts.length:Int) by omega);obtain⟨k,hk⟩:=Int.eq_ofNat_of_zero_le b1;have hk2:k<ts.length:=by omega
 have ix:ji ((xZ ts).map Val.int) (cell/2%(ts.length:Int))=some (.int (ts[k]).1):=by rw[hk];exact l0 (by unfold xZ;simp[hk2])
 have ht:ts[k]∈ts:=List.getElem_mem hk2;generalize ts[k]=t at *;have e2:=JO (s:=s) (D:=D) ok ht hw (by omega);obtain⟨f3,e3⟩:=Co ok s ht;obtain⟨f4,e4⟩:=Cm s;obtain⟨f5,e5⟩:=like_eq (p:=min (jE s t p) (jE s t q)) (q:=max (jE s t p) (jE s t q)) (ts:=jN s ts t) (ok.jE s t).len;have n5:=An (min (jE s t p) (jE s t q)) (max (jE s t p) (jE s t q)) (jN s ts t);have ea:D.map aJ++[aJ (s,t.1)]=(D++[(s,t.1)]).map aJ:=by rw[ZK];rfl
 have zd:(D.map aJ).length<sizeLine:=by rw[Ze];unfold sizeLine;omega
 have im:=kR (D++[(s,t.1)]);have z2:2<=sizeLine:=by decide
 have ln:(xZ ts).length=ts.length:=Ze ..;refine⟨t,some (.sh,.rl ((xZ ts).map .int)),some (.sh,.int t.1),?_⟩;unfold lD lE;rw[bf (zh (f:=true) (d:=.rl ((xZ ts).map .int)) rfl rfl (by
  show aS _ _ [some (.sh,.rl (ns.map .int)),some (.sh,N0),some (.sh,bD s),none,none,some (.sh,ak p q ts),none,some (.sh,.int cell),_,_,none]=_;generalize ak p q ts=N at *;simp only[EV,qQ,e1]))]
 simp only[set_cons_succ,set_cons_zero];rw[bf (zh (f:=true) (d:=.int t.1) rfl rfl (by
  show aS _ _ [some (.sh,.rl (ns.map .int)),some (.sh,N0),some (.sh,bD s),none,none,some (.sh,ak p q ts),none,some (.sh,.int cell),some (.sh,.rl ((xZ ts).map .int)),_,none]=_;simp only[EV,dN (show gD 2=true by decide),length_map,ln,dz YQ,gf ix]))]
 simp only[set_cons_succ,set_cons_zero];rw[bf (Oa (j:=30) (ds:=[bD s,.int t.1]) (f:=true) (f':=true) (o:=jP p q ts s D) (o':=jP (min (jE s t p) (jE s t q)) (max (jE s t p) (jE s t q)) (jN s ts t) (!s) (D++[(s,t.1)])) (r:=nT s p q ts t) (by decide) rfl N7 (by
  show j4 _ _ [some (.sh,.rl (ns.map .int)),some (.sh,N0),some (.sh,bD s),none,some (.sh,jP p q ts s D),some (.sh,ak p q ts),some (.sh,.rl (D.map aJ)),some (.sh,.int cell),some (.sh,.rl ((xZ ts).map .int)),some (.sh,.int t.1),none]=_;unfold bD;simp only[EV,aC]) rfl (by decide) rfl e2)]
 simp only[set_cons_succ,set_cons_zero];rw[bf (zh (f:=f3) (d:=nT s p q ts t) rfl rfl (by
  show aS _ _ [some (.sh,.rl (ns.map .int)),some (.sh,N0),some (.sh,bD s),none,none,some (.sh,ak p q ts),none,some (.sh,.int cell),some (.sh,.rl ((xZ ts).map .int)),some (.sh,.int t.1),none]=_;simp only[EV,oW,e3]))]
 simp only[set_cons_succ,set_cons_zero];rw[bf (Gs (f:=true) (x:=aJ (s,t.1)) rfl (by
  show aS _ _ [some (.sh,.rl (ns.map .int)),some (.sh,N0),some (.sh,bD s),none,some (.sh,_),some (.sh,nT s p q ts t),some (.sh,.rl (D.map aJ)),some (.sh,.int cell),some (.sh,.rl ((xZ ts).map .int)),some (.sh,.int t.1),some (.sh,nT s p q ts t)]=_;unfold aJ bD;simp only[EV,z2]) zd (by rw[ea];exact im))]
 rw[ea];simp only[set_cons_succ,set_cons_zero];rw[bf (zh (f:=f4) (d:=bD !s) rfl rfl (by
  show aS _ _ [some (.sh,.rl (ns.map .int)),some (.sh,N0),some (.sh,bD s),none,none,some (.sh,nT s p q ts t),none,some (.sh,.int cell),some (.sh,.rl ((xZ ts).map .int)),some (.sh,.int t.1),none]=_;simp only[EV,qR,e4]))]
 simp only[set_cons_succ,set_cons_zero];rw[bf (AL (f:=true) (by
  show aS _ _ [some (.sh,.rl (ns.map .int)),some (.sh,N0),some (.sh,bD !s),none,some (.sh,_),some (.sh,nT s p q ts t),some (.sh,.rl ((D++[(s,t.1)]).map aJ)),some (.sh,.int cell),some (.sh,.rl ((xZ ts).map .int)),some (.sh,.int t.1),some (.sh,nT s p q ts t)]=_;simp only[EV,mZ,e5,n5]))]
 rw[bf (Gu (es:=(jN s ts t).map aG) (ds:=[.tup [.int (min (jE s t p) (jE s t q)),.int (max (jE s t p) (jE s t q))],.rl ((jN s ts t).map aG)]) rfl gh),bX];rfl
theorem Gy(ok:eZ p q ts)(hl:D.length<=800)(cell:Int)(b c:Option (Mk×Val)):∃(p' q':Int) (ts':List T3) (s':Bool) (D':List (Bool×Int)) (b' c':Option (Mk×Val)),bX (ah iH) R6 lB (lE ns N0 p q ts s D (some (.sh,.int cell)) b c)=.ok (.nx (lE ns N0 p' q' ts' s' D' (some (.sh,.int cell)) b' c'))/\eZ p' q' ts'/\D'.length<=D.length+1:=by
 have e1:=AM (s:=s) ok (show D.length<=900 by omega);obtain⟨f2,e2⟩:=AG ok;have i1:b7 (ah iH) R6 Wm (lE ns N0 p q ts s D (some (.sh,.int cell)) b c)=.ok (.nx (lE ns N0 p q ts s D (some (.sh,.int cell)) b c)):=AL (f:=true) (by
  show aS _ _ [some (.sh,.rl (ns.map .int)),some (.sh,N0),some (.sh,bD s),none,some (.sh,jP p q ts s D),some (.sh,ak p q ts),some (.sh,.rl (D.map aJ)),some (.sh,.int cell),_,_,none]=_;simp only[EV,lu,e1])
 have ec:aS (ah iH) (.cmp .isn (.call 20 #[!5]) (.cst .non)) (cC (lE ns N0 p q ts s D (some (.sh,.int cell)) b c))=.ok (true,.bl (jW (jM p q ts))):=by show aS _ _ [some (.sh,.rl (ns.map .int)),some (.sh,N0),some (.sh,bD s),none,some (.sh,jP p q ts s D),some (.sh,ak p q ts),some (.sh,.rl (D.map aJ)),some (.sh,.int cell),_,_,none]=_;generalize ak p q ts=N at *;have ei:cop [] .isn (jM p q ts) .non=some (jW (jM p q ts)):=rfl;simp only[EV,uU,e2,ei]
 unfold lB;rw[bf i1]
 by_cases hw:jM p q ts=.non
 ·obtain⟨t,b',c',e3⟩:=Gx (ns:=ns) (N0:=N0) (s:=s) ok hl hw cell b c;refine⟨_,_,_,!s,D++[(s,t.1)],b',c',?_,ok.jE s t,by rw[ZA,length_singleton];exact Zm _⟩;rw[bf ((N8 ec).trans (by rw[hw,Zg (show jW .non=Bool.true from rfl)];exact e3)),bX]
 ·refine⟨p,q,ts,s,D,b,c,?_,ok,by omega⟩
  have:jW (jM p q ts)=false:=by cases h:jM p q ts<;>first|rfl|exact(hw h).elim
  rw[bf ((N8 ec).trans (by rw[this,Zi Y9,bX])),bX]
end
theorem Od{f:Bool}(he:aS Ψ e (oh env)=.ok (f,.rl xs)):b7 Ψ sp (.for p .seq #[e] body) env=fq (λx env=>pb (pl (bH p x env)) λenv'=>bX Ψ sp body env') xs env:=by
 rw[b7];try dsimp only
 unfold Ou;rw[he];dsimp only;rw[aC];show pb (pl (some xs)) _=_;rw[aZ,aC]
theorem Oe(ns:List Int):∃f,Fx [.rl (ns.map .int)]=.ok (f,.bl true):=by
 have c0:bO [.rl (ns.map .int),.int 0]=.ok (true,.int (cellAt ns 0)):=gk ns 0;have c1:bO [.rl (ns.map .int),.int 1]=.ok (true,.int (cellAt ns 1)):=gk ns 1;generalize cellAt ns 0=x0 at *;generalize cellAt ns 1=x1 at *;obtain⟨p,q,ts,e1,ok⟩:=NY ns (st:=x0%4) (by omega);obtain⟨f2,s,e2⟩:=JK (x1/5);have e3:=copy_eq (p:=p) (q:=q) (ts:=ts);have e4:=JN (s:=s) ok;have z0:0<=sizeLine:=by decide
 unfold Fx yZ;rw[JP,Oc];show ∃f,pb (bX (ah iH) R6 _ [some (.sh,.rl (ns.map .int)),none,none,none,none,none,none,none,none,none,none]) _=_;rw[bf (zh (f:=true) (d:=ak p q ts) rfl rfl (by
  show aS _ _ [some (.sh,.rl (ns.map .int)),none,none,none,none,none,none,none,none,none,none]=_;simp only[EV,lq,uS,c0,dz (show decide ((0:Int)<4)=true by decide),e1]))]
 simp only[set_cons_succ,set_cons_zero];rw[bf (zh (f:=f2) (d:=bD s) rfl rfl (by
  show aS _ _ [some (.sh,.rl (ns.map .int)),some (.sh,ak p q ts),none,none,none,none,none,none,none,none,none]=_;simp only[EV,lq,rN,c1,dN (show gD 5=true by decide),e2]))]
 simp only[set_cons_succ,set_cons_zero];rw[bf (xU (d:=ak p q ts) rfl rfl (by
  show aS _ _ [some (.sh,.rl (ns.map .int)),some (.sh,ak p q ts),some (.sh,bD s),none,none,none,none,none,none,none,none]=_;simp only[EV,rO,e3]))]
 simp only[set_cons_succ,set_cons_zero];rw[bf (xU (d:=jP p q ts s []) rfl rfl (by
  show aS _ _ [some (.sh,.rl (ns.map .int)),some (.sh,ak p q ts),some (.sh,bD s),some (.sh,ak p q ts),none,none,none,none,none,none,none]=_;simp only[EV,xy,e4]))]
 simp only[set_cons_succ,set_cons_zero];rw[bf (Gu (es:=ts.map aG) (ds:=[.tup [.int p,.int q],.rl (ts.map aG)]) rfl gh)];simp only[set_cons_succ,set_cons_zero];rw[bf (zh (f:=false) (d:=ak p q ts) rfl rfl (by
  show aS _ _ [some (.sh,.rl (ns.map .int)),some (.sh,ak p q ts),some (.sh,bD s),none,none,none,none,none,none,none,none]=_;unfold ak;simp only[EV,aC]))]
 simp only[set_cons_succ,set_cons_zero];rw[bf (xU (d:=.rl []) rfl rfl (by
  show aS _ _ [some (.sh,.rl (ns.map .int)),some (.sh,ak p q ts),some (.sh,bD s),none,some (.sh,jP p q ts s []),some (.sh,ak p q ts),none,none,none,none,none]=_;simp only[EV,z0]))]
 simp only[set_cons_succ,set_cons_zero];have eb:aS (ah iH) (.slc (!0) (¬5) (¬63)) (oh (lE ns (ak p q ts) p q ts s [] none none none))=.ok (true,.rl ((cU ns (some 5) (some 63)).map .int)):=by show aS _ _ [some (.sh,.rl (ns.map .int)),some (.sh,ak p q ts),some (.sh,bD s),none,none,some (.sh,ak p q ts),none,none,none,none,none]=_;simp only[EV,El,qD,cy]
 have hlen:(cU ns (some 5) (some 63)).length<=58:=BZ ns 5 58 (by omega);generalize cU ns (some 5) (some 63)=cs at *;obtain⟨env',k1,p',q',ts',s',D',a',b',c',rfl,ok',hl⟩:=dJ Val.int (body:=λx env=>pb (pl (bH (.one 7) x env)) λenv'=>bX (ah iH) R6 lB env')
  (λpre env=>∃p' q' ts' s' D' a' b' c',env=lE ns (ak p q ts) p' q' ts' s' D' a' b' c'/\eZ p' q' ts'/\D'.length<=pre.length) cs (lE ns (ak p q ts) p q ts s [] none none none) ⟨p,q,ts,s,[],none,none,none,rfl,ok,by simp⟩ (λpre cell post env hx hq=>by
   obtain⟨p',q',ts',s',D',a',b',c',rfl,ok',hl⟩:=hq;have hp:=ZN length hx;rw[ZA,ZC]at hp;obtain⟨p2,q2,YR,s2,D2,b2,c2,k1,k2,k3⟩:=Gy (ns:=ns) (N0:=ak p q ts) (s:=s') ok' (show D'.length<=800 by omega) cell b' c';refine⟨lE ns (ak p q ts) p2 q2 YR s2 D2 (some (.sh,.int cell)) b2 c2,?_,_,_,_,_,_,_,_,_,rfl,k2,by rw[ZA,length_singleton];omega⟩;rw[aR,aZ,aC];exact k1)
 rw[show ([some (Mk.sh,.rl (ns.map .int)),some (.sh,ak p q ts),some (.sh,bD s),none,some (.ow,jP p q ts s []),some (.sh,ak p q ts),some (.ow,.rl []),none,none,none,none]:aN)=lE ns (ak p q ts) p q ts s [] none none none from rfl];rw[bf ((Od eb).trans k1)];have e5:=AM (s:=s') ok' (show D'.length<=900 by omega);refine⟨true,?_⟩;rw[bX,b7];rw[show aS (ah iH) (.call 23 #[!4,!5,!2,!6]) (cC (lE ns (ak p q ts) p' q' ts' s' D' a' b' c'))=.ok (true,.bl true) by
  show aS _ _ [some (.sh,.rl (ns.map .int)),some (.sh,ak p q ts),some (.sh,bD s'),none,some (.sh,jP p' q' ts' s' D'),some (.sh,ak p' q' ts'),some (.sh,.rl (D'.map aJ)),_,_,_,none]=_;simp only[EV,lu,e5]]
 rfl
theorem true(ns:List Int)(_:ns.length<=63):∃h',Fo [.rl (ns.map .int)] []=.ok (.bl true) h':=by
 obtain⟨f,e⟩:=Oe ns;exact JC e
end K61
end
end
section
namespace PySem.W.Fast
theorem tw17268307569126851092:True:=trivial
theorem tw8663091193937959497:True:=trivial
theorem tw13598103640338924222:True:=trivial
theorem tw18444029611597067229:True:=trivial
theorem tw13092689757561979625:True:=trivial
theorem tw13871536856780674922:True:=trivial
theorem tw6722482087588035750:True:=trivial
theorem tw3452592087314995825:True:=trivial
theorem tw7131634925336605039:True:=trivial
theorem tw9814391764175283683:True:=trivial
theorem tw1427494116535110039:True:=trivial
theorem tw12318181387000903788:True:=trivial
theorem tw9254768633450154461:True:=trivial
theorem tw10012765887789761475:True:=trivial
theorem tw17771701461890731795:True:=trivial
theorem tw1150649283162888234:True:=trivial
theorem tw673156364715275256:True:=trivial
theorem tw5522722517076920395:True:=trivial
theorem tw18278726036515362588:True:=trivial
theorem tw9870609889988401243:True:=trivial
theorem tw2804687326969776178:True:=trivial
theorem tw13326867637375319150:True:=trivial
theorem tw5315852157345923902:True:=trivial
theorem tw14969274913369934188:True:=trivial
theorem tw6542771686912285140:True:=trivial
theorem tw10663082966306919287:True:=trivial
theorem tw11846075491123996303:True:=trivial
theorem tw514099965719528733:True:=trivial
theorem tw10482354439982811528:True:=trivial
theorem tw3076319706432830265:True:=trivial
theorem tw4629283687480450519:True:=trivial
theorem tw8388259845662394926:True:=trivial
theorem tw9830011935844480213:True:=trivial
theorem tw17314630394468158291:True:=trivial
theorem tw6993287912173662855:True:=trivial
theorem tw6441257010349399317:True:=trivial
theorem tw14341278688226059095:True:=trivial
theorem tw3412028592385582887:True:=trivial
theorem tw10027444853499102167:True:=trivial
theorem tw10455409868141183887:True:=trivial
theorem tw11721772343297889360:True:=trivial
theorem tw13489556058798252885:True:=trivial
theorem tw15639143627372979239:True:=trivial
theorem tw2628763677255270006:True:=trivial
theorem tw13643138661218259725:True:=trivial
theorem tw2573176349447234310:True:=trivial
theorem tw7694160877566629911:True:=trivial
theorem tw16952898467417797069:True:=trivial
theorem tw7728758986794439783:True:=trivial
theorem tw13068679757938637763:True:=trivial
theorem tw9088756751561490147:True:=trivial
theorem tw998111998248535615:True:=trivial
theorem tw7453418618629569108:True:=trivial
theorem tw15548325734652009725:True:=trivial
theorem tw7558257832137551006:True:=trivial
theorem tw16060454183127288210:True:=trivial
theorem tw6632016230046095785:True:=trivial
theorem tw6306391628963976895:True:=trivial
theorem tw11675562957139412484:True:=trivial
theorem tw8891032158848843151:True:=trivial
theorem tw16875210746799038249:True:=trivial
theorem tw3031101592485104549:True:=trivial
theorem tw6172805862217793002:True:=trivial
theorem tw16879770594274166381:True:=trivial
theorem tw3021983756134112536:True:=trivial
theorem tw14485574931462975532:True:=trivial
theorem tw8600042519567684112:True:=trivial
theorem tw10444569816223556000:True:=trivial
theorem tw6414592387893661445:True:=trivial
theorem tw10982492979130317440:True:=trivial
theorem tw12513358897165902686:True:=trivial
theorem tw8207044544428249991:True:=trivial
theorem tw11118009912899536063:True:=trivial
theorem tw5730237389359347813:True:=trivial
theorem tw4550611546494461067:True:=trivial
theorem tw3986705562776981630:True:=trivial
theorem tw14314420848922335514:True:=trivial
theorem tw3095994283918871791:True:=trivial
theorem tw10734839234897261199:True:=trivial
theorem tw13168731630533631247:True:=trivial
theorem tw13948858052701697210:True:=trivial
theorem tw8302760211224919937:True:=trivial
theorem tw291869806946960231:True:=trivial
theorem tw3946228596503372318:True:=trivial
theorem tw14416268629074490468:True:=trivial
theorem tw12347050738404044160:True:=trivial
theorem tw2470970740739905998:True:=trivial
theorem tw4828741979978558235:True:=trivial
theorem tw15854572449416255671:True:=trivial
theorem tw14681523032246291031:True:=trivial
theorem tw12343366404677809695:True:=trivial
theorem tw12546409559956650815:True:=trivial
theorem tw16916065719807578061:True:=trivial
theorem tw4049338240016802006:True:=trivial
theorem tw6436695351863657888:True:=trivial
theorem tw5719570355016488603:True:=trivial
theorem tw2139630642212055250:True:=trivial
theorem tw16166882073364274832:True:=trivial
theorem tw4748550817197835175:True:=trivial
theorem tw13447419281928684638:True:=trivial
theorem tw5640021222698192733:True:=trivial
theorem tw1599435675492211152:True:=trivial
theorem tw17350385600595811763:True:=trivial
theorem tw5223126782325397502:True:=trivial
theorem tw9765753412034033817:True:=trivial
theorem tw12700874671058732262:True:=trivial
theorem tw9587305866945363818:True:=trivial
theorem tw2363061126995871744:True:=trivial
theorem tw10835087593819928780:True:=trivial
theorem tw7950888507112505766:True:=trivial
theorem tw4136288886191982207:True:=trivial
end PySem.W.Fast
open PySem PySem.W PyProof.Rows
set_option maxRecDepth 100000 in
set_option maxHeartbeats 0 in
theorem PySem.Challenge.cw_linkorcut_k61_deeds_done_holds : PySem.Challenge.rw_linkorcut_k61_deeds_done.Holds := by
 w_on;o_law;k_head;(case hw=>w_witness2)
 k_fill
 refine Hv.walk (l:=PySem.Challenge.rw_linkorcut_k61_deeds_done) (k:=68) (x:="_law_script") rfl rfl ⟨rfl,by decide,by decide⟩ (λw h Y=>PySem.W.kIn_of Y) ?F
 case F=>
  intro w mg fa h KX G hmg;refine' K61.all_mk KX G hmg K61.true ?_ ?_ ?_ ?_ ?_ ?_ ?_ ?_ ?_ ?_ ?_ ?_ ?_ ?_ ?_ ?_ ?_ ?_ ?_ ?_ ?_ ?_ ?_ ?_ ?_ ?_ ?_ ?_ ?_ ?_ ?_ ?_ ?_ ?_ ?_ ?_ ?_ ?_ ?_ ?_ ?_ ?_ ?_ ?_ ?_ ?_ ?_ ?_ ?_ ?_ ?_ ?_ ?_ ?_ ?_ ?_ ?_ ?_ ?_ ?_ ?_ ?_ ?_ ?_ ?_ ?_ ?_ ?_ ?_ ?_ ?_ ?_ ?_ ?_ ?_ ?_ ?_ ?_ ?_ ?_ ?_ ?_ ?_ ?_ ?_
  all_goals try first|k_is|(exact⟨_,L2.fun_mk (by k_is) (by k_is) (by k_is)⟩)|(intro x hx;simp only[Hv.bltNames,List.mem_cons,List.not_mem_nil,or_false]at hx;rcases hx with rfl|rfl|rfl|rfl|rfl|rfl|rfl|rfl|rfl|rfl|rfl|rfl|rfl|rfl|rfl|rfl|rfl<;>k_is)
#print axioms PySem.Challenge.cw_linkorcut_k61_deeds_done_holds
end
