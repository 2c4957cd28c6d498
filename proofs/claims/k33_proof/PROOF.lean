import PyProof.Rows.All
import Wide.All
import OpenK.AllK
import Wide.FinOn
import Lean
import PyProof.EqAt
import PyProof.EqKinds
import PyProof.TupleCall
import KE.KDictList
import KE.KDictLaws
import KE.KDictSum
import KE.KRevSl
import PyProof.DictWalks
import PySem.Challenge.RW_linkorcut_k33_whole_rows_as_built
set_option Elab.async false
set_option compiler.extract_closed false
set_option linter.all false
set_option maxRecDepth 100000
set_option maxHeartbeats 4000000
set_option genSizeOf false
set_option backward.eqns.nonrecursive false
set_option backward.eqns.deepRecursiveSplit false
set_option bootstrap.genMatcherCode false
set_option hygiene false
local macro_rules
|`(def $n:declId $s:optDeclSig $v:declVal)=>`(noncomputable def $n:declId $s:optDeclSig $v:declVal)
|`(abbrev $n:declId $s:optDeclSig $v:declVal)=>`(noncomputable abbrev $n:declId $s:optDeclSig $v:declVal)
local macro_rules
|`(#[$a])=>`(.cons $a .nil)
|`(#[$a,$as,*])=>`(.cons $a #[$as,*])
local macro_rules
|`(!$n:num)=>`(.var $n)
local macro_rules
|`(¬$n:num)=>`(.cst (.int $n))
set_option hygiene true
open Array(getElem?_toList toList)
open Bool(and_eq_true false_eq_true not_eq_true' or_eq_true)
open Classical(byContradiction choose_spec)
open PySem.Heap(get?_update_self size_push)
open Int(emod_lt_of_pos emod_nonneg not_lt)
open List(all_eq_true any_cons any_map cons_append contains_iff_mem countP_cons eraseIdx_cons_succ ext_getElem filter_append filter_congr find?_cons getElem_map getElem_of_mem head?_cons idxOf_lt_length_iff length length_cons length_drop length_eraseIdx length_filter_le length_map length_nil length_range length_set length_take lookup_cons map_congr_left map_cons map_id map_nil map_reverse mem_append mem_cons mem_map_of_mem mem_range mem_reverse nil_append nodup_nil not_mem_nil of_mem_zip pairwise_iff_getElem pairwise_map range' replicate reverse_cons set_cons_succ set_cons_zero size_toArray take_sublist toArray zip_cons_cons)
open Nat(le_succ lt_irrefl lt_succ_of_lt lt_succ_self lt_trans mod_lt ne_of_gt not_lt_zero sub_self zero_le)
open Option(bind_some getD_none getD_some isSome_map isSome_some map_eq_some_iff map_some)
open PySem.W(callWith_K callWith_K0 cellsFrom_some codeIn emptyDict eq_sortI findCls findIn handedIn hasDictIn instObj kat_lt keepIn kia_one kitOne kitx_list lookIn makesIn methodObj plainGet plainGet_of plainOver readsIn sortI_rises specialIn takerIn typeIn)
def aaa:=@PySem.wpAny_bind
def aab:=@Bool.false_ne_true
def aac:=@List.mem_cons_of_mem
def aad:=@Option.bind_eq_some_iff
def aae:=@List.length_map
def aaf:=@List.getElem?_set_ne
def aag:=@List.mem_cons_self
def aah:=@List.getElem?_eq_some_iff
def aai:=@PySem.Heap.get?_push_of_some
def aaj:=@List.length_append
def aak:=@if_pos
def aal:=@PySem.wpAny_pure
def aam:=@if_neg
def aan:=@List.getElem?_set_self
def aao:=@Nat.le_refl
def aap:=@List.mem_singleton
def aaq:=@List.map_cons
def aar:=@List.mem_filter
def aas:=@List.mem_append
def aat:=@List.mem_append_left
def aau:=@PySem.Heap.lt_size
def aav:=@List.getElem?_append_left
def aaw:=@List.mem_cons
def aax:=@List.getElem?_eq_getElem
def aay:=@List.size_toArray
def aaz:=@Nat.lt_of_lt_of_le
def aaA:=@PySem.Heap.get?_push_size
def aaB:=@of_decide_eq_true
def aaC:=@List.getElem?_append_right
def aaD:=@List.mem_append_right
def aaE:=@List.length_cons
def aaF:=@List.getElem?_map
def aaG:=@List.filter_sublist
def aaH:=@List.nodup_append
def aaI:=@List.nodup_cons
def aaJ:=@Nat.ne_of_lt
def aaK:=@List.prefix_refl
def aaL:=@List.mem_of_getElem?
def aaM:=@List.append_nil
def aaN:=@Nat.le_trans
def aaO:=@List.map_append
def aaP:=@PySem.W.mg_of
def aaQ:=@List.length_singleton
def aaR:=@List.pairwise_cons
def aaS:=@List.append_assoc
def aaT:=@beq_eq_false_iff_ne
def aaU:=@Array.length_toList
def aaV:=@List.lookup_cons
def aaW:=@List.mem_map
def aaX:=@decide_eq_true_eq
def aaY:=@PySem.W.sortI_perm
def aaZ:=@Option.some.inj
def aa0:=@PySem.wpAny_newObj_type
def aa1:=@PySem.wpAny_Call_Name_kw
def aa2:=@List.map_map
def aa3:=@Int.eq_ofNat_of_zero_le
def aa7:=@List.prefix_append
open PySem.W(Frag sortI nsIn fnOf isFn)
section
namespace L2
open PySem PySem.Spec PyProof.Rows
abbrev Key:=Sum Int Str
def rE:Key->Value->Bool
 |.inl k,v=>Value.isInt k v
 |.inr x,v=>Value.isStrOf x v
def UZ(w:World):Key->Int
 |.inl k=>hashInt k
 |.inr x=>hashStr w x
theorem bR:∀{k:Key} {v:Value},rE k v=true->(∃i t,k=Sum.inl i/\v=Value.int i t)\/(∃x t,k=Sum.inr x/\v=Value.str x t)
 | .inl i,v,h=>by
  obtain⟨t,e⟩:=Value.isInt_shape (k:=i) (v:=v) h;exact .inl ⟨i,t,rfl,e⟩
 | .inr x,v,h=>by
  obtain⟨t,e⟩:=Value.isStrOf_shape (x:=x) (v:=v) h;exact .inr ⟨x,t,rfl,e⟩
theorem Cr(i:Int)(t:Tok):rE (.inl i) (.int i t)=true:=by simp[rE,Value.isInt]
theorem Cs(x:Str)(t:Tok):rE (.inr x) (.str x t)=true:=by simp[rE,Value.isStrOf]
theorem L6(a b:Int):decide ((Sum.inl a:Key)=Sum.inl b)=(a==b):=by
 by_cases e:a=b
 ·subst e;simp
 ·have h:¬ (Sum.inl a:Key)=Sum.inl b:=λq=>e (Sum.inl.inj q);rw[decide_eq_false h];exact(aaT.mpr e).symm
theorem L7(a b:Str):decide ((Sum.inr a:Key)=Sum.inr b)=decide (a=b):=by
 by_cases e:a=b
 ·subst e;simp
 ·have h:¬ (Sum.inr a:Key)=Sum.inr b:=λq=>e (Sum.inr.inj q);rw[decide_eq_false h,decide_eq_false e]
theorem L8(a:Int)(b:Str):decide ((Sum.inl a:Key)=Sum.inr b)=false:=decide_eq_false (λq=>nomatch q)
theorem Ma(a:Str)(b:Int):decide ((Sum.inr a:Key)=Sum.inl b)=false:=decide_eq_false (λq=>nomatch q)
def bK(prog:Program)(w:World):PySem.KeyKind prog w Key where
 is:=rE
 hash:=UZ w
 inj:=λv a b ha hb=>by
  rcases bR ha with ⟨i,t,rfl,rfl⟩|⟨x,t,rfl,rfl⟩
  ·rcases bR hb with ⟨j,u,rfl,e⟩|⟨y,u,rfl,e⟩
   ·injection e with e1 _;rw[e1]
   ·exact nomatch e
  ·rcases bR hb with ⟨j,u,rfl,e⟩|⟨y,u,rfl,e⟩
   ·exact nomatch e
   ·injection e with e1 _;rw[e1]
 byValue:=λk v h=>by
  rcases bR h with ⟨i,t,rfl,rfl⟩|⟨x,t,rfl,rfl⟩<;>rfl
 pyHash:=λhv h=>by
  rcases bR hv with ⟨i,t,rfl,rfl⟩|⟨x,t,rfl,rfl⟩
  ·exact wpAny_pyHash_int h
  ·exact wpAny_pyHash_str h
 eqBool:=λhu hv h=>by
  rcases bR hu with ⟨i,t,rfl,rfl⟩|⟨x,t,rfl,rfl⟩
  ·rcases bR hv with ⟨j,u,rfl,rfl⟩|⟨y,u,rfl,rfl⟩
   ·rw[L6]at h;exact wpAny_eqBool_int h
   ·rw[L8]at h;exact SeqAt.EqAt.int_str i t y u _ _ _ _ h
  ·rcases bR hv with ⟨j,u,rfl,rfl⟩|⟨y,u,rfl,rfl⟩
   ·rw[Ma]at h;exact SeqAt.EqAt.str_int x t j u _ _ _ _ h
   ·rw[L7]at h;exact wpAny_eqBool_str h
 «strs»:=λk x t v h=>by
  rcases bR h with ⟨i,u,rfl,e⟩|⟨y,u,rfl,e⟩
  ·exact nomatch e
  ·injection e with e1 _
   subst e1;cases v<;>rfl
theorem zZ(prog:Program)(w:World)(k:Key)(v:Value):(bK prog w).is k v=rE k v:=rfl
theorem xT(prog:Program)(w:World)(i:Int)(t:Tok):(bK prog w).is (.inl i) (.int i t)=true:=Cr i t
theorem xU(prog:Program)(w:World)(x:Str)(t:Tok):(bK prog w).is (.inr x) (.str x t)=true:=Cs x t
inductive V where
 |non|bl (b:Bool)|int (i:Int)|str (x:Str)|byt (b:Array UInt8)|flt (b:UInt64)|ref (a:Addr)|ty (n:String)
 deriving DecidableEq
def RelV:V->Value->Prop
 |.non,u=>u=Value.none
 |.bl b,u=>u=Value.bool b
 |.int i,u=>∃t,u=Value.int i t
 |.str x,u=>∃t,u=Value.str x t
 |.byt b,u=>∃t,u=Value.bytes b t
 |.flt b,u=>∃t,u=Value.float b t
 |.ref a,u=>u=Value.ref a
 |.ty n,u=>u=Value.type n
abbrev Vals:List V->List Value->Prop:=Paired RelV
theorem Vals.length(r:Vals xs us):xs.length=us.length:=Paired.length r
theorem Vals.get:∀{xs:List V} {us:List Value} {i:Nat} {x:V},Vals xs us->xs[i]?=some x->∃u,us[i]?=some u/\RelV x u
 |_,_,_,_,.nil,e=>by simp at e
 |_,_,0,_,.cons r _,e=>by simp at e;subst e;exact⟨_,rfl,r⟩
 | _,_,i+1,x,.cons _ t,e=>by
  obtain⟨u,h1,h2⟩:=Vals.get (i:=i) (x:=x) t (by simpa using e);exact⟨u,by simpa using h1,h2⟩
theorem Vals.set(r:RelV x u):∀{xs:List V} {us:List Value} (i:Nat),Vals xs us->Vals (xs.set i x) (us.set i u)
 |_,_,_,.nil=>.nil
 |_,_,0,.cons _ t=>.cons r t
 |_,_,i+1,.cons q t=>.cons q (Vals.set r i t)
theorem Vals.append:∀{xs ys:List V} {us ws:List Value},Vals xs us->Vals ys ws->Vals (xs++ys) (us++ws)
 |_,_,_,_,.nil,s=>s
 |_,_,_,_,.cons r t,s=>.cons r (Vals.append t s)
theorem Vals.take:∀{xs:List V} {us:List Value} (n:Nat),Vals xs us->Vals (xs.take n) (us.take n)
 |_,_,0,_=>.nil
 |_,_,_+1,.nil=>.nil
 |_,_,n+1,.cons r t=>.cons r (Vals.take n t)
theorem Vals.drop:∀{xs:List V} {us:List Value} (n:Nat),Vals xs us->Vals (xs.drop n) (us.drop n)
 |_,_,0,r=>r
 |_,_,_+1,.nil=>.nil
 |_,_,n+1,.cons _ t=>Vals.drop n t
def lZ:Option V->Option Value->Prop
 |some v,some u=>RelV v u
 |none,none=>True
 |_,_=>False
def KV{κ:Type}:List (κ × V)->List (κ × Value)->Prop:=Paired λ(p:κ × V) (q:κ × Value)=>p.1=q.1/\RelV p.2 q.2
def kV:Key->V
 |.inl i=>.int i
 |.inr x=>.str x
inductive HO where
  |lst (xs:List V)
  |tup (xs:List V)
  |dK (kvs:List (Key×V))|dT (kvs:List (List Key×V))
  |set (S:Int->Bool) (n:Nat)
  |ins (C dx:Addr) (fs:List (Str×V))
  |own (x:Addr)
  |xd (fs:List (Str×V))
  |met (f x:Addr)
  |rng (lo hi:Int)
  |v9 (o:Obj) (u:HO)
  |tbl (ps:Array Value)
  |ext (φ:Heap->Prop)
abbrev Hp:=Addr->Option HO
def upd(H:Hp)(a:Addr)(o:HO):Hp:=λb=>if b=a then some o else H b
theorem bE:upd H a o a=some o:=by unfold upd;rw[aak rfl]
theorem aR(h:b≠a):upd H a o b=H b:=by unfold upd;rw[aam h]
theorem Qz{H:Hp}{a b:Addr}{o u:HO}(h:H a=some o)(h':H b=some u)(d:o≠u):a≠b:=by
 intro e;subst e;rw[h]at h';exact d (aaZ h')
theorem bf{H:Hp}{a b:Addr}{o:HO}(h:H a=some o)(h':H b=none):a≠b:=by
 intro e;subst e;rw[h]at h';cases h'
section
variable (P:Program) (w:World)
def cD(H:Hp)(h:Heap)(a:Addr):HO->Prop
 |.lst xs=>xs.length<=sizeLine/\∃(its:List Value) (n:Nat),Vals xs its/\h.get? a=some { cls:=.type "list",data:=.seq its.toArray n }
 |.tup xs=>xs.length<=sizeLine/\∃its:List Value,Vals xs its/\IsTup h a its.toArray
 |.dK kvs=>kvs.length<=sizeLine/\(a==sysModules)=false/\∃vs,KV kvs vs/\h.DictOf (bK P w) a vs
 | .dT kvs=>kvs.length<=sizeLine/\(a==sysModules)=false/\∃xs:List (List Key×Addr×Value),
   Paired (λ(p:List Key×V) (q:List Key×Addr×Value)=>p.1=q.1/\H q.2.1=some (.tup (p.1.map kV))/\RelV p.2 q.2.2) kvs xs /\
   ∃o es ep,h.get? a=some o/\o.ExactDict/\o.data=.dict es ep/\es.toList=xs.map (entryOfKey (tupleKind (bK P w)))/\(xs.map (·.1)).Nodup
 |.set S n=>h.SetOf (intKind P w) a S n
 | .ins C dx fs=>H dx=some (.own a)/\fs.length<=1000/\dx≠a/\h.get? a=some (instObj C dx) /\
   ∃mA,h.Ns1 dx mA/\(∀f,lZ (fs.lookup f) (mA f))/\PySem.Within mA (fs.map (·.1))
 |.own _=>∃o,h.get? a=some o
 |.xd fs=>∃mA,h.Ns1 a mA/\∀f,lZ (fs.lookup f) (mA f)
 |.rng lo hi=>∃t u v,h.get? a=some { cls:=.type "range",data:=.fields [.int lo t,.int hi u,.int 1 v].toArray }
 |.v9 o u=>h.get? a=some o/\cD H h a u
 |.tbl ps=>h.get? a=some { cls:=.none,data:=.fields ps }
 |.met f x=>h.get? a=some (methodObj (.ref f) (.ref x))
 |.ext φ=>φ h/\(∃o,h.get? a=some o)/\∀h1 h2:Heap,φ h1->(∀o,h1.get? a=some o->h2.get? a=some o) -> φ h2
def mT(H:Hp)(h:Heap):Prop:=∀a o,H a=some o->cD P w H h a o
end
section
variable {P:Program} {w:World} {H H':Hp} {h h':Heap} {a:Addr} {o:HO}
theorem cD.lt(x:cD P w H h a o):a<h.objs.size:=by
 cases o with
 |lst xs=>obtain⟨_,_,_,_,e⟩:=x;exact aau e
 |tup xs=>obtain⟨_,_,_,p⟩:=x;exact p.lt
 |dK kvs=>obtain⟨_,_,_,_,o,_,_,e,_⟩:=x;exact aau e
 |dT kvs=>obtain⟨_,_,_,_,o,_,_,e,_⟩:=x;exact aau e
 |set S n=>obtain⟨o,_,_,_,e,_⟩:=x;exact aau e
 |ins C dx fs=>obtain⟨_,_,_,e,_⟩:=x;exact aau e
 |own y=>obtain⟨_,e⟩:=x;exact aau e
 |xd fs=>obtain⟨_,⟨_,_,_,e,_⟩,_⟩:=x;exact aau e
 |rng lo hi=>obtain⟨_,_,_,e⟩:=x;exact aau e
 |v9 ob u=>obtain⟨e,_⟩:=x;exact aau e
 |tbl ps=>exact aau (show h.get? a=some _ from x)
 |met f y=>exact aau (show h.get? a=some _ from x)
 |ext φ=>obtain⟨_,⟨_,e⟩,_⟩:=x;exact aau e
theorem Paired.Mb{α β:Type}{F G:α -> β -> Prop}:∀{l₁:List α} {l₂:List β},Paired F l₁ l₂->(∀a b,F a b->G a b)->Paired G l₁ l₂
 |_,_,.nil,_=>.nil
 |_,_,.cons r t,f=>.cons (f _ _ r) (Paired.Mb t f)
theorem cD.stay(x:cD P w H h a o)(k:∀b u,(b=a\/H b=some (.own a))->h.get? b=some u->h'.get? b=some u)
  (ho:∀b,H b=some (.own a)->H' b=some (.own a)) (ht:∀b xs,H b=some (.tup xs)->H' b=some (.tup xs)):cD P w H' h' a o:=by
 induction o with
 |lst xs=>obtain⟨z,its,n,r,e⟩:=x;exact⟨z,its,n,r,k _ _ (.inl rfl) e⟩
 |tup xs=>obtain⟨z,its,r,ob,e,c⟩:=x;exact⟨z,its,r,ob,k _ _ (.inl rfl) e,c⟩
 |dK kvs=>obtain⟨z,y,vs,r,ob,es,ep,e,c⟩:=x;exact⟨z,y,vs,r,ob,es,ep,k _ _ (.inl rfl) e,c⟩
 |dT kvs=>obtain⟨z,y,xs,r,ob,es,ep,e,c⟩:=x;exact⟨z,y,xs,Paired.Mb r λp q z=>⟨z.1,ht _ _ z.2.1,z.2.2⟩,ob,es,ep,k _ _ (.inl rfl) e,c⟩
 |set S n=>obtain⟨ob,es,ep,t,e,c⟩:=x;exact⟨ob,es,ep,t,k _ _ (.inl rfl) e,c⟩
 |ins C dx fs=>obtain⟨d,z,ne,e,mA,⟨od,es,ep,e2,c⟩,r⟩:=x;exact⟨ho _ d,z,ne,k _ _ (.inl rfl) e,mA,⟨od,es,ep,k _ _ (.inr d) e2,c⟩,r⟩
 |own y=>obtain⟨ob,e⟩:=x;exact⟨ob,k _ _ (.inl rfl) e⟩
 |xd fs=>obtain⟨mA,⟨od,es,ep,e,c⟩,r⟩:=x;exact⟨mA,⟨od,es,ep,k _ _ (.inl rfl) e,c⟩,r⟩
 |rng lo hi=>obtain⟨t,u,v,e⟩:=x;exact⟨t,u,v,k _ _ (.inl rfl) e⟩
 |v9 ob u ih=>obtain⟨e,q⟩:=x;exact⟨k _ _ (.inl rfl) e,ih q⟩
 |tbl ps=>have e:h.get? a=some { cls:=.none,data:=.fields ps }:=x;show h'.get? a=some { cls:=.none,data:=.fields ps };exact k a _ (.inl rfl) e
 |met f y=>have e:h.get? a=some (methodObj (.ref f) (.ref y)):=x;show h'.get? a=some (methodObj (.ref f) (.ref y));exact k a _ (.inl rfl) e
 |ext φ=>obtain⟨p,⟨o,e⟩,st⟩:=x;exact⟨st _ _ p λo q=>k _ _ (.inl rfl) q,⟨o,k _ _ (.inl rfl) e⟩,st⟩
theorem mT.lt(x:mT P w H h)(e:H a=some o):a<h.objs.size:=(x a o e).lt
theorem mT.fresh(x:mT P w H h)(e:h.objs.size<=a):H a=none:=by
 cases q:H a with
 |none=>rfl
 |some u=>exact absurd (aaz (x.lt q) e) (lt_irrefl _)
theorem mT.kept(x:mT P w H h)(k:∀b u,h.get? b=some u->h'.get? b=some u):mT P w H h':=λa o e=>
 (x a o e).stay (λb u _ q=>k b u q) (λ_ q=>q) λ_ _ q=>q
theorem mT.laid(x:mT P w H h)(k:∀b u,h.get? b=some u->h'.get? b=some u)(hp:h.objs.size<=a)(new:cD P w (upd H a o) h' a o):mT P w (upd H a o) h':=λb u e=>by
 have hn:=x.fresh hp
 by_cases hb:b=a
 ·subst hb;rw[bE]at e;cases e;exact new
 ·rw[aR hb]at e;exact(x b u e).stay (λc v _ q=>k c v q) (λc q=>by rw[aR (bf q hn)];exact q) λc xs q=>by rw[aR (bf q hn)];exact q
end
def Rd(H:Hp)(a:Addr)(u:HO):Prop:=H a=some u\/∃o,H a=some (.v9 o u)
theorem Rd.ok(r:Rd H a u)(x:mT P w H h):cD P w H h a u:=by
 rcases r with r|⟨o,r⟩
 ·exact x a u r
 ·obtain⟨_,q⟩:=x a _ r;exact q
def QA:Option HO->Prop
 |some (.lst _)=>True
 |some (.dK _)=>True
 |some (.dT _)=>True
 |some (.set _ _)=>True
 |some (.ins _ _ _)=>True
 |some (.ext _)=>True
 |_=>False
section
variable {P:Program} {w:World} {H:Hp} {h h':Heap} {x e:Addr} {o':HO}
theorem mT.write(ok:mT P w H h)(mu:QA (H x))(he:e=x\/H e=some (.own x))(k:∀b u,b≠e->h.get? b=some u->h'.get? b=some u)(Qh:∃u,h'.get? e=some u)
  (new:cD P w (upd H x o') h' x o'):mT P w (upd H x o') h':=λb u q=>by
 have nown:∀c y,H c=some (.own y)->c≠x:=λc y r z=>by subst z;rw[r]at mu;exact mu
 have ntup:∀c xs,H c=some (.tup xs)->c≠x:=λc xs r z=>by subst z;rw[r]at mu;exact mu
 by_cases hb:b=x
 ·subst hb;rw[bE]at q;cases q;exact new
 ·rw[aR hb]at q
  by_cases Mc:b=e
  ·have q':H b=some (.own x):=by
    rcases he with z|z
    ·exact absurd (Mc.trans z) hb
    ·rw[Mc];exact z
   rw[q]at q';cases q';obtain⟨v,hv⟩:=Qh;exact⟨v,by rw[Mc];exact hv⟩
  ·refine(ok b u q).stay (λc v hc r=>k c v ?_ r) (λc r=>by rw[aR (nown c b r)];exact r) λc xs r=>by rw[aR (ntup c xs r)];exact r
   rcases hc with rfl|hc
   ·exact Mc
   ·rintro rfl
    rcases he with z|z
    ·exact nown c b hc z
    ·rw[hc]at z;cases z;exact hb rfl
end
structure Un (fs ex:List Addr) (H H':Hp) (h h':Heap):Prop where
 keep:∀b o,h.get? b=some o->H b=none->b∉fs->b∉ex->h'.get? b=some o
 slot:∀b o,h.get? b=some o->H b=none->b∈fs->b∉ex->∃sl,h'.get? b=some { o with slots:=sl }
 free:∀b o,h.get? b=some o->H b=none->b∉ex->H' b=none
 there:∀b o,h.get? b=some o->b∉ex->∃o',h'.get? b=some o'
 tups:∀b xs,H b=some (.tup xs)->H' b=some (.tup xs)
 frzs:∀b o u,H b=some (.v9 o u)->H' b=some (.v9 o u)
 xV:∀b ps,H b=some (.tbl ps)->∃more,H' b=some (.tbl (ps++more))
section
variable {fs fs' ex ex':List Addr} {H H1 H2:Hp} {h h1 h2 h':Heap} {a x e:Addr} {o:HO}
theorem Un.any(u:Un fs ex H H1 h h1)(q:h.get? b=some ob)(n:H b=none)(hx:b∉ex):∃sl,h1.get? b=some { ob with slots:=sl }:=by
 by_cases hb:b∈fs
 ·exact u.slot b ob q n hb hx
 ·exact⟨ob.slots,u.keep b ob q n hb hx⟩
theorem Un.kept(k:∀b u,h.get? b=some u->h'.get? b=some u):Un fs ex H H h h' :=
 ⟨λb ob q _ _ _=>k b ob q,λb ob q _ _ _=>⟨ob.slots,k b ob q⟩,λ_ _ _ n _=>n,λb ob q _=>⟨ob,k b ob q⟩,λ_ _ q=>q,λ_ _ _ q=>q,λ_ ps q=>⟨#[],by rw[q];simp⟩⟩
theorem Un.refl:Un fs ex H H h h:=Un.kept λ_ _ q=>q
theorem Un.laid(k:∀b u,h.get? b=some u->h'.get? b=some u)(hp:h.objs.size<=a)(hn:H a=none):Un fs ex H (upd H a o) h h' where
 keep:=λb u q _ _ _=>k b u q
 slot:=λb u q _ _ _=>⟨u.slots,k b u q⟩
 free:=λb u q n _=>by rw[aR (aaJ (aaz (aau q) hp))];exact n
 there:=λb u q _=>⟨u,k b u q⟩
 tups:=λb xs q=>by rw[aR (bf q hn)];exact q
 frzs:=λb u xs q=>by rw[aR (bf q hn)];exact q
 xV:=λb ps q=>⟨#[],by rw[aR (bf q hn),q];simp⟩
theorem Un.write(mu:QA (H x))(he:e=x\/H e=some (.own x))(k:∀b u,b≠e->h.get? b=some u->h'.get? b=some u)(Qh:∃u,h'.get? e=some u):Un fs ex H (upd H x o) h h':=by
 have hx:∀b,H b=none->b≠x:=λb n z=>by subst z;rw[n]at mu;exact mu
 have hb:∀b,H b=none->b≠e:=λb n z=>by
  subst z
  rcases he with r|r
  ·exact hx b n r
  ·rw[n]at r;cases r
 have hm:∀b u,H b=some u->¬ QA (some u)->b≠x:=λb u q nm z=>by subst z;rw[q]at mu;exact nm mu
 refine⟨λb u q n _ _=>k b u (hb b n) q,λb u q n _ _=>⟨u.slots,k b u (hb b n) q⟩,λb u q n _=>by rw[aR (hx b n)];exact n,λb u q _=>?_,
  λb xs q=>by rw[aR (hm b _ q λz=>z)];exact q,λb u xs q=>by rw[aR (hm b _ q λz=>z)];exact q,λb ps q=>⟨#[],by rw[aR (hm b _ q λz=>z),q];simp⟩⟩
 by_cases Mc:b=e
 ·subst Mc;exact Qh
 ·exact⟨u,k b u Mc q⟩
end
def fc(h:Heap)(H:Hp):List Addr:=(List.range h.objs.size).filter λa=>(H a).isSome
def wc(h:Heap)(H:Hp):Heap:=PySem.W.hideAll h (fc h H)
theorem Ct(h:Heap)(H:Hp):(wc h H).objs.size=h.objs.size:=PySem.W.hideAll_size _ _
theorem DP(e:h.get? b=some o)(n:H b=none):(wc h H).get? b=some o :=
 PySem.W.hideAll_get _ e λhm=>by
  have q:(H b).isSome=true:=(aar.mp hm).2;rw[n]at q;simp at q
theorem ID(e:(wc h H).get? b=some o):h.get? b=some o/\H b=none:=by
 have e':h.get? b=some o:=PySem.W.of_hideAll (fc h H) e;refine⟨e',?_⟩;cases q:H b with
 |none=>rfl
 |some x=>have hm:b∈fc h H:=aar.mpr ⟨mem_range.mpr (aau e'),by simp[q]⟩;have z:(wc h H).get? b=none:=PySem.W.hideAll_none (fc h H) hm;rw[z]at e;cases e
def IF(g h:Heap)(L:Addr):List (Addr×Obj):=(List.range h.objs.size).filterMap λa=>if a=L\/(g.get? a).isSome=true then none else (h.get? a).map λo=>(a,o)
def rest(g h:Heap)(L d:Addr):List (Addr×Obj):=(IF g h L).filter λp=>decide (p.1≠d)
structure Mod (K:Frag) (mg:Str->Option Value) (base:Heap):Prop where
 Qi:K.In base
 glob:base.Ns mainGlobals mg
 blt:∃mb,base.Ns builtinsNs mb/\∀x:Str,x ≠ "__name__" -> mb x=bootBuiltins x
 nolimit:base.NoLimit
structure Cx where
 prog:Program
 w:World
 K:Frag
 mg:Str->Option Value
 base:Heap
 A:Around
 N:List Str
 s₀:Shared
 H₀:Hp
 env:Env
 outer:List Env
 stack:List Env
 ex:List Addr
 fn:Str->Bool
 calm:Bool
 pn:List (Addr×Obj)
 xe:Value->Shared->Prop
def frs(l:List Env):List Addr:=l.filterMap (·.frame)
abbrev Cx.fs(X:Cx):List Addr:=frs X.outer
def we(sc:Scope)(x:Str):Prop:=sc.names.lookup x=some .local\/sc.names.lookup x=some .cell\/sc.names.lookup x=some .free
def Loc(sc:Scope)(x:Str):Prop:=sc.names.lookup x=some .local\/sc.names.lookup x=some .cell
def Look(env:Env)(h:Heap)(m:Str->Option Value)(x:Str)(u:Value):Prop :=
 (env.kindOf x=some .local/\m x=some u)\/((env.kindOf x=some .cell\/env.kindOf x=some .free)/\∃c,env.cells.lookup x=some c/\h.IsCell c (some u))
structure Cx.Ok (X:Cx):Prop where
 mod:Mod X.K X.mg X.base
 kind:X.env.scope.kind=.function
 glob:X.env.globals=mainGlobals
 blt:X.env.builtins=builtinsNs
 above:X.s₀.heap.objs.size<=X.env.locals
 inj:∀x y c,X.env.cells.lookup x=some c->X.env.cells.lookup y=some c->x=y
 has:∀x,(X.env.kindOf x=some .cell\/X.env.kindOf x=some .free)->∃c,X.env.cells.lookup x=some c
 QB:∀x c,X.fn x=true->X.env.cells.lookup x=some c->X.s₀.heap.objs.size<=c
 hd:X.calm=true->X.A.handled=none
 frames:X.A.frames=some X.stack
 stk:X.stack=X.outer\/(X.stack=X.env::X.outer/\X.env.frame=some X.env.locals)
 U0:∀b∈X.ex,b≠X.env.locals/\∀x c,X.env.cells.lookup x=some c->c≠b
 bs:∀b o,X.base.get? b=some o->X.s₀.heap.get? b=some o/\X.H₀ b=none
 Lm:X.base.objs.size<=X.s₀.heap.objs.size
 mU:∀b o,X.base.get? b=some o->b∉X.ex
 DQ:∀b∈X.ex,b∉X.fs
 qK:X.s₀.heap.FunFrames X.base X.outer
 Mf:∀b∈X.fs,X.H₀ b=none
structure Inv (X:Cx) (pins:List (Addr×Obj)) (σ:List (Option V)) (H:Hp) (s:Shared):Prop where
 ok:X.Ok
 os:s.os=X.s₀.os
 bare:AllBare s.gens
 base:Un X.fs X.ex X.H₀ H X.s₀.heap s.heap
 loc:∃m,s.heap.Ns X.env.locals m/\∀(i:Nat) (x:Str) (v:V),X.N[i]?=some x -> σ[i]?=some (some v)->we X.env.scope x->∃u,RelV v u/\Look X.env s.heap m x u
 cell:∀x c,X.env.cells.lookup x=some c->∃v,s.heap.IsCell c v
 free:H X.env.locals=none
 kq:∀x c,X.env.cells.lookup x=some c->H c=none
 pin:∀p∈X.pn++pins,s.heap.get? p.1=some p.2/\H p.1=none/\p.1≠X.env.locals/\p.1∉X.fs/\∀v,p.2.data≠.cell v
 hok:mT X.prog X.w H s.heap
 len:σ.length=X.N.length
section
variable {X:Cx} {pins:List (Addr×Obj)} {σ:List (Option V)} {H H':Hp} {s:Shared} {h':Heap}
theorem Cx.Ok.U1(ok:X.Ok)(e:X.base.get? b=some o):b∉X.fs:=λhb=>by
 have:=(ok.qK.mem hb).1;rw[e]at this;cases this
theorem Inv.bs(I:Inv X pins σ H s):∀b o,X.base.get? b=some o->s.heap.get? b=some o/\H b=none:=λb o e=>
 ⟨I.base.keep b o (I.ok.bs b o e).1 (I.ok.bs b o e).2 (I.ok.U1 e) (I.ok.mU b o e),I.base.free b o (I.ok.bs b o e).1 (I.ok.bs b o e).2 (I.ok.mU b o e)⟩
theorem Inv.bk(I:Inv X pins σ H s):∀b o,X.base.get? b=some o->s.heap.get? b=some o:=λb o e=>(I.bs b o e).1
theorem Inv.mod(I:Inv X pins σ H s):Mod X.K X.mg X.base:=I.ok.mod
theorem Inv.oX(I:Inv X pins σ H s):X.K.In s.heap:=I.ok.mod.Qi.keeps I.bk
theorem Inv.lt(I:Inv X pins σ H s):X.env.locals<s.heap.objs.size:=let ⟨_,hn,_⟩:=I.loc;hn.lt
theorem Inv.sz(I:Inv X pins σ H s):X.s₀.heap.objs.size<=s.heap.objs.size:=aaN I.ok.above (Nat.le_of_lt I.lt)
theorem Inv.U3(I:Inv X pins σ H s)(h:s.heap.objs.size<=a):a∉X.fs:=λhb=>by
 obtain⟨_,o,ho,_⟩:=I.ok.qK.mem hb;exact absurd (aaz (aau ho) (aaN I.sz h)) (lt_irrefl _)
theorem Inv.cne(I:Inv X pins σ H s):∀x c,X.env.cells.lookup x=some c->c≠X.env.locals:=λx c e z=>by
 obtain⟨v,o,ho,hd⟩:=I.cell x c e;obtain⟨m,⟨o',es,ep,ho',hd',_⟩,_⟩:=I.loc;rw[z,ho']at ho;cases ho;rw[hd']at hd;cases hd
theorem Inv.qK(I:Inv X pins σ H s):s.heap.FunFrames X.base X.outer:=by
 have all:∀(l:List Env),(∀b∈frs l,b∈X.fs)->X.s₀.heap.FunFrames X.base l->s.heap.FunFrames X.base l:=by
  intro l
  induction l with
  |nil=>intro _ _;trivial
  |cons env r ih=>intro hs hl;obtain⟨hk,⟨L,o,hf,hn,ho,hd⟩,hr⟩:=hl;have hL:L∈X.fs:=hs L (by unfold frs;rw[List.filterMap_cons,hf];exact aag);obtain⟨sl,e⟩:=I.base.slot L o ho (I.ok.Mf L hL) hL λz=>I.ok.DQ L z hL;exact⟨hk,⟨L,_,hf,hn,e,hd⟩,ih (λb hb=>hs b (by unfold frs;rw[List.filterMap_cons,hf];exact aac _ hb)) hr⟩
 exact all X.outer (λ_ hb=>hb) I.ok.qK
theorem Inv.stack(I:Inv X pins σ H s):s.heap.FunFrames X.base X.stack:=by
 rcases I.ok.stk with e|⟨e,hf⟩
 ·rw[e];exact I.qK
 ·rw[e];obtain⟨m,hn,_⟩:=I.loc;refine .cons (by rw[I.ok.kind];decide) hf hn ?_ I.qK;exact Heap.get?_none_of_le (aaN I.ok.Lm I.ok.above)
theorem Inv.z4(I:Inv X pins σ H s):∀b∈frs X.stack,b∈X.env.locals::X.fs:=λb hb=>by
 rcases I.ok.stk with e|⟨e,hf⟩
 ·rw[e]at hb;exact aac _ hb
 ·rw[e]at hb;unfold frs at hb;rw[List.filterMap_cons,hf]at hb;exact hb
theorem Inv.AU(I:Inv X pins σ H s):∀b∈frs X.stack,H b=none:=λb hb=>by
 rcases aaw.mp (I.z4 b hb) with e|hb
 ·rw[e];exact I.free
 ·obtain⟨_,o,ho,_⟩:=I.ok.qK.mem hb;exact I.base.free b o ho (I.ok.Mf b hb) λz=>I.ok.DQ b z hb
theorem Inv.step{g':Array GenState}{t':Nat}{d':Drawn}{ch:List Addr}(I:Inv X pins σ H s)
  (hch:∀b∈ch,(b∈X.ex\/X.s₀.heap.objs.size<=b)/\b≠X.env.locals/\(∀x c,X.env.cells.lookup x=some c->c≠b)/\∀p∈X.pn++pins,p.1≠b)
  (keep:∀b o,b≠X.env.locals->b∉X.fs->b∉ch->s.heap.get? b=some o->H b=none->h'.get? b=some o)
  (slot:∀b o,b≠X.env.locals->b∈X.fs->b∉ch->s.heap.get? b=some o->H b=none->∃sl,h'.get? b=some { o with slots:=sl }) (free:∀b o,b∉ch->s.heap.get? b=some o->H b=none->H' b=none)
  (there:∀b o,b∉ch->s.heap.get? b=some o->∃o',h'.get? b=some o')
  (tups:∀b xs,H b=some (.tup xs)->H' b=some (.tup xs)) (frzs:∀b o u,H b=some (.v9 o u)->H' b=some (.v9 o u)) (xV:∀b ps,H b=some (.tbl ps)->∃more,H' b=some (.tbl (ps++more)))
  (ns:∀m,s.heap.Ns X.env.locals m->h'.Ns X.env.locals m) (hok:mT X.prog X.w H' h') (hg:AllBare g') :
  Inv X pins σ H' { s with heap:=h',gens:=g',drawn:=d',toks:=t' }:=by
 have neL:∀b o,X.s₀.heap.get? b=some o->b≠X.env.locals:=λb o e=>aaJ (aaz (aau e) I.ok.above);have neC:∀b o,X.s₀.heap.get? b=some o->b∉X.ex->b∉ch:=λb o e hx hb=>by
  rcases(hch b hb).1 with z|z
  ·exact hx z
  ·exact absurd (aaz (aau e) z) (lt_irrefl _)
 have cellK:∀x c,X.env.cells.lookup x=some c->∀v,s.heap.IsCell c v->h'.IsCell c v:=λx c e v ⟨o,ho,hd⟩=>by
  have QC:c∉ch:=λz=>(hch c z).2.2.1 x c e rfl
  by_cases hc:c∈X.fs
  ·obtain⟨sl,q⟩:=slot c o (I.cne x c e) hc QC ho (I.kq x c e);exact⟨_,q,hd⟩
  ·exact⟨o,keep c o (I.cne x c e) hc QC ho (I.kq x c e),hd⟩
 refine⟨I.ok,I.os,hg,⟨λb o e n hb hx=>?_,λb o e n hb hx=>?_,λb o e n hx=>?_,λb o e hx=>?_,λb xs e=>tups b xs (I.base.tups b xs e),λb o xs e=>frzs b o xs (I.base.frzs b o xs e),λb ps e=>?_⟩,?_,λx c e=>?_,?_,λx c e=>?_,λp hp=>?_,hok,I.len⟩
 ·exact keep b o (neL b o e) hb (neC b o e hx) (I.base.keep b o e n hb hx) (I.base.free b o e n hx)
 ·obtain⟨sl,e1⟩:=I.base.slot b o e n hb hx;obtain⟨Yt,e2⟩:=slot b _ (neL b o e) hb (neC b o e hx) e1 (I.base.free b o e n hx);exact⟨Yt,e2⟩
 ·obtain⟨o',e1⟩:=I.base.there b o e hx;exact free b o' (neC b o e hx) e1 (I.base.free b o e n hx)
 ·obtain⟨o',e1⟩:=I.base.there b o e hx;exact there b o' (neC b o e hx) e1
 ·obtain⟨m1,e1⟩:=I.base.xV b ps e;obtain⟨m2,e2⟩:=xV b _ e1;exact⟨m1++m2,by rw[e2,Array.append_assoc]⟩
 ·obtain⟨m,hn,hl⟩:=I.loc
  refine⟨m,ns m hn,λi x v e1 e2 e3=>?_⟩;obtain⟨u,r,l⟩:=hl i x v e1 e2 e3;refine⟨u,r,?_⟩
  rcases l with l|⟨k,c,e,z⟩
  ·exact .inl l
  ·exact .inr ⟨k,c,e,cellK x c e _ z⟩
 ·obtain⟨v,z⟩:=I.cell x c e;exact⟨v,cellK x c e v z⟩
 ·obtain⟨m,⟨o,_,_,ho,_⟩,_⟩:=I.loc;exact free _ o (λz=>(hch _ z).2.1 rfl) ho I.free
 ·obtain⟨v,o,ho,hd⟩:=I.cell x c e;exact free c o (λz=>(hch c z).2.2.1 x c e rfl) ho (I.kq x c e)
 ·obtain⟨e,n,ne,nf,d⟩:=I.pin p hp;have QC:p.1∉ch:=λz=>(hch p.1 z).2.2.2 p hp rfl;exact⟨keep p.1 p.2 ne nf QC e n,free p.1 p.2 QC e n,ne,nf,d⟩
theorem Inv.un{t':Nat}(I:Inv X pins σ H s)(u:Un X.fs [] H H' s.heap h')(hok:mT X.prog X.w H' h'):Inv X pins σ H' { s with heap:=h',toks:=t' }:=by
 obtain⟨m,⟨o,es,ep,ho,r⟩,_⟩:=id I.loc;obtain⟨sl,hL⟩:=u.any ho I.free (by simp);exact I.step (g':=s.gens) (d':=s.drawn) (ch:=[]) (λ_ z=>nomatch z) (λb o _ hb _ e n=>u.keep b o e n hb (by simp)) (λb o _ hb _ e n=>u.slot b o e n hb (by simp)) (λb o _ e n=>u.free b o e n (by simp)) (λb o _ e=>u.there b o e (by simp)) u.tups u.frzs u.xV (λm' hm=>by
  obtain⟨o',es',U4,ho',r'⟩:=hm;rw[ho]at ho';cases ho';exact⟨_,es',U4,hL,r'⟩) hok I.bare
theorem Inv.call{t':Nat}(I:Inv X pins σ H s)(u:Un (frs X.stack) ch H H' s.heap h')(hok:mT X.prog X.w H' h')(hg:AllBare g')
  (hch:∀b∈ch,(b∈X.ex\/X.s₀.heap.objs.size<=b)/\b≠X.env.locals/\(∀x c,X.env.cells.lookup x=some c->c≠b)/\∀p∈X.pn++pins,p.1≠b) :
  Inv X pins σ H' { s with heap:=h',gens:=g',drawn:=d',toks:=t' }:=by
 obtain⟨m,⟨o,es,ep,ho,r⟩,_⟩:=id I.loc;obtain⟨sl,hL⟩:=u.any ho I.free λz=>(hch _ z).2.1 rfl;exact I.step (ch:=ch) hch (λb o hL hb hc e n=>u.keep b o e n (λz=>(aaw.mp (I.z4 b z)).elim hL hb) hc) (λb o _ _ hc e n=>u.any e n hc) (λb o hc e n=>u.free b o e n hc) (λb o hc e=>u.there b o e hc) u.tups u.frzs u.xV (λm' hm=>by
  obtain⟨o',es',U4,ho',r'⟩:=hm;rw[ho]at ho';cases ho';exact⟨_,es',U4,hL,r'⟩) hok hg
theorem Inv.turned{t':Nat}(I:Inv X pins σ H s)(k:∀b o,b≠it->s.heap.get? b=some o->h'.get? b=some o)(hn:H it=none)(hL:it≠X.env.locals)
  (h1:it∈X.ex\/X.s₀.heap.objs.size<=it) (h2:∀x c,X.env.cells.lookup x=some c->c≠it) (h3:∀p∈X.pn++pins,p.1≠it):Inv X pins σ H { s with heap:=h',toks:=t' }:=by
 have WM:∀b u,H b=some u->b≠it:=λb u e z=>by rw[z,hn]at e;cases e
 refine I.step (g':=s.gens) (d':=s.drawn) (ch:=[it]) (λb hb=>?_) (λb o _ _ hc e _=>k b o (λz=>hc (by simp[z])) e) (λb o _ _ hc e _=>⟨o.slots,k b o (λz=>hc (by simp[z])) e⟩) (λ_ _ _ _ n=>n)
  (λb o hc e=>⟨o,k b o (λz=>hc (by simp[z])) e⟩) (λ_ _ e=>e) (λ_ _ _ e=>e) (λb ps e=>⟨#[],by rw[e];simp⟩) (λm hm=>?_) (λb u e=>?_) I.bare
 ·have e:b=it:=by simpa using hb
  subst e;exact⟨h1,hL,h2,h3⟩
 ·obtain⟨o,es,ep,ho,r⟩:=hm;exact⟨o,es,ep,k _ o (Ne.symm hL) ho,r⟩
 ·refine(I.hok b u e).stay (λc v hc q=>k c v ?_ q) (λ_ q=>q) λ_ _ q=>q
  rcases hc with z|z
  ·rw[z];exact WM b u e
  ·exact WM c _ z
theorem Inv.tok(I:Inv X pins σ H s)(t:Nat):Inv X pins σ H { s with toks:=t }:=I.un (h':=s.heap) (t':=t) Un.refl I.hok
theorem Inv.kept{t':Nat}(I:Inv X pins σ H s)(k:∀b u,s.heap.get? b=some u->h'.get? b=some u):Inv X pins σ H { s with heap:=h',toks:=t' }:=I.un (Un.kept k) (I.hok.kept k)
theorem Inv.laid{t':Nat}(I:Inv X pins σ H s)(k:∀b u,s.heap.get? b=some u->h'.get? b=some u)(hp:s.heap.objs.size<=a)(new:cD X.prog X.w (upd H a o) h' a o) :
  Inv X pins σ (upd H a o) { s with heap:=h',toks:=t' }:=I.un (Un.laid k hp (I.hok.fresh hp)) (I.hok.laid k hp new)
theorem Inv.write{t':Nat}(I:Inv X pins σ H s)(mu:QA (H x))(he:e=x\/H e=some (.own x))(k:∀b u,b≠e->s.heap.get? b=some u->h'.get? b=some u)(Qh:∃u,h'.get? e=some u)
  (new:cD X.prog X.w (upd H x o) h' x o):Inv X pins σ (upd H x o) { s with heap:=h',toks:=t' }:=I.un (Un.write mu he k Qh) (I.hok.write mu he k Qh new)
theorem Inv.AV(I:Inv X pins σ H s)(h:∀p∈QD,s.heap.get? p.1=some p.2/\H p.1=none/\p.1≠X.env.locals/\p.1∉X.fs/\∀v,p.2.data≠.cell v):Inv X QD σ H s :=
 ⟨I.ok,I.os,I.bare,I.base,I.loc,I.cell,I.free,I.kq,λp hp=>(aas.mp hp).elim (λz=>I.pin p (aat _ z)) (h p),I.hok,I.len⟩
theorem xW{N:List Str}(hN:N.Nodup){i j:Nat}{x:Str}(a:N[i]?=some x)(b:N[j]?=some x):i=j:=by
 obtain⟨h1,e1⟩:=aah.mp a;obtain⟨h2,e2⟩:=aah.mp b;exact(List.getElem_inj hN).mp (e1.trans e2.symm)
theorem uH{i:Nat}(I:Inv X pins σ H s)(hN:X.N.Nodup)(hi:X.N[i]?=some x)(hx:Loc X.env.scope x)(r:RelV v u)
  (h:∀s',Inv X pins (σ.set i (some v)) H s'->(∃a,Heap.SameBut a s.heap s'.heap/\(a=X.env.locals\/X.env.cells.lookup x=some a))->Q () s') (hf:X.fn x=true\/X.env.scope.names.lookup x=some .local):wpAny M A (storeName X.env x u) Q E s:=by
 obtain⟨m,hn,hl⟩:=id I.loc;have hcls:(X.env.scope.kind==.class||(X.env.scope.kind==.module&&X.env.locals != X.env.globals))=false:=by rw[I.ok.kind];rfl
 have WN:i < σ.length:=by rw[I.len];exact(aah.mp hi).1
 have cne:=I.cne;have tracked:∀{a:Addr} {h':Heap},(∃o,s.heap.get? a=some o/\H a=none)->Heap.SameBut a s.heap h'->mT X.prog X.w H h':=λ{a h'} ha hs b ob e=>by
  obtain⟨_,_,hfree⟩:=ha;refine(I.hok b ob e).stay (λc w' hc q=>(hs.2 c ?_).trans q) (λ_ q=>q) λ_ _ q=>q;rintro rfl
  rcases hc with rfl|hc
  ·rw[hfree]at e;cases e
  ·rw[hfree]at hc;cases hc
 rcases hx with hk|hk
 ·refine wpAny_storeName_local hk hn (λh' hn' hs=>?_) hcls
  obtain⟨oL,_,_,Yu,_⟩:=id hn;refine h _ ⟨I.ok,I.os,I.bare,⟨λb o e n hb hx=>?_,λb o e n hb hx=>?_,I.base.free,λb o e hx=>?_,I.base.tups,I.base.frzs,I.base.xV⟩,⟨_,hn',λj y v' e1 e2 e3=>?_⟩,λy c e=>?_,I.free,I.kq,λp hp=>?_,tracked ⟨oL,Yu,I.free⟩ hs,by simpa using I.len⟩ ⟨_,hs,.inl rfl⟩
  ·exact(hs.2 b (aaJ (aaz (aau e) I.ok.above))).trans (I.base.keep b o e n hb hx)
  ·obtain⟨sl,e1⟩:=I.base.slot b o e n hb hx;exact⟨sl,(hs.2 b (aaJ (aaz (aau e) I.ok.above))).trans e1⟩
  ·obtain⟨o',e1⟩:=I.base.there b o e hx;exact⟨o',(hs.2 b (aaJ (aaz (aau e) I.ok.above))).trans e1⟩
  ·by_cases hj:j=i
   ·subst hj;rw[hi]at e1;cases e1;rw[aan WN]at e2;cases e2;exact⟨u,r,.inl ⟨hk,by simp⟩⟩
   ·rw[aaf (Ne.symm hj)]at e2
    obtain⟨u',r',q⟩:=hl j y v' e1 e2 e3;refine⟨u',r',?_⟩
    rcases q with ⟨k,e⟩|⟨k,c,e,z⟩
    ·refine .inl ⟨k,?_⟩;have:y≠x:=λe=>hj (xW hN e1 (e▸hi));simp[this,e]
    ·exact .inr ⟨k,c,e,z.sameBut hs (cne y c e)⟩
  ·obtain⟨w',z⟩:=I.cell y c e;exact⟨w',z.sameBut hs (cne y c e)⟩
  ·obtain⟨e,n,ne,nf,d⟩:=I.pin p hp;exact⟨(hs.2 p.1 ne).trans e,n,ne,nf,d⟩
 ·have hfn:X.fn x=true:=by
   rcases hf with z|z
   ·exact z
   ·rw[z]at hk;cases hk
  obtain⟨c,hc⟩:=I.ok.has x (.inl hk);obtain⟨w',z⟩:=I.cell x c hc;refine wpAny_storeName_cell I.ok.kind hk hc z (λh' hc' hs=>?_);obtain⟨oc,hoc,DR⟩:=id z;refine h { s with heap:=h' } ⟨I.ok,I.os,I.bare,⟨λb o e n hb hx=>?_,λb o e n hb hx=>?_,I.base.free,λb o e hx=>?_,I.base.tups,I.base.frzs,I.base.xV⟩,⟨m,hn.sameBut hs (Ne.symm (cne x c hc)),λj y v' e1 e2 e3=>?_⟩,λy c' e=>?_,I.free,I.kq,λp hp=>?_,tracked ⟨oc,hoc,I.kq x c hc⟩ hs,by simpa using I.len⟩ ⟨c,hs,.inr hc⟩
  ·exact(hs.2 b (aaJ (aaz (aau e) (I.ok.QB x c hfn hc)))).trans (I.base.keep b o e n hb hx)
  ·obtain⟨sl,e1⟩:=I.base.slot b o e n hb hx;exact⟨sl,(hs.2 b (aaJ (aaz (aau e) (I.ok.QB x c hfn hc)))).trans e1⟩
  ·obtain⟨o',e1⟩:=I.base.there b o e hx;exact⟨o',(hs.2 b (aaJ (aaz (aau e) (I.ok.QB x c hfn hc)))).trans e1⟩
  ·by_cases hj:j=i
   ·subst hj;rw[hi]at e1;cases e1;rw[aan WN]at e2;cases e2;exact⟨u,r,.inr ⟨.inl hk,c,hc,hc'⟩⟩
   ·rw[aaf (Ne.symm hj)]at e2
    obtain⟨u',r',q⟩:=hl j y v' e1 e2 e3;refine⟨u',r',?_⟩
    rcases q with q|⟨k,c',e,z'⟩
    ·exact .inl q
    ·refine .inr ⟨k,c',e,z'.sameBut hs ?_⟩;rintro rfl;exact hj (xW hN e1 (I.ok.inj _ _ _ e hc▸hi))
  ·by_cases hcc:c'=c
   ·subst hcc;exact⟨_,hc'⟩
   ·obtain⟨w2,z2⟩:=I.cell y c' e;exact⟨w2,z2.sameBut hs hcc⟩
  ·obtain⟨e,n,ne,nf,d⟩:=I.pin p hp;refine⟨(hs.2 p.1 ?_).trans e,n,ne,nf,d⟩;intro q;rw[q,hoc]at e;have q':oc=p.2:=aaZ e;exact d w' (by rw[<-q'];exact DR)
theorem xX{i:Nat}(I:Inv X pins σ H s)(hN:X.N.Nodup)(hi:X.N[i]?=some x)(hx:Loc X.env.scope x)(r:RelV v u)
  (h:∀s',Inv X pins (σ.set i (some v)) H s'->Q () s') (hf:X.fn x=true\/X.env.scope.names.lookup x=some .local):wpAny M A (storeName X.env x u) Q E s :=
 uH I hN hi hx r (λs' I' _=>h s' I') hf
theorem Inv.QE(I:Inv X pins σ H s)(ho:s'.os=s.os)(u:Un (frs X.stack) ch H H' s.heap s'.heap)(hok:mT X.prog X.w H' s'.heap)(hg:AllBare s'.gens)
  (hch:∀b∈ch,(b∈X.ex\/X.s₀.heap.objs.size<=b)/\b≠X.env.locals/\(∀x c,X.env.cells.lookup x=some c->c≠b)/\∀p∈X.pn++pins,p.1≠b):Inv X pins σ H' s':=by
 obtain⟨h',g',d',t',o'⟩:=s';have e:o'=s.os:=ho;subst e;exact I.call (g':=g') (t':=t') (d':=d') u hok hg hch
end
abbrev XK:=Value->Option Addr->Hp->Prop
abbrev St:=List (Option V)
abbrev VK:=V->Hp->Prop
abbrev TE:=St->Hp->VK->Prop
abbrev TT:=St->Hp->(Bool->Hp->Prop)->Prop
abbrev TA:=St->Hp->(List V->Hp->Prop)->Prop
structure Ends where
 nx:St->Hp->Prop
 rt:VK
 bk:St->Hp->Prop:=λ_ _=>False
 ct:St->Hp->Prop:=λ_ _=>False
abbrev TS:=Ends->St->Hp->Prop
def EP(X:Cx)(pins:List (Addr×Obj))(σ:St)(Q:VK)(u:Value)(s':Shared):Prop:=∃v H',Inv X pins σ H' s'/\RelV v u/\Q v H'
def TP(X:Cx)(pins:List (Addr×Obj))(σ:St)(Q:Bool->Hp->Prop)(b:Bool)(s':Shared):Prop:=∃H',Inv X pins σ H' s'/\Q b H'
def AP(X:Cx)(pins:List (Addr×Obj))(σ:St)(Q:List V->Hp->Prop)(us:List Value)(s':Shared):Prop:=∃vs H',Inv X pins σ H' s'/\Vals vs us/\Q vs H'
def SP(X:Cx)(pins:List (Addr×Obj))(D:Ends)(f:Flow)(s':Shared):Prop :=
 match f with
 |.next=>∃σ' H',Inv X pins σ' H' s'/\D.nx σ' H'
 |.brk=>∃σ' H',Inv X pins σ' H' s'/\D.bk σ' H'
 |.cont=>∃σ' H',Inv X pins σ' H' s'/\D.ct σ' H'
 |.ret u=>∃v σ' H',Inv X pins σ' H' s'/\RelV v u/\D.rt v H'
def PE(X:Cx)(e:Expr)(t:TE):Prop :=
 ∀(pins:List (Addr×Obj)) (s:Shared) (σ:St) (H:Hp) (Q:VK),Inv X pins σ H s->t σ H Q->wpAny (model X.prog X.w) X.A (eval e X.env) (EP X pins σ Q) X.xe s
def PT(X:Cx)(e:Expr)(t:TT):Prop :=
 ∀(pins:List (Addr×Obj)) (s:Shared) (σ:St) (H:Hp) (Q:Bool->Hp->Prop),Inv X pins σ H s->t σ H Q->wpAny (model X.prog X.w) X.A (isTrue e X.env (eval e X.env)) (TP X pins σ Q) X.xe s
def PW(X:Cx)(e:Expr)(t:TT):Prop :=
 ∀(whole:Sem Value) (pins:List (Addr×Obj)) (s:Shared) (σ:St) (H:Hp) (Q:Bool->Hp->Prop),Inv X pins σ H s->t σ H Q->wpAny (model X.prog X.w) X.A (isTrue e X.env whole) (TP X pins σ Q) X.xe s
theorem PW.pt(h:PW X e t):PT X e t:=h _
def PA(X:Cx)(es:List Expr)(t:TA):Prop :=
 ∀(pos:Pos) (pins:List (Addr×Obj)) (s:Shared) (σ:St) (H:Hp) (Q:List V->Hp->Prop),Inv X pins σ H s->t σ H Q->wpAny (model X.prog X.w) X.A (spliced (backTo pos (starEach es X.env))) (AP X pins σ Q) X.xe s
def PS(X:Cx)(st:Stmt)(t:TS):Prop :=
 ∀(pins:List (Addr×Obj)) (s:Shared) (σ:St) (H:Hp) (D:Ends),Inv X pins σ H s->t D σ H->wpAny (model X.prog X.w) X.A (exec st X.env) (SP X pins D) X.xe s
def zV(X:Cx)(st:List Stmt)(t:TS):Prop :=
 ∀(pins:List (Addr×Obj)) (s:Shared) (σ:St) (H:Hp) (D:Ends),Inv X pins σ H s->t D σ H->wpAny (model X.prog X.w) X.A (execs st X.env) (SP X pins D) X.xe s
theorem cT{α:Type}{t:Sem α}{Q Q':α -> Shared->Prop}(h:wpAny M A t Q E s)(hQ:∀a s,Q a s->Q' a s):wpAny M A t Q' E s:=wpAny_mono h hQ λ_ _ x=>x
section
variable {X:Cx}
theorem bin{a b:Expr}{ta tb:TE}(ha:PE X a ta)(hb:PE X b tb){pins:List (Addr×Obj)}{s:Shared}{σ:St}{H:Hp}{R:V->V->Hp->Prop}(I:Inv X pins σ H s)(h:ta σ H λx H1=>tb σ H1 λy H2=>R x y H2)
  {α:Type} {Q:α -> Shared->Prop} {f:Value->Value->Sem α}
  (hf:∀v u s2 x y H2,Inv X pins σ H2 s2->RelV x v->RelV y u->R x y H2->wpAny (model X.prog X.w) X.A (f v u) Q X.xe s2) :
  wpAny (model X.prog X.w) X.A (eval a X.env) (λv s₁=>wpAny (model X.prog X.w) X.A (eval b X.env) (λu s₂=>wpAny (model X.prog X.w) X.A (f v u) Q X.xe s₂) X.xe s₁) X.xe s:=by
 refine cT (ha pins s σ H _ I h) λv s1 aS=>?_;obtain⟨x,H1,I1,r1,q1⟩:=aS;refine cT (hb pins s1 σ H1 _ I1 q1) λu s2 aS=>?_;obtain⟨y,H2,I2,r2,q2⟩:=aS;exact hf v u s2 x y H2 I2 r1 r2 q2
def U5(i:Nat):TE:=λσ H Q=>∃v,σ[i]?=some (some v)/\Q v H
def tC(v:V):TE:=λ_ H Q=>Q v H
theorem Mg{i:Nat}(hN:X.N[i]?=some x)(hv:we X.env.scope x)(hd:(x==("__debug__":Str))=false)(hcd:(x==("__classdict__":Str))=false):PE X (.Name x pos) (U5 i):=by
 intro pins s σ H Q I h;obtain⟨v,e,h⟩:=h;obtain⟨m,hn,hl⟩:=I.loc;obtain⟨u,r,l⟩:=hl i x v hN e hv;have fin:EP X pins σ Q u s:=⟨v,H,I,r,h⟩
 rcases l with ⟨hk,hm⟩|⟨hk,c,hc,hcell⟩
 ·exact wpAny_Name (wpAny_loadName_local I.ok.kind hk hn hm fin) hd
 ·rcases hk with hk|hk
  ·exact wpAny_Name (wpAny_loadName_cell I.ok.kind hk hc hcell fin) hd
  ·exact wpAny_Name (wpAny_loadName_free I.ok.kind hk hc hcell fin hcd) hd
theorem Mh{i j pos}:PE X (.Constant (.int i) j pos) (tC (.int i)):=λ_ _ _ H _ I h=>wpAny_Constant_int ⟨.int i,H,I.tok _,⟨_,rfl⟩,h⟩
theorem QF{b j pos}:PE X (.Constant (.bool b) j pos) (tC (.bl b)):=λ_ _ _ H _ I h=>Constant_bool ⟨.bl b,H,I,rfl,h⟩
theorem Mi{j pos}:PE X (.Constant .none j pos) (tC .non):=λ_ _ _ H _ I h=>Constant_none ⟨.non,H,I,rfl,h⟩
theorem Mj{x j pos}:PE X (.Constant (.str x) j pos) (tC (.str x)):=λ_ _ _ H _ I h=>Calls.Constant_str ⟨.str x,H,I.tok _,⟨_,rfl⟩,h⟩
def Gl(X:Cx)(x:Str):Prop:=X.env.kindOf x=some .globalImplicit
theorem lJ(I:Inv X pins σ H s)(hg:Gl X x)(hm:X.mg x=some u)(h:Q u s)
  (hd:(x==("__debug__":Str))=false):wpAny (model X.prog X.w) X.A (eval (.Name x pos) X.env) Q E s :=
 Calls.Name_function_global I.ok.kind hg (Calls.loadGlobal_global (by rw[I.ok.glob];exact I.mod.glob.keeps I.bk) hm h) hd
theorem iE(I:Inv X pins σ H s)(hg:Gl X x)(hm:X.mg x=none)(hv:bootBuiltins x=some u)(h:Q u s)
  (hn:x ≠ "__name__":=by decide) (hd:(x==("__debug__":Str))=false:=by decide):wpAny (model X.prog X.w) X.A (eval (.Name x pos) X.env) Q E s:=by
 obtain⟨mb,h1,h2⟩:=I.mod.blt;exact Calls.Name_function_global I.ok.kind hg (Calls.loadGlobal_builtin (by rw[I.ok.glob];exact I.mod.glob.keeps I.bk) hm (by rw[I.ok.blt];exact h1.keeps I.bk) ((h2 x hn).trans hv) h) hd
theorem IG(hg:Gl X x)(hm:X.mg x=some u)(r:RelV v u)(hd:(x==("__debug__":Str))=false):PE X (.Name x pos) (tC v) :=
 λ_ _ _ H _ I h=>lJ I hg hm ⟨v,H,I,r,h⟩ hd
theorem II(hg:Gl X x)(hm:X.mg x=none)(hv:bootBuiltins x=some u)(r:RelV v u)(hn:x ≠ "__name__")(hd:(x==("__debug__":Str))=false):PE X (.Name x pos) (tC v) :=
 λ_ _ _ H _ I h=>iE I hg hm hv ⟨v,H,I,r,h⟩ hn hd
variable {a b:Expr} {ta tb:TE} {pos:Pos}
def tB(t:TE):TT:=λσ H Q=>t σ H λx H1=>∃c,x=.bl c/\Q c H1
variable {tA Uj:TT} {rest:List Expr}
def U6(t u:TT):TT:=λσ H Q=>t σ H λc H1=>if c=true then u σ H1 Q else Q false H1
def Yv(t u:TT):TT:=λσ H Q=>t σ H λc H1=>if c=true then Q true H1 else u σ H1 Q
def U7(t:TT):TT:=λσ H Q=>t σ H λc H1=>Q (!c) H1
theorem IJ(ha:PT X a tA):PW X (.BoolOp .And [a] pos) tA:=by
 intro wh pins s σ H Q I h;refine isTrue_and (cT (ha pins s σ H Q I h) λc s1 e=>?_);cases c with
 |true=>exact isTrue_and_nil e
 |false=>exact e
theorem Ml(ha:PT X a tA):PW X (.BoolOp .Or [a] pos) tA:=by
 intro wh pins s σ H Q I h;refine isTrue_or (cT (ha pins s σ H Q I h) λc s1 e=>?_);cases c with
 |false=>exact isTrue_or_nil e
 |true=>exact e
theorem Mm(ha:PT X a tA)(hb:PW X (.BoolOp .And (b::rest) pos) Uj):PW X (.BoolOp .And (a::b::rest) pos) (U6 tA Uj):=by
 intro wh pins s σ H Q I h;refine isTrue_and (cT (ha pins s σ H _ I h) λc s1 aS=>?_);obtain⟨H1,I1,q1⟩:=aS;cases c with
 |true=>exact hb wh pins s1 σ H1 Q I1 q1
 |false=>exact⟨H1,I1,q1⟩
theorem QG(ha:PT X a tA)(hb:PW X (.BoolOp .Or (b::rest) pos) Uj):PW X (.BoolOp .Or (a::b::rest) pos) (Yv tA Uj):=by
 intro wh pins s σ H Q I h;refine isTrue_or (cT (ha pins s σ H _ I h) λc s1 aS=>?_);obtain⟨H1,I1,q1⟩:=aS;cases c with
 |true=>exact⟨H1,I1,q1⟩
 |false=>exact hb wh pins s1 σ H1 Q I1 q1
theorem Mn(ha:PT X a tA):PT X (.UnaryOp .Not a pos) (U7 tA):=by
 intro pins s σ H Q I h;exact isTrue_not (ha pins s σ H (λc H1=>Q (!c) H1) I h)
def QH(ta tb:TE):TE:=λσ H Q=>ta σ H λx H1=>∃c,x=.bl c/\if c=true then tb σ H1 Q else Q (.bl false) H1
def U8(ta tb:TE):TE:=λσ H Q=>ta σ H λx H1=>∃c,x=.bl c/\if c=true then Q (.bl true) H1 else tb σ H1 Q
def QI(ta:TE):TE:=λσ H Q=>ta σ H λx H1=>∃c,x=.bl c/\Q (.bl (!c)) H1
theorem DS{op}(h:PE X a t):PE X (.BoolOp op [a] pos) t:=λpins s σ H Q I hw=>BoolOp_one (h pins s σ H Q I hw)
theorem Mp(ha:PE X a ta)(hb:PE X (.BoolOp .And (b::rest) pos) tb):PE X (.BoolOp .And (a::b::rest) pos) (QH ta tb):=by
 intro pins s σ H Q I h;refine BoolOp_and (cT (ha pins s σ H _ I h) λv s1 aS=>?_);obtain⟨x,H1,I1,r1,q1⟩:=aS;obtain⟨c,rfl,q1⟩:=q1;cases r1;refine wpAny_truthy_bool ?_;cases c with
 |true=>exact hb pins s1 σ H1 Q I1 q1
 |false=>exact⟨.bl false,H1,I1,rfl,q1⟩
theorem QJ(ha:PE X a ta)(hb:PE X (.BoolOp .Or (b::rest) pos) tb):PE X (.BoolOp .Or (a::b::rest) pos) (U8 ta tb):=by
 intro pins s σ H Q I h;refine BoolOp_or (cT (ha pins s σ H _ I h) λv s1 aS=>?_);obtain⟨x,H1,I1,r1,q1⟩:=aS;obtain⟨c,rfl,q1⟩:=q1;cases r1;refine wpAny_truthy_bool ?_;cases c with
 |false=>exact hb pins s1 σ H1 Q I1 q1
 |true=>exact⟨.bl true,H1,I1,rfl,q1⟩
theorem Mq(ha:PE X a ta):PE X (.UnaryOp .Not a pos) (QI ta):=by
 intro pins s σ H Q I h;refine UnaryOp_ (cT (ha pins s σ H _ I h) λv s1 aS=>?_);obtain⟨x,H1,I1,r1,q1⟩:=aS;obtain⟨c,rfl,q1⟩:=q1;cases r1;exact not_of (wpAny_truthy_bool ⟨.bl (!c),H1,I1,rfl,q1⟩)
end
def j4(K:Frag)(H:Hp)(a:Addr)(xs:List V):Prop :=
 Rd H a (.lst xs) \/
  ∃(o:Obj) (its:Array Value) (n:Nat),K.lookup a=some o/\o.cls=.type "list" /\ o.dict=none/\o.data=.seq its n/\its.size<=sizeLine/\Vals xs its.toList
def mD(K:Frag)(H:Hp)(a:Addr)(xs:List V):Prop :=
 Rd H a (.tup xs) \/
  ∃(o:Obj) (its:Array Value) (n:Nat),K.lookup a=some o/\o.cls=.type "tuple" /\ o.data=.seq its n/\its.size<=sizeLine/\Vals xs its.toList
def U9:Value->Option V
 |.none=>some .non
 |.bool b=>some (.bl b)
 |.int i _=>some (.int i)
 |.str x _=>some (.str x)
 |.bytes b _=>some (.byt b)
 |.float b _=>some (.flt b)
 |.ref a=>some (.ref a)
 |.type n=>some (.ty n)
 |_=>none
theorem RelV.abs(r:RelV x u):U9 u=some x:=by
 cases x with
 |non=>cases r;rfl
 |bl _=>cases r;rfl
 |int _=>obtain⟨t,rfl⟩:=r;rfl
 |str _=>obtain⟨t,rfl⟩:=r;rfl
 |byt _=>obtain⟨t,rfl⟩:=r;rfl
 |flt _=>obtain⟨t,rfl⟩:=r;rfl
 |ref _=>cases r;rfl
 |ty _=>cases r;rfl
theorem RelV.inj(r:RelV x u)(q:RelV y u):x=y:=aaZ (r.abs.symm.trans q.abs)
theorem Vals.inj:∀{xs ys:List V} {us:List Value},Vals xs us->Vals ys us->xs=ys
 |_,_,_,.nil,.nil=>rfl
 |_,_,_,.cons r t,.cons r' t'=>by rw[r.inj r',Vals.inj t t']
section
variable {X:Cx} {pins:List (Addr×Obj)} {σ:St} {H:Hp} {s:Shared} {a:Addr} {xs ys:List V}
theorem mD.of{K:Frag}(h:H a=some (.tup xs)):mD K H a xs:=.inl (.inl h)
theorem Inv.list(I:Inv X pins σ H s)(h:j4 X.K H a xs):∃its:List Value,Vals xs its/\PlainL s.heap a its.toArray/\xs.length<=sizeLine:=by
 rcases h with h|⟨o,its,n,hk,hc,hd,hs,hz,r⟩
 ·obtain⟨z,its,n,r,e⟩:=h.ok I.hok;exact⟨its,r,⟨_,n,e,rfl,rfl,rfl⟩,z⟩
 ·refine⟨its.toList,r,⟨o,n,I.oX a o hk,hc,hd,by simpa using hs⟩,?_⟩;have e:=r.length;simp only[Array.length_toList]at e;omega
theorem Inv.tuple(I:Inv X pins σ H s)(h:mD X.K H a xs):∃its:List Value,Vals xs its/\IsTup s.heap a its.toArray/\xs.length<=sizeLine:=by
 rcases h with h|⟨o,its,n,hk,hc,hs,hz,r⟩
 ·obtain⟨z,its,r,p⟩:=h.ok I.hok;exact⟨its,r,p,z⟩
 ·refine⟨its.toList,r,⟨o,I.oX a o hk,hc,n,by simpa using hs⟩,?_⟩;have e:=r.length;simp only[Array.length_toList]at e;omega
theorem Inv.DT(I:Inv X pins σ H s)(h:j4 X.K H a xs)(h':j4 X.K H a ys):xs=ys:=by
 obtain⟨its,r,⟨o,n,e,_,_,d⟩,_⟩:=I.list h;obtain⟨its',r',⟨o',n',e',_,_,d'⟩,_⟩:=I.list h';rw[e]at e';cases e';rw[d]at d';injection d' with d1 _
 have:its=its':=by simpa using congrArg toList d1
 subst this;exact r.inj r'
theorem Inv.Cu(I:Inv X pins σ H s)(h:mD X.K H a xs)(h':mD X.K H a ys):xs=ys:=by
 obtain⟨its,r,⟨o,e,_,n,d⟩,_⟩:=I.tuple h;obtain⟨its',r',⟨o',e',_,n',d'⟩,_⟩:=I.tuple h';rw[e]at e';cases e';rw[d]at d';injection d' with d1 _
 have:its=its':=by simpa using congrArg toList d1
 subst this;exact r.inj r'
end
abbrev Cx.um(X:Cx)(E:Value->Shared->Prop):Cx:={ X with xe:=E }
abbrev Cx.QK(X:Cx):Cx:=X.um λ_ _=>False
theorem Cx.Ok.um{X:Cx}(ok:X.Ok)(E:Value->Shared->Prop):(X.um E).Ok :=
 ⟨ok.mod,ok.kind,ok.glob,ok.blt,ok.above,ok.inj,ok.has,ok.QB,ok.hd,ok.frames,ok.stk,ok.U0,ok.bs,ok.Lm,ok.mU,ok.DQ,ok.qK,ok.Mf⟩
theorem Cx.Ok.kr{X:Cx}{E:Value->Shared->Prop}(ok:(X.um E).Ok):X.Ok :=
 ⟨ok.mod,ok.kind,ok.glob,ok.blt,ok.above,ok.inj,ok.has,ok.QB,ok.hd,ok.frames,ok.stk,ok.U0,ok.bs,ok.Lm,ok.mU,ok.DQ,ok.qK,ok.Mf⟩
section
variable {X:Cx} {pins:List (Addr×Obj)} {σ:St} {H:Hp} {s:Shared} {E:Value->Shared->Prop}
theorem Inv.um(I:Inv X pins σ H s)(E:Value->Shared->Prop):Inv (X.um E) pins σ H s:=⟨I.ok.um E,I.os,I.bare,I.base,I.loc,I.cell,I.free,I.kq,I.pin,I.hok,I.len⟩
theorem Inv.kr(I:Inv (X.um E) pins σ H s):Inv X pins σ H s:=⟨I.ok.kr,I.os,I.bare,I.base,I.loc,I.cell,I.free,I.kq,I.pin,I.hok,I.len⟩
theorem SP.kr(h:SP (X.um E) pins D f s'):SP X pins D f s':=by
 cases f with
 |next=>obtain⟨σ',H',I,q⟩:=h;exact⟨σ',H',I.kr,q⟩
 |brk=>obtain⟨σ',H',I,q⟩:=h;exact⟨σ',H',I.kr,q⟩
 |cont=>obtain⟨σ',H',I,q⟩:=h;exact⟨σ',H',I.kr,q⟩
 |ret u=>obtain⟨v,σ',H',I,r,q⟩:=h;exact⟨v,σ',H',I.kr,r,q⟩
theorem zV.QK{st:List Stmt}{t:TS}(h:zV X.QK st t):zV X st t:=λpins s σ H D I hw=>
 wpAny_mono (h pins s σ H D (I.um _) hw) (λ_ _ q=>q.kr) λ_ _ z=>False.elim z
end
section
variable {X:Cx} {st:Stmt} {rest:List Stmt} {t u:TS} {e:Expr} {te:TE} {pos:Pos}
def DU:TS:=λD σ H=>D.nx σ H
def Va(t u:TS):TS:=λD σ H=>t { D with nx:=u D } σ H
theorem IK:zV X [] DU:=λ_ _ σ H _ I h=>wpAny_execs_nil ⟨σ,H,I,h⟩
theorem DV(h1:PS X st t)(h2:zV X rest u):zV X (st::rest) (Va t u):=by
 intro pins s σ H D I h;refine wpAny_execs_cons (cT (h1 pins s σ H { D with nx:=u D } I h) λf s1 q=>?_);cases f with
 |next=>obtain⟨σ',H',I',q⟩:=q;exact h2 pins s1 σ' H' D I' q
 |ret v=>exact q
 |brk=>exact q
 |cont=>exact q
def Mr:TS:=λD σ H=>D.bk σ H
def QL:TS:=λD σ H=>D.ct σ H
theorem IL:PS X (.Pass pos) DU:=λ_ _ σ H _ I h=>wpAny_Pass ⟨σ,H,I,h⟩
theorem DW:PS X (.Break pos) Mr:=λ_ _ σ H _ I h=>wpAny_Break ⟨σ,H,I,h⟩
theorem xY:PS X (.Continue pos) QL:=λ_ _ σ H _ I h=>wpAny_Continue ⟨σ,H,I,h⟩
theorem Inv.quiet(I:Inv X pins σ H s):interactive X.env=false:=by simp[interactive,I.ok.kind]
theorem Ms{x j pos pos'}:PS X (.Expr (.Constant (.str x) j pos) pos') DU:=λ_ s σ H _ I h=>wpAny_Expr (Calls.Constant_str (show SP X _ _ .next { s with toks:=s.toks+1 } from⟨σ,H,I.tok _,h⟩)) I.quiet
def QM(te:TE):TS:=λD σ H=>te σ H λ_ H1=>D.nx σ H1
theorem IM(he:PE X e te)(hs:swapsWith e none pos.line X.env=pure false):PS X (.Expr e pos) (QM te):=by
 intro pins s σ H D I h;exact wpAny_Expr_any (cT (he pins s σ H _ I h) λv s1 ⟨x,H1,I1,r1,q1⟩=>⟨σ,H1,I1,q1⟩) I.quiet hs
def Vb(te:TE):TS:=λD σ H=>te σ H D.rt
theorem Mt(he:PE X e te):PS X (.Return (some e) pos) (Vb te):=by
 intro pins s σ H D I h;exact wpAny_Return_some (cT (he pins s σ H _ I h) λv s1 ⟨x,H1,I1,r1,q1⟩=>⟨x,σ,H1,I1,r1,q1⟩)
def QN:TS:=λD _ H=>D.rt .non H
theorem IP:PS X (.Return none pos) QN:=λ_ _ σ H _ I h=>wpAny_Return_none ⟨.non,σ,H,I,rfl,h⟩
def Vc(c:TT)(t u:TS):TS:=λD σ H=>c σ H λb H1=>if b=true then t D σ H1 else u D σ H1
theorem QO(hc:PT X c tc)(ha:zV X a t)(hb:zV X b u):PS X (.If c a b pos) (Vc tc t u):=by
 intro pins s σ H D I h;refine wpAny_If (cT (hc pins s σ H _ I h) λd s1 aS=>?_);obtain⟨H1,I1,q1⟩:=aS;cases d with
 |true=>exact ha pins s1 σ H1 D I1 q1
 |false=>exact hb pins s1 σ H1 D I1 q1
def Mv:TS:=λ_ _ _=>False
theorem rF:PS X st Mv:=λ_ _ _ _ _ _ h=>h.elim
end
abbrev TG:=V->St->Hp->(St->Hp->Prop)->Prop
abbrev Qj:=List V->St->Hp->(St->Hp->Prop)->Prop
def PG(X:Cx)(target:Expr)(t:TG):Prop :=
 ∀(pins:List (Addr×Obj)) (s:Shared) (σ:St) (H:Hp) (v:V) (u:Value) (Q:St->Hp->Prop),Inv X pins σ H s->RelV v u->t v σ H Q ->
  wpAny (model X.prog X.w) X.A (assign target X.env u) (λ_ s'=>∃σ' H',Inv X pins σ' H' s'/\Q σ' H') X.xe s
def Qk(X:Cx)(ts:List Expr)(t:Qj):Prop :=
 ∀(pins:List (Addr×Obj)) (s:Shared) (σ:St) (H:Hp) (vs:List V) (us:List Value) (Q:St->Hp->Prop),Inv X pins σ H s->Vals vs us->t vs σ H Q ->
  wpAny (model X.prog X.w) X.A (assignInOrder ((assignEach ts X.env).map (·.2)) us) (λ_ s'=>∃σ' H',Inv X pins σ' H' s'/\Q σ' H') X.xe s
abbrev Mw:=V->V->V->Hp->(Hp->Prop)->Prop
def QS(X:Cx)(t:Mw):Prop :=
 ∀(pins:List (Addr×Obj)) (s:Shared) (σ:St) (H:Hp) (o i v:V) (ov iv u:Value) (Q:Hp->Prop),Inv X pins σ H s->RelV o ov->RelV i iv->RelV v u->t o i v H Q ->
  wpAny (model X.prog X.w) X.A (setItem ov iv u) (λ_ s'=>∃H',Inv X pins σ H' s'/\Q H') X.xe s
section
variable {X:Cx} {pos:Pos}
def uI(i:Nat):TG:=λv σ H Q=>Q (σ.set i (some v)) H
theorem qT{i:Nat}(hN:X.N.Nodup)(hi:X.N[i]?=some x)(hx:Loc X.env.scope x)(hf:X.fn x=true\/X.env.scope.names.lookup x=some .local):PG X (.Name x pos) (uI i):=by
 intro pins s σ H v u Q I r h;exact wpAny_assign_Name (xX I hN hi hx r (λs' I'=>⟨_,H,I',h⟩) hf)
def QT:Qj:=λvs σ H Q=>vs=[]/\Q σ H
def Lo(t:TG)(u:Qj):Qj:=λvs σ H Q=>∃v r,vs=v::r/\t v σ H λσ' H'=>u r σ' H' Q
theorem AW:Qk X [] QT:=by
 intro pins s σ H vs us Q I r h;obtain⟨e,h⟩:=h;subst e;cases r;exact assignInOrder_nil ⟨σ,H,I,h⟩
theorem xZ(h1:PG X e t)(h2:Qk X es u)
  (hs:(assignEach (e::es) X.env).map (·.2)=assign e X.env::(assignEach es X.env).map (·.2):=by rfl):Qk X (e::es) (Lo t u):=by
 intro pins s σ H vs us Q I r h;obtain⟨v,vr,e1,h⟩:=h;subst e1;cases r with
 |cons r rr=>rw[hs];refine assignInOrder_cons (cT (h1 pins s σ H _ _ _ I r h) λ_ s1 aS=>?_);obtain⟨σ1,H1,I1,q1⟩:=aS;exact h2 pins s1 σ1 H1 _ _ Q I1 rr q1
def QU(K:Frag)(n:Nat)(t:Qj):TG:=λv σ H Q=>∃a xs,v=.ref a/\mD K H a xs/\xs.length=n/\t xs σ H Q
theorem DX{k:Nat}{n:Nat}(hc:X.calm=true)(h:Qk X es t)
  (hn:(assignEach es X.env).length=n) (hst:(assignEach es X.env).findIdx? (·.1)=none):PG X (.Tuple es k pos) (QU X.K n t):=by
 intro pins s σ H v u Q I r hw;obtain⟨a,xs,e1,hq,hl,hw⟩:=hw;subst e1;cases r;obtain⟨its,rv,ht,hz⟩:=I.tuple hq;refine assign_Tuple_tuple (I.ok.hd hc) ht (by simp[hn,<-hl,rv.length]) hst λh' hx=>?_;have I1:Inv X pins σ H { s with heap:=h' }:=I.kept (t':=s.toks) λb o e=>hx b o (aaJ (aau e)) e;exact h pins _ σ H xs _ Q I1 (by simpa using rv) hw
def QV(to ti:TE)(t:Mw):TG:=λv σ H Q=>to σ H λo H1=>ti σ H1 λi H2=>t o i v H2 λH3=>Q σ H3
theorem My(ho:PE X o to)(hi:PE X i ti)(hs:QS X t)
  (ha:∀v,assign (.Subscript o i pos) X.env v=(do
   let ov <-holding [v] (eval o X.env)
   let iv <-holding [v,ov] (eval i X.env)
   standAt pos
   holding [v,ov,iv] (setItem ov iv v)
   release [v,ov,iv] [])):PG X (.Subscript o i pos) (QV to ti t):=by
 intro pins s σ H v u Q I r h;rw[ha];refine aaa (wpAny_holding (cT (ho pins s σ H _ I h) λov s1 aS=>?_));obtain⟨x,H1,I1,r1,q1⟩:=aS;refine aaa (wpAny_holding (cT (hi pins s1 σ H1 _ I1 q1) λiv s2 aS=>?_));obtain⟨y,H2,I2,r2,q2⟩:=aS;refine aaa (wpAny_standAt (aaa (wpAny_holding (cT (hs pins s2 σ H2 x y v ov iv u _ I2 r1 r2 r q2) λ_ s3 aS=>?_))));obtain⟨H3,I3,q3⟩:=aS;exact wpAny_release ⟨σ,H3,I3,q3⟩
def IQ(te:TE)(g:TG):TS:=λD σ H=>te σ H λx H1=>g x σ H1 D.nx
theorem DY(he:PE X e te)(hg:PG X tg g)(hs:swapsWithSole [tg] e pos.line X.env=pure false)(hw:swappedStores [tg] e X.env=pure none)
  (h1:(assignEach [tg] X.env).map (·.2)=[assign tg X.env]):PS X (.Assign [tg] e pos) (IQ te g):=by
 intro pins s σ H D I h;refine wpAny_Assign_stores (cT (he pins s σ H _ I h) λv s1 ⟨x,H1,I1,r1,q1⟩=>?_) hs hw;rw[h1];exact cT (hg pins s1 σ H1 x v _ I1 r1 q1) λ_ s2 q=>q
theorem DZ{i:Nat}(hN:X.N.Nodup)(hi:X.N[i]?=some x)(hx:Loc X.env.scope x)(he:PE X e te)(hs:swapsWith e (some (.Name x pos')) pos.line X.env=pure false)(hf:X.fn x=true\/X.env.scope.names.lookup x=some .local) :
  PS X (.Assign [.Name x pos'] e pos) (IQ te (uI i)):=by
 intro pins s σ H D I h;refine wpAny_Assign_Name (cT (he pins s σ H _ I h) λv s1 ⟨y,H1,I1,r1,q1⟩=>?_) hs;exact xX I1 hN hi hx r1 (λs2 I2=>⟨_,H1,I2,q1⟩) hf
end
section
variable {X:Cx} {pos:Pos}
def Mz(c:TT)(tb:TS):TS:=λD σ H=>∃W:Nat->St->Hp->Prop,(∃m,W m σ H)/\∀m σ H,W m σ H ->
 c σ H λb H1=>if b=true then ∃N:St->Hp->Prop,(∀σ' H',N σ' H'->∃m',m'<m/\W m' σ' H')/\tb { D with nx:=N,ct:=N,bk:=D.nx } σ H1 else D.nx σ H1
theorem D3(hp:PassesOwn (model X.prog X.w) X.A X.env X.xe)(hc:PT X c tc)(hb:zV X body tb):PS X (.While c body [] pos) (Mz tc tb):=by
 intro pins s σ H D I h;obtain⟨W,⟨m0,w0⟩,turn⟩:=h;refine wpAny_While (codeAny_whileLoop (λn s'=>∃σ' H',Inv X pins σ' H' s'/\W n σ' H') ?_ m0 ⟨σ,H,I,w0⟩);rintro n s1 ⟨σ1,H1,I1,w1⟩;refine wpAny_passesOwn hp (cT (hc pins s1 σ1 H1 _ I1 (turn n σ1 H1 w1)) λb s2 aS=>?_);obtain⟨H2,I2,q2⟩:=aS;cases b with
 |true=>
  obtain⟨N,hN,q2⟩:=q2;rw[aak rfl];refine wpAny_passesOwn hp (cT (hb pins s2 σ1 H2 _ I2 q2) λf s3 q3=>?_);cases f with
  |next=>obtain⟨σ3,H3,I3,n3⟩:=q3;obtain⟨m',hm,w3⟩:=hN σ3 H3 n3;exact⟨m',hm,σ3,H3,I3,w3⟩
  |cont=>obtain⟨σ3,H3,I3,n3⟩:=q3;obtain⟨m',hm,w3⟩:=hN σ3 H3 n3;exact⟨m',hm,σ3,H3,I3,w3⟩
  |brk=>exact q3
  |ret v=>exact q3
 |false=>rw[aam aab];exact wpAny_execs_nil ⟨σ1,H2,I2,q2⟩
end
structure It where
 go:Nat->Hp->Prop
 DG:Nat->Hp->V->Hp->Prop
 stop:Nat->Hp->Prop
def rG(X:Cx)(pins:List (Addr×Obj))(H:Hp)(b:Addr):Prop :=
 H b=none/\b≠X.env.locals/\b∉X.fs/\(b∈X.ex\/X.s₀.heap.objs.size<=b)/\(∀x c,X.env.cells.lookup x=some c->c≠b)/\∀p∈X.pn++pins,p.1≠b
theorem Inv.MA(I:Inv X pins σ H s)(hb:s.heap.objs.size<=b)(hn:H' b=none):rG X pins H' b:=by
 refine⟨hn,ne_of_gt (aaz I.lt hb),I.U3 hb,.inr (aaN I.sz hb),λx c e z=>?_,λp hp z=>?_⟩
 ·obtain⟨v,q⟩:=I.cell x c e;exact absurd (aaz q.lt (by rw[z];exact hb)) (lt_irrefl _)
 ·exact absurd (aaz (aau (I.pin p hp).1) (by rw[z];exact hb)) (lt_irrefl _)
structure Turn (P:Program) (w:World) (K:Frag) (tg:Expr) (J:It) (fp:List Addr) (it:Addr) (tn:Nat->Heap->Prop):Prop where
 mem:it∈fp
 obj:∀i h,tn i h->∀b∈fp,∃o,h.get? b=some o/\∀v,o.data≠.cell v
 keep:∀i h h',tn i h->(∀b∈fp,∀o,h.get? b=some o->h'.get? b=some o)->tn i h'
 item:∀(X:Cx),X.prog=P->X.w=w->X.K=K->X.calm=true->∀(i:Nat) (pins:List (Addr×Obj)) (s:Shared) (σ:St) (H:Hp) (E:Value->Shared->Prop),Inv X pins σ H s->(∀b∈fp,rG X pins H b)->tn i s.heap->J.go i H ->
  wpAny (model P w) X.A (pyNext (.ref it)) (λr s1=>∃u,r=some u /\
   wpAny (model P w) X.A (letOwnedTupleGo tg (.ref it) u) (λ_ s2=>∃x H',Inv X pins σ H' s2/\RelV x u/\J.DG i H x H'/\tn (i+1) s2.heap/\∀b∈fp,H' b=none) E s1) E s
 done:∀(X:Cx),X.prog=P->X.w=w->X.K=K->X.calm=true->∀(i:Nat) (pins:List (Addr×Obj)) (s:Shared) (σ:St) (H:Hp) (E:Value->Shared->Prop),Inv X pins σ H s->(∀b∈fp,rG X pins H b)->tn i s.heap->J.stop i H ->
  wpAny (model P w) X.A (pyNext (.ref it)) (λr s1=>r=none/\Inv X pins σ H s1) E s
 self:∀(A:Around) (i:Nat) (s:Shared) (Q:Value->Shared->Prop) (E:Value->Shared->Prop),tn i s.heap->Q (.ref it) s->wpAny (model P w) A (pyIter (.ref it)) Q E s
abbrev TI:=St->Hp->(It->Hp->Prop)->Prop
def WO(X:Cx)(pins:List (Addr×Obj))(σ:St)(tg:Expr)(R:It->Hp->Prop)(itv:Value)(s2:Shared):Prop :=
 ∃(it:Addr) (fp:List Addr) (tn:Nat->Heap->Prop) (J:It) (H':Hp),itv=.ref it/\Inv X pins σ H' s2/\Turn X.prog X.w X.K tg J fp it tn/\tn 0 s2.heap/\(∀b∈fp,rG X pins H' b)/\R J H'
def PI(X:Cx)(tg iter:Expr)(wi:TI):Prop :=
 ∀(pins:List (Addr×Obj)) (s:Shared) (σ:St) (H:Hp) (R:It->Hp->Prop),Inv X pins σ H s->wi σ H R ->
  wpAny (model X.prog X.w) X.A (eval iter X.env) (λv s1=>wpAny (model X.prog X.w) X.A (pyIter v) (WO X pins σ tg R) X.xe s1) X.xe s
theorem D4{n:String}(ho:s.heap.get? it=some o)(hc:o.cls=.type n)(hd:o.data=.fields vs)
  (hn:["enumerate","zip","dict_itemiterator","dict_reverseitemiterator","odict_iterator","itertools.zip_longest","itertools.pairwise"].contains n=false) (hQ:Q () s):wpAny M A (letOwnedTupleGo tg (.ref it) u) Q E s:=by
 unfold letOwnedTupleGo;cases tg<;>first
  |exact aal hQ
  | (cases u<;>first
    |exact aal hQ
    | (refine aaa (wpAny_load ho ?_)
       rw[hc,hd];show wpAny M A (if (["enumerate","zip","dict_itemiterator","dict_reverseitemiterator","odict_iterator","itertools.zip_longest","itertools.pairwise"].contains n&&vs[0]?==some (rawInt _))=true then _ else _) Q E s;rw[aam (by intro h;rw[hn,Bool.false_and]at h;cases h)];exact aal hQ))
def Uk(K:Frag)(a:Addr):It :=
 ⟨λi H=>∃xs x,j4 K H a xs/\xs[i]?=some x,λi H x H'=>H'=H/\∀xs,j4 K H a xs->xs[i]?=some x,λi H=>∃xs,j4 K H a xs/\xs.length<=i⟩
def Vd(K:Frag)(a:Addr):It :=
 ⟨λi H=>∃xs x,mD K H a xs/\xs[i]?=some x,λi H x H'=>H'=H/\∀xs,mD K H a xs->xs[i]?=some x,λi H=>∃xs,mD K H a xs/\xs.length<=i⟩
def QW(lo:Int)(n:Nat):It:=⟨λi _=>i<n,λi H x H'=>H'=H/\x=.int (lo+i),λi _=>n<=i⟩
theorem Cv{P:Program}{w:World}{K:Frag}{tg:Expr}(a it:Addr):Turn P w K tg (Uk K a) [it] it (λi h=>h.IsListIter it a i) where
 mem:=by simp
 obj:=λi h st b hb=>by
  have e:b=it:=by simpa using hb
  subst e;obtain⟨o,e,c,d⟩:=st;exact⟨o,e,λv z=>by rw[d]at z;cases z⟩
 keep:=λi h h' st k=>st.at λo e=>k it (by simp) o e
 item:=by intro X hP hw hK hc i pins s σ H E I hf st hg;subst hP hw hK;obtain⟨xs,x,hq,hx⟩:=hg;obtain⟨its,rv,p,hz⟩:=I.list hq;obtain⟨u,hu,ru⟩:=rv.get hx;obtain⟨f0,f1,f2,f3,f4,f5⟩:=hf it (by simp);refine wpAny_pyNext_list_item st p.isList (x:=u) (by simpa using hu) λh' st' sb=>?_;have I1:Inv X pins σ H { s with heap:=h' }:=I.turned (t':=s.toks) (λb o hb e=>(sb.2 b hb).trans e) f0 f1 f3 f4 f5;obtain⟨o,e,c,d⟩:=id st';exact⟨u,rfl,D4 (s:={ s with heap:=h' }) e c d (by decide) ⟨x,H,I1,ru,⟨rfl,λys hy=>by rw[I.DT hy hq];exact hx⟩,st',λb hb=>(hf b hb).1⟩⟩
 done:=by intro X hP hw hK hc i pins s σ H E I hf st hg;subst hP hw hK;obtain⟨xs,hq,hx⟩:=hg;obtain⟨its,rv,p,hz⟩:=I.list hq;obtain⟨f0,f1,f2,f3,f4,f5⟩:=hf it (by simp);have hl:=rv.length;exact wpAny_pyNext_list_end (I.ok.hd hc) st p.isList (by simp;omega) λh' eb=>⟨rfl,I.turned (t':=s.toks) (λb o hb e=>eb b o hb e) f0 f1 f3 f4 f5⟩
 self:=λ_ _ _ _ _ st h=>wpAny_pyIter_listiter st h
theorem z5{P:Program}{w:World}{K:Frag}{tg:Expr}(a it:Addr):Turn P w K tg (Vd K a) [it] it (λi h=>h.IsTupleIter it a i) where
 mem:=by simp
 obj:=λi h st b hb=>by
  have e:b=it:=by simpa using hb
  subst e;obtain⟨o,e,c,d⟩:=st;exact⟨o,e,λv z=>by rw[d]at z;cases z⟩
 keep:=λi h h' st k=>st.at λo e=>k it (by simp) o e
 item:=by intro X hP hw hK hc i pins s σ H E I hf st hg;subst hP hw hK;obtain⟨xs,x,hq,hx⟩:=hg;obtain⟨its,rv,p,hz⟩:=I.tuple hq;obtain⟨u,hu,ru⟩:=rv.get hx;obtain⟨f0,f1,f2,f3,f4,f5⟩:=hf it (by simp);refine wpAny_pyNext_tuple_item st (show s.heap.IsTuple a its.toArray from p) (x:=u) (by simpa using hu) λh' st' sb=>?_;have I1:Inv X pins σ H { s with heap:=h' }:=I.turned (t':=s.toks) (λb o hb e=>(sb.2 b hb).trans e) f0 f1 f3 f4 f5;obtain⟨o,e,c,d⟩:=id st';exact⟨u,rfl,D4 (s:={ s with heap:=h' }) e c d (by decide) ⟨x,H,I1,ru,⟨rfl,λys hy=>by rw[I.Cu hy hq];exact hx⟩,st',λb hb=>(hf b hb).1⟩⟩
 done:=by intro X hP hw hK hc i pins s σ H E I hf st hg;subst hP hw hK;obtain⟨xs,hq,hx⟩:=hg;obtain⟨its,rv,p,hz⟩:=I.tuple hq;obtain⟨f0,f1,f2,f3,f4,f5⟩:=hf it (by simp);have hl:=rv.length;exact wpAny_pyNext_tuple_end (I.ok.hd hc) st (show s.heap.IsTuple a its.toArray from p) (by simp;omega) λh' eb=>⟨rfl,I.turned (t':=s.toks) (λb o hb e=>eb b o hb e) f0 f1 f3 f4 f5⟩
 self:=λ_ _ _ _ _ st h=>wpAny_pyIter_tupleiter st h
theorem z6{P:Program}{w:World}{K:Frag}{tg:Expr}(it:Addr)(lo:Int)(n:Nat):Turn P w K tg (QW lo n) [it] it (λi h=>IsRangeIter h it (lo+(i:Nat)*1) ((n:Int)-(i:Nat)) 1) where
 mem:=by simp
 obj:=λi h st b hb=>by
  have e:b=it:=by simpa using hb
  subst e;exact⟨_,st,λv z=>by
   have z':Data.fields _=Data.cell v:=z;cases z'⟩
 keep:=λi h h' st k=>k it (by simp) _ st
 item:=by intro X hP hw hK hc i pins s σ H E I hf st hg;subst hP hw hK;obtain⟨f0,f1,f2,f3,f4,f5⟩:=hf it (by simp);have W:=Walks.range (prog:=X.prog) (w:=X.w) (I.ok.hd hc) it lo 1 n;refine W.item i s _ _ hg st λv h' tk hv st' kk=>?_;obtain⟨t,rfl⟩:=hv;have I1:Inv X pins σ H { s with heap:=h',toks:=tk }:=I.turned (λb o hb e=>kk b o (by simpa using hb) e) f0 f1 f3 f4 f5;refine⟨_,rfl,D4 (s:={ s with heap:=h',toks:=tk }) (n:="range_iterator") st' rfl rfl (by decide) ⟨.int (lo+i),H,I1,⟨t,?_⟩,⟨rfl,rfl⟩,st',λb hb=>(hf b hb).1⟩⟩;rw[Int.mul_one]
 done:=by intro X hP hw hK hc i pins s σ H E I hf st hg;subst hP hw hK;obtain⟨f0,f1,f2,f3,f4,f5⟩:=hf it (by simp);exact wpAny_pyNext_range_end (I.ok.hd hc) st (by have:n<=i:=hg;omega) λh' eb=>⟨rfl,I.turned (t':=s.toks) (λb o hb e=>eb b o hb e) f0 f1 f3 f4 f5⟩
 self:=λ_ _ _ _ _ st h=>wpAny_pyIter_rangeiter st h
section
variable {X:Cx} {tg:Expr}
def QX(K:Frag)(tl:TE):TI:=λσ H R=>tl σ H λx H1=>∃a,x=.ref a/\(∃xs,j4 K H1 a xs)/\R (Uk K a) H1
def Ve(K:Frag)(tl:TE):TI:=λσ H R=>tl σ H λx H1=>∃a,x=.ref a/\(∃xs,mD K H1 a xs)/\R (Vd K a) H1
theorem IT(hl:PE X l tl):PI X tg l (QX X.K tl):=by
 intro pins s σ H R I h;refine cT (hl pins s σ H _ I h) λv s1 aS=>?_;obtain⟨x,H1,I1,r1,q1⟩:=aS;obtain⟨a,e,⟨xs,hq⟩,q⟩:=q1;subst e;cases r1;obtain⟨its,rv,p,hz⟩:=I1.list hq;refine wpAny_pyIter_list p.isList ?_;refine⟨s1.heap.objs.size,[s1.heap.objs.size],_,_,H1,rfl,I1.kept (t':=s1.toks) λb o e=>aai _ e,Cv a _,⟨_,aaA _ rfl,rfl,rfl⟩,λb hb=>?_,q⟩;have e:b=s1.heap.objs.size:=by simpa using hb
 subst e;exact I1.MA (aao _) (I1.hok.fresh (aao _))
theorem MB(hl:PE X l tl):PI X tg l (Ve X.K tl):=by
 intro pins s σ H R I h;refine cT (hl pins s σ H _ I h) λv s1 aS=>?_;obtain⟨x,H1,I1,r1,q1⟩:=aS;obtain⟨a,e,⟨xs,hq⟩,q⟩:=q1;subst e;cases r1;obtain⟨its,rv,p,hz⟩:=I1.tuple hq;refine wpAny_pyIter_tuple (show s1.heap.IsTuple a its.toArray from p) ?_;refine⟨s1.heap.objs.size,[s1.heap.objs.size],_,_,H1,rfl,I1.kept (t':=s1.toks) λb o e=>aai _ e,z5 a _,⟨_,aaA _ rfl,rfl,rfl⟩,λb hb=>?_,q⟩;have e:b=s1.heap.objs.size:=by simpa using hb
 subst e;exact I1.MA (aao _) (I1.hok.fresh (aao _))
theorem x6{lo hi:Int}{tk:Nat}(I:Inv X pins σ H s)(h1:-(2 ^ 62)<=lo)(h2:lo<2 ^ 62)(h3:-(2 ^ 62)<=hi)(h4:hi<2 ^ 62)
  (q:R (QW lo (hi-lo).toNat) H):wpAny (model X.prog X.w) X.A (pyIter (.ref s.heap.objs.size)) (WO X pins σ tg R) E { s with heap:=s.heap.push { cls:=.type "range",data:=.fields [.int lo t,.int hi u,.int 1 v].toArray },toks:=tk }:=by
 refine wpAny_pyIter_range (IsRange.new ..) (small_one h1 h2 h3 h4) ?_;have I1:Inv X pins σ H { s with heap:=s.heap.push { cls:=.type "range",data:=.fields [.int lo t,.int hi u,.int 1 v].toArray },toks:=tk }:=I.kept λb o e=>aai _ e;refine⟨(s.heap.push { cls:=.type "range",data:=.fields [.int lo t,.int hi u,.int 1 v].toArray }).objs.size,[(s.heap.push { cls:=.type "range",data:=.fields [.int lo t,.int hi u,.int 1 v].toArray }).objs.size],_,_,H,rfl,
  I1.kept (t':=tk) λb o e=>aai _ e,z6 _ lo (hi-lo).toNat,?_,λb hb=>?_,q⟩
 ·have e1:lo+((0:Nat):Int)*1=lo:=by simp
  have e2:(((hi-lo).toNat:Nat):Int)-((0:Nat):Int)=Builtin.Range.rangeSize lo hi 1:=by rw[rangeSize_one];split<;>omega
  show IsRangeIter _ _ (lo+((0:Nat):Int)*1) ((((hi-lo).toNat:Nat):Int)-((0:Nat):Int)) 1;rw[e1,e2];exact aaA _ rfl
 ·have e:b=(s.heap.push { cls:=.type "range",data:=.fields [.int lo t,.int hi u,.int 1 v].toArray }).objs.size:=by simpa using hb
  subst e;exact I1.MA (aao _) (I1.hok.fresh (aao _))
def QY(ta:TA):TI:=λσ H R=>ta σ H λvs H1=>∃j:Int,vs=[.int j] /\ -(2 ^ 62)<=j/\j<2 ^ 62/\R (QW 0 j.toNat) H1
def QZ(ta:TA):TI:=λσ H R=>ta σ H λvs H1=>∃i j:Int,vs=[.int i,.int j]/\(-(2 ^ 62)<=i/\i<2 ^ 62 /\ -(2 ^ 62)<=j/\j<2 ^ 62)/\R (QW i (j-i).toNat) H1
theorem Cw(hg:Gl X "range")(hm:X.mg "range" = none)(ha:PA X [a] ta)(hs:starEach [a] X.env=[(false,eval a X.env)]):PI X tg (.Call (.Name "range" p) [a] [] pos) (QY ta):=by
 intro pins s σ H R I h;refine Call_ (iE I hg hm boot_range (PyProof.Rows.callWith_type1 (cT (ha pos pins s σ H _ I h) λus s1 aS=>?_) hs rfl));obtain⟨vs,H1,I1,r1,q1⟩:=aS;obtain⟨j,e,q1,q2,q⟩:=q1;subst e;cases r1 with
 |cons r rr=>cases rr;obtain⟨t,rfl⟩:=r;exact call_range_1 (x6 I1 (by omega) (by omega) q1 q2 (by simpa using q))
theorem Cy(hg:Gl X "range")(hm:X.mg "range" = none)(ha:PA X [a,b] ta)(hs:starEach [a,b] X.env=[(false,eval a X.env),(false,eval b X.env)])(hs2:starEach [b] X.env=[(false,eval b X.env)]) :
  PI X tg (.Call (.Name "range" p) [a,b] [] pos) (QZ ta):=by
 intro pins s σ H R I h;refine Call_ (iE I hg hm boot_range (PyProof.Rows.callWith_type1 (cT (ha pos pins s σ H _ I h) λus s1 ⟨vs,H1,I1,r1,q1⟩=>?_) (by rw[hs,hs2]) (by rw[hs2];rfl)));obtain⟨i,j,e,⟨q1,q2,q3,q4⟩,q⟩:=q1;subst e;cases r1 with
 |cons r rr=>
  cases rr with
  |cons r' rr=>cases rr;obtain⟨t,rfl⟩:=r;obtain⟨t',rfl⟩:=r';exact call_range_2 (x6 I1 q1 q2 q3 q4 q)
def Vf(wi:TI)(g:TG)(tb:TS):TS:=λD σ H=>wi σ H λJ H1=>∃W:Nat->Nat->St->Hp->Prop,(∃m,W 0 m σ H1)/\∀i m σ H,W i m σ H ->
 (J.stop i H/\D.nx σ H)\/(J.go i H/\∃N:St->Hp->Prop,(∀σ' H',N σ' H'->∃m',m'<m/\W (i+1) m' σ' H')/\∀x H',J.DG i H x H'->g x σ H' λσ2 H2=>tb { D with nx:=N,ct:=N,bk:=D.nx } σ2 H2)
def rH(fp:List Addr)(h:Heap):List (Addr×Obj):=fp.filterMap λb=>(h.get? b).map λo=>(b,o)
theorem jN(hb:b∈fp)(e:h.get? b=some o):(b,o)∈rH fp h:=List.mem_filterMap.mpr ⟨b,hb,by rw[e];rfl⟩
theorem Cz(hp:p∈rH fp h):p.1∈fp/\h.get? p.1=some p.2:=by
 obtain⟨b,hb,e⟩:=List.mem_filterMap.mp hp;cases q:h.get? b with
 |none=>rw[q]at e;cases e
 |some o=>rw[q]at e;have e':(b,o)=p:=aaZ e;subst e';exact⟨hb,q⟩
theorem Inv.pinned(I:Inv X pins σ H s)(hf:∀b∈fp,rG X pins H b)(ho:∀b∈fp,∃o,s.heap.get? b=some o/\∀v,o.data≠.cell v):Inv X (pins++rH fp s.heap) σ H s :=
 I.AV λp hp=>(aas.mp hp).elim (λz=>I.pin p (aaD _ z)) λz=>by
  obtain⟨hb,e⟩:=Cz z;obtain⟨f0,f1,f2,_⟩:=hf p.1 hb;obtain⟨o,e',d⟩:=ho p.1 hb;rw[e]at e';cases e';exact⟨e,f0,f1,f2,d⟩
theorem Inv.nK(I:Inv X (pins++pl) σ H s):Inv X pins σ H s:=I.AV λp hp=>I.pin p (aaD _ (aat _ hp))
theorem MC(hp:PassesOwn (model X.prog X.w) X.A X.env X.xe)(hc:X.calm=true)(hi:PI X tg iter wi)(hg:PG X tg g)(hb:zV X body tb)
  (hs:∀x,foldedSetIterable iter X.env x=pure x):PS X (.For tg iter body [] pos) (Vf wi g tb):=by
 intro pins s σ H D I h;refine wpAny_For (cT (hi pins s σ H _ I h) λv s1 h1=>cT h1 λitv s2 h2=>?_) hs;obtain⟨it,fp,tn,J,H2,e,I2,T,st2,f2,W,⟨m0,w0⟩,turn⟩:=h2;subst e;have stat:∀{H':Hp},(∀b∈fp,H' b=none)->∀b∈fp,rG X pins H' b:=λhn b hb=>⟨hn b hb,(f2 b hb).2⟩;refine codeAny_forLoop_any (λn s'=>∃i σ' H',Inv X pins σ' H' s'/\tn i s'.heap/\(∀b∈fp,H' b=none)/\W i n σ' H') ?_ m0 ⟨0,σ,H2,I2,st2,λb hb=>(f2 b hb).1,w0⟩;rintro n s3 ⟨i,σ3,H3,I3,st3,WQ,w3⟩
 rcases turn i n σ3 H3 w3 with ⟨stop,qn⟩|⟨go,N,hN,step⟩
 ·refine wpAny_passesOwn hp (cT (T.done X rfl rfl rfl hc i pins s3 σ3 H3 X.xe I3 (stat WQ) st3 stop) λr s4 aS=>?_);obtain⟨hr,I4⟩:=aS;subst hr;exact wpAny_execs_nil ⟨σ3,H3,I4,qn⟩
 ·refine wpAny_passesOwn hp (cT (T.item X rfl rfl rfl hc i pins s3 σ3 H3 X.xe I3 (stat WQ) st3 go) λr s4 aS=>?_)
  obtain⟨u,hr,h4⟩:=aS;subst hr;refine wpAny_passesOwn hp (cT h4 λ_ s5 aS=>?_);obtain⟨x,H5,I5,r5,y5,Ql,Ul⟩:=aS;have Yw:=I5.pinned (stat Ul) (T.obj _ _ Ql);refine wpAny_passesOwn hp (cT (hg _ s5 σ3 H5 x u _ Yw r5 (step x H5 y5)) λ_ s6 aS=>?_);obtain⟨σ6,H6,I6,q6⟩:=aS;refine wpAny_passesOwn hp (cT (hb _ s6 σ6 H6 _ I6 q6) λf s7 q7=>?_);have again:∀{σ7:St} {H7:Hp},Inv X (pins++rH fp s5.heap) σ7 H7 s7->N σ7 H7->∃m,m<n/\∃i σ' H',Inv X pins σ' H' s7/\tn i s7.heap/\(∀b∈fp,H' b=none)/\W i m σ' H':=λ{σ7 H7} I7 n7=>by
   obtain⟨m',hm,w7⟩:=hN σ7 H7 n7;refine⟨m',hm,i+1,σ7,H7,I7.nK,T.keep _ _ _ Ql λb hb o e=>(I7.pin (b,o) (aaD _ (aaD _ (jN hb e)))).1,λb hb=>?_,w7⟩;obtain⟨o,e,d⟩:=T.obj _ _ Ql b hb;exact(I7.pin (b,o) (aaD _ (aaD _ (jN hb e)))).2.1
  cases f with
  |next=>obtain⟨σ7,H7,I7,n7⟩:=q7;exact again I7 n7
  |cont=>obtain⟨σ7,H7,I7,n7⟩:=q7;exact again I7 n7
  |brk=>obtain⟨σ7,H7,I7,q7⟩:=q7;exact⟨σ7,H7,I7.nK,q7⟩
  |ret v=>obtain⟨x7,σ7,H7,I7,r7,q7⟩:=q7;exact⟨x7,σ7,H7,I7.nK,r7,q7⟩
end
abbrev R2:=V->V->Hp->VK->Prop
def qU(X:Cx)(f:Value->Value->Sem Value)(r:R2):Prop :=
 ∀(pins:List (Addr×Obj)) (s:Shared) (σ:St) (H:Hp) (x y:V) (v u:Value) (Q:VK),Inv X pins σ H s->RelV x v->RelV y u->r x y H Q ->
  wpAny (model X.prog X.w) X.A (f v u) (EP X pins σ Q) X.xe s
def Um(X:Cx)(f:Value->Sem Value)(r:V->Hp->VK->Prop):Prop :=
 ∀(pins:List (Addr×Obj)) (s:Shared) (σ:St) (H:Hp) (x:V) (v:Value) (Q:VK),Inv X pins σ H s->RelV x v->r x H Q ->
  wpAny (model X.prog X.w) X.A (f v) (EP X pins σ Q) X.xe s
def eV(X:Cx)(f:Value)(r:List V->Hp->VK->Prop):Prop :=
 ∀(pins:List (Addr×Obj)) (s:Shared) (σ:St) (H:Hp) (xs:List V) (us:List Value) (Q:VK),Inv X pins σ H s->Vals xs us->r xs H Q ->
  wpAny (model X.prog X.w) X.A (call f us) (EP X pins σ Q) X.xe s
def Vg(X:Cx)(r:V->Hp->(Bool->Hp->Prop)->Prop):Prop :=
 ∀(pins:List (Addr×Obj)) (s:Shared) (σ:St) (H:Hp) (x:V) (v:Value) (Q:Bool->Hp->Prop),Inv X pins σ H s->RelV x v->r x H Q ->
  wpAny (model X.prog X.w) X.A (truthy v) (TP X pins σ Q) X.xe s
def Uo(r:R2)(ta tb:TE):TE:=λσ H Q=>ta σ H λx H1=>tb σ H1 λy H2=>r x y H2 Q
def Yx(r:V->Hp->VK->Prop)(ta:TE):TE:=λσ H Q=>ta σ H λx H1=>r x H1 Q
def rI(C:Int->Int->Prop)(g:Int->Int->V):R2:=λx y H Q=>∃i j,x=.int i/\y=.int j/\C i j/\Q (g i j) H
def Lp(g:Int->Int->V):R2:=λx y H Q=>∃i j,x=.int i/\y=.int j/\Q (g i j) H
def rU(g:Int->V):V->Hp->VK->Prop:=λx H Q=>∃i,x=.int i/\Q (g i) H
section
variable {X:Cx} {a b c:Expr} {ta tb tc:TE} {pos:Pos}
theorem MD(ha:PE X a ta)(hb:PE X b tb){pins:List (Addr×Obj)}{s:Shared}{σ:St}{H:Hp}{R:V->V->Hp->Prop}(I:Inv X pins σ H s)
  (h:ta σ H λx H1=>tb σ H1 λy H2=>R x y H2) {Q:Value->Shared->Prop} {f:Value->Value->Sem Value}
  (hf:∀v u s2 x y H2,Inv X pins σ H2 s2->RelV x v->RelV y u->R x y H2->wpAny (model X.prog X.w) X.A (f v u) Q X.xe s2) :
  wpAny (model X.prog X.w) X.A (eval a X.env) (λv s₁=>wpAny (model X.prog X.w) X.A (eval b X.env) (λu s₂=>wpAny (model X.prog X.w) X.A (f v u) Q X.xe s₂) X.xe s₁) X.xe s:=by
 refine cT (ha pins s σ H _ I h) λv s1 aS=>?_;obtain⟨x,H1,I1,r1,q1⟩:=aS;refine cT (hb pins s1 σ H1 _ I1 q1) λu s2 aS=>?_;obtain⟨y,H2,I2,r2,q2⟩:=aS;exact hf v u s2 x y H2 I2 r1 r2 q2
theorem Q0(ho:qU X (binaryOp op) r)(ha:PE X a ta)(hb:PE X b tb):PE X (.BinOp a op b pos) (Uo r ta tb):=by
 intro pins s σ H Q I h;exact wpAny_BinOp (MD ha hb I h λv u s2 x y H2 I2 rx ry q=>ho pins s2 σ H2 x y v u Q I2 rx ry q)
theorem Q2(ho:Um X (unaryOp op) r)(ha:PE X a ta):PE X (.UnaryOp op a pos) (Yx r ta):=by
 intro pins s σ H Q I h;exact UnaryOp_ (cT (ha pins s σ H _ I h) λv s1 ⟨x,H1,I1,r1,q1⟩=>ho pins s1 σ H1 x v Q I1 r1 q1)
theorem Uq{f:Value->Value->Sem Value}{C:Int->Int->Prop}{g:Int->Int->Int}
  (rule:∀(i j:Int) (t u:Tok) (s:Shared) (Q:Value->Shared->Prop) (E:Value->Shared->Prop),C i j->Q (.int (g i j) s.toks) { s with toks:=s.toks+1 }->wpAny (model X.prog X.w) X.A (f (.int i t) (.int j u)) Q E s) :
  qU X f (rI C λi j=>.int (g i j)):=by
 intro pins s σ H x y v u Q I rx ry h;obtain⟨i,j,rfl,rfl,hc,q⟩:=h;obtain⟨t,rfl⟩:=rx;obtain⟨t',rfl⟩:=ry;exact rule i j t t' s _ _ hc ⟨.int (g i j),H,I.tok _,⟨_,rfl⟩,q⟩
theorem Q3{f:Value->Value->Sem Value}{g:Int->Int->Int}
  (rule:∀(i j:Int) (t u:Tok) (s:Shared) (Q:Value->Shared->Prop) (E:Value->Shared->Prop),Q (.int (g i j) s.toks) { s with toks:=s.toks+1 }->wpAny (model X.prog X.w) X.A (f (.int i t) (.int j u)) Q E s) :
  qU X f (Lp λi j=>.int (g i j)):=by
 intro pins s σ H x y v u Q I rx ry h;obtain⟨i,j,rfl,rfl,q⟩:=h;obtain⟨t,rfl⟩:=rx;obtain⟨t',rfl⟩:=ry;exact rule i j t t' s _ _ ⟨.int (g i j),H,I.tok _,⟨_,rfl⟩,q⟩
theorem IU{f:Value->Value->Sem Value}{g:Int->Int->Bool}
  (rule:∀(i j:Int) (t u:Tok) (s:Shared) (Q:Value->Shared->Prop) (E:Value->Shared->Prop),Q (.bool (g i j)) s->wpAny (model X.prog X.w) X.A (f (.int i t) (.int j u)) Q E s) :
  qU X f (Lp λi j=>.bl (g i j)):=by
 intro pins s σ H x y v u Q I rx ry h;obtain⟨i,j,rfl,rfl,q⟩:=h;obtain⟨t,rfl⟩:=rx;obtain⟨t',rfl⟩:=ry;exact rule i j t t' s _ _ ⟨.bl (g i j),H,I,rfl,q⟩
def Vh(i j:Int):Prop:=0<=j/\j<=1000000/\i.natAbs<2 ^ 64
def ME(i j:Int):Prop:=(-(2 ^ 64)<i/\i<2 ^ 64)\/(-(2 ^ 64)<j/\j<2 ^ 64)
theorem ME.ok{i j:Int}(h:ME i j):IntMulOk i j:=by
 rcases h with ⟨h1,h2⟩|⟨h1,h2⟩
 ·exact .of_left (intBits_le_64 h1 h2)
 ·exact .of_right (intBits_le_64 h1 h2)
theorem MF:qU X (binaryOp .Add) (Lp λi j=>.int (i+j)):=Q3 λ_ _ _ _ _ _ _ q=>add_int q
theorem MG:qU X (binaryOp .Sub) (Lp λi j=>.int (i-j)):=Q3 λ_ _ _ _ _ _ _ q=>sub_int q
theorem MH:qU X (binaryOp .Mult) (rI ME λi j=>.int (i*j)):=Uq λ_ _ _ _ _ _ _ hc q=>mul_int q hc.ok
theorem MI:qU X (binaryOp .Mod) (rI (λ_ j=>0<j) λi j=>.int (i%j)):=Uq λi j _ _ _ _ _ hc q=>by
 have h1:(0:Int)<j:=hc;exact mod_int' (by omega) (by rw[Int.fmod_eq_emod_of_nonneg i (by omega)];exact q)
theorem MJ:qU X (binaryOp .Pow) (rI Vh λi j=>.int (i ^ j.toNat)):=Uq λ_ _ _ _ _ _ _ hc q=>pow_int_small hc.1 hc.2.1 hc.2.2 q
theorem Yy{f:Value->Sem Value}{g:Int->Int}
  (rule:∀(i:Int) (t:Tok) (s:Shared) (Q:Value->Shared->Prop) (E:Value->Shared->Prop),Q (.int (g i) s.toks) { s with toks:=s.toks+1 }->wpAny (model X.prog X.w) X.A (f (.int i t)) Q E s) :
  Um X f (rU λi=>.int (g i)):=by
 intro pins s σ H x v Q I rx h;obtain⟨i,rfl,q⟩:=h;obtain⟨t,rfl⟩:=rx;exact rule i t s _ _ ⟨.int (g i),H,I.tok _,⟨_,rfl⟩,q⟩
theorem D5:Um X (unaryOp .USub) (rU λi=>.int (-i)):=Yy λ_ _ _ _ _ q=>neg_int q
end
section
variable {X:Cx} {a b c:Expr} {ta tb tc:TE} {pos:Pos}
theorem D6{k k':Bool}(I:Inv X pins σ H s)(q:Q (.bl k) H)(e:k=k'):EP X pins σ Q (.bool k') s:=by
 subst e;exact⟨.bl k,H,I,rfl,q⟩
theorem Q4:qU X (compareOp .Lt) (Lp λi j=>.bl (decide (i<j))):=IU λ_ _ _ _ _ _ _ q=>lt_int q
theorem Q5:qU X (compareOp .LtE) (Lp λi j=>.bl (decide (i<=j))):=IU λ_ _ _ _ _ _ _ q=>le_int q
theorem Q6:qU X (compareOp .Gt) (Lp λi j=>.bl (decide (j<i))):=IU λ_ _ _ _ _ _ _ q=>gt_int q
theorem Q7:qU X (compareOp .GtE) (Lp λi j=>.bl (decide (j<=i))):=IU λ_ _ _ _ _ _ _ q=>ge_int q
theorem MK:qU X (compareOp .Is) (λx y H Q=>y=.non/\Q (.bl (decide (x=.non))) H):=by
 intro pins s σ H x y v u Q I rx ry h;obtain⟨rfl,q⟩:=h;cases ry;refine is_none_gen (D6 I q ?_);cases x<;>first
  |(cases rx;rfl)
  |(obtain⟨t,rfl⟩:=rx;rfl)
theorem IV:qU X (compareOp .IsNot) (λx y H Q=>y=.non/\Q (.bl (!decide (x=.non))) H):=by
 intro pins s σ H x y v u Q I rx ry h;obtain⟨rfl,q⟩:=h;cases ry;refine isnot_none_gen (D6 I q ?_);cases x<;>first
  |(cases rx;rfl)
  |(obtain⟨t,rfl⟩:=rx;rfl)
theorem IW(ho:qU X (compareOp op) r)(ha:PE X a ta)(hb:PE X b tb)(hm:behindInMarks op b=false):PE X (.Compare a [op] [b] pos) (Uo r ta tb):=by
 intro pins s σ H Q I h;exact wpAny_Compare1 (MD ha hb I h λv u s2 x y H2 I2 rx ry q=>ho pins s2 σ H2 x y v u Q I2 rx ry q) hm
def Q8(t:TE):TT:=λσ H Q=>t σ H λx H'=>∃k,x=.bl k/\Q k H'
theorem IX(ho:qU X (compareOp op) r)(ha:PE X a ta)(hb:PE X b tb)(hm:behindInMarks op b=false):PT X (.Compare a [op] [b] pos) (Q8 (Uo r ta tb)):=by
 intro pins s σ H Q I h;refine wpAny_isTrue_Compare1 (cT (ha pins s σ H _ I h) λv s1 ⟨x,H1,I1,r1,q1⟩=>cT (hb pins s1 σ H1 _ I1 q1) λu s2 ⟨y,H2,I2,r2,q2⟩=>
  cT (ho pins s2 σ H2 x y v u _ I2 r1 r2 q2) λc s3 ⟨z,H3,I3,r3,k,e,q3⟩=>?_) hm
 subst e;cases r3;exact wpAny_truthy_bool ⟨H3,I3,q3⟩
def ML(K:Frag)(x:V)(H:Hp)(k:Bool):Prop :=
 match x with
 |.non=>k=false
 |.bl b=>k=b
 |.int i=>k=(i != 0)
 |.str y=>y.length<=sizeLine/\k=((y.length:Int) != 0)
 |.byt y=>y.size<=sizeLine/\k=((y.size:Int) != 0)
 |.ref p=>(∃xs,j4 K H p xs/\k = !xs.isEmpty)\/(∃xs,mD K H p xs/\k = !xs.isEmpty)\/∃kvs,H p=some (.dK kvs)/\k = !kvs.isEmpty
 |_=>False
theorem z7{κ:Type}{kvs:List (κ × V)}{vs:List (κ × Value)}(r:KV kvs vs):(!vs.isEmpty) = !kvs.isEmpty:=by
 cases r<;>rfl
theorem rJ(r:Vals xs its):(!its.toArray.isEmpty) = !xs.isEmpty:=by
 cases r<;>simp
theorem wg:(sizeLine:Nat)<2 ^ 63:=by rw[sizeLine_eq];decide
theorem MM:Vg X (λx H Q=>∃k,ML X.K x H k/\Q k H):=by
 intro pins s σ H x v Q I rx h;obtain⟨k,e,q⟩:=h;have hl:=wg;have hs:sizeLine=16777216:=sizeLine_eq;cases x with
 |non=>cases rx;have e':k=false:=e;subst e';exact truthy_none ⟨H,I,q⟩
 |bl b=>cases rx;have e':k=b:=e;subst e';exact wpAny_truthy_bool ⟨H,I,q⟩
 |int i=>obtain⟨t,rfl⟩:=rx;have e':k=(i != 0):=e;subst e';exact PySem.P.truthy_int ⟨H,I,q⟩
 |str y=>obtain⟨t,rfl⟩:=rx;obtain⟨hy,e'⟩:y.length<=sizeLine/\k=((y.length:Int) != 0):=e;subst e';exact PySem.P.truthy_str (by omega) ⟨H,I.tok _,q⟩
 |byt y=>obtain⟨t,rfl⟩:=rx;obtain⟨hy,e'⟩:y.size<=sizeLine/\k=((y.size:Int) != 0):=e;subst e';exact PySem.W.truthy_bytes (by omega) ⟨H,I.tok _,q⟩
 |ref p=>
  cases rx;have e':(∃xs,j4 X.K H p xs/\k = !xs.isEmpty)\/(∃xs,mD X.K H p xs/\k = !xs.isEmpty)\/∃kvs,H p=some (.dK kvs)/\k = !kvs.isEmpty:=e
  rcases e' with ⟨xs,hx,e'⟩|⟨xs,hx,e'⟩|⟨kvs,hx,e'⟩
  ·subst e';obtain⟨its,r,pl,hz⟩:=I.list hx;have hlen:=r.length;exact wpAny_truthy_list pl.isList (by simp only[size_toArray];omega) ⟨H,I.tok _,by rw[rJ r];exact q⟩
  ·subst e';obtain⟨its,r,pl,hz⟩:=I.tuple hx;have hlen:=r.length;exact truthy_tuple pl (by simp only[size_toArray];omega) ⟨H,I.tok _,by rw[rJ r];exact q⟩
  ·subst e';obtain⟨hz,hS,vs,r,m⟩:kvs.length<=sizeLine/\(p==sysModules)=false/\∃vs,KV kvs vs/\s.heap.DictOf (bK X.prog X.w) p vs:=I.hok p _ hx;have hlen:kvs.length=vs.length:=Paired.length r;exact wpAny_truthy_dict hS m (by omega) ⟨H,I.tok _,by rw[z7 r];exact q⟩
 |_=>exact(show False from e).elim
theorem D7(ha:PE X a ta)(he:∀whole,isTrue a X.env whole=(do let v <-whole;standAt a.pos;holding [v] (truthy v))) :
  PT X a (λσ H Q=>ta σ H λx H'=>∃k,ML X.K x H' k/\Q k H'):=by
 intro pins s σ H Q I h;exact isTrue_plain (cT (ha pins s σ H _ I h) λv s1 ⟨x,H1,I1,r1,q1⟩=>MM pins s1 σ H1 x v Q I1 r1 q1) (he _)
theorem vals1(r:Vals [x] us):∃u,us=[u]/\RelV x u:=by
 cases r with
 |cons r1 r2=>cases r2;exact⟨_,rfl,r1⟩
theorem vals2(r:Vals [x,y] us):∃u w',us=[u,w']/\RelV x u/\RelV y w':=by
 cases r with
 |cons r1 r2=>
  cases r2 with
  |cons r3 r4=>cases r4;exact⟨_,_,rfl,r1,r3⟩
theorem CA(hc:X.calm=true):eV X (.builtin "max") (λxs H Q=>∃i j,xs=[.int i,.int j]/\Q (.int (if j>i then j else i)) H):=by
 intro pins s σ H xs us Q I r h;obtain⟨i,j,rfl,q⟩:=h;obtain⟨u,w',rfl,⟨t,rfl⟩,⟨t',rfl⟩⟩:=vals2 r;refine max_two_ints (I.ok.hd hc) λh' tk k=>⟨_,H,I.kept k,?_,q⟩
 by_cases hj:j>i
 ·rw[aak hj,aak hj];exact⟨_,rfl⟩
 ·rw[aam hj,aam hj];exact⟨_,rfl⟩
theorem CB(hc:X.calm=true):eV X (.builtin "min") (λxs H Q=>∃i j,xs=[.int i,.int j]/\Q (.int (if j<i then j else i)) H):=by
 intro pins s σ H xs us Q I r h;obtain⟨i,j,rfl,q⟩:=h;obtain⟨u,w',rfl,⟨t,rfl⟩,⟨t',rfl⟩⟩:=vals2 r;refine min_two_ints (I.ok.hd hc) λh' tk k=>⟨_,H,I.kept k,?_,q⟩
 by_cases hj:j<i
 ·rw[aak hj,aak hj];exact⟨_,rfl⟩
 ·rw[aam hj,aam hj];exact⟨_,rfl⟩
theorem uJ:eV X (.type "int") (λxs H Q=>(∃i,xs=[.int i]/\Q (.int i) H)\/∃k,xs=[.bl k]/\Q (.int (if k then 1 else 0)) H):=by
 intro pins s σ H xs us Q I r h
 rcases h with ⟨i,rfl,q⟩|⟨k,rfl,q⟩
 ·obtain⟨u,rfl,t,rfl⟩:=vals1 r;exact call_int_int ⟨.int i,H,I,⟨_,rfl⟩,q⟩
 ·obtain⟨u,rfl,r1⟩:=vals1 r;cases r1;exact call_int_bool ⟨.int (if k then 1 else 0),H,I.tok _,⟨_,rfl⟩,q⟩
def Vi(K:Frag)(x:V)(H:Hp)(n:Nat):Prop :=
 match x with
 |.str y=>y.length<=sizeLine/\n=y.length
 |.byt y=>y.size<=sizeLine/\n=y.size
 |.ref p=>(∃xs,j4 K H p xs/\n=xs.length)\/∃xs,mD K H p xs/\n=xs.length
 |_=>False
theorem rK:eV X (.builtin "len") (λxs H Q=>∃x n,xs=[x]/\Vi X.K x H n/\Q (.int n) H):=by
 intro pins s σ H xs us Q I r h;obtain⟨x,n,rfl,e,q⟩:=h;obtain⟨u,rfl,rx⟩:=vals1 r;have hl:=wg;have hs:sizeLine=16777216:=sizeLine_eq;cases x with
 |str y=>obtain⟨t,rfl⟩:=rx;obtain⟨hy,e'⟩:y.length<=sizeLine/\n=y.length:=e;subst e';exact len_str (by omega) ⟨.int _,H,I.tok _,⟨_,rfl⟩,q⟩
 |byt y=>obtain⟨t,rfl⟩:=rx;obtain⟨hy,e'⟩:y.size<=sizeLine/\n=y.size:=e;subst e';exact PySem.W.len_bytes (by omega) ⟨.int _,H,I.tok _,⟨_,rfl⟩,q⟩
 |ref p=>
  cases rx;have e':(∃xs,j4 X.K H p xs/\n=xs.length)\/∃xs,mD X.K H p xs/\n=xs.length:=e
  rcases e' with ⟨xs,hx,e'⟩|⟨xs,hx,e'⟩
  ·subst e';obtain⟨its,r',pl,hz⟩:=I.list hx;have hlen:=r'.length;exact Calls.call_len_list pl.isList (by simp only[size_toArray];omega) ⟨.int xs.length,H,I.tok _,⟨_,by simp only[size_toArray];rw[hlen]⟩,q⟩
  ·subst e';obtain⟨its,r',pl,hz⟩:=I.tuple hx;have hlen:=r'.length;exact len_tuple pl (by simp only[size_toArray];omega) ⟨.int xs.length,H,I.tok _,⟨_,by simp only[size_toArray];rw[hlen]⟩,q⟩
 |_=>exact(show False from e).elim
end
structure z8 (h:Heap) (x dx C:Addr) (mA:Str->Option Value):Prop where
 obj:h.get? x=some (instObj C dx)
 ns:h.Ns1 dx mA
 ne:dx≠x
theorem CC{h:Heap}{dx:Addr}{mA:Str->Option Value}(n:h.Ns1 dx mA):∃od,h.get? dx=some od/\∀name,lookIn name od=some (mA name):=by
 obtain⟨o,es,ep,ho,hd,hk,_,hm⟩:=n;refine⟨o,ho,λname=>?_⟩;have e:=hm name;unfold nsFind findBy at e;rw[<-Array.find?_toList]at e;unfold lookIn;rw[hd];dsimp only
 split
 ·rename_i y q;rw[q]at e;exact congrArg some e
 ·rename_i q
  rw[q]at e;have a:es.toList.any (·.refKey)=false:=by rw[List.any_eq_false];intro y hy;obtain⟨z,t,hkey⟩:=hk y (Array.mem_toList_iff.mp hy);simp[DictEntry.refKey,hkey]
  have a':¬ es.toList.any (·.refKey)=true:=by rw[a];exact aab
  rw[aam a'];exact congrArg some e
theorem z8.look(I:z8 h x dx C mA):∃od,PySem.W.InstAt h x (instObj C dx) C (some od)/\∀name,lookIn name od=some (mA name) :=
 let ⟨od,ho,hl⟩:=CC I.ns
 ⟨od,⟨I.obj,rfl,rfl,ho⟩,hl⟩
section
variable {prog:Program} {w:World} {A:Around} {E:Value->Shared->Prop} {s:Shared} {K:Frag} {x dx C f:Addr} {mA:Str->Option Value} {name:Str} {v:Value}
theorem get_map{expr:Bool}(X:K.In s.heap)(I:z8 s.heap x dx C mA)(hg:plainGet K C name=true)(hh:hasDictIn K C=true)
  (ha:findIn K (.ref C) name=some none) (hv:mA name=some v) (hv':handedIn v=true) (h:Q v { s with toks:=s.toks+1 }) :
  wpAny (model prog w) A (getAttr (.ref x) name expr) Q E s:=by
 obtain⟨od,J,hl⟩:=I.look;exact PySem.W.get_value X J (plainGet_of hg).1 (PySem.W.findObj_own hh ha rfl (by rw[hl,hv])) hv' h
theorem D8(X:K.In s.heap)(I:z8 s.heap x dx C mA)(hg:plainGet K C name=true)
  (hf:findIn K (.ref C) name=some (some (.ref f))) (ht:isFn K (.ref f)=true) (hv:mA name=none) (h:Q (.ref f,[.ref x]) s) :
  wpAny (model prog w) A (getMethod (.ref x) name pl) Q E s:=by
 obtain⟨od,J,hl⟩:=I.look;exact PySem.W.method_fn X J (plainGet_of hg).1 (plainGet_of hg).2 hf (beq_iff_eq.mp ht) (by show (lookIn name od).map (·.isSome)=some false;rw[hl,hv];rfl) h
theorem IY(X:K.In s.heap)(I:z8 s.heap x dx C mA)
  (hs:findIn K (.ref C) "__setattr__" = some (some (.builtin "object.__setattr__"))) (hp:plainOver K C=true) (ht:takerIn K C name=some none) (hh:hasDictIn K C=true)
  (hw:PySem.Within mA ns) (hsz:ns.length<=sizeLine)
  (h:∀h',z8 h' x dx C (λy=>if y=name then some v else mA y)->Heap.SameBut dx s.heap h'->Q () { s with heap:=h',toks:=s.toks+2 }) :
  wpAny (model prog w) A (setAttr (.ref x) name v) Q E s:=by
 obtain⟨od,J,hl⟩:=I.look;refine PySem.W.set_plain X J hs (PySem.W.osa_open (s:={ s with toks:=s.toks+1 }) (r:=none) X J hp ht λb=>?_);obtain⟨cd,hc,hd'⟩:=PySem.W.any_some hh;have hx:s.heap.get? x=some ⟨.ref C,some dx,.plain,#[]⟩:=I.obj;refine aaa (aal (aaa (aaa (wpAny_loadPart hx (aaa (PySem.W.Looks.here (s:={ s with toks:=s.toks+1 }) (PySem.W.looks_clsIn X hc) ?_))))));rw[hd'];refine aal (a:=some dx) (aaa (aal (aaa ?_)));refine wpAny_nsSet1 (s:={ s with toks:=s.toks+1 }) I.ns λh' hn2 hs2=>?_;obtain⟨oD,esD,epD,Yz,YA,YB⟩:=hn2.count (PySem.Within.cons name v hw);refine aaa (wpAny_lookBehind Yz (by rw[YA];exact pastItsLine_dict (aaN YB (by rw[aaE];omega))) ?_);exact aal (h _ ⟨(hs2.2 _ (Ne.symm I.ne)).trans I.obj,hn2,I.ne⟩ hs2)
theorem D9(X:K.In s.heap)(hm:makesIn K C=true)
  (hi:findIn K (.ref C) "__init__" = some (some (.ref f))) (hf:typeIn K (.ref f)=some (.type "function"))
  (h:codeAny (model prog w) (A.under (.builtin "type.__call__" ⟨.ref C::vs,kw⟩)) (.call (.ref f) ⟨.ref (s.heap.objs.size+1)::vs,kw⟩) (PySem.W.InitBack (s.heap.objs.size+1) R)
   { s with heap:=(s.heap.push emptyDict).push (instObj C s.heap.objs.size) }) :
  codeAny (model prog w) A (.call (.ref C) ⟨vs,kw⟩) R s:=by
 obtain⟨hh,g,d,t,os⟩:=s;exact PySem.W.make_core (PySem.W.makes_of X hm) (PySem.W.looks_findIn X hi) (λself=>PySem.W.bind_fn X self hf) (.inl rfl) h
end
def jO(f:Str)(v:V):List (Str×V)->List (Str×V)
 |[]=>[(f,v)]
 |(g,x)::r=>if g=f then (g,v)::r else (g,x)::jO f v r
theorem qj(f g:Str)(v:V):∀fs:List (Str×V),(jO f v fs).lookup g=if g=f then some v else fs.lookup g
 | []=>by
  show List.lookup g [(f,v)]=_
  by_cases h:g=f
  ·have hb:(g==f)=true:=beq_iff_eq.mpr h;simp only[List.lookup,hb,if_pos h]
  ·have hb:(g==f)=false:=aaT.mpr h;simp only[List.lookup,hb,if_neg h]
 | (k,x)::r=>by
  have ih:=qj f g v r;rw[show jO f v ((k,x)::r)=(if k=f then (k,v)::r else (k,x)::jO f v r) from rfl]
  by_cases hk:k=f
  ·rw[aak hk]
   by_cases h:g=k
   ·have hb:(g==k)=true:=beq_iff_eq.mpr h;simp only[List.lookup,hb,if_pos (h.trans hk)]
   ·have hb:(g==k)=false:=aaT.mpr h;simp only[List.lookup,hb,if_neg (λe:g=f=>h (e.trans hk.symm))]
  ·rw[aam hk]
   by_cases h:g=k
   ·have hb:(g==k)=true:=beq_iff_eq.mpr h;simp only[List.lookup,hb,if_neg (λe:g=f=>hk (h.symm.trans e))]
   ·have hb:(g==k)=false:=aaT.mpr h;simp only[List.lookup,hb];exact ih
theorem oY(f:Str)(v:V):∀fs:List (Str×V),f∈(jO f v fs).map (·.1)/\∀g,g∈fs.map (·.1)->g∈(jO f v fs).map (·.1)
 |[]=>⟨by simp[jO],λg h=>by simp at h⟩
 | (k,x)::r=>by
  obtain⟨i1,i2⟩:=oY f v r;rw[show jO f v ((k,x)::r)=(if k=f then (k,v)::r else (k,x)::jO f v r) from rfl]
  by_cases hk:k=f
  ·rw[aak hk];subst hk;exact⟨by simp,λg h=>by simpa using h⟩
  ·rw[aam hk]
   refine⟨?_,λg h=>?_⟩
   ·rw[aaq];exact aac _ i1
   ·rw[aaq]at h |-
    rcases aaw.mp h with e|e
    ·exact aaw.mpr (.inl e)
    ·exact aac _ (i2 g e)
theorem qk(f:Str)(v:V):∀fs:List (Str×V),(jO f v fs).length<=fs.length+1
 |[]=>by simp[jO]
 | (k,x)::r=>by
  have ih:=qk f v r;rw[show jO f v ((k,x)::r)=(if k=f then (k,v)::r else (k,x)::jO f v r) from rfl]
  by_cases hk:k=f
  ·rw[aak hk,aaE,aaE];omega
  ·rw[aam hk,aaE,aaE];omega
theorem lZ.some_of(r:lZ (some v) o):∃u,o=some u/\RelV v u:=by
 cases o with
 |none=>exact(show False from r).elim
 |some u=>exact⟨u,rfl,r⟩
theorem lZ.none_of(r:lZ none o):o=none:=by
 cases o with
 |none=>rfl
 |some u=>exact(show False from r).elim
theorem CD(r:RelV v u):handedIn u=true:=by
 cases v with
 |non=>cases (show u=Value.none from r);rfl
 |bl b=>cases (show u=Value.bool b from r);rfl
 |int i=>obtain⟨t,e⟩:=(show ∃t,u=Value.int i t from r);cases e;rfl
 |str x=>obtain⟨t,e⟩:=(show ∃t,u=Value.str x t from r);cases e;rfl
 |byt b=>obtain⟨t,e⟩:=(show ∃t,u=Value.bytes b t from r);cases e;rfl
 |flt b=>obtain⟨t,e⟩:=(show ∃t,u=Value.float b t from r);cases e;rfl
 |ref a=>cases (show u=Value.ref a from r);rfl
 |ty n=>cases (show u=Value.type n from r);rfl
section
variable {P:Program} {w:World} {H H':Hp} {h h':Heap} {a C dx:Addr} {fs fs':List (Str×V)}
theorem wj(hok:mT P w H h)(e:H a=some (.ins C dx fs)):∃mA,z8 h a dx C mA/\(∀f,lZ (fs.lookup f) (mA f))/\PySem.Within mA (fs.map (·.1))/\fs.length<=1000/\H dx=some (.own a):=by
 obtain⟨d,z,ne,ob,mA,n,r,q⟩:=(show cD P w H h a (.ins C dx fs) from hok a _ e);exact⟨mA,⟨ob,n,ne⟩,r,q,z,d⟩
end
structure DH (K:Frag) (C:Addr):Prop where
 pg:plainGet K C Str.empty=true
 hd:hasDictIn K C=true
 po:plainOver K C=true
 sa:findIn K (.ref C) "__setattr__" = some (some (.builtin "object.__setattr__"))
theorem DH.get{K:Frag}{C:Addr}(c:DH K C)(f:Str):plainGet K C f=true:=c.pg
def ku(K:Frag)(C:Addr)(f:Str):Prop:=findIn K (.ref C) f=some none
theorem ku.Q9{K:Frag}{C:Addr}{f:Str}(n:ku K C f):takerIn K C f=some none:=by
 unfold takerIn;rw[show findIn K (.ref C) f=some none from n];rfl
structure Meth (K:Frag) (C:Addr) (m:Str) (f:Addr):Prop where
 at_:findIn K (.ref C) m=some (some (.ref f))
 fn:isFn K (.ref f)=true
 kp:keepIn K (.ref f)=true
section
variable {X:Cx} {pins:List (Addr×Obj)} {σ:St} {H:Hp} {s:Shared} {a C dx:Addr} {fs:List (Str×V)} {f:Str} {v:V} {A:Around} {E:Value->Shared->Prop}
theorem z9{b:Bool}(I:Inv X pins σ H s)(e:H a=some (.ins C dx fs))(c:DH X.K C)(n:ku X.K C f)(l:fs.lookup f=some v)
  (h:∀u s',Inv X pins σ H s'->RelV v u->Q u s'):wpAny (model X.prog X.w) A (getAttr (.ref a) f b) Q E s:=by
 obtain⟨mA,O,r,_,_,_⟩:=wj I.hok e;obtain⟨u,hu,ru⟩:=lZ.some_of (v:=v) (o:=mA f) (by rw[<-l];exact r f);exact get_map I.oX O (c.get f) c.hd n hu (CD ru) (h u _ (I.tok _) ru)
theorem rL(I:Inv X pins σ H s)(e:H a=some (.ins C dx fs))(c:DH X.K C)(k:Meth X.K C m g)(l:fs.lookup m=none)
  (h:Q (.ref g,[.ref a]) s):wpAny (model X.prog X.w) A (getMethod (.ref a) m pl) Q E s:=by
 obtain⟨mA,O,r,_,_,_⟩:=wj I.hok e;have hn:mA m=none:=lZ.none_of (by rw[<-l];exact r m);exact D8 I.oX O (c.get m) k.at_ k.fn hn h
theorem Aa(I:Inv X pins σ H s)(e:H a=some (.ins C dx fs))(c:DH X.K C)(n:ku X.K C f)(hl:fs.length<1000)(ry:RelV y u)
  (h:∀s',Inv X pins σ (upd H a (.ins C dx (jO f y fs))) s'->Q () s'):wpAny (model X.prog X.w) A (setAttr (.ref a) f u) Q E s:=by
 obtain⟨mA,O,r,wi,_,ho⟩:=wj I.hok e;have hz:(fs.map (·.1)).length<=sizeLine:=by rw[aae,sizeLine_eq];omega
 refine IY I.oX O c.sa c.po n.Q9 c.hd wi hz λh' O' sb=>h _ ?_;have hd:∃o,h'.get? dx=some o:=let ⟨o,_,_,e',_⟩:=O'.ns;⟨o,e'⟩
 refine I.write (x:=a) (e:=dx) (by rw[e];exact True.intro) (.inr ho) (λb q hb z=>(sb.2 b hb).trans z) hd ?_;refine⟨by rw[aR O.ne];exact ho,?_,O.ne,O'.obj,_,O'.ns,λg=>?_,λg hg=>?_⟩
 ·have:=qk f y fs;omega
 ·show lZ ((jO f y fs).lookup g) (if g=f then some u else mA g)
  rw[qj]
  by_cases q:g=f
  ·rw[aak q,aak q];exact ry
  ·rw[aam q,aam q];exact r g
 ·by_cases q:g=f
  ·rw[q];exact(oY f y fs).1
  ·refine(oY f y fs).2 g (wi g λz=>hg ?_);show (if g=f then some u else mA g)=none;rw[aam q];exact z
theorem Inv.made(I:Inv X pins σ H s):Inv X pins σ (upd (upd H s.heap.objs.size (.own (s.heap.objs.size+1))) (s.heap.objs.size+1) (.ins C s.heap.objs.size []))
  { s with heap:=(s.heap.push emptyDict).push (instObj C s.heap.objs.size) }:=by
 have e1:(s.heap.push emptyDict).get? s.heap.objs.size=some emptyDict:=aaA s.heap rfl;have e2:((s.heap.push emptyDict).push (instObj C s.heap.objs.size)).get? (s.heap.objs.size+1)=some (instObj C s.heap.objs.size):=by have:=aaA (s.heap.push emptyDict) (o:=instObj C s.heap.objs.size) rfl;rwa [size_push]at this
 have e3:(s.heap.push emptyDict).Ns s.heap.objs.size (λ_=>none):=⟨emptyDict,#[],_,e1,rfl,(λe he=>absurd he (by simp)),λ_=>rfl⟩;have I1:=I.laid (a:=s.heap.objs.size) (o:=.own (s.heap.objs.size+1)) (h':=s.heap.push emptyDict) (t':=s.toks) (λb u q=>aai _ q) (aao _) ⟨_,e1⟩;refine I1.laid (a:=s.heap.objs.size+1) (o:=.ins C s.heap.objs.size []) (t':=s.toks) (λb u q=>aai _ q) (Nat.le_of_eq (size_push _ _)) ?_;have ne:s.heap.objs.size≠s.heap.objs.size+1:=aaJ (lt_succ_self _);refine⟨by rw[aR ne,bE],zero_le _,ne,e2,λ_=>none,(Heap.Ns1.of_empty e3).at λo q=>aai _ q,λ_=>True.intro,λy hy=>absurd rfl hy⟩
theorem attr_of(hb:attributeBase e f env (eval e env)=eval e env)
  (h:wpAny (model prog w) A (eval e env) (λo s₁=>wpAny (model prog w) A (getAttr o f true) Q E s₁) E s):wpAny (model prog w) A (eval (.Attribute e f pos) env) Q E s :=
 Attribute_any_ h (by rw[arm_eval_Attribute,hb])
end
def tFld(K:Frag)(ta:TE)(f:Str):TE:=λσ H Q=>ta σ H λx H1=>∃a C dx fs v,x=.ref a/\H1 a=some (.ins C dx fs)/\DH K C/\ku K C f/\fs.lookup f=some v/\Q v H1
def Vj(K:Frag)(ta tv:TE)(f:Str):TS:=λD σ H=>tv σ H λy H1=>ta σ H1 λx H2=>∃a C dx fs,x=.ref a/\H2 a=some (.ins C dx fs)/\DH K C/\ku K C f/\fs.length<1000 /\
 D.nx σ (upd H2 a (.ins C dx (jO f y fs)))
section
variable {X:Cx} {o e value:Expr} {f:Str} {pos pos' tpos:Pos} {ta tv:TE}
theorem pe_fld(he:PE X e ta)(hb:attributeBase e f X.env (eval e X.env)=eval e X.env):PE X (.Attribute e f pos) (tFld X.K ta f):=by
 intro pins s σ H Q I h;refine attr_of hb (cT (he pins s σ H _ I h) λu s1 aS=>?_);obtain⟨x,H1,I1,rx,a,C,dx,fs,v,ex,ea,c,n,l,q⟩:=aS;subst ex;obtain rfl:u=Value.ref a:=rx;exact z9 I1 ea c n l λu' s2 I2 ru=>⟨v,H1,I2,ru,q⟩
theorem MN(ha:PE X o ta)(hv:PE X value tv)(hs:swapsWith value (some (.Attribute o f pos')) pos.line X.env=pure false):PS X (.Assign [.Attribute o f pos'] value pos) (Vj X.K ta tv f):=by
 intro pins s σ H D I h;refine plainObj_wpAny_Assign_Attribute (cT (hv pins s σ H _ I h) λu s1 ⟨y,H1,I1,ry,q⟩=>cT (ha pins s1 σ H1 _ I1 q) λov s2 ⟨x,H2,I2,rx,a,C,dx,fs,ex,ea,c,n,l,q2⟩=>?_) hs;subst ex;obtain rfl:ov=Value.ref a:=rx;exact Aa I2 ea c n l ry λs3 I3=>⟨σ,_,I3,q2⟩
end
structure eZ (k:Nat) (A:Around):Prop where
 hd:A.handled=none
 dp:A.depth+3*k+5<recursionLimit
 un:A.units+16*k+200<cLine
theorem eZ.mono{j k:Nat}(r:eZ k A)(h:j<=k):eZ j A:=⟨r.hd,by have:=r.dp;omega,by have:=r.un;omega⟩
theorem eZ.deeper{k:Nat}(r:eZ (k+1) A)(env:Env):eZ k (A.deeper env) :=
 ⟨r.hd,by have:=r.dp;show A.depth+1+3*k+5<_;omega,by have:=r.un;show A.units+3+16*k+200<_;omega⟩
theorem Ac{A:Around}{C:Addr}{us:List Value}{kw:List (Str×Value)}:(A.under (.builtin "type.__call__" ⟨.ref C::us,kw⟩)).depth=A.depth+1:=by
 first|rfl|simp[Around.under,Code.weight,Code.isCreation,Code.isGuard,Code.isCaller,Code.frames,Code.isFrame,guardIds]
theorem Ad{A:Around}{C:Addr}{us:List Value}{kw:List (Str×Value)}:(A.under (.builtin "type.__call__" ⟨.ref C::us,kw⟩)).units=A.units+1:=by
 first|rfl|simp[Around.under,Code.cUnits,Code.frames,Code.isFrame]
theorem eZ.make{k:Nat}(r:eZ (k+1) A)(C:Addr)(us:List Value)(kw:List (Str×Value)):eZ k (A.under (.builtin "type.__call__" ⟨.ref C::us,kw⟩)) :=
 ⟨r.hd,by have:=r.dp;rw[Ac];omega,by have:=r.un;rw[Ad];omega⟩
theorem eZ.depth{k:Nat}(r:eZ k A):A.depth<recursionLimit:=by have:=r.dp;omega
theorem eZ.units{k:Nat}(r:eZ k A):A.units+64<cLine:=by have:=r.un;omega
def MO:TA:=λ_ H Q=>Q [] H
def Ra(ta:TE)(tr:TA):TA:=λσ H Q=>ta σ H λx H1=>tr σ H1 λxs H2=>Q (x::xs) H2
section
variable {X:Cx} {e:Expr} {es:List Expr} {te:TE} {t:TA} {pos:Pos}
theorem Ea:PA X [] MO:=λ_ _ _ _ H Q I h=>Calls.spliced_nil ⟨[],H,I,.nil,h⟩
theorem wm(ha:PE X e te)(hr:PA X es t)(hs:starEach (e::es) X.env=(false,eval e X.env)::starEach es X.env:=by rfl):PA X (e::es) (Ra te t):=by
 intro pos pins s σ H Q I h;rw[hs];show wpAny _ _ (spliced ((false,eval e X.env)::backTo pos (starEach es X.env))) _ _ s;refine Calls.spliced_cons (cT (ha pins s σ H _ I h) λu s1 aS=>?_);obtain⟨x,H1,I1,r1,q1⟩:=aS;exact cT (hr pos pins s1 σ H1 _ I1 q1) λus s2 ⟨xs,H2,I2,r2,q2⟩=>⟨x::xs,H2,I2,.cons r1 r2,q2⟩
def Vk(t:TA):TE:=λσ H Q=>t σ H λxs H1=>xs.length<=sizeLine/\∀p,H1 p=none->Q (.ref p) (upd H1 p (.tup xs))
def Vl(t:TA):TE:=λσ H Q=>t σ H λxs H1=>xs.length<=sizeLine/\∀p,H1 p=none->Q (.ref p) (upd H1 p (.lst xs))
theorem MP{x1}(h:PA X es t):PE X (.Tuple es x1 pos) (Vk t):=by
 intro pins s σ H Q I hq;refine wpAny_Tuple_spliced (cT (h pos pins s σ H _ I hq) λus s1 ⟨xs,H1,I1,r,z,q⟩=>⟨by rw[<-r.length];exact z,?_⟩);have hf:H1 s1.heap.objs.size=none:=I1.hok.fresh (aao _);refine⟨.ref s1.heap.objs.size,upd H1 s1.heap.objs.size (.tup xs),I1.laid (t':=s1.toks) (λb u e=>aai _ e) (aao _) ?_,rfl,q _ hf⟩;exact⟨z,us,r,⟨_,aaA _ rfl,rfl,_,rfl⟩⟩
theorem MQ(h:PA X es t):PE X (.List es pos) (Vl t):=by
 intro pins s σ H Q I hq;refine wpAny_List_spliced (cT (h pos pins s σ H _ I hq) λus s1 ⟨xs,H1,I1,r,z,q⟩=>⟨by rw[<-r.length];exact z,?_⟩);have hf:H1 s1.heap.objs.size=none:=I1.hok.fresh (aao _);refine⟨.ref s1.heap.objs.size,upd H1 s1.heap.objs.size (.lst xs),I1.laid (t':=s1.toks) (λb u e=>aai _ e) (aao _) ?_,rfl,q _ hf⟩;exact⟨z,us,0,r,aaA _ rfl⟩
end
abbrev Sp:=List V->Hp->VK->XK->Prop
abbrev CF:=List Env->Hp->Shared->XK->Value->Shared->Prop
structure Ae (P:Program) (w:World) (K:Frag) (mg:Str->Option Value) (base:Heap) (A:Around) (outer:List Env) (s:Shared) (H:Hp):Prop where
 frames:A.frames=some outer
 mod:Mod K mg base
 bs:∀b o,base.get? b=some o->s.heap.get? b=some o/\H b=none
 Lm:base.objs.size<=s.heap.objs.size
 qK:s.heap.FunFrames base outer
 Mf:∀b∈frs outer,H b=none
 hok:mT P w H s.heap
 bare:AllBare s.gens
def CE(outer:List Env)(P:Program)(w:World)(H:Hp)(s:Shared)(Q:VK)(u:Value)(s':Shared):Prop :=
 ∃v H',s'.os=s.os/\AllBare s'.gens/\Un (frs outer) [] H H' s.heap s'.heap/\mT P w H' s'.heap/\RelV v u/\Q v H'
def CR(CX:CF)(outer:List Env)(P:Program)(w:World)(H:Hp)(s:Shared)(Q:VK)(E:XK)(r:Result)(s':Shared):Prop :=
 match r with
 |.ok (.ret u)=>CE outer P w H s Q u s'
 |.ok _=>False
 |.error e=>CX outer H s E e s'
structure fZ (P:Program) (w:World) (K:Frag) (mg:Str->Option Value) (base:Heap) (CX:CF) (k:Nat) (f:Addr) (fd:FuncData) (ps:List Str) (sp:Sp):Prop where
 len:∀vs H Q E,sp vs H Q E->vs.length=ps.length
 run:∀(A:Around) (outer:List Env) (s:Shared) (H:Hp) (args:Args) (us:List Value) (vs:List V) (Q:VK) (E:XK),eZ k A->Ae P w K mg base A outer s H->BindsTo s fd args (ps.zip us)->Vals vs us->sp vs H Q E ->
  codeAny (model P w) A (.call (.ref f) args) (CR CX outer P w H s Q E) s
theorem fZ.mono{P:Program}{w:World}{K:Frag}{mg:Str->Option Value}{base:Heap}{CX:CF}{j k:Nat}{f:Addr}{fd:FuncData}{ps:List Str}{sp:Sp}(F:fZ P w K mg base CX j f fd ps sp)(h:j<=k) :
  fZ P w K mg base CX k f fd ps sp:=⟨F.len,λA outer s H args us vs Q E hr=>F.run A outer s H args us vs Q E (hr.mono h)⟩
theorem fZ.imp{P:Program}{w:World}{K:Frag}{mg:Str->Option Value}{base:Heap}{CX:CF}{k:Nat}{f:Addr}{fd:FuncData}{ps:List Str}{sp WR:Sp}(F:fZ P w K mg base CX k f fd ps sp)
  (h:∀vs H Q E,WR vs H Q E->sp vs H Q E):fZ P w K mg base CX k f fd ps WR :=
 ⟨λvs H Q E q=>F.len vs H Q E (h _ _ _ _ q),λA outer s H args us vs Q E hr he hb hv hs=>F.run A outer s H args us vs Q E hr he hb hv (h _ _ _ _ hs)⟩
theorem Ae.make{P:Program}{w:World}{K:Frag}{mg:Str->Option Value}{base:Heap}{A:Around}{outer:List Env}{s:Shared}{H:Hp}(e:Ae P w K mg base A outer s H)(C:Addr)(us:List Value)(kw:List (Str×Value)) :
  Ae P w K mg base (A.under (.builtin "type.__call__" ⟨.ref C::us,kw⟩)) outer s H:=⟨by first|exact e.frames|(simpa [Around.under,Code.envs,Code.isFrame,pushEnvs] using e.frames),e.mod,e.bs,e.Lm,e.qK,e.Mf,e.hok,e.bare⟩
section
variable {X:Cx} {pins:List (Addr×Obj)} {σ:St} {H:Hp} {s s':Shared}
theorem Inv.rM(I:Inv X pins σ H s):Ae X.prog X.w X.K X.mg X.base X.A X.stack s H :=
 ⟨I.ok.frames,I.ok.mod,I.bs,aaN I.ok.Lm I.sz,I.stack,I.AU,I.hok,I.bare⟩
theorem Inv.after(I:Inv X pins σ H s)(h:CE X.stack X.prog X.w H s Q u s'):EP X pins σ Q u s':=by
 obtain⟨v,H',os,bare,un,hok,r,q⟩:=h;obtain⟨hh,g,d,t,os'⟩:=s';obtain rfl:os'=s.os:=os;exact⟨v,H',I.call (h':=hh) (g':=g) (d':=d) (t':=t) (ch:=[]) un hok bare (λb z=>absurd z (by simp)),r,q⟩
end
def Lq(sp:Sp)(ug:List V)(E:XK)(t:TA):TE:=λσ H Q=>t σ H λvs H1=>sp (vs++ug) H1 Q E
def Lr(C:Addr)(sp:Sp)(ug:List V)(E:XK)(t:TA):TE:=λσ H Q=>t σ H λvs H1=>∀x dx,H1 x=none->H1 dx=none->dx≠x ->
 sp (.ref x::(vs++ug)) (upd (upd H1 dx (.own x)) x (.ins C dx [])) (λv H2=>v=.non/\Q (.ref x) H2) E
def Binds(K:Frag)(fd:FuncData)(ps:List Str)(ds:List Value):Prop :=
 ∀(s:Shared) (us:List Value),K.In s.heap->(us++ds).length=ps.length->BindsTo s fd ⟨us,[]⟩ (ps.zip (us++ds))
theorem Binds.all{K:Frag}{fd:FuncData}{ps:List Str}(h:∀us:List Value,us.length=ps.length->bindArgs fd ⟨us,[]⟩=pure (ps.zip us)):Binds K fd ps []:=λs us _ hl=>by
 rw[aaM]at hl |-;exact .of_eq (h us hl)
def Passes(CX:CF)(X:Cx)(E:XK):Prop:=∀(pins:List (Addr×Obj)) (σ:St) (H:Hp) (s:Shared) (e:Value) (s':Shared),Inv X pins σ H s->CX X.stack H s E e s'->X.xe e s'
section
variable {X:Cx} {CX:CF} {k:Nat} {f C:Addr} {fd:FuncData} {ps:List Str} {sp:Sp} {ug:List V} {ds:List Value} {E:XK} {x m:Str} {p pos apos:Pos} {e o:Expr} {es:List Expr} {ta:TE} {t:TA}
theorem rO(F:fZ X.prog X.w X.K X.mg X.base CX k f fd ps sp)(hr:eZ k X.A)(hb:Binds X.K fd ps ds)(hd:Vals ug ds)(hx:Passes CX X E)
  (I:Inv X pins σ H s) (r:Vals vs us) (h:sp (vs++ug) H Q E):wpAny (model X.prog X.w) X.A (call (.ref f) us) (EP X pins σ Q) X.xe s:=by
 have r2:Vals (vs++ug) (us++ds):=r.append hd;have hl:(us++ds).length=ps.length:=by rw[<-r2.length];exact F.len _ _ _ _ h
 refine wpAny_call (codeAny_mono (F.run X.A X.stack s H ⟨us,[]⟩ (us++ds) (vs++ug) Q E hr I.rM (hb s us I.oX hl) r2 h) λr s' hq=>?_);cases r with
 |error e=>exact hx pins σ H s e s' I hq
 |ok fl=>
  cases fl with
  |ret u=>exact I.after hq
  |next=>exact False.elim hq
  |brk=>exact False.elim hq
  |cont=>exact False.elim hq
theorem IZ(F:fZ X.prog X.w X.K X.mg X.base CX k f fd ps sp)(hr:eZ k X.A)(hg:Gl X x)(hm:X.mg x=some (.ref f))(hk:keepIn X.K (.ref f)=true)(hb:Binds X.K fd ps ds)(hd:Vals ug ds)(hx:Passes CX X E)
  (ha:PA X (e::es) t) (hdb:(x==("__debug__":Str))=false) (he:starEach (e::es) X.env=(false,eval e X.env)::starEach es X.env) (hpl:(backTo pos (starEach es X.env)).any (·.1)=false) :
  PE X (.Call (.Name x p) (e::es) [] pos) (Lq sp ug E t):=by
 intro pins s σ H Q I h;refine aa1 (lJ I hg hm ?_ hdb);refine callWith_K (h₀:=X.base) I.ok.mod.Qi hk (cT (ha pos pins s σ H _ I h) λus s1 ⟨vs,H1,I1,r,q⟩=>⟨I1.oX,?_⟩) he hpl;exact rO F hr hb hd hx I1 r q
theorem Eb(F:fZ X.prog X.w X.K X.mg X.base CX k f fd ps sp)(hr:eZ k X.A)(hg:Gl X x)(hm:X.mg x=some (.ref f))(hk:keepIn X.K (.ref f)=true)(hb:Binds X.K fd ps ds)(hd:Vals ug ds)(hx:Passes CX X E)
  (hdb:(x==("__debug__":Str))=false):PE X (.Call (.Name x p) [] [] pos) (Lq sp ug E MO):=by
 intro pins s σ H Q I h;refine aa1 (lJ I hg hm ?_ hdb);exact callWith_K0 I.oX hk (rO (us:=[]) F hr hb hd hx I .nil h)
structure Mk (K:Frag) (C f:Addr):Prop where
 makes:makesIn K C=true
 init:findIn K (.ref C) "__init__" = some (some (.ref f))
 fn:isFn K (.ref f)=true
 kp:keepIn K (.ref C)=true
theorem x8(M:Mk X.K C f)(F:fZ X.prog X.w X.K X.mg X.base CX k f fd ps sp)(hr:eZ (k+1) X.A)(hb:Binds X.K fd ps ds)(hd:Vals ug ds)
  (hx:Passes CX X E) (I:Inv X pins σ H s) (r:Vals vs us)
  (h:∀x dx,H x=none->H dx=none->dx≠x->sp (.ref x::(vs++ug)) (upd (upd H dx (.own x)) x (.ins C dx [])) (λv H2=>v=.non/\Q (.ref x) H2) E) :
  wpAny (model X.prog X.w) X.A (call (.ref C) us) (EP X pins σ Q) X.xe s:=by
 have hq:=h (s.heap.objs.size+1) s.heap.objs.size (I.hok.fresh (le_succ _)) (I.hok.fresh (aao _)) (aaJ (lt_succ_self _));have I2:=Inv.made (C:=C) I;have r2:Vals (V.ref (s.heap.objs.size+1)::(vs++ug)) (Value.ref (s.heap.objs.size+1)::(us++ds)):=.cons rfl (r.append hd);have hl:(Value.ref (s.heap.objs.size+1)::us++ds).length=ps.length:=by have e:=r2.length;rw[F.len _ _ _ _ hq]at e;exact e.symm
 refine wpAny_call (D9 (f:=f) I.oX M.makes M.init (beq_iff_eq.mp M.fn) (codeAny_mono (F.run _ X.stack _ _ ⟨Value.ref (s.heap.objs.size+1)::us,[]⟩ (Value.ref (s.heap.objs.size+1)::(us++ds)) _ _ E (hr.make C us [])
  (I2.rM.make C us []) (hb _ (Value.ref (s.heap.objs.size+1)::us) I2.oX hl) r2 hq) λr s' hq'=>?_))
 cases r with
 |error e=>exact hx pins σ _ _ e s' I2 hq'
 |ok fl=>
  cases fl with
  |ret u=>obtain⟨v,H',I3,rv,ev,q3⟩:=I2.after hq';subst ev;exact⟨rv,⟨V.ref (s.heap.objs.size+1),H',I3,rfl,q3⟩⟩
  |next=>exact False.elim hq'
  |brk=>exact False.elim hq'
  |cont=>exact False.elim hq'
theorem I0(M:Mk X.K C f)(F:fZ X.prog X.w X.K X.mg X.base CX k f fd ps sp)(hr:eZ (k+1) X.A)(hg:Gl X x)(hm:X.mg x=some (.ref C))(hb:Binds X.K fd ps ds)(hd:Vals ug ds)(hx:Passes CX X E)
  (ha:PA X (e::es) t) (hdb:(x==("__debug__":Str))=false) (he:starEach (e::es) X.env=(false,eval e X.env)::starEach es X.env) (hpl:(backTo pos (starEach es X.env)).any (·.1)=false) :
  PE X (.Call (.Name x p) (e::es) [] pos) (Lr C sp ug E t):=by
 intro pins s σ H Q I h;refine aa1 (lJ I hg hm ?_ hdb);refine callWith_K (h₀:=X.base) I.ok.mod.Qi M.kp (cT (ha pos pins s σ H _ I h) λus s1 ⟨vs,H1,I1,r,q⟩=>⟨I1.oX,?_⟩) he hpl;exact x8 M F hr hb hd hx I1 r q
theorem Ec(M:Mk X.K C f)(F:fZ X.prog X.w X.K X.mg X.base CX k f fd ps sp)(hr:eZ (k+1) X.A)(hg:Gl X x)(hm:X.mg x=some (.ref C))(hb:Binds X.K fd ps ds)(hd:Vals ug ds)(hx:Passes CX X E)
  (hdb:(x==("__debug__":Str))=false):PE X (.Call (.Name x p) [] [] pos) (Lr C sp ug E MO):=by
 intro pins s σ H Q I h;refine aa1 (lJ I hg hm ?_ hdb);exact callWith_K0 I.oX M.kp (x8 (us:=[]) M F hr hb hd hx I .nil h)
end
structure qV (N P:List Str) (sc:Scope):Prop where
 kind:sc.kind=.function
 co:sc.isCoroutine=false
 gen:sc.isGenerator=false
 nd:N.Nodup
 pre:N.take P.length=P
 par:∀x∈P,sc.names.lookup x=some .local\/sc.names.lookup x=some .cell
 MR:∀y∈sc.names,y.2≠.free
theorem uK{kindOf:Str->Option NameKind}{x:Str}:∀{binds:List (Str×Value)} {m:Str->Option Value},(∀v,(x,v)∉binds)->bindL kindOf binds m x=m x
 |[],_,_=>rfl
 | (n,v)::r,m,h=>by
  unfold bindL;rw[uK λw hw=>h w (aac _ hw)]
  split
  ·have:x≠n:=by rintro rfl;exact h v aag
   simp[this]
  ·rfl
theorem uL{kindOf:Str->Option NameKind}{x:Str}:∀{binds:List (Str×Value)} {m:Str->Option Value},(∀v,(x,v)∉binds)->bindC kindOf binds m x=m x
 |[],_,_=>rfl
 | (n,v)::r,m,h=>by
  unfold bindC;rw[uL λw hw=>h w (aac _ hw)]
  split
  ·rfl
  ·have:x≠n:=by rintro rfl;exact h v aag
   simp[this]
theorem uM{kindOf:Str->Option NameKind}{x:Str}{v:Value}:∀{P:List Str} {vs:List Value} {i:Nat} {m:Str->Option Value},P.Nodup->P[i]?=some x->vs[i]?=some v->kindOf x=some .local ->
  bindL kindOf (P.zip vs) m x=some v
 |[],_,_,_,_,h,_,_=>by simp at h
 |_::_,[],_,_,_,_,h,_=>by simp at h
 | p::P,w::vs,0,m,nd,h1,h2,hk=>by
  simp at h1 h2;subst h1;subst h2;show bindL kindOf ((p,w)::P.zip vs) m p=_;unfold bindL;rw[uK λv hv=>(aaI.mp nd).1 (of_mem_zip hv).1,aak hk];simp
 | p::P,w::vs,i+1,m,nd,h1,h2,hk=>by
  show bindL kindOf ((p,w)::P.zip vs) m x=_;unfold bindL;exact uM (i:=i) (aaI.mp nd).2 (by simpa using h1) (by simpa using h2) hk
theorem uN{kindOf:Str->Option NameKind}{x:Str}{v:Value}:∀{P:List Str} {vs:List Value} {i:Nat} {m:Str->Option Value},P.Nodup->P[i]?=some x->vs[i]?=some v->kindOf x≠some .local ->
  bindC kindOf (P.zip vs) m x=some v
 |[],_,_,_,_,h,_,_=>by simp at h
 |_::_,[],_,_,_,_,h,_=>by simp at h
 | p::P,w::vs,0,m,nd,h1,h2,hk=>by
  simp at h1 h2;subst h1;subst h2;show bindC kindOf ((p,w)::P.zip vs) m p=_;unfold bindC;rw[uL λv hv=>(aaI.mp nd).1 (of_mem_zip hv).1,aam hk];simp
 | p::P,w::vs,i+1,m,nd,h1,h2,hk=>by
  show bindC kindOf ((p,w)::P.zip vs) m x=_;unfold bindC;exact uN (i:=i) (aaI.mp nd).2 (by simpa using h1) (by simpa using h2) hk
def start(N:List Str)(vs:List V):St:=vs.map some++replicate (N.length-vs.length) none
def Af(CX:CF)(P:Program)(w:World)(K:Frag)(mg:Str->Option Value)(base:Heap)(N:List Str)(qual:Str)(scope:Scope)(f:Addr)(cd:Value)(A:Around)(outer:List Env)(s:Shared)(H:Hp)(E:XK):Cx where
 prog:=P
 w:=w
 K:=K
 mg:=mg
 base:=base
 A:=A.deeper (envOfC qual scope s.heap.objs.size f cd)
 N:=N
 s₀:=s
 H₀:=H
 env:=envOfC qual scope s.heap.objs.size f cd
 outer:=outer
 stack:=envOfC qual scope s.heap.objs.size f cd::outer
 ex:=[]
 calm:=true
 fn:=λ_=>true
 pn:=[]
 xe:=λe s'=>wpAny (model P w) (A.deeper (envOfC qual scope s.heap.objs.size f cd)) (leaving (envOfC qual scope s.heap.objs.size f cd) e) (λ_ s''=>CX outer H s E e s'') (λe' s''=>CX outer H s E e' s'') s'
theorem x9{sc:Scope}{n:Nat}{x:Str}(h:sc.names.lookup x=some .cell):∃c,(cellsFrom n sc.names []).lookup x=some c:=by
 have q:=cellsFrom_some sc.names n [] (.inl h);exact Option.isSome_iff_exists.mp q
theorem CG{CX:CF}{P:Program}{w:World}{K:Frag}{mg:Str->Option Value}{base:Heap}{N ps:List Str}{qual:Str}{scope:Scope}{f:Addr}{cd:Value}{A:Around}{outer:List Env}{s s1:Shared}{H:Hp}{E:XK}{us:List Value}{vs:List V}
  (S:qV N ps scope) (hd:A.handled=none) (e0:Ae P w K mg base A outer s H) (hl:vs.length=ps.length) (r:Vals vs us)
  (x:InCallC s s.heap.objs.size (bindL (envOfC qual scope s.heap.objs.size f cd).kindOf (ps.zip us) λ_=>none) (cellsFrom (s.heap.objs.size+1) scope.names []) (bindC (envOfC qual scope s.heap.objs.size f cd).kindOf (ps.zip us) λ_=>none) s1) :
  Inv (Af CX P w K mg base N qual scope f cd A outer s H E) [] (start N vs) H s1:=by
 have hpl:ps.length<=N.length:=by have:=congrArg length S.pre;rw[length_take]at this;omega
 obtain⟨h1,tk,rfl,hk⟩:=x.done;have noA:∀b:Addr,b∉(Af CX P w K mg base N qual scope f cd A outer s H E).ex:=λb z=>absurd (show b∈([]:List Addr) from z) (by simp);refine⟨⟨e0.mod,S.kind,rfl,rfl,aao _,λy z c h1 h2=>?_,λy hy=>?_,λy c _ h=>?_,λ_=>hd,Around.frames_deeper e0.frames,.inr ⟨rfl,rfl⟩,λb z=>absurd z (noA b),e0.bs,e0.Lm,λb _ _=>noA b,λb z=>absurd z (noA b),e0.qK,e0.Mf⟩,
  rfl,e0.bare,Un.kept hk,⟨_,x.toInCall.ns,λi y v h1 h2 h3=>?_⟩,λy c h=>⟨_,x.cell y c h⟩,e0.hok.fresh (aao _),λy c h=>?_,λp hp=>absurd (show p∈([]:List (Addr×Obj)) from hp) (by simp),e0.hok.kept hk,?_⟩
 ·exact name_of_addr x.apart (PySem.mem_of_lookup h1) (PySem.mem_of_lookup h2)
 ·have hy:scope.names.lookup y=some .cell\/scope.names.lookup y=some .free:=hy
  rcases hy with hy|hy
  ·exact x9 hy
  ·exact absurd rfl (S.MR _ (PySem.mem_of_lookup hy))
 ·exact Nat.le_of_lt (x.above y c (PySem.mem_of_lookup h))
 ·have hi:i<vs.length:=by
   unfold start at h2
   by_cases hi:i<vs.length
   ·exact hi
   ·rw[aaC (by simpa using hi)]at h2;rw[List.getElem?_replicate]at h2;split at h2<;>cases h2
  have ha:vs[i]?=some v:=by
   unfold start at h2;rw[aav (by simpa using hi),aaF]at h2;cases e:vs[i]? with
   |none=>rw[e]at h2;cases h2
   |some a=>rw[e]at h2;cases h2;rfl
  obtain⟨u,hu,rv⟩:=r.get ha;have hp:ps[i]?=some y:=by rw[<-S.pre,List.getElem?_take_of_lt (by omega)];exact h1
  have WS:ps.Nodup:=by rw[<-S.pre];exact S.nd.sublist (take_sublist _ _)
  refine⟨u,rv,?_⟩
  rcases S.par y (aaL hp) with k|k
  ·exact .inl ⟨k,uM WS hp hu k⟩
  ·obtain⟨c,e⟩:=x9 (n:=s.heap.objs.size+1) k;refine .inr ⟨.inl k,c,e,?_⟩;have q:=x.cell y c e;rw[uN WS hp hu (by show scope.names.lookup y≠_;rw[k];decide)]at q;exact q
 ·exact e0.hok.fresh (Nat.le_of_lt (x.above y c (PySem.mem_of_lookup h)))
 ·unfold start;show _=N.length;rw[aaj,aae,List.length_replicate];omega
theorem Rb{CX:CF}{P:Program}{w:World}{K:Frag}{mg:Str->Option Value}{base:Heap}{k:Nat}{f:Addr}{name qual:Str}{params:Arguments}{body:List Stmt}{scope:Scope}{dV kV doc pm cdv ct oc:Value}{an od:Option Addr}
  {osl:Array (Option Value)} {N ps:List Str} {sp:Sp} (lk:K.lookup f=some ⟨oc,od,.func (fnOf name qual params body scope dV kV doc pm an cdv ct),osl⟩) (hcd:codeIn K cdv qual=true) (S:qV N ps scope)
  (len:∀vs H Q E,sp vs H Q E->vs.length=ps.length)
  (hbody:∀(A:Around) (outer:List Env) (s:Shared) (H:Hp) (vs:List V) (Q:VK) (E:XK),eZ k (A.deeper (envOfC qual scope s.heap.objs.size f cdv))->sp vs H Q E ->
   ∃t,zV (Af CX P w K mg base N qual scope f cdv A outer s H E) body t/\t { nx:=λ_ H'=>Q .non H',rt:=Q } (start N vs) H) :
  fZ P w K mg base CX (k+1) f (fnOf name qual params body scope dV kV doc pm an cdv ct) ps sp:=by
 refine⟨len,λA outer s H args us vs Q E hr e0 hb r hsp=>?_⟩;have hl:=len _ _ _ _ hsp;have KX:K.In s.heap:=e0.mod.Qi.keeps λb o e=>(e0.bs b o e).1;have lim:s.heap.NoLimit:=e0.mod.nolimit.keeps λb o e=>(e0.bs b o e).1;have hkind:∀y∈ps.zip us,scope.names.lookup y.1=some .local\/(scope.names.lookup y.1=some .cell/\((cellsFrom (s.heap.objs.size+1) scope.names []).lookup y.1).isSome=true):=λ⟨n,v⟩ hy=>by
  rcases S.par n (of_mem_zip hy).1 with q|q
  ·exact .inl q
  ·exact .inr ⟨q,cellsFrom_some _ _ _ (.inl q)⟩
 refine codeAny_call_function hr.depth (KX _ _ lk) rfl S.co S.gen rfl (PySem.W.codeRec_of KX hcd) (hb _ _ _ _ ?_);refine wpAny_newFunctionEnv_cells S.kind hkind λenv he s1 x=>?_;subst he;refine⟨lim.keeps x.toInCall.keep,codeAny_func ?_⟩;obtain⟨t,ht,hq⟩:=hbody A outer s H vs Q E (hr.deeper _) hsp;have I:Inv (Af CX P w K mg base N qual scope f cdv A outer s H E) [] (start N vs) H s1:=CG S hr.hd e0 hl r x;refine wpAny_mono (ht [] s1 (start N vs) H _ I hq) (λfl s' hs=>?_) λe s' hs=>hs;have fin:∀{σ':St} {H':Hp} {v:V} {u:Value},Inv (Af CX P w K mg base N qual scope f cdv A outer s H E) [] σ' H' s'->RelV v u->Q v H'->CE outer P w H s Q u s' :=
  λ{σ' H' v u} J rv q=>⟨v,H',J.os,J.bare,J.base,J.hok,rv,q⟩
 cases fl with
 |ret u=>obtain⟨v,σ',H',J,rv,q⟩:=hs;exact fin J rv q
 |next=>obtain⟨σ',H',J,q⟩:=hs;exact fin (v:=V.non) (u:=Value.none) J rfl q
 |brk=>obtain⟨_,_,_,q⟩:=hs;exact False.elim q
 |cont=>obtain⟨_,_,_,q⟩:=hs;exact False.elim q
section
variable {X:Cx} {x:Str} {p pos:Pos} {e:Expr} {es:List Expr} {t:TA} {id T:String} {r:List V->Hp->VK->Prop}
def WU(r:List V->Hp->VK->Prop)(t:TA):TE:=λσ H Q=>t σ H λvs H1=>r vs H1 Q
theorem iF(hc:eV X (.builtin id) r)(hg:Gl X x)(hm:X.mg x=none)(hv:bootBuiltins x=some (.builtin id))(ha:PA X (e::es) t)(hn:x ≠ "__name__":=by decide)(hdb:(x==("__debug__":Str))=false:=by decide)
  (he:starEach (e::es) X.env=(false,eval e X.env)::starEach es X.env:=by rfl) (hpl:(backTo pos (starEach es X.env)).any (·.1)=false:=by rfl):PE X (.Call (.Name x p) (e::es) [] pos) (WU r t):=by
 intro pins s σ H Q I h;refine aa1 (iE I hg hm hv ?_ hn hdb);exact PyProof.Rows.callWith_builtin1 (cT (ha pos pins s σ H _ I h) λus s1 ⟨vs,H1,I1,r1,q1⟩=>hc pins s1 σ H1 vs us Q I1 r1 q1) he hpl
theorem lK(hc:eV X (.type T) r)(hg:Gl X x)(hm:X.mg x=none)(hv:bootBuiltins x=some (.type T))(ha:PA X (e::es) t)(hn:x ≠ "__name__")(hdb:(x==("__debug__":Str))=false)
  (he:starEach (e::es) X.env=(false,eval e X.env)::starEach es X.env) (hpl:(backTo pos (starEach es X.env)).any (·.1)=false):PE X (.Call (.Name x p) (e::es) [] pos) (WU r t):=by
 intro pins s σ H Q I h;refine aa1 (iE I hg hm hv ?_ hn hdb);exact PyProof.Rows.callWith_type1 (cT (ha pos pins s σ H _ I h) λus s1 ⟨vs,H1,I1,r1,q1⟩=>hc pins s1 σ H1 vs us Q I1 r1 q1) he hpl
end
end L2
namespace HT
open PySem PyProof.Rows
def lexLt:List Int->List Int->Bool
 |[],[]=>false
 |[],_::_=>true
 |_::_,[]=>false
 |x::xs,y::ys=>if x=y then lexLt xs ys else decide (x<y)
theorem f6(x y:Int)(xs ys:List Int):lexLt (x::xs) (y::ys)=if x=y then lexLt xs ys else decide (x<y):=rfl
theorem uo:lexLt [] []=false:=rfl
theorem iG(y:Int)(ys:List Int):lexLt [] (y::ys)=true:=rfl
theorem fL(x:Int)(xs:List Int):lexLt (x::xs) []=false:=rfl
section
variable {prog:Program} {w:World} {A:Around} {E:Value->Shared->Prop} {s:Shared}
def fJ(n d:Nat):Option Int->Nat
 |none=>d
 |some v=>if v<0 then (v+(n:Int)).toNat else min v.toNat n
theorem ya(n d:Nat):fJ n d none=d:=rfl
theorem AX(n d k:Nat):fJ n d (some (k:Int))=min k n:=by
 show (if (k:Int)<0 then ((k:Int)+(n:Int)).toNat else min (k:Int).toNat n)=min k n;rw[aam (by omega),Int.toNat_natCast]
theorem MT(n d:Nat)(hd:d<=n)(o:Option Int):fJ n d o<=n:=by
 cases o with
 |none=>exact hd
 |some v=>
  show (if v<0 then (v+(n:Int)).toNat else min v.toNat n)<=n
  by_cases hv:v<0
  ·rw[aak hv];omega
  ·rw[aam hv];exact Nat.min_le_right _ _
theorem AY(v:Int)(n d:Nat):(if v<0 then max (v+(n:Int)) 0 else min v (n:Int))=((fJ n d (some v):Nat):Int):=by
 show (if v<0 then max (v+(n:Int)) 0 else min v (n:Int))=(((if v<0 then (v+(n:Int)).toNat else min v.toNat n):Nat):Int)
 by_cases hv:v<0
 ·simp only[if_pos hv];omega
 ·simp only[if_neg hv];omega
theorem Ag(lo hi:Option Int)(n:Nat):Builtin.Slice.sliceAdjust lo hi 1 (n:Int)=(((fJ n 0 lo:Nat):Int),((fJ n n hi:Nat):Int)):=by
 have h1:¬ ((1:Int)<0):=by omega
 unfold Builtin.Slice.sliceAdjust;simp only[h1,if_false];refine Prod.ext ?_ ?_
 ·cases lo with
  |none=>rfl
  |some v=>exact AY v n 0
 ·cases hi with
  |none=>rfl
  |some v=>exact AY v n n
theorem Ah(i j:Nat):Builtin.Slice.slicePlaces (i:Int) (j:Int) 1=j-i:=by
 unfold Builtin.Slice.slicePlaces;have h1:(1:Int)>0:=by omega
 simp only[h1,if_true,Int.ediv_one]
 split<;>omega
theorem rP{o:Option Int}(p:IsPart v o)(h:Q o s):wpAny (model prog w) A (Builtin.Slice.slicePartIndex v) Q E s:=by
 cases p with
 |none=>exact slicePart_none h
 |int i t=>exact slicePart_int h
theorem oZ{lo hi:Option Int}{n:Nat}(hs:s.heap.IsSliceOf sl vl vu .none)(pl:IsPart vl lo)(pu:IsPart vu hi)
  (h:Q (((fJ n 0 lo:Nat):Int),1,fJ n n hi-fJ n 0 lo) s):wpAny (model prog w) A (Builtin.Slice.sliceApplied (.ref sl) (pure (n:Int))) Q E s:=by
 obtain⟨os,hos,hcs,hds⟩:=id hs;unfold Builtin.Slice.sliceApplied Builtin.Slice.sliceFields;refine aaa (aaa (wpAny_field hos hds (x:=vl) rfl (aaa (wpAny_field hos hds (x:=vu) rfl (aaa (wpAny_field hos hds (x:=.none) rfl (aal ?_)))))));refine aaa (slicePart_none ?_);show wpAny _ _ (if ((1:Int)==0)=true then _ else _) _ _ s;rw[aam (by decide)];refine aaa (rP pl (aaa (rP pu (aaa (aal ?_)))));show wpAny _ _ (match Builtin.Slice.sliceAdjust lo hi 1 (n:Int) with|(lo,hi)=>pure (lo,(1:Int),Builtin.Slice.slicePlaces lo hi 1)) _ _ s;rw[Ag lo hi n];show wpAny _ _ (pure (((fJ n 0 lo:Nat):Int),(1:Int),Builtin.Slice.slicePlaces ((fJ n 0 lo:Nat):Int) ((fJ n n hi:Nat):Int) 1)) _ _ s;rw[Ah];exact aal h
theorem Ed(xs:Array Value)(i k:Nat):((List.range k).filterMap λ(m:Nat)=>xs[((i:Int)+(m:Int)*1).toNat]?).toArray=((xs.toList.drop i).take k).toArray:=by
 have e:(λ(m:Nat)=>xs[((i:Int)+(m:Int)*1).toNat]?)=λm=>xs[i+m]?:=by
  funext m;have:((i:Int)+(m:Int)*1).toNat=i+m:=by omega
  rw[this]
 rw[e];have:=pick_run xs i k;rw[List.filterMap_map]at this;have e2:((λx=>xs[x]?)∘λx=>i+x)=λm=>xs[i+m]?:=rfl;rw[e2]at this;rw[this]
theorem nL{lo hi:Option Int}(ht:IsTup s.heap t items)(hs:s.heap.IsSliceOf sl vl vu .none)(pl:IsPart vl lo)(pu:IsPart vu hi)
  (hw:¬ (fJ items.size 0 lo=0/\fJ items.size items.size hi=items.size))
  (h:Q (.ref s.heap.objs.size) { s with heap:=s.heap.push { cls:=.type "tuple",data:=.seq ((items.toList.drop (fJ items.size 0 lo)).take (fJ items.size items.size hi-fJ items.size 0 lo)).toArray } })
  (hsz:items.size<=sizeLine):wpAny (model prog w) A (getItem (.ref t) (.ref sl)) Q E s:=by
 have AZ:sizeOk (.seq ((items.toList.drop (fJ items.size 0 lo)).take (fJ items.size items.size hi-fJ items.size 0 lo)).toArray):=by show ((items.toList.drop (fJ items.size 0 lo)).take (fJ items.size items.size hi-fJ items.size 0 lo)).toArray.size<=sizeLine;rw[aay,length_take,length_drop,aaU];omega
 have hj:fJ items.size items.size hi<=items.size:=MT _ _ (aao _) hi;obtain⟨os,hos,hcs,hds⟩:=id hs;have Vm:s.TypeIs (.ref sl) "slice":=⟨os,hos,hcs⟩;unfold getItem
 try with_reducible refine wpAny_holding ?_
 first|refine aaa (aal ?_)|skip
 refine aaa (wpAny_sequenceKey ht.typeIs (by decide) ?_);refine aaa (wpAny_callSpecial?_slot (name:=Str.ofString "__getitem__") ht.typeIs PyProof.Rows.slot_tuple_getitem
  (wpAny_call_entry PyProof.Rows.slot_tuple_getitem ht.typeIs entry_tuple_getitem ?_ (args_tuple_getitem _ _)))
 show wpAny _ _ (Builtin.Tuple.tupleItemsOf (.ref t) >>= _) _ _ s;refine aaa (tupleItemsOf_ ht ?_);refine aaa (wpAny_typeOf Vm ?_);rw[aak (by decide)];refine aaa (oZ hs pl pu ?_);have hno:¬ ((((fJ items.size 0 lo:Nat):Int)==0&&(1:Int)==1&&(fJ items.size items.size hi-fJ items.size 0 lo)==items.size)=true):=by intro q;rw[and_eq_true,and_eq_true]at q;have q1:((fJ items.size 0 lo:Nat):Int)=0:=eq_of_beq q.1.1;have q2:fJ items.size items.size hi-fJ items.size 0 lo=items.size:=eq_of_beq q.2;exact hw ⟨by omega,by omega⟩
 show wpAny _ _ (if (((fJ items.size 0 lo:Nat):Int)==0&&(1:Int)==1&&(fJ items.size items.size hi-fJ items.size 0 lo)==items.size)=true then _ else _) _ _ s;rw[aam hno,Ed]
 first
  |exact aaa (m:=Builtin.Tuple.tupleExact _) (aa0 (aal ⟨_,rfl,aal h⟩) AZ)
  |exact aaa (m:=Builtin.Tuple.tupleExact _) (aa0 (aaa (aal (aal ⟨_,rfl,aal h⟩))) AZ)
  |exact aaa (aaa (m:=Builtin.Tuple.tupleExact _) (aa0 (aal (aal ⟨_,rfl,aal h⟩)) AZ))
  |exact aaa (aaa (m:=Builtin.Tuple.tupleExact _) (aa0 (aal ⟨_,rfl,aal h⟩) AZ))
end
end HT
namespace L2
open PySem PySem.Spec PyProof.Rows
abbrev TO:=St->Hp->(Option Int->Hp->Prop)->Prop
def PO(X:Cx)(e:Option Expr)(t:TO):Prop :=
 ∀(pins:List (Addr×Obj)) (s:Shared) (σ:St) (H:Hp) (Q:Option Int->Hp->Prop),Inv X pins σ H s->t σ H Q ->
  wpAny (model X.prog X.w) X.A (evalPart e X.env) (λu s'=>∃o H',Inv X pins σ H' s'/\IsPart u o/\Q o H') X.xe s
def Ja:TO:=λ_ H Q=>Q none H
def Rc(t:TE):TO:=λσ H Q=>t σ H λx H1=>∃i,x=.int i/\Q (some i) H1
theorem intsAre_of{ns:List Int}:∀{us:List Value},Vals (ns.map V.int) us->IntsAre us ns:=by
 induction ns with
 |nil=>intro us r;rw[map_nil]at r;cases r;exact .nil
 |cons n ns ih=>
  intro us r;rw[aaq]at r;cases r with
  |cons r1 r2=>obtain⟨t,e⟩:=r1;subst e;exact .cons n t (ih r2)
section
variable {X:Cx} {e:Expr} {te:TE} {lo hi:Option Expr} {tl th:TO} {pos p2:Pos}
theorem Jb:PO X none Ja:=by
 intro pins s σ H Q I h;rw[evalPart_none];exact aal ⟨none,H,I,.none,h⟩
theorem Jc(h:PE X e te):PO X (some e) (Rc te):=by
 intro pins s σ H Q I hw;rw[evalPart_some];refine cT (h pins s σ H _ I hw) λu s1 aS=>?_;obtain⟨x,H1,I1,r1,q1⟩:=aS;obtain⟨i,rfl,q⟩:=q1;obtain⟨t,rfl⟩:=r1;exact⟨some i,H1,I1,.int i t,q⟩
def Ur(X:Cx)(r:V->Option Int->Option Int->Hp->VK->Prop):Prop :=
 ∀(pins:List (Addr×Obj)) (s:Shared) (σ:St) (H:Hp) (x:V) (v vl vu:Value) (lo hi:Option Int) (sl:Addr) (Q:VK),Inv X pins σ H s->RelV x v->s.heap.IsSliceOf sl vl vu .none->IsPart vl lo->IsPart vu hi->r x lo hi H Q ->
  ∃T id,typeLookup (.type T) "__getitem__" = pure (some (.builtin id))/\s.TypeIs v T/\wpAny (model X.prog X.w) X.A (getItem v (.ref sl)) (EP X pins σ Q) X.xe s
def YC(r:V->Option Int->Option Int->Hp->VK->Prop)(te:TE)(tl th:TO):TE:=λσ H Q=>te σ H λx H1=>tl σ H1 λl H2=>th σ H2 λu H3=>r x l u H3 Q
theorem Ef(hr:Ur X r)(he:PE X e te)(hl:PO X lo tl)(hu:PO X hi th):PE X (.Subscript e (.Slice lo hi none p2) pos) (YC r te tl th):=by
 intro pins s σ H Q I h;refine Subscript_ (cT (he pins s σ H _ I h) λv s1 aS=>?_);obtain⟨x,H1,I1,r1,q1⟩:=aS;refine wpAny_Slice (cT (hl pins s1 σ H1 _ I1 q1) λvl s2 ⟨l,H2,I2,pl,q2⟩=>cT (hu pins s2 σ H2 _ I2 q2) λvu s3 aS=>?_);obtain⟨u,H3,I3,pu,q3⟩:=aS;rw[evalPart_none];refine aal ?_;have I4:Inv X pins σ H3 { s3 with heap:=s3.heap.push { cls:=.type "slice",data:=.fields [vl,vu,.none].toArray } }:=I3.kept (t':=s3.toks) λb ob q=>aai _ q;obtain⟨T,id,hT,ht,hg⟩:=hr pins { s3 with heap:=s3.heap.push { cls:=.type "slice",data:=.fields [vl,vu,.none].toArray } } σ H3 x v vl vu l u s3.heap.objs.size Q I4 r1 (Heap.IsSliceOf.new ..) pl pu q3;show wpAny (model X.prog X.w) X.A (subscriptTail e (.Slice lo hi none p2) v (.ref s3.heap.objs.size)) (EP X pins σ Q) X.xe { s3 with heap:=s3.heap.push { cls:=.type "slice",data:=.fields [vl,vu,.none].toArray } };exact tail_any (ops:=[.ref s3.heap.objs.size,v]) ht hT hg (by with_unfolding_all rfl)
def yb(xs:List V)(lo hi:Option Int):List V:=(xs.drop (HT.fJ xs.length 0 lo)).take (HT.fJ xs.length xs.length hi-HT.fJ xs.length 0 lo)
theorem ql(xs:List V)(lo hi:Option Int):(yb xs lo hi).length<=xs.length:=by
 unfold yb;rw[length_take,length_drop];omega
def Vn(K:Frag):V->Option Int->Option Int->Hp->VK->Prop:=λx lo hi H Q=>∃a xs,x=.ref a/\mD K H a xs /\
 ¬ (HT.fJ xs.length 0 lo=0/\HT.fJ xs.length xs.length hi=xs.length)/\∀p,H p=none->Q (.ref p) (upd H p (.tup (yb xs lo hi)))
theorem MU:Ur X (Vn X.K):=by
 intro pins s σ H x v vl vu lo hi sl Q I rx hs pl pu h;obtain⟨a,xs,rfl,hx,hw,q⟩:=h;cases rx;obtain⟨its,r,ht,hz⟩:=I.tuple hx;have hlen:its.toArray.size=xs.length:=by rw[aay];exact r.length.symm
 refine⟨"tuple",_,PyProof.Rows.slot_tuple_getitem.lookup,ht.typeIs,?_⟩;refine HT.nL ht hs pl pu (by rw[hlen];exact hw) ?_ (by rw[hlen];exact hz);rw[hlen];refine⟨.ref s.heap.objs.size,_,I.laid (t':=s.toks) (o:=.tup (yb xs lo hi)) (λb ob q=>aai _ q) (aao _) ?_,rfl,q _ (I.hok.fresh (aao _))⟩;exact⟨aaN (ql xs lo hi) hz,_,(r.drop (HT.fJ xs.length 0 lo)).take (HT.fJ xs.length xs.length hi-HT.fJ xs.length 0 lo),IsTup.new _ _⟩
end
def Ls(n:Nat)(i:Int):Option Nat:=if 0<=i then (if i<n then some i.toNat else none) else if -(n:Int)<=i then some (i+n).toNat else none
def ko{α:Type}(xs:List α)(i:Int):Option α:=(Ls xs.length i).bind λj=>xs[j]?
theorem Jd{n:Nat}{i:Int}{j:Nat}(h:Ls n i=some j):seqIndex? i n=some j/\j<n /\ -(n:Int)<=i/\i<n:=by
 unfold Ls at h
 by_cases h0:0<=i
 ·rw[aak h0]at h
  by_cases h1:i<n
  ·rw[aak h1]at h;have e:i.toNat=j:=aaZ h;exact⟨by rw[seqIndex_of h0 h1,e],by omega,by omega,h1⟩
  ·rw[aam h1]at h;cases h
 ·rw[aam h0]at h
  by_cases h1:-(n:Int)<=i
  ·rw[aak h1]at h;have e:(i+n).toNat=j:=aaZ h;exact⟨by rw[seqIndex_neg (by omega) h1,e],by omega,h1,by omega⟩
  ·rw[aam h1]at h;cases h
theorem A7{α:Type}{xs:List α}{i:Int}{v:α}(h:ko xs i=some v):∃j,seqIndex? i xs.length=some j/\xs[j]?=some v/\j<xs.length /\ -(xs.length:Int)<=i/\i<xs.length:=by
 unfold ko at h;cases e:Ls xs.length i with
 |none=>rw[e]at h;cases h
 |some j=>rw[e]at h;obtain⟨h1,h2,h3,h4⟩:=Jd e;exact⟨j,h1,h,h2,h3,h4⟩
theorem iV{α:Type}{xs:List α}{j:Nat}{v:α}(h:xs[j]?=some v):ko xs (j:Int)=some v:=by
 have hj:j<xs.length:=(aah.mp h).1;have e:Ls xs.length (j:Int)=some j:=by unfold Ls;rw[aak (by omega),aak (by omega)];simp
 unfold ko;rw[e];exact h
def A9(b:Expr):Prop:=∀o i,subscripted b false o i=operate [o,i] (getItem o i)
def Rf(X:Cx)(r:R2):Prop :=
 ∀(value slice:Expr) (pins:List (Addr×Obj)) (s:Shared) (σ:St) (H:Hp) (x y:V) (v u:Value) (Q:VK),Inv X pins σ H s->RelV x v->RelV y u->r x y H Q ->
  subscripted slice false v u=operate [v,u] (getItem v u)->wpAny (model X.prog X.w) X.A (subscriptTail value slice v u) (EP X pins σ Q) X.xe s
def MV(X:Cx)(id:String)(r:V->List V->Hp->VK->Prop):Prop :=
 ∀(pins:List (Addr×Obj)) (s:Shared) (σ:St) (H:Hp) (x:V) (xs:List V) (v:Value) (us:List Value) (Q:VK),Inv X pins σ H s->RelV x v->Vals xs us->r x xs H Q ->
  wpAny (model X.prog X.w) X.A (call (.builtin id) (v::us)) (EP X pins σ Q) X.xe s
section
variable {X:Cx} {a b:Expr} {ta tb:TE} {pos:Pos}
theorem Rg(hr:Rf X r)(ha:PE X a ta)(hb:PE X b tb)(hs:A9 b):PE X (.Subscript a b pos) (Uo r ta tb):=by
 intro pins s σ H Q I h;exact Subscript_ (MD ha hb I h λv u s2 x y H2 I2 rx ry q=>hr a b pins s2 σ H2 x y v u Q I2 rx ry q (hs _ _))
def Vo(K:Frag):R2:=λx y H Q=>∃p xs i v,x=.ref p/\y=.int i/\j4 K H p xs/\ko xs i=some v/\Q v H
def Vp(K:Frag):R2:=λx y H Q=>∃p xs i v,x=.ref p/\y=.int i/\mD K H p xs/\ko xs i=some v/\Q v H
theorem Ba:Rf X (Vo X.K):=by
 intro value slice pins s σ H x y v u Q I rx ry h hs;obtain⟨p,xs,i,z,rfl,rfl,hq,he,q⟩:=h;cases rx;obtain⟨t,rfl⟩:=ry;obtain⟨its,r,pl,hz⟩:=I.list hq;obtain⟨j,h1,h2,h3,h4,h5⟩:=A7 he;obtain⟨w,ew,rw'⟩:=r.get h2;have hl:=r.length;have hn:=wg;have fin:EP X pins σ Q w s:=⟨z,H,I,rw',q⟩
 by_cases h0:0<=i
 ·have hj:i.toNat=j:=by
   rw[seqIndex_of h0 h5]at h1;exact aaZ h1
  exact item_listR pl.isList h0 (by omega) (by rw[hj];simpa using ew) fin hs
 ·have hj:(i+(its.toArray.size:Int)).toNat=j:=by
   rw[seqIndex_neg (by omega) h4]at h1;rw[aay,<-hl];exact aaZ h1
  exact subscriptTail_builtinR (x:=w) pl.isList.typeIs slot_list_getitem.lookup
   (wpAny_getItem_list_neg (Q:=λr s'=>r=w/\EP X pins σ Q r s') pl.isList (by omega) (by rw[aay]<;>omega) (by omega) (by rw[hj];simpa using ew) ⟨rfl,fin⟩) hs
theorem MW:Rf X (Vp X.K):=by
 intro value slice pins s σ H x y v u Q I rx ry h hs;obtain⟨p,xs,i,z,rfl,rfl,hq,he,q⟩:=h;cases rx;obtain⟨t,rfl⟩:=ry;obtain⟨its,r,pl,hz⟩:=I.tuple hq;obtain⟨j,h1,h2,h3,h4,h5⟩:=A7 he;obtain⟨w,ew,rw'⟩:=r.get h2;have hl:=r.length;have hn:=wg;have fin:EP X pins σ Q w s:=⟨z,H,I,rw',q⟩;exact subscriptTail_builtinR (x:=w) pl.typeIs slot_tuple_getitem.lookup
  (getItem_tuple (j:=j) (Q:=λr s'=>r=w/\EP X pins σ Q r s') pl (by omega) (by omega) (by rw[aay,<-hl];exact h1) (by simpa using ew) ⟨rfl,fin⟩) hs
theorem wo(lo hi:Option Int)(n:Nat):(sliceBounds lo hi none n).1=((HT.fJ n 0 lo:Nat):Int)/\(sliceBounds lo hi none n).2.1=((HT.fJ n n hi:Nat):Int)/\(sliceBounds lo hi none n).2.2=1:=by
 refine⟨?_,?_,rfl⟩
 ·cases lo with
  |none=>simp[sliceBounds,HT.fJ]
  |some i=>
   simp only[sliceBounds,HT.fJ,getD_none,show (1:Int)>0 by decide,if_true]
   by_cases h:i<0
   ·simp only[h,if_true]<;>omega
   ·simp only[h,if_false]<;>omega
 ·cases hi with
  |none=>simp[sliceBounds,HT.fJ]
  |some i=>
   simp only[sliceBounds,HT.fJ,getD_none,show (1:Int)>0 by decide,if_true]
   by_cases h:i<0
   ·simp only[h,if_true]<;>omega
   ·simp only[h,if_false]<;>omega
theorem uq(its:List Value)(lo hi:Option Int):slicePick its.toArray lo hi none=((its.drop (HT.fJ its.length 0 lo)).take (HT.fJ its.length its.length hi-HT.fJ its.length 0 lo)).toArray:=by
 obtain⟨h1,h2,h3⟩:=wo lo hi its.toArray.size;unfold slicePick;rw[h1,h2,h3];simp only[sliceRange_one,pick_run,size_toArray]<;>rfl
def Vq(K:Frag):V->Option Int->Option Int->Hp->VK->Prop:=λx lo hi H Q=>∃a xs,x=.ref a/\j4 K H a xs/\∀p,H p=none->Q (.ref p) (upd H p (.lst (yb xs lo hi)))
theorem Je:Ur X (Vq X.K):=by
 intro pins s σ H x v vl vu lo hi sl Q I rx hs pl pu h;obtain⟨a,xs,rfl,hx,q⟩:=h;cases rx;obtain⟨its,r,ht,hz⟩:=I.list hx;have hlen:=r.length;refine⟨"list",_,slot_list_getitem.lookup,ht.isList.typeIs,?_⟩;refine wpAny_getItem_list_slice ht.isList hs pl pu .none (by simp) ?_ (by rw[aay]<;>omega);rw[uq,<-hlen];refine⟨.ref s.heap.objs.size,_,I.laid (t':=s.toks) (o:=.lst (yb xs lo hi)) (λb ob q=>aai _ q) (aao _) ?_,rfl,q _ (I.hok.fresh (aao _))⟩;exact⟨aaN (ql xs lo hi) hz,_,0,(r.drop (HT.fJ xs.length 0 lo)).take (HT.fJ xs.length xs.length hi-HT.fJ xs.length 0 lo),aaA _ rfl⟩
theorem wu:eV X (.type "list") (λxs H Q=>∃p ys,xs=[.ref p]/\(j4 X.K H p ys\/mD X.K H p ys)/\∀l,H l=none->Q (.ref l) (upd H l (.lst ys))):=by
 intro pins s σ H xs us Q I r h;obtain⟨p,ys,rfl,hq,q⟩:=h;obtain⟨u,rfl,rx⟩:=vals1 r;cases rx;have fin:∀(its:List Value),Vals ys its->ys.length<=sizeLine->∀(h':Heap) (c':Nat),(∀b o',s.heap.get? b=some o'->h'.get? b=some o') ->
   h'.get? s.heap.objs.size=some { cls:=.type "list",dict:=none,data:=.seq its.toArray c',slots:=#[] }->EP X pins σ Q (.ref s.heap.objs.size) { s with heap:=h' }:=λits r' hz h' c' kp e=>
  ⟨.ref s.heap.objs.size,_,I.laid (t':=s.toks) kp (aao _) (show cD X.prog X.w _ h' _ (.lst ys) from⟨hz,its,c',r',e⟩),rfl,q _ (I.hok.fresh (aao _))⟩
 rcases hq with hq|hq
 ·obtain⟨its,r',pl,hz⟩:=I.list hq;have hlen:=r'.length;obtain⟨o,ho,hc,n,hd⟩:=pl.isList;exact call_list_seq p (.inl rfl) ho hc hd (λh' c' kp e=>fin its r' hz h' c' kp e) (by simp only[size_toArray]<;>omega)
 ·obtain⟨its,r',pl,hz⟩:=I.tuple hq;have hlen:=r'.length;obtain⟨o,ho,hc,n,hd⟩:=pl;exact call_list_seq p (.inr rfl) ho hc hd (λh' c' kp e=>fin its r' hz h' c' kp e) (by simp only[size_toArray]<;>omega)
def Vr(K:Frag)(T:String)(x:V)(H:Hp):Prop:=match x with
 |.str _=>T = "str"
 |.int _=>T = "int"
 | .ref p=>(T = "list" /\ ∃xs,j4 K H p xs)\/(T = "tuple" /\ ∃o,K.lookup p=some o/\o.cls=.type "tuple" /\ o.dict=none) \/
   (T = "dict" /\ ((∃kvs,H p=some (.dK kvs))\/∃kvs,H p=some (.dT kvs)))\/(T = "set" /\ ∃S n,H p=some (.set S n))
 |_=>False
theorem MX{T:String}(I:Inv X pins σ H s)(r:RelV x v)(ty:Vr X.K T x H) :
  s.TypeIs v T/\∀a,v=.ref a->∃ob,s.heap.get? a=some ob/\ob.dict=none:=by
 cases x with
 |str z=>obtain⟨t,rfl⟩:=r;cases (show T = "str" from ty);exact⟨typeIs_str s z t,λ_ e=>nomatch e⟩
 |int i=>obtain⟨t,rfl⟩:=r;cases (show T = "int" from ty);exact⟨typeIs_int s i t,λ_ e=>nomatch e⟩
 |ref p=>
  cases r
  rcases ty with ⟨rfl,xs,hq⟩|⟨rfl,o,hk,hc,hd⟩|⟨rfl,hk⟩|⟨rfl,S,n,hk⟩
  ·obtain⟨its,_,pl,_⟩:=I.list hq;refine⟨pl.isList.typeIs,λa e=>?_⟩;cases e;obtain⟨o,n,e,c,hd,_⟩:=pl;exact⟨o,e,hd⟩
  ·refine⟨⟨o,I.oX p o hk,hc⟩,λa e=>?_⟩;cases e;exact⟨o,I.oX _ o hk,hd⟩
  ·have z:∃o,s.heap.get? p=some o/\o.ExactDict:=by
    rcases hk with ⟨kvs,hk⟩|⟨kvs,hk⟩
    ·obtain⟨_,_,_,_,o,_,_,e,ex,_⟩:=I.hok p _ hk;exact⟨o,e,ex⟩
    ·obtain⟨_,_,_,_,o,_,_,e,ex,_⟩:=I.hok p _ hk;exact⟨o,e,ex⟩
   obtain⟨o,e,ex⟩:=z;refine⟨⟨o,e,ex.1⟩,λa e2=>?_⟩;cases e2;exact⟨o,e,ex.2.1⟩
  ·obtain⟨o,_,_,_,e,ex,_⟩:=I.hok p _ hk;refine⟨⟨o,e,ex.1⟩,λa e2=>?_⟩;cases e2;exact⟨o,e,ex.2.1⟩
 |_=>exact False.elim ty
def WW(K:Frag)(T:String)(r:V->List V->Hp->VK->Prop)(to:TE)(t:TA):TE:=λσ H Q=>to σ H λx H1=>Vr K T x H1/\t σ H1 λxs H2=>r x xs H2 Q
variable {o e:Expr} {es:List Expr} {to:TE} {t:TA} {name:Str} {apos cpos:Pos} {T id:String} {r:V->List V->Hp->VK->Prop}
theorem yc(pa:PlainAttrs T)(slot:Slot T name id)(hty:typeOf (.builtin id)=pure (.type "method_descriptor"))(hm:MV X id r)(ho:PE X o to)(ha:PA X (e::es) t)
  (hbase:attributeBase o name X.env (eval o X.env)=eval o X.env)
  (hfew:((backTo cpos (starEach (e::es) X.env)).all (λx=>!x.1)&&(backToKw cpos (keywordEach [] X.env)).all (λx=>x.1.isSome)
   && decide ((e::es).length+([]:List Keyword).length+(if ([]:List Keyword).isEmpty then 0 else 1)<30))=true)
  (hline:(apos.endLine==cpos.line)=true) (hs:starEach (e::es) X.env=(false,eval e X.env)::starEach es X.env) (hplain:(backTo cpos (starEach es X.env)).any (·.1)=false) :
  PE X (.Call (.Attribute o name apos) (e::es) [] cpos) (WW X.K T r to t):=by
 intro pins s σ H Q I h;refine wpAny_Call_method_late hbase hfew hline rfl (cT (ho pins s σ H _ I h) λv s1 aS=>?_);obtain⟨x,H1,I1,r1,ty,q1⟩:=aS;obtain⟨h1,h2⟩:=MX I1 r1 ty;refine⟨T,id,pa,slot,hty,h1,h2,?_⟩;have hA:=ha cpos pins s1 σ H1 _ I1 q1;rw[hs]at hA |-;refine Calls.callWith_builtin (by show (false||(backTo cpos (starEach es X.env)).any (·.1))=false;rw[hplain]<;>rfl) (Calls.evalArgs_plain ?_);exact cT hA λus s2 ⟨vs,H2,I2,r2,q2⟩=>hm pins s2 σ H2 x vs v us Q I2 r1 r2 q2
/- xs.append(e),list.index on a Rh tuple .. are MV facts of 06m -/
end
def Us(X:Cx)(id:String)(r:V->List V->Hp->VK->Prop):Prop :=
 ∀(pins:List (Addr×Obj)) (s:Shared) (σ:St) (H:Hp) (x:V) (xs:List V) (v:Value) (us:List Value) (Q:VK),Inv X pins σ H s->RelV x v->Vals xs us->r x xs H Q ->
  wpAny (model X.prog X.w) X.A (call (.builtin id) (v::us)) (EP X pins σ Q) X.xe s
theorem Vals.one:∀{x:V} {us:List Value},Vals [x] us->∃u,us=[u]/\RelV x u
 |_,_,.cons r .nil=>⟨_,rfl,r⟩
theorem Vals.eraseIdx:∀{xs:List V} {us:List Value} (i:Nat),Vals xs us->Vals (xs.eraseIdx i) (us.eraseIdx i)
 |_,_,_,.nil=>.nil
 |_,_,0,.cons _ t=>t
 |_,_,i+1,.cons r t=>.cons r (Vals.eraseIdx i t)
theorem o6{α:Type}:∀(l:List α) (i:Nat),(l.eraseIdx i).length<=l.length
 |[],_=>aao _
 |_::_,0=>le_succ _
 |_::r,i+1=>Nat.succ_le_succ (o6 r i)
section
variable {X:Cx} {pins:List (Addr×Obj)} {σ:St} {H:Hp} {s:Shared} {l b:Addr} {xs ys zs:List V}
theorem Inv.Jf{its its':List Value}{n:Nat}{f:Array Value->Array Value}{t':Nat}(I:Inv X pins σ H s)(hH:H l=some (.lst xs))
  (e:s.heap.get? l=some { cls:=.type "list",data:=.seq its.toArray n }) (hf:f its.toArray=its'.toArray) (hv:Vals ys its') (hz:ys.length<=sizeLine) :
  Inv X pins σ (upd H l (.lst ys)) { s with heap:=s.heap.update l (Obj.mapSeq f),toks:=t' }:=by
 have q:=PySem.IsL.update e f;rw[hf]at q;refine I.write (x:=l) (e:=l) (by rw[hH];exact trivial) (.inl rfl) (λb' u hb hu=>(Heap.get?_update_other s.heap (Obj.mapSeq f) (Ne.symm hb)).trans hu) ⟨_,q⟩ ?_;exact⟨hz,its',_,hv,q⟩
theorem Inv.Vs{t':Nat}(I:Inv X pins σ H s)(hv:Vals ys its)(hz:ys.length<=sizeLine) :
  Inv X pins σ (upd H s.heap.objs.size (.lst ys)) { s with heap:=s.heap.push { cls:=.type "list",data:=.seq its.toArray },toks:=t' } :=
 I.laid (λ_ _ q=>aai _ q) (aao _) ⟨hz,its,0,hv,aaA _ rfl⟩
theorem Inv.Jg(I:Inv X pins σ H s)(hH:H l=some (.lst xs)):xs.length<=sizeLine/\∃(its:List Value) (n:Nat),Vals xs its/\xs.length=its.length/\s.heap.get? l=some { cls:=.type "list",data:=.seq its.toArray n }:=by
 obtain⟨z,its,n,r,e⟩:=I.hok l _ hH;exact⟨z,its,n,r,r.length,e⟩
theorem Eg{n:Nat}(h:n<=sizeLine):Builtin.List.listTooLong n=false:=by
 unfold Builtin.List.listTooLong;exact decide_eq_false (by omega)
end
section
variable {X:Cx}
def Jh:V->List V->Hp->VK->Prop:=λx vs H Q=>∃l xs y,x=.ref l/\vs=[y]/\H l=some (.lst xs)/\xs.length<sizeLine/\Q .non (upd H l (.lst (xs++[y])))
theorem uO:Us X "list.append" Jh:=by
 intro pins s σ H x vs v us Q I rx rv h;obtain⟨l,xs,y,rfl,rfl,hH,hz,q⟩:=h;cases rx;obtain⟨u,rfl,ru⟩:=rv.one;obtain⟨z,its,n,r,hl,e⟩:=I.Jg hH;refine call_meets F.slot_list_append ⟨_,e,rfl⟩ F.entry_list_append (F.args_list_append_2 _ _) (PySem.list_append l its.toArray n u (by rw[aay];omega)) ⟨e,?_⟩;refine⟨.non,_,I.Jf (its':=its++[u]) hH e (by simp) (r.append #[ru]) ?_,rfl,q⟩;rw[aaj,aaQ];omega
def MY:V->List V->Hp->VK->Prop:=λx vs H Q=>∃l xs i k y,x=.ref l/\vs=[.int i]/\H l=some (.lst xs) /\ -(2 ^ 63)<=i/\i<2 ^ 63/\seqIndex? i xs.length=some k/\xs[k]?=some y/\Q y (upd H l (.lst (xs.eraseIdx k)))
theorem Eh:Us X "list.pop" MY:=by
 intro pins s σ H x vs v us Q I rx rv h;obtain⟨l,xs,i,k,y,rfl,rfl,hH,h1,h2,hk,hy,q⟩:=h;cases rx;obtain⟨u,rfl,ru⟩:=rv.one;obtain⟨t,rfl⟩:=ru;obtain⟨z,its,n,r,hl,e⟩:=I.Jg hH;obtain⟨w,hw,rw'⟩:=r.get hy;refine call_meets F.slot_list_pop ⟨_,e,rfl⟩ F.entry_list_pop (F.args_list_pop_2 _ _)
  (MeetsSeq.list_pop_at l its.toArray n i t k w (fitsIndex_both h1 h2) (by rw[aay,<-hl];exact hk) (by rw[<-getElem?_toList];exact hw) (by rw[aay];omega)) ⟨e,?_⟩
 refine⟨y,_,I.Jf (its':=its.eraseIdx k) hH e ?_ (r.eraseIdx k) ?_,rw',q⟩
 ·show its.toArray.eraseIdxIfInBounds k=(its.eraseIdx k).toArray;rw[List.eraseIdxIfInBounds_toArray]
 ·have:=o6 xs k;omega
end
section
variable {κ:Type} [DecidableEq κ]
def jP(kvs:List (κ × V))(k:κ):Option V:=(kvs.find? λkv=>decide (kv.1=k)).map (·.2)
def putK(kvs:List (κ × V))(k:κ)(v:V):List (κ × V) :=
 if (kvs.any λkv=>decide (kv.1=k))=true then kvs.map (λkv=>if kv.1=k then (kv.1,v) else kv) else kvs++[(k,v)]
theorem rQ{p:κ × V}{r:List (κ × V)}{k:κ}(e:p.1=k):jP (p::r) k=some p.2:=by simp[jP,find?_cons,e]
theorem rR{p:κ × V}{r:List (κ × V)}{k:κ}(e:¬ p.1=k):jP (p::r) k=jP r k:=by simp[jP,find?_cons,e]
theorem yd(k:κ):∀kvs:List (κ × V),(kvs.any λkv=>decide (kv.1=k))=(jP kvs k).isSome
 |[]=>rfl
 | p::r=>by
  rw[any_cons]
  by_cases e:p.1=k
  ·simp only[rQ e,decide_eq_true e,Bool.true_or,isSome_some]
  ·rw[rR e,decide_eq_false e,Bool.false_or];exact yd k r
theorem kB(kvs:List (κ × V))(k:κ)(v:V):(putK kvs k v).length<=kvs.length+1:=by
 unfold putK
 split
 ·rw[aae];omega
 ·rw[aaj,aaE,length_nil];omega
theorem lZ.jy(r:lZ o u):o.isSome=u.isSome:=by
 cases o with
 | none=>cases u with
  |none=>rfl
  |some _=>exact(show False from r).elim
 | some _=>cases u with
  |none=>exact(show False from r).elim
  |some _=>rfl
theorem KV.val(r:KV kvs vs)(k:κ):lZ (jP kvs k) (valueAt vs k):=by
 unfold KV at r
 induction r with
 |nil=>exact True.intro
 |@cons p q ps qs h t ih=>
  obtain⟨h1,h2⟩:=h
  by_cases e:p.1=k
  ·have e':q.1=k:=h1.symm.trans e
   have b:valueAt (q::qs) k=some q.2:=by simp[valueAt,find?_cons,e']
   rw[rQ e,b];exact h2
  ·have e':¬ q.1=k:=λz=>e (h1.trans z)
   have b:valueAt (q::qs) k=valueAt qs k:=by simp[valueAt,find?_cons,e']
   rw[rR e,b];exact ih
theorem KV.any(r:KV kvs vs)(k:κ):(kvs.any λkv=>decide (kv.1=k))=vs.any λkv=>decide (kv.1=k):=by
 unfold KV at r
 induction r with
 |nil=>rfl
 |cons h t ih=>rw[any_cons,any_cons,ih,h.1]
theorem KV.repl(r:KV kvs vs)(k:κ)(ry:RelV y u) :
  KV (kvs.map λkv=>if kv.1=k then (kv.1,y) else kv) (vs.map λkv=>if kv.1=k then (kv.1,u) else kv):=by
 unfold KV at r |-
 induction r with
 |nil=>exact .nil
 |@cons p q ps qs h t ih=>
  rw[aaq,aaq];refine .cons ?_ ih;obtain⟨h1,h2⟩:=h
  by_cases e:p.1=k
  ·rw[aak e,aak (h1.symm.trans e)];exact⟨h1,ry⟩
  ·rw[aam e,aam (λz=>e (h1.trans z))];exact⟨h1,h2⟩
theorem KV.put(r:KV kvs vs)(k:κ)(ry:RelV y u):KV (putK kvs k y) (stored vs k u):=by
 unfold putK stored;rw[r.any k]
 by_cases e:(vs.any λkv=>decide (kv.1=k))=true
 ·rw[aak e,aak e];exact r.repl k ry
 ·rw[aam e,aam e];exact Paired.snoc r ⟨rfl,ry⟩
theorem KV.length(r:KV kvs vs):kvs.length=vs.length:=Paired.length r
end
theorem uP(r:RelV (kV k) u):(bK P w).is k u=true:=by
 cases k with
 |inl i=>obtain⟨t,e⟩:=(show ∃t,u=Value.int i t from r);subst e;exact xT P w i t
 |inr x=>obtain⟨t,e⟩:=(show ∃t,u=Value.str x t from r);subst e;exact xU P w x t
theorem uQ:∀{ks:List Key} {us:List Value},Vals (ks.map kV) us->ItemsAre (bK P w) ks us
 |[],_,r=>by rw[map_nil]at r;cases r;exact .nil
 | k::ks,_,r=>by
  rw[aaq]at r;cases r with
  |cons h t=>exact .cons (uP h) (uQ t)
abbrev KT(H:Hp):List (List Key×V)->List (List Key×Addr×Value)->Prop:=Paired λp q=>p.1=q.1/\H q.2.1=some (.tup (p.1.map kV))/\RelV p.2 q.2.2
theorem KT.val(r:KT H kvs xs)(k:List Key):lZ (jP kvs k) ((atKey xs k).map (·.2)):=by
 induction r with
 |nil=>exact True.intro
 |@cons p q ps qs h t ih=>
  obtain⟨h1,_,h2⟩:=h
  by_cases e:p.1=k
  ·have e':q.1=k:=h1.symm.trans e
   have b:atKey (q::qs) k=some q.2:=by simp[atKey,find?_cons,e']
   rw[rQ e,b];exact h2
  ·have e':¬ q.1=k:=λz=>e (h1.trans z)
   have b:atKey (q::qs) k=atKey qs k:=by simp[atKey,find?_cons,e']
   rw[rR e,b];exact ih
theorem KT.repl(r:KT H kvs xs)(k:List Key)(ry:RelV y u) :
  KT H (kvs.map λkv=>if kv.1=k then (kv.1,y) else kv) (xs.map (putAt k u)):=by
 induction r with
 |nil=>exact .nil
 |@cons p q ps qs h t ih=>
  rw[aaq,aaq];refine .cons ?_ ih;obtain⟨h1,h2,h3⟩:=h;unfold putAt
  by_cases e:p.1=k
  ·rw[aak e,aak (h1.symm.trans e)];exact⟨h1,h2,ry⟩
  ·rw[aam e,aam (λz=>e (h1.trans z))];exact⟨h1,h2,h3⟩
theorem KT.put(r:KT H kvs xs)(k:List Key)(hb:H b=some (.tup (k.map kV)))(ry:RelV y u) :
  KT H (putK kvs k y) (storedH xs k b u):=by
 have e:(kvs.any λkv=>decide (kv.1=k))=(atKey xs k).isSome:=by rw[yd,(r.val k).jy,isSome_map]
 unfold putK storedH;rw[e]
 by_cases q:(atKey xs k).isSome=true
 ·rw[aak q,aak q];exact r.repl k ry
 ·rw[aam q,aam q];exact Paired.snoc r ⟨rfl,hb,ry⟩
theorem KT.keeps(r:KT H kvs xs)(ht:∀b ys,H b=some (.tup ys)->H' b=some (.tup ys)):KT H' kvs xs :=
 Paired.Mb r λ_ _ z=>⟨z.1,ht _ _ z.2.1,z.2.2⟩
section
variable {P:Program} {w:World} {H:Hp} {h:Heap} {a:Addr}
theorem Lu(ok:mT P w H h)(e:Rd H a u):cD P w H h a u:=e.ok ok
theorem rS(ok:mT P w H h)(e:Rd H a (.dK kvs)):kvs.length<=sizeLine/\(a==sysModules)=false/\∃vs,KV kvs vs/\h.DictOf (bK P w) a vs :=
 show cD P w H h a (.dK kvs) from Lu ok e
theorem Bb(ok:mT P w H h)(e:H a=some (.dK kvs)):kvs.length<=sizeLine/\(a==sysModules)=false/\∃vs,KV kvs vs/\h.DictOf (bK P w) a vs:=rS ok (.inl e)
theorem rT(ok:mT P w H h)(e:H a=some (.tup (ks.map kV))):(tupleKind (bK P w)).is h ks a:=by
 obtain⟨_,its,r,o,h1,h2,n,h3⟩:=(show cD P w H h a (.tup (ks.map kV)) from ok a _ e);exact⟨o,its.toArray,n,h1,h2,h3,by simpa using uQ r⟩
theorem uR(ok:mT P w H h)(e:Rd H a (.dT kvs)):kvs.length<=sizeLine/\(a==sysModules)=false /\
  ∃xs,KT H kvs xs/\h.DictOfH (tupleKind (bK P w)) a xs:=by
 obtain⟨z,y,xs,r,o,es,ep,h1,h2,h3,h4,h5⟩:=(show cD P w H h a (.dT kvs) from Lu ok e);refine⟨z,y,xs,r,o,es,ep,h1,h2,h3,h4,λx hx=>?_,h5⟩;have all:∀{l:List (List Key×V)} {m:List (List Key×Addr×Value)},KT H l m->∀x∈m,(tupleKind (bK P w)).is h x.1 x.2.1:=by
  intro l m q
  induction q with
  |nil=>intro x hx;exact nomatch hx
  |@cons p q ps qs hq t ih=>
   intro x hx
   rcases aaw.mp hx with e|hx
   ·subst e;exact rT ok (by rw[<-hq.1];exact hq.2.1)
   ·exact ih x hx
 exact all r x hx
theorem Ri(ok:mT P w H h)(e:H a=some (.dT kvs)):kvs.length<=sizeLine/\(a==sysModules)=false /\
  ∃xs,KT H kvs xs/\h.DictOfH (tupleKind (bK P w)) a xs:=uR ok (.inl e)
end
def rV(H:Hp)(a:Addr)(y:V)(r:Option V):Prop :=
 (∃kvs k,Rd H a (.dK kvs)/\y=kV k/\r=jP kvs k)\/∃kvs k b,Rd H a (.dT kvs)/\y=.ref b/\H b=some (.tup (k.map kV))/\r=jP kvs k
def Ji(H:Hp)(a:Addr)(y v:V)(H':Hp):Prop :=
 (∃kvs k,H a=some (.dK kvs)/\y=kV k/\kvs.length<sizeLine/\H'=upd H a (.dK (putK kvs k v))) \/
 ∃kvs k b,H a=some (.dT kvs)/\y=.ref b/\H b=some (.tup (k.map kV))/\kvs.length<sizeLine/\H'=upd H a (.dT (putK kvs k v))
theorem rV.k{H:Hp}{a:Addr}{kvs:List (Key×V)}{k:Key}(e:H a=some (.dK kvs)):rV H a (kV k) (jP kvs k):=.inl ⟨kvs,k,.inl e,rfl,rfl⟩
theorem Ji.k{H:Hp}{a:Addr}{kvs:List (Key×V)}{k:Key}{v:V}(e:H a=some (.dK kvs))(hl:kvs.length<sizeLine):Ji H a (kV k) v (upd H a (.dK (putK kvs k v))):=.inl ⟨kvs,k,e,rfl,hl,rfl⟩
section
variable {X:Cx} {pins:List (Addr×Obj)} {σ:St} {H:Hp} {s:Shared} {a:Addr} {y v:V} {u r:Value} {o:Option V} {A:Around} {E:Value->Shared->Prop}
theorem Inv.big(I:Inv X pins σ H s):sysModules<s.heap.objs.size:=by
 have h:mainGlobals<s.heap.objs.size:=(I.mod.glob.keeps I.bk).lt;exact lt_trans (by decide) h
theorem CH(hu:A.units+1<cLine)(I:Inv X pins σ H s)(g:rV H a y (some v))(ry:RelV y u)(h:∀w' s',Inv X pins σ H s'->RelV v w'->Q w' s') :
  wpAny (model X.prog X.w) A (getItem (.ref a) u) Q E s:=by
 rcases g with ⟨kvs,k,e,ey,l⟩|⟨kvs,k,b,e,ey,eb,l⟩
 ·subst ey;obtain⟨z,hd,vs,rel,dd⟩:=rS I.hok e;obtain⟨w',hw,rw'⟩:=lZ.some_of (v:=v) (o:=valueAt vs k) (by rw[l];exact rel.val k);exact wpAny_getItem_of (uP ry) dd.mapOf hw (h w' _ (I.tok _) rw')
 ·subst ey;cases (show u=Value.ref b from ry);obtain⟨z,hd,xs,rel,dd⟩:=uR I.hok e;obtain⟨w',hw,rw'⟩:=lZ.some_of (v:=v) (o:=(atKey xs k).map (·.2)) (by rw[l];exact rel.val k);obtain⟨p,hp,hp2⟩:=map_eq_some_iff.mp hw;refine wpAny_getItem_heap (tupleKind_room_in1 hu) (rT I.hok eb) dd hp ?_;rw[hp2];exact h w' _ (I.tok _) rw'
theorem Vt(hu:A.units+1<cLine)(I:Inv X pins σ H s)(g:rV H a y o)(ry:RelV y u)(h:∀s',Inv X pins σ H s'->Q (.bool o.isSome) s') :
  wpAny (model X.prog X.w) A (compareOp .In u (.ref a)) Q E s:=by
 rcases g with ⟨kvs,k,e,ey,l⟩|⟨kvs,k,b,e,ey,eb,l⟩
 ·subst ey;obtain⟨z,hd,vs,rel,dd⟩:=rS I.hok e;refine wpAny_in_of (uP ry) hd dd.mapOf ?_;rw[<-(rel.val k).jy,<-l];exact h _ (I.tok _)
 ·subst ey;cases (show u=Value.ref b from ry);obtain⟨z,hd,xs,rel,dd⟩:=uR I.hok e;refine wpAny_in_heap (tupleKind_room_in1 hu) (rT I.hok eb) hd dd ?_;have q:=(rel.val k).jy;rw[isSome_map]at q;rw[<-q,<-l];exact h _ (I.tok _)
theorem Jj(hu:A.units+1<cLine)(I:Inv X pins σ H s)(g:rV H a y o)(ry:RelV y u)(h:∀s',Inv X pins σ H s'->Q (.bool (!o.isSome)) s') :
  wpAny (model X.prog X.w) A (compareOp .NotIn u (.ref a)) Q E s:=by
 rcases g with ⟨kvs,k,e,ey,l⟩|⟨kvs,k,b,e,ey,eb,l⟩
 ·subst ey;obtain⟨z,hd,vs,rel,dd⟩:=rS I.hok e;refine wpAny_notIn_of (uP ry) hd dd.mapOf ?_;rw[<-(rel.val k).jy,<-l];exact h _ (I.tok _)
 ·subst ey;cases (show u=Value.ref b from ry);obtain⟨z,hd,xs,rel,dd⟩:=uR I.hok e;refine wpAny_notIn_heap (tupleKind_room_in1 hu) (rT I.hok eb) hd dd ?_;have q:=(rel.val k).jy;rw[isSome_map]at q;rw[<-q,<-l];exact h _ (I.tok _)
theorem wz{t':Nat}(I:Inv X pins σ H s)(mu:QA (H a))(hs:Heap.SameBut a s.heap h')(he:∃q,h'.get? a=some q)(new:cD X.prog X.w (upd H a ob) h' a ob) :
  Inv X pins σ (upd H a ob) { s with heap:=h',toks:=t' } :=
 I.write (x:=a) (e:=a) mu (.inl rfl) (λb q hb z=>(hs.2 b hb).trans z) he new
theorem Ei(z:kvs.length<=sizeLine)(hd:(a==sysModules)=false)(rel:KV kvs vs)(dd:h'.DictOf (bK P w) a vs) :
  cD P w H' h' a (.dK kvs):=⟨z,hd,vs,rel,dd⟩
theorem CI(hu:A.units+1<cLine)(I:Inv X pins σ H s)(g:Ji H a y v H')(ry:RelV y u)(rv:RelV v r)(h:∀s',Inv X pins σ H' s'->Q () s') :
  wpAny (model X.prog X.w) A (setItem (.ref a) u r) Q E s:=by
 rcases g with ⟨kvs,k,e,ey,l,eH⟩|⟨kvs,k,b,e,ey,eb,l,eH⟩
 ·subst ey eH
  obtain⟨z,hd,vs,rel,dd⟩:=Bb I.hok e;have hz:vs.length<=sizeLine:=by rw[<-rel.length];exact z
  have hl:(putK kvs k v).length<=sizeLine:=by have:=kB kvs k v;omega
  refine wpAny_setItem_pairs (hsz:=hz) (uP ry) dd λh' MZ hs=>h _ ?_;have he:∃q,h'.get? a=some q:=let ⟨q,_,_,hq,_⟩:=MZ;⟨q,hq⟩
  exact wz I (by rw[e];exact True.intro) hs he (Ei hl hd (rel.put k rv) MZ)
 ·subst ey eH
  cases (show u=Value.ref b from ry);obtain⟨z,hd,xs,rel,dd⟩:=Ri I.hok e;have hz:xs.length<=sizeLine:=by rw[<-Paired.length rel];exact z
  have hl:(putK kvs k v).length<=sizeLine:=by have:=kB kvs k v;omega
  refine wpAny_setItem_heap (hsz:=hz) (tupleKind_room_in1 hu) (rT I.hok eb) dd λh' MZ hs=>h _ ?_;obtain⟨q,es,ep,hq,h2,h3,h4,_,h5⟩:=MZ;refine wz I (by rw[e];exact True.intro) hs ⟨q,hq⟩ ⟨hl,hd,_,(rel.put k eb rv).keeps λc ys ec=>?_,q,es,ep,hq,h2,h3,h4,h5⟩;rw[aR (Qz ec e (λz=>nomatch z))];exact ec
end
section
variable {X:Cx} {pins:List (Addr×Obj)} {σ:St} {H:Hp} {s:Shared} {a:Addr} {kvs:List (Key×V)} {k:Key} {u:Value} {A:Around} {E:Value->Shared->Prop}
theorem Rj(I:Inv X pins σ H s)(e:Rd H a (.dK kvs))(h:∀t s',Inv X pins σ H s'->Q (.int kvs.length t) s'):wpAny (model X.prog X.w) A (call (.builtin "len") [.ref a]) Q E s:=by
 obtain⟨z,hd,vs,rel,dd⟩:=rS I.hok e;refine call_len_dict hd dd (by rw[<-rel.length];rw[sizeLine_eq]at z;omega) ?_;rw[<-rel.length];exact h _ _ (I.tok _)
end
theorem ye(I:Inv X pins σ H s)(g:rV H a y o):s.TypeIs (.ref a) "dict":=by
 rcases g with ⟨kvs,k,e,_,_⟩|⟨kvs,k,b,e,_,_,_⟩
 ·obtain⟨_,_,vs,_,dd⟩:=rS I.hok e;exact dd.typeIs
 ·obtain⟨_,_,xs,_,dd⟩:=uR I.hok e;exact dd.typeIs
theorem yf(h:Heap)(hb:sysModules<h.objs.size):cD P w H (h.push { cls:=.type "dict",data:=.dict #[] }) h.objs.size (.dK []) :=
 ⟨zero_le _,aaT.mpr (Ne.symm (aaJ hb)),[],.nil,Heap.DictOf.new h⟩
def M0:TE:=λ_ H Q=>∀p,H p=none->Q (.ref p) (upd H p (.dK []))
section
variable {X:Cx} {pos:Pos}
theorem Ej:PE X (.Dict [] [] pos) M0:=λpins s σ H Q I h=>
 wpAny_Dict_empty ⟨.ref s.heap.objs.size,_,I.laid (a:=s.heap.objs.size) (o:=.dK []) (t':=s.toks) (λ_ _ q=>aai _ q) (aao _) (yf s.heap I.big),rfl,h _ (I.hok.fresh (aao _))⟩
end
def Ai:List (TE×TE)->St->Hp->(List (V×V)->Hp->Prop)->Prop
 |[],_,H,Q=>Q [] H
 |(tk,tv)::r,σ,H,Q=>tk σ H λx H1=>tv σ H1 λy H2=>Ai r σ H2 λps H3=>Q ((x,y)::ps) H3
abbrev VV:List (V×V)->List (Value×Value)->Prop:=Paired λp q=>RelV p.1 q.1/\RelV p.2 q.2
def Ut(X:Cx)(pos:Pos)(keys:List (Option Expr))(values:List Expr)(M1:List (TE×TE)):Prop :=
 ∀(pins:List (Addr×Obj)) (s:Shared) (σ:St) (H:Hp) (Q:List (V×V)->Hp->Prop),Inv X pins σ H s->Ai M1 σ H Q ->
  wpAny (model X.prog X.w) X.A (evalPairs (pairTrees keys values X.env pos)) (λvs s'=>∃ps H',Inv X pins σ H' s'/\VV ps vs/\Q ps H') X.xe s
theorem Jk:Ut X pos [] [] []:=λpins s σ H Q I h=>pairTrees_nil_walk ⟨[],H,I,.nil,h⟩
theorem Ek(hk:PE X k tk)(hv:PE X v tv)(hr:Ut X pos ks vs M1) :
  Ut X pos (some k::ks) (v::vs) ((tk,tv)::M1):=λpins s σ H Q I h=>
 pairTrees_cons_walk (cT (hk pins s σ H _ I h) λu s1 ⟨x,H1,I1,rx,q1⟩=>cT (hv pins s1 σ H1 _ I1 q1) λw2 s2 ⟨y,H2,I2,ry,q2⟩=>
  cT (hr pins s2 σ H2 _ I2 q2) λws s3 ⟨ps,H3,I3,rel,q3⟩=>⟨(x,y)::ps,H3,I3,.cons ⟨rx,ry⟩ rel,q3⟩)
def o7(kvs more:List (Key×V)):List (Key×V):=more.foldl (λacc kv=>putK acc kv.1 kv.2) kvs
theorem KV.merge:∀{more:List (Key×V)} {rs:List (Key×Value)} {kvs:List (Key×V)} {vs:List (Key×Value)},KV more rs->KV kvs vs->KV (o7 kvs more) (merged vs rs):=by
 intro more rs kvs vs r;unfold KV at r
 induction r generalizing kvs vs with
 |nil=>intro q;exact q
 |@cons p q ps qs h t ih=>
  intro r0;have e:KV (putK kvs p.1 p.2) (stored vs q.1 q.2):=by have:=r0.put p.1 h.2;rw[<-h.1];exact this
  exact ih e
theorem mE:∀(more kvs:List (Key×V)),(o7 kvs more).length<=kvs.length+more.length
 |[],kvs=>by show kvs.length<=kvs.length+0;omega
 | p::r,kvs=>by
  have h1:=mE r (putK kvs p.1 p.2);have h2:=kB kvs p.1 p.2;show (o7 (putK kvs p.1 p.2) r).length<=_;rw[aaE];omega
theorem rW:∀{kvs:List (Key×V)} {ws:List (Value×Value)},VV (kvs.map λkv=>(kV kv.1,kv.2)) ws->∃rs,Carries (bK P w) ws rs/\KV kvs rs
 |[],_,r=>by rw[map_nil]at r;cases r;exact⟨[],True.intro,.nil⟩
 | p::kvs,_,r=>by
  rw[aaq]at r;cases r with
  |@cons a b as bs h t=>obtain⟨rs,c,q⟩:=rW (P:=P) (w:=w) t;obtain⟨b1,b2⟩:=b;exact⟨(p.1,b2)::rs,⟨uP h.1,rfl,c⟩,.cons ⟨rfl,h.2⟩ q⟩
def Rk(M1:List (TE×TE)):TE:=λσ H Q=>∀p,H p=none->Ai M1 σ (upd H p (.dK [])) λps H2=>H2 p=some (.dK [])/\∃kvs:List (Key×V),ps=kvs.map (λkv=>(kV kv.1,kv.2))/\kvs.length<=15/\Q (.ref p) (upd H2 p (.dK (o7 [] kvs)))
theorem Jl(h:Ut X pos keys values M1)(hall:keys.all (·.isSome)=true)(hl:keys.length=values.length)(h0:keys≠[])
  (YD:keys.length<=15):PE X (.Dict keys values pos) (Rk M1):=by
 intro pins s σ H Q I q;have hn:=I.hok.fresh (aao s.heap.objs.size);have I1:=I.laid (a:=s.heap.objs.size) (o:=.dK []) (h':=s.heap.push { cls:=.type "dict",data:=.dict #[] }) (t':=s.toks) (λ_ _ q=>aai _ q) (aao _) (yf s.heap I.big);refine wpAny_Dict_walk (knd:=bK X.prog X.w) hall hl h0 YD (cT (h pins _ σ _ _ I1 (q _ hn)) λws s2 aS=>?_);obtain⟨ps,H2,I2,rel,e,kvs,ep,lk,q2⟩:=aS;subst ep;obtain⟨rs,c,rk⟩:=rW (P:=X.prog) (w:=X.w) rel;obtain⟨z,hd,vs0,r0,dd⟩:=Bb I2.hok e;cases r0;refine⟨rs,c,dd,λh' MZ hs=>⟨.ref s.heap.objs.size,_,?_,rfl,q2⟩⟩;have hz:(o7 [] kvs).length<=sizeLine:=by have h1:=mE kvs [];rw[length_nil]at h1;rw[sizeLine_eq];omega
 have he:∃q,h'.get? s.heap.objs.size=some q:=let ⟨q,_,_,hq,_⟩:=MZ;⟨q,hq⟩
 exact wz I2 (by rw[e];exact True.intro) hs he (Ei hz hd (rk.merge .nil) MZ)
def YE(H:Hp)(a:Addr):Prop:=(∃kvs,Rd H a (.dK kvs))\/∃kvs,Rd H a (.dT kvs)
theorem El(I:Inv X pins σ H s)(d:YE H a) :
  s.TypeIs (.ref a) "dict" /\ (∀b,Value.ref a=.ref b->∃ob,s.heap.get? b=some ob/\ob.dict=none)/\(a==sysModules)=false:=by
 rcases d with ⟨kvs,e⟩|⟨kvs,e⟩
 ·obtain⟨_,hd,vs,_,dd⟩:=rS I.hok e;refine⟨dd.typeIs,λb q=>?_,hd⟩;cases q;obtain⟨ob,_,_,h1,h2,_⟩:=dd;exact⟨ob,h1,h2.2.1⟩
 ·obtain⟨_,hd,xs,_,dd⟩:=uR I.hok e;refine⟨dd.typeIs,λb q=>?_,hd⟩;cases q;obtain⟨ob,_,_,h1,h2,_⟩:=dd;exact⟨ob,h1,h2.2.1⟩
end L2
namespace WX
open PySem PySem.W PySem.Calls PyProof.Rows
theorem qL:∀(ns:List Int) (vs:List Value),WellAll P h vs (ns.map WData.int)->IntsAre vs ns:=by
 intro ns
 induction ns with
 |nil=>intro vs w;rw[map_nil]at w;cases w;exact .nil
 |cons n ns ih=>
  intro vs w;rw[aaq]at w;cases w with
  |cons a b=>cases a;exact .cons _ _ (ih _ b)
theorem CJ{l:OpenLaw}{n:Nat}(hn:l.most=some n){P:Params}{h:Heap}{args:List WData}{vals:List Value}
  (hpre:l.row.toRowW.claim.pre args=true) (hwl:WellAll P h vals args) :
  ∃a vs ns,vals=[Value.ref a]/\args=[WData.list (ns.map WData.int)]/\h.get? a=some { cls:=.type "list",data:=.seq vs.toArray }/\IntsAre vs ns/\ns.length<=n:=by
 have hsh:WShape.hasAll [] args [.list .int]=true:=(pre_splitW hpre).1;have hc:l.pre.holds [] { args:=args }=true:=(pre_splitW hpre).2;obtain⟨d,r,rfl,h1,h2⟩:=hasAllW_cons hsh;obtain rfl:=hasAllW_nil h2;obtain⟨xs,rfl,h3⟩:=hasW_list h1;obtain⟨ns,rfl⟩:=items_int h3;have hlen:ns.length<=n:=by
  unfold OpenLaw.pre at hc;have h4:(WTm.not (.lt (.lit (.int (n:Int))) (.len (.arg 0)))).holds [] { args:=[.list (ns.map .int)] }=true:=by have h4:=(holds_andW hc).1;rw[hn]at h4;exact h4
  have h5:=condW_of h4 (w_not (w_lt w_lit (w_len_list (w_arg rfl))));rw[aae]at h5;refine Nat.le_of_not_lt λq=>?_;have q':(n:Int)<((ns.length:Nat):Int):=by omega
  first
   |(rw[decide_eq_true q']at h5;exact absurd h5 (by decide))
   |(simp at h5;omega)
 cases hwl with
 |cons w1 w2=>
  cases w2;cases w1 with
  |list ho hall=>exact⟨_,_,ns,rfl,rfl,ho,qL ns _ hall,hlen⟩
theorem CK(l:OpenLaw)(args:List WData):l.row.toRowW.claim.post args (.bool true) args=true :=
 postW_of (r:=l.row.toRowW) (X:=(true==true))
  (show WShape.has [] (.bool true) .bool=true by first|rfl|decide|simp[WShape.has,WShape.arms,WShape.armsAll])
  (show (WTm.eq .res (.lit (.bool true))).value [] { args:=args,res:=some (.bool true),after:=args }=some (.bool (true==true)) from w_eq_bool (w_res rfl) w_lit) rfl
theorem yg{l:OpenLaw}{n:Nat}{q:Program}{loose:List Str}{XP:(Str->Option Value)->Heap->Prop}{YP:World->Heap->Prop}{d:DefRec}
  (hn:l.most=some n) (hdf:d.params.defaults=[])
  (call:∀(w:World) (s₀ s₁:Shared) (mg mb:Str->Option Value) (fa:Addr) (o:Obj) (pm cd doc:Value) (a:Addr) (vs:List Value) (ns:List Int),
   Ground q loose [] XP w s₀ mg mb s₁.heap->YP w s₁.heap ->
   s₁.heap.get? fa=some o->o.data=.func (docDef d.name d.params d.body d.scope pm cd doc)->s₁.heap.CodeRec cd d.name->mg d.name=some (.ref fa) ->
   s₁.heap.get? a=some { cls:=.type "list",data:=.seq vs.toArray }->IntsAre vs ns->ns.length<=n->s₁.gens = #[] ->
   codeAny (model l.prog w) callerA (.call (.ref fa) ⟨[.ref a],[]⟩) (λr s'=>r=.ok (.ret (.bool true))/\OldK s₁.heap s'.heap/\s'.os=s₁.os/\AllBare s'.gens) s₁) :
  WalkO q loose XP YP l.row.toRowW d [] (λf vs=>PySem.call f vs):=by
 intro w s₀ s₁ mg mb G Y fa o pm cd doc dV kV ho hd hcd hD hmg hg args vals as hpre hlay hrd hwl hlo;obtain rfl:dV=.none:=Dflts.none hD hdf;obtain rfl:kV=.none:=Dflts.noKw hD;obtain⟨a,vs,ns,rfl,rfl,hobj,hints,hlen⟩:=CJ hn hpre hwl;refine enter_call (codeAny_mono (call w s₀ s₁ mg mb fa o pm cd doc a vs ns G Y ho (fd_plain hd) hcd hmg hobj hints hlen hg) λr s' hq=>?_);obtain⟨rfl,h2,h3,h4⟩:=hq;exact⟨.inl ⟨.bool true,.bool true,[],rfl,λ_=>rfl,.bool true,CK l _,λ_=>⟨List.Pairwise.nil,λ_ hm=>(nomatch hm)⟩⟩,h2,h3,h4⟩
end WX
namespace L2
open PySem PySem.Spec PyProof.Rows
theorem jz:∀{vs:List Value} {ns:List Int},IntsAre vs ns->Vals (ns.map V.int) vs
 |_,_,.nil=>.nil
 |_,_,.cons n t h=>.cons ⟨t,rfl⟩ (jz h)
def Em(H:Hp):Prop:=∀b,H b=none\/∃o xs,H b=some (.v9 o (.lst xs))
theorem En{P:Program}{w:World}{K:Frag}{mg mb:Str->Option Value}{CX:CF}{k:Nat}{fa a:Addr}{fd:FuncData}{x:Str}{sp:Sp}{s₁:Shared}{vs:List Value}{ns:List Int}
  (KX:K.In s₁.heap) (hns:s₁.heap.Ns mainGlobals mg) (hb:s₁.heap.Ns builtinsNs mb) (YF:∀x:Str,x ≠ "__name__" -> mb x=bootBuiltins x) (hlim:s₁.heap.NoLimit) (hg:s₁.gens = #[])
  (ha:s₁.heap.get? a=some { cls:=.type "list",data:=.seq vs.toArray }) (hi:IntsAre vs ns) (hl:ns.length<=sizeLine) (hr:eZ k callerA)
  (F:∀base:Heap,K.In base->base.Ns mainGlobals mg->fZ P w K mg base CX k fa fd [x] sp) (hbind:∀(s:Shared) (u:Value),BindsTo s fd ⟨[u],[]⟩ [(x,u)])
  (hsp:∀H:Hp,Em H->j4 K H a (ns.map V.int)->sp [.ref a] H (λv _=>v=.bl true) λ_ _ _=>False)
  (hCX:∀H e s',CX [] H s₁ (λ_ _ _=>False) e s'->False) :
  codeAny (model P w) callerA (.call (.ref fa) ⟨[.ref a],[]⟩) (λr s'=>r=.ok (.ret (.bool true))/\OldK s₁.heap s'.heap/\s'.os=s₁.os/\AllBare s'.gens) s₁:=by
 have rv:=jz hi;have Vu:=hi.length;have core:∀H:Hp,Em H->j4 K H a (ns.map V.int)->mT P w H s₁.heap->(∀b,H b≠none->b=a)->(H a≠none->K.lookup a=none) ->
   codeAny (model P w) callerA (.call (.ref fa) ⟨[.ref a],[]⟩) (λr s'=>r=.ok (.ret (.bool true))/\OldK s₁.heap s'.heap/\s'.os=s₁.os/\AllBare s'.gens) s₁:=by
  intro H hO hS hok hA hK;have base_of:∀{b:Addr} {o:Obj},s₁.heap.get? b=some o->H b=none->(wc s₁.heap H).get? b=some o:=λe n=>DP e n;have noA:∀{b:Addr} {o:Obj} {es:Array DictEntry} {ep:Nat},s₁.heap.get? b=some o->o.data=.dict es ep->H b=none:=λ{b o es ep} e d=>by
   cases q:H b with
   |none=>rfl
   |some u=>have e':b=a:=hA b (by rw[q];simp);subst e';rw[ha]at e;cases e;have d':Data.seq vs.toArray _=Data.dict es ep:=d;cases d'
  have nsK:∀{b:Addr} {m:Str->Option Value},s₁.heap.Ns b m->(wc s₁.heap H).Ns b m:=λ{b m} ⟨o,es,ep,e,d,r⟩=>⟨o,es,ep,base_of e (noA e d),d,r⟩;have WY:K.In (wc s₁.heap H):=λb o e=>base_of (KX b o e) (by
   cases q:H b with
   |none=>rfl
   |some u=>have e':b=a:=hA b (by rw[q];simp);subst e';rw[hK (by rw[q];simp)]at e;cases e)
  have hM:Mod K mg (wc s₁.heap H):=⟨WY,nsK hns,⟨mb,nsK hb,YF⟩,let ⟨mc,h1,h2⟩:=hlim;⟨mc,nsK h1,h2⟩⟩;have e0:Ae P w K mg (wc s₁.heap H) callerA [] s₁ H:=⟨rfl,hM,λb o e=>ID e,Nat.le_of_eq (Ct _ _),trivial,λb hb=>absurd (show b∈([]:List Addr) from hb) (by simp),hok,.of_eq hg⟩;refine codeAny_mono ((F _ WY (nsK hns)).run callerA [] s₁ H ⟨[.ref a],[]⟩ [.ref a] [.ref a] _ _ hr e0 (hbind s₁ (.ref a)) #[rfl] (hsp H hO hS)) λr s' h=>?_;cases r with
  |error e=>exact(hCX H e s' h).elim
  |ok fl=>
   cases fl with
   |next=>exact False.elim h
   |brk=>exact False.elim h
   |cont=>exact False.elim h
   |ret u=>
    obtain⟨v,H',os,bare,un,Vv,r',q⟩:=h;have q':v=.bl true:=q;subst q';obtain rfl:u=Value.bool true:=r';refine⟨rfl,OldK.of_keep λb o e=>?_,os,bare⟩;cases q:H b with
    |none=>exact un.keep b o e q (by intro z;exact absurd (show b∈([]:List Addr) from z) (by simp)) (by simp)
    |some u=>
     rcases hO b with z|⟨ob,xs,z⟩
     ·rw[q]at z;cases z
     ·have z2:=un.frzs b ob _ z;obtain⟨e1,_⟩:=hok b _ z;obtain⟨e2,_⟩:=Vv b _ z2;rw[e]at e1;cases e1;exact e2
 cases hk:K.lookup a with
 |some o=>have e:=KX a o hk;rw[ha]at e;cases e;refine core (λ_=>none) (λ_=>.inl rfl) (.inr ⟨_,vs.toArray,_,hk,rfl,rfl,rfl,by rw[aay,Vu];exact hl,by simpa using rv⟩) (λb u z=>by have z':(none:Option HO)=some u:=z;cases z') (λb z=>absurd rfl z) λz=>absurd rfl z
 |none=>
  refine core (λb=>if b=a then some (.v9 { cls:=.type "list",data:=.seq vs.toArray } (.lst (ns.map V.int))) else none) (λb=>?_) (.inl (.inr ⟨{ cls:=.type "list",data:=.seq vs.toArray },aak rfl⟩)) (λb u z=>?_) (λb z=>?_) λ_=>hk
  ·by_cases hb:b=a
   ·exact .inr ⟨_,_,aak hb⟩
   ·exact .inl (aam hb)
  ·by_cases hb:b=a
   ·have z':=(aak hb).symm.trans z;cases z';subst hb;exact⟨ha,by rw[aae];exact hl,vs,_,rv,ha⟩
   ·have z':=(aam hb).symm.trans z;cases z'
  ·by_cases hb:b=a
   ·exact hb
   ·exact absurd (aam hb) z
theorem Jm{l:PySem.W.OpenLaw}{n k:Nat}{q:Program}{loose:List Str}{XP:(Str->Option Value)->Heap->Prop}{YP:World->Heap->Prop}{d:DefRec}{K:Params->Frag}{CX:World->CF}{sp:World->Sp}{x:Str}
  (hn:l.most=some n) (hn2:n<=sizeLine) (hdf:d.params.defaults=[]) (hr:eZ k callerA)
  (hY:∀(w:World) (h:Heap),YP w h->(K w.params).In h)
  (F:∀(w:World) (mg:Str->Option Value) (fa:Addr) (h:Heap),(K w.params).In h->h.Ns mainGlobals mg->mg d.name=some (.ref fa) ->
   ∃fd:FuncData,(∀(s:Shared) (u:Value),BindsTo s fd ⟨[u],[]⟩ [(x,u)]) /\
    ∀base:Heap,(K w.params).In base->base.Ns mainGlobals mg->fZ l.prog w (K w.params) mg base (CX w) k fa fd [x] (sp w))
  (hsp:∀(w:World) (H:Hp) (a:Addr) (ns:List Int),ns.length<=n->Em H->j4 (K w.params) H a (ns.map V.int)->sp w [.ref a] H (λv _=>v=.bl true) λ_ _ _=>False)
  (hCX:∀(w:World) (H:Hp) (s:Shared) (e:Value) (s':Shared),CX w [] H s (λ_ _ _=>False) e s'->False) :
  PySem.W.WalkO q loose XP YP l.row.toRowW d [] (λf vs=>PySem.call f vs):=by
 refine WX.yg hn hdf λw s₀ s₁ mg mb fa o pm cd doc a vs ns G Y ho hd hcd hmg hobj hints hlen hg=>?_;have KX:=hY w _ Y;obtain⟨fd,hb,hF⟩:=F w mg fa _ KX G.T.g hmg;exact En KX G.T.g G.T.b G.T.builtins G.T.nolimit hg hobj hints (aaN hlen hn2) hr hF hb (λH hO hS=>hsp w H a ns hlen hO hS) λH e s'=>hCX w H s₁ e s'
def nM(s:Stmt):Arguments:=match s with
 |.FunctionDef _ a _ _ _ _ _ _ _ _=>a
 |_=>{ posonlyargs:=[],args:=[],vararg:=none,kwonlyargs:=[],kw_defaults:=[],kwarg:=none,defaults:=[] }
def aG(s:Stmt):List Stmt:=match s with
 |.FunctionDef _ _ b _ _ _ _ _ _ _=>b
 |_=>[]
def ah(s:Stmt):Scope:=match s with
 |.FunctionDef _ _ _ _ _ _ sc _ _ _=>sc
 |_=>{ kind:=.function,names:=[],isGenerator:=false,isCoroutine:=false }
abbrev zW:CF:=λ_ _ _ _ _ _=>False
abbrev E0:XK:=λ_ _ _=>False
theorem rX:Passes zW X E0:=λ_ _ _ _ _ _ _ h=>h.elim
structure Io (K:Frag) (x qual:Str) (st:Stmt) (f:Addr) (fd:FuncData):Prop where
 ex:∃(oc:Value) (od:Option Addr) (kV doc pm:Value) (an:Option Addr) (cdv ct:Value) (osl:Array (Option Value)),
  fd=fnOf x qual (nM st) (aG st) (ah st) .none kV doc pm an cdv ct/\K.lookup f=some ⟨oc,od,.func fd,osl⟩/\codeIn K cdv qual=true
 kp:keepIn K (.ref f)=true
section
variable {P:Program} {w:World} {K:Frag} {mg:Str->Option Value} {base:Heap}
theorem Io.ok{x qual:Str}{st:Stmt}{f:Addr}{fd:FuncData}{N ps:List Str}{k:Nat}{sp:Sp}(F:Io K x qual st f fd)(S:qV N ps (ah st))(len:∀vs H Q E,sp vs H Q E->vs.length=ps.length)
  (hbody:∀(cdv:Value) (A:Around) (outer:List Env) (s:Shared) (H:Hp) (vs:List V) (Q:VK) (E:XK),eZ k (A.deeper (envOfC qual (ah st) s.heap.objs.size f cdv))->sp vs H Q E ->
   ∃t,zV (Af zW P w K mg base N qual (ah st) f cdv A outer s H E).QK (aG st) t/\t { nx:=λ_ H'=>Q .non H',rt:=Q } (start N vs) H):fZ P w K mg base zW (k+1) f fd ps sp:=by
 obtain⟨oc,od,kV,doc,pm,an,cdv,ct,osl,rfl,lk,hcd⟩:=F.ex;refine Rb lk hcd S len λA outer s H vs Q E hr hsp=>?_;obtain⟨t,h,q⟩:=hbody cdv A outer s H vs Q E hr hsp;exact⟨t,h.QK,q⟩
theorem Io.binds{x qual:Str}{st:Stmt}{f:Addr}{fd:FuncData}{ps:List Str}(F:Io K x qual st f fd)
  (h:∀(kV doc pm:Value) (an:Option Addr) (cdv ct:Value) (us:List Value),us.length=ps.length->bindArgs (fnOf x qual (nM st) (aG st) (ah st) .none kV doc pm an cdv ct) ⟨us,[]⟩=pure (ps.zip us)):Binds K fd ps []:=by
 obtain⟨oc,od,kV,doc,pm,an,cdv,ct,osl,rfl,lk,hcd⟩:=F.ex;exact .all (h kV doc pm an cdv ct)
theorem fun_mk{x qual:Str}{st:Stmt}{f:Addr}{oc:Value}{od an:Option Addr}{osl:Array (Option Value)}{kV doc pm cdv ct:Value}(l:K.lookup f=some ⟨oc,od,.func (fnOf x qual (nM st) (aG st) (ah st) .none kV doc pm an cdv ct),osl⟩)
  (c:codeIn K cdv qual=true) (k:keepIn K (.ref f)=true):Io K x qual st f (fnOf x qual (nM st) (aG st) (ah st) .none kV doc pm an cdv ct):=⟨⟨oc,od,kV,doc,pm,an,cdv,ct,osl,rfl,l,c⟩,k⟩
end
section
variable {X:Cx}
theorem CL:eV X (.builtin "len") (λxs H Q=>∃a kvs,xs=[V.ref a]/\H a=some (.dK kvs)/\Q (.int kvs.length) H):=by
 intro pins s σ H xs us Q I r h;obtain⟨a,kvs,rfl,ha,q⟩:=h;obtain⟨u,rfl,ru⟩:=vals1 r;cases ru;exact Rj I (.inl ha) λt s' I'=>⟨.int kvs.length,H,I',⟨t,rfl⟩,q⟩
end
def Aj(H H':Hp):Prop:=∀b o,H b=some o->H' b=some o
theorem Aj.seq{K:Frag}{H H':Hp}{a:Addr}{xs:List V}(e:Aj H H')(h:j4 K H a xs):j4 K H' a xs:=by
 rcases h with (h|⟨o,h⟩)|h
 ·exact .inl (.inl (e _ _ h))
 ·exact .inl (.inr ⟨o,e _ _ h⟩)
 ·exact .inr h
section
variable {κ:Type} [DecidableEq κ]
theorem e9:∀{l:List κ} {k:κ},l.Nodup->¬ k∈l->(l++[k]).Nodup
 |[],k,_,_=>by simp
 | a::r,k,h,hk=>by
  obtain⟨h1,h2⟩:=aaI.mp h;show (a::(r++[k])).Nodup;refine aaI.mpr ⟨λm=>?_,e9 h2 λm=>hk (aaw.mpr (Or.inr m))⟩
  rcases aas.mp m with q|q
  ·exact h1 q
  ·exact hk (aaw.mpr (Or.inl (aap.mp q).symm))
end
theorem mV(env:Env):∀(names:List (Str×NameKind)) (acc:List (Str×Addr)),(∀y∈names,y.2=.free->∃c,env.cells.lookup y.1=some c) ->
  (∀x c,acc.lookup x=some c->env.cells.lookup x=some c) ->
  ∃cl,(forIn names acc λx r=>if (x.snd==NameKind.free)=true then do let c <-cellOf env x.fst;pure (ForInStep.yield ((x.fst,c)::r)) else pure (ForInStep.yield r))=(pure cl:Sem (List (Str×Addr))) /\
   (∀x c,cl.lookup x=some c->env.cells.lookup x=some c)/\∀x,((x,NameKind.free)∈names\/∃c,acc.lookup x=some c)->∃c,cl.lookup x=some c
 |[],acc,_,ha=>⟨acc,rfl,ha,λx h=>h.elim (λz=>nomatch z) λz=>z⟩
 | (n,k)::r,acc,hn,ha=>by
  have hr:∀y∈r,y.2=NameKind.free->∃c,env.cells.lookup y.1=some c:=λy hy=>hn y (aac _ hy)
  by_cases hk:k=.free
  ·subst hk
   obtain⟨c,hc⟩:=hn (n,.free) aag rfl;have ha':∀x d,((n,c)::acc).lookup x=some d->env.cells.lookup x=some d:=λx d h=>by
    rw[aaV]at h;cases e:x==n with
    |true=>rw[e]at h;have e':x=n:=eq_of_beq e;cases h;rw[e'];exact hc
    |false=>rw[e]at h;exact ha x d h
   obtain⟨cl,e1,e2,e3⟩:=mV env r ((n,c)::acc) hr ha';refine⟨cl,?_,e2,λx h=>?_⟩
   ·rw[List.forIn_cons]
    have hco:cellOf env n=pure c:=by unfold cellOf;rw[hc]
    simp only[beq_self_eq_true,if_true,hco];exact e1
   ·by_cases hx:x=n
    ·subst hx;exact e3 x (.inr ⟨c,by simp[lookup_cons]⟩)
    ·rcases h with h|⟨d,h⟩
     ·rcases aaw.mp h with z|z
      ·exact absurd (congrArg Prod.fst z) hx
      ·exact e3 x (.inl z)
     ·refine e3 x (.inr ⟨d,?_⟩);rw[aaV];have:(x==n)=false:=aaT.mpr hx;rw[this];exact h
  ·have hb:(k==NameKind.free)=false:=aaT.mpr hk
   obtain⟨cl,e1,e2,e3⟩:=mV env r acc hr ha;refine⟨cl,?_,e2,λx h=>e3 x ?_⟩
   ·rw[List.forIn_cons];simp only[hb,false_eq_true,if_false];exact e1
   ·rcases h with h|h
    ·rcases aaw.mp h with z|z
     ·cases z;exact absurd rfl hk
     ·exact .inl z
    ·exact .inr h
theorem rY(h:∀y∈scope.names,y.2=.free->∃c,env.cells.lookup y.1=some c) :
  ∃cl,closureFor scope env=pure cl/\(∀x c,cl.lookup x=some c->env.cells.lookup x=some c)/\∀x,(x,NameKind.free)∈scope.names->∃c,cl.lookup x=some c:=by
 obtain⟨cl,e1,e2,e3⟩:=mV env scope.names [] h (λx c z=>by simp at z);refine⟨cl,?_,e2,λx hx=>e3 x (.inl hx)⟩;unfold closureFor;simp only[bind_pure];exact e1
def bS(X:Cx)(scope:Scope)(N':List Str)(cl:List (Str×Addr))(C:Addr)(s:Shared)(H:Hp)(fp:List Addr):Cx :=
 { prog:=X.prog,w:=X.w,K:=X.K,mg:=X.mg,base:=X.base,A:=X.A,N:=N',s₀:=s,H₀:=H,env:=compEnvC scope cl C X.env,outer:=X.stack,stack:=X.stack,ex:=fp,fn:=λ_=>false,calm:=X.calm,pn:=[],xe:=λ_ _=>False }
def jQ(js:List (Option Nat))(σ:St):St:=js.map λo=>match o with
 |none=>none
 | some j=>match σ[j]? with
  |some (some v)=>some v
  |_=>none
def wD(sc:Scope)(x:Str):Bool:=sc.names.lookup x==some .cell||sc.names.lookup x==some .free
def lM(XN:List Str)(xsc scope:Scope)(N':List Str)(js:List (Option Nat)):Bool :=
 scope.kind==.function&&(scope.names.all λy=>y.2 != .local||scope.names.lookup y.1==some .local)&&(scope.names.all λy=>y.2 != .cell) &&
 (scope.names.all λy=>y.2 != .free||(wD xsc y.1&&scope.names.lookup y.1==some .free))&&js.length==N'.length &&
 ((N'.zip js).all λp=>match p.2 with|none=>true|some j=>XN[j]?==some p.1&&scope.names.lookup p.1==some .free)
structure wF (X:Cx) (scope:Scope) (N':List Str) (js:List (Option Nat)):Prop where
 kind:scope.kind=.function
 names:∀y∈scope.names,y.2=.local->scope.names.lookup y.1=some .local
 Eo:∀y∈scope.names,y.2≠.cell
 free:∀y∈scope.names,y.2=.free->wD X.env.scope y.1=true/\scope.names.lookup y.1=some .free
 len:js.length=N'.length
 src:∀(i:Nat) (x:Str) (j:Nat),N'[i]?=some x->js[i]?=some (some j)->X.N[j]?=some x/\scope.names.lookup x=some .free
theorem uS(h:lM X.N X.env.scope scope N' js=true):wF X scope N' js:=by
 unfold lM at h;simp only[and_eq_true,all_eq_true]at h;obtain⟨⟨⟨⟨⟨h1,h2⟩,h3⟩,h4⟩,h5⟩,h6⟩:=h;refine⟨eq_of_beq h1,λy hy e=>?_,λy hy e=>?_,λy hy e=>?_,eq_of_beq h5,λi x j e1 e2=>?_⟩
 ·have:=h2 y hy;rw[e]at this;simpa using this
 ·have:=h3 y hy;rw[e]at this;simp at this
 ·have:=h4 y hy;rw[e]at this;simpa using this
 ·have hm:(x,some j)∈N'.zip js:=by
   refine List.mem_iff_getElem?.mpr ⟨i,?_⟩;rw[List.getElem?_zip_eq_some];exact⟨e1,e2⟩
  have:=h6 _ hm;simpa using this
theorem mF(js:List (Option Nat))(σ:St):(jQ js σ).length=js.length:=by unfold jQ;rw[aae]
def Jo(X:Cx)(ifs:List Expr)(t:TT):Prop :=
 ∀(pins:List (Addr×Obj)) (s:Shared) (σ:St) (H:Hp) (Q:Bool->Hp->Prop),Inv X pins σ H s->t σ H Q ->
  wpAny (model X.prog X.w) X.A (forIn ifs true λc r=>if r=true then do let ok <-isTrue c X.env (eval c X.env);pure (ForInStep.yield ok) else pure (ForInStep.yield r)) (TP X pins σ Q) X.xe s
def yh:TT:=λ_ H Q=>Q true H
theorem Jp:Jo X [] yh:=λ_ _ _ H _ I h=>wpAny_tests_nil ⟨H,I,h⟩
theorem Jq(h:PT X c t):Jo X [c] t:=λpins s σ H Q I hw=>wpAny_tests_one (h pins s σ H Q I hw)
def Ep(wi:TI)(js:List (Option Nat))(g:TG)(tt:TT)(te:TE):TE:=λσ H Q=>wi σ H λJ H1=>∀D,H1 D=none->∃W:Nat->Nat->St->Hp->Prop,(∃m,W 0 m (jQ js σ) (upd H1 D (.lst []))) /\
 ∀i m σ' H,W i m σ' H->(J.stop i H/\Q (.ref D) H)\/(J.go i H/\∃N:St->Hp->Prop,(∀CM H',N CM H'->∃m',m'<m/\W (i+1) m' CM H') /\
  ∀x H',J.DG i H x H'->g x σ' H' λσ2 H2=>tt σ2 H2 λb H3=>if b=true then te σ2 H3 λy H4=>∃ys,H4 D=some (.lst ys)/\ys.length<sizeLine/\N σ2 (upd H4 D (.lst (ys++[y]))) else N σ2 H3)
theorem ur(hc:∀y∈scope.names,y.2≠.cell)
  (h:(relabel scope env).names.lookup x=some .cell\/(relabel scope env).names.lookup x=some .free):(x,NameKind.free)∈scope.names:=by
 unfold relabel at h;simp only at h;generalize scope.names=ns at hc h
 induction ns with
 |nil=>simp at h
 |cons p r ih=>
  obtain⟨n,k⟩:=p;have hc':∀y∈r,y.2≠.cell:=λy hy=>hc y (aac _ hy);simp only[map_cons]at h;cases hx:x==n with
  |true=>
   have e':x=n:=eq_of_beq hx;subst e'
   by_cases hk:k=.free
   ·subst hk;exact aag
   ·have hk2:=hc (x,k) aag
    have hb:(k==NameKind.free)=false:=aaT.mpr hk;rw[hb]at h;simp only[Bool.false_and,false_eq_true,if_false,lookup_cons,beq_self_eq_true]at h
    rcases h with h|h
    ·exact absurd (aaZ h) hk2
    ·exact absurd (aaZ h) hk
  |false=>
   refine aac _ (ih hc' ?_)
   by_cases hk:(k==NameKind.free&&env.scope.kind==.function&&env.kindOf n==some .cell)=true
   ·rw[aak hk]at h;simp only[lookup_cons,hx]at h;exact h
   ·rw[aam hk]at h;simp only[lookup_cons,hx]at h;exact h
theorem wG(h:scope.names.lookup x=some .free) :
  (relabel scope env).names.lookup x=some .cell\/(relabel scope env).names.lookup x=some .free:=by
 unfold relabel;simp only;generalize scope.names=ns at h
 induction ns with
 |nil=>simp at h
 |cons p r ih=>
  obtain⟨n,k⟩:=p;simp only[map_cons];cases hx:x==n with
  |true=>
   simp only[lookup_cons,hx]at h;have hk:=aaZ h;subst hk
   by_cases hk:(NameKind.free==NameKind.free&&env.scope.kind==.function&&env.kindOf n==some .cell)=true
   ·rw[aak hk];simp[lookup_cons,hx]
   ·rw[aam hk];simp[lookup_cons,hx]
  |false=>
   simp only[lookup_cons,hx]at h
   by_cases hk:(k==NameKind.free&&env.scope.kind==.function&&env.kindOf n==some .cell)=true
   ·rw[aak hk];simp only[lookup_cons,hx];exact ih h
   ·rw[aam hk];simp only[lookup_cons,hx];exact ih h
section
variable {X:Cx} {pins:List (Addr×Obj)} {σ:St} {scope:Scope} {N':List Str} {js:List (Option Nat)}
theorem rZ(ok:wF X scope N' js)(xo:X.Ok):∀y∈scope.names,y.2=.free->∃c,X.env.cells.lookup y.1=some c:=λy hy e=>by
 have:=(ok.free y hy e).1;unfold wD at this;rw[or_eq_true]at this;refine xo.has y.1 ?_
 rcases this with z|z
 ·exact .inl (eq_of_beq z)
 ·exact .inr (eq_of_beq z)
theorem Ak{tk:Nat}(ok:wF X scope N' js)(I:Inv X pins σ H s)
  (hcl1:∀x c,cl.lookup x=some c->X.env.cells.lookup x=some c) (hcl2:∀x,(x,NameKind.free)∈scope.names->∃c,cl.lookup x=some c)
  (hfp:∀b∈fp,rG X pins H b) (hlt:∀b∈fp,b<s.heap.objs.size)
  (hns:h'.Ns s.heap.objs.size (λ_=>none)) (hk:∀b o,s.heap.get? b=some o->h'.get? b=some o) :
  Inv (bS X scope N' cl s.heap.objs.size s H fp) [] (jQ js σ) H { s with heap:=h',toks:=tk }:=by
 have cellK:∀x c,cl.lookup x=some c->∃v,s.heap.IsCell c v:=λx c e=>I.cell x c (hcl1 x c e);have hCf:H s.heap.objs.size=none:=I.hok.fresh (aao _);refine⟨⟨I.ok.mod,ok.kind,I.ok.glob,I.ok.blt,aao _,λx y c e1 e2=>I.ok.inj x y c (hcl1 x c e1) (hcl1 y c e2),λx hx=>hcl2 x (ur ok.Eo hx),λx c hf _=>absurd hf (by intro z;cases z),I.ok.hd,I.ok.frames,.inl rfl,
   λb hb=>⟨aaJ (hlt b hb),λx c e z=>?_⟩,I.bs,aaN I.ok.Lm I.sz,λb o e hb=>?_,λb hb hs=>?_,I.stack,I.AU⟩,rfl,I.bare,Un.kept hk,⟨_,hns,λi x v e1 e2 e3=>?_⟩,λx c e=>?_,hCf,λx c e=>I.kq x c (hcl1 x c e),
   λp hp=>absurd (show p∈([]:List (Addr×Obj)) from hp) (by simp),I.hok.kept hk,?_⟩
 ·exact(hfp b hb).2.2.2.2.1 x c (hcl1 x c e) z
 ·rcases(hfp b hb).2.2.2.1 with z|z
  ·exact I.ok.mU b o e z
  ·exact absurd (aaz (aau (I.ok.bs b o e).1) z) (lt_irrefl _)
 ·rcases aaw.mp (I.z4 b hs) with z|z
  ·exact(hfp b hb).2.1 z
  ·exact(hfp b hb).2.2.1 z
 ·-- a name YG has a value: one of the def around
  have Ip:(jQ js σ)[i]?=some (some v):=e2;unfold jQ at Ip;rw[aaF] at Ip;cases hj:js[i]? with
  |none=>rw[hj] at Ip;cases Ip
  |some o=>
   rw[hj] at Ip;cases o with
   |none=>simp at Ip
   |some j=>
    obtain⟨hN,hf⟩:=ok.src i x j e1 hj;cases hs:σ[j]? with
    |none=>simp[hs] at Ip
    |some ov=>
     cases ov with
     |none=>simp[hs] at Ip
     |some v'=>
      simp[hs] at Ip;subst Ip;have hfr:=(ok.free (x,.free) (PySem.mem_of_lookup hf) rfl).1;unfold wD at hfr;rw[or_eq_true]at hfr;have Rm:X.env.scope.names.lookup x=some .cell\/X.env.scope.names.lookup x=some .free:=hfr.imp eq_of_beq eq_of_beq;obtain⟨m,_,hl⟩:=I.loc;obtain⟨u,r,l⟩:=hl j x v' hN hs (.inr Rm);refine⟨u,r,.inr ⟨wG hf,?_⟩⟩
      rcases l with ⟨k,_⟩|⟨_,c,e,z⟩
      ·have k':X.env.scope.names.lookup x=some .local:=k
       rcases Rm with q|q<;>(rw[q]at k';cases k')
      ·obtain⟨d,hd⟩:=hcl2 x (PySem.mem_of_lookup hf);have e':=hcl1 x d hd;rw[e]at e';cases e';obtain⟨oc,hoc,DR⟩:=z;exact⟨c,hd,oc,hk _ _ hoc,DR⟩
 ·obtain⟨v,oc,hoc,DR⟩:=cellK x c e;exact⟨v,oc,hk _ _ hoc,DR⟩
 ·rw[mF];exact ok.len
theorem CN(I:Inv X pins σ H s)(hfp:∀b∈fp,rG X pins H b)
  (J:Inv (bS X scope N' cl C s H fp) [] σ' H' s'):Inv X pins σ H' s' :=
 I.QE (ch:=fp) J.os J.base J.hok J.bare λb hb=>⟨(hfp b hb).2.2.2.1,(hfp b hb).2.1,(hfp b hb).2.2.2.2.1,(hfp b hb).2.2.2.2.2⟩
end
section
variable {X:Cx} {scope:Scope} {N':List Str} {js:List (Option Nat)} {tg elt iter:Expr} {ifs:List Expr} {pos:Pos} {wi:TI} {g:TG} {tt:TT} {te:TE}
theorem yi{pins:List (Addr×Obj)}{σ:St}{H2:Hp}{s2:Shared}{it:Addr}{fp:List Addr}{tn:Nat->Heap->Prop}{J:It}{cl:List (Str×Addr)}{E:Value->Shared->Prop}{RR:Value->Addr->Result->Shared->Prop}{Q:VK}
  (ok:wF X scope N' js) (hc:X.calm=true) (I2:Inv X pins σ H2 s2) (T:Turn X.prog X.w X.K tg J fp it tn) (st2:tn 0 s2.heap) (f2:∀b∈fp,rG X pins H2 b)
  (hcl1:∀x c,cl.lookup x=some c->X.env.cells.lookup x=some c) (hcl2:∀x,(x,NameKind.free)∈scope.names->∃c,cl.lookup x=some c)
  (hg:∀cl C s H fp,PG (bS X scope N' cl C s H fp) tg g) (ht:∀cl C s H fp,Jo (bS X scope N' cl C s H fp) ifs tt) (he:∀cl C s H fp,PE (bS X scope N' cl C s H fp) elt te)
  (rd:∀D,H2 D=none->∃W:Nat->Nat->St->Hp->Prop,(∃m,W 0 m (jQ js σ) (upd H2 D (.lst []))) /\
   ∀i m σ' H,W i m σ' H->(J.stop i H/\Q (.ref D) H)\/(J.go i H/\∃N:St->Hp->Prop,(∀CM H',N CM H'->∃m',m'<m/\W (i+1) m' CM H') /\
    ∀x H',J.DG i H x H'->g x σ' H' λσ2 H2=>tt σ2 H2 λb H3=>if b=true then te σ2 H3 λy H4=>∃ys,H4 D=some (.lst ys)/\ys.length<sizeLine/\N σ2 (upd H4 D (.lst (ys++[y]))) else N σ2 H3))
  (hRR:∀(D C:Addr) (s':Shared) (H':Hp) (m:Str->Option Value),s2.heap.objs.size<=C->Inv X pins σ H' s'->H' C=none->s'.heap.Ns C m->Q (.ref D) H'->RR (.ref D) C (.ok .next) s') :
  wpAny (model X.prog X.w) X.A (newList []) (λacc s₃=>wpAny (model X.prog X.w) X.A (newFunctionEnv scope X.env.globals cl [] X.env.qual none .none (some X.env)) (λcenv s₄=>
   codeAny (model X.prog X.w) X.A (.compStart (.ListComp elt [⟨tg,iter,ifs,0⟩] scope pos) 0 (.ref it) acc { cenv with scope:=relabel scope X.env }) (RR acc cenv.locals) s₄) E s₃) E s2:=by
 have hD:H2 s2.heap.objs.size=none:=I2.hok.fresh (aao _);refine aa0 (wpAny_newFunctionEnv ok.Eo (by intro y hy;simp at hy) (λh₁ Rn Ro=>?_) ok.kind);dsimp only at Rn Ro |-;have I3:Inv X pins σ (upd H2 s2.heap.objs.size (.lst [])) { s2 with heap:=s2.heap.push { cls:=.type "list",dict:=none,data:=.seq ([]:List Value).toArray },toks:=s2.toks } :=
  I2.laid (t':=s2.toks) (λb u e=>aai _ e) (aao _) ⟨by simp,[],0,.nil,aaA _ rfl⟩
 generalize Rp:({ s2 with heap:=s2.heap.push { cls:=.type "list",dict:=none,data:=.seq ([]:List Value).toArray },toks:=s2.toks }:Shared)=s3 at I3;have hsz:s3.heap.objs.size=s2.heap.objs.size+1:=by rw[<-Rp];exact size_push ..
 have eC:(s2.heap.push { cls:=.type "list",dict:=none,data:=.seq ([]:List Value).toArray }).objs.size=s3.heap.objs.size:=by rw[<-Rp]
 have f3:∀b∈fp,rG X pins (upd H2 s2.heap.objs.size (.lst [])) b:=λb hb=>by
  obtain⟨o,e,_⟩:=T.obj _ _ st2 b hb;refine⟨?_,(f2 b hb).2⟩;rw[aR (aaJ (aau e))];exact(f2 b hb).1
 have hlt:∀b∈fp,b<s3.heap.objs.size:=λb hb=>by
  obtain⟨o,e,_⟩:=T.obj _ _ st2 b hb;have hb2:b<s2.heap.objs.size:=aau e;rw[hsz];exact lt_succ_of_lt hb2
 have keep:∀b o,s3.heap.get? b=some o->h₁.get? b=some o:=λb o e=>by
  have e':(s2.heap.push { cls:=.type "list",dict:=none,data:=.seq ([]:List Value).toArray }).get? b=some o:=by rw[<-Rp]at e;exact e
  exact Ro.extBut b o (aaJ (aau e')) (aai _ e')
 have I4:=Ak (tk:=s2.toks+([]:List (Str×Value)).length) ok I3 hcl1 hcl2 f3 hlt (h':=h₁) (by rw[<-eC];simpa using Rn) keep;have WZ:tn 0 h₁:=T.keep _ _ _ st2 λb hb o e=>keep b o (by rw[<-Rp];exact aai _ e);obtain⟨W,⟨m0,w0⟩,turn⟩:=rd _ hD;have stat:∀{H':Hp},(∀b∈fp,H' b=none)->∀b∈fp,rG (bS X scope N' cl s3.heap.objs.size s3 (upd H2 s2.heap.objs.size (.lst [])) fp) [] H' b:=λ{H'} hn b hb=>
  ⟨hn b hb,aaJ (hlt b hb),I4.ok.DQ b hb,.inl hb,(I4.ok.U0 b hb).2,λp hp=>absurd (show p∈([]:List (Addr×Obj)) from hp) (by simp)⟩
 have YH:∀tk,({ s2 with heap:=h₁,toks:=tk }:Shared)={ s3 with heap:=h₁,toks:=tk }:=λtk=>by rw[<-Rp]
 have loop:codeAny (model X.prog X.w) X.A (.compLoop (.ListComp elt [⟨tg,iter,ifs,0⟩] scope pos) 0 (.ref it) (.ref s2.heap.objs.size) (compEnvC scope cl s3.heap.objs.size X.env)) (RR (.ref s2.heap.objs.size) s3.heap.objs.size)
   { s3 with heap:=h₁,toks:=s2.toks+([]:List (Str×Value)).length }:=by
  refine codeAny_loop rfl (λn s'=>∃i σ' H',Inv (bS X scope N' cl s3.heap.objs.size s3 (upd H2 s2.heap.objs.size (.lst [])) fp) [] σ' H' s'/\tn i s'.heap/\(∀b∈fp,H' b=none)/\W i n σ' H') ?_ m0 ⟨0,_,_,I4,WZ,λb hb=>(f3 b hb).1,w0⟩;rintro n s5 ⟨i,σ5,H5,I5,Ql,Ul,w5⟩;show wpAny _ X.A ((compTurn (.ListComp elt [⟨tg,iter,ifs,0⟩] scope pos) 0 (.ref it) (.ref s2.heap.objs.size) (compEnvC scope cl s3.heap.objs.size X.env)).onRaise (λx=>do noteFrame x (compEnvC scope cl s3.heap.objs.size X.env);theTreesLotGoes x)) _ _ s5;refine wpAny_noted ?_;rw[compTurn_list];refine aaa (wpAny_standAt (aaa ?_))
  rcases turn i n σ5 H5 w5 with ⟨stop,qn⟩|⟨go,N,hN,step⟩
  ·refine wpAny_mono (T.done (bS X scope N' cl s3.heap.objs.size s3 (upd H2 s2.heap.objs.size (.lst [])) fp) rfl rfl rfl hc i [] s5 σ5 H5 (λ_ _=>False) I5 (stat Ul) Ql stop) (λr s6 ⟨hr,I6⟩=>?_) λ_ _ z=>z.elim;subst hr;refine aal ?_;obtain⟨m,hm,_⟩:=id I6.loc;exact hRR _ _ s6 H5 m (by rw[hsz];exact le_succ _) (CN I3 f3 I6) I6.free hm qn
  ·refine wpAny_mono (T.item (bS X scope N' cl s3.heap.objs.size s3 (upd H2 s2.heap.objs.size (.lst [])) fp) rfl rfl rfl hc i [] s5 σ5 H5 (λ_ _=>False) I5 (stat Ul) Ql go) (λr s6 ⟨u,hr,h6⟩=>?_) λ_ _ z=>z.elim
   subst hr;refine aaa (wpAny_mono h6 (λ_ s7 ⟨x,H7,I7,r7,y7,Vw,YI⟩=>?_) λ_ _ z=>z.elim);have YJ:=I7.pinned (stat YI) (T.obj _ _ Vw);refine aaa (wpAny_mono (hg _ _ _ _ _ _ s7 σ5 H7 x u _ YJ r7 (step x H7 y7)) (λ_ s8 ⟨σ8,H8,I8,q8⟩=>?_) λ_ _ z=>z.elim);refine aaa (wpAny_mono (ht _ _ _ _ _ _ s8 σ8 H8 _ I8 q8) (λb s9 ⟨H9,I9,q9⟩=>?_) λ_ _ z=>z.elim);have Er:∀{sA:Shared} {σA:St} {HA:Hp},Inv (bS X scope N' cl s3.heap.objs.size s3 (upd H2 s2.heap.objs.size (.lst [])) fp) ([]++rH fp s7.heap) σA HA sA->N σA HA ->
     ∃m,m<n/\∃i σ' H',Inv (bS X scope N' cl s3.heap.objs.size s3 (upd H2 s2.heap.objs.size (.lst [])) fp) [] σ' H' sA/\tn i sA.heap/\(∀b∈fp,H' b=none)/\W i m σ' H':=λ{sA σA HA} IA nA=>by
    obtain⟨m',hm,wA⟩:=hN σA HA nA;refine⟨m',hm,i+1,σA,HA,IA.nK,T.keep _ _ _ Vw λb hb o e=>(IA.pin (b,o) (aaD _ (aaD _ (jN hb e)))).1,λb hb=>?_,wA⟩;obtain⟨o,e,d⟩:=T.obj _ _ Vw b hb;exact(IA.pin (b,o) (aaD _ (aaD _ (jN hb e)))).2.1
   cases b with
   |false=>exact aal ⟨rfl,Er I9 (by simpa using q9)⟩
   |true=>rw[aak rfl]at q9;refine aaa (aaa (wpAny_mono (he _ _ _ _ _ _ s9 σ8 H9 _ I9 q9) (λv sB ⟨y,HB,IB,rB,ys,hys,hlen,nB⟩=>?_) λ_ _ z=>z.elim));refine aaa (wpAny_mono (uO (X:=bS X scope N' cl s3.heap.objs.size s3 (upd H2 s2.heap.objs.size (.lst [])) fp) _ sB σ8 HB (.ref s2.heap.objs.size) [y] _ [v] (λ_ HC=>HC=upd HB s2.heap.objs.size (.lst (ys++[y]))) IB rfl #[rB] ⟨_,ys,y,rfl,rfl,hys,hlen,rfl⟩) (λv' sC ⟨_,HC,IC,_,YK⟩=>?_) λ_ _ z=>z.elim);subst YK;exact aal (aal ⟨rfl,Er IC nB⟩)
 rw[YH];have Vx:({ newEnv scope (s2.heap.push { cls:=.type "list",dict:=none,data:=.seq ([]:List Value).toArray }).objs.size X.env.globals cl X.env.qual none Value.none (some X.env) builtinsNs with scope:=relabel scope X.env }:Env)=compEnvC scope cl s3.heap.objs.size X.env:=by rw[eC];rfl
 have Vy:(newEnv scope (s2.heap.push { cls:=.type "list",dict:=none,data:=.seq ([]:List Value).toArray }).objs.size X.env.globals cl X.env.qual none Value.none (some X.env) builtinsNs).locals=s3.heap.objs.size:=by rw[eC];rfl
 rw[Vx,Vy];exact codeAny_compStart_list loop (T.self _ _ _ _ _ WZ loop)
theorem Jr(hok:lM X.N X.env.scope scope N' js=true)(hc:X.calm=true)(hi:PI X tg iter wi)(hg:∀cl C s H fp,PG (bS X scope N' cl C s H fp) tg g)
  (ht:∀cl C s H fp,Jo (bS X scope N' cl C s H fp) ifs tt) (he:∀cl C s H fp,PE (bS X scope N' cl C s H fp) elt te)
  (hs:∀x,foldedSetIterable iter X.env x=pure x):PE X (.ListComp elt [⟨tg,iter,ifs,0⟩] scope pos) (Ep wi js g tt te):=by
 intro pins s σ H Q I h;have ok:=uS hok;obtain⟨cl,Vz,hcl1,hcl2⟩:=rY (rZ ok I.ok);rw[eval_ListComp];refine wpAny_comprehension_free (use:=none) rfl hs Vz ok.kind ok.names (cT (hi pins s σ H _ I h) λxv s1 h1=>cT h1 λitv s2 h2=>?_);obtain⟨it,fp,tn,J,H2,rfl,I2,T,st2,f2,rd⟩:=h2;refine yi (RR:=λacc C=>compPost (model X.prog X.w) X.A X.xe none (EP X pins σ Q) acc C) ok hc I2 T st2 f2 hcl1 hcl2 hg ht he rd ?_;intro D C s' H' m hC J' fC hm q;refine⟨m,hm,λh' hs'=>⟨.ref D,H',?_,rfl,q⟩⟩;refine J'.turned (t':=s'.toks) (λb o hb e=>hs'.extBut b o hb e) fC (ne_of_gt (aaz I2.lt hC)) (.inr (aaN I2.sz hC)) (λx c e z=>?_) λp hp z=>?_
 ·obtain⟨v,q'⟩:=I2.cell x c e;exact absurd (aaz q'.lt (by rw[z];exact hC)) (lt_irrefl _)
 ·exact absurd (aaz (aau (I2.pin p hp).1) (by rw[z];exact hC)) (lt_irrefl _)
theorem Js{i:Nat}(hN:X.N.Nodup)(hx:X.N[i]?=some x)(hl:Loc X.env.scope x)(hok:lM X.N X.env.scope scope N' js=true)(hc:X.calm=true)(hi:PI X tg iter wi)(hg:∀cl C s H fp,PG (bS X scope N' cl C s H fp) tg g)
  (ht:∀cl C s H fp,Jo (bS X scope N' cl C s H fp) ifs tt) (he:∀cl C s H fp,PE (bS X scope N' cl C s H fp) elt te)
  (hsw:swapsWith (.ListComp elt [⟨tg,iter,ifs,0⟩] scope pos) (some (.Name x pos')) spos.line X.env=pure true)
  (hf:X.fn x=true\/X.env.scope.names.lookup x=some .local)
  (hs:∀x,foldedSetIterable iter X.env x=pure x):PS X (.Assign [.Name x pos'] (.ListComp elt [⟨tg,iter,ifs,0⟩] scope pos) spos) (IQ (Ep wi js g tt te) (uI i)):=by
 intro pins s σ H D I h;have ok:=uS hok;obtain⟨cl,Vz,hcl1,hcl2⟩:=rY (rZ ok I.ok);rw[exec_Assign_Name_used _ _ _ _ hsw];refine aaa (wpAny_standAt (aaa ?_));show wpAny _ X.A (do let _ <-comprehension (.ListComp elt [⟨tg,iter,ifs,0⟩] scope pos) scope X.env _ (newList []) false (eval iter X.env) (some (assign (.Name x pos') X.env))) _ _ s;refine aaa (wpAny_mono (wpAny_comprehension_free (use:=some (assign (.Name x pos') X.env)) (Q:=λ_ s'=>SP X pins D .next s') rfl hs Vz ok.kind ok.names
  (cT (hi pins s σ H _ I h) λxv s1 h1=>cT h1 λitv s2 h2=>?_)) (λ_ s' hq=>aal (aal hq)) λ_ _ e=>e)
 obtain⟨it,fp,tn,J,H2,rfl,I2,T,st2,f2,rd⟩:=h2;refine yi (RR:=λacc C=>compPost (model X.prog X.w) X.A X.xe (some (assign (.Name x pos') X.env)) (λ_ s'=>SP X pins D .next s') acc C) (Q:=λx H1=>uI i x σ H1 D.nx) ok hc I2 T st2 f2 hcl1 hcl2 hg ht he rd ?_;intro E C s' H' m hC J' fC hm q;have W0:C≠X.env.locals:=ne_of_gt (aaz I2.lt hC);have hCc:∀x c,X.env.cells.lookup x=some c->c≠C:=λx c e z=>by
  obtain⟨v,q'⟩:=I2.cell x c e;exact absurd (aaz q'.lt (by rw[z];exact hC)) (lt_irrefl _)
 refine cT (show wpAny _ X.A (assign (.Name x pos') X.env (.ref E)) (λ_ s''=>(∃CM Lv,Inv X pins CM Lv s''/\D.nx CM Lv/\Lv C=none)/\∃m,s''.heap.Ns C m) X.xe s' from ?_) λ_ s'' ⟨⟨CM,Lv,VA,YL,VB⟩,YM,M3⟩=>?_
 ·refine wpAny_assign_Name (uH J' hN hx hl (show RelV (.ref E) (.ref E) from rfl) (λs'' VA ⟨a,YN,ha⟩=>⟨⟨_,H',VA,q,fC⟩,m,?_⟩) hf)
  refine hm.sameBut YN ?_
  rcases ha with z|z
  ·rw[z];exact W0
  ·exact λw=>hCc _ _ z w.symm
 ·refine⟨YM,M3,λh' hs'=>⟨CM,Lv,?_,YL⟩⟩;refine VA.turned (t':=s''.toks) (λb o hb e=>hs'.extBut b o hb e) VB W0 (.inr (aaN I2.sz hC)) hCc λp hp z=>?_;exact absurd (aaz (aau (I2.pin p hp).1) (by rw[z];exact hC)) (lt_irrefl _)
end
end L2
end
section
namespace L2
open PySem PySem.W PyProof.Rows
namespace qM
section
variable {O:KeyOrd} {key:Nat->O.α} {N:Nat} {cmp:Nat->Nat->(Bool->Shared->Prop)->Shared->Prop} {s:Shared}
def K(O:KeyOrd)(key:Nat->O.α)(p:Array Nat)(i:Nat):O.α:=key (p.getD i 0)
def Up(O:KeyOrd)(key:Nat->O.α)(p:Array Nat)(k:Nat):Prop:=∀i j,i<=j->j<k->O.kle (K O key p i) (K O key p j)
def Down(O:KeyOrd)(key:Nat->O.α)(p:Array Nat)(k:Nat):Prop:=∀i j,i<=j->j<k->O.kle (K O key p j) (K O key p i)
def Jt(O:KeyOrd)(key:Nat->O.α)(N:Nat)(cmp:Nat->Nat->(Bool->Shared->Prop)->Shared->Prop)(s:Shared):Prop :=
 ∀i j (C:Bool->Shared->Prop),i<N->j<N->C (O.blt (key i) (key j)) s->cmp i j C s
def Ent(N:Nat)(p:Array Nat):Prop:=p.size=N/\0<N/\∀x∈p.toList,x<N
theorem Ent.at{p:Array Nat}(h:Ent N p)(i:Nat):p.getD i 0<N:=by
 by_cases hi:i<p.size
 ·have e:p.getD i 0=p[i]:=by simp[Array.getD,hi]
  rw[e];exact h.2.2 _ (by simp)
 ·have e:p.getD i 0=0:=by simp[Array.getD,hi]
  rw[e];exact h.2.1
theorem Ent.perm{p q:Array Nat}(h:Ent N p)(e:q.Perm p):Ent N q :=
 ⟨e.size_eq.trans h.1,h.2.1,λx hx=>h.2.2 x ((Array.perm_iff_toList_perm.mp e).mem_iff.mp hx)⟩
theorem K_congr{p q:Array Nat}{i j:Nat}(h:p[i]?=q[j]?):K O key p i=K O key q j:=by
 unfold K;rw[Array.getD_eq_getD_getElem?,Array.getD_eq_getD_getElem?,h]
theorem K_bubble{p:Array Nat}{src d:Nat}(hs:src<p.size)(hd:d<=src)(k:Nat) :
  K O key (bubble p src d) k=if k=src-d then K O key p src else if src-d<k/\k<=src then K O key p (k-1) else K O key p k:=by
 have e:=getElem?_bubble hs d hd k
 by_cases h1:k=src-d
 ·rw[aak h1]at e |-;exact K_congr e
 ·rw[aam h1]at e |-
  by_cases h2:src-d<k/\k<=src
  ·rw[aak h2]at e |-;exact K_congr e
  ·rw[aam h2]at e |-;exact K_congr e
theorem Es{p:Array Nat}{i j:Nat}(hj:j<=p.size)(k:Nat):K O key (kas_rev p i j) k=if i<=k/\k<j then K O key p (i+j-1-k) else K O key p k:=by
 have e:=getElem?_mirror_all (i:=i) hj k
 by_cases h1:i<=k/\k<j
 ·rw[aak h1]at e |-;exact K_congr e
 ·rw[aam h1]at e |-;exact K_congr e
theorem r6{p:Array Nat}{i j:Nat}(hj:j<=p.size)(h:∀k,i<=k->k<j->K O key p k=K O key p (j-1))(k:Nat):K O key (kas_rev p i j) k=K O key p k:=by
 rw[Es hj]
 split
 ·rw[h _ (by omega) (by omega),h k (by omega) (by omega)]
 ·rfl
theorem yj{p:Array Nat}{m:Nat}(h:∀t,1<=t->t<m->O.kle (K O key p (t-1)) (K O key p t)):Up O key p m:=by
 intro i j hij hj
 induction j with
 |zero=>
  have:i=0:=by omega
  subst this;exact KeyOrd.kle_refl _
 |succ j ih=>
  by_cases e:i=j+1
  ·subst e;exact KeyOrd.kle_refl _
  ·exact KeyOrd.kle_trans (ih (by omega) (by omega)) (h (j+1) (by omega) hj)
theorem M4(hA:Jt O key N cmp s){p:Array Nat}(he:Ent N p):∀(f n:Nat) {Q:Nat->Shared->Prop},1<=n ->
  (∀m,n<=m->m<=n+f->(∀t,n<=t->t<m->O.kle (K O key p (t-1)) (K O key p t))->(m<n+f->O.klt (K O key p m) (K O key p (m-1)))->Q m s)->(kas_asc p f n).kasWp cmp Q s
 |0,n,Q,hn,h=>h n (aao _) (aao _) (λt h1 h2=>by omega) λq=>by omega
 | f+1,n,Q,hn,h=>by
  show cmp _ _ _ s;refine hA _ _ _ (he.at _) (he.at _) ?_;cases hb:O.blt (key (p.getD n 0)) (key (p.getD (n-1) 0)) with
  |true=>exact h n (aao _) (by omega) (λt h1 h2=>by omega) λ_=>hb
  |false=>
   show (kas_asc p f (n+1)).kasWp cmp Q s;refine M4 hA he f (n+1) (by omega) λm h1 h2 h3 h4=>h m (by omega) (by omega) (λt t1 t2=>?_) λq=>h4 (by omega)
   by_cases e:t=n
   ·subst e;exact hb
   ·exact h3 t (by omega) t2
theorem Bc(hA:Jt O key N cmp s):∀(f:Nat) (p:Array Nat) (n q:Nat) {Q:Array Nat×Nat×Nat->Shared->Prop},Ent N p->1<=n->n+f<=N->q+1<=n->Down O key p n->(∀i,n-(q+1)<=i->i<n->K O key p i=K O key p (n-1)) ->
  (∀p' n' q',p'.Perm p->Ent N p'->1<=n'->n<=n'->n'<=n+f->q'+1<=n'->Down O key p' n'->(∀i,n'-(q'+1)<=i->i<n'->K O key p' i=K O key p' (n'-1))->Q (p',n',q') s)->(kas_desc f p n q).kasWp cmp Q s
 |0,p,n,q,Q,he,hn,hN,hq,hd,hl,h=>h p n q (Array.Perm.refl _) he hn (aao _) (aao _) hq hd hl
 | f+1,p,n,q,Q,he,hn,hN,hq,hd,hl,h=>by
  show cmp _ _ _ s;refine hA _ _ _ (he.at _) (he.at _) ?_;cases hb:O.blt (key (p.getD n 0)) (key (p.getD (n-1) 0)) with
  |true=>
   have hlt:O.klt (K O key p n) (K O key p (n-1)):=hb;have hd1:Down O key p (n+1):=λi j hij hj=>by
    by_cases e:j=n
    ·subst e
     by_cases e2:i=j
     ·subst e2;exact KeyOrd.kle_refl _
     ·exact KeyOrd.kle_trans (KeyOrd.kle_of_klt hlt) (hd i (j-1) (by omega) (by omega))
    ·exact hd i j hij (by omega)
   show (if q>0 then kas_desc f (kas_rev p (n-(q+1)) n) (n+1) 0 else kas_desc f p (n+1) 0).kasWp cmp Q s
   by_cases W2:q>0
   ·rw[aak W2]
    have ep:(kas_rev p (n-(q+1)) n).Perm p:=mirror_perm _ _ _ _;have eK:∀k,K O key (kas_rev p (n-(q+1)) n) k=K O key p k:=λk=>r6 (by rw[he.1];omega) hl k;refine Bc hA f _ (n+1) 0 (he.perm ep) (by omega) (by omega) (by omega) (λi j hij hj=>by rw[eK,eK];exact hd1 i j hij hj) (λi h1 h2=>?_) λp' n' q' g1 g2 g3 g4 g5 g6 g7 g8=>h p' n' q' (g1.trans ep) g2 g3 (by omega) (by omega) g6 g7 g8;have:i=n:=by omega
    subst this;rfl
   ·rw[aam W2]
    refine Bc hA f p (n+1) 0 he (by omega) (by omega) (by omega) hd1 (λi h1 h2=>?_) λp' n' q' g1 g2 g3 g4 g5 g6 g7 g8=>h p' n' q' g1 g2 g3 (by omega) (by omega) g6 g7 g8;have:i=n:=by omega
    subst this;rfl
  |false=>
   show cmp _ _ _ s;refine hA _ _ _ (he.at _) (he.at _) ?_;cases hc:O.blt (key (p.getD (n-1) 0)) (key (p.getD n 0)) with
   |true=>exact h p n q (Array.Perm.refl _) he hn (aao _) (by omega) hq hd hl
   |false=>
    have heq:K O key p n=K O key p (n-1):=O.total _ _ hb hc;show (kas_desc f p (n+1) (q+1)).kasWp cmp Q s;refine Bc hA f p (n+1) (q+1) he (by omega) (by omega) (by omega) (λi j hij hj=>?_) (λi h1 h2=>?_) λp' n' q' g1 g2 g3 g4 g5 g6 g7 g8=>h p' n' q' g1 g2 g3 (by omega) (by omega) g6 g7 g8
    ·by_cases e:j=n
     ·subst e
      by_cases e2:i=j
      ·subst e2;exact KeyOrd.kle_refl _
      ·rw[heq];exact hd i (j-1) (by omega) (by omega)
     ·exact hd i j hij (by omega)
    ·show K O key p i=K O key p (n+1-1)
     rw[Nat.add_sub_cancel]
     by_cases e:i=n
     ·subst e;rfl
     ·rw[heq];exact hl i (by omega) (by omega)
theorem Et(hA:Jt O key N cmp s){p:Array Nat}{n nrem:Nat}(he:Ent N p)(h1:1<=n)(hn:n<=nrem)(hr:nrem<=N)(hd:Down O key p n)
  (h:∀m p',p'.Perm p->Ent N p'->1<=m->m<=nrem->Up O key p' m->Q (m,p') s):(kas_tail3 n nrem p).kasWp cmp Q s:=by
 unfold kas_tail3;rw[KasT.kasWp_bind];have ep:(kas_rev p 0 n).Perm p:=mirror_perm _ _ _ _;have hz:n<=p.size:=by rw[he.1];omega
 refine M4 hA (he.perm ep) _ _ h1 λm a1 a2 a3 _=>h m _ ep (he.perm ep) (by omega) (by omega) (yj λt t1 t2=>?_)
 by_cases e:t<n
 ·rw[Es hz,Es hz,aak (by omega),aak (by omega)];exact hd _ _ (by omega) (by omega)
 ·exact a3 t (by omega) t2
theorem uT(hA:Jt O key N cmp s){p:Array Nat}{n nrem:Nat}(he:Ent N p)(hn:n+1<=nrem)(hr:nrem<=N)(hd:Down O key p (n+1))
  (h:∀m p',p'.Perm p->Ent N p'->1<=m->m<=nrem->Up O key p' m->Q (m,p') s):(kas_descPart n nrem p).kasWp cmp Q s:=by
 unfold kas_descPart;rw[KasT.kasWp_bind];have Rq:∀i,n+1-(0+1)<=i->i<n+1->K O key p i=K O key p (n+1-1):=λi h1 h2=>by
  have e:i=n:=by omega
  subst e;rfl
 refine Bc hA (nrem-(n+1)) p (n+1) 0 he (by omega) (by omega) (by omega) hd Rq λp' n' q' g1 g2 g3 g4 g5 g6 g7 g8=>?_;show (if q'>0 then kas_tail3 n' nrem (kas_rev p' (n'-(q'+1)) n') else kas_tail3 n' nrem p').kasWp cmp Q s
 by_cases hq:q'>0
 ·rw[aak hq];have ep:(kas_rev p' (n'-(q'+1)) n').Perm p':=mirror_perm _ _ _ _;have eK:∀k,K O key (kas_rev p' (n'-(q'+1)) n') k=K O key p' k:=λk=>r6 (by rw[g2.1];omega) g8 k;exact Et hA (g2.perm ep) g3 (by omega) hr (λi j hij hj=>by rw[eK,eK];exact g7 i j hij hj) λm p'' a1 a2 a3 a4 a5=>h m p'' ((a1.trans ep).trans g1) a2 a3 a4 a5
 ·rw[aam hq];exact Et hA g2 g3 (by omega) hr g7 λm p'' a1 a2 a3 a4 a5=>h m p'' (a1.trans g1) a2 a3 a4 a5
theorem M5(hA:Jt O key N cmp s){p:Array Nat}{nrem:Nat}(he:Ent N p)(h1:1<=nrem)(hr:nrem<=N)
  (h:∀m p',p'.Perm p->Ent N p'->1<=m->m<=nrem->Up O key p' m->Q (m,p') s):(kas_count nrem p).kasWp cmp Q s:=by
 unfold kas_count;rw[KasT.kasWp_bind];refine M4 hA he _ _ (aao _) λn a1 a2 a3 a4=>?_;have hup:Up O key p n:=yj λt t1 t2=>a3 t t1 t2
 by_cases e1:(n==nrem)=true
 ·rw[aak e1];exact h n p (Array.Perm.refl _) he a1 (by omega) hup
 ·rw[aam e1]
  have Uu:n≠nrem:=λz=>e1 (by simp[z]);have hlt:O.klt (K O key p n) (K O key p (n-1)):=a4 (by omega)
  by_cases e2:n>1
  ·rw[aak e2]
   show cmp _ _ _ s;refine hA _ _ _ (he.at _) (he.at _) ?_;cases hc:O.blt (key (p.getD 0 0)) (key (p.getD (n-1) 0)) with
   |true=>exact h n p (Array.Perm.refl _) he a1 (by omega) hup
   |false=>
    have hle:O.kle (K O key p (n-1)) (K O key p 0):=hc;have ep:(kas_rev p 0 n).Perm p:=mirror_perm _ _ _ _;have hall:∀k,0<=k->k<n->K O key p k=K O key p (n-1):=λk _ hk=>
     KeyOrd.kle_antisymm (hup k (n-1) (by omega) (by omega)) (KeyOrd.kle_trans hle (hup 0 k (by omega) hk))
    have eK:∀k,K O key (kas_rev p 0 n) k=K O key p k:=λk=>r6 (by rw[he.1];omega) hall k;show (kas_descPart n nrem (kas_rev p 0 n)).kasWp cmp Q s;refine uT hA (he.perm ep) (by omega) hr (λi j hij hj=>?_) λm p' b1 b2 b3 b4 b5=>h m p' (b1.trans ep) b2 b3 b4 b5;rw[eK,eK]
    by_cases ej:j=n
    ·subst ej
     by_cases ei:i=j
     ·subst ei;exact KeyOrd.kle_refl _
     ·rw[hall i (by omega) (by omega)];exact KeyOrd.kle_of_klt hlt
    ·rw[hall i (by omega) (by omega),hall j (by omega) (by omega)];exact KeyOrd.kle_refl _
  ·rw[aam e2]
   have en:n=1:=by omega
   subst en;refine uT hA he (by omega) hr (λi j hij hj=>?_) λm p' b1 b2 b3 b4 b5=>h m p' b1 b2 b3 b4 b5
   by_cases ei:i=j
   ·subst ei;exact KeyOrd.kle_refl _
   ·have:i=0/\j=1:=by omega
    obtain⟨rfl,rfl⟩:=this;exact KeyOrd.kle_of_klt hlt
theorem Am(hA:Jt O key N cmp s){p:Array Nat}{k:Nat}(he:Ent N p)(hs:Up O key p k):∀(f l r:Nat) {Q:Nat->Shared->Prop},l<=r->r<=k->r-l<=f ->
  (∀i,i<l->O.kle (K O key p i) (K O key p k))->(∀i,r<=i->i<k->O.klt (K O key p k) (K O key p i)) ->
  (∀l',l'<=k->(∀i,i<l'->O.kle (K O key p i) (K O key p k))->(∀i,l'<=i->i<k->O.klt (K O key p k) (K O key p i))->Q l' s)->(kas_place p k f l r).kasWp cmp Q s
 | 0,l,r,Q,hlr,hrk,hf,hlo,hhi,h=>by
  have:l=r:=by omega
  subst this;exact h l hrk hlo hhi
 | f+1,l,r,Q,hlr,hrk,hf,hlo,hhi,h=>by
  show (if l≥r then KasT.ret l else _).kasWp cmp Q s
  by_cases hge:l≥r
  ·rw[aak hge]
   have:l=r:=by omega
   subst this;exact h l hrk hlo hhi
  ·rw[aam hge]
   show cmp _ _ _ s;refine hA _ _ _ (he.at _) (he.at _) ?_;cases hb:O.blt (key (p.getD k 0)) (key (p.getD ((l+r)/2) 0)) with
   |true=>show (kas_place p k f l ((l+r)/2)).kasWp cmp Q s;exact Am hA he hs f l ((l+r)/2) (by omega) (by omega) (by omega) hlo (λi h1 h2=>KeyOrd.klt_of_klt_of_kle hb (hs _ _ h1 h2)) h
   |false=>show (kas_place p k f ((l+r)/2+1) r).kasWp cmp Q s;exact Am hA he hs f ((l+r)/2+1) r (by omega) (by omega) (by omega) (λi h1=>KeyOrd.kle_trans (hs i ((l+r)/2) (by omega) (by omega)) hb) hhi h
theorem Rt(hA:Jt O key N cmp s):∀(f:Nat) (p:Array Nat) (k:Nat) {Q:Array Nat->Shared->Prop},Ent N p->k+f<=N->Up O key p k->(∀p',p'.Perm p->Up O key p' (k+f)->Q p' s)->(kas_bin f p k).kasWp cmp Q s
 |0,p,k,Q,he,hk,hs,h=>h p (Array.Perm.refl _) hs
 | f+1,p,k,Q,he,hk,hs,h=>by
  show ((kas_place p k k 0 k).bind λl=>kas_bin f (bubble p k (k-l)) (k+1)).kasWp cmp Q s;rw[KasT.kasWp_bind];refine Am hA he hs k 0 k (by omega) (by omega) (by omega) (λi hi=>by omega) (λi h1 h2=>by omega) λl hl hlo hhi=>?_;have ep:(bubble p k (k-l)).Perm p:=bubble_perm _ _ _;have hks:k<p.size:=by rw[he.1];omega
  refine Rt hA f _ (k+1) (he.perm ep) (by omega) (λi j hij hj=>?_) λp' a1 a2=>h p' (a1.trans ep) (by rwa [show k+(f+1)=k+1+f by omega]);rw[K_bubble hks (by omega),K_bubble hks (by omega),show k-(k-l)=l by omega]
  repeat' split
  all_goals first
   |(exfalso;omega)
   |exact KeyOrd.kle_refl _
   |exact hlo _ (by omega)
   |exact KeyOrd.kle_of_klt (hhi _ (by omega) (by omega))
   |exact hs _ _ (by omega) (by omega)
theorem Ru(hA:Jt O key N cmp s)(h1:1<=N)(h:∀p,p.Perm (toArray (List.range N))->Up O key p N->Q p s):(kas_sort N).kasWp cmp Q s:=by
 unfold kas_sort;rw[KasT.kasWp_bind];have he:Ent N (toArray (List.range N)):=⟨by simp,h1,λx hx=>by simpa using hx⟩;refine M5 hA he h1 (aao _) λm p a1 a2 a3 a4 a5=>?_;show (if m<N then kas_bin (N-max m 1) p (max m 1) else KasT.ret p).kasWp cmp Q s;have em:max m 1=m:=by omega
 by_cases hlt:m<N
 ·rw[aak hlt,em];exact Rt hA _ p m a2 (by omega) a5 λp' b1 b2=>h p' (b1.trans a1) (by rwa [show m+(N-m)=N by omega]at b2)
 ·rw[aam hlt]
  have:m=N:=by omega
  subst this;exact h p a1 a5
end
end qM
namespace qM
theorem dD{α:Type}(l:List α)(d:α):(List.range l.length).map (λi=>l.getD i d)=l:=by
 refine ext_getElem (by simp) λi h1 h2=>?_;simp[h2]
section
variable {prog:Program} {w:World} {A:Around} {E:Value->Shared->Prop} {s:Shared}
def uU(prog:Program)(w:World)(A:Around)(O:KeyOrd)(key:Nat->O.α)(vs:List Value)(s6:Shared):Prop :=
 wpAny (model prog w) A (keyKind' vs.toArray) (λκ s'=>s'=s6/\Jt O key vs.length (kas_ask prog w A κ vs) s6) (λ_ _=>False) s6
structure Eu (O:KeyOrd) (key:Nat->O.α) (n:Nat) (p:List Nat):Prop where
 perm:p.Perm (List.range n)
 up:(p.map key).Pairwise O.kle
theorem Ju{n:Nat}{p:Array Nat}(h1:p.Perm (toArray (List.range n)))(h2:Up O key p n):Eu O key n p.toList:=by
 have hp:p.toList.Perm (List.range n):=by simpa using Array.perm_iff_toList_perm.mp h1
 refine⟨hp,pairwise_iff_getElem.mpr λi j hi hj hij=>?_⟩;have hz:p.toList.length=n:=by rw[hp.length_eq,length_range]
 rw[aae]at hi hj;have q:=h2 i j (Nat.le_of_lt hij) (by omega);have ei:p.getD i 0=p.toList[i]:=by simp at hi;simp[Array.getD,hi]
 have ej:p.getD j 0=p.toList[j]:=by simp at hj;simp[Array.getD,hj]
 unfold K at q;rw[ei,ej]at q;rw[getElem_map,getElem_map];exact q
theorem Ew{n:Nat}(ho:s.heap.get? a=some (seqObj "list" vs.toArray n))(h64:vs.length<64)
  (hk:2<=vs.length->∀h6:Heap,(∀b o,b≠a->s.heap.get? b=some o->h6.get? b=some o)->uU prog w A O key vs { s with heap:=h6 })
  (h:∀p,Eu O key vs.length p->P (.done (.ret .none)) { s with heap:=sortedHeap s.heap a vs (p.map λi=>vs.getD i Value.none).toArray }) :
  wpAny (model prog w) A (Builtin.«list.sort» ⟨[.ref a],[]⟩) P E s:=by
 have alt:a<s.heap.objs.size:=aau ho;have big:vs.length<=sizeLine:=by rw[sizeLine_eq];omega
 rw[list_sort_plain];apply aaa;apply listItems_at ho rfl;apply aaa;refine listUpdate_at ho rfl ?_ (by rw[aay];exact big) (zero_le _);have q1:=get?_update_seq ho (λ_=>(#[]:Array Value));apply aaa;apply seqEpoch_at q1 rfl;apply aaa;refine wpAny_newTuple ?_ (by show vs.length<=sizeLine;exact big);apply aaa;refine wpAny_newList ?_ (zero_le _);apply wpAny_holding;generalize hN:((s.heap.update a (Obj.mapSeq λ_=>(#[]:Array Value))).push (seqObj "tuple" vs.toArray 0)).push (seqObj "list" #[] 0)=h6;have Rv:∀b o,b≠a->s.heap.get? b=some o->h6.get? b=some o:=λb o hb e=>by
  rw[<-hN];refine aai _ (aai _ ?_);rw[Heap.get?_update_ne _ _ _ _ hb];exact e
 have q6:h6.get? a=some (seqObj "list" #[] (if (#[]:Array Value).size==vs.toArray.size then n else n+1)):=by rw[<-hN];exact aai _ (aai _ q1)
 have eS:∀out,h6.update a (Obj.mapSeq λ_=>out)=sortedHeap s.heap a vs out:=λout=>by rw[<-hN];rfl
 show wpAny (model prog w) A _ P E { s with heap:=h6 };dsimp only
 by_cases h2:vs.toArray.size<2
 ·rw[aak h2,aak h2]
  apply aaa;apply aal;rw[StateT.run_pure];apply aaa;apply aal;dsimp only;have eo:(arrOf (SortSt.mk' general' (vs.toArray.zip vs.toArray) #[] 7 none)).map (·.2)=vs.toArray:=by show (vs.toArray.zip vs.toArray).map (·.2)=vs.toArray;apply Array.toList_inj.mp;simp[List.map_snd_zip]
  rw[eo];apply aaa;apply seqEpoch_at q6 rfl;apply aaa;refine listUpdate_at q6 rfl ?_ (zero_le _) (by show vs.toArray.size<=_;rw[aay];omega);have hb:((if (#[]:Array Value).size==vs.toArray.size then n else n+1) != (if (#[]:Array Value).size==vs.toArray.size then n else n+1))=false:=by simp
  rw[eS];simp only[hb,false_eq_true,if_false];apply aal;have g:=h (List.range vs.length) ⟨List.Perm.refl _,?_⟩
  ·rw[dD]at g;exact g
  ·rw[aay]at h2;refine pairwise_iff_getElem.mpr λi j hi hj hij=>?_;simp at hi hj;omega
 ·rw[aam h2,aam h2]
  rw[aay]at h2;have ask:=hk (by omega) h6 Rv;apply aaa;refine wpAny_mono ask (λκ s0 hκ=>?_) λ_ _ x=>x.elim;obtain⟨rfl,YO⟩:=hκ;apply aaa;refine wpAny_mono (kat_run (Q:=λst' s'=>s'={ s with heap:=h6 }/\∃p:Array Nat,Eu O key vs.length p.toList/\p.size=vs.length/\(arrOf st').map (·.2)=(p.toList.map λi=>vs.getD i Value.none).toArray/\failedOf st'=none)
   (G:=λp s'=>s'={ s with heap:=h6 }/\Eu O key vs.length p.toList) rfl (by omega) h64 (λp st' s' a1 a2 a3 a4=>⟨a4.1,p,a4.2,a1,kat_snds rfl a2,a3⟩)
   (Ru YO (by omega) λp b1 b2=>⟨rfl,Ju b1 b2⟩)) ?_ λ_ _ x=>x
  rintro⟨⟨⟩,st'⟩ s' ⟨rfl,p,op,pz,er,ef⟩;dsimp only;rw[er];apply aaa;apply seqEpoch_at q6 rfl;apply aaa;refine listUpdate_at q6 rfl ?_ (zero_le _) (by show (toArray _).size<=_;rw[aay,aae,aaU,pz];omega);have hb:((if (#[]:Array Value).size==vs.toArray.size then n else n+1) != (if (#[]:Array Value).size==vs.toArray.size then n else n+1))=false:=by simp
  rw[eS,ef];simp only[hb,false_eq_true,if_false];exact aal (h p.toList op)
theorem iH
  (h:wpAny (model prog w) A.in1 (collect x) (λvs s1=>vs.length<64/\∃key:Nat->O.α,(2<=vs.length->∀h6:Heap,(∀b o,s1.heap.get? b=some o->h6.get? b=some o)->uU prog w A.in1.in1 O key vs { s1 with heap:=h6 }) /\
   ∀p h',Eu O key vs.length p->(∀b o,s1.heap.get? b=some o->h'.get? b=some o)->(∃e,h'.get? s1.heap.objs.size=some (seqObj "list" (p.map λi=>vs.getD i Value.none).toArray e))->Q (.ref s1.heap.objs.size) { s1 with heap:=h' }) E s) :
  wpAny (model prog w) A (call (.builtin "sorted") [x]) Q E s:=by
 refine Calls.call_function_entry kind_sorted plain_sorted entry_sorted (args_sorted1 _) ?_;unfold Builtin.«sorted»;refine aaa (m:=checkCount "sorted" 1 1 _) (aal ?_);apply aaa;refine wpAny_mono h (λvs s1 ⟨h64,key,hk,hq⟩=>?_) λ_ _ z=>z;have big:vs.length<=sizeLine:=by rw[sizeLine_eq];omega
 apply aaa;refine wpAny_newList ?_ big;have q:(s1.heap.push (seqObj "list" vs.toArray 0)).get? s1.heap.objs.size=some (seqObj "list" vs.toArray 0):=aaA _ rfl;apply aaa;apply wpAny_holding;refine wpAny_call_entry (s:={ s1 with heap:=s1.heap.push (seqObj "list" vs.toArray 0) }) slot_list_sort ⟨_,q,rfl⟩ entry_list_sort ?_ (args_list_sort _);refine Ew (key:=key) (s:={ s1 with heap:=s1.heap.push (seqObj "list" vs.toArray 0) }) q h64 (λh2 h6 k6=>?_) λp op=>⟨_,rfl,aal ⟨_,rfl,?_⟩⟩
 ·exact hk h2 h6 λb o e=>k6 b o (aaJ (aau e)) (aai _ e)
 ·refine hq p _ op (λb o e=>?_) (sortedHeap_at q);rw[sortedHeap_old (aaJ (aau e)) (by rw[size_push'];exact lt_succ_of_lt (aau e))];exact aai _ e
end
def r8:KeyOrd where
 α:=Int
 blt:=λa b=>decide (a<b)
 irrefl:=λa=>by simp
 trans:=λa b c h1 h2=>by simp at *;omega
 negTrans:=λa b c h=>by simp at *;omega
 total:=λa b h1 h2=>by simp at *;omega
theorem r9{s6:Shared}{ns:List Int}(hI:IntsAre vs ns)(h2:2<=vs.length):uU prog w A r8 (λi=>ns.getD i 0) vs s6:=by
 have at_:∀i,i<vs.length->∃t,vs.getD i Value.none=.int (ns.getD i 0) t:=by
  intro i hi
  induction hI generalizing i with
  |nil=>simp at hi
  |cons z t r ih=>
   cases i with
   |zero=>exact⟨t,by simp⟩
   |succ i=>
    by_cases hr:2<=1
    ·omega
    ·simp only[length_cons]at hi
     have aux:∀{vs:List Value} {ns:List Int},IntsAre vs ns->∀i,i<vs.length->∃t,vs.getD i Value.none=.int (ns.getD i 0) t:=by
      intro vs ns q
      induction q with
      |nil=>intro i hi;simp at hi
      |cons z t r ih=>
       intro i hi;cases i with
       |zero=>exact⟨t,by simp⟩
       |succ i=>simp only[length_cons]at hi;obtain⟨u,e⟩:=ih i (by omega);exact⟨u,by simpa using e⟩
     obtain⟨u,e⟩:=aux r i (by omega);exact⟨u,by simpa using e⟩
 obtain⟨v₁,v₂,rest,rfl⟩:∃v₁ v₂ rest,vs=v₁::v₂::rest:=by
  match vs,h2 with
  |v₁::v₂::rest,_=>exact⟨v₁,v₂,rest,rfl⟩
 unfold uU;rw[keyKind_ints hI];refine aal ⟨rfl,λi j C hi hj hc=>?_⟩;obtain⟨t,e1⟩:=at_ i hi;obtain⟨u,e2⟩:=at_ j hj;unfold kas_ask;rw[e1,e2,keyLt'_oneType];exact oneLt_int hc
theorem jR:∀a,HT.lexLt a a=false
 |[]=>rfl
 |x::xs=>by rw[HT.f6,aak rfl];exact jR xs
theorem iW:∀a b,HT.lexLt a b=false->HT.lexLt b a=false->a=b
 |[],[],_,_=>rfl
 |[],_::_,h,_=>by rw[HT.iG]at h;cases h
 |_::_,[],_,h=>by rw[HT.iG]at h;cases h
 | x::xs,y::ys,h1,h2=>by
  rw[HT.f6]at h1 h2
  by_cases e:x=y
  ·subst e;rw[aak rfl]at h1 h2;rw[iW xs ys h1 h2]
  ·rw[aam e]at h1;rw[aam (λz=>e z.symm)]at h2;simp at h1 h2;omega
theorem iX:∀a b c,HT.lexLt a b=true->HT.lexLt b c=true->HT.lexLt a c=true
 |[],[],c,h,_=>by rw[HT.uo]at h;cases h
 |[],_::_,[],_,h=>by rw[HT.fL]at h;cases h
 |[],_::_,_::_,_,_=>rfl
 |_::_,[],_,h,_=>by rw[HT.fL]at h;cases h
 |_::_,_::_,[],_,h=>by rw[HT.fL]at h;cases h
 | x::xs,y::ys,z::zs,h1,h2=>by
  rw[HT.f6]at h1 h2 |-
  by_cases e1:x=y
  ·subst e1
   rw[aak rfl]at h1
   by_cases e2:x=z
   ·subst e2;rw[aak rfl]at h2 |-;exact iX xs ys zs h1 h2
   ·rw[aam e2]at h2 |-;exact h2
  ·rw[aam e1]at h1
   by_cases e2:y=z
   ·subst e2;rw[aam e1];exact h1
   ·rw[aam e2]at h2;simp at h1 h2;rw[aam (by omega)];simp;omega
theorem uV(a b c:List Int)(h:HT.lexLt a c=true):HT.lexLt a b=true\/HT.lexLt b c=true:=by
 cases h1:HT.lexLt a b with
 |true=>exact .inl rfl
 |false=>
  cases h2:HT.lexLt b c with
  |true=>exact .inr rfl
  |false=>
   cases h3:HT.lexLt b a with
   |true=>have:=iX _ _ _ h3 h;rw[h2]at this;cases this
   |false=>rw[iW _ _ h1 h3]at h;rw[h2]at h;cases h
def lexOrd:KeyOrd where
 α:=List Int
 blt:=HT.lexLt
 irrefl:=jR
 trans:=iX
 negTrans:=uV
 total:=iW
section
variable {prog:Program} {w:World} {A:Around} {s:Shared}
theorem qm{b fin:Bool}:∀{us vs:List Value} {ns ms:List Int} (i:Nat),IntsAre us ns->IntsAre vs ms->(ns.length<ms.length↔fin=true)->us.length=ns.length ->
  Q (HT.lexLt ns ms) s->(ns.length=ms.length\/i=i)->(∀k,k<ns.length->k<ms.length->True)->(ns.length≠ms.length->True)->(fin=decide (ns.length<ms.length))->KatLex prog w A b fin Q (us.zip vs) i s
 | _,_,_,_,i,.nil,.nil,_,_,hq,_,_,_,hf=>by
  refine kat_nil ?_;rw[hf];exact hq
 | _,_,_,_,i,.nil,.cons _ _ _,_,_,hq,_,_,_,hf=>by
  refine kat_nil ?_;rw[hf];simpa [HT.iG] using hq
 | _,_,_,_,i,.cons _ _ _,.nil,_,_,hq,_,_,_,hf=>by
  refine kat_nil ?_;rw[hf];simpa [HT.fL] using hq
 | _,_,_,_,i,.cons x t r,.cons y u r',h1,h2,hq,_,_,_,hf=>by
  refine kat_cons (wpAny_eqBool_int ?_);rw[HT.f6]at hq
  by_cases e:x=y
  ·subst e
   rw[aak rfl]at hq;rw[beq_self_eq_true];refine kat_yes (qm (i+1) r r' ?_ ?_ hq (.inr rfl) (λ_ _ _=>trivial) (λ_=>trivial) ?_)
   ·simpa using h1
   ·simpa using h2
   ·rw[hf];simp
  ·rw[aam e]at hq
   rw[show (x==y)=false from aaT.mpr e];refine kat_no ?_;cases hb:(b&&i==0) with
   |true=>exact oneLt_int hq
   |false=>exact kat_one _ _ (PyProof.Rows.lt_int hq)
end
end qM
end L2
end
section
namespace L2
open PySem PySem.Spec PyProof.Rows
def VC:Key->PyData
 |.inl i=>.int i
 |.inr x=>.str x
mutual
noncomputable def Den(K:Frag)(H:Hp):PyData->V->Prop
 |.none,v=>v=.non
 |.bool b,v=>v=.bl b
 |.int i,v=>v=.int i
 |.str x,v=>v=.str x
 |.list ds,v=>∃a xs,v=.ref a/\j4 K H a xs/\fG K H ds xs
 |.tuple ds,v=>∃a xs,v=.ref a/\mD K H a xs/\fG K H ds xs
 |.dict kvs,v=>∃a ks,v=.ref a/\H a=some (.dK ks)/\nN K H kvs ks
noncomputable def fG(K:Frag)(H:Hp):List PyData->List V->Prop
 |[],xs=>xs=[]
 |d::ds,xs=>∃x r,xs=x::r/\Den K H d x/\fG K H ds r
noncomputable def nN(K:Frag)(H:Hp):List (PyData×PyData)->List (Key×V)->Prop
 |[],ks=>ks=[]
 |(k,d)::r,ks=>∃key x rest,ks=(key,x)::rest/\k=VC key/\Den K H d x/\nN K H r rest
end
theorem Aj.tup{K:Frag}{H H':Hp}{a:Addr}{xs:List V}(e:Aj H H')(h:mD K H a xs):mD K H' a xs:=by
 rcases h with (h|⟨o,h⟩)|h
 ·exact .inl (.inl (e _ _ h))
 ·exact .inl (.inr ⟨o,e _ _ h⟩)
 ·exact .inr h
section
variable {K:Frag} {H H':Hp}
mutual
theorem Den.same(e:Aj H H'):∀(d:PyData) (v:V),Den K H d v->Den K H' d v
 |.none,_,h=>by rw[Den]at h |-;exact h
 |.bool _,_,h=>by rw[Den]at h |-;exact h
 |.int _,_,h=>by rw[Den]at h |-;exact h
 |.str _,_,h=>by rw[Den]at h |-;exact h
 | .list ds,v,h=>by
  rw[Den]at h |-;obtain⟨a,xs,q1,q2,q3⟩:=h;exact⟨a,xs,q1,e.seq q2,fG.same e ds xs q3⟩
 | .tuple ds,v,h=>by
  rw[Den]at h |-;obtain⟨a,xs,q1,q2,q3⟩:=h;exact⟨a,xs,q1,e.tup q2,fG.same e ds xs q3⟩
 | .dict kvs,v,h=>by
  rw[Den]at h |-;obtain⟨a,ks,q1,q2,q3⟩:=h;exact⟨a,ks,q1,e _ _ q2,nN.same e kvs ks q3⟩
theorem fG.same(e:Aj H H'):∀(ds:List PyData) (xs:List V),fG K H ds xs->fG K H' ds xs
 |[],_,h=>by rw[fG]at h |-;exact h
 | d::ds,xs,h=>by
  rw[fG]at h |-;obtain⟨x,r,q1,q2,q3⟩:=h;exact⟨x,r,q1,Den.same e d x q2,fG.same e ds r q3⟩
theorem nN.same(e:Aj H H'):∀(kvs:List (PyData×PyData)) (ks:List (Key×V)),nN K H kvs ks->nN K H' kvs ks
 |[],_,h=>by rw[nN]at h |-;exact h
 | (k,d)::r,ks,h=>by
  rw[nN]at h |-;obtain⟨key,x,rest,q1,q2,q3,q4⟩:=h;exact⟨key,x,rest,q1,q2,Den.same e d x q3,nN.same e r rest q4⟩
end
theorem fG.nil:fG K H [] []:=by rw[fG]
theorem fG.cons{d:PyData}{ds:List PyData}{x:V}{r:List V}(h1:Den K H d x)(h2:fG K H ds r):fG K H (d::ds) (x::r):=by rw[fG];exact⟨x,r,rfl,h1,h2⟩
theorem Den.int{i:Int}:Den K H (.int i) (.int i):=by rw[Den]
theorem Den.str:Den K H (.str x) (.str x):=by rw[Den]
theorem Den.bool{b:Bool}:Den K H (.bool b) (.bl b):=by rw[Den]
theorem Den.none:Den K H .none .non:=by rw[Den]
theorem Den.list(h:j4 K H a xs)(q:fG K H ds xs):Den K H (.list ds) (.ref a):=by rw[Den];exact⟨a,xs,rfl,h,q⟩
theorem Den.tuple(h:mD K H a xs)(q:fG K H ds xs):Den K H (.tuple ds) (.ref a):=by rw[Den];exact⟨a,xs,rfl,h,q⟩
end
section
variable {X:Cx} {pins:List (Addr×Obj)} {σ:St} {H:Hp} {s:Shared}
mutual
theorem Den.reads(I:Inv X pins σ H s):∀(d:PyData) (v:V) (u:Value),d.canLay0=true->Den X.K H d v->RelV v u->∃as,Reads s.heap u d as
 |.none,v,u,_,h,r=>by rw[Den]at h;subst h;cases r;exact⟨_,.none⟩
 |.bool b,v,u,_,h,r=>by rw[Den]at h;subst h;cases r;exact⟨_,.bool b⟩
 |.int i,v,u,_,h,r=>by rw[Den]at h;subst h;obtain⟨t,rfl⟩:=r;exact⟨_,.int i t⟩
 |.str x,v,u,_,h,r=>by rw[Den]at h;subst h;obtain⟨t,rfl⟩:=r;exact⟨_,.str x t⟩
 | .list ds,v,u,c,h,r=>by
  rw[Den]at h;obtain⟨a,xs,rfl,q1,q2⟩:=h;cases r;obtain⟨its,rv,⟨o,n,e1,e2,_,e3⟩,_⟩:=I.list q1;obtain⟨as,ra⟩:=fG.reads I ds xs its (by simpa [PyData.canLay0] using c) q2 rv;exact⟨_,.list e1 e2 e3 (by simpa using ra)⟩
 | .tuple ds,v,u,c,h,r=>by
  rw[Den]at h;obtain⟨a,xs,rfl,q1,q2⟩:=h;cases r;obtain⟨its,rv,⟨o,e1,e2,n,e3⟩,_⟩:=I.tuple q1;obtain⟨as,ra⟩:=fG.reads I ds xs its (by simpa [PyData.canLay0] using c) q2 rv;exact⟨_,.tuple e1 e2 e3 (by simpa using ra)⟩
 |.dict _,_,_,c,_,_=>by simp[PyData.canLay0]at c
theorem fG.reads(I:Inv X pins σ H s):∀(ds:List PyData) (xs:List V) (us:List Value),PyData.canLayAll0 ds=true->fG X.K H ds xs->Vals xs us->∃as,ReadsAll s.heap us ds as
 |[],xs,us,_,h,r=>by rw[fG]at h;subst h;cases r;exact⟨_,.nil⟩
 | d::ds,xs,us,c,h,r=>by
  have c':d.canLay0=true/\PyData.canLayAll0 ds=true:=by simpa [PyData.canLayAll0] using c
  rw[fG]at h;obtain⟨x,rest,rfl,q1,q2⟩:=h;cases r with
  |cons r1 r2=>obtain⟨as,ra⟩:=Den.reads I d x _ c'.1 q1 r1;obtain⟨bs,rb⟩:=fG.reads I ds rest _ c'.2 q2 r2;exact⟨_,.cons ra rb⟩
end
end
section
variable {X:Cx}
def VD(K:Frag):R2:=λx y H Q=>∃d e,Den K H d x/\Den K H e y/\d.canLay0=true/\e.canLay0=true/\d.depth<=60/\Q (.bl (PyData.eqv d e)) H
def VE(K:Frag):R2:=λx y H Q=>∃d e,Den K H d x/\Den K H e y/\d.canLay0=true/\e.canLay0=true/\d.depth<=60/\Q (.bl (!PyData.eqv d e)) H
theorem M6(hu:X.A.units+64<cLine):qU X (compareOp .Eq) (VD X.K):=by
 intro pins s σ H x y v u Q I rx ry h;obtain⟨d,e,hd,he,c1,c2,hz,q⟩:=h;obtain⟨as,ra⟩:=Den.reads I d x v c1 hd rx;obtain⟨bs,rb⟩:=Den.reads I e y u c2 he ry;exact SeqAt.compareEq_reads ra rb c1 c2 (by have:=Nat.min_le_left d.depth e.depth;omega) ⟨.bl _,H,I,rfl,q⟩
theorem M7(hu:X.A.units+64<cLine):qU X (compareOp .NotEq) (VE X.K):=by
 intro pins s σ H x y v u Q I rx ry h;obtain⟨d,e,hd,he,c1,c2,hz,q⟩:=h;obtain⟨as,ra⟩:=Den.reads I d x v c1 hd rx;obtain⟨bs,rb⟩:=Den.reads I e y u c2 he ry;exact SeqAt.compareNe_reads ra rb c1 c2 (by have:=Nat.min_le_left d.depth e.depth;omega) ⟨.bl _,H,I,rfl,q⟩
theorem sd{ns:List Int}(I:Inv X pins σ H s)(hq:j4 X.K H p (ns.map V.int))(h64:ns.length<64)
  (q:∀l,H l=none->Q (.ref l) (upd H l (.lst ((sortI ns).map V.int)))):wpAny (model X.prog X.w) X.A (call (.builtin "sorted") [.ref p]) (EP X pins σ Q) X.xe s:=by
 obtain⟨its,rv,pl,hz⟩:=I.list hq;have hi:=intsAre_of rv;have hl:=hi.length;refine sorted_ints pl.isList hi (by omega) λout ns' a1 a2 a3=>?_;obtain⟨e,he⟩:=sortedAll_at s.heap its out;have es:ns'=sortI ns:=eq_sortI a2 a3;subst es;have hn:H (s.heap.objs.size+1)=none:=I.hok.fresh (le_succ _);refine⟨.ref (s.heap.objs.size+1),_,I.laid (t':=s.toks) (λb o z=>sortedAll_old z) (le_succ _) (show cD X.prog X.w _ _ _ (.lst ((sortI ns).map V.int)) from⟨?_,out.toList,e,jz a1,by simpa using he⟩),rfl,q _ hn⟩;rw[aae,(aaY ns).length_eq,sizeLine_eq];omega
theorem o8:eV X (.builtin "sorted") (λxs H Q=>∃p ns,xs=[.ref p]/\j4 X.K H p (ns.map V.int)/\ns.length<64/\∀l,H l=none->Q (.ref l) (upd H l (.lst ((sortI ns).map V.int)))):=by
 intro pins s σ H xs us Q I r h;obtain⟨p,ns,rfl,hq,h64,q⟩:=h;obtain⟨u,rfl,ru⟩:=vals1 r;cases ru;exact sd I hq h64 q
def Rw(K:Frag)(H:Hp)(r:Addr×List Int):Prop:=mD K H r.1 (r.2.map V.int)/\r.2≠[]
theorem An{pins:List (Addr×Obj)}{σ:St}{H:Hp}{s:Shared}{A:Around}{rs:List (Addr×List Int)}{h6:Heap}{s6:Shared}(I:Inv X pins σ H s)(ht:∀r∈rs,Rw X.K H r)(h2:2<=rs.length)(k:∀b o,s.heap.get? b=some o->s6.heap.get? b=some o) :
  qM.uU X.prog X.w A qM.lexOrd (λi=>(rs.getD i (0,[])).2) (rs.map λr=>Value.ref r.1) s6:=by
 have tup:∀r∈rs,∃its o n,s6.heap.get? r.1=some o/\o.cls=.type "tuple" /\ o.data=.seq (toArray its) n/\IntsAre its r.2:=λr hr=>by
  obtain⟨its,rv,⟨o,e1,e2,n,e3⟩,_⟩:=I.tuple (ht r hr).1;exact⟨its,o,n,k _ _ e1,e2,e3,intsAre_of rv⟩
 have kt:∀rs:List (Addr×List Int),(∀r∈rs,∃its o n,s6.heap.get? r.1=some o/\o.cls=.type "tuple" /\ o.data=.seq (toArray its) n/\IntsAre its r.2)->(∀r∈rs,r.2≠[]) ->
   ∃fs,PySem.W.KatTups s6.heap (rs.map λr=>Value.ref r.1) fs/\fs.length=rs.length/\∀v∈fs,∃i t,v=Value.int i t:=by
  intro rs
  induction rs with
  |nil=>intro _ _;exact⟨[],PySem.W.KatTups.nil,rfl,λv hv=>nomatch hv⟩
  |cons r rs ih=>
   intro g1 g2;obtain⟨fs,q1,q2,q3⟩:=ih (λr' hr'=>g1 r' (aac _ hr')) λr' hr'=>g2 r' (aac _ hr');obtain⟨its,o,n,e1,e2,e3,hi⟩:=g1 r aag;have hne:=g2 r aag;cases hr:r.2 with
   |nil=>exact absurd hr hne
   |cons i is=>
    rw[hr]at hi;cases hi with
    |cons _ t hi'=>
     refine⟨.int i t::fs,PySem.W.KatTups.cons e1 e2 e3 (by simp) q1,by simp[q2],λv hv=>?_⟩
     rcases aaw.mp hv with z|z
     ·exact⟨i,t,z⟩
     ·exact q3 v z
 obtain⟨fs,q1,q2,q3⟩:=kt rs tup λr hr=>(ht r hr).2;unfold qM.uU;refine PySem.W.kat_kind q1 (by omega) (T:=Value.type "int") (λv hv=>?_) rfl ⟨rfl,λi j C hi hj hc=>?_⟩
 ·obtain⟨i,t,rfl⟩:=q3 v hv;exact PySem.W.Looks.of_pure rfl
 ·rw[aae]at hi hj
  unfold PySem.W.kas_ask;have e1:(rs.map λr=>Value.ref r.1).getD i Value.none=Value.ref rs[i].1:=by simp[hi]
  have e2:(rs.map λr=>Value.ref r.1).getD j Value.none=Value.ref rs[j].1:=by simp[hj]
  have e3:rs.getD i (0,[])=rs[i]:=by simp[hi]
  have e4:rs.getD j (0,[])=rs[j]:=by simp[hj]
  rw[e1,e2];simp only[e3,e4]at hc;obtain⟨its,o,n,a1,a2,a3,a4⟩:=tup rs[i] (List.getElem_mem hi);obtain⟨its',o',n',b1,b2,b3,b4⟩:=tup rs[j] (List.getElem_mem hj);have l1:=a4.length;have l2:=b4.length;refine kat_lt a1 a3 b1 b3 (qM.qm 0 a4 b4 ?_ l1 hc (.inr rfl) (λ_ _ _=>trivial) (λ_=>trivial) ?_)
  ·rw[aay,aay,l1,l2];simp
  ·rw[aay,aay,l1,l2]
theorem CO{rs:List (Addr×List Int)}:∀{us:List Value},Vals (rs.map λr=>V.ref r.1) us->us=rs.map λr=>Value.ref r.1:=by
 induction rs with
 |nil=>intro us r;cases r;rfl
 |cons a rs ih=>
  intro us r;cases r with
  |cons r1 r2=>cases r1;rw[ih r2];rfl
theorem o9:eV X (.builtin "sorted") (λxs H Q=>∃(p:Addr) (rs:List (Addr×List Int)),xs=[.ref p]/\j4 X.K H p (rs.map λr=>V.ref r.1)/\rs.length<64/\(∀r∈rs,Rw X.K H r) /\
  ∀(l:Addr) (qs:List (Addr×List Int)),H l=none->qs.Perm rs->qs.Pairwise (λa b=>HT.lexLt b.2 a.2=false)->Q (.ref l) (upd H l (.lst (qs.map λr=>V.ref r.1)))):=by
 intro pins s σ H xs us Q I r h;obtain⟨p,rs,rfl,hq,h64,ht,q⟩:=h;obtain⟨u,rfl,ru⟩:=vals1 r;cases ru;obtain⟨its,rv,pl,hz⟩:=I.list hq;have ev:=CO rv;subst ev;refine qM.iH (O:=qM.lexOrd) (collect_list pl.isList ?_ (by rw[aae,sizeLine_eq];omega));have k1:∀b o,s.heap.get? b=some o->((s.heap.push (seqObj "list" #[] 0)).update s.heap.objs.size (Obj.mapSeq (· ++ (rs.map λr=>Value.ref r.1).toArray))).get? b=some o:=λb o e=>by
  rw[Heap.get?_update_ne _ _ _ _ (aaJ (aau e))];exact aai _ e
 have YQ:((s.heap.push (seqObj "list" #[] 0)).update s.heap.objs.size (Obj.mapSeq (· ++ (rs.map λr=>Value.ref r.1).toArray))).objs.size=s.heap.objs.size+1:=by rw[Heap.size_update,size_push']
 refine⟨by rw[aae];exact h64,λi=>(rs.getD i (0,[])).2,λh2 h6 k6=>?_,λpp h' op k' he=>?_⟩
 ·rw[aae]at h2;exact An (h6:=h6) I ht h2 λb o e=>k6 b o (k1 b o e)
 ·rw[aae]at op
  dsimp only at k' he |-;rw[YQ]at he |-;obtain⟨e,he⟩:=he;have hn:H (s.heap.objs.size+1)=none:=I.hok.fresh (le_succ _);have lp:pp.length=rs.length:=by rw[op.perm.length_eq,length_range]
  have mem:∀i∈pp,i<rs.length:=λi hi=>by simpa using op.perm.mem_iff.mp hi
  have VF:(pp.map λi=>(rs.map λr=>Value.ref r.1).getD i Value.none)=(pp.map λi=>rs.getD i (0,[])).map λr=>Value.ref r.1:=by rw[aa2];refine map_congr_left λi hi=>?_;simp[mem i hi]
  have qp:(pp.map λi=>rs.getD i (0,[])).Perm rs:=by have:=op.perm.map λi=>rs.getD i (0,[]);rwa [qM.dD]at this
  have qs:(pp.map λi=>rs.getD i (0,[])).Pairwise (λa b=>HT.lexLt b.2 a.2=false):=by have up1:=pairwise_map.mp op.up;exact pairwise_map.mpr up1
  refine⟨.ref (s.heap.objs.size+1),_,I.laid (t':=s.toks) (λb o z=>k' b o (k1 b o z)) (le_succ _) (show cD X.prog X.w _ _ _ (.lst ((pp.map λi=>rs.getD i (0,[])).map λr=>V.ref r.1)) from⟨?_,_,e,?_,he⟩),rfl,q _ _ hn qp qs⟩
  ·rw[aae,aae,lp,sizeLine_eq];omega
  ·rw[VF]
   generalize (pp.map λi=>rs.getD i (0,[]))=zs
   induction zs with
   |nil=>exact .nil
   |cons z zs ih=>exact .cons rfl ih
end
section
variable {X:Cx}
theorem Ao{bs:List Bool}:∀{us:List Value},Vals (bs.map V.bl) us->us=bs.map Value.bool:=by
 induction bs with
 |nil=>intro us r;cases r;rfl
 |cons a bs ih=>
  intro us r;cases r with
  |cons r1 r2=>cases r1;rw[ih r2];rfl
theorem se(bs:List Bool):((List.range bs.length).all λi=>bs.getD i true)=bs.all id:=by
 conv=>rhs;rw[<-qM.dD bs true]
 rw[List.all_map];rfl
theorem uu(hc:X.calm=true):eV X (.builtin "all") (λxs H Q=>∃(p:Addr) (bs:List Bool),xs=[.ref p]/\j4 X.K H p (bs.map V.bl)/\Q (.bl (bs.all id)) H):=by
 intro pins s σ H xs us Q I r h;obtain⟨p,bs,rfl,hq,q⟩:=h;obtain⟨u,rfl,ru⟩:=vals1 r;cases ru;obtain⟨its,rv,pl,hz⟩:=I.list hq;have ev:=Ao rv;subst ev;have hpl:=pl.isList;have hlt:p<s.heap.objs.size:=by obtain⟨_,e,_⟩:=hpl;exact aau e
 refine call_all_walk (wpAny_pyIter_list hpl ⟨s.heap.objs.size,[s.heap.objs.size,p],[s.heap.objs.size],_,_,_,λi=>bs.getD i true,rfl,Walks.list (A:=X.A.in1) (I.ok.hd hc) _ p (aaJ hlt) (bs.map Value.bool).toArray,
  ⟨⟨_,aaA _ rfl,rfl,rfl⟩,hpl.push _⟩,λi v s' Q' E' hP hQ=>?_,λh' tk hk=>?_⟩)
 ·have hi:i<bs.length:=by simpa using (Array.getElem?_eq_some_iff.mp hP).1
  have e:v=Value.bool (bs.getD i true):=by
   have:(bs.map Value.bool)[i]?=some v:=by simpa using hP
   simp[hi]at this;simp[hi,this]
  subst e;exact wpAny_truthy_bool hQ
 ·have e:((List.range (bs.map Value.bool).toArray.size).all λi=>bs.getD i true)=bs.all id:=by rw[aay,aae];exact se bs
  rw[e];exact⟨.bl _,H,I.kept λb o z=>hk b o (by simp;exact aaJ (aau z)) (aai _ z),rfl,q⟩
section
open PySem.AutoSeq1 (wpAny_loadPart')
theorem wH(l b:Addr)(items items2:Array Value)(n n2:Nat)(dd2:Option Addr)(sl2:Array (Option Value))(hs0:¬(!items.isEmpty&&Builtin.List.listTooLong (items.size+items2.size))=true)(hs1:items.size<=sizeLine)(hs2:items.size+items2.size<=sizeLine+1) :
  Meets (Builtin.«list.extend» ⟨[.ref l,.ref b],[]⟩) (λ_ R s=>s.heap.get? l=some { cls:=.type "list",data:=.seq items n }/\s.heap.get? b=some { cls:=.type "tuple",dict:=dd2,data:=.seq items2 n2,slots:=sl2 } /\
   R (.ok (.ret Value.none)) { s with heap:=s.heap.update l (Obj.mapSeq λx=>x++items2) }) :=
 .of_wp λprog w A R s h=>by
  obtain⟨hp,g,d,tk,os⟩:=s;obtain⟨hl,hb,h⟩:=h;have f2:=AutoSeq1.sub_tuple_tuple;have f3:=AutoSeq1.sub_list_list;have f4:=AutoSeq1.sub_tuple_list;have f5:=AutoSeq1.sub_list_tuple;have hz':(items++items2).size<=sizeLine+1:=by rw[Array.size_append];exact hs2
  wp_walk using (wpAny_updateSeq hl rfl (hz:=hs1) (_hz':=hz')),wpAny_loadPart' hl,wpAny_loadPart' hb
  exact⟨_,rfl,h⟩
end
def Ex(K:Frag):V->List V->Hp->VK->Prop:=λx vs H Q=>∃l b xs zs,x=.ref l/\vs=[.ref b]/\H l=some (.lst xs)/\mD K H b zs/\xs.length+zs.length<=sizeLine/\Q .non (upd H l (.lst (xs++zs)))
theorem Aq:Us X "list.extend" (Ex X.K):=by
 intro pins s σ H x vs v us Q I rx rv h;obtain⟨l,b,xs,zs,rfl,rfl,hH,hB,hz,q⟩:=h;cases rx;obtain⟨u,rfl,ru⟩:=rv.one;cases ru;obtain⟨z,its,n,r,hl,e⟩:=I.Jg hH;obtain⟨its2,r2,⟨⟨oc,od,YR,osl⟩,e2,ec,n2,ed⟩,z2⟩:=I.tuple hB;cases ec;cases ed;have l2:=r2.length;have hsz:its.toArray.size+its2.toArray.size<=sizeLine:=by rw[aay,aay];omega
 have Rx:¬ (!its.toArray.isEmpty&&Builtin.List.listTooLong (its.toArray.size+its2.toArray.size))=true:=by rw[Eg hsz,Bool.and_false];exact aab
 refine call_meets F.slot_list_extend ⟨_,e,rfl⟩ F.entry_list_extend (F.args_list_extend_2 _ _)
  (wH l b its.toArray its2.toArray n n2 od osl Rx (by rw[aay];omega) (by omega)) ⟨e,e2,?_⟩
 refine⟨.non,_,I.Jf (its':=its++its2) hH e (by simp) (r.append r2) ?_,rfl,q⟩;rw[aaj];omega
end
end L2
end
section
namespace L2
open PySem
def uW(xs:Array Nat):Prop:=xs.toList.Pairwise (· < ·)
structure Cut (xs:Array Nat) (j p:Nat):Prop where
 le:p<=xs.size
 lo:∀(i:Nat) (hi:i<xs.size),i<p->xs[i]<j
 hi:∀(i:Nat) (hi:i<xs.size),p<=i->j<=xs[i]
theorem Cut.one{xs:Array Nat}{j p q:Nat}(a:Cut xs j p)(b:Cut xs j q):p=q:=by
 rcases Nat.lt_trichotomy p q with h|h|h
 ·have hp:p<xs.size:=aaz h b.le;have:=a.hi p hp (aao _);have:=b.lo p hp h;omega
 ·exact h
 ·have hq:q<xs.size:=aaz h a.le;have:=b.hi q hq (aao _);have:=a.lo q hq h;omega
theorem uW.get{xs:Array Nat}(r:uW xs){a b:Nat}(ha:a<xs.size)(hb:b<xs.size)(h:a<b):xs[a]<xs[b]:=by
 have:=pairwise_iff_getElem.mp r a b (by simpa using ha) (by simpa using hb) h;simpa using this
theorem Ar{xs:Array Nat}(r:uW xs)(j:Nat):∀(fuel lo hi:Nat),lo<=hi->hi<=xs.size->hi-lo<=fuel->(∀(i:Nat) (hi:i<xs.size),i<lo->xs[i]<j)->(∀(i:Nat) (h:i<xs.size),hi<=i->j<=xs[i])->Cut xs j (SetTable.below.go xs j fuel lo hi)
 | 0,lo,hi,h1,h2,h3,a,b=>by
  have:lo=hi:=by omega
  subst this;exact⟨h2,a,b⟩
 | fuel+1,lo,hi,h1,h2,h3,a,b=>by
  unfold SetTable.below.go
  by_cases hlt:lo<hi
  ·rw[aak hlt]
   dsimp only;have hm:(lo+hi)/2<xs.size:=by omega
   have eg:xs.getD ((lo+hi)/2) j=xs[(lo+hi)/2]:=by simp[Array.getD,hm]
   rw[eg]
   by_cases hc:xs[(lo+hi)/2]<j
   ·rw[aak hc]
    refine Ar r j fuel _ hi (by omega) h2 (by omega) (λi hi' hl=>?_) b
    by_cases e:i=(lo+hi)/2
    ·subst e;exact hc
    ·exact lt_trans (r.get hi' hm (by omega)) hc
   ·rw[aam hc]
    refine Ar r j fuel lo _ (by omega) (by omega) (by omega) a (λi hi' hl=>?_)
    by_cases e:i=(lo+hi)/2
    ·subst e;omega
    ·have:=r.get hm hi' (by omega);omega
  ·rw[aam hlt]
   have:lo=hi:=by omega
   subst this;exact⟨h2,a,b⟩
theorem lO{xs:Array Nat}(r:uW xs)(j:Nat):Cut xs j (SetTable.below xs j) :=
 Ar r j xs.size 0 xs.size (zero_le _) (aao _) (by omega) (λi _ h=>by omega) (λi h hl=>by omega)
theorem As{xs:Array Nat}(r:uW xs):SetTable.below xs 0=0:=(lO r 0).one ⟨zero_le _,λi _ h=>by omega,λi _ _=>zero_le _⟩
theorem Au{xs:Array Nat}(r:uW xs){i:Nat}(hi:i<xs.size):SetTable.below xs (xs[i]+1)=i+1:=by
 refine(lO r _).one ⟨hi,λk hk h=>?_,λk hk h=>?_⟩
 ·by_cases e:k=i
  ·subst e;omega
  ·have:=r.get hk hi (by omega);omega
 ·have:=r.get hi hk (by omega);omega
theorem CP{xs:Array Nat}(r:uW xs){j:Nat}(h:j∈xs):xs[SetTable.below xs j]?=some j:=by
 obtain⟨k,hk,e⟩:=Array.mem_iff_getElem.mp h;have:SetTable.below xs j=k:=by
  refine(lO r j).one ⟨Nat.le_of_lt hk,λi hi h=>?_,λi hi h=>?_⟩
  ·have:=r.get hi hk h;omega
  ·by_cases e':i=k
   ·subst e';omega
   ·have:=r.get hk hi (by omega);omega
 rw[this,Array.getElem?_eq_getElem hk,e]
theorem CQ{xs:Array Nat}(r:uW xs){j:Nat}(h:j∉xs):uW (SetTable.insertAt xs (SetTable.below xs j) j):=by
 have c:=lO r j;unfold uW;rw[SetTable.toList_insertAt];have rl:xs.toList.Pairwise (· < ·):=r;have lo:∀a∈xs.toList.take (SetTable.below xs j),a<j:=λa ha=>by
  obtain⟨i,hi,e⟩:=List.mem_iff_getElem.mp ha;rw[length_take,aaU]at hi;rw[List.getElem_take]at e;have:=c.lo i (by omega) (by omega);rw[<-e];simpa using this
 have up:∀a∈xs.toList.drop (SetTable.below xs j),j<a:=λa ha=>by
  obtain⟨i,hi,e⟩:=List.mem_iff_getElem.mp ha;rw[length_drop,aaU]at hi;rw[List.getElem_drop]at e;have h1:=c.hi (SetTable.below xs j+i) (by omega) (by omega);have e':xs[SetTable.below xs j+i]'(by omega)=a:=by rw[<-e];simp
  rw[e']at h1;have:a≠j:=λz=>h (by rw[<-z,<-e'];exact Array.getElem_mem _);omega
 rw[List.pairwise_append];refine⟨rl.sublist (take_sublist _ _),aaR.mpr ⟨up,rl.sublist (List.drop_sublist _ _)⟩,λa ha b hb=>?_⟩
 rcases aaw.mp hb with e|hb
 ·rw[e];exact lo a ha
 ·exact lt_trans (lo a ha) (up b hb)
theorem nO(n:Nat):uW (Array.range n):=by
 unfold uW;rw[Array.toList_range];exact List.pairwise_lt_range
theorem uX{t:SetTable}(r:uW t.place){j:Nat}(h:t.slot j=.empty\/t.slot j=.dummy):j∉t.place:=λhm=>by
 have e:=CP r hm;unfold SetTable.slot at h;dsimp only at h;rw[e]at h;simp at h
theorem mW{h:Int}:∀(fuel:Nat) (p:SetTable.Probe) (j:Nat) (d:Option Nat),(∀k,p.dummy=some k->t.slot k=.dummy)->SetTable.probe.go t f h fuel p=some (.empty j d)->t.slot j=.empty/\∀k,d=some k->t.slot k=.dummy
 |0,p,j,d,hd,e=>by simp[SetTable.probe.go]at e
 | fuel+1,p,j,d,hd,e=>by
  have ad:∀q:SetTable.Probe,(t.advance q).dummy=q.dummy:=λq=>by unfold SetTable.advance;split<;>rfl
  unfold SetTable.probe.go at e;split at e
  ·rename_i hs;cases e;exact⟨hs,hd⟩
  ·rename_i hs;refine mW fuel _ j d (λk hk=>?_) e;rw[ad]at hk;cases hk;exact hs
  ·split at e
   ·cases e
   ·exact mW fuel _ j d (λk hk=>hd k (by rw[<-ad];exact hk)) e
theorem Ey{t:SetTable}(r:uW t.place){h:Int}{s:Nat}{b:Bool}(e:t.freeSlot h=some (s,b)):s∉t.place:=by
 unfold SetTable.freeSlot at e;split at e
 ·rename_i j d hp
  cases e;obtain⟨h1,h2⟩:=mW _ _ _ _ (λk hk=>by simp[SetTable.probeStart]at hk) hp;cases d with
  |none=>exact uX r (.inl h1)
  |some k=>exact uX r (.inr (h2 k rfl))
 ·cases e
theorem CS(r:uW t.place)(es:Array (Int×Value))(h:Int)(x:Value):uW (layNew t es h x).2.1.place/\(layNew t es h x).2.1.led=t.led:=by
 unfold layNew
 split
 ·rename_i s b e
  have fr:=Ey r e;dsimp only;unfold SetTable.orStandIn
  split
  ·exact⟨CQ r fr,rfl⟩
  ·exact⟨nO _,rfl⟩
 ·exact⟨nO _,rfl⟩
theorem Ez(r:uW t.place)(es:Array (Int×Value))(n:Nat):uW (relayAll t es n).2.1.place/\(relayAll t es n).2.1.led=t.led:=by
 unfold relayAll
 split
 ·rename_i t' order e
  dsimp only
  split
  ·unfold SetTable.relaid SetTable.laid at e;obtain⟨ow,e1,e⟩:=aad.mp e;cases e;refine⟨?_,rfl⟩;show List.Pairwise _ (List.map _ _).toArray.toList;rw[List.toList_toArray,pairwise_map];refine List.Pairwise.filterMap _ (R:=(· < ·)) (λa a' hl b hb b' hb'=>?_) List.pairwise_lt_range;obtain⟨x,_,rfl⟩:=map_eq_some_iff.mp hb;obtain⟨y,_,rfl⟩:=map_eq_some_iff.mp hb';exact hl
  ·exact⟨nO _,rfl⟩
 ·exact⟨nO _,rfl⟩
end L2
end
section
namespace L2
open PySem PyProof.Rows
def uv(w:World):Bool:=w.params.followText "set-order"
structure Lw (w:World) (es:Array (Int×Value)) (t:SetTable):Prop where
 few:es.size<scanBound
 fit:t.fits es.size=true
 rs:uW t.place
 led:t.led = !uv w
structure fM (prog:Program) (w:World) (h:Heap) (a:Addr) (o:Obj) (es:Array (Int×Value)) (ep:Nat) (t:SetTable) (ks:List Int):Prop where
 at_:h.get? a=some o
 ex:o.ExactSet
 dat:o.data=.set es ep t
 el:ElemsOf (intKind prog w) es.toList
 tab:Lw w es t
 W3:ks.Nodup
 mem:∀k,k∈ks↔∃e∈es.toList,(intKind prog w).is k e.2=true
 num:es.size=ks.length
def qO(prog:Program)(w:World)(h:Heap)(a:Addr)(ks:List Int):Prop:=∃o es ep t,fM prog w h a o es ep t ks
def pe(ks:List Int)(k:Int):List Int:=if k∈ks then ks else ks++[k]
section
variable {prog:Program} {w:World} {A:Around} {E:Value->Shared->Prop} {s:Shared}
theorem EA{h:Heap}{a:Addr}{o:Obj}{es es':Array (Int×Value)}{ep:Nat}{t t':SetTable}(ho:h.get? a=some o)(hd:o.data=.set es ep t):(h.update a (Obj.putSet es' t')).get? a=some { o with data:=.set es' (ep+1) t' }:=by
 have q:=get?_update_self (Obj.putSet es' t') ho (by rw[putSet_of es' t' hd];rfl);rw[putSet_of es' t' hd]at q;exact q
theorem qO.frame{ks:List Int}(S:qO prog w h a ks)(k:∀o,h.get? a=some o->h'.get? a=some o):qO prog w h' a ks:=by
 obtain⟨o,es,ep,t,i⟩:=S;exact⟨o,es,ep,t,{ i with at_:=k o i.at_ }⟩
theorem mem_push{es es1:List (Int×Value)}{ks:List Int}{k:Int}(hx:(intKind prog w).is k x=true)(hm:∀j,j∈ks↔∃e∈es,(intKind prog w).is j e.2=true)(p:es1.Perm (es++[((intKind prog w).hash k,x)]))(j:Int) :
  j∈ks++[k]↔∃e∈es1,(intKind prog w).is j e.2=true:=by
 rw[aas,aap,hm];constructor
 ·rintro(⟨e,he,q⟩|rfl)
  ·exact⟨e,p.mem_iff.mpr (aat _ he),q⟩
  ·exact⟨_,p.mem_iff.mpr (aaD _ aag),hx⟩
 ·rintro⟨e,he,q⟩
  rcases aas.mp (p.mem_iff.mp he) with z|z
  ·exact .inl ⟨e,z,q⟩
  ·rw[aap]at z;subst z;exact .inr ((intKind prog w).inj x j k q hx)
theorem yk{g:Bool->Sem Unit}(hg:∀(b:Bool) (s₁:Shared) (Q':Unit->Shared->Prop),Q' () s₁->wpAny (model prog w) A (g b) Q' E s₁)
  {a:Addr} {o:Obj} {es es1:Array (Int×Value)} {ep:Nat} {t t2:SetTable} {ks:List Int} (ho:s.heap.get? a=some o) (hex:o.ExactSet) (hd:o.data=.set es ep t)
  (hel:ElemsOf (intKind prog w) es1.toList) (hm:∀k,k∈ks↔∃e∈es1.toList,(intKind prog w).is k e.2=true) (hnd:ks.Nodup) (hn:es1.size=ks.length) (ht:Lw w es1 t2) {b:Bool} {R:Option Bool->Shared->Prop}
  (h:∀h',Heap.SameBut a s.heap h'->qO prog w h' a ks->R (some true) { s with heap:=h' }) :
  wpAny (model prog w) A (do
    storeSet a es1 t2
    if (!b&&t2.tooFull)=true then do
      g (relayAll t2 es1 (SetTable.grown es1.size)).2.2
      storeSet a (relayAll t2 es1 (SetTable.grown es1.size)).1 (relayAll t2 es1 (SetTable.grown es1.size)).2.1
      pure (some true)
     else pure (some true)) R E s:=by
 refine aaa (wpAny_storeSet_of ho hd ?_ (fits_of_scanBound ht.few));have h1:=EA (es':=es1) (t':=t2) ho hd;have b1:=Heap.SameBut.update s.heap a (Obj.putSet es1 t2)
 split
 ·have p:=relayAll_perm t2 es1 (SetTable.grown es1.size)
  have f:=relayAll_fits t2 es1 (SetTable.grown es1.size);have rr:=Ez ht.rs es1 (SetTable.grown es1.size);generalize relayAll t2 es1 (SetTable.grown es1.size)=Rl at p f rr |-;obtain⟨VG,t3,gv⟩:=Rl;dsimp only at p f rr |-;have z:VG.size=es1.size:=by rw[<-aaU,p.length_eq,aaU]
  have few:VG.size<scanBound:=by rw[z];exact ht.few
  refine aaa (hg _ _ _ ?_);refine aaa (wpAny_storeSet_of h1 rfl ?_ (fits_of_scanBound few));refine aal (h _ (b1.trans (Heap.SameBut.update _ a _)) ⟨_,VG,_,t3,EA h1 rfl,hex,rfl,hel.perm p,⟨few,f,rr.1,rr.2.trans ht.led⟩,hnd,λk=>(hm k).trans ⟨λ⟨e,he,q⟩=>⟨e,p.mem_iff.mpr he,q⟩,λ⟨e,he,q⟩=>⟨e,p.mem_iff.mp he,q⟩⟩,z.trans hn⟩)
 ·exact aal (h _ b1 ⟨_,es1,_,t2,h1,hex,rfl,hel,ht,hnd,hm,hn⟩)
theorem add_int{ks:List Int}{k:Int}(S:qO prog w s.heap a ks)(room:ks.length+1<scanBound)
  (h:∀h' b,Heap.SameBut a s.heap h'->qO prog w h' a (pe ks k)->Q b { s with heap:=h' }) :
  wpAny (model prog w) A (setAddHashed a (.int k tk) ((intKind prog w).hash k)) Q E s:=by
 obtain⟨o,es,ep,t,I⟩:=S;have hx:(intKind prog w).is k (.int k tk)=true:=intKind_is _ _ _ _;have sc:(Value.int k tk).scannable=true:=rfl;unfold setAddHashed setAddHashedIn;refine wpAny_holding (aaa (wpAny_setState_of I.at_ I.dat I.tab.fit ?_));dsimp only;rw[byScan_of sc I.tab.few I.el];simp only[↓reduceIte];unfold setAddByScan;refine aaa (aaa (wpAny_rule (aaa (wpAny_setScan_of hx I.at_ I.dat I.tab.fit I.el ?_))));cases hr:List.findIdx? (λe=>(intKind prog w).is k e.2) es.toList with
 |some j=>
  dsimp only;obtain⟨hj,pj,_⟩:=List.findIdx?_eq_some_iff_getElem.mp hr;have hk:k∈ks:=(I.mem k).mpr ⟨es.toList[j],List.getElem_mem hj,pj⟩;refine aal (aal ?_);have e:s={ s with heap:=s.heap }:=by cases s;rfl
  rw[e];exact h s.heap _ (Heap.SameBut.refl a s.heap) (by unfold pe;rw[aak hk];exact⟨o,es,ep,t,I⟩)
 |none=>
  dsimp only;have hk:k∉ks:=λz=>by
   obtain⟨e,he,p⟩:=(I.mem k).mp z;have:=List.findIdx?_eq_none_iff.mp hr e he;rw[p]at this;cases this
  have gw:∀(b:Bool) (s₁:Shared) (Q':Unit->Shared->Prop),Q' () s₁->wpAny (model prog w) A (match b with|true=>rule "set.scan.the-table-gave-way" | false=>pure ()) Q' E s₁:=λb s₁ Q' q=>by
   cases b
   ·exact aal q
   ·exact wpAny_rule q
  have p:=layNew_perm t es ((intKind prog w).hash k) (.int k tk);have f:=layNew_fits t es ((intKind prog w).hash k) (.int k tk);have rr:=CS I.tab.rs es ((intKind prog w).hash k) (.int k tk);generalize layNew t es ((intKind prog w).hash k) (.int k tk)=Ln at p f rr |-;obtain⟨es1,t1,wd,gv⟩:=Ln;dsimp only at p f rr |-;rw[Array.toList_push]at p;have z:es1.size=(ks++[k]).length:=by rw[<-aaU,p.length_eq,aaj,aaj,aaU,I.num];rfl
  have few:es1.size<scanBound:=by rw[z,aaj];simpa using room
  have nd:(ks++[k]).Nodup:=by rw[aaH];exact⟨I.W3,by simp,λx hx' y hy e=>hk (by rw[aap]at hy;rw[<-hy,<-e];exact hx')⟩
  have W4:ElemsOf (intKind prog w) es1.toList:=(I.el.push hx sc).perm p;have m1:=mem_push hx I.mem p;have fin:∀h',Heap.SameBut a s.heap h'->qO prog w h' a (ks++[k])->Q true { s with heap:=h' }:=λh' sb S'=>h h' true sb (by unfold pe;rw[aam hk];exact S');refine aaa (gw _ _ _ ?_)
  split
  ·refine aaa ?_
   rw[hashByValue_scannable 8 sc];refine aal ?_;refine yk gw I.at_ I.ex I.dat W4 m1 nd z ⟨few,?_,?_,?_⟩ λh' sb S'=>aal (fin h' sb S')
   ·split
    ·exact f
    ·exact SetTable.fits_plain_off f
   ·split
    ·exact rr.1
    ·exact rr.1
   ·split
    ·exact rr.2.trans I.tab.led
    ·exact rr.2.trans I.tab.led
  ·refine aaa (aal ?_);simp only[↓reduceIte];exact yk gw I.at_ I.ex I.dat W4 m1 nd z ⟨few,f,rr.1,rr.2.trans I.tab.led⟩ λh' sb S'=>aal (fin h' sb S')
end
def cL:List Int->List Int->List Int
 |ks,[]=>ks
 |ks,k::r=>cL (pe ks k) r
theorem sf(ks:List Int)(k:Int):(pe ks k).length<=ks.length+1:=by unfold pe;split<;>simp
section
variable {prog:Program} {w:World} {A:Around} {E:Value->Shared->Prop} {s:Shared}
theorem EB{R:Result->Shared->Prop}{I:Addr}{fp wr:List Addr}{G:Array GenState->Array GenState->Prop}{n:Nat}{P:Nat->Value->Prop}{St:Nat->Shared->Prop}(W:WalksS prog w A.in1 I fp wr G n P St)(S:Addr)(hSf:S∉fp)(val:Nat->Int)(hval:∀i v,P i v->∃t,v=.int (val i) t) :
  ∀(k i:Nat) (s:Shared) (ks:List Int),n-i=k->i<=n->ks.length+k+1<scanBound->St i s->qO prog w s.heap S ks ->
   (∀s',Moved (S::wr) G s s'->qO prog w s'.heap S (cL ks ((range' i k).map val))->R (.ok (.ret .none)) s') ->
   codeAny (model prog w) A (.builtin "set.update.loop" ⟨[.ref S,.ref I],[]⟩) R s:=by
 have W5:S∉wr:=λh=>hSf (W.sub _ h);have sub:∀b∈wr,b∈S::wr:=λb hb=>aac _ hb;intro k
 induction k with
 |zero=>
  intro i s ks hk hi _ hst hS hR;have:i=n:=by omega
  subst this;refine codeAny_builtin PyProof.Rows.F.entry_set_update_loop ?_;rw[Around.under_plainId PyProof.Rows.F.plain_set_update_loop _];show wpAny _ A.in1 (pyNext (.ref I) >>= _) _ _ s;refine aaa (W.done s _ _ hst λs' hm=>?_);show wpAny _ A.in1 (ret Value.none) _ _ s';exact aal (hR s' (hm.mono sub) (hS.frame λo e=>hm.heap S _ W5 e))
 |succ k ih=>
  intro i s ks hk hi hl hst hS hR;have hlt:i<n:=by omega
  refine codeAny_builtin PyProof.Rows.F.entry_set_update_loop ?_;rw[Around.under_plainId PyProof.Rows.F.plain_set_update_loop _];show wpAny _ A.in1 (pyNext (.ref I) >>= _) _ _ s;refine aaa (W.item i s _ _ hlt hst λv s' hP VH hm=>?_);obtain⟨t,rfl⟩:=hval i v hP;have hS':=hS.frame (h':=s'.heap) λo e=>hm.heap S _ W5 e;show wpAny _ A.in1 (holding [Value.int (val i) t] (setAdd S (.int (val i) t)) >>= _) _ _ s';refine aaa (wpAny_holding ?_);unfold setAdd;refine wpAny_holding (aaa ((intKind prog w).pyHash (k:=val i) (intKind_is _ _ _ _) ?_));refine add_int (s:={ s' with toks:=s'.toks+1 }) hS' (by omega) λh' b sb S2=>?_;have hl2:=sf ks (val i);refine aal ⟨plainId_quiet PyProof.Rows.F.plain_set_update_loop _,ih (i+1) _ (pe ks (val i)) (by omega) hlt (by omega) (W.frame _ s' _ _ VH (le_succ _) λb hb o e=>?_) S2 λs'' M3 S3=>?_⟩
  ·rw[sb.2 b λz=>hSf (by rw[<-z];exact hb)];exact e
  ·refine hR s'' (Moved.trans W.gtrans ((hm.mono sub).then_heap (le_succ _) λb o hb e=>?_) M3) ?_
   ·rw[sb.2 b λz=>hb (by rw[z];exact aag)];exact e
   ·rw[List.range'_succ,aaq,cL];exact S3
abbrev sj(w:World):Obj:={ cls:=.type "set",dict:=none,data:=.set #[] 0 (.fresh 0 0 (!uv w)) }
theorem Jv(e:h.get? a=some (sj w)):qO prog w h a [] :=
 ⟨_,#[],0,_,e,⟨rfl,rfl,rfl⟩,rfl,λx hx=>by simp at hx,⟨by show 0<4096;decide,rfl,List.Pairwise.nil,rfl⟩,nodup_nil,λk=>by simp,rfl⟩
theorem EC(a:Value)(h:Q₁ (.ref s.heap.objs.size) { s with heap:=s.heap.push (sj w) }) :
  codeAny (model prog w) A (.call (.builtin "set.__new__") ⟨[.type "set",a],[]⟩) (wants Q₁ E) s:=by
 refine codeAny_of_tree ?_;show wpAny _ A.in1 (do checkBuiltinCall "set.__new__" ⟨[.type "set",a],[]⟩;again (.builtin "set.__new__" ⟨[.type "set",a],[]⟩)) _ _ s;refine aaa (wpAny_of_eq (PySem.F.newCall_set_1 a) (aal ⟨plainId_quiet PySem.F.plain_set_new _,codeAny_builtin PySem.F.entry_set_new ?_⟩));rw[Around.under_plainId PySem.F.plain_set_new _];unfold Builtin.«set.__new__» Builtin.Frozenset.newClass;have hsub:=sub_set_self;obtain⟨hp,g,d,tk,os⟩:=s;dsimp only
 wp_walk
 refine wpAny_askSetting (aal ?_);dsimp only;simp only[newObj];refine aaa (wpAny_alloc (aal ?_));exact aal h
end
section
variable {prog:Program} {w:World} {A:Around} {E:Value->Shared->Prop} {s:Shared}
theorem Av{ns:List Int}(hi:IntsAre vs ns):(range' 0 vs.length).map (λi=>ns.getD i 0)=ns:=by
 have hl:=IntsAre.length hi;apply ext_getElem
 ·rw[aae,List.length_range',hl]
 ·intro i h1 h2;simp[List.getD,h2]
theorem qo{ns:List Int}(hh:A.handled=none)(hl:s.heap.IsList l items)(hi:IntsAre items.toList ns)(hb:items.size+1<scanBound)
  (h:∀(h':Heap) (tk:Nat),qO prog w h' s.heap.objs.size (cL [] ns)->(∀b o,b<s.heap.objs.size->s.heap.get? b=some o->h'.get? b=some o)->Q (.ref s.heap.objs.size) { s with heap:=h',toks:=tk }) :
  wpAny (model prog w) A (call (.type "set") [.ref l]) Q E s:=by
 obtain⟨c,tl,mro⟩:=PySem.F.called_set.mro;have made:=PySem.F.called_set.made;have sub:=PySem.F.called_set.sub;refine wpAny_call (codeAny_of_tree ?_);show wpAny _ _ (callAny (.type "set") _) _ _ _;refine aal ⟨Code.quiet_builtin _ (by decide +kernel),codeAny_builtin PySem.F.entry_type_call ?_⟩;rw[Around.under_plain (weight_type_call_type "set" [.ref l] []) rfl];have n1:=PySem.F.called_set.notType;have n2:=PySem.F.called_set.canCreate;have n3:=PySem.F.typeCall_set_1 (.ref l)
 repeat (any_goals (first|assumption|wp_step))
 refine codeAny_mono (EC (.ref l) (E:=E) (Q₁:=λobj s₁=>obj=.ref s.heap.objs.size/\s₁={ s with heap:=s.heap.push (sj w) }) ⟨rfl,rfl⟩) λr s₁ hr=>?_;cases r with
 |error e=>exact hr
 |ok fl=>
  cases fl with
  |ret obj=>
   obtain⟨rfl,rfl⟩:=hr;have W6:(s.heap.push (sj w)).get? s.heap.objs.size=some (sj w):=aaA _ rfl;have hT:Shared.TypeIs { s with heap:=s.heap.push (sj w) } (.ref s.heap.objs.size) "set":=⟨_,W6,rfl⟩;have look:=PySem.F.called_set.init.lookup;have bind:=PySem.F.called_set.init.bind (.ref s.heap.objs.size)
   repeat (any_goals (first|assumption|wp_step))
   refine codeAny_mono (codeAny_call_builtin (R:=wants (λr s₂=>r=.none/\∃h' tk,s₂={ s with heap:=h',toks:=tk }/\qO prog w h' s.heap.objs.size (cL [] ns) /\
     (∀b o,b<s.heap.objs.size->s.heap.get? b=some o->h'.get? b=some o)) E) PySem.F.called_set.init.plain PySem.F.entry_set_init (check_set_init_1 hT ?_)) λr₂ s₂ VI=>?_
   ·obtain⟨ol,W7,cl,nl,dl⟩:=hl
    obtain⟨oc,od,oda,os⟩:=ol;simp only at cl dl;subst cl;subst dl;have VJ:(s.heap.push (sj w)).get? l=some { cls:=.type "list",dict:=od,data:=.seq items nl,slots:=os }:=aai _ W7;have q1:=PySem.F.sub_list_set;have q2:=PySem.F.sub_list_frozenset;have q3:(Value.type "list" == Value.type "dict")=false:=by decide
    have hl1:(s.heap.push (sj w)).IsList l items:=⟨_,VJ,rfl,nl,rfl⟩;unfold Builtin.«set.__init__» noKeywords Builtin.Frozenset.updateFrom;generalize YS:pyIter=PI
    wp_walk
    subst YS;refine wpAny_pyIter_list hl1 (aaa (wpAny_runValue ?_));have lS:l<s.heap.objs.size:=aau W7;have h3:A.in1.in1.in1.handled=none:=by simp[hh]
    have YT:l≠(s.heap.push (sj w)).objs.size:=by rw[size_push];exact aaJ (lt_succ_of_lt lS)
    have sF:s.heap.objs.size∉[(s.heap.push (sj w)).objs.size,l]:=by rw[size_push];simp only[mem_cons,not_mem_nil,or_false,not_or];exact⟨aaJ (lt_succ_self _),ne_of_gt lS⟩
    have val:∀(i:Nat) (v:Value),items[i]?=some v->∃t,v=.int ((λi=>ns.getD i 0) i) t:=λi v hv=>IntsAre.int_at hi i v (by rw[getElem?_toList];exact hv);refine EB ((Walks.list h3 _ l YT items).toS) s.heap.objs.size sF (λi=>ns.getD i 0) val (items.size-0) 0 _ [] (by omega) (zero_le _) (by simpa using hb) ⟨⟨_,aaA _ rfl,rfl,rfl⟩,hl1.push _⟩ ?s0 ?sR
    case s0=>exact Jv (aai _ W6)
    case sR=>
     intro s' hm S';obtain⟨h',g',d',tk',os'⟩:=s';have eg:g'=s.gens:=hm.gens;have ed:d'=s.drawn:=hm.drawn;have eo:os'=s.os:=hm.os;subst eg;subst ed;subst eo;refine aal ?_;show wpAny _ _ (ret Value.none) _ _ _;have e0:(range' 0 (items.size-0)).map (λi=>ns.getD i 0)=ns:=by have:=Av hi;rw[aaU]at this;exact this
     rw[e0] at S';refine aal ⟨rfl,h',tk',rfl,S',λb o hb e=>?_⟩;have b1:b≠s.heap.objs.size:=aaJ hb;have b2:b≠(s.heap.push (sj w)).objs.size:=by rw[size_push];exact aaJ (lt_succ_of_lt hb)
     exact hm.heap b o (by simp only[mem_cons,not_mem_nil,or_false,not_or];exact⟨b1,b2⟩) (aai _ (aai _ e))
   ·cases r₂ with
    |error e=>exact VI
    |ok YU=>
     cases YU with
     |ret r=>
      obtain⟨rfl,h',tk,rfl,S',hk⟩:=VI
      repeat (any_goals (first|assumption|wp_step))
      exact h _ _ S' hk
     |_=>exact VI.elim
  |_=>exact hr.elim
end
namespace SI
theorem Aw:entryFor table "set.__iter__" = some Builtin.«frozenset.__iter__» :=
 entryFor_alias (id':="frozenset.__iter__") (by kernel_rfl) rfl (by decide +kernel) (by kernel_rfl)
theorem owner:Manifest.owners.lookup (String.ofList ['r','o','t','a','r','e','t','i','_','t','e','s'].reverse)=some Manifest.sig_set_iterator:=by kernel_rfl
theorem slot_next:Slot "set_iterator" "__next__" "set_iterator.__next__" :=
 .of (owner:="set_iterator") (n:="__next__") (by rw[typeLookup_type,builtinLookup_eq_fast];kernel_rfl) (by decide +kernel) (by decide +kernel) (by decide +kernel) (by first|exact .inl (by decide +kernel)|exact .inr (by decide +kernel)) (by rw[isSubtype_type];kernel_rfl)
theorem entry_next:entryFor table "set_iterator.__next__" = some Builtin.«set_iterator.__next__»:=entryFor_of_tree (by kernel_rfl)
theorem args_next(a:Value):argsOk "set_iterator.__next__" ⟨[a],[]⟩:=by
 unfold argsOk;rw[signature?_of (id:="set_iterator.__next__") (n:=['_','_','t','x','e','n','_','_']) (o:=['r','o','t','a','r','e','t','i','_','t','e','s']) (by kernel_rfl) owner];kernel_rfl
theorem uY:Slot "set_iterator" "__iter__" "set_iterator.__iter__" :=
 .of (owner:="set_iterator") (n:="__iter__") (by rw[typeLookup_type,builtinLookup_eq_fast];kernel_rfl) (by decide +kernel) (by decide +kernel) (by decide +kernel) (by first|exact .inl (by decide +kernel)|exact .inr (by decide +kernel)) (by rw[isSubtype_type];kernel_rfl)
theorem entry_self:entryFor table "set_iterator.__iter__" = some Builtin.«dict_keyiterator.__iter__» :=
 entryFor_alias (id':="dict_keyiterator.__iter__") (by kernel_rfl) rfl (by decide +kernel) (by kernel_rfl)
theorem CT(a:Value):argsOk "set_iterator.__iter__" ⟨[a],[]⟩:=by
 unfold argsOk;rw[signature?_of (id:="set_iterator.__iter__") (n:=['_','_','r','e','t','i','_','_']) (o:=['r','o','t','a','r','e','t','i','_','t','e','s']) (by kernel_rfl) owner];kernel_rfl
end SI
section
variable {prog:Program} {w:World} {A:Around} {E:Value->Shared->Prop} {s:Shared}
def f7(h:Heap)(it:Addr)(f:Value)(i:Nat)(a:Addr)(n ep:Nat):Prop:=∃o,h.get? it=some o/\o.cls=.type "set_iterator" /\ o.data=.fields [f,.int i 0,.ref a,.int n 0,.int ep 0].toArray
theorem f7.typeIs{i:Nat}{n ep:Nat}(x:f7 s.heap it f i a n ep):s.TypeIs (.ref it) "set_iterator":=let ⟨o,ho,hc,_⟩:=x;⟨o,ho,hc⟩
theorem pq{i:Nat}{n ep:Nat}(x:f7 s.heap it f i a n ep)(h:Q (.ref it) s):wpAny (model prog w) A (pyIter (.ref it)) Q E s:=by
 refine wpAny_pyIter_slot x.typeIs SI.uY (wpAny_call_entry SI.uY x.typeIs SI.entry_self ?_ (SI.CT _));exact aal ⟨_,rfl,"set_iterator",_,x.typeIs,SI.slot_next.lookup,h⟩
end
section
variable {prog:Program} {w:World} {A:Around} {E:Value->Shared->Prop} {s:Shared}
theorem jc{ep:Nat}(ho:s.heap.get? a=some o)(hd:o.data=.set es ep t)(hf:t.fits es.size=true)(h:Q es s):wpAny (model prog w) A (setEntries a) Q E s:=by
 unfold setEntries;exact aaa (wpAny_setState_of ho hd hf (aal h))
theorem lP(h:Q (uv w) s):wpAny (model prog w) A setsByText Q E s:=by
 unfold setsByText;exact aaa (wpAny_askSetting (aal h))
theorem uZ{ep sl g:Nat}{ks:List Int}(S:fM prog w s.heap a o es ep t ks)(hb:uv w=false)(hp:(!t.plain&&decide (es.size>1))=false)
  (hQ:Q (match es[SetTable.below t.place sl]?,t.place[SetTable.below t.place sl]? with|some (_,x),some j=>some (x,j+1)|_,_=>none) s):wpAny (model prog w) A (setNext a sl g ep) Q E s:=by
 have led:t.led=true:=by rw[S.tab.led,hb];rfl
 unfold setNext;refine aaa (wpAny_setState_of S.at_ S.dat S.tab.fit ?_);dsimp only;refine aaa (lP ?_);rw[hb];simp only[false_eq_true,↓reduceIte];rw[aam (λz=>by
  have z':(!t.plain&&decide (es.size>1))=true:=z;rw[hp]at z';cases z')]
 refine aaa ?_;show wpAny _ _ (if (!t.led && !es.isEmpty)=true then Sem.unsupported "set:maker-not-led" else pure ()) _ _ _;rw[aam (by rw[led];simp)];exact aal (aal hQ)
theorem u0{ep sl g:Nat}{ks:List Int}(S:fM prog w s.heap a o es ep t ks)(hb:uv w=true)
  (hQ:Q (((pickOrder (w.params.setOrder a ep) es)[g]?).map λe=>(e.2,sl)) s):wpAny (model prog w) A (setNext a sl g ep) Q E s:=by
 unfold setNext;refine aaa (wpAny_setState_of S.at_ S.dat S.tab.fit ?_);dsimp only;refine aaa (lP ?_);rw[hb];simp only[bne_self_eq_false,false_eq_true,↓reduceIte];unfold setWalk;refine aaa (aaa (wpAny_setState_of S.at_ S.dat S.tab.fit ?_));dsimp only;refine aaa (lP ?_);rw[hb];simp only[↓reduceIte];exact aaa (wpAny_askSetting (aal (aal hQ)))
theorem nP{ep:Nat}{ks:List Int}{i sl:Nat}(hh:A.handled=none)(x:f7 s.heap it (.int sl 0) i a es.size ep)(S:fM prog w s.heap a o es ep t ks)
  (hn:∀(A:Around) (E:Value->Shared->Prop) (Q:Option (Value×Nat)->Shared->Prop),Q r s->wpAny (model prog w) A (setNext a sl i ep) Q E s)
  (hQ:∀v nx,r=some (v,nx)->∀h',f7 h' it (.int (nx:Nat) 0) (i+1) a es.size ep->Heap.SameBut it s.heap h'->Q (some v) { s with heap:=h' })
  (hE:r=none->∀h',Heap.ExtBut it s.heap h'->Q none { s with heap:=h' }):wpAny (model prog w) A (pyNext (.ref it)) Q E s:=by
 obtain⟨oi,Iq,VL,hdi⟩:=id x;unfold pyNext;refine aaa (wpAny_attempt (wpAny_callSpecial?_slot (name:=Str.ofString "__next__") x.typeIs SI.slot_next (wpAny_call_entry SI.slot_next x.typeIs SI.entry_next ?_ (SI.args_next _))));unfold Builtin.«set_iterator.__next__»;refine aaa (aal ?_);refine aaa (wpAny_fieldsOf Iq hdi ?_);dsimp only;refine aaa (jc S.at_ S.dat S.tab.fit ?_);rw[aam (by simp)];refine aaa (hn _ _ _ ?_);cases r with
 |some p=>
  obtain⟨v,nx⟩:=p;dsimp only;refine aaa (wpAny_setField Iq hdi (by simp) ?_);have h1:=get?_update_self (Obj.mapFields (·.setIfInBounds 0 (rawInt nx))) Iq (Obj.isFreed_of_fields (Obj.data_mapFields hdi _));have d1:=Obj.data_mapFields hdi (·.setIfInBounds 0 (rawInt nx));refine aaa (wpAny_setField h1 d1 (by simp) ?_);have h2:=get?_update_self (Obj.mapFields (·.setIfInBounds 1 (rawInt ((i:Int)+1)))) h1 (Obj.isFreed_of_fields (Obj.data_mapFields d1 _));refine aal ⟨_,rfl,aal (hQ v nx rfl _ ⟨_,h2,?_,?_⟩ ((Heap.SameBut.update ..).trans (Heap.SameBut.update ..)))⟩
  ·rw[Obj.cls_mapFields,Obj.cls_mapFields];exact VL
  ·rw[Obj.data_mapFields d1];simp[rawInt]
 |none=>dsimp only;refine aaa (wpAny_setField Iq hdi (by simp) ?_);refine aaa ?_;simp only[newExc,newTuple];refine aaa (aa0 ?_ (by size_fits));refine aaa (m:=firstArgMember _ _) (wpAny_of_eq (a:=Value.none) (by first|rfl|(simp only[firstArgMember];rfl)) ?_);refine aa0 ?_ (by size_fits);simp only[raiseNew];refine aaa (wpAny_handled ?_);rw[show A.in1.handled=none from hh];refine aaa (aal (wpAny_throw ?_));refine aaa (wpAny_isInstance (T:="StopIteration") (b:=true) ⟨_,aaA _ rfl,rfl⟩ isSubtype_stop ?_);exact aal (hE rfl _ (((Heap.SameBut.update ..).extBut.push _).push _))
end
theorem mX{α:Type}:∀(l:List α) (i:Nat) (h:i<l.length),(l[i]::l.eraseIdx i).Perm l
 |x::l,0,_=>List.Perm.refl _
 | x::l,i+1,h=>by
  simp only[List.getElem_cons_succ,eraseIdx_cons_succ];exact(List.Perm.swap _ _ _).trans (List.Perm.cons x (mX l i (by simpa using h)))
section
variable {prog:Program} {w:World} {A:Around} {E:Value->Shared->Prop} {s:Shared}
theorem CU{n:Nat}(hn:n≠0)(h:∀i d,i<n->Q i { s with drawn:=d }):wpAny (model prog w) A (choose src n) Q E s:=fun Γ p hΓ=>by
 show Sem.wp _ _ (Sem.choose src n Sem.pure) _ _ _ _;rw[Sem.wp];exact⟨hn,h _ _ (mod_lt _ (Nat.pos_of_ne_zero hn))⟩
theorem Be{α:Type}:∀(n:Nat) (xs:List α) (s:Shared) (Q:List α -> Shared->Prop),xs.length=n->(∀ys d,ys.Perm xs->Q ys { s with drawn:=d })->wpAny (model prog w) A (drawOrder n xs) Q E s
 | 0,xs,s,Q,hl,h=>by
  have:xs=[]:=List.eq_nil_of_length_eq_zero hl;subst this;unfold drawOrder;exact aal (h [] s.drawn (List.Perm.refl _))
 |n+1,[],s,Q,hl,h=>by simp at hl
 | n+1,x::xs,s,Q,hl,h=>by
  unfold drawOrder;refine aaa (CU (by simp) λi d hi=>?_);have hx:(x::xs)[i]?=some ((x::xs)[i]):=aax hi;rw[hx];dsimp only;refine aaa (Be n ((x::xs).eraseIdx i) _ _ (by rw[length_eraseIdx,aak hi];simp at hl |-;omega) λys d' p=>aal ?_);exact h _ d' (((List.Perm.cons _ p).trans (mX _ i hi)))
theorem su{ep c:Nat}{ks:List Int}{i:Nat}{ps:List Nat}(hh:A.handled=none)(x:f7 s.heap it (.ref td) i a es.size ep)(S:fM prog w s.heap a o es ep t ks)
  (hT:s.heap.get? td=some oT) (Uv:oT.data=.seq (ps.map λ(j:Nat)=>rawInt j).toArray c) (hlt:∀j∈ps,j<es.size)
  (hQ:∀j e,ps[i]?=some j->es[j]?=some e->∀h',f7 h' it (.ref td) (i+1) a es.size ep->Heap.SameBut it s.heap h'->Q (some e.2) { s with heap:=h' })
  (hE:ps[i]?=none->∀h',Heap.ExtBut it s.heap h'->Q none { s with heap:=h' }):wpAny (model prog w) A (pyNext (.ref it)) Q E s:=by
 obtain⟨oi,Iq,VL,hdi⟩:=id x;unfold pyNext;refine aaa (wpAny_attempt (wpAny_callSpecial?_slot (name:=Str.ofString "__next__") x.typeIs SI.slot_next (wpAny_call_entry SI.slot_next x.typeIs SI.entry_next ?_ (SI.args_next _))));unfold Builtin.«set_iterator.__next__»;refine aaa (aal ?_);refine aaa (wpAny_fieldsOf Iq hdi ?_);dsimp only;refine aaa (jc S.at_ S.dat S.tab.fit ?_);rw[aam (by simp)];refine aaa (wpAny_seqItems hT Uv ?_);dsimp only;have hg:((ps.map λ(j:Nat)=>rawInt j).toArray)[((i:Nat):Int).toNat]?=(ps[i]?).map λ(j:Nat)=>rawInt j:=by simp
 rw[hg];cases hp:ps[i]? with
 |some j=>
  have hj:j<es.size:=hlt j (aaL hp);simp only[map_some,rawInt];refine aaa ?_;unfold setNextDrawn;refine aaa (wpAny_setState_of S.at_ S.dat S.tab.fit ?_);dsimp only;rw[aam (by simp)];have YV:es[((j:Nat):Int).toNat]?=some es[j]:=by simp[hj]
  rw[YV];refine aal ?_;refine aaa (wpAny_setField Iq hdi (by simp) ?_);have h2:=get?_update_self (Obj.mapFields (·.setIfInBounds 1 (.int ((i:Int)+1) 0))) Iq (Obj.isFreed_of_fields (Obj.data_mapFields hdi _));refine aal ⟨_,rfl,aal (hQ j _ hp (Array.getElem?_eq_getElem hj) _ ⟨_,h2,?_,?_⟩ (Heap.SameBut.update ..))⟩
  ·rw[Obj.cls_mapFields];exact VL
  ·rw[Obj.data_mapFields hdi];simp
 |none=>simp only[Option.map_none];refine aaa (wpAny_setField Iq hdi (by simp) ?_);have h1:=get?_update_self (Obj.mapFields (·.setIfInBounds 0 (rawInt 0))) Iq (Obj.isFreed_of_fields (Obj.data_mapFields hdi _));have d1:=Obj.data_mapFields hdi (·.setIfInBounds 0 (rawInt 0));refine aaa (wpAny_setField h1 d1 (by simp) ?_);refine aaa ?_;simp only[newExc,newTuple];refine aaa (aa0 ?_ (by size_fits));refine aaa (m:=firstArgMember _ _) (wpAny_of_eq (a:=Value.none) (by first|rfl|(simp only[firstArgMember];rfl)) ?_);refine aa0 ?_ (by size_fits);simp only[raiseNew];refine aaa (wpAny_handled ?_);rw[show A.in1.handled=none from hh];refine aaa (aal (wpAny_throw ?_));refine aaa (wpAny_isInstance (T:="StopIteration") (b:=true) ⟨_,aaA _ rfl,rfl⟩ isSubtype_stop ?_);exact aal (hE hp _ ((((Heap.SameBut.update ..).trans (Heap.SameBut.update ..)).extBut.push _).push _))
end
theorem u5{α:Type}(f:Nat->Nat):∀(n k:Nat) (l:List α) (out:Array α),l.length=n->(pickOrder.go f n k l out).toList.Perm (out.toList++l)
 | 0,k,l,out,h=>by
  have:l=[]:=List.eq_nil_of_length_eq_zero h;subst this;unfold pickOrder.go;simp
 | n+1,k,l,out,h=>by
  unfold pickOrder.go;have hl:0<l.length:=by omega
  have hi:f k%l.length<l.length:=mod_lt _ hl;rw[aax hi];dsimp only;refine(u5 f n (k+1) _ _ (by rw[length_eraseIdx,aak hi];omega)).trans ?_;rw[Array.toList_push,aaS];exact List.Perm.append_left _ (mX l _ hi)
theorem u6{t:SetTable}{n:Nat}(h:t.fits n=true):t.place.size=n:=by
 simp only[SetTable.fits,and_eq_true,beq_iff_eq]at h;exact h.1
def Uw(t:SetTable):Nat->Nat
 |0=>0
 |i+1=>t.place.getD i 0+1
theorem u7(r:uW t.place):∀i,i<=t.place.size->SetTable.below t.place (Uw t i)=i
 |0,_=>As r
 | i+1,h=>by
  have hi:i<t.place.size:=h;have e:Uw t (i+1)=t.place[i]+1:=by simp[Uw,Array.getD,hi]
  rw[e];exact Au r hi
section
variable {prog:Program} {w:World} {A:Around} {E:Value->Shared->Prop} {s:Shared}
theorem fM.keep{ep:Nat}{ks:List Int}(S:fM prog w h a o es ep t ks)(k:∀o,h.get? a=some o->h'.get? a=some o):fM prog w h' a o es ep t ks:={ S with at_:=k o S.at_ }
theorem f7.keep{i:Nat}{n ep:Nat}(x:f7 h it f i a n ep)(k:∀o,h.get? it=some o->h'.get? it=some o):f7 h' it f i a n ep:=by
 obtain⟨o,ho,r⟩:=x;exact⟨o,k o ho,r⟩
def PL(L:List (Int×Value))(i:Nat)(v:Value):Prop:=∃e,L[i]?=some e/\v=e.2
theorem CV(hh:A.handled=none){ep:Nat}{ks:List Int}(hne:a≠I)(hb:uv w=false)(hp:(!t.plain&&decide (es.size>1))=false) :
  Walks prog w A I [I,a] [I] es.toList.length (PL es.toList) (λi h=>fM prog w h a o es ep t ks/\f7 h I (.int (Uw t i) 0) i a es.size ep) where
 sub:=λb hb=>by simp at hb;simp[hb]
 frame:=λ_ _ _ st hk=>⟨st.1.keep λo e=>hk a (by simp) o e,st.2.keep λo e=>hk I (by simp) o e⟩
 item:=λi s Q E hi st hQ=>by
  have hi:i<es.size:=by simpa using hi
  have hz:=u6 st.1.tab.fit;have hb':=u7 st.1.tab.rs i (by rw[hz];exact Nat.le_of_lt hi);refine nP (r:=some (es[i].2,t.place.getD i 0+1)) hh st.2 st.1 (λA E Q q=>uZ st.1 hb hp ?_) (λv nx e h' x' sb=>?_) (λe=>nomatch e)
  ·rw[hb',Array.getElem?_eq_getElem hi,Array.getElem?_eq_getElem (by rw[hz];exact hi)]
   have e1:t.place[i]'(by rw[hz];exact hi)=t.place.getD i 0:=by simp[Array.getD,hz,hi]
   dsimp only;rw[e1];exact q
  ·cases e;exact hQ _ h' s.toks ⟨es[i],by simp[hi],rfl⟩ ⟨st.1.keep λo e=>sb.extBut a o hne e,x'⟩ λb o hb e=>sb.extBut b o (λz=>hb (by simp[z])) e
 done:=λs Q E st hQ=>by
  have hz:=u6 st.1.tab.fit;have hb':=u7 st.1.tab.rs es.toList.length (by rw[hz];simp);refine nP (r:=none) hh st.2 st.1 (λA E Q q=>uZ st.1 hb hp ?_) (λv nx e=>nomatch e) (λ_ h' sb=>hQ h' s.toks λb o hb e=>sb b o (λz=>hb (by simp[z])) e);rw[hb',Array.getElem?_eq_none (by simp)];exact q
 self:=λ_ _ _ _ st hQ=>pq st.2 hQ
theorem CW(hh:A.handled=none){ep:Nat}{ks:List Int}(hne:a≠I)(hb:uv w=true) :
  Walks prog w A I [I,a] [I] (pickOrder (w.params.setOrder a ep) es).toList.length (PL (pickOrder (w.params.setOrder a ep) es).toList) (λi h=>fM prog w h a o es ep t ks/\f7 h I (.int (0:Nat) 0) i a es.size ep) where
 sub:=λb hb=>by simp at hb;simp[hb]
 frame:=λ_ _ _ st hk=>⟨st.1.keep λo e=>hk a (by simp) o e,st.2.keep λo e=>hk I (by simp) o e⟩
 item:=λi s Q E hi st hQ=>by
  have hi:i<(pickOrder (w.params.setOrder a ep) es).size:=by simpa using hi
  refine nP (r:=some ((pickOrder (w.params.setOrder a ep) es)[i].2,0)) hh st.2 st.1 (λA E Q q=>u0 st.1 hb ?_) (λv nx e h' x' sb=>?_) (λe=>nomatch e)
  ·rw[Array.getElem?_eq_getElem hi];exact q
  ·cases e;exact hQ _ h' s.toks ⟨(pickOrder (w.params.setOrder a ep) es)[i],by simp[hi],rfl⟩ ⟨st.1.keep λo e=>sb.extBut a o hne e,x'⟩ λb o hb e=>sb.extBut b o (λz=>hb (by simp[z])) e
 done:=λs Q E st hQ=>by
  refine nP (r:=none) hh st.2 st.1 (λA E Q q=>u0 st.1 hb ?_) (λv nx e=>nomatch e) (λ_ h' sb=>hQ h' s.toks λb o hb e=>sb b o (λz=>hb (by simp[z])) e);rw[Array.getElem?_eq_none (by simp)];exact q
 self:=λ_ _ _ _ st hQ=>pq st.2 hQ
theorem Ax(hh:A.handled=none){ep c:Nat}{ks:List Int}{ps:List Nat}(hne:a≠I)(hnt:td≠I)(hlt:∀j∈ps,j<es.size)(Uv:oT.data=.seq (ps.map λ(j:Nat)=>rawInt j).toArray c) :
  Walks prog w A I [I,a,td] [I] ps.length (PL (ps.map λj=>es.getD j (0,.none))) (λi h=>fM prog w h a o es ep t ks/\f7 h I (.ref td) i a es.size ep/\h.get? td=some oT) where
 sub:=λb hb=>by simp at hb;simp[hb]
 frame:=λ_ _ _ st hk=>⟨st.1.keep λo e=>hk a (by simp) o e,st.2.1.keep λo e=>hk I (by simp) o e,hk td (by simp) _ st.2.2⟩
 item:=λi s Q E hi st hQ=>by
  refine su hh st.2.1 st.1 st.2.2 Uv hlt (λj e hj he h' x' sb=>?_) (λhn=>absurd hn (by rw[aax hi];simp));refine hQ _ h' s.toks ⟨e,?_,rfl⟩ ⟨st.1.keep λo e=>sb.extBut a o hne e,x',sb.extBut td _ hnt st.2.2⟩ λb o hb e=>sb.extBut b o (λz=>hb (by simp[z])) e;rw[aaF,hj];have hjl:j<es.size:=(Array.getElem?_eq_some_iff.mp he).1;have:=(Array.getElem?_eq_some_iff.mp he).2;simp[Array.getD,hjl,this]
 done:=λs Q E st hQ=>su hh st.2.1 st.1 st.2.2 Uv hlt (λj e hj=>absurd hj (by simp)) (λ_ h' sb=>hQ h' s.toks λb o hb e=>sb b o (λz=>hb (by simp[z])) e)
 self:=λ_ _ _ _ st hQ=>pq st.2.1 hQ
end
section
variable {prog:Program} {w:World} {A:Around} {E:Value->Shared->Prop} {s:Shared}
theorem ED{ep:Nat}{ks:List Int}(S:fM prog w s.heap a o es ep t ks)(h:Q (!uv w&&(!t.plain&&decide (es.size>1))) s):wpAny (model prog w) A (setDrawn a) Q E s:=by
 unfold setDrawn;refine aaa (wpAny_setState_of S.at_ S.dat S.tab.fit ?_);dsimp only;exact aaa (lP (aal h))
theorem yl{ep:Nat}{ks:List Int}(S:fM prog w s.heap a o es ep t ks)(h:Q ep s):wpAny (model prog w) A (setEpoch a) Q E s:=wpAny_setEpoch_of S.at_ S.dat S.tab.fit h
theorem EE(hh:A.handled=none){ep:Nat}{ks:List Int}(S:fM prog w s.heap a o es ep t ks)
  (hQ:∀(h':Heap) d (I:Addr) (fp:List Addr) (L:List (Int×Value)) (St:Nat->Heap->Prop),L.Perm es.toList->Walks prog w A I fp [I] L.length (PL L) St->St 0 h'->s.heap.objs.size<=I->I<h'.objs.size->(∀b∈fp,b=a\/s.heap.objs.size<=b)->(∀b o,s.heap.get? b=some o->h'.get? b=some o)->Q (.ref I) { s with heap:=h',drawn:=d }) :
  wpAny (model prog w) A (pyIter (.ref a)) Q E s:=by
 have hT:s.TypeIs (.ref a) "set":=⟨o,S.at_,S.ex.1⟩;have hlt:a<s.heap.objs.size:=aau S.at_;refine wpAny_pyIter_slot hT PySem.F.slot_set_iter (wpAny_call_entry PySem.F.slot_set_iter hT SI.Aw ?_ (PySem.F.args_set_iter_1 _));unfold Builtin.«frozenset.__iter__» Builtin.Frozenset.slot0 Builtin.Frozenset.sizeOf;refine aaa (aaa (aal (aal ?_)));refine aaa (aaa (jc S.at_ S.dat S.tab.fit (aal ?_)));refine aaa (ED S ?_);cases hd:(!uv w&&(!t.plain&&decide (es.size>1))) with
 |false=>
  simp only[false_eq_true,↓reduceIte];refine aaa (aal ?_);refine aaa (yl S ?_);refine aaa (aa0 (aal ⟨_,rfl,"set_iterator",_,⟨_,aaA _ rfl,rfl⟩,SI.slot_next.lookup,?_⟩));have e:s={ s with drawn:=s.drawn }:=by cases s;rfl
  have W8:∀b∈[s.heap.objs.size,a],b=a\/s.heap.objs.size<=b:=λb hb=>by
   simp only[mem_cons,not_mem_nil,or_false]at hb
   rcases hb with rfl|rfl
   ·exact .inr (aao _)
   ·exact .inl rfl
  have sz:s.heap.objs.size<(s.heap.push { cls:=.type "set_iterator",data:=.fields ([rawInt 0,rawInt 0,.ref a,rawInt es.size,rawInt ep]:List Value).toArray }).objs.size:=by rw[size_push];exact lt_succ_self _
  cases hb:uv w with
  |true=>exact hQ _ s.drawn _ _ _ _ (u5 _ _ 0 es.toList #[] (by simp)) (CW hh (aaJ hlt) hb) ⟨S.keep λo e=>aai _ e,⟨_,aaA _ rfl,rfl,rfl⟩⟩ (aao _) sz W8 λb o e=>aai _ e
  |false=>rw[hb]at hd;exact hQ _ s.drawn _ _ _ _ (List.Perm.refl _) (CV hh (aaJ hlt) hb (by simpa using hd)) ⟨S.keep λo e=>aai _ e,⟨_,aaA _ rfl,rfl,rfl⟩⟩ (aao _) sz W8 λb o e=>aai _ e
 |true=>
  simp only[↓reduceIte];refine aaa (Be es.size (List.range es.size) s _ (by simp) λps d pp=>?_);refine aaa ?_;simp only[newTuple];refine aa0 ?_ (by show (toArray _).size<=sizeLine;rw[aay,aae,pp.length_eq,length_range];exact fits_of_scanBound S.tab.few);have S1:fM prog w (s.heap.push { cls:=.type "tuple",data:=.seq (ps.map λ(i:Nat)=>rawInt i).toArray }) a o es ep t ks:=S.keep λo e=>aai _ e;refine aaa (yl S1 ?_);refine aaa (aa0 (aal ⟨_,rfl,"set_iterator",_,⟨_,aaA _ rfl,rfl⟩,SI.slot_next.lookup,?_⟩));have hpl:∀j∈ps,j<es.size:=λj hj=>by simpa using pp.mem_iff.mp hj
  have perm:(ps.map λj=>es.getD j (0,Value.none)).Perm es.toList:=by
   have e2:(List.range es.size).map (λj=>es.getD j (0,Value.none))=es.toList:=by
    apply ext_getElem
    ·simp
    ·intro i h1 h2
     have hi:i<es.size:=by simpa using h2
     simp[Array.getD,hi]
   rw[<-e2];exact pp.map _
  have z1:(s.heap.push { cls:=.type "tuple",data:=.seq (ps.map λ(i:Nat)=>rawInt i).toArray }).objs.size=s.heap.objs.size+1:=size_push _ _;have W:=Ax (prog:=prog) (w:=w) (A:=A) (o:=o) (ep:=ep) (t:=t) (ks:=ks) hh (I:=s.heap.objs.size+1) (a:=a) (td:=s.heap.objs.size) (oT:={ cls:=.type "tuple",data:=.seq (ps.map λ(i:Nat)=>rawInt i).toArray }) (es:=es) (c:=0) (ps:=ps) (aaJ (lt_succ_of_lt hlt)) (aaJ (lt_succ_self _)) hpl rfl;rw[show ps.length=(ps.map λj=>es.getD j (0,Value.none)).length by simp] at W;rw[z1];refine hQ _ d _ _ _ _ perm W ⟨S1.keep λo e=>aai _ e,⟨{ cls:=.type "set_iterator",data:=.fields ([.ref s.heap.objs.size,rawInt 0,.ref a,rawInt es.size,rawInt ep]:List Value).toArray },?_,rfl,rfl⟩,aai _ (aaA _ rfl)⟩ (le_succ _) ?_ ?_ λb o e=>aai _ (aai _ e)
  ·rw[<-z1];exact aaA _ rfl
  ·rw[size_push,z1];exact lt_succ_self _
  ·intro b hb
   simp only[mem_cons,not_mem_nil,or_false]at hb
   rcases hb with rfl|rfl|rfl
   ·exact .inr (le_succ _)
   ·exact .inl rfl
   ·exact .inr (aao _)
end
section
variable {prog:Program} {w:World} {A:Around} {E:Value->Shared->Prop} {s:Shared}
theorem EF(hT:s.TypeIs (.ref r) "set")(h:Q false s):wpAny (model prog w) A (Builtin.List.listLengthHint (.ref r)) Q E s:=by
 unfold Builtin.List.listLengthHint;refine aaa (wpAny_specialOf hT PySem.F.slot_set_len.lookup ?_);generalize hid:("set.__len__":String)=YW
 wp_delta
 rw[show splitId YW=some ("set","__len__") from by subst hid;decide +kernel];subst hid;refine aaa (wpAny_isInstance (T:="set") (b:=true) hT sub_set_self ?_);refine wpAny_ite_split (λz=>absurd z (by decide)) (λ_=>?_);refine wpAny_ite_split (λ_=>?_) (λz=>absurd (by decide +kernel) z);exact aaa (wpAny_typeOf hT (aal h))
theorem ym(hh:A.handled=none){ep:Nat}{ks:List Int}(S:fM prog w s.heap a o es ep t ks)
  (h:∀(h':Heap) (tk:Nat) d (L:List (Int×Value)),(∀b o,s.heap.get? b=some o->h'.get? b=some o)->s.heap.objs.size<h'.objs.size->L.Perm es.toList->R (L.map (·.2)) { s with heap:=h',toks:=tk,drawn:=d }) :
  wpAny (model prog w) A (collect (.ref a)) R E s:=by
 have hlt:a<s.heap.objs.size:=aau S.at_;unfold collect;refine aaa (wpAny_runValue (codeAny_builtin entry_proto_collect' ?_));rw[Around.under_plainId PySem.F.plain_proto_collect _];show wpAny _ A.in1 (newList [] >>= λl=>again (.builtin "list.__iadd__" ⟨[l,.ref a],[]⟩)) _ _ s;refine aaa (aa0 ?_);refine aal ⟨plainId_quiet PySem.F.plain_list_iadd _,codeAny_builtin entry_list_iadd' ?_⟩;rw[Around.under_plainId PySem.F.plain_list_iadd _]
 let s1:Shared:={ s with heap:=s.heap.push { cls:=.type "list",data:=.seq ([]:List Value).toArray } }
 have l1:s1.heap.get? s.heap.objs.size=some { cls:=.type "list",data:=.seq #[] }:=aaA _ rfl;have S1:fM prog w s1.heap a o es ep t ks:=S.keep λo e=>aai _ e;have z1:s1.heap.objs.size=s.heap.objs.size+1:=size_push _ _;have hT:s1.TypeIs (.ref a) "set":=⟨o,S1.at_,S1.ex.1⟩;show wpAny _ A.in1 (Builtin.List.listExtendWith (.ref s.heap.objs.size) (.ref a) (.ref s.heap.objs.size)) _ _ s1;unfold Builtin.List.listExtendWith;refine aaa (wpAny_typeOf hT ?_);have n1:Builtin.List.listSameRef (.ref s.heap.objs.size) (.ref a)=false:=by simp[Builtin.List.listSameRef,ne_of_gt hlt]
 simp only[n1,show (Value.type "set" == Value.type "list")=false by decide,show (Value.type "set" == Value.type "tuple")=false by decide,Bool.or_false,false_eq_true,if_false];refine aaa (EE (A:=A.in1) (by simp[hh]) S1 λh2 d I fp L St perm W st zI zI2 hfp k2=>?_);have l2:h2.get? s.heap.objs.size=some { cls:=.type "list",data:=.seq #[] }:=k2 _ _ l1;have nfp:s.heap.objs.size∉fp:=λz=>by
  rcases hfp _ z with e|e
  ·exact absurd e (ne_of_gt hlt)
  ·rw[z1]at e;exact absurd e (Nat.not_succ_le_self _)
 have hl:L.length<=sizeLine:=by rw[perm.length_eq,aaU];exact fits_of_scanBound S.tab.few
 have key:∀(hp:Heap) (c₁:Nat) (Rr:Result->Shared->Prop),St 0 hp->(∀b o,b≠s.heap.objs.size->h2.get? b=some o->hp.get? b=some o)->hp.get? s.heap.objs.size=some { cls:=.type "list",data:=.seq #[] c₁ } ->
   (∀(s':Shared) (acc:Array Value) (c:Nat),s'.heap.get? s.heap.objs.size=some { cls:=.type "list",dict:=none,data:=.seq acc c,slots:=#[] }->R acc.toList s'->Rr (.ok (.ret (.ref s.heap.objs.size))) s') ->
   codeAny (model prog w) A (.builtin "list.extend.loop" ⟨[.ref s.heap.objs.size,.ref I,.ref s.heap.objs.size],[]⟩) Rr { s1 with heap:=hp,drawn:=d }:=by
  intro hp c₁ Rr hst hk hS hR;refine codeAny_extend_loopS W.toS hl s.heap.objs.size nfp (.ref s.heap.objs.size) L.length 0 _ #[] c₁ rfl (zero_le _) hst hS (ItemsOf.nil _) λs' acc c hm hS' hacc=>?_;refine hR s' acc c hS' ?_;have ea:acc.toList=L.map (·.2):=by
   apply ext_getElem
   ·rw[aaU,hacc.1,aae]
   ·intro j h1 h2
    have hj:j<acc.size:=by simpa using h1
    obtain⟨e,he,hv⟩:=hacc.2 j acc[j] (Array.getElem?_eq_getElem hj);rw[Array.getElem_toList,hv,getElem_map];obtain⟨hj2,e2⟩:=aah.mp he;rw[e2]
  rw[ea,Moved.eq_with hm];refine h s'.heap s'.toks d L (λb o e=>?_) (aau hS') perm;have hb:b<s.heap.objs.size:=aau e;refine hm.heap b o (λz=>?_) (hk b o (aaJ hb) (k2 b o (aai _ e)))
  rcases aaw.mp z with z|z
  ·exact absurd z (aaJ hb)
  ·rw[aap]at z;rw[z]at hb;rw[z1]at zI;exact absurd (aaz hb (Nat.le_of_succ_le zI)) (lt_irrefl _)
 have fin:∀(s':Shared) (acc:Array Value) (c:Nat),s'.heap.get? s.heap.objs.size=some { cls:=.type "list",dict:=none,data:=.seq acc c,slots:=#[] }->R acc.toList s'->wpAny (model prog w) A (load s.heap.objs.size >>= λob=>(match ob.data with|.seq xs _=>pure xs.toList|_=>unsupported "internal:collect")) R E s':=λs' acc c e q=>aaa (wpAny_load e (aal q));refine aaa (wpAny_holding (EF ⟨o,k2 _ _ S1.at_,S1.ex.1⟩ ?_));refine wpAny_ite_split (λ_=>?_) (λ_=>aal ⟨plainId_quiet PySem.F.plain_extend_loop _,key _ 0 _ st (λb o _ e=>e) l2 fin⟩);refine aaa (wpAny_rule ?_);refine aaa ?_;show wpAny _ _ (updateSeq s.heap.objs.size (·.push .none) >>= λ_=>updateSeq s.heap.objs.size (·.pop)) _ _ _;refine aaa (wpAny_updateSeq l2 rfl ?_);have l3:=get?_update_self (Obj.mapSeq (·.push Value.none)) l2 rfl;refine wpAny_updateSeq (hz:=by seq_fits) l3 rfl ?_;have l4:=get?_update_self (Obj.mapSeq (·.pop)) l3 rfl;have oth:∀b o,b≠s.heap.objs.size->h2.get? b=some o->((h2.update s.heap.objs.size (Obj.mapSeq (·.push Value.none))).update s.heap.objs.size (Obj.mapSeq (·.pop))).get? b=some o:=λb o hb e=>(Heap.get?_update_other _ _ (Ne.symm hb)).trans ((Heap.get?_update_other _ _ (Ne.symm hb)).trans e);exact aal ⟨plainId_quiet PySem.F.plain_extend_loop _,key _ _ _ (W.frame 0 _ _ st λb hb o e=>oth b o (λz=>nfp (z▸hb)) e) oth l4 fin⟩
end
theorem yo:∀(ks ns:List Int),ks.Nodup->(∀k∈ks,k∈ns)->ks.length=ns.length->ks.Perm ns
 | [],ns,_,_,h=>by
  have:ns=[]:=List.eq_nil_of_length_eq_zero h.symm;subst this;exact List.Perm.refl _
 | k::ks,ns,nd,hs,hl=>by
  have hk:=hs k aag;have Ry:=aaI.mp nd;have p:=List.perm_cons_erase hk;refine(List.Perm.cons k (yo ks (ns.erase k) Ry.2 (λx hx=>?_) ?_)).trans p.symm
  ·exact(List.mem_erase_of_ne λz=>Ry.1 (by rw[<-z];exact hx)).mpr (hs x (aac _ hx))
  ·rw[List.length_erase_of_mem hk];simp only[length_cons]at hl;omega
def yq:Value->Int
 |.int i _=>i
 |_=>0
section
variable {prog:Program} {w:World} {A:Around} {E:Value->Shared->Prop} {s:Shared}
theorem sy:∀{L:List (Int×Value)},ElemsOf (intKind prog w) L->IntsAre (L.map (·.2)) (L.map λe=>yq e.2)
 |[],_=>.nil
 | (h,v)::L,el=>by
  obtain⟨⟨k,hk,_⟩,_⟩:=el _ aag;obtain⟨t,e⟩:=Value.isInt_shape (k:=k) (v:=v) hk;subst e;exact .cons k t (sy λx hx=>el x (aac _ hx))
theorem EG{h:Heap}{a:Addr}{o:Obj}{es:Array (Int×Value)}{ep:Nat}{t:SetTable}{ks:List Int}(S:fM prog w h a o es ep t ks){L:List (Int×Value)}(p:L.Perm es.toList):(L.map λe=>yq e.2).Perm ks:=by
 refine(yo ks _ S.W3 (λk hk=>?_) ?_).symm
 ·obtain⟨e,he,q⟩:=(S.mem k).mp hk;obtain⟨t',ev⟩:=Value.isInt_shape (k:=k) (v:=e.2) q;exact aaW.mpr ⟨e,p.mem_iff.mpr he,by rw[ev];rfl⟩
 ·have:=S.num;rw[aae,p.length_eq,aaU];exact this.symm
theorem Ay(hh:A.handled=none){ep:Nat}{ks:List Int}(S:fM prog w s.heap a o es ep t ks)(h64:ks.length<64)
  (hQ:∀(h':Heap) (tk:Nat) d (D:Addr) (out:List Value) (e:Nat),(∀b o,s.heap.get? b=some o->h'.get? b=some o)->s.heap.objs.size<=D->h'.get? D=some (seqObj "list" out.toArray e)->IntsAre out (sortI ks)->Q (.ref D) { s with heap:=h',toks:=tk,drawn:=d }) :
  wpAny (model prog w) A (call (.builtin "sorted") [.ref a]) Q E s:=by
 refine qM.iH (O:=qM.r8) (ym (A:=A.in1) (by simp[hh]) S λh' tk d L hk hz perm=>?_);have el:ElemsOf (intKind prog w) L:=S.el.perm perm;have hI:=sy el;have pk:=EG S perm;have hl:(L.map (·.2)).length<64:=by rw[aae];have:=pk.length_eq;rw[aae]at this;omega
 refine⟨hl,λi=>(L.map λe=>yq e.2).getD i 0,λh2 h6 _=>qM.r9 hI h2,λp h'' outs k2 he=>?_⟩;obtain⟨e,he⟩:=he;have lv:(L.map (·.2)).length=(L.map λe=>yq e.2).length:=by rw[aae,aae]
 have mem:∀i∈p,i<L.length:=λi hi=>by have:=outs.perm.mem_iff.mp hi;simpa using this
 have pn:(p.map λi=>(L.map λe=>yq e.2).getD i 0).Perm ks:=by have:=outs.perm.map λi=>(L.map λe=>yq e.2).getD i 0;rw[lv,qM.dD]at this;exact this.trans pk
 have up:(p.map λi=>(L.map λe=>yq e.2).getD i 0).Pairwise (· <= ·):=by refine List.Pairwise.imp (R:=qM.r8.kle) (λ{x y:Int} hxy=>?_) outs.up;have hxy:(decide (y<x):Bool)=false:=hxy;exact not_lt.mp (of_decide_eq_false hxy)
 have es:=eq_sortI pn up;refine hQ h'' tk d h'.objs.size _ e (λb o z=>k2 b o (hk b o z)) (Nat.le_of_lt hz) he ?_;rw[<-es];clear he es up pn outs
 induction p with
 |nil=>exact .nil
 |cons i r ih=>
  have hi:=mem i aag;have hi2:i<(L.map (·.2)).length:=by simpa using hi
  obtain⟨t',ev⟩:=IntsAre.int_at hI i _ (aax hi2);rw[aaq,aaq];have e1:(L.map (·.2)).getD i Value.none=.int ((L.map λe=>yq e.2).getD i 0) t':=by rw[<-ev];simp[List.getD,List.getElem?_eq_getElem hi]
  rw[e1];exact .cons _ t' (ih λj hj=>mem j (aac _ hj))
end
end L2
end
section
namespace L2
open PySem PySem.Spec PyProof.Rows
section
variable {X:Cx}
theorem Inv.draws(I:Inv X pins σ H s)(d:Drawn):Inv X pins σ H { s with drawn:=d }:=⟨I.ok,I.os,I.bare,I.base,I.loc,I.cell,I.free,I.kq,I.pin,I.hok,I.len⟩
def YX(K:Frag)(te:TE):TE:=λσ H Q=>te σ H λx H1=>∃p ns,x=.ref p/\j4 K H1 p (ns.map V.int)/\ns.length<64/\∀l,H1 l=none->Q (.ref l) (upd H1 l (.lst ((sortI (cL [] ns)).map V.int)))
theorem sD:∀(ns ks:List Int),(cL ks ns).length<=ks.length+ns.length
 |[],ks=>by simp[cL]
 | n::ns,ks=>by
  rw[cL,aaE];have:=sD ns (pe ks n);have:=sf ks n;omega
theorem Jw{p1 p2 pos1 pos2:Pos}(hh:X.A.handled=none)(hg:Gl X "sorted")(hm:X.mg "sorted" = none)(VM:Gl X "set")(hm2:X.mg "set" = none)(hv:bootBuiltins "sorted" = some (.builtin "sorted"))(hv2:bootBuiltins "set" = some (.type "set"))(he:PE X e te)
  (hs:starEach [e] X.env=[(false,eval e X.env)]):PE X (.Call (.Name "sorted" p1) [.Call (.Name "set" p2) [e] [] pos2] [] pos1) (YX X.K te):=by
 intro pins s σ H Q I h;refine aa1 (iE I hg hm hv ?_ (by decide) (by decide));refine PyProof.Rows.callWith_builtin1 ?_ rfl rfl;show wpAny _ _ (spliced [(false,eval (.Call (.Name "set" p2) [e] [] pos2) X.env)]) _ _ s;refine Calls.spliced_cons ?_;refine aa1 (iE I VM hm2 hv2 ?_ (by decide) (by decide));refine PyProof.Rows.callWith_type1 ?_ hs rfl;show wpAny _ _ (spliced (backTo pos2 (starEach [e] X.env))) _ _ s;rw[hs];show wpAny _ _ (spliced [(false,eval e X.env)]) _ _ s;refine Calls.spliced_cons (cT (he pins s σ H _ I h) λu s1 ⟨x,H1,I1,r1,p,ns,ex,hq,h64,q⟩=>Calls.spliced_nil ?_);subst ex;cases r1;obtain⟨its,rv,pl,hz⟩:=I1.list hq;have hi:=intsAre_of rv;have hl:=hi.length;refine qo hh pl.isList (by simpa using hi) (by show its.toArray.size+1<4096;rw[aay,hl];omega) λh2 tk S k2=>?_;obtain⟨o,es,ep,t,S⟩:=S;refine Calls.spliced_nil ?_;have hk:=sD ns [];have Rz:(cL [] ns).length<64:=by simp at hk;omega
 refine Ay (s:={ s1 with heap:=h2,toks:=tk }) hh S Rz λh3 YY d D out e k3 zD eD hout=>?_;have hD:s1.heap.objs.size<=D:=aaN (Nat.le_of_lt (aau S.at_)) zD;have hn:H1 D=none:=I1.hok.fresh hD;refine⟨.ref D,_,(I1.draws d).laid (t':=YY) (λb o z=>k3 b o (k2 b o (aau z) z)) hD (show cD X.prog X.w _ _ _ (.lst ((sortI (cL [] ns)).map V.int)) from⟨?_,out,e,jz hout,eD⟩),rfl,q _ hn⟩;rw[aae,(aaY _).length_eq,sizeLine_eq];omega
end
end L2
end
section
namespace L2
open PySem PySem.Spec PyProof.Rows PySem.W
section
variable {X:Cx}
def W9(to:TE):TE:=λσ H Q=>to σ H λx H1=>∃a kvs,x=.ref a/\H1 a=some (.dK kvs)/\∀l,H1 l=none->Q (.ref l) (upd H1 l (.lst (kvs.map λkv=>kV kv.1)))
theorem M8(e:(bK P w).is k u=true):RelV (kV k) u:=by
 rw[zZ]at e
 rcases bR e with ⟨i,t,rfl,rfl⟩|⟨x,t,rfl,rfl⟩
 ·exact⟨t,rfl⟩
 ·exact⟨t,rfl⟩
theorem pC:∀{kvs:List (Key×V)} {vs:List (Key×Value)} {out:List Value},KV kvs vs->out.length=vs.length->(∀(j:Nat) (v:Value),out[j]?=some v->∃(k:Key) (x:Value),vs[j]?=some (k,x)/\(bK P w).is k v=true)->Vals (kvs.map λkv=>kV kv.1) out
 | [],vs,out,r,hl,h=>by
  cases r;cases out with
  |nil=>exact .nil
  |cons _ _=>simp at hl
 | p::kvs,vs,out,r,hl,h=>by
  cases r with
  |@cons _ q _ qs hq t=>
   cases out with
   |nil=>simp at hl
   |cons v out=>
    obtain⟨k,x,e1,e2⟩:=h 0 v rfl;simp at e1;refine .cons ?_ (pC t (by simpa using hl) λj u hu=>h (j+1) u hu);have:p.1=k:=by rw[hq.1,e1]
    show RelV (kV p.1) v;rw[this];exact M8 e2
end
end L2
end
section
namespace L2
open PySem PySem.Spec PyProof.Rows
end L2
end
section
namespace L2
open PySem PySem.Spec PyProof.Rows PySem.W
section
variable {X:Cx}
def Xa(to:TE):TE:=λσ H Q=>to σ H λx H1=>∃(a:Addr) (kvs:List (Key×V)) (ns:List Int),x=.ref a/\H1 a=some (.dK kvs)/\kvs.map (·.1)=ns.map Sum.inl/\ns.length<64/\∀l,H1 l=none->Q (.ref l) (upd H1 l (.lst ((sortI ns).map V.int)))
theorem u9{ns:List Int}(hI:IntsAre vs ns):∀(p:List Nat),(∀i∈p,i<ns.length)->IntsAre (p.map λi=>vs.getD i Value.none) (p.map λi=>ns.getD i 0)
 |[],_=>.nil
 | i::r,mem=>by
  have hi:=mem i aag;have hi2:i<vs.length:=by rw[hI.length];exact hi
  obtain⟨t',ev⟩:=IntsAre.int_at hI i _ (aax hi2);rw[aaq,aaq];have e1:vs.getD i Value.none=.int (ns.getD i 0) t':=by rw[<-ev];simp[List.getD,List.getElem?_eq_getElem hi2]
  rw[e1];exact .cons _ t' (u9 hI r λj hj=>mem j (aac _ hj))
end
end L2
end
section
namespace L2
open PySem PySem.Spec PyProof.Rows
section
variable {X:Cx}
theorem pD
  (hbase:attributeBase o m env (eval o env)=eval o env)
  (hfew:((backTo cp (starEach args env)).all (λx=>!x.1)&&(backToKw cp (keywordEach [] env)).all (λx=>x.1.isSome)
   && decide (args.length+([]:List Keyword).length+(if ([]:List Keyword).isEmpty then 0 else 1)<30))=true) (hline:(ap.endLine==cp.line)=true)
  (h:wpAny M A (eval o env) (λov s₁=>∀pl,wpAny M A (getMethod ov m pl) (λfx s₂=>wpAny M A (callWith cp fx.1 fx.2 (backTo cp (starEach args env)) (backToKw cp (keywordEach [] env))) Q E s₂) E s₁) E s) :
  wpAny M A (eval (.Call (.Attribute o m ap) args [] cp) env) Q E s:=by
 rw[arm_eval_Call,hbase];refine aaa (wpAny_mono h (λov s₁ h₁=>?_) λ_ _ e=>e);refine aaa (wpAny_standAt ?_);have RA:methodCallForm (args.length+([]:List Keyword).length) (backTo cp (starEach args env)) (backToKw cp (keywordEach [] env))=true:=hfew;have hpos:methodCallPos true o env ap cp=pure cp:=by unfold methodCallPos;simp[hline]
 unfold methodCall;rw[RA];refine aaa (wpAny_holding (wpAny_mono (h₁ _) (λfx s₂ h₂=>?_) λ_ _ e=>e));exact aaa (wpAny_of_eq hpos h₂)
theorem pe_mthD{k:Nat}(he:PE X o ta)(ha:PA X (l::ls) t)(hbase:attributeBase o m X.env (eval o X.env)=eval o X.env)
  (hfew:((backTo cp (starEach (l::ls) X.env)).all (λx=>!x.1)&&(backToKw cp (keywordEach [] X.env)).all (λx=>x.1.isSome)
   && decide ((l::ls).length+([]:List Keyword).length+(if ([]:List Keyword).isEmpty then 0 else 1)<30))=true) (hline:(ap.endLine==cp.line)=true) (hr:eZ k X.A)
  (st:starEach (l::ls) X.env=(false,eval l X.env)::starEach ls X.env) (an:(backTo cp (starEach ls X.env)).any (·.1)=false) :
  PE X (.Call (.Attribute o m ap) (l::ls) [] cp) (λσ H Q=>ta σ H λx H1=>∃a C dx fs f fd ps sp,x=.ref a/\H1 a=some (.ins C dx fs)/\DH X.K C/\Meth X.K C m f/\fs.lookup m=none/\Binds X.K fd ps [] /\
   fZ X.prog X.w X.K X.mg X.base zW k f fd ps sp/\t σ H1 λvs H2=>sp (x::vs) H2 Q E0):=by
 intro pins s σ H Q I h;refine pD hbase hfew hline (cT (he pins s σ H _ I h) λu s1 aS pl=>?_);obtain⟨x,H1,I1,rx,a,C,dx,fs,f,fd,ps,sp,ex,ea,c,hm,ln,hb,F,q⟩:=aS;subst ex;obtain rfl:u=Value.ref a:=rx;refine rL I1 ea c hm ln ?_;refine callWith_K (first:=[.ref a]) (h₀:=X.base) I.ok.mod.Qi hm.kp (cT (ha cp pins s1 σ H1 _ I1 q) λus s2 ⟨vs,H2,I2,r,q2⟩=>⟨I2.oX,?_⟩) st an;exact rO (us:=.ref a::us) (vs:=.ref a::vs) (ug:=[]) (ds:=[]) F hr hb .nil rX I2 (.cons rfl r) (by rw[aaM];exact q2)
theorem pe_mth0{k:Nat}(he:PE X o ta)(hbase:attributeBase o m X.env (eval o X.env)=eval o X.env)
  (hline:(ap.endLine==cp.line)=true) (hr:eZ k X.A) :
  PE X (.Call (.Attribute o m ap) [] [] cp) (λσ H Q=>ta σ H λx H1=>∃a C dx fs f fd ps sp,x=.ref a/\H1 a=some (.ins C dx fs)/\DH X.K C/\Meth X.K C m f/\fs.lookup m=none/\Binds X.K fd ps [] /\
   fZ X.prog X.w X.K X.mg X.base zW k f fd ps sp/\sp [x] H1 Q E0):=by
 intro pins s σ H Q I h;refine pD hbase rfl hline (cT (he pins s σ H _ I h) λu s1 aS pl=>?_);obtain⟨x,H1,I1,rx,a,C,dx,fs,f,fd,ps,sp,ex,ea,c,hm,ln,hb,F,q⟩:=aS;subst ex;obtain rfl:u=Value.ref a:=rx;refine rL I1 ea c hm ln ?_;exact callWith_K0 (first:=[.ref a]) I1.oX hm.kp (rO (us:=[.ref a]) (vs:=[.ref a]) (ug:=[]) (ds:=[]) F hr hb .nil rX I1 #[rfl] q)
end
end L2
end
section
namespace L2
open PySem PySem.Spec PyProof.Rows PySem.W
section
variable {X:Cx}
theorem RB{t':Nat}(I:Inv X pins σ H s)(k:∀b u,s.heap.get? b=some u->h'.get? b=some u)(hp:s.heap.get? a=none)(hn:H a=none)(new:cD X.prog X.w (upd H a o) h' a o) :
  Inv X pins σ (upd H a o) { s with heap:=h',toks:=t' }:=by
 refine I.un ⟨λb u q _ _ _=>k b u q,λb u q _ _ _=>⟨u.slots,k b u q⟩,λb u q n _=>?_,λb u q _=>⟨u,k b u q⟩,λb xs q=>by rw[aR (bf q hn)];exact q,λb u xs q=>by rw[aR (bf q hn)];exact q,λb ps q=>⟨#[],by rw[aR (bf q hn),q];simp⟩⟩ λb u e=>?_
 ·rw[aR λz=>by rw[z,hp]at q;cases q];exact n
 ·by_cases hb:b=a
  ·subst hb;rw[bE]at e;cases e;exact new
  ·rw[aR hb]at e;exact(I.hok b u e).stay (λc v _ q=>k c v q) (λc q=>by rw[aR (bf q hn)];exact q) λc xs q=>by rw[aR (bf q hn)];exact q
def YZ(K:Frag)(te:TE)(ts:TO):TE:=λσ H Q=>te σ H λx H1=>ts σ H1 λi H2=>i=some (-1)/\∃a xs,x=.ref a/\j4 K H2 a xs/\∀p,H2 p=none->Q (.ref p) (upd H2 p (.lst xs.reverse))
theorem yr:∀{xs:List V} {its:List Value},Vals xs its->Vals xs.reverse its.reverse
 |[],_,h=>by cases h;exact .nil
 | x::r,_,h=>by
  cases h with
  |cons a t=>rw[reverse_cons,reverse_cons];exact Vals.append (yr t) #[a]
theorem M9{e st:Expr}{te:TE}{ts:TO}{p2 pos:Pos}(he:PE X e te)(hs:PO X (some st) ts):PE X (.Subscript e (.Slice none none (some st) p2) pos) (YZ X.K te ts):=by
 intro pins s σ H Q I h;refine Subscript_ (cT (he pins s σ H _ I h) λv s1 aS=>?_);obtain⟨x,H1,I1,r1,q1⟩:=aS;refine wpAny_Slice ?_;rw[evalPart_none];refine aal ?_;refine aal ?_;refine cT (hs pins s1 σ H1 _ I1 q1) λvk s3 aS=>?_;obtain⟨k,H3,I3,pk,q3⟩:=aS;obtain⟨rfl,a,xs,rfl,hx,q⟩:=q3;cases r1;have I4:Inv X pins σ H3 { s3 with heap:=s3.heap.push { cls:=.type "slice",data:=.fields [.none,.none,vk].toArray } }:=I3.kept (t':=s3.toks) λb ob q=>aai _ q;obtain⟨its,r,ht,hz⟩:=I4.list hx;have hlen:=r.length;show wpAny (model X.prog X.w) X.A (subscriptTail e (.Slice none none (some st) p2) (.ref a) (.ref s3.heap.objs.size)) (EP X pins σ Q) X.xe { s3 with heap:=s3.heap.push { cls:=.type "slice",data:=.fields [.none,.none,vk].toArray } };refine tail_any (ops:=[.ref a,.ref s3.heap.objs.size]) ht.isList.typeIs slot_list_getitem.lookup ?_ (by with_unfolding_all rfl);refine wpAny_getItem_list_slice ht.isList (Heap.IsSliceOf.new ..) .none .none pk (by decide) ?_ (by rw[aay]<;>omega);rw[PySem.W.krv_pick];refine⟨.ref _,_,I4.laid (t':=s3.toks) (o:=.lst xs.reverse) (λb ob q=>aai _ q) (aao _) ?_,rfl,q _ (I4.hok.fresh (aao _))⟩;exact⟨by rw[List.length_reverse];exact hz,_,0,yr r,aaA _ rfl⟩
theorem CY(hh:X.A.handled=none)(hst:starEach [o] X.env=[(false,eval o X.env)])(hg:Gl X "list")(hm:X.mg "list" = none)(hv:bootBuiltins "list" = some (.type "list"))(ho:PE X o to):PE X (.Call (.Name "list" p) [o] [] pos) (W9 to):=by
 intro pins s σ H Q I h;refine aa1 (iE I hg hm hv ?_ (by decide) (by decide));refine PyProof.Rows.callWith_type1 ?_ hst rfl;rw[hst];show wpAny _ _ (spliced [(false,eval o X.env)]) _ _ s;refine Calls.spliced_cons ?_;refine cT (ho pins s σ H _ I h) λu s1 aS=>?_;obtain⟨x,H1,I1,r1,a,kvs,ex,ea,q⟩:=aS;subst ex;cases r1;obtain⟨t1,t2,hd⟩:=El I1 (.inl ⟨kvs,.inl ea⟩);obtain⟨hz,_,vs,rel,dd⟩:=Bb I1.hok ea;refine Calls.spliced_nil ?_;obtain⟨ep,da⟩:=dd.dictAt;have hlen:=rel.length;refine kdl_call (kdl_dict (knd:=bK X.prog X.w) (kvs:=vs) (ep:=ep) (d:=a) hd) hh da (by rw[<-hlen];exact hz) λh' tk acc c k2 eD hacc=>?_;have hn:H1 s1.heap.objs.size=none:=I1.hok.fresh (aao _);refine⟨.ref _,_,I1.laid (t':=tk) (λb o z=>k2 b o z) (aao _) (show cD X.prog X.w _ _ _ (.lst (kvs.map λkv=>kV kv.1)) from⟨?_,acc.toList,c,?_,?_⟩),rfl,q _ hn⟩
 ·rw[aae];exact hz
 ·exact pC (P:=X.prog) (w:=X.w) rel (by rw[aaU];exact hacc.1) λj v e=>hacc.2 j v (by rw[<-getElem?_toList];exact e)
 ·first|(rw[Array.toArray_toList];exact eD)|simpa using eD
theorem vd(hh:X.A.handled=none)(hst:starEach [o] X.env=[(false,eval o X.env)])(hg:Gl X "sorted")(hm:X.mg "sorted" = none)(hv:bootBuiltins "sorted" = some (.builtin "sorted"))(ho:PE X o to):PE X (.Call (.Name "sorted" p) [o] [] pos) (Xa to):=by
 intro pins s σ H Q I h;refine aa1 (iE I hg hm hv ?_ (by decide) (by decide));refine PyProof.Rows.callWith_builtin1 ?_ hst rfl;rw[hst];show wpAny _ _ (spliced [(false,eval o X.env)]) _ _ s;refine Calls.spliced_cons ?_;refine cT (ho pins s σ H _ I h) λu s1 aS=>?_;obtain⟨x,H1,I1,r1,a,kvs,ns,ex,ea,ens,h64,q⟩:=aS;subst ex;cases r1;obtain⟨t1,t2,hd⟩:=El I1 (.inl ⟨kvs,.inl ea⟩);obtain⟨hz,_,vs,rel,dd⟩:=Bb I1.hok ea;refine Calls.spliced_nil ?_;obtain⟨ep,da⟩:=dd.dictAt;have hlen:=rel.length;refine qM.iH (O:=qM.r8) (kdu_collect (A:=X.A.in1) (kdl_dict (knd:=bK X.prog X.w) (kvs:=vs) (ep:=ep) (d:=a) hd) (by simp[hh]) da (by rw[<-hlen];exact hz) λh' tk acc k1 hacc=>?_);have hV:Vals (kvs.map λkv=>kV kv.1) acc.toList:=pC (P:=X.prog) (w:=X.w) rel (by rw[aaU];exact hacc.1) λj v e=>hacc.2 j v (by rw[<-getElem?_toList];exact e);have hk:(kvs.map λkv=>kV kv.1)=ns.map V.int:=by have:=congrArg (List.map kV) ens;rw[aa2,aa2]at this;exact this
 rw[hk]at hV;have hI:=intsAre_of hV;have lv:=hI.length;have hN:∀b o,s1.heap.get? b=some o->b≠h'.objs.size:=λb o e z=>by
  have q:=aau (k1 b o e);rw[z]at q;exact lt_irrefl _ q
 refine⟨by rw[lv];exact h64,λi=>ns.getD i 0,λh2 h6 _=>qM.r9 hI h2,λpp h'' outs k' he=>?_⟩;obtain⟨e,he⟩:=he;have mem:∀i∈pp,i<ns.length:=λi hi=>by have:=outs.perm.mem_iff.mp hi;rw[lv]at this;simpa using this
 have pn:(pp.map λi=>ns.getD i 0).Perm ns:=by have:=outs.perm.map λi=>ns.getD i 0;rw[lv,qM.dD]at this;exact this
 have up:(pp.map λi=>ns.getD i 0).Pairwise (· <= ·):=by refine List.Pairwise.imp (R:=qM.r8.kle) (λ{x y:Int} hxy=>?_) outs.up;have hxy:(decide (y<x):Bool)=false:=hxy;exact not_lt.mp (of_decide_eq_false hxy)
 have es:=eq_sortI pn up;have hout:=u9 hI pp mem;rw[es]at hout;dsimp only at k' he |-;have hl:s1.heap.get? h'.objs.size=none:=by
  cases e:s1.heap.get? h'.objs.size with
  |none=>rfl
  |some o=>exact absurd rfl (hN _ o e)
 have hn:H1 h'.objs.size=none:=(mT.kept I1.hok k1).fresh (aao _);refine⟨.ref h'.objs.size,_,RB I1 (t':=tk) (λb o z=>k' b o (k1 b o z)) hl hn (show cD X.prog X.w _ _ _ (.lst ((sortI ns).map V.int)) from⟨?_,_,e,jz hout,he⟩),rfl,q _ hn⟩;rw[aae,(aaY _).length_eq,sizeLine_eq];omega
end
section
variable {X:Cx}
structure Na (K:Frag) (C:Addr) (m:Str) (f:Addr):Prop where
 ga:specialIn K (.ref C) "__getattribute__" = some (some (.builtin "type.__getattribute__"))
 rd:readsIn K C (.type "type")=true
 at_:findCls K (.ref C) (.type "type") m=some (.val (.ref f))
 kp:keepIn K (.ref f)=true
theorem Nb{k:Nat}(F:fZ X.prog X.w X.K X.mg X.base zW k f fd ps sp)(hr:eZ k X.A)(hg:Gl X x)(hm:X.mg x=some (.ref C))(c:Na X.K C m f)(hb:Binds X.K fd ps [])
  (ha:PA X (l::ls) t) (hd:(x==("__debug__":Str))=false)
  (hfew:((backTo cp (starEach (l::ls) X.env)).all (λx=>!x.1)&&(backToKw cp (keywordEach [] X.env)).all (λx=>x.1.isSome)
   && decide ((l::ls).length+([]:List Keyword).length+(if ([]:List Keyword).isEmpty then 0 else 1)<30))=true) (hline:(ap.endLine==cp.line)=true)
  (st:starEach (l::ls) X.env=(false,eval l X.env)::starEach ls X.env) (an:(backTo cp (starEach ls X.env)).any (·.1)=false) :
  PE X (.Call (.Attribute (.Name x np) m ap) (l::ls) [] cp) (λσ H Q=>t σ H λvs H1=>sp vs H1 Q E0):=by
 intro pins s σ H Q I h;refine pD rfl hfew hline (lJ I hg hm (λpl=>?_) hd);refine PySem.W.method_cls I.oX c.ga (PySem.W.cls_value I.oX c.rd c.at_ rfl ?_);refine callWith_K (first:=[]) (h₀:=X.base) I.ok.mod.Qi c.kp (cT (ha cp pins _ σ H _ (I.tok _) h) λus s2 ⟨vs,H2,I2,r,q2⟩=>⟨I2.oX,?_⟩) st an;exact rO (us:=us) (vs:=vs) (ug:=[]) (ds:=[]) F hr hb .nil rX I2 r (by rw[aaM];exact q2)
structure Xb (K:Frag) (C:Addr):Prop where
 ha:findIn K (.ref C) "__class__" = some (some (.builtin "object.__class__"))
 hn:specialIn K (.builtin "object.__class__") "__get__" = some (some (.builtin "getset_descriptor.__get__"))
 htk:PySem.W.takesIn K (.builtin "object.__class__")=some true
 hm:PySem.W.mroIn K C (.type "object")=some true
end
end L2
end
section
namespace L2
open PySem PySem.Spec PyProof.Rows
section
variable {X:Cx}
def Xc(k:Int):Value->Bool
 |.int a _=>a==k
 |_=>false
def Jx:V->List V->Hp->VK->Prop:=λx vs H Q=>∃(l:Addr) (ks:List Int) (i:Int),x=.ref l/\vs=[.int i]/\H l=some (.lst (ks.map V.int))/\i∈ks/\Q .non (upd H l (.lst ((ks.map V.int).eraseIdx (ks.idxOf i))))
theorem CZ:Us X "list.remove" Jx:=by
 intro pins s σ H x vs v us Q I rx rv h;obtain⟨l,ks,i,rfl,rfl,hH,hi,q⟩:=h;cases rx;obtain⟨u,rfl,ru⟩:=rv.one;obtain⟨t,rfl⟩:=ru;obtain⟨z,its,n,r,hl,e⟩:=I.Jg hH;have hk:ks.length=its.length:=by rw[<-hl,aae]
 have at':∀m (hm:m<ks.length),∃t,its[m]?=some (.int ks[m] t):=λm hm=>by
  obtain⟨w,hw,t,rfl⟩:=r.get (i:=m) (x:=V.int ks[m]) (by rw[aaF,aax hm];rfl);exact⟨t,hw⟩
 have hj:ks.idxOf i<ks.length:=List.idxOf_lt_length_of_mem hi;have sz:its.toArray.size=ks.length:=by rw[aay,hk]
 have val:∀m (hm:m<its.toArray.size),Xc i its.toArray[m]=(ks[m]'(sz▸hm)==i):=λm hm=>by
  obtain⟨t,q⟩:=at' m (sz▸hm);have q2:its.toArray[m]=.int (ks[m]'(sz▸hm)) t:=by have:=Array.getElem?_eq_getElem hm;rw[List.getElem?_toArray,q]at this;exact(aaZ this).symm
  rw[q2];rfl
 refine call_meets F.slot_list_remove ⟨_,e,rfl⟩ F.entry_list_remove (F.args_list_remove_2 _ _)
  (MeetsSeq.list_remove l its.toArray n (.int i t) (Xc i) (λy hy=>?_) (ks.idxOf i) (by rw[sz];exact hj) ?_ ?_ (by rw[aay];omega)) ⟨e,?_⟩
 ·obtain⟨m,hm,rfl⟩:=List.mem_iff_getElem.mp (List.mem_toArray.mp hy);obtain⟨t',q⟩:=at' m (by omega);rw[aax hm]at q;rw[aaZ q];exact MeetsSeq.EqGives.int _ _ _ _
 ·rw[val];exact beq_iff_eq.mpr (List.getElem_idxOf hj)
 ·intro m hm h2
  rw[val];exact aaT.mpr λe=>by
   have:=List.not_of_lt_findIdx (p:=(· == i)) (xs:=ks) (i:=m) h2;exact nomatch this.symm.trans (beq_iff_eq.mpr e)
 refine⟨.non,_,I.Jf (its':=its.eraseIdx (ks.idxOf i)) hH e ?_ (r.eraseIdx _) ?_,rfl,q⟩
 ·show its.toArray.eraseIdxIfInBounds _=(its.eraseIdx _).toArray;rw[List.eraseIdxIfInBounds_toArray]
 ·have:=o6 (ks.map V.int) (ks.idxOf i);omega
end
section
variable {X:Cx}
def Y0(K:Frag)(te:TE):TE:=λσ H Q=>te σ H λx H1=>∃p ns,x=.ref p/\j4 K H1 p (ns.map V.int)/\ns.length<64/\Q (.int ((cL [] ns).length:Nat)) H1
theorem Jy{p1 p2 pos1 pos2:Pos}(hh:X.A.handled=none)(hg:Gl X "len")(hm:X.mg "len" = none)(VM:Gl X "set")(hm2:X.mg "set" = none)(hv:bootBuiltins "len" = some (.builtin "len"))(hv2:bootBuiltins "set" = some (.type "set"))(he:PE X e te)
  (hs:starEach [e] X.env=[(false,eval e X.env)]):PE X (.Call (.Name "len" p1) [.Call (.Name "set" p2) [e] [] pos2] [] pos1) (Y0 X.K te):=by
 intro pins s σ H Q I h;refine aa1 (iE I hg hm hv ?_ (by decide) (by decide));refine PyProof.Rows.callWith_builtin1 ?_ rfl rfl;show wpAny _ _ (spliced [(false,eval (.Call (.Name "set" p2) [e] [] pos2) X.env)]) _ _ s;refine Calls.spliced_cons ?_;refine aa1 (iE I VM hm2 hv2 ?_ (by decide) (by decide));refine PyProof.Rows.callWith_type1 ?_ hs rfl;show wpAny _ _ (spliced (backTo pos2 (starEach [e] X.env))) _ _ s;rw[hs];show wpAny _ _ (spliced [(false,eval e X.env)]) _ _ s;refine Calls.spliced_cons (cT (he pins s σ H _ I h) λu s1 ⟨x,H1,I1,r1,p,ns,ex,hq,h64,q⟩=>Calls.spliced_nil ?_);subst ex;cases r1;obtain⟨its,rv,pl,hz⟩:=I1.list hq;have hi:=intsAre_of rv;have hl:=hi.length;refine qo hh pl.isList (by simpa using hi) (by show its.toArray.size+1<4096;rw[aay,hl];omega) λh2 tk S k2=>?_;obtain⟨o,es,ep,t,S⟩:=S;refine Calls.spliced_nil ?_;have hk:=sD ns [];have Rz:(cL [] ns).length<64:=by simp at hk;omega
 refine call_len_set (s:={ s1 with heap:=h2,toks:=tk }) S.at_ S.ex S.dat S.tab.fit (by rw[S.num];omega) ?_;refine⟨.int ((cL [] ns).length:Nat),H1,I1.kept λb o z=>k2 b o (aau z) z,?_,q⟩;rw[S.num];exact⟨_,rfl⟩
end
end L2
end
section
namespace Hv
open PySem L2 PyProof.Rows
inductive Val
 |non|bl (b:Bool)|int (i:Int)|str (x:Str)|tup (vs:List Val)|rl (vs:List Val)|dc (ks:List Key) (vs:List Val)|ob (c:Nat) (xs:List Str) (vs:List Val)|ref (i:Nat)
inductive Ob
 |lst (xs:List Val)|dct (kvs:List (Key×Val))|ins (c:Nat) (fs:List (Str×Val))
abbrev Hs:=List Ob
inductive Out (α:Type)
 |ok (a:α) (h:Hs)|exc (c:Nat) (vs:List Val) (h:Hs)|no
abbrev M(α:Type):=Hs->Out α
def ret{α:Type}(a:α):M α:=λh=>.ok a h
def bnd{α β:Type}(m:M α)(f:α -> M β):M β:=λh=>match m h with
 |.ok a h'=>f a h'
 |.exc c vs h'=>.exc c vs h'
 |.no=>.no
def bM{α:Type}(o:Option α):M α:=λh=>match o with
 |some a=>.ok a h
 |none=>.no
def ask{α:Type}(f:Hs->Option α):M α:=λh=>bM (f h) h
def new(o:Ob):M Val:=λh=>.ok (.ref h.length) (h++[o])
def put(i:Nat)(o:Ob):M Unit:=λh=>.ok () (h.set i o)
def cM{α β:Type}(f:α -> Option β):List α -> Option (List β)
 |[]=>some []
 |a::r=>(f a).bind λb=>(cM f r).bind λbs=>some (b::bs)
inductive Lx|add|sub|mul|fdiv|mod|pow
 deriving DecidableEq
inductive Nc|eq|ne|lt|le|gt|ge|isn|ntn|inn|nin
 deriving DecidableEq
inductive Bl|len|min|max|sorted|list|tuple|str|int|all|any|isin (T:String)
 deriving DecidableEq
inductive Me|join|append|extend|remove|pop
 deriving DecidableEq
inductive Bf|one (i:Nat)|tup (is:List Nat)
 deriving DecidableEq
inductive Ik|seq|range|enum|zip
 deriving DecidableEq
mutual
inductive IE
 |var (i:Nat)|cst (d:Val)|con (x:Str) (d:Val)|no
 |bin (o:Lx) (a b:IE)|neg (a:IE)|cmp (o:Nc) (a b:IE)|chn (o p:Nc) (a b c:IE)
 |and (a b:IE)|or (a b:IE)|not (a:IE)|ite (c a b:IE)
 |tup (es:nQ)|lst (es:nQ)|idx (a b:IE)|slc (a lo hi:IE)
 |call (j:Nat) (es:nQ)|blt (b:Bl) (es:nQ)|met (m:Me) (a:IE) (es:nQ)
 |comp (N:List Str) (js:List (Option Nat)) (pat:Bf) (k:Ik) (it:nQ) (c elt:IE)
 |dct0
 |sset (a:IE)
 |dget (d k x:IE)
 |dct1 (k v:IE)
 |lkeys (d:IE)
 |sdef (d k x:IE)
 |svals (d:IE)
 |skeys (d:IE)
 |fld (n:Nat) (a:IE) (x:Str)
 |mth (a:IE) (m:Str) (js:List (Nat×Nat)) (es:nQ)
 |rev (a s:IE)
 |dflt (N:List Str) (js:List (Option Nat)) (p q:Nat) (d w:IE)
 |isc (a:IE) (x:Str) (bs:List Bool)
inductive nQ|nil|cons (e:IE) (es:nQ)
end
abbrev Env:=List (Option Val)
mutual
inductive IS
 |expr (e:IE)|asg (p:Bf) (e:IE)|aug (i:Nat) (o:Lx) (e:IE)|f9 (o i v:IE)
 |iff (c:IE) (a b:dm)|for (p:Bf) (k:Ik) (it:nQ) (body:dm)|whl (n:Nat) (c:IE) (body:dm)
 |ret (e:IE)|Jz|brk|cnt|pass|never|setF (n:Nat) (a:IE) (x:Str) (v:IE)
inductive dm|nil|cons (s:IS) (r:dm)
end
def aI(h:Hs):Val->Option (List Val)
 |.rl vs=>some vs
 | .ref i=>match h[i]? with
  |some (.lst xs)=>some xs
  |_=>none
 |_=>none
def kD(h:Hs):Val->Option (List Val)
 |.tup vs=>some vs
 |v=>aI h v
def Bg(_:Hs):Val->Option (List Val)
 |.tup vs=>some vs
 |_=>none
def cE:List Val->Option (List Int):=cM λv=>match v with
 |.int i=>some i
 |_=>none
def gc:List Val->Option (List Bool):=cM λv=>match v with
 |.bl i=>some i
 |_=>none
def mG:List Val->Option (List (List Int)):=cM λv=>match v with
 |.tup vs=>if vs.isEmpty then none else cE vs
 |_=>none
def toD:Nat->Hs->Val->Option PyData
 |0,_,_=>none
 |_+1,_,.non=>some .none
 |_+1,_,.bl b=>some (.bool b)
 |_+1,_,.int i=>some (.int i)
 |_+1,_,.str x=>if PyData.strOk x=true then some (.str x) else none
 |n+1,h,.tup vs=>(cM (toD n h) vs).bind λds=>some (.tuple ds)
 |n+1,h,.rl vs=>(cM (toD n h) vs).bind λds=>some (.list ds)
 |_+1,_,.dc _ _=>none
 |_+1,_,.ob _ _ _=>none
 |n+1,h,.ref i=>(aI h (.ref i)).bind λxs=>(cM (toD n h) xs).bind λds=>some (.list ds)
def DI(h:Hs)(v w:Val):Option Bool:=(toD 16 h v).bind λd=>(toD 16 h w).bind λe=>some (PyData.eqv d e)
def wI(x:List Int):List (List Int)->List (List Int)
 |[]=>[x]
 |y::r=>if HT.lexLt y x=true then y::wI x r else x::y::r
def nR:List (List Int)->List (List Int)
 |[]=>[]
 |x::r=>wI x (nR r)
def nT(ks:List Int):Val:=.tup (ks.map .int)
def fz(xs:List Val):Option (List Val) :=
 if xs.length<64 then
  match cE xs with
  |some ns=>some ((sortI ns).map .int)
  |none=>(mG xs).bind λqW=>some ((nR qW).map nT)
 else none
def kE(i j:Int):Bool:=(decide (-(2 ^ 64)<i)&&decide (i<2 ^ 64))||(decide (-(2 ^ 64)<j)&&decide (j<2 ^ 64))
def az{α:Type}(c:Bool)(m:M α):M α:=λh=>if c=true then m h else .no
def kg(b:Int):Bool:=decide (0<b/\b<1606938044258990275541962092341162602522202993782792835301376)
def Nd:Lx->Val->Val->M Val
 |.add,.int a,.int b=>ret (.int (a+b))
 |.add,v,w=>bnd (ask λh=>aI h v) λa=>bnd (ask λh=>aI h w) λb=>az (decide (a.length+b.length<=sizeLine)) (new (.lst (a++b)))
 |.sub,.int a,.int b=>ret (.int (a-b))
 |.mul,.int a,.int b=>az (kE a b) (ret (.int (a*b)))
 |.fdiv,.int a,.int b=>az (kg b) (ret (.int (a/b)))
 |.mod,.int a,.int b=>az (decide (0<b)) (ret (.int (a%b)))
 |.pow,.int a,.int b=>az (decide (0<=b/\b<=1000000/\a.natAbs<2 ^ 64)) (ret (.int (a ^ b.toNat)))
 |_,_,_=>bM none
def nU:Val->Bool
 |.non=>true
 |_=>false
def fH(kvs:List (Key×Val))(k:Key):Option Val:=(kvs.find? λkv=>decide (kv.1=k)).map (·.2)
def iR(kvs:List (Key×Val))(k:Key)(v:Val):List (Key×Val) :=
 if (kvs.any λkv=>decide (kv.1=k))=true then kvs.map (λkv=>if kv.1=k then (kv.1,v) else kv) else kvs++[(k,v)]
def keyOf:Val->Option Key
 |.int i=>some (.inl i)
 |.str x=>some (.inr x)
 |_=>none
def RC(f d:PyData):Option Bool:=match f with
 |.list ds=>some (ds.any λy=>PyData.eqv y d)
 |.tuple ds=>some (ds.any λy=>PyData.eqv y d)
 |_=>none
def memD(h:Hs)(v w:Val):Option Bool:=(toD 16 h w).bind λf=>(toD 16 h v).bind λd=>RC f d
def JA(h:Hs)(v:Val)(i:Nat):Ob->Option Bool
 |.dct kvs=>(keyOf v).bind λk=>some (fH kvs k).isSome
 |_=>memD h v (.ref i)
def wJ(h:Hs):Val->Val->Option Bool
 |v,.ref i=>(h[i]?).bind (JA h v i)
 |v,.dc ks _=>(keyOf v).bind λk=>some (ks.any λj=>decide (j=k))
 |v,w=>memD h v w
def Ly(v w:Val):Option Bool:=match w with
 |.non=>some (nU v)
 |_=>none
def cop(h:Hs):Nc->Val->Val->Option Bool
 |.eq,v,w=>DI h v w
 |.ne,v,w=>(DI h v w).map (!·)
 |.lt,.int a,.int b=>some (decide (a<b))
 |.le,.int a,.int b=>some (decide (a<=b))
 |.gt,.int a,.int b=>some (decide (b<a))
 |.ge,.int a,.int b=>some (decide (b<=a))
 |.isn,v,w=>Ly v w
 |.ntn,v,w=>(Ly v w).map (!·)
 |.inn,v,w=>wJ h v w
 |.nin,v,w=>(wJ h v w).map (!·)
 |_,_,_=>none
def cZ(_:Hs):Val->Option Bool
 |.bl b=>some b
 |_=>none
def mY(h:Hs):Val->Val->Option Val
 |.tup vs,.int i=>ko vs i
 |.rl vs,.int i=>ko vs i
 | .ref j,.int i=>match h[j]? with
  |some (.dct kvs)=>fH kvs (.inl i)
  |_=>(aI h (.ref j)).bind λxs=>ko xs i
 |.dc ks vs,.int i=>fH (ks.zip vs) (.inl i)
 |_,_=>none
def ve(h:Hs)(o:Val):Option (List Key):=match o with
 | .ref i=>(match h[i]? with
  |some (.dct kvs)=>some (kvs.map (·.1))
  |_=>none)
 |.dc ks _=>some ks
 |_=>none
def EH:Key->Val
 |.inl i=>.int i
 |.inr x=>.str x
def vf:List Key->Option (List Int):=cM λk=>match k with
 |.inl i=>some i
 |.inr _=>none
def mZ(h:Hs)(o:Val):Option (List Int):=(ve h o).bind λks=>(vf ks).bind λns=>if ns.length<64 then some (sortI ns) else none
def cg{α:Type}(ds:List α)(lo hi:Option Int):List α:=(ds.drop (HT.fJ ds.length 0 lo)).take (HT.fJ ds.length ds.length hi-HT.fJ ds.length 0 lo)
def uw(v:Val)(lo hi:Option Int):M Val:=match v with
 |.tup vs=>az (!(decide (HT.fJ vs.length 0 lo=0)&&decide (HT.fJ vs.length vs.length hi=vs.length))) (ret (.tup (cg vs lo hi)))
 |v=>bnd (ask λh=>aI h v) λxs=>new (.lst (cg xs lo hi))
def yt(h:Hs):Val->Option String
 |.non=>some "NoneType" | .bl _=>some "bool" | .int _=>some "int" | .str _=>some "str" | .tup _=>some "tuple" | .rl _=>some "list" | .dc _ _=>some "dict" | .ob _ _ _=>none
 | .ref i=>match h[i]? with
  |some (.lst _)=>some "list"
  |some (.dct _)=>some "dict"
  |_=>none
def yu(T:String)(t:String):Option Bool :=
 if ["list","tuple","str","bool","int","dict"].contains T=true then some (decide (T=t\/(T = "int" /\ t = "bool"))) else none
def m9(h:Hs):Val->Option Nat
 |.tup vs=>some vs.length
 |.rl vs=>some vs.length
 |.dc ks _=>some ks.length
 | .ref i=>match h[i]? with
  |some (.lst xs)=>some xs.length
  |some (.dct xs)=>some xs.length
  |_=>none
 |_=>none
def blt:Bl->List Val->M Val
 |.len,[v]=>bnd (ask λh=>m9 h v) λn=>ret (.int n)
 |.min,[.int a,.int b]=>ret (.int (if b<a then b else a))
 |.max,[.int a,.int b]=>ret (.int (if b>a then b else a))
 |.sorted,[v]=>bnd (ask λh=>aI h v) λxs=>bnd (bM (fz xs)) λys=>new (.lst ys)
 |.list,[v]=>bnd (ask λh=>kD h v) λxs=>new (.lst xs)
 |.int,[.bl b]=>ret (.int (if b=true then 1 else 0))
 |.int,[.int i]=>ret (.int i)
 |.all,[v]=>bnd (ask λh=>aI h v) λxs=>bnd (bM (gc xs)) λbs=>ret (.bl (bs.all id))
 |.isin T,[v]=>bnd (ask λh=>yt h v) λt=>bnd (bM (yu T t)) λb=>ret (.bl b)
 |_,_=>bM none
def met:Me->Val->List Val->M Val
 |.append,.ref i,[v]=>bnd (ask λh=>match h[i]? with|some (.lst xs)=>some xs|_=>none) λxs=>az (decide (xs.length<sizeLine)) (bnd (put i (.lst (xs++[v]))) λ_=>ret .non)
 |.extend,.ref i,[v]=>bnd (ask λh=>match h[i]? with|some (.lst xs)=>some xs|_=>none) λxs=>bnd (ask λh=>Bg h v) λys=>az (decide (xs.length+ys.length<=sizeLine)) (bnd (put i (.lst (xs++ys))) λ_=>ret .non)
 |.remove,.ref i,[.int k]=>bnd (ask λh=>match h[i]? with|some (.lst xs)=>some xs|_=>none) λxs=>bnd (bM (cE xs)) λks=>az (decide (k∈ks)) (bnd (put i (.lst (xs.eraseIdx (ks.idxOf k)))) λ_=>ret .non)
 |.pop,.ref i,[.int k]=>bnd (ask λh=>match h[i]? with|some (.lst xs)=>some xs|_=>none) λxs=>az (decide (0<=k/\k<1000)) (bnd (bM xs[k.toNat]?) λv=>bnd (put i (.lst (xs.eraseIdx k.toNat))) λ_=>ret v)
 |_,_,_=>bM none
def recv(h:Hs):Me->Val->Option Unit
 |.join,.str _=>some ()
 |.append,.ref i=>match h[i]? with|some (.lst _)=>some ()|_=>none
 |.extend,.ref i=>match h[i]? with|some (.lst _)=>some ()|_=>none
 |.remove,.ref i=>match h[i]? with|some (.lst _)=>some ()|_=>none
 |.pop,.ref i=>match h[i]? with|some (.lst _)=>some ()|_=>none
 |_,_=>none
inductive Src
 |fix (xs:List Val)|live (i:Nat)|enum (i:Nat)|zip (v w:Val)
def sE:Nat->List Val->List Val
 |_,[]=>[]
 |i,d::r=>.tup [.int i,d]::sE (i+1) r
def RD:List Val->List Val->List Val
 |a::r,b::t=>.tup [a,b]::RD r t
 |_,_=>[]
def bH(lo:Int)(n:Nat):List Val:=(List.range n).map λ(i:Nat)=>Val.int (lo+(i:Int))
def inR(i:Int):Bool:=decide (-(2 ^ 62)<=i)&&decide (i<2 ^ 62)
def srcOf:Ik->List Val->Option Src
 |.seq,[.tup vs]=>some (.fix vs)
 |.seq,[.rl vs]=>some (.fix vs)
 |.seq,[.ref i]=>some (.live i)
 |.range,[.int n]=>if inR n then some (.fix (bH 0 n.toNat)) else none
 |.range,[.int a,.int b]=>if inR a&&inR b then some (.fix (bH a (b-a).toNat)) else none
 |.enum,[.rl vs]=>some (.fix (sE 0 vs))
 |.enum,[.ref i]=>some (.enum i)
 |.zip,[v,w]=>some (.zip v w)
 |_,_=>none
def Src.items(h:Hs):Src->Option (List Val)
 |.fix xs=>some xs
 |.live i=>aI h (.ref i)
 |.enum i=>(aI h (.ref i)).map (sE 0)
 |.zip v w=>(aI h v).bind λxs=>(aI h w).map λys=>RD xs ys
def bindAll:List Nat->List Val->Env->Option Env
 |[],[],env=>some env
 |i::is,d::ds,env=>bindAll is ds (env.set i (some d))
 |_,_,_=>none
def fN:Bf->Val->Env->Option Env
 |.one i,d,env=>some (env.set i (some d))
 |.tup is,.tup ds,env=>bindAll is ds env
 |_,_,_=>none
def kF(js:List (Option Nat))(env:Env):Env:=js.map λo=>match o with
 |none=>none
 | some j=>match env[j]? with
  |some (some d)=>some d
  |_=>none
def gG(src:Src)(f:Val->M (Option Val)):Nat->Nat->List Val->M (List Val)
 |0,i,acc=>bnd (ask λh=>src.items h) λxs=>az (decide (xs.length<=i)) (ret acc)
 | n+1,i,acc=>bnd (ask λh=>src.items h) λxs=>match xs[i]? with
  |none=>ret acc
  |some x=>bnd (f x) λo=>gG src f n (i+1) (match o with|some e=>acc++[e]|none=>acc)
def dg:IE->Bool
 |.no=>true
 |_=>false
def kG:Val->Option Int
 |.int i=>some i
 |_=>none
def sG:Val->M Bool
 |.bl b=>ret b
 |_=>bM none
def jd(n:Nat)(h:Hs)(o:Val)(x:Str):Option Val:=match o with
 | .ref i=>(match h[i]? with
  |some (.ins c fs)=>if c<n then fs.lookup x else none
  |_=>none)
 |.ob c xs vs=>if c<n then (xs.zip vs).lookup x else none
 |_=>none
def nV(h:Hs)(o:Val)(m:Str)(js:List (Nat×Nat)):Option Nat:=match o with
 | .ref i=>(match h[i]? with
  |some (.ins c fs)=>if (fs.lookup m).isNone=true then js.lookup c else none
  |_=>none)
 |.ob c xs vs=>if ((xs.zip vs).lookup m).isNone=true then js.lookup c else none
 |_=>none
def sH(f:Str)(v:Val):List (Str×Val)->List (Str×Val)
 |[]=>[(f,v)]
 |(g,x)::r=>if g=f then (g,v)::r else (g,x)::sH f v r
def Bh(n:Nat)(o:Val)(x:Str)(v:Val):M Unit:=match o with
 |.ref i=>bnd (ask λh=>match h[i]? with|some (.ins c fs)=>if c<n then some (c,fs) else none|_=>none) λp=>az (decide (p.2.length<1000)) (put i (.ins p.1 (sH x v p.2)))
 |_=>bM none
def EI(c:Nat)(φ:List Val->M Val)(vs:List Val):M Val:=bnd (new (.ins c [])) λo=>bnd (φ (o::vs)) λr=>match r with
 |.non=>ret o
 |_=>bM none
mutual
noncomputable def aB(Φ:Nat->List Val->M Val):IE->Env->M Val
 | .var i,env=>bM (match env[i]? with
  |some (some d)=>some d
  |_=>none)
 |.cst d,_=>ret d
 |.con _ d,_=>ret d
 |.no,_=>bM none
 |.bin o a b,env=>bnd (aB Φ a env) λx=>bnd (aB Φ b env) λy=>Nd o x y
 | .neg a,env=>bnd (aB Φ a env) λx=>match x with
  |.int i=>ret (.int (-i))
  |_=>bM none
 |.cmp o a b,env=>bnd (aB Φ a env) λx=>bnd (aB Φ b env) λy=>bnd (ask λh=>cop h o x y) λt=>ret (.bl t)
 |.chn _ _ _ _ _,_=>bM none
 |.and a b,env=>bnd (aB Φ a env) λx=>bnd (sG x) λt=>if t=true then bnd (aB Φ b env) λy=>bnd (sG y) λu=>ret (.bl u) else ret (.bl false)
 |.or a b,env=>bnd (aB Φ a env) λx=>bnd (sG x) λt=>if t=true then ret (.bl true) else bnd (aB Φ b env) λy=>bnd (sG y) λu=>ret (.bl u)
 |.not a,env=>bnd (aB Φ a env) λx=>bnd (sG x) λt=>ret (.bl (!t))
 |.ite _ _ _,_=>bM none
 |.tup es,env=>bnd (aF Φ es env) λds=>az (decide (ds.length<=sizeLine)) (ret (.tup ds))
 |.lst es,env=>bnd (aF Φ es env) λds=>az (decide (ds.length<=sizeLine)) (new (.lst ds))
 |.idx a b,env=>bnd (aB Φ a env) λx=>bnd (aB Φ b env) λy=>ask λh=>mY h x y
 |.slc a lo hi,env=>bnd (aB Φ a env) λx=>bnd (if dg lo=true then ret none else bnd (aB Φ lo env) λv=>bnd (bM (kG v)) λi=>ret (some i)) λl=>
   bnd (if dg hi=true then ret none else bnd (aB Φ hi env) λv=>bnd (bM (kG v)) λi=>ret (some i)) λu=>uw x l u
 |.call j es,env=>bnd (aF Φ es env) λds=>Φ j ds
 |.blt b es,env=>bnd (aF Φ es env) λds=>blt b ds
 |.met m a es,env=>bnd (aB Φ a env) λx=>bnd (ask λh=>recv h m x) λ_=>bnd (aF Φ es env) λds=>met m x ds
 | .comp _ js pat k it c elt,env=>bnd (aF Φ it env) λits=>bnd (bM (srcOf k its)) λsrc=>bnd (ask λh=>src.items h) λxs=>az (decide (xs.length<=100000))
   (bnd (gG src (λd=>bnd (bM (fN pat d (kF js env))) λenv'=>bnd (if dg c=true then ret true else bnd (aB Φ c env') λv=>ask λh=>cZ h v) λt=>
    if t=true then bnd (aB Φ elt env') λe=>ret (some e) else ret none) xs.length 0 []) λys=>new (.lst ys))
 |.dct0,_=>new (.dct [])
 |.sset a,env=>bnd (aB Φ a env) λv=>bnd (ask λh=>aI h v) λxs=>bnd (bM (cE xs)) λns=>az (decide (ns.length<64)) (new (.lst ((sortI (L2.cL [] ns)).map .int)))
 |.dget _ _ _,_=>bM none
 |.dct1 k v,env=>bnd (aB Φ k env) λx=>bnd (bM (keyOf x)) λkk=>bnd (aB Φ v env) λy=>new (.dct [(kk,y)])
 |.lkeys d,env=>bnd (aB Φ d env) λo=>bnd (ask λh=>ve h o) λks=>new (.lst (ks.map EH))
 |.sdef _ _ _,_=>bM none
 |.svals a,env=>bnd (aB Φ a env) λv=>bnd (ask λh=>aI h v) λxs=>bnd (bM (cE xs)) λns=>az (decide (ns.length<64)) (ret (.int ((L2.cL [] ns).length:Nat)))
 |.skeys d,env=>bnd (aB Φ d env) λo=>bnd (ask λh=>mZ h o) λns=>new (.lst (ns.map .int))
 |.fld n a x,env=>bnd (aB Φ a env) λo=>ask λh=>jd n h o x
 |.mth a m js es,env=>bnd (aB Φ a env) λo=>bnd (ask λh=>nV h o m js) λj=>bnd (aF Φ es env) λds=>Φ j (o::ds)
 |.rev a s,env=>bnd (aB Φ a env) λx=>bnd (if dg s=true then ret none else bnd (aB Φ s env) λv=>bnd (bM (kG v)) λi=>ret (some i)) λk=>
   az (decide (k=some (-1))) (bnd (ask λh=>aI h x) λxs=>new (.lst xs.reverse))
 |.dflt _ _ _ _ _ _,_=>bM none
 |.isc _ _ _,_=>bM none
noncomputable def aF(Φ:Nat->List Val->M Val):nQ->Env->M (List Val)
 |.nil,_=>ret []
 |.cons e es,env=>bnd (aB Φ e env) λd=>bnd (aF Φ es env) λds=>ret (d::ds)
end
inductive Fl
 |nx (env:Env)|rt (v:Val)|bk (env:Env)|ct (env:Env)
def forM(src:Src)(body:Val->Env->M Fl):Nat->Nat->Env->M Fl
 |0,i,env=>bnd (ask λh=>src.items h) λxs=>az (decide (xs.length<=i)) (ret (.nx env))
 | n+1,i,env=>bnd (ask λh=>src.items h) λxs=>match xs[i]? with
  |none=>ret (.nx env)
  | some x=>bnd (body x env) λf=>match f with
   |.nx env'=>forM src body n (i+1) env'
   |.ct env'=>forM src body n (i+1) env'
   |.bk env'=>ret (.nx env')
   |.rt v=>ret (.rt v)
def pF(c:Env->M Bool)(body:Env->M Fl):Nat->Env->M Fl
 |0,_=>bM none
 | n+1,env=>bnd (c env) λt=>if t=true then bnd (body env) λf=>(match f with
   |.nx env'=>pF c body n env'
   |.ct env'=>pF c body n env'
   |.bk env'=>ret (.nx env')
   |.rt v=>ret (.rt v)) else ret (.nx env)
def yv(o i v:Val):M Unit:=match o with
 | .ref j=>bnd (ask λh=>h[j]?) λob=>match ob with
  |.dct kvs=>bnd (bM (keyOf i)) λk=>az (decide (kvs.length<sizeLine)) (put j (.dct (iR kvs k v)))
  |_=>bM none
 |_=>bM none
mutual
noncomputable def dX(Φ:Nat->List Val->M Val):IS->Env->M Fl
 |.expr e,env=>bnd (aB Φ e env) λ_=>ret (.nx env)
 |.asg p e,env=>bnd (aB Φ e env) λv=>bnd (bM (fN p v env)) λenv'=>ret (.nx env')
 |.aug _ _ _,_=>bM none
 |.f9 o i v,env=>bnd (aB Φ v env) λx=>bnd (aB Φ o env) λy=>bnd (aB Φ i env) λz=>bnd (yv y z x) λ_=>ret (.nx env)
 |.iff c a b,env=>bnd (aB Φ c env) λx=>bnd (ask λh=>cZ h x) λt=>if t=true then bN Φ a env else bN Φ b env
 |.for p k it body,env=>bnd (aF Φ it env) λits=>bnd (bM (srcOf k its)) λsrc=>bnd (ask λh=>src.items h) λxs=>
   forM src (λx env=>bnd (bM (fN p x env)) λenv'=>bN Φ body env') xs.length 0 env
 |.whl n c body,env=>pF (λenv=>bnd (aB Φ c env) λx=>ask λh=>cZ h x) (bN Φ body) n env
 |.ret e,env=>bnd (aB Φ e env) λv=>ret (.rt v)
 |.Jz,_=>ret (.rt .non)
 |.brk,env=>ret (.bk env)
 |.cnt,env=>ret (.ct env)
 |.pass,env=>ret (.nx env)
 |.never,_=>bM none
 |.setF n a x v,env=>bnd (aB Φ v env) λy=>bnd (aB Φ a env) λo=>bnd (Bh n o x y) λ_=>ret (.nx env)
noncomputable def bN(Φ:Nat->List Val->M Val):dm->Env->M Fl
 |.nil,env=>ret (.nx env)
 | .cons s r,env=>bnd (dX Φ s env) λf=>match f with
  |.nx env'=>bN Φ r env'
  |f=>ret f
end
def fW(Φ:Nat->List Val->M Val)(n:Nat)(body:dm)(vs:List Val):M Val :=
 bnd (bN Φ body (vs.map some++replicate (n-vs.length) none)) λf=>match f with
  |.nx _=>ret .non
  |.rt v=>ret v
  |_=>bM none
theorem kH{b:Bool}(ho:o=.lt\/o=.le\/o=.gt\/o=.ge)(e:cop h o v w=some b):∃i j,v=.int i/\w=.int j:=by
 cases v with
 |int i=>
  cases w with
  |int j=>exact⟨i,j,rfl,rfl⟩
  |_=>rcases ho with rfl|rfl|rfl|rfl<;>cases e
 |_=>rcases ho with rfl|rfl|rfl|rfl<;>cases e
structure Bd where
 K:Frag
 cl:Nat->Addr
def Nf(K:Frag)(H:Hp)(a:Addr)(xs:List V):Prop :=
 (∃o,H a=some (.v9 o (.lst xs)))\/j4 K (λ_=>none) a xs
theorem Nf.sq{K:Frag}{H:Hp}{a:Addr}{xs:List V}(h:Nf K H a xs):j4 K H a xs:=by
 rcases h with ⟨o,h⟩|(h|⟨o,h⟩)|h
 ·exact .inl (.inr ⟨o,h⟩)
 ·cases h
 ·cases h
 ·exact .inr h
mutual
noncomputable def VR(K:Frag)(ρ:List Addr)(H:Hp):Val->V->Prop
 |.non,x=>x=.non
 |.bl b,x=>x=.bl b
 |.int i,x=>x=.int i
 |.str s,x=>x=.str s
 |.tup vs,x=>∃a xs,x=.ref a/\mD K H a xs/\aD K ρ H vs xs
 |.rl vs,x=>∃a xs,x=.ref a/\Nf K H a xs/\aD K ρ H vs xs
 |.dc _ _,_=>False
 |.ob _ _ _,_=>False
 |.ref i,x=>∃a,x=.ref a /\ ρ[i]?=some a
noncomputable def aD(K:Frag)(ρ:List Addr)(H:Hp):List Val->List V->Prop
 |[],xs=>xs=[]
 |v::vs,xs=>∃x r,xs=x::r/\VR K ρ H v x/\aD K ρ H vs r
end
def iQ(K:Frag)(ρ:List Addr)(H:Hp):List (Key×Val)->List (Key×V)->Prop
 |[],xs=>xs=[]
 |(k,v)::vs,xs=>∃x r,xs=(k,x)::r/\VR K ρ H v x/\iQ K ρ H vs r
def nW(K:Frag)(ρ:List Addr)(H:Hp):List (Str×Val)->List (Str×V)->Prop
 |[],xs=>xs=[]
 |(k,v)::vs,xs=>∃x r,xs=(k,x)::r/\VR K ρ H v x/\nW K ρ H vs r
def OR(B:Bd)(ρ:List Addr)(H:Hp)(a:Addr):Ob->Prop
 |.lst xs=>∃ys,H a=some (.lst ys)/\aD B.K ρ H xs ys
 |.dct kvs=>∃ks,H a=some (.dK ks)/\iQ B.K ρ H kvs ks
 |.ins c fs=>∃dx gs,H a=some (.ins (B.cl c) dx gs)/\nW B.K ρ H fs gs
structure HR (B:Bd) (ρ:List Addr) (h:Hs) (H:Hp):Prop where
 len:ρ.length=h.length
 nd:ρ.Nodup
 ob:∀(i:Nat) (o:Ob) (a:Addr),h[i]?=some o -> ρ[i]?=some a->OR B ρ H a o
def Mu:HO->Bool
 |.lst _=>true|.dK _=>true|.ins ..=>true
 |_=>false
structure Gw (ρ:List Addr) (H:Hp) (ρ':List Addr) (H':Hp):Prop where
 pre:ρ <+: ρ'
 firm:∀a o,H a=some o->Mu o=false->H' a=some o
structure Gr (ρ:List Addr) (H:Hp) (ρ':List Addr) (H':Hp):Prop where
 pre:ρ <+: ρ'
 keep:∀a o,H a=some o->a ∉ ρ -> H' a=some o
 firm:∀a o,H a=some o->Mu o=false->H' a=some o
 fresh:∀a,a ∈ ρ'->a ∉ ρ -> H a=none
section
variable {K:Frag} {B:Bd} {ρ ρ' ρ1 ρ2:List Addr} {H H' H1 H2:Hp} {h h':Hs}
theorem Gr.w(g:Gr ρ H ρ' H'):Gw ρ H ρ' H':=⟨g.pre,g.firm⟩
theorem Gr.refl:Gr ρ H ρ H:=⟨aaK _,λ_ _ e _=>e,λ_ _ e _=>e,λ_ e n=>absurd e n⟩
theorem Gr.trans(g:Gr ρ H ρ1 H1)(k:Gr ρ1 H1 ρ2 H2):Gr ρ H ρ2 H2 where
 pre:=g.pre.trans k.pre
 keep a o e n:=k.keep a o (g.keep a o e n) λz=>by rw[g.fresh a z n]at e;cases e
 firm a o e n:=k.firm a o (g.firm a o e n) n
 fresh a z n:=by
  by_cases hb:a ∈ ρ1
  ·exact g.fresh a hb n
  ·cases e:H a with
   |none=>rfl
   |some o=>have e1:=g.keep a o e n;rw[k.fresh a z hb]at e1;cases e1
theorem wK{i:Nat}(p:ρ <+: ρ')(e:ρ[i]?=some a):ρ'[i]?=some a:=by
 obtain⟨t,rfl⟩:=p;have hi:i < ρ.length:=(aah.mp e).1;rw[aav hi];exact e
theorem Gw.Ux(g:Gw ρ H ρ' H')(e:mD K H a xs):mD K H' a xs:=by
 rcases e with (e|⟨o,e⟩)|e
 ·exact .inl (.inl (g.firm _ _ e rfl))
 ·exact .inl (.inr ⟨o,g.firm _ _ e rfl⟩)
 ·exact .inr e
theorem Gw.Uy(g:Gw ρ H ρ' H')(e:Nf K H a xs):Nf K H' a xs:=by
 rcases e with ⟨o,e⟩|e
 ·exact .inl ⟨o,g.firm _ _ e rfl⟩
 ·exact .inr e
mutual
theorem VR.mH(g:Gw ρ H ρ' H'):∀(v:Val) (x:V),VR K ρ H v x->VR K ρ' H' v x
 |.non,x,e=>by rw[VR]at e |-;exact e
 |.bl b,x,e=>by rw[VR]at e |-;exact e
 |.int b,x,e=>by rw[VR]at e |-;exact e
 |.str b,x,e=>by rw[VR]at e |-;exact e
 | .tup vs,x,e=>by
  rw[VR]at e |-;obtain⟨a,xs,rfl,q1,q2⟩:=e;exact⟨a,xs,rfl,g.Ux q1,aD.mH g vs xs q2⟩
 | .rl vs,x,e=>by
  rw[VR]at e |-;obtain⟨a,xs,rfl,q1,q2⟩:=e;exact⟨a,xs,rfl,g.Uy q1,aD.mH g vs xs q2⟩
 |.dc _ _,x,e=>by rw[VR]at e;exact e.elim
 |.ob _ _ _,x,e=>by rw[VR]at e;exact e.elim
 | .ref i,x,e=>by
  rw[VR]at e |-;obtain⟨a,rfl,q⟩:=e;exact⟨a,rfl,wK g.pre q⟩
theorem aD.mH(g:Gw ρ H ρ' H'):∀(vs:List Val) (xs:List V),aD K ρ H vs xs->aD K ρ' H' vs xs
 |[],xs,e=>by rw[aD]at e |-;exact e
 | v::vs,xs,e=>by
  rw[aD]at e |-;obtain⟨x,r,rfl,q1,q2⟩:=e;exact⟨x,r,rfl,VR.mH g v x q1,aD.mH g vs r q2⟩
end
theorem iQ.mH(g:Gw ρ H ρ' H'):∀(vs:List (Key×Val)) (xs:List (Key×V)),iQ K ρ H vs xs->iQ K ρ' H' vs xs
 |[],xs,e=>e
 |(k,v)::vs,xs,⟨x,r,e,q1,q2⟩=>⟨x,r,e,VR.mH g v x q1,iQ.mH g vs r q2⟩
theorem nW.mH(g:Gw ρ H ρ' H'):∀(vs:List (Str×Val)) (xs:List (Str×V)),nW K ρ H vs xs->nW K ρ' H' vs xs
 |[],xs,e=>e
 |(k,v)::vs,xs,⟨x,r,e,q1,q2⟩=>⟨x,r,e,VR.mH g v x q1,nW.mH g vs r q2⟩
theorem nW.look:∀{vs:List (Str×Val)} {xs:List (Str×V)},nW K ρ H vs xs->(vs.lookup x=none->xs.lookup x=none)/\∀v,vs.lookup x=some v->∃y,xs.lookup x=some y/\VR K ρ H v y
 |[],xs,e=>by rw[nW]at e;subst e;exact⟨λ_=>rfl,λv z=>by cases z⟩
 | (k,v)::vs,xs,e=>by
  rw[nW]at e;obtain⟨y,r,rfl,q1,q2⟩:=e;rw[aaV,aaV];cases hb:x==k with
  |true=>exact⟨λz=>(by cases z),λw z=>by cases z;exact⟨y,rfl,q1⟩⟩
  |false=>exact nW.look q2
theorem nW.length:∀{vs:List (Str×Val)} {xs:List (Str×V)},nW K ρ H vs xs->vs.length=xs.length
 |[],xs,e=>by rw[nW]at e;subst e;rfl
 |(k,v)::vs,xs,e=>by rw[nW]at e;obtain⟨y,r,rfl,_,q⟩:=e;simp[nW.length q]
theorem nW.put(hw:VR K ρ H w y):∀{vs:List (Str×Val)} {xs:List (Str×V)},nW K ρ H vs xs->nW K ρ H (sH x w vs) (jO x y xs)
 |[],xs,e=>by rw[nW]at e;subst e;exact⟨y,[],rfl,hw,rfl⟩
 | (k,v)::vs,xs,e=>by
  rw[nW]at e;obtain⟨z,r,rfl,q1,q2⟩:=e;rw[sH,jO]
  by_cases hk:k=x
  ·rw[aak hk,aak hk];exact⟨y,r,rfl,hw,q2⟩
  ·rw[aam hk,aam hk];exact⟨z,_,rfl,q1,nW.put hw q2⟩
theorem VR.up(g:Gr ρ H ρ' H')(v:Val)(x:V)(e:VR K ρ H v x):VR K ρ' H' v x:=VR.mH g.w v x e
theorem aD.up(g:Gr ρ H ρ' H')(v:List Val)(x:List V)(e:aD K ρ H v x):aD K ρ' H' v x:=aD.mH g.w v x e
theorem iQ.up(g:Gr ρ H ρ' H')(v:List (Key×Val))(x:List (Key×V))(e:iQ K ρ H v x):iQ K ρ' H' v x:=iQ.mH g.w v x e
theorem nW.up(g:Gr ρ H ρ' H')(v:List (Str×Val))(x:List (Str×V))(e:nW K ρ H v x):nW K ρ' H' v x:=nW.mH g.w v x e
theorem aD.nil:aD K ρ H [] []:=by rw[aD]
theorem aD.cons{v:Val}{vs:List Val}{x:V}{xs:List V}(a:VR K ρ H v x)(b:aD K ρ H vs xs):aD K ρ H (v::vs) (x::xs):=by rw[aD];exact⟨x,xs,rfl,a,b⟩
theorem aD.length:∀{vs:List Val} {xs:List V},aD K ρ H vs xs->vs.length=xs.length
 |[],xs,e=>by rw[aD]at e;subst e;rfl
 |v::vs,xs,e=>by rw[aD]at e;obtain⟨x,r,rfl,_,q⟩:=e;simp[aD.length q]
theorem aD.get:∀{vs:List Val} {xs:List V} {i:Nat} {v:Val},aD K ρ H vs xs->vs[i]?=some v->∃x,xs[i]?=some x/\VR K ρ H v x
 |[],xs,i,v,e,q=>by simp at q
 | w::vs,xs,0,v,e,q=>by
  rw[aD]at e;obtain⟨x,r,rfl,a,_⟩:=e;simp at q;subst q;exact⟨x,rfl,a⟩
 | w::vs,xs,i+1,v,e,q=>by
  rw[aD]at e;obtain⟨x,r,rfl,_,b⟩:=e;simp at q;obtain⟨y,q1,q2⟩:=aD.get b q;exact⟨y,by simpa using q1,q2⟩
theorem aD.append:∀{vs ws:List Val} {xs ys:List V},aD K ρ H vs xs->aD K ρ H ws ys->aD K ρ H (vs++ws) (xs++ys)
 |[],ws,xs,ys,e,q=>by rw[aD]at e;subst e;exact q
 | w::vs,ws,xs,ys,e,q=>by
  rw[aD]at e;obtain⟨x,r,rfl,a,b⟩:=e;exact aD.cons a (aD.append b q)
theorem aD.take:∀{vs:List Val} {xs:List V} (n:Nat),aD K ρ H vs xs->aD K ρ H (vs.take n) (xs.take n)
 |_,_,0,_=>by simp;exact aD.nil
 |[],xs,n+1,e=>by rw[aD]at e;subst e;simp;exact aD.nil
 | w::vs,xs,n+1,e=>by
  rw[aD]at e;obtain⟨x,r,rfl,a,b⟩:=e;exact aD.cons a (aD.take n b)
theorem aD.drop:∀{vs:List Val} {xs:List V} (n:Nat),aD K ρ H vs xs->aD K ρ H (vs.drop n) (xs.drop n)
 |_,_,0,e=>by simpa using e
 |[],xs,n+1,e=>by rw[aD]at e;subst e;simp;exact aD.nil
 | w::vs,xs,n+1,e=>by
  rw[aD]at e;obtain⟨x,r,rfl,a,b⟩:=e;exact aD.drop n b
theorem aD.cut(lo hi:Option Int)(e:aD K ρ H vs xs):aD K ρ H (cg vs lo hi) (yb xs lo hi):=by
 unfold cg yb;rw[e.length];exact aD.take _ (aD.drop _ e)
theorem aD.app:∀{vs ws:List Val} {xs ys:List V},aD K ρ H vs xs->aD K ρ H ws ys->aD K ρ H (vs++ws) (xs++ys)
 |[],_,xs,_,e,q=>by rw[aD]at e;subst e;exact q
 | v::vs,_,xs,_,e,q=>by
  rw[aD]at e;obtain⟨x,r,rfl,a,b⟩:=e;rw[cons_append,cons_append,aD];exact⟨x,_,rfl,a,aD.app b q⟩
theorem aD.rev:∀{vs:List Val} {xs:List V},aD K ρ H vs xs->aD K ρ H vs.reverse xs.reverse
 |[],xs,e=>by rw[aD]at e;subst e;rw[List.reverse_nil,List.reverse_nil,aD]
 | v::vs,xs,e=>by
  rw[aD]at e;obtain⟨x,r,rfl,a,b⟩:=e;rw[reverse_cons,reverse_cons];refine aD.app (aD.rev b) ?_;rw[aD];exact⟨x,[],rfl,a,by rw[aD]⟩
theorem aD.ko{i:Int}(e:aD K ρ H vs xs)(q:L2.ko vs i=some v):∃x,L2.ko xs i=some x/\VR K ρ H v x:=by
 unfold L2.ko at q |-;rw[e.length]at q;cases hi:L2.Ls xs.length i with
 |none=>rw[hi]at q;cases q
 |some n=>rw[hi]at q;exact aD.get e q
theorem aD.one(e:aD K ρ H [v] xs):∃x,xs=[x]/\VR K ρ H v x:=by
 rw[aD]at e;obtain⟨x,r,rfl,a,b⟩:=e;rw[aD]at b;subst b;exact⟨x,rfl,a⟩
theorem aD.two(e:aD K ρ H [v,w] xs):∃x y,xs=[x,y]/\VR K ρ H v x/\VR K ρ H w y:=by
 rw[aD]at e;obtain⟨x,r,rfl,a,b⟩:=e;obtain⟨y,rfl,c⟩:=aD.one b;exact⟨x,y,rfl,a,c⟩
theorem VR.int{i:Int}:VR K ρ H (.int i) (.int i):=by rw[VR]
theorem VR.str:VR K ρ H (.str i) (.str i):=by rw[VR]
theorem VR.bl{i:Bool}:VR K ρ H (.bl i) (.bl i):=by rw[VR]
theorem VR.non:VR K ρ H .non .non:=by rw[VR]
theorem VR.tup(q:mD K H a xs)(e:aD K ρ H vs xs):VR K ρ H (.tup vs) (.ref a):=by rw[VR];exact⟨a,xs,rfl,q,e⟩
theorem VR.ref{i:Nat}(q:ρ[i]?=some a):VR K ρ H (.ref i) (.ref a):=by rw[VR];exact⟨a,rfl,q⟩
theorem aD.ints:∀{ns:List Int} {xs:List V},aD K ρ H (ns.map Val.int) xs↔xs=ns.map V.int
 |[],xs=>by simp[aD]
 | n::ns,xs=>by
  simp only[map_cons];rw[aD];constructor
  ·rintro⟨x,r,rfl,a,b⟩;rw[VR]at a;subst a;rw[(aD.ints (ns:=ns)).mp b]
  ·rintro rfl;exact⟨_,_,rfl,VR.int,(aD.ints (ns:=ns)).mpr rfl⟩
theorem aD.bools:∀{ns:List Bool} {xs:List V},aD K ρ H (ns.map Val.bl) xs↔xs=ns.map V.bl
 |[],xs=>by simp[aD]
 | n::ns,xs=>by
  simp only[map_cons];rw[aD];constructor
  ·rintro⟨x,r,rfl,a,b⟩;rw[VR]at a;subst a;rw[(aD.bools (ns:=ns)).mp b]
  ·rintro rfl;exact⟨_,_,rfl,VR.bl,(aD.bools (ns:=ns)).mpr rfl⟩
theorem aD.tups:∀{qW:List (List Int)} {xs:List V},aD K ρ H (qW.map nT) xs->∃rs:List (Addr×List Int),xs=rs.map (λr=>V.ref r.1)/\qW=rs.map (·.2)/\∀r∈rs,mD K H r.1 (r.2.map V.int)
 |[],xs,e=>by simp only[map_nil]at e;rw[aD]at e;exact⟨[],e,rfl,λ_ z=>nomatch z⟩
 | ks::qW,xs,e=>by
  simp only[map_cons]at e;rw[aD]at e;obtain⟨x,r,rfl,a,b⟩:=e;obtain⟨rs,e1,e2,e3⟩:=aD.tups b;unfold nT at a;rw[VR]at a;obtain⟨p,ys,rfl,g1,g2⟩:=a;rw[aD.ints.mp g2]at g1;refine⟨(p,ks)::rs,by rw[e1];rfl,by rw[e2];rfl,λr hr=>?_⟩
  rcases aaw.mp hr with z|z
  ·rw[z];exact g1
  ·exact e3 r z
theorem aD.Bj:∀{rs:List (Addr×List Int)},(∀r∈rs,mD K H r.1 (r.2.map V.int))->aD K ρ H ((rs.map (·.2)).map nT) (rs.map λr=>V.ref r.1)
 |[],_=>aD.nil
 |r::rs,e=>aD.cons (VR.tup (e r aag) (aD.ints.mpr rfl)) (aD.Bj λq hq=>e q (aac _ hq))
theorem OR.mu(q:OR B ρ H a o):∃u,H a=some u/\Mu u=true:=by
 cases o with
 |lst xs=>obtain⟨ys,e,_⟩:=q;exact⟨_,e,rfl⟩
 |dct xs=>obtain⟨ys,e,_⟩:=q;exact⟨_,e,rfl⟩
 |ins c fs=>obtain⟨dx,ys,e,_⟩:=q;exact⟨_,e,rfl⟩
theorem HR.mu(r:HR B ρ h H)(e:a ∈ ρ):∃u,H a=some u/\Mu u=true:=by
 obtain⟨i,hi,rfl⟩:=getElem_of_mem e;have hi':i<h.length:=by rw[<-r.len];exact hi
 exact(r.ob i _ _ (aax hi') (aax hi)).mu
theorem HR.out(r:HR B ρ h H)(e:H p=none):p ∉ ρ:=λz=>by
 obtain⟨u,q,_⟩:=r.mu z;rw[e]at q;cases q
theorem OR.mH(g:Gw ρ H ρ' H')(e:H' a=H a)(q:OR B ρ H a o):OR B ρ' H' a o:=by
 cases o with
 |lst xs=>obtain⟨ys,e1,e2⟩:=q;exact⟨ys,e.trans e1,aD.mH g _ _ e2⟩
 |dct xs=>obtain⟨ys,e1,e2⟩:=q;exact⟨ys,e.trans e1,iQ.mH g _ _ e2⟩
 |ins c fs=>obtain⟨dx,ys,e1,e2⟩:=q;exact⟨dx,ys,e.trans e1,nW.mH g _ _ e2⟩
theorem OR.up(g:Gr ρ H ρ' H')(e:H' a=H a)(q:OR B ρ H a o):OR B ρ' H' a o:=OR.mH g.w e q
theorem Gr.side(e:H p=none):Gr ρ H ρ (upd H p o) where
 pre:=aaK _
 keep a u q _:=by rw[aR (bf q e)];exact q
 firm a u q _:=by rw[aR (bf q e)];exact q
 fresh a z n:=absurd z n
theorem HR.side(r:HR B ρ h H)(e:H p=none):HR B ρ h (upd H p o) where
 len:=r.len
 nd:=r.nd
 ob i u a q1 q2:=by refine OR.up (Gr.side e) ?_ (r.ob i u a q1 q2);refine aR λz=>?_;subst z;exact r.out e (aaL q2)
theorem Gw.other(e:H p=some u)(hm:Mu u=true):Gw ρ H ρ (upd H p o) where
 pre:=aaK _
 firm a w q n:=by
  have:a≠p:=λz=>by subst z;rw[e]at q;cases q;rw[hm]at n;cases n
  rw[aR this];exact q
theorem HR.other(r:HR B ρ h H)(hp:p ∉ ρ)(e:H p=some u)(hm:Mu u=true):HR B ρ h (upd H p o) where
 len:=r.len
 nd:=r.nd
 ob i w a q1 q2:=OR.mH (Gw.other e hm) (aR λz=>by subst z;exact hp (aaL q2)) (r.ob i w a q1 q2)
theorem Gr.new(e:H p=none):Gr ρ H (ρ ++ [p]) (upd H p o) where
 pre:=aa7 _ _
 keep a u q _:=by rw[aR (bf q e)];exact q
 firm a u q _:=by rw[aR (bf q e)];exact q
 fresh a z n:=by
  rcases aas.mp z with z|z
  ·exact absurd z n
  ·rw[aap.mp z];exact e
theorem HR.new(r:HR B ρ h H)(e:H p=none)(q:OR B (ρ ++ [p]) (upd H p o) p u):HR B (ρ ++ [p]) (h++[u]) (upd H p o) where
 len:=by simp[r.len]
 nd:=by rw[aaH];refine⟨r.nd,by simp,λa ha b hb=>?_⟩;rw[aap.mp hb];rintro rfl;exact r.out e ha
 ob i v a q1 q2:=by
  by_cases hi:i<h.length
  ·rw[aav hi]at q1;rw[aav (by rw[r.len];exact hi)]at q2;refine OR.up (Gr.new e) (aR λz=>?_) (r.ob i v a q1 q2);subst z;exact r.out e (aaL q2)
  ·rw[aaC (by omega)]at q1
   rw[aaC (by rw[r.len];omega)]at q2;have hi0:i-h.length=0:=by have:=(aah.mp q1).1;simp at this;omega
   rw[hi0]at q1;rw[r.len,hi0]at q2;simp at q1 q2;subst q1;subst q2;exact q
theorem Bk(r:HR B ρ h H):VR K (ρ ++ [p]) H' (.ref h.length) (.ref p):=VR.ref (by rw[<-r.len];simp)
theorem Lz{α:Type}:∀{l:List α} {i j:Nat} {a:α},l.Nodup->l[i]?=some a->l[j]?=some a->i=j
 |[],i,j,a,_,e,_=>by simp at e
 |b::l,0,0,a,_,_,_=>rfl
 | b::l,0,j+1,a,n,e,f=>by
  simp at e f;subst e;exact absurd (aaL f) (aaI.mp n).1
 | b::l,i+1,0,a,n,e,f=>by
  simp at e f;subst f;exact absurd (aaL e) (aaI.mp n).1
 | b::l,i+1,j+1,a,n,e,f=>by
  simp at e f;rw[Lz (aaI.mp n).2 e f]
theorem Gr.put(hp:p ∈ ρ)(e:H p=some u)(hm:Mu u=true):Gr ρ H ρ (upd H p o) where
 pre:=aaK _
 keep a w q n:=by rw[aR λz=>n (by rw[z];exact hp)];exact q
 firm a w q n:=by
  have:a≠p:=λz=>by subst z;rw[e]at q;cases q;rw[hm]at n;cases n
  rw[aR this];exact q
 fresh a z n:=absurd z n
theorem HR.put{i:Nat}(r:HR B ρ h H)(hi:ρ[i]?=some p)(e:h[i]?=some w)(q:OR B ρ (upd H p o) p u):HR B ρ (h.set i u) (upd H p o) where
 len:=by simp[r.len]
 nd:=r.nd
 ob j v a q1 q2:=by
  obtain⟨z,k1,k2⟩:=(r.ob i w p e hi).mu
  by_cases hj:j=i
  ·subst hj;rw[hi]at q2;cases q2;have hlt:j<h.length:=(aah.mp e).1;rw[aan hlt]at q1;cases q1;exact q
  ·rw[aaf (λz=>hj z.symm)]at q1;refine OR.up (Gr.put (aaL hi) k1 k2) (aR λz=>?_) (r.ob j v a q1 q2);subst z;exact hj (Lz r.nd q2 hi)
theorem fO(r:HR B ρ h H)(q:VR B.K ρ H v x)(e:aI h v=some xs):∃a ys,x=.ref a/\j4 B.K H a ys/\aD B.K ρ H xs ys:=by
 cases v with
 |rl vs=>simp only[aI]at e;cases e;rw[VR]at q;obtain⟨a,ys,rfl,k1,k2⟩:=q;exact⟨a,ys,rfl,k1.sq,k2⟩
 |ref i=>
  simp only[aI]at e;split at e
  ·rename_i zs e1;cases e;rw[VR]at q;obtain⟨a,rfl,k1⟩:=q;obtain⟨ys,k2,k3⟩:=r.ob i _ a e1 k1;exact⟨a,ys,rfl,.inl (.inl k2),k3⟩
  ·cases e
 |_=>cases e
theorem nX{i:Nat}(r:HR B ρ h H)(q:VR B.K ρ H (.ref i) x)(e:h[i]?=some (.lst xs)):∃a ys,x=.ref a /\ ρ[i]?=some a/\H a=some (.lst ys)/\aD B.K ρ H xs ys:=by
 rw[VR]at q;obtain⟨a,rfl,k1⟩:=q;obtain⟨ys,k2,k3⟩:=r.ob i _ a e k1;exact⟨a,ys,rfl,k1,k2,k3⟩
theorem Ng(r:HR B ρ h H)(q:VR B.K ρ H v x)(e:kD h v=some xs):∃a ys,x=.ref a/\(j4 B.K H a ys\/mD B.K H a ys)/\aD B.K ρ H xs ys:=by
 cases v with
 |tup vs=>simp only[kD]at e;cases e;rw[VR]at q;obtain⟨a,ys,rfl,k1,k2⟩:=q;exact⟨a,ys,rfl,.inr k1,k2⟩
 |rl vs=>obtain⟨a,ys,e1,k1,k2⟩:=fO r q (show aI h (.rl vs)=some xs from e);exact⟨a,ys,e1,.inl k1,k2⟩
 |ref vs=>obtain⟨a,ys,e1,k1,k2⟩:=fO r q (show aI h (.ref vs)=some xs from e);exact⟨a,ys,e1,.inl k1,k2⟩
 |_=>cases e
theorem pG(r:HR B ρ h H):∀(n:Nat) (v:Val) (x:V) (d:PyData),VR B.K ρ H v x->toD n h v=some d->Den B.K H d x/\d.canLay0=true/\d.depth<=n:=by
 intro n
 induction n with
 |zero=>intro v x d _ e;simp only[toD]at e;cases e
 |succ n ih=>
  have all:∀(vs:List Val) (xs:List V) (ds:List PyData),aD B.K ρ H vs xs->cM (toD n h) vs=some ds->fG B.K H ds xs/\PyData.canLayAll0 ds=true/\PyData.depthAll ds<=n:=by
   intro vs
   induction vs with
   |nil=>intro xs ds q e;simp only[cM]at e;cases e;rw[aD]at q;subst q;exact⟨fG.nil,rfl,by simp[PyData.depthAll]⟩
   |cons v vs Y3=>intro xs ds q e;simp only[cM]at e;obtain⟨d,e1,e⟩:=aad.mp e;obtain⟨ds',e2,e⟩:=aad.mp e;cases e;rw[aD]at q;obtain⟨x,r,rfl,q1,q2⟩:=q;obtain⟨a1,a2,a3⟩:=ih v x d q1 e1;obtain⟨b1,b2,b3⟩:=Y3 r ds' q2 e2;refine⟨fG.cons a1 b1,by simp[PyData.canLayAll0,a2,b2],?_⟩;simp only[PyData.depthAll];omega
  intro v x d q e;cases v with
  |non=>simp only[toD]at e;cases e;rw[VR]at q;subst q;exact⟨Den.none,rfl,by simp[PyData.depth]⟩
  |bl b=>simp only[toD]at e;cases e;rw[VR]at q;subst q;exact⟨Den.bool,rfl,by simp[PyData.depth]⟩
  |int b=>simp only[toD]at e;cases e;rw[VR]at q;subst q;exact⟨Den.int,rfl,by simp[PyData.depth]⟩
  |str b=>
   simp only[toD]at e;split at e
   ·rename_i hs;cases e;rw[VR]at q;subst q;exact⟨Den.str,by simp[PyData.canLay0,hs],by simp[PyData.depth]⟩
   ·cases e
  |tup vs=>simp only[toD]at e;obtain⟨ds,e1,e⟩:=aad.mp e;cases e;rw[VR]at q;obtain⟨a,xs,rfl,q1,q2⟩:=q;obtain⟨b1,b2,b3⟩:=all vs xs ds q2 e1;exact⟨Den.tuple q1 b1,by simp[PyData.canLay0,b2],by simp only[PyData.depth];omega⟩
  |rl vs=>simp only[toD]at e;obtain⟨ds,e1,e⟩:=aad.mp e;cases e;rw[VR]at q;obtain⟨a,xs,rfl,q1,q2⟩:=q;obtain⟨b1,b2,b3⟩:=all vs xs ds q2 e1;exact⟨Den.list q1.sq b1,by simp[PyData.canLay0,b2],by simp only[PyData.depth];omega⟩
  |dc _ _=>rw[VR]at q;exact q.elim
  |ob _ _ _=>rw[VR]at q;exact q.elim
  |ref i=>simp only[toD]at e;obtain⟨vs,e0,e⟩:=aad.mp e;obtain⟨ds,e1,e⟩:=aad.mp e;cases e;obtain⟨a,xs,rfl,q1,q2⟩:=fO r q e0;obtain⟨b1,b2,b3⟩:=all vs xs ds q2 e1;exact⟨Den.list q1 b1,by simp[PyData.canLay0,b2],by simp only[PyData.depth];omega⟩
end
theorem pH(x:List Int):∀l,(wI x l).Perm (x::l)
 |[]=>.refl _
 | y::r=>by
  unfold wI;split
  ·exact((pH x r).cons y).trans (.swap _ _ _)
  ·exact .refl _
theorem sI:∀l,(nR l).Perm l
 |[]=>.refl _
 |x::r=>(pH x _).trans ((sI r).cons x)
theorem yw{a b c:List Int}(h1:HT.lexLt b a=false)(h2:HT.lexLt c b=false):HT.lexLt c a=false:=by
 cases e:HT.lexLt c a with
 |false=>rfl
 |true=>
  rcases qM.uV c b a e with z|z
  ·rw[h2]at z;cases z
  ·rw[h1]at z;cases z
theorem yx{a b:List Int}(h:HT.lexLt a b=true):HT.lexLt b a=false:=by
 cases e:HT.lexLt b a with
 |false=>rfl
 |true=>have:=qM.iX _ _ _ h e;rw[qM.jR]at this;cases this
theorem Bm(x:List Int):∀l:List (List Int),l.Pairwise (λa b=>HT.lexLt b a=false)->(wI x l).Pairwise (λa b=>HT.lexLt b a=false)
 |[],_=>by simp[wI]
 | y::r,h=>by
  obtain⟨h1,h2⟩:=aaR.mp h;unfold wI
  split
  ·rename_i hlt
   refine aaR.mpr ⟨λz hz=>?_,Bm x r h2⟩
   rcases aaw.mp ((pH x r).mem_iff.mp hz) with rfl|hz
   ·exact yx hlt
   ·exact h1 z hz
  ·rename_i hlt
   refine aaR.mpr ⟨λz hz=>?_,h⟩;have hxy:HT.lexLt y x=false:=by simpa using hlt
   rcases aaw.mp hz with rfl|hz
   ·exact hxy
   ·exact yw hxy (h1 z hz)
theorem yy:∀l,(nR l).Pairwise (λa b=>HT.lexLt b a=false)
 |[]=>.nil
 |x::r=>Bm x _ (yy r)
theorem EJ(hp:l.Perm qW)(hs:l.Pairwise (λa b=>HT.lexLt b a=false)):l=nR qW :=
 List.Perm.eq_of_pairwise (λa b _ _ h1 h2=>qM.iW a b h2 h1) hs (yy qW) (hp.trans (sI qW).symm)
def Post(B:Bd)(EX:Nat->List V->Hp->Prop)(ρ:List Addr)(H:Hp){α:Type}(W:α -> Hs->List Addr->Hp->Prop):Out α -> Prop
 |.ok a h'=>∀ρ' H',Gr ρ H ρ' H'->HR B ρ' h' H'->W a h' ρ' H'
 |.exc c vs h'=>∀ρ' H' xs,Gr ρ H ρ' H'->HR B ρ' h' H'->aD B.K ρ' H' vs xs->EX c xs H'
 |.no=>False
def WV(K:Frag)(Q:VK):Val->Hs->List Addr->Hp->Prop:=λv _ ρ' H'=>∀x,VR K ρ' H' v x->Q x H'
section
variable {B:Bd} {EX:Nat->List V->Hp->Prop} {ρ ρ':List Addr} {H H':Hp} {α β:Type} {W:β -> Hs->List Addr->Hp->Prop} {h h':Hs} {Q:VK}
theorem Post.up(g:Gr ρ H ρ' H')(p:Post B EX ρ H W o):Post B EX ρ' H' W o:=by
 cases o with
 |ok a h'=>exact λρ2 H2 g2 r=>p ρ2 H2 (g.trans g2) r
 |exc c vs h'=>exact λρ2 H2 xs g2 r=>p ρ2 H2 xs (g.trans g2) r
 |no=>exact p
theorem aT{c:Bool}(p:Post B EX ρ H W (az c m h)):c=true/\Post B EX ρ H W (m h):=by
 unfold az at p;split at p
 ·rename_i e;exact⟨e,p⟩
 ·exact p.elim
theorem aJ(p:Post B EX ρ H W (bnd (ask f) g h)):∃a,f h=some a/\Post B EX ρ H W (g a h):=by
 unfold bnd ask bM at p;cases e:f h with
 |none=>rw[e]at p;exact p.elim
 |some a=>rw[e]at p;exact⟨a,rfl,p⟩
theorem dY(r:HR B ρ h H)(p:Post B EX ρ H W (ask f h)):∃a,f h=some a/\W a h ρ H:=by
 unfold ask bM at p;cases e:f h with
 |none=>rw[e]at p;exact p.elim
 |some a=>rw[e]at p;exact⟨a,rfl,p ρ H Gr.refl r⟩
theorem cH(p:Post B EX ρ H W (bnd (bM o) g h)):∃a,o=some a/\Post B EX ρ H W (g a h):=by
 unfold bnd bM at p;cases e:o with
 |none=>rw[e]at p;exact p.elim
 |some a=>rw[e]at p;exact⟨a,rfl,p⟩
theorem gf(r:HR B ρ h H)(p:Post B EX ρ H W (bM o h)):∃a,o=some a/\W a h ρ H:=by
 unfold bM at p;cases e:o with
 |none=>rw[e]at p;exact p.elim
 |some a=>rw[e]at p;exact⟨a,rfl,p ρ H Gr.refl r⟩
theorem ao(r:HR B ρ h H)(p:Post B EX ρ H W (ret a h)):W a h ρ H:=p ρ H Gr.refl r
theorem yz(r:HR B ρ h H)(hp:H p=none)(q:OR B (ρ ++ [p]) (upd H p O) p o)(w:Post B EX ρ H (WV B.K Q) (new o h)):Q (.ref p) (upd H p O) :=
 w (ρ ++ [p]) (upd H p O) (Gr.new hp) (r.new hp q) _ (Bk r)
theorem cU(r:HR B ρ h H)(hp:H p=none)(q:aD B.K ρ H xs ys)(w:Post B EX ρ H (WV B.K Q) (new (.lst xs) h)):Q (.ref p) (upd H p (.lst ys)) :=
 yz (o:=.lst xs) (O:=.lst ys) r hp ⟨ys,bE,aD.up (Gr.new hp) _ _ q⟩ w
theorem yC(r:HR B ρ h H)(hp:H p=none)(q:aD B.K ρ H xs ys)(w:Post B EX ρ H (WV B.K Q) (ret (Val.tup xs) h)):Q (.ref p) (upd H p (.tup ys)) :=
 w ρ (upd H p (.tup ys)) (Gr.side hp) (r.side hp) _ (VR.tup (mD.of bE) (aD.up (Gr.side hp) _ _ q))
theorem aC(p:Post B EX ρ H W (bnd m f h))(k:∀v h1 ρ1 x H1,Gr ρ H ρ1 H1->HR B ρ1 h1 H1->VR B.K ρ1 H1 v x->Post B EX ρ1 H1 W (f v h1)->Q x H1):Post B EX ρ H (WV B.K Q) (m h):=by
 unfold bnd at p;cases e:m h with
 |ok v h1=>rw[e]at p;exact λρ1 H1 g r x q=>k v h1 ρ1 x H1 g r q (Post.up g p)
 |exc c vs h1=>rw[e]at p;exact p
 |no=>rw[e]at p;exact p
theorem bx(p:Post B EX ρ H W (bnd m f h))(k:∀v h1 ρ1 H1,Gr ρ H ρ1 H1->HR B ρ1 h1 H1->Post B EX ρ1 H1 W (f v h1)->W' v h1 ρ1 H1):Post B EX ρ H W' (m h):=by
 unfold bnd at p;cases e:m h with
 |ok v h1=>rw[e]at p;exact λρ1 H1 g r=>k v h1 ρ1 H1 g r (Post.up g p)
 |exc c vs h1=>rw[e]at p;exact p
 |no=>rw[e]at p;exact p
end
theorem iz:∀{ds:List Val} {ns:List Int},cE ds=some ns->ds=ns.map .int
 |[],ns,e=>by simp only[cE,cM]at e;cases e;rfl
 | v::r,ns,e=>by
  simp only[cE,cM]at e;obtain⟨i,e1,e⟩:=aad.mp e;obtain⟨is,e2,e⟩:=aad.mp e;cases e;cases v<;>first|cases e1|skip
  rw[iz (show cE r=some is from e2)];rfl
theorem sJ:∀{ds:List Val} {ns:List Bool},gc ds=some ns->ds=ns.map .bl
 |[],ns,e=>by simp only[gc,cM]at e;cases e;rfl
 | v::r,ns,e=>by
  simp only[gc,cM]at e;obtain⟨i,e1,e⟩:=aad.mp e;obtain⟨is,e2,e⟩:=aad.mp e;cases e;cases v<;>first|cases e1|skip
  rw[sJ (show gc r=some is from e2)];rfl
theorem vg:∀{ds:List Val} {qW:List (List Int)},mG ds=some qW->ds=qW.map nT/\∀ks∈qW,ks≠[]
 |[],ns,e=>by simp only[mG,cM]at e;cases e;exact⟨rfl,λ_ z=>nomatch z⟩
 | v::r,ns,e=>by
  simp only[mG,cM]at e;obtain⟨i,e1,e⟩:=aad.mp e;obtain⟨is,e2,e⟩:=aad.mp e;cases e;cases v<;>first|cases e1|skip
  rename_i vs;dsimp only at e1;split at e1
  ·cases e1
  ·rename_i hne
   obtain⟨q1,q2⟩:=vg (show mG r=some is from e2);have e3:=iz e1;subst e3;refine⟨by rw[q1];rfl,λks hk=>?_⟩
   rcases aaw.mp hk with z|z
   ·subst z;intro z;subst z;exact hne rfl
   ·exact q2 ks z
section
variable {X:Cx} {cl:Nat->Addr} {EX:Nat->List V->Hp->Prop}
abbrev bd(X:Cx)(cl:Nat->Addr):Bd:=⟨X.K,cl⟩
theorem JB:qU X (binaryOp .Add) (λx y H Q=>∃a b xs ys,x=.ref a/\y=.ref b/\j4 X.K H a xs/\j4 X.K H b ys/\xs.length+ys.length<=sizeLine/\∀p,H p=none->Q (.ref p) (upd H p (.lst (xs++ys)))):=by
 intro pins s σ H x y v u Q I rx ry h;obtain⟨l,l',xs,ys,rfl,rfl,q1,q3,hl,q⟩:=h;cases rx;cases ry;obtain⟨its,r1,Y4,z1⟩:=I.list q1;obtain⟨its',r2,Y5,z2⟩:=I.list q3;have l1:=r1.length;have l2:=r2.length;obtain⟨⟨oc,od,YR,osl⟩,n1,e1,e2,_,e4⟩:=Y4;obtain⟨⟨oc',od',Y6,VN⟩,n2,f1,f2,_,f4⟩:=Y5;cases e2;cases e4;cases f2;cases f4;refine concat_meets ⟨_,e1,rfl⟩ ⟨_,f1,rfl⟩ noFill_list_add seq_list_add PySem.F.slot_list_add PySem.F.entry_list_add (PySem.F.args_list_add_2 _ _) (list_addW l l' its.toArray its'.toArray n1 n2 od od' osl VN (by simp only[size_toArray];omega)) ⟨e1,f1,?_⟩;have ea:its.toArray++its'.toArray=(its++its').toArray:=by simp
 rw[ea];have hn:H s.heap.objs.size=none:=I.hok.fresh (aao _);exact⟨.ref s.heap.objs.size,_,I.Vs (t':=s.toks) (its:=its++its') (r1.append r2) (by rw[aaj];omega),rfl,q _ hn⟩
def EK:Lx->Operator
 |.add=>.Add|.sub=>.Sub|.mul=>.Mult|.fdiv=>.FloorDiv|.mod=>.Mod|.pow=>.Pow
def Bo:Nc->CmpOp
 |.eq=>.Eq|.ne=>.NotEq|.lt=>.Lt|.le=>.LtE|.gt=>.Gt|.ge=>.GtE|.isn=>.Is|.ntn=>.IsNot|.inn=>.In|.nin=>.NotIn
def rB(B:Bd)(EX:Nat->List V->Hp->Prop)(o:Lx):R2:=λx y H Q=>∃ρ h v w,HR B ρ h H/\VR B.K ρ H v x/\VR B.K ρ H w y/\Post B EX ρ H (WV B.K Q) (Nd o v w h)
theorem kg.log{j:Int}(h:kg j=true):0<j/\j.natAbs.log2<9000:=by
 have h:=aaB h;refine⟨h.1,(Nat.log2_lt (by omega)).mpr ?_⟩;have e:j.natAbs<2 ^ 200:=by
  have:(2:Nat) ^ 200=1606938044258990275541962092341162602522202993782792835301376:=by decide
  omega
 exact aaz e (Nat.pow_le_pow_right (by decide) (by decide))
theorem EL:qU X (binaryOp .FloorDiv) (rI (λ_ j=>kg j=true) λi j=>.int (i/j)):=Uq λi j _ _ _ _ _ hc q=>by
 obtain⟨h1,h2⟩:=kg.log hc;exact PyProof.Rows.floordiv_int (by omega) (by rw[Int.fdiv_eq_ediv_of_nonneg i (by omega)];exact q) (.inl (PyProof.noPylong_of_log2 h2))
theorem sL(ho:o≠.add)(v w:Val)(h:Hs):(∃i j,v=.int i/\w=.int j)\/Nd o v w h=.no:=by
 cases v with
 |int i=>
  cases w with
  |int j=>exact .inl ⟨i,j,rfl,rfl⟩
  |_=>right;cases o<;>first|rfl|exact absurd rfl ho
 |_=>right;cases o<;>first|rfl|exact absurd rfl ho
theorem Nh(o:Lx):qU X (binaryOp (EK o)) (rB (bd X cl) EX o):=by
 intro pins s σ H x y v' u' Q I rx ry hh;obtain⟨ρ,h,v,w,r,hv,hw,p⟩:=hh;have lists:Post (bd X cl) EX ρ H (WV X.K Q) (bnd (ask λh=>aI h v) (λa=>bnd (ask λh=>aI h w) λb=>az (decide (a.length+b.length<=sizeLine)) (new (.lst (a++b)))) h)->wpAny (model X.prog X.w) X.A (binaryOp .Add v' u') (EP X pins σ Q) X.xe s:=by intro p;obtain⟨a,e1,p⟩:=aJ p;obtain⟨b,e2,p⟩:=aJ p;obtain⟨e3,p⟩:=aT p;have e3:=aaB e3;obtain⟨a1,VO,rfl,k1,k2⟩:=fO r hv e1;obtain⟨a2,Y7,rfl,k3,k4⟩:=fO r hw e2;exact JB pins s σ H _ _ v' u' Q I rx ry ⟨a1,a2,VO,Y7,rfl,rfl,k1,k3,by rw[<-k2.length,<-k4.length];exact e3,λq hq=>cU r hq (aD.append k2 k4) p⟩
 cases o with
 |add=>
  cases v<;>cases w<;>first
   |exact lists p
   |skip
  ·rename_i a b;rw[VR]at hv hw;subst hv;subst hw;exact MF pins s σ H _ _ _ _ Q I rx ry ⟨a,b,rfl,rfl,ao r p _ VR.int⟩
 |sub=>
  rcases sL (o:=.sub) (by intro z;cases z) v w h with ⟨i,j,rfl,rfl⟩|z
  case inr=>rw[z]at p;exact p.elim
  rw[VR]at hv hw;subst hv;subst hw;exact MG pins s σ H _ _ _ _ Q I rx ry ⟨_,_,rfl,rfl,ao r p _ VR.int⟩
 |mul=>
  rcases sL (o:=.mul) (by intro z;cases z) v w h with ⟨i,j,rfl,rfl⟩|z
  case inr=>rw[z]at p;exact p.elim
  rw[VR]at hv hw;subst hv;subst hw;obtain⟨hm,p⟩:=aT p;refine MH pins s σ H _ _ _ _ Q I rx ry ⟨_,_,rfl,rfl,?_,ao r p _ VR.int⟩;unfold kE at hm;simp only[or_eq_true,and_eq_true,decide_eq_true_eq]at hm;exact hm
 |fdiv=>
  rcases sL (o:=.fdiv) (by intro z;cases z) v w h with ⟨i,j,rfl,rfl⟩|z
  case inr=>rw[z]at p;exact p.elim
  rw[VR]at hv hw;subst hv;subst hw;obtain⟨hm,p⟩:=aT p;exact EL pins s σ H _ _ _ _ Q I rx ry ⟨_,_,rfl,rfl,hm,ao r p _ VR.int⟩
 |mod=>
  rcases sL (o:=.mod) (by intro z;cases z) v w h with ⟨i,j,rfl,rfl⟩|z
  case inr=>rw[z]at p;exact p.elim
  rw[VR]at hv hw;subst hv;subst hw;obtain⟨hm,p⟩:=aT p;exact MI pins s σ H _ _ _ _ Q I rx ry ⟨_,_,rfl,rfl,aaB hm,ao r p _ VR.int⟩
 |pow=>
  rcases sL (o:=.pow) (by intro z;cases z) v w h with ⟨i,j,rfl,rfl⟩|z
  case inr=>rw[z]at p;exact p.elim
  rw[VR]at hv hw;subst hv;subst hw;obtain⟨hm,p⟩:=aT p;have hm:=aaB hm;exact MJ pins s σ H _ _ _ _ Q I rx ry ⟨_,_,rfl,rfl,hm,ao r p _ VR.int⟩
end
section
variable {X:Cx} {cl:Nat->Addr} {EX:Nat->List V->Hp->Prop}
theorem yD{b:Bool}(e:DI h v w=some b):∃d f,toD 16 h v=some d/\toD 16 h w=some f/\b=PyData.eqv d f:=by
 unfold DI at e;obtain⟨d,e1,e⟩:=aad.mp e;obtain⟨f,e2,e⟩:=aad.mp e;exact⟨d,f,e1,e2,(aaZ e).symm⟩
theorem Bp{K:Frag}{ρ:List Addr}{H:Hp}{v:Val}{x:V}(q:VR K ρ H v x):decide (x=.non)=nU v:=by
 cases v<;>rw[VR]at q
 ·subst q;rfl
 ·subst q;rfl
 ·subst q;rfl
 ·subst q;rfl
 ·obtain⟨a,xs,rfl,_⟩:=q;rfl
 ·obtain⟨a,xs,rfl,_⟩:=q;rfl
 ·exact q.elim
 ·exact q.elim
 ·obtain⟨a,rfl,_⟩:=q;rfl
theorem Ni(hu:X.A.units+64<cLine)(neg:Bool):qU X (compareOp (if neg=true then .NotIn else .In)) (λx y H Q=>∃d f ds,Den X.K H d x/\Den X.K H f y/\d.canLay0=true/\f.canLay0=true/\d.depth<=16/\(f=.list ds\/f=.tuple ds)/\Q (.bl (if neg=true then !(ds.any λy=>PyData.eqv y d) else ds.any λy=>PyData.eqv y d)) H):=by
 intro pins s σ H x y v u Q I rx ry hh;obtain⟨d,f,ds,hd,hf,c1,c2,hz,e,q⟩:=hh;obtain⟨as,ra⟩:=Den.reads I d x v c1 hd rx;obtain⟨bs,rb⟩:=Den.reads I f y u c2 hf ry;have LA:X.A.units+1+min (PyData.depthAll ds) d.depth<cLine:=by have:=Nat.min_le_right (PyData.depthAll ds) d.depth;omega
 rcases e with rfl|rfl
 ·have c3:PyData.canLayAll0 ds=true:=by simpa [PyData.canLay0] using c2
  cases neg with
  |true=>exact SeqAt.notIn_list_reads rb ra c3 c1 LA ⟨.bl _,H,I,rfl,q⟩
  |false=>exact SeqAt.in_list_reads rb ra c3 c1 LA ⟨.bl _,H,I,rfl,q⟩
 ·have c3:PyData.canLayAll0 ds=true:=by simpa [PyData.canLay0] using c2
  cases neg with
  |true=>exact SeqAt.notIn_tuple_reads rb ra c3 c1 LA ⟨.bl _,H,I,rfl,q⟩
  |false=>exact SeqAt.in_tuple_reads rb ra c3 c1 LA ⟨.bl _,H,I,rfl,q⟩
theorem iQ.val{K:Frag}{ρ:List Addr}{H:Hp}(k:Key):∀{kvs:List (Key×Val)} {ks:List (Key×V)},iQ K ρ H kvs ks->(fH kvs k=none->jP ks k=none)/\∀v,fH kvs k=some v->∃x,jP ks k=some x/\VR K ρ H v x
 | [],ks,e=>by
  have:ks=[]:=e;subst this;exact⟨λ_=>rfl,λv z=>by simp[fH]at z⟩
 | (k',v')::kvs,ks,⟨x,r,e,q1,q2⟩=>by
  subst e;obtain⟨a,b⟩:=iQ.val k q2
  by_cases hk:k'=k
  ·subst hk;refine⟨λz=>by simp[fH]at z,λv z=>⟨x,by simp[jP],?_⟩⟩;simp[fH]at z;subst z;exact q1
  ·have e1:fH ((k',v')::kvs) k=fH kvs k:=by simp[fH,hk]
   have e2:jP ((k',x)::r) k=jP r k:=by simp[jP,hk]
   rw[e1,e2];exact⟨a,b⟩
theorem iQ.length{K:Frag}{ρ:List Addr}{H:Hp}:∀{kvs:List (Key×Val)} {ks:List (Key×V)},iQ K ρ H kvs ks->kvs.length=ks.length
 |[],ks,e=>by have:ks=[]:=e;subst this;rfl
 |(k',v')::kvs,ks,⟨x,r,e,q1,q2⟩=>by subst e;simp[iQ.length q2]
theorem iQ.any{K:Frag}{ρ:List Addr}{H:Hp}(k:Key):∀{kvs:List (Key×Val)} {ks:List (Key×V)},iQ K ρ H kvs ks->(kvs.any λkv=>decide (kv.1=k))=(ks.any λkv=>decide (kv.1=k))
 |[],ks,e=>by have:ks=[]:=e;subst this;rfl
 |(k',v')::kvs,ks,⟨x,r,e,q1,q2⟩=>by subst e;simp only[any_cons];rw[iQ.any k q2]
theorem iQ.repl{K:Frag}{ρ:List Addr}{H:Hp}(k:Key){v:Val}{y:V}(q:VR K ρ H v y):∀{kvs:List (Key×Val)} {ks:List (Key×V)},iQ K ρ H kvs ks->iQ K ρ H (kvs.map λkv=>if kv.1=k then (kv.1,v) else kv) (ks.map λkv=>if kv.1=k then (kv.1,y) else kv)
 |[],ks,e=>by have:ks=[]:=e;subst this;rfl
 | (k',v')::kvs,ks,⟨x,r,e,q1,q2⟩=>by
  subst e;simp only[map_cons]
  by_cases hk:k'=k
  ·rw[aak hk,aak hk];exact⟨y,_,rfl,q,iQ.repl k q q2⟩
  ·rw[aam hk,aam hk];exact⟨x,_,rfl,q1,iQ.repl k q q2⟩
theorem iQ.snoc{K:Frag}{ρ:List Addr}{H:Hp}(k:Key){v:Val}{y:V}(q:VR K ρ H v y):∀{kvs:List (Key×Val)} {ks:List (Key×V)},iQ K ρ H kvs ks->iQ K ρ H (kvs++[(k,v)]) (ks++[(k,y)])
 |[],ks,e=>by have:ks=[]:=e;subst this;exact⟨y,[],rfl,q,rfl⟩
 |(k',v')::kvs,ks,⟨x,r,e,q1,q2⟩=>by subst e;exact⟨x,_,rfl,q1,iQ.snoc k q q2⟩
theorem iQ.put{K:Frag}{ρ:List Addr}{H:Hp}(k:Key){v:Val}{y:V}(q:VR K ρ H v y){kvs:List (Key×Val)}{ks:List (Key×V)}(e:iQ K ρ H kvs ks):iQ K ρ H (iR kvs k v) (putK ks k y):=by
 unfold iR putK;rw[iQ.any k e]
 split
 ·exact iQ.repl k q e
 ·exact iQ.snoc k q e
theorem EM{K:Frag}{ρ:List Addr}{H:Hp}{v:Val}{x:V}{k:Key}(q:VR K ρ H v x)(e:keyOf v=some k):x=kV k:=by
 cases v<;>simp only[keyOf]at e<;>first|cases e|skip
 ·rw[VR]at q;exact q
 ·rw[VR]at q;exact q
theorem JC(hu:X.A.units+64<cLine):Rf X (λx y H Q=>∃a v,x=.ref a/\rV H a y (some v)/\Q v H):=by
 intro value slice pins s σ H x y v u Q I rx ry h hs;obtain⟨a,z,rfl,g,q⟩:=h;cases rx;have hT:=ye I g;unfold subscriptTail;refine aaa ?_;rw[getitemInPython_of_ne hT.not_modules];refine aaa (wpAny_specialOf hT PySem.F.slot_dict_getitem.lookup ?_);have fin:wpAny (model X.prog X.w) X.A (subscripted slice false (.ref a) u) (λr s₃=>wpAny (model X.prog X.w) X.A (letTemporaryGo value (.ref a) r >>= λ_=>pure r) (EP X pins σ Q) X.xe s₃) X.xe s:=by rw[hs];exact wpAny_operating (CH (by omega) I g ry λw' s' I' r'=>aaa (wpAny_letTemporaryGo (aal ⟨z,H,I',r',q⟩)))
 first
  |exact aal (aaa fin)
  |exact aaa (aal (aaa fin))
  |exact aaa fin
def rC(B:Bd)(o:Nc):R2:=λx y H Q=>∃ρ h v w b,HR B ρ h H/\VR B.K ρ H v x/\VR B.K ρ H w y/\cop h o v w=some b/\Q (.bl b) H
theorem sM{b:Bool}(e:memD h v w=some b):∃d f ds,toD 16 h v=some d/\toD 16 h w=some f/\(f=.list ds\/f=.tuple ds)/\b=ds.any λy=>PyData.eqv y d:=by
 unfold memD at e;obtain⟨f,e1,e⟩:=aad.mp e;obtain⟨d,e2,e⟩:=aad.mp e;cases f<;>simp only[RC]at e<;>first|cases e|skip
 ·exact⟨d,_,_,e2,e1,.inl rfl,rfl⟩
 ·exact⟨d,_,_,e2,e1,.inr rfl,rfl⟩
theorem C0{b:Bool}(hw:∀ks vs,w≠.dc ks vs)(e:wJ h v w=some b):(∃i kvs k,w=.ref i/\h[i]?=some (.dct kvs)/\keyOf v=some k/\b=(fH kvs k).isSome) \/
  ∃d f ds,toD 16 h v=some d/\toD 16 h w=some f/\(f=.list ds\/f=.tuple ds)/\b=ds.any λy=>PyData.eqv y d:=by
 cases w with
 |ref i=>
  have e':(h[i]?).bind (JA h v i)=some b:=by cases v<;>exact e
  obtain⟨ob,e1,e2⟩:=aad.mp e';cases ob with
  |dct kvs=>obtain⟨k,e3,e4⟩:=aad.mp (show (keyOf v).bind _=some b from e2);exact .inl ⟨i,kvs,k,rfl,e1,e3,(aaZ e4).symm⟩
  |lst xs=>exact .inr (sM e2)
  |ins c fs=>exact .inr (sM e2)
 |dc ks vs=>exact absurd rfl (hw ks vs)
 |_=>exact .inr (sM (by cases v<;>exact e))
theorem EN(hu:X.A.units+64<cLine)(o:Nc):qU X (compareOp (Bo o)) (rC (bd X cl) o):=by
 intro pins s σ H x y v' u' Q I rx ry hh;obtain⟨ρ,h,v,w,b,r,hv,hw,e,q⟩:=hh;have mem:∀(neg:Bool),wJ h v w=some (if neg=true then !b else b)->wpAny (model X.prog X.w) X.A (compareOp (if neg=true then .NotIn else .In) v' u') (EP X pins σ Q) X.xe s:=by
  intro neg e;have nd:∀ks vs,w≠.dc ks vs:=λks vs z=>by subst z;rw[VR]at hw;exact hw.elim
  rcases C0 nd e with ⟨i,kvs,k,rfl,e1,e2,eb⟩|⟨d,f,ds,e1,e2,e3,eb⟩
  ·rw[VR]at hw
   obtain⟨a,rfl,k1⟩:=hw;obtain⟨ks,k2,k3⟩:=r.ob i _ a e1 k1;have ex:=EM hv e2;subst ex;have es:(jP ks k).isSome=(fH kvs k).isSome:=by
    obtain⟨z1,z2⟩:=iQ.val k k3;cases e4:fH kvs k with
    |none=>rw[z1 e4];rfl
    |some z=>obtain⟨x,z3,_⟩:=z2 z e4;rw[z3];rfl
   cases ry;cases neg with
   |true=>refine Jj (by omega) I (rV.k (k:=k) k2) rx λs' I'=>⟨.bl _,H,I',rfl,?_⟩;rw[aak rfl]at eb;rw[es,<-eb,Bool.not_not];exact q
   |false=>refine Vt (by omega) I (rV.k (k:=k) k2) rx λs' I'=>⟨.bl _,H,I',rfl,?_⟩;rw[aam aab]at eb;rw[es,<-eb];exact q
  ·obtain⟨a1,a2,a3⟩:=pG r 16 v x d hv e1
   obtain⟨b1,b2,b3⟩:=pG r 16 w y f hw e2;refine Ni hu neg pins s σ H x y v' u' Q I rx ry ⟨d,f,ds,a1,b1,a2,b2,a3,e3,?_⟩;cases neg with
   |true=>rw[aak rfl]at eb |-;rw[<-eb,Bool.not_not];exact q
   |false=>rw[aam aab]at eb |-;rw[<-eb];exact q
 cases o with
 |eq=>obtain⟨d,f,e1,e2,rfl⟩:=yD (show DI h v w=some b by exact e);obtain⟨a1,a2,a3⟩:=pG r 16 v x d hv e1;obtain⟨b1,b2,b3⟩:=pG r 16 w y f hw e2;exact M6 hu pins s σ H x y v' u' Q I rx ry ⟨d,f,a1,b1,a2,b2,by omega,q⟩
 |ne=>have e':(DI h v w).map (!·)=some b:=e;obtain⟨c,e3,rfl⟩:=map_eq_some_iff.mp e';obtain⟨d,f,e1,e2,rfl⟩:=yD e3;obtain⟨a1,a2,a3⟩:=pG r 16 v x d hv e1;obtain⟨b1,b2,b3⟩:=pG r 16 w y f hw e2;exact M7 hu pins s σ H x y v' u' Q I rx ry ⟨d,f,a1,b1,a2,b2,by omega,q⟩
 |lt=>obtain⟨i,j,rfl,rfl⟩:=kH (.inl rfl) e;cases e;rw[VR]at hv;rw[VR]at hw;subst hv;subst hw;exact Q4 pins s σ H _ _ v' u' Q I rx ry ⟨_,_,rfl,rfl,q⟩
 |le=>obtain⟨i,j,rfl,rfl⟩:=kH (.inr (.inl rfl)) e;cases e;rw[VR]at hv;rw[VR]at hw;subst hv;subst hw;exact Q5 pins s σ H _ _ v' u' Q I rx ry ⟨_,_,rfl,rfl,q⟩
 |gt=>obtain⟨i,j,rfl,rfl⟩:=kH (.inr (.inr (.inl rfl))) e;cases e;rw[VR]at hv;rw[VR]at hw;subst hv;subst hw;exact Q6 pins s σ H _ _ v' u' Q I rx ry ⟨_,_,rfl,rfl,q⟩
 |ge=>obtain⟨i,j,rfl,rfl⟩:=kH (.inr (.inr (.inr rfl))) e;cases e;rw[VR]at hv;rw[VR]at hw;subst hv;subst hw;exact Q7 pins s σ H _ _ v' u' Q I rx ry ⟨_,_,rfl,rfl,q⟩
 |isn=>
  have e:Ly v w=some b:=e;cases w<;>first|(cases e;done)|skip
  ·cases e;rw[VR]at hw;subst hw;refine MK pins s σ H x _ v' u' Q I rx ry ⟨rfl,?_⟩;rw[Bp hv];exact q
 |ntn=>
  have e:(Ly v w).map (!·)=some b:=e;cases w<;>first|(cases e;done)|skip
  ·cases e;rw[VR]at hw;subst hw;refine IV pins s σ H x _ v' u' Q I rx ry ⟨rfl,?_⟩;rw[Bp hv];exact q
 |inn=>exact mem false (by rw[aam aab];exact e)
 |nin=>have e':(wJ h v w).map (!·)=some b:=e;obtain⟨c,e3,rfl⟩:=map_eq_some_iff.mp e';exact mem true (by rw[e3];simp)
theorem Nj{b:Bool}(r:HR B ρ h H)(q:VR B.K ρ H v x)(e:cZ h v=some b):ML B.K x H b:=by
 cases v<;>first|(cases e;done)|skip
 rw[VR]at q;subst q;exact(aaZ e).symm
def VP(B:Bd):R2:=λx y H Q=>∃ρ h v w z,HR B ρ h H/\VR B.K ρ H v x/\VR B.K ρ H w y/\mY h v w=some z/\∀u,VR B.K ρ H z u->Q u H
theorem Nk(hu:X.A.units+64<cLine):Rf X (VP (bd X cl)):=by
 intro value slice pins s σ H x y v' u' Q I rx ry hh hs;obtain⟨ρ,h,v,w,z,r,hv,hw,e,q⟩:=hh;cases v with
 |tup vs=>
  cases w<;>first|cases e|skip
  rename_i i;rw[VR]at hv;rw[VR]at hw;subst hw;obtain⟨a,xs,rfl,q1,q2⟩:=hv;obtain⟨t,e2,q3⟩:=aD.ko q2 e;exact MW value slice pins s σ H _ _ v' u' Q I rx ry ⟨a,xs,i,t,rfl,rfl,q1,e2,q _ q3⟩ hs
 |rl vs=>
  cases w<;>first|cases e|skip
  rename_i i;rw[VR]at hv;rw[VR]at hw;subst hw;obtain⟨a,xs,rfl,q1,q2⟩:=hv;obtain⟨t,e2,q3⟩:=aD.ko q2 e;exact Ba value slice pins s σ H _ _ v' u' Q I rx ry ⟨a,xs,i,t,rfl,rfl,q1.sq,e2,q _ q3⟩ hs
 |ref j=>
  cases w with
  |int i=>
   change (match h[j]? with|some (.dct kvs)=>fH kvs (.inl i)|_=>(aI h (.ref j)).bind λxs=>ko xs i)=some z at e;split at e
   ·rename_i kvs e1;rw[VR]at hv;obtain⟨a,rfl,q1⟩:=hv;obtain⟨ks,k1,k2⟩:=r.ob j _ a e1 q1;obtain⟨t,e2,q3⟩:=(iQ.val (.inl i) k2).2 z e;have g:rV H a (kV (.inl i)) (jP ks (.inl i)):=rV.k k1;rw[e2]at g;rw[VR]at hw;subst hw;exact JC hu value slice pins s σ H _ _ v' u' Q I rx ry ⟨a,t,rfl,g,q _ q3⟩ hs
   ·obtain⟨vs,e1,e⟩:=aad.mp e;obtain⟨a,xs,rfl,q1,q2⟩:=fO r hv e1;rw[VR]at hw;subst hw;obtain⟨t,e2,q3⟩:=aD.ko q2 e;exact Ba value slice pins s σ H _ _ v' u' Q I rx ry ⟨a,xs,i,t,rfl,rfl,q1,e2,q _ q3⟩ hs
  |_=>cases e
 |dc _ _=>rw[VR]at hv;exact hv.elim
 |_=>cases w<;>cases e
def Y8(B:Bd)(EX:Nat->List V->Hp->Prop):V->Option Int->Option Int->Hp->VK->Prop:=λx lo hi H Q=>∃ρ h v,HR B ρ h H/\VR B.K ρ H v x/\Post B EX ρ H (WV B.K Q) (uw v lo hi h)
theorem Nl:Ur X (Y8 (bd X cl) EX):=by
 intro pins s σ H x v' vl vu lo hi sl Q I rx hs pl pu hh;obtain⟨ρ,h,v,r,hv,p⟩:=hh;have lists:Post (bd X cl) EX ρ H (WV X.K Q) (bnd (ask λh=>aI h v) (λxs=>new (.lst (cg xs lo hi))) h)->∃T id,typeLookup (.type T) "__getitem__" = pure (some (.builtin id))/\s.TypeIs v' T/\wpAny (model X.prog X.w) X.A (getItem v' (.ref sl)) (EP X pins σ Q) X.xe s:=by intro p;obtain⟨a,e1,p⟩:=aJ p;obtain⟨a1,VO,rfl,k1,k2⟩:=fO r hv e1;exact Je pins s σ H _ v' vl vu lo hi sl Q I rx hs pl pu ⟨a1,VO,rfl,k1,λq hq=>cU r hq (aD.cut lo hi k2) p⟩
 cases v with
 |tup vs=>simp only[uw]at p;rw[VR]at hv;obtain⟨a,xs,rfl,q1,q2⟩:=hv;obtain⟨e,p⟩:=aT p;refine MU pins s σ H _ v' vl vu lo hi sl Q I rx hs pl pu ⟨a,xs,rfl,q1,?_,λq hq=>yC r hq (aD.cut lo hi q2) p⟩;rw[<-q2.length];simp only[not_eq_true',Bool.and_eq_false_iff,decide_eq_false_iff_not]at e;rintro⟨z1,z2⟩;exact e.elim (λk=>k z1) λk=>k z2
 |_=>exact lists p
end
end Hv
end
section
set_option backward.match.sparseCases false
namespace Hv
open PySem L2 PyProof.Rows
section
variable {X:Cx} {cl:Nat->Addr} {EX:Nat->List V->Hp->Prop}
def Ir(B:Bd)(EX:Nat->List V->Hp->Prop)(b:Bl):List V->Hp->VK->Prop:=λxs H Q=>∃ρ h vs,HR B ρ h H/\aD B.K ρ H vs xs/\Post B EX ρ H (WV B.K Q) (blt b vs h)
theorem Nn:eV X (.builtin "len") (Ir (bd X cl) EX .len):=by
 intro pins s σ H xs us Q I rr hh;obtain⟨ρ,h,vs,r,hv,p⟩:=hh
 match vs,p with
 |[v],p=>
  obtain⟨n,e,p⟩:=aJ p;obtain⟨x,rfl,hx⟩:=aD.one hv;have fin:=ao r p _ VR.int;cases v with
  |tup vs=>simp only[m9]at e;cases e;rw[VR]at hx;obtain⟨a,ys,rfl,q1,q2⟩:=hx;refine L2.rK pins s σ H _ us Q I rr ⟨_,ys.length,rfl,.inr ⟨ys,q1,rfl⟩,?_⟩;rw[<-q2.length];exact fin
  |rl vs=>simp only[m9]at e;cases e;rw[VR]at hx;obtain⟨a,ys,rfl,q1,q2⟩:=hx;refine L2.rK pins s σ H _ us Q I rr ⟨_,ys.length,rfl,.inl ⟨ys,q1.sq,rfl⟩,?_⟩;rw[<-q2.length];exact fin
  |dc _ _=>rw[VR]at hx;exact hx.elim
  |ob _ _ _=>rw[VR]at hx;exact hx.elim
  |ref i=>
   rw[VR]at hx;obtain⟨a,rfl,q1⟩:=hx;simp only[m9]at e;split at e
   ·rename_i vs e1;cases e;obtain⟨ys,k1,k2⟩:=r.ob i _ a e1 q1;refine L2.rK pins s σ H _ us Q I rr ⟨_,ys.length,rfl,.inl ⟨ys,.inl (.inl k1),rfl⟩,?_⟩;rw[<-k2.length];exact fin
   ·rename_i vs e1;cases e;obtain⟨ks,k1,k2⟩:=r.ob i _ a e1 q1;refine CL pins s σ H _ us Q I rr ⟨a,ks,rfl,k1,?_⟩;rw[<-k2.length];exact fin
   ·cases e
  |_=>simp only[m9]at e;cases e
theorem Np(hc:X.calm=true):eV X (.builtin "min") (Ir (bd X cl) EX .min):=by
 intro pins s σ H xs us Q I rr hh;obtain⟨ρ,h,vs,r,hv,p⟩:=hh
 match vs,p with
 |[.int a,.int b],p=>obtain⟨x,y,rfl,hx,hy⟩:=aD.two hv;rw[VR]at hx;rw[VR]at hy;subst hx;subst hy;exact CB hc pins s σ H _ us Q I rr ⟨a,b,rfl,ao r p _ VR.int⟩
theorem Nq(hc:X.calm=true):eV X (.builtin "max") (Ir (bd X cl) EX .max):=by
 intro pins s σ H xs us Q I rr hh;obtain⟨ρ,h,vs,r,hv,p⟩:=hh
 match vs,p with
 |[.int a,.int b],p=>obtain⟨x,y,rfl,hx,hy⟩:=aD.two hv;rw[VR]at hx;rw[VR]at hy;subst hx;subst hy;exact CA hc pins s σ H _ us Q I rr ⟨a,b,rfl,ao r p _ VR.int⟩
theorem C1:eV X (.builtin "sorted") (Ir (bd X cl) EX .sorted):=by
 intro pins s σ H xs us Q I rr hh;obtain⟨ρ,h,vs,r,hv,p⟩:=hh
 match vs,p with
 |[v],p=>
  obtain⟨zs,e,p⟩:=aJ p;obtain⟨out,e1,p⟩:=cH p;obtain⟨x,rfl,hx⟩:=aD.one hv;obtain⟨a,ys,rfl,q1,q2⟩:=fO r hx e;unfold fz at e1;split at e1
  ·rename_i h64
   cases e2:cE zs with
   |some ns=>rw[e2]at e1;cases e1;rw[iz e2]at q2 h64;rw[aD.ints.mp q2]at q1;rw[aae]at h64;exact o8 pins s σ H _ us Q I rr ⟨a,ns,rfl,q1,h64,λl hl=>cU r hl (aD.ints.mpr rfl) p⟩
   |none=>rw[e2]at e1;obtain⟨qW,e3,e4⟩:=aad.mp e1;cases e4;obtain⟨g1,g2⟩:=vg e3;rw[g1]at q2 h64;obtain⟨rs,r1,r2,r3⟩:=aD.tups q2;rw[r1]at q1;rw[aae,r2,aae]at h64;refine o9 pins s σ H _ us Q I rr ⟨a,rs,rfl,q1,h64,λp hp=>⟨r3 p hp,g2 _ (by rw[r2];exact mem_map_of_mem hp)⟩,λl qs hl hp hs=>?_⟩;have e4:qs.map (·.2)=nR qW:=EJ (by rw[r2];exact hp.map _) (pairwise_map.mpr hs);rw[<-e4]at p;exact cU r hl (aD.Bj λz hz=>r3 z (hp.mem_iff.mp hz)) p
  ·cases e1
theorem JD:eV X (.type "list") (Ir (bd X cl) EX .list):=by
 intro pins s σ H xs us Q I rr hh;obtain⟨ρ,h,vs,r,hv,p⟩:=hh
 match vs,p with
 |[v],p=>obtain⟨zs,e,p⟩:=aJ p;obtain⟨x,rfl,hx⟩:=aD.one hv;obtain⟨a,ys,rfl,q1,q2⟩:=Ng r hx e;exact wu pins s σ H _ us Q I rr ⟨a,ys,rfl,q1,λl hl=>cU r hl q2 p⟩
theorem EO:eV X (.type "tuple") (Ir (bd X cl) EX .tuple):=by
 intro pins s σ H xs us Q I rr hh;obtain⟨ρ,h,vs,r,hv,p⟩:=hh;exact(show False from p).elim
theorem Nr:eV X (.type "str") (Ir (bd X cl) EX .str):=by
 intro pins s σ H xs us Q I rr hh;obtain⟨ρ,h,vs,r,hv,p⟩:=hh;exact(show False from p).elim
theorem Nt:eV X (.type "int") (Ir (bd X cl) EX .int):=by
 intro pins s σ H xs us Q I rr hh;obtain⟨ρ,h,vs,r,hv,p⟩:=hh
 match vs,p with
 |[.int i],p=>obtain⟨x,rfl,hx⟩:=aD.one hv;rw[VR]at hx;subst hx;exact uJ pins s σ H _ us Q I rr (.inl ⟨i,rfl,ao r p _ VR.int⟩)
 |[.bl i],p=>obtain⟨x,rfl,hx⟩:=aD.one hv;rw[VR]at hx;subst hx;exact uJ pins s σ H _ us Q I rr (.inr ⟨i,rfl,ao r p _ VR.int⟩)
theorem Nu(hc:X.calm=true):eV X (.builtin "all") (Ir (bd X cl) EX .all):=by
 intro pins s σ H xs us Q I rr hh;obtain⟨ρ,h,vs,r,hv,p⟩:=hh
 match vs,p with
 |[v],p=>obtain⟨zs,e,p⟩:=aJ p;obtain⟨bs,e1,p⟩:=cH p;obtain⟨x,rfl,hx⟩:=aD.one hv;obtain⟨a,ys,rfl,q1,q2⟩:=fO r hx e;rw[sJ e1]at q2;rw[aD.bools.mp q2]at q1;exact uu hc pins s σ H _ us Q I rr ⟨a,bs,rfl,q1,ao r p _ VR.bl⟩
theorem Nv(hc:X.calm=true):eV X (.builtin "any") (Ir (bd X cl) EX .any):=by
 intro pins s σ H xs us Q I rr hh;obtain⟨ρ,h,vs,r,hv,p⟩:=hh;exact(show False from p).elim
def Y9(B:Bd)(EX:Nat->List V->Hp->Prop)(T:String):List V->Hp->VK->Prop:=λxs H Q=>∃ρ h v x,xs=[x,.ty T]/\HR B ρ h H/\VR B.K ρ H v x/\Post B EX ρ H (WV B.K Q) (blt (.isin T) [v] h)
theorem JE(K:Frag)(t T:String)(ht:t∈["NoneType","bool","int","str","list","tuple","dict"])(hT:T∈["list","tuple","str","bool","int","dict"]) :
  kitOne K (.type t) (.type T)=some (decide (T=t\/(T = "int" /\ t = "bool"))):=by
 simp only[mem_cons,not_mem_nil,or_false]at ht hT
 rcases ht with rfl|rfl|rfl|rfl|rfl|rfl|rfl<;>rcases hT with rfl|rfl|rfl|rfl|rfl|rfl<;>rfl
theorem JF{T:String}:eV X (.builtin "isinstance") (Y9 (bd X cl) EX T):=by
 intro pins s σ H xs us Q I rr hh;obtain⟨ρ,h,v,x,rfl,r,hx,p⟩:=hh;obtain⟨u,w',rfl,r1,r2⟩:=vals2 rr;cases r2;obtain⟨t,e,p⟩:=aJ p;obtain⟨b,e1,p⟩:=cH p;have q:=ao r p _ VR.bl;unfold yu at e1;split at e1
 ·rename_i Za
  have hT:T∈["list","tuple","str","bool","int","dict"]:=by simpa using Za
  cases e1;have fin:∀tk,EP X pins σ Q (.bool (decide (T=t\/(T = "int" /\ t = "bool")))) { s with toks:=tk }:=λtk=>⟨.bl _,H,I.tok _,rfl,q⟩;have tab:=λht=>JE X.K t T ht hT;cases v with
  |non=>rw[VR]at hx;subst hx;cases r1;simp only[yt]at e;cases e;exact kia_one PySem.W.kitx_none I.oX True.intro (tab (by simp)) (λz=>nomatch z) fin
  |bl c=>rw[VR]at hx;subst hx;cases r1;simp only[yt]at e;cases e;exact kia_one PySem.W.kitx_bool I.oX True.intro (tab (by simp)) (λz=>nomatch z) fin
  |int i=>rw[VR]at hx;subst hx;obtain⟨t',rfl⟩:=r1;simp only[yt]at e;cases e;exact kia_one PySem.W.kitx_int I.oX True.intro (tab (by simp)) (λz=>nomatch z) fin
  |str i=>rw[VR]at hx;subst hx;obtain⟨t',rfl⟩:=r1;simp only[yt]at e;cases e;exact kia_one PySem.W.kitx_str I.oX True.intro (tab (by simp)) (λz=>nomatch z) fin
  |tup vs=>rw[VR]at hx;obtain⟨a,ys,rfl,q1,_⟩:=hx;cases r1;simp only[yt]at e;cases e;obtain⟨_,_,⟨o,e1,e2,_⟩,_⟩:=I.tuple q1;exact kia_one PySem.W.kitx_tuple I.oX ⟨o,e1,e2⟩ (tab (by simp)) (λz=>nomatch z) fin
  |rl vs=>rw[VR]at hx;obtain⟨a,ys,rfl,q1,_⟩:=hx;cases r1;simp only[yt]at e;cases e;obtain⟨_,_,⟨o,n,e1,e2,_⟩,_⟩:=I.list q1.sq;exact kia_one kitx_list I.oX ⟨o,e1,e2⟩ (tab (by simp)) (λz=>nomatch z) fin
  |dc _ _=>rw[VR]at hx;exact hx.elim
  |ob _ _ _=>rw[VR]at hx;exact hx.elim
  |ref i=>
   rw[VR]at hx;obtain⟨a,rfl,q1⟩:=hx;cases r1;simp only[yt]at e;split at e
   ·rename_i vs e1;cases e;obtain⟨ys,k1,k2⟩:=r.ob i _ a e1 q1;obtain⟨_,_,⟨o,n,e1,e2,_⟩,_⟩:=I.list (xs:=ys) (.inl (.inl k1));exact kia_one kitx_list I.oX ⟨o,e1,e2⟩ (tab (by simp)) (λz=>nomatch z) fin
   ·rename_i vs e1;cases e;obtain⟨ks,k1,k2⟩:=r.ob i _ a e1 q1;obtain⟨_,_,vs,_,p⟩:=(show cD X.prog X.w H s.heap a (.dK ks) from I.hok a _ k1);obtain⟨o,es,ep,h1,h2,_⟩:=p;exact kia_one PySem.W.kitx_dict I.oX ⟨o,h1,h2.1⟩ (tab (by simp)) (λz=>nomatch z) fin
   ·cases e
 ·cases e1
def Qm(B:Bd)(EX:Nat->List V->Hp->Prop)(m:Me):V->List V->Hp->VK->Prop:=λx xs H Q=>∃ρ h v vs,HR B ρ h H/\VR B.K ρ H v x/\aD B.K ρ H vs xs/\Post B EX ρ H (WV B.K Q) (met m v vs h)
theorem JG:MV X "str.join" (Qm (bd X cl) EX .join):=by
 intro pins s σ H x xs u us Q I ru rr hh;obtain⟨ρ,h,v,vs,r,hv,hvs,p⟩:=hh;exact(show False from p).elim
theorem sO{i:Nat}(r:HR B ρ h H)(hi:ρ[i]?=some a)(e:h[i]?=some u)(eU:H a=some U)(hm:Mu U=true)(q:OR B ρ (upd H a O) a o)
  (p:Post B EX ρ H (WV B.K Q) (bnd (put i o) (λ_=>ret Val.non) h)):Q .non (upd H a O) :=
 p ρ (upd H a O) (Gr.put (aaL hi) eU hm) (r.put hi e q) _ VR.non
theorem C2:MV X "list.append" (Qm (bd X cl) EX .append):=by
 intro pins s σ H x xs v' us Q I rx rv hh;obtain⟨ρ,h,v,vs,r,hv,hvs,p⟩:=hh
 match v,vs,p with
 |.ref i,[w],p=>
  obtain⟨zs,e,p⟩:=aJ p;split at e
  ·rename_i zs' e1;cases e;obtain⟨e2,p⟩:=aT p;obtain⟨a,ys,rfl,q0,q1,q2⟩:=nX r hv e1;obtain⟨y,rfl,hy⟩:=aD.one hvs;refine uO pins s σ H _ _ v' us Q I rx rv ⟨a,ys,y,rfl,rfl,q1,by rw[<-q2.length];exact aaB e2,?_⟩;have g:Gr ρ H ρ (upd H a (.lst (ys++[y]))):=Gr.put (aaL q0) q1 rfl;exact sO (o:=.lst (zs++[w])) r q0 e1 q1 rfl ⟨_,bE,aD.append (aD.up g _ _ q2) (aD.up g _ _ (aD.cons hy aD.nil))⟩ p
  ·cases e
theorem C3:MV X "list.extend" (Qm (bd X cl) EX .extend):=by
 intro pins s σ H x xs v' us Q I rx rv hh;obtain⟨ρ,h,v,vs,r,hv,hvs,p⟩:=hh
 match v,vs,p with
 |.ref i,[w],p=>
  obtain⟨zs,e,p⟩:=aJ p;split at e
  ·rename_i zs' e1;cases e
   obtain⟨ws,e3,p⟩:=aJ p;obtain⟨e2,p⟩:=aT p;have e2:=aaB e2;obtain⟨a,ys,rfl,q0,q1,q2⟩:=nX r hv e1;obtain⟨y,rfl,hy⟩:=aD.one hvs;have fin:∀(bs:List V),aD X.K ρ H ws bs->Q .non (upd H a (.lst (ys++bs))):=λbs hb=>by
    have g:Gr ρ H ρ (upd H a (.lst (ys++bs))):=Gr.put (aaL q0) q1 rfl;exact sO (o:=.lst (zs++ws)) r q0 e1 q1 rfl ⟨_,bE,aD.append (aD.up g _ _ q2) (aD.up g _ _ hb)⟩ p
   cases w with
   |tup ts=>simp only[Bg]at e3;cases e3;rw[VR]at hy;obtain⟨b,bs,rfl,k1,k2⟩:=hy;exact Aq pins s σ H _ _ v' us Q I rx rv ⟨a,b,ys,bs,rfl,rfl,q1,k1,by rw[<-q2.length,<-k2.length];exact e2,fin bs k2⟩
   |_=>simp only[Bg]at e3;cases e3
  ·cases e
theorem aD.era{K:Frag}{ρ:List Addr}{H:Hp}:∀{vs:List Val} {xs:List V} (n:Nat),aD K ρ H vs xs->aD K ρ H (vs.eraseIdx n) (xs.eraseIdx n)
 |[],_,n,e=>by rw[aD]at e;subst e;exact aD.nil
 | _::_,_,n,e=>by
  rw[aD]at e;obtain⟨x,r,rfl,e1,e2⟩:=e;cases n with
  |zero=>exact e2
  |succ n=>exact aD.cons e1 (aD.era n e2)
theorem C4:MV X "list.remove" (Qm (bd X cl) EX .remove):=by
 intro pins s σ H x xs v' us Q I rx rv hh;obtain⟨ρ,h,v,vs,r,hv,hvs,p⟩:=hh
 match v,vs,p with
 |.ref i,[.int k],p=>
  obtain⟨zs,e,p⟩:=aJ p;split at e
  ·rename_i zs' e1;cases e;obtain⟨ks,e3,p⟩:=cH p;obtain⟨e2,p⟩:=aT p;have e3:=iz e3;subst e3;obtain⟨a,ys,rfl,q0,q1,q2⟩:=nX r hv e1;have hys:=aD.ints.mp q2;subst hys;obtain⟨y,rfl,hy⟩:=aD.one hvs;rw[VR]at hy;subst hy;refine CZ pins s σ H _ _ v' us Q I rx rv ⟨a,ks,k,rfl,rfl,q1,aaB e2,?_⟩;have g:Gr ρ H ρ (upd H a (.lst ((ks.map V.int).eraseIdx (ks.idxOf k)))):=Gr.put (aaL q0) q1 rfl;exact sO (o:=.lst ((ks.map Val.int).eraseIdx (ks.idxOf k))) r q0 e1 q1 rfl ⟨_,bE,aD.era _ (aD.up g _ _ q2)⟩ p
  ·cases e
theorem Nx:MV X "list.pop" (Qm (bd X cl) EX .pop):=by
 intro pins s σ H x xs v' us Q I rx rv hh;obtain⟨ρ,h,v,vs,r,hv,hvs,p⟩:=hh
 match v,vs,p with
 |.ref i,[.int k],p=>
  obtain⟨zs,e,p⟩:=aJ p;split at e
  ·rename_i zs' e1;cases e
   obtain⟨e2,p⟩:=aT p;have e2:=aaB e2;obtain⟨w,e3,p⟩:=cH p;obtain⟨a,ys,rfl,q0,q1,q2⟩:=nX r hv e1;obtain⟨y,rfl,hy⟩:=aD.one hvs;rw[VR]at hy;subst hy;obtain⟨y,hy,ry⟩:=q2.get e3;refine Eh pins s σ H _ _ v' us Q I rx rv ⟨a,ys,k,k.toNat,y,rfl,rfl,q1,by omega,by omega,?_,hy,?_⟩
   ·have:k.toNat<ys.length:=(aah.mp hy).1;unfold PySem.seqIndex?;simp only[];rw[show (if k<0 then k+(ys.length:Int) else k)=k from aam (by omega),aak (by simp;omega)]
   have g:Gr ρ H ρ (upd H a (.lst (ys.eraseIdx k.toNat))):=Gr.put (aaL q0) q1 rfl;exact p ρ _ g (r.put q0 e1 ⟨_,bE,aD.era _ (aD.up g _ _ q2)⟩) _ (VR.up g _ _ ry)
  ·cases e
end
def qq(f:Str->Pos->Bool):Expr->Bool
 |.Name a b=>f a b
 |_=>false
theorem lQ{f:Str->Pos->Bool}{P:Expr->Prop}{e:Expr}(h:qq f e=true)(H:∀a b,f a b=true->P (.Name a b)):P e:=by
 cases e<;>first|exact H _ _ h|exact(aab h).elim
def Az(f:Const->Nat->Pos->Bool):Expr->Bool
 |.Constant a b c=>f a b c
 |_=>false
theorem yE{f:Const->Nat->Pos->Bool}{P:Expr->Prop}{e:Expr}(h:Az f e=true)(H:∀a b c,f a b c=true->P (.Constant a b c)):P e:=by
 cases e<;>first|exact H _ _ _ h|exact(aab h).elim
def RE(f:Expr->Operator->Expr->Pos->Bool):Expr->Bool
 |.BinOp a b c d=>f a b c d
 |_=>false
theorem Ny{f:Expr->Operator->Expr->Pos->Bool}{P:Expr->Prop}{e:Expr}(h:RE f e=true)(H:∀a b c d,f a b c d=true->P (.BinOp a b c d)):P e:=by
 cases e<;>first|exact H _ _ _ _ h|exact(aab h).elim
def VQ(f:UnaryOp->Expr->Pos->Bool):Expr->Bool
 |.UnaryOp a b c=>f a b c
 |_=>false
theorem LB{f:UnaryOp->Expr->Pos->Bool}{P:Expr->Prop}{e:Expr}(h:VQ f e=true)(H:∀a b c,f a b c=true->P (.UnaryOp a b c)):P e:=by
 cases e<;>first|exact H _ _ _ h|exact(aab h).elim
def RG(f:Expr->List CmpOp->List Expr->Pos->Bool):Expr->Bool
 |.Compare a b c d=>f a b c d
 |_=>false
theorem Nz{f:Expr->List CmpOp->List Expr->Pos->Bool}{P:Expr->Prop}{e:Expr}(h:RG f e=true)(H:∀a b c d,f a b c d=true->P (.Compare a b c d)):P e:=by
 cases e<;>first|exact H _ _ _ _ h|exact(aab h).elim
def wL(f:BoolOp->List Expr->Pos->Bool):Expr->Bool
 |.BoolOp a b c=>f a b c
 |_=>false
theorem vh{f:BoolOp->List Expr->Pos->Bool}{P:Expr->Prop}{e:Expr}(h:wL f e=true)(H:∀a b c,f a b c=true->P (.BoolOp a b c)):P e:=by
 cases e<;>first|exact H _ _ _ h|exact(aab h).elim
def RH(f:List Expr->Nat->Pos->Bool):Expr->Bool
 |.Tuple a b c=>f a b c
 |_=>false
theorem NB{f:List Expr->Nat->Pos->Bool}{P:Expr->Prop}{e:Expr}(h:RH f e=true)(H:∀a b c,f a b c=true->P (.Tuple a b c)):P e:=by
 cases e<;>first|exact H _ _ _ h|exact(aab h).elim
def RI(f:List Expr->Pos->Bool):Expr->Bool
 |.List a b=>f a b
 |_=>false
theorem NC{f:List Expr->Pos->Bool}{P:Expr->Prop}{e:Expr}(h:RI f e=true)(H:∀a b,f a b=true->P (.List a b)):P e:=by
 cases e<;>first|exact H _ _ h|exact(aab h).elim
def C5(f:Expr->Expr->Pos->Bool):Expr->Bool
 |.Subscript a b c=>f a b c
 |_=>false
theorem sP{f:Expr->Expr->Pos->Bool}{P:Expr->Prop}{e:Expr}(h:C5 f e=true)(H:∀a b c,f a b c=true->P (.Subscript a b c)):P e:=by
 cases e<;>first|exact H _ _ _ h|exact(aab h).elim
def ND(f:Option Expr->Option Expr->Option Expr->Pos->Bool):Expr->Bool
 |.Slice a b c d=>f a b c d
 |_=>false
theorem ES{f:Option Expr->Option Expr->Option Expr->Pos->Bool}{P:Expr->Prop}{e:Expr}(h:ND f e=true)(H:∀a b c d,f a b c d=true->P (.Slice a b c d)):P e:=by
 cases e<;>first|exact H _ _ _ _ h|exact(aab h).elim
def ET(f:Expr->List Expr->List Keyword->Pos->Bool):Expr->Bool
 |.Call a b c d=>f a b c d
 |_=>false
theorem Bq{f:Expr->List Expr->List Keyword->Pos->Bool}{P:Expr->Prop}{e:Expr}(h:ET f e=true)(H:∀a b c d,f a b c d=true->P (.Call a b c d)):P e:=by
 cases e<;>first|exact H _ _ _ _ h|exact(aab h).elim
def Br(f:Expr->Str->Pos->Bool):Expr->Bool
 |.Attribute a b c=>f a b c
 |_=>false
theorem wM{f:Expr->Str->Pos->Bool}{P:Expr->Prop}{e:Expr}(h:Br f e=true)(H:∀a b c,f a b c=true->P (.Attribute a b c)):P e:=by
 cases e<;>first|exact H _ _ _ h|exact(aab h).elim
def LC(f:Expr->List Comprehension->Scope->Pos->Bool):Expr->Bool
 |.ListComp a b c d=>f a b c d
 |_=>false
theorem JH{f:Expr->List Comprehension->Scope->Pos->Bool}{P:Expr->Prop}{e:Expr}(h:LC f e=true)(H:∀a b c d,f a b c d=true->P (.ListComp a b c d)):P e:=by
 cases e<;>first|exact H _ _ _ _ h|exact(aab h).elim
def EU(f:List (Option Expr)->List Expr->Pos->Bool):Expr->Bool
 |.Dict a b c=>f a b c
 |_=>false
theorem Bs{f:List (Option Expr)->List Expr->Pos->Bool}{P:Expr->Prop}{e:Expr}(h:EU f e=true)(H:∀a b c,f a b c=true->P (.Dict a b c)):P e:=by
 cases e<;>first|exact H _ _ _ h|exact(aab h).elim
section
variable {α:Type} {f:α -> Bool} {g:α -> List α -> Bool} {P:List α -> Prop} {Q:Option α -> Prop} {l:List α} {b:Bool} {o:Option α}
def yF(l:List α)(b:Bool):Bool:=l.isEmpty&&b
theorem nh(h:yF l b=true)(H:b=true->P []):P l:=by
 cases l with
 |nil=>exact H h
 |cons _ _=>cases h
def kC(f:α -> List α -> Bool):List α -> Bool
 |a::r=>f a r
 |[]=>false
theorem C6(h:kC g l=true)(H:∀a r,g a r=true->P (a::r)):P l:=by
 cases l with
 |nil=>cases h
 |cons a r=>exact H a r h
def k1(f:α -> Bool):List α -> Bool:=kC λa r=>yF r (f a)
theorem ni(h:k1 f l=true)(H:∀a,f a=true->P [a]):P l:=by
 apply C6 h;intro a r h;apply nh h;intro h;exact H a h
def k2(f:α -> α -> Bool):List α -> Bool:=kC λa r=>k1 (f a) r
def yG(l:Option α)(b:Bool):Bool:=l.isNone&&b
theorem qX(h:yG o b=true)(H:b=true->Q none):Q o:=by
 cases o with
 |none=>exact H h
 |some _=>cases h
def EW(f:α -> Bool)(l:Option α):Bool:=l.any f
theorem Bt(h:EW f o=true)(H:∀a,f a=true->Q (some a)):Q o:=by
 cases o with
 |none=>cases h
 |some a=>exact H a h
def NG[DecidableEq α](a b:α)(c:Bool):Bool:=decide (a=b)&&c
theorem yH[DecidableEq α]{P:α -> Prop}{a d:α}(h:NG a d b=true)(H:b=true->P d):P a:=by
 rw[NG,and_eq_true,aaX]at h;rw[h.1];exact H h.2
end
def EY(f:Str->Pos->List Expr->Pos->Bool):Expr->Bool:=ET λg l k p=>qq (λx q=>yF k (f x q l p)) g
theorem kI{f:Str->Pos->List Expr->Pos->Bool}{P:Expr->Prop}{e:Expr}(h:EY f e=true)(H:∀x q l p,f x q l p=true->P (.Call (.Name x q) l [] p)):P e:=by
 apply Bq h;intro g l k p h;apply lQ h;intro x q h;apply nh h;intro h;exact H x q l p h
def RJ(f:Expr->Str->Pos->List Expr->Pos->Bool):Expr->Bool:=ET λg l k p=>Br (λo x q=>yF k (f o x q l p)) g
theorem EZ{f:Expr->Str->Pos->List Expr->Pos->Bool}{P:Expr->Prop}{e:Expr}(h:RJ f e=true)(H:∀o x q l p,f o x q l p=true->P (.Call (.Attribute o x q) l [] p)):P e:=by
 apply Bq h;intro g l k p h;apply wM h;intro o x q h;apply nh h;intro h;exact H o x q l p h
def RK(f:Expr->Expr->List Expr->Int->Bool)(c:Comprehension):Bool:=f c.target c.iter c.ifs c.is_async
theorem NH{f:Expr->Expr->List Expr->Int->Bool}{P:Comprehension->Prop}{c:Comprehension}(h:RK f c=true)(H:∀a b d i,f a b d i=true->P ⟨a,b,d,i⟩):P c:=by
 cases c;exact H _ _ _ _ h
def RL(f:Str->Bool):Const->Bool
 |.str s=>f s
 |_=>false
theorem NI{f:Str->Bool}{P:Const->Prop}{e:Const}(h:RL f e=true)(H:∀s,f s=true->P (.str s)):P e:=by
 cases e<;>first|exact H _ h|exact(aab h).elim
theorem VS{a b:Bool}(h:(a||b)=true):a=true\/b=true:=by
 cases a with
 |true=>exact .inl rfl
 |false=>exact .inr h
def E1(f:Expr->Pos->Bool):Stmt->Bool
 |.Expr a b=>f a b
 |_=>false
theorem Bu{f:Expr->Pos->Bool}{P:Stmt->Prop}{e:Stmt}(h:E1 f e=true)(H:∀a b,f a b=true->P (.Expr a b)):P e:=by
 cases e<;>first|exact H _ _ h|exact(aab h).elim
def JI(f:List Expr->Expr->Pos->Bool):Stmt->Bool
 |.Assign a b c=>f a b c
 |_=>false
theorem AA{f:List Expr->Expr->Pos->Bool}{P:Stmt->Prop}{e:Stmt}(h:JI f e=true)(H:∀a b c,f a b c=true->P (.Assign a b c)):P e:=by
 cases e<;>first|exact H _ _ _ h|exact(aab h).elim
def VT(f:Expr->Operator->Expr->Pos->Bool):Stmt->Bool
 |.AugAssign a b c d=>f a b c d
 |_=>false
def Xd(f:Expr->List Stmt->List Stmt->Pos->Bool):Stmt->Bool
 |.If a b c d=>f a b c d
 |_=>false
theorem RM{f:Expr->List Stmt->List Stmt->Pos->Bool}{P:Stmt->Prop}{e:Stmt}(h:Xd f e=true)(H:∀a b c d,f a b c d=true->P (.If a b c d)):P e:=by
 cases e<;>first|exact H _ _ _ _ h|exact(aab h).elim
def RP(f:Expr->Expr->List Stmt->List Stmt->Pos->Bool):Stmt->Bool
 |.For a b c d i=>f a b c d i
 |_=>false
theorem NJ{f:Expr->Expr->List Stmt->List Stmt->Pos->Bool}{P:Stmt->Prop}{e:Stmt}(h:RP f e=true)(H:∀a b c d i,f a b c d i=true->P (.For a b c d i)):P e:=by
 cases e<;>first|exact H _ _ _ _ _ h|exact(aab h).elim
def E4(f:Expr->List Stmt->List Stmt->Pos->Bool):Stmt->Bool
 |.While a b c d=>f a b c d
 |_=>false
theorem E5{f:Expr->List Stmt->List Stmt->Pos->Bool}{P:Stmt->Prop}{e:Stmt}(h:E4 f e=true)(H:∀a b c d,f a b c d=true->P (.While a b c d)):P e:=by
 cases e<;>first|exact H _ _ _ _ h|exact(aab h).elim
def NK(f:Option Expr->Pos->Bool):Stmt->Bool
 |.Return a b=>f a b
 |_=>false
theorem E6{f:Option Expr->Pos->Bool}{P:Stmt->Prop}{e:Stmt}(h:NK f e=true)(H:∀a b,f a b=true->P (.Return a b)):P e:=by
 cases e<;>first|exact H _ _ h|exact(aab h).elim
def RQ(f:Pos->Bool):Stmt->Bool
 |.Break a=>f a
 |_=>false
theorem NL{f:Pos->Bool}{P:Stmt->Prop}{e:Stmt}(h:RQ f e=true)(H:∀a,f a=true->P (.Break a)):P e:=by
 cases e<;>first|exact H _ h|exact(aab h).elim
def RS(f:Pos->Bool):Stmt->Bool
 |.Continue a=>f a
 |_=>false
theorem NN{f:Pos->Bool}{P:Stmt->Prop}{e:Stmt}(h:RS f e=true)(H:∀a,f a=true->P (.Continue a)):P e:=by
 cases e<;>first|exact H _ h|exact(aab h).elim
def LD(f:Pos->Bool):Stmt->Bool
 |.Pass a=>f a
 |_=>false
theorem JJ{f:Pos->Bool}{P:Stmt->Prop}{e:Stmt}(h:LD f e=true)(H:∀a,f a=true->P (.Pass a)):P e:=by
 cases e<;>first|exact H _ h|exact(aab h).elim
end Hv
end
section
namespace Hv
open PySem L2 PyProof.Rows
structure Tb where
 nc:Nat
 JK:List Str
 JL:List (Nat×Str×Nat)
 Iu:List (Str×Str×Nat)
 isc:List (Str×List Bool)
structure uh where
 N:List Str
 sc:Scope
 fns:List (Str×Nat)
 cons:List (Str×Val)
 tb:Tb
def NO(sc:Scope)(x:Str):Bool:=(sc.names.lookup x==some .local||sc.names.lookup x==some .cell||sc.names.lookup x==some .free) && !(x==("__debug__":Str)) && !(x==("__classdict__":Str))
def yI(sc:Scope)(x:Str):Bool:=sc.names.lookup x==some .globalImplicit && !(x==("__debug__":Str)) && !(x==("__name__":Str))
def E7:Const->Val->Bool
 |.none,.non=>true
 |.bool a,.bl b=>a==b
 |.int a,.int b=>a==b
 |.str a,.str b=>a==b
 |_,_=>false
def NP(o:Lx)(op:Operator):Bool:=decide (op=EK o)
def RT(o:Nc)(op:CmpOp):Bool:=decide (op=Bo o)
def RU:Bl->Str
 |.len=>"len" | .min=>"min" | .max=>"max" | .sorted=>"sorted" | .list=>"list" | .tuple=>"tuple" | .str=>"str" | .int=>"int" | .all=>"all" | .any=>"any" | .isin _=>"isinstance"
def noStar:Expr->Bool
 |.Starred ..=>false
 |_=>true
def qY:Expr->Bool
 |.Slice ..=>false
 |_=>true
def JM:Expr->Bool
 |.Name ..=>true|.Call ..=>true|.Subscript ..=>true|.List ..=>true|.Tuple ..=>true|.ListComp ..=>true|.Attribute ..=>true|.BinOp ..=>true
 |_=>false
def superB:Expr->Bool
 |.Call (.Name _ _) [] [] _=>false
 |_=>true
def LF(scope xsc:Scope):Scope :=
 { scope with names:=scope.names.map λ(n,k)=>if (k==.free&&xsc.kind==.function&&xsc.names.lookup n==some .cell) then (n,.cell) else (n,k) }
def uh.LG(Γ:uh)(scope:Scope)(N':List Str):uh:={ Γ with N:=N',sc:=LF scope Γ.sc }
def C7(Γ:uh):Bf->Expr->Bool
 |.one i,.Name x _=>Γ.N[i]?==some x && Γ.sc.names.lookup x==some .local
 | .tup is,.Tuple es _ _=>es.length==is.length&&(is.zip es).all λp=>match p.2 with
  |.Name x _=>Γ.N[p.1]?==some x && Γ.sc.names.lookup x==some .local
  |_=>false
 |_,_=>false
def yJ:Bf->List Nat
 |.one i=>[i]
 |.tup is=>is
def Zb:Me->Str
 |.join=>"join" | .append=>"append" | .extend=>"extend" | .remove=>"remove" | .pop=>"pop"
def AB:Val->Val->Bool
 |.non,.non=>true
 |.bl a,.bl b=>a==b
 |.int a,.int b=>a==b
 |.str a,.str b=>a==b
 |_,_=>false
def RW:nQ->Bool
 |.nil=>true
 |.cons ..=>false
theorem NQ{b:Bool}(h:(RW es&&b)=true):es=.nil/\b=true:=by
 cases es with
 |nil=>exact⟨rfl,h⟩
 |cons _ _=>cases h
mutual
noncomputable def bL(Γ:uh):IE->Expr->Bool
 |.var i,e=>qq (λx _=>Γ.N[i]?==some x&&NO Γ.sc x) e
 |.cst d,e=>Az (λc _ _=>E7 c d) e
 |.con x d,e=>qq (λy _=>x==y&&yI Γ.sc x && Γ.cons.any λp=>p.1==x&&AB p.2 d) e
 |.no,_=>false
 |.bin o a b,e=>RE (λl op r _=>NP o op&&bL Γ a l&&bL Γ b r) e
 |.neg a,e=>VQ (λq1 l _=>NG q1 .USub (bL Γ a l)) e
 |.cmp o a b,e=>RG (λl q1 q2 _=>k1 (λop=>k1 (λr=>RT o op && !behindInMarks op r&&bL Γ a l&&bL Γ b r) q2) q1) e
 |.chn _ _ _ _ _,_=>false
 |.and a b,e=>wL (λq1 q2 pos=>NG q1 .And (kC (λl q3=>kC (λm r=>bL Γ a l&&(match r with|[]=>bL Γ b m|n::r'=>bL Γ b (.BoolOp .And (m::n::r') pos))) q3) q2)) e
 |.or a b,e=>wL (λq1 q2 pos=>NG q1 .Or (kC (λl q3=>kC (λm r=>bL Γ a l&&(match r with|[]=>bL Γ b m|n::r'=>bL Γ b (.BoolOp .Or (m::n::r') pos))) q3) q2)) e
 |.not a,e=>VQ (λq1 l _=>NG q1 .Not (bL Γ a l)) e
 |.ite _ _ _,_=>false
 |.tup es,e=>RH (λls _ _=>aX Γ es ls) e
 |.lst es,e=>RI (λls _=>aX Γ es ls) e
 |.idx a b,e=>C5 (λl r _=>qY r&&bL Γ a l&&bL Γ b r) e
 |.slc a lo hi,e=>C5 (λl q1 _=>ND (λl' h' q2 _=>yG q2 (bL Γ a l&&(match l' with|none=>dg lo|some e=>!dg lo&&bL Γ lo e)&&(match h' with|none=>dg hi|some e=>!dg hi&&bL Γ hi e))) q1) e
 |.call j es,e=>EY (λx _ args _=>yI Γ.sc x && Γ.fns[j]?==some (x,args.length)&&decide (args.length<1000)&&aX Γ es args) e||RJ (λq1 m ap args cp=>qq (λx _=>yI Γ.sc x && Γ.tb.Iu.contains (x,m,j)&&(match Γ.fns[j]? with|some (_,n)=>n==1000+args.length|none=>false)&&decide (args.length<29)&&ap.endLine==cp.line&&aX Γ es args && !args.isEmpty) q1) e
 | .blt b es,e=>EY (λx _ args _=>yI Γ.sc x&&x==RU b&&(match b with
   |.isin T=>(match args with|[a,.Name y _]=>yI Γ.sc y&&y==(T:Str)&&["list","tuple","str","bool","int","dict"].contains T&&aX Γ es [a]|_=>false)
   |_=>!args.isEmpty&&aX Γ es args)) e
 |.met m a es,e=>RJ (λo x ap args cp=>x==Zb m&&superB o && !args.isEmpty&&decide (args.length<29)&&ap.endLine==cp.line&&bL Γ a o&&aX Γ es args) e
 | .comp N' js pat k it c elt,e=>LC (λe q1 scope _=>k1 (λq2=>RK (λtg iter ifs q3=>NG q3 0 (lM Γ.N Γ.sc scope N' js&&Bv Γ k it iter&&decide (N'.Nodup)&&C7 (Γ.LG scope N') pat tg&&((yJ pat).all λi=>js[i]?==some none)&&(match k,pat with|.enum,.one _=>false|.zip,.one _=>false|_,_=>true) &&
   (match ifs with|[]=>dg c|[t]=>!dg c&&bL (Γ.LG scope N') c t|_=>false)&&bL (Γ.LG scope N') elt e)) q2) q1) e
 |.dct0,e=>EU (λq1 q2 _=>yF q1 (yF q2 (true))) e
 |.sset a,e=>EY (λx _ q1 _=>k1 (λq2=>EY (λy _ q3 _=>k1 (λl=>x==("sorted":Str)&&y==("set":Str)&&yI Γ.sc x&&yI Γ.sc y&&noStar l&&bL Γ a l) q3) q2) q1) e
 |.dget d k x,e=>RJ (λo m ap q1 cp=>k2 (λa b=>m==("get":Str)&&superB o&&noStar a&&noStar b&&ap.endLine==cp.line&&bL Γ d o&&bL Γ k a&&bL Γ x b) q1) e
 |.dct1 k v,e=>EU (λq1 q2 _=>k1 (λq3=>EW (λa=>k1 (λb=>bL Γ k a&&bL Γ v b) q2) q3) q1) e
 |.lkeys d,e=>EY (λx _ q1 _=>k1 (λq2=>qq (λy q=>x==("list":Str)&&yI Γ.sc x&&bL Γ d (.Name y q)) q2) q1) e
 |.sdef _ _ _,_=>false
 |.svals a,e=>EY (λx _ q1 _=>k1 (λq2=>EY (λy _ q3 _=>k1 (λl=>x==("len":Str)&&y==("set":Str)&&yI Γ.sc x&&yI Γ.sc y&&noStar l&&bL Γ a l) q3) q2) q1) e
 |.skeys d,e=>EY (λx _ q1 _=>k1 (λq2=>qq (λy q=>x==("sorted":Str)&&yI Γ.sc x&&bL Γ d (.Name y q)) q2) q1) e||EY (λx _ q1 _=>k1 (λq2=>C5 (λa b q=>x==("sorted":Str)&&yI Γ.sc x&&bL Γ d (.Subscript a b q)) q2) q1) e
 |.fld n a x,e=>Br (λo y _=>x==y&&superB o&&n == Γ.tb.nc && Γ.tb.JK.contains x&&bL Γ a o) e
 |.rev a s,e=>C5 (λl q1 _=>ND (λq2 q3 st _=>yG q2 (yG q3 (bL Γ a l&&st.isSome&&(match st with|none=>dg s|some e=>!dg s&&bL Γ s e)))) q1) e
 |.dflt _ _ _ _ _ _,_=>false
 |.isc _ _ _,_=>false
 |.mth a m js es,e=>RJ (λo x ap args cp=>x==m&&superB o&&decide (args.length<29)&&ap.endLine==cp.line&&(js.all λp=>decide (p.1 < Γ.tb.nc) && Γ.tb.JL.contains (p.1,m,p.2)&&(match Γ.fns[p.2]? with|some (_,n)=>n==1001+args.length|none=>false))&&bL Γ a o&&aX Γ es args) e
noncomputable def aX(Γ:uh):nQ->List Expr->Bool
 |.nil,ls=>ls.isEmpty
 | .cons e es,ls=>match ls with
  |l::ls=>noStar l&&bL Γ e l&&aX Γ es ls
  |[]=>false
noncomputable def Bv(Γ:uh)(k:Ik):nQ->Expr->Bool
 |.nil,_=>false
 | .cons e es,l=>match k with
  |.seq=>RW es&&(JM l&&bL Γ e l)
  |.range=>EY (λx _ as _=>kC (λa args=>x==("range":Str)&&yI Γ.sc x&&noStar a&&bL Γ e a&&aX Γ es args&&decide (args.length<2)) as) l
  |.enum=>false
  |.zip=>false
end
abbrev Fn:=Nat->List Val->M Val
def dH(K:Frag)(ρ:List Addr)(env:Env)(σ:L2.St)(H:Hp):Prop:=∀(i:Nat) (v:Val),env[i]?=some (some v)->∃x,σ[i]?=some (some x)/\VR K ρ H v x
theorem dH.mH{K:Frag}{ρ ρ':List Addr}{env:Env}{σ:L2.St}{H H':Hp}(e:dH K ρ env σ H)(g:Gw ρ H ρ' H'):dH K ρ' env σ H':=λi v q=>by
 obtain⟨x,q1,q2⟩:=e i v q;exact⟨x,q1,VR.mH g v x q2⟩
theorem dH.up{K:Frag}{ρ ρ':List Addr}{env:Env}{σ:L2.St}{H H':Hp}(e:dH K ρ env σ H)(g:Gr ρ H ρ' H'):dH K ρ' env σ H':=e.mH g.w
def Zc(K:Frag)(Q:List V->Hp->Prop):List Val->Hs->List Addr->Hp->Prop:=λvs _ ρ' H'=>∀xs,aD K ρ' H' vs xs->Q xs H'
def WT(Q:Bool->Hp->Prop):Bool->Hs->List Addr->Hp->Prop:=λb _ _ H'=>Q b H'
def NR(Φ:Fn)(ir:IE)(env:Env):M Bool:=bnd (aB Φ ir env) λx=>ask λh=>cZ h x
def tV(Φ:Fn)(B:Bd)(EX:Nat->List V->Hp->Prop)(ir:IE):TE:=λσ H Q=>∃ρ env h,dH B.K ρ env σ H/\HR B ρ h H/\Post B EX ρ H (WV B.K Q) (aB Φ ir env h)
def Xe(Φ:Fn)(B:Bd)(EX:Nat->List V->Hp->Prop)(fK:nQ):TA:=λσ H Q=>∃ρ env h,dH B.K ρ env σ H/\HR B ρ h H/\Post B EX ρ H (Zc B.K Q) (aF Φ fK env h)
def tT(Φ:Fn)(B:Bd)(EX:Nat->List V->Hp->Prop)(ir:IE):TT:=λσ H Q=>∃ρ env h,dH B.K ρ env σ H/\HR B ρ h H/\Post B EX ρ H (WT Q) (NR Φ ir env h)
theorem _root_.L2.PE.imp(h:PE X e t)(i:∀σ H Q,t' σ H Q->t σ H Q):PE X e t':=λpins s σ H Q I hw=>h pins s σ H Q I (i σ H Q hw)
theorem _root_.L2.PT.imp(h:PT X e t)(i:∀σ H Q,t' σ H Q->t σ H Q):PT X e t':=λpins s σ H Q I hw=>h pins s σ H Q I (i σ H Q hw)
theorem _root_.L2.PA.imp(h:PA X es t)(i:∀σ H Q,t' σ H Q->t σ H Q):PA X es t':=λpos pins s σ H Q I hw=>h pos pins s σ H Q I (i σ H Q hw)
theorem _root_.L2.PO.imp(h:PO X e t)(i:∀σ H Q,t' σ H Q->t σ H Q):PO X e t':=λpins s σ H Q I hw=>h pins s σ H Q I (i σ H Q hw)
theorem _root_.L2.PI.imp(h:PI X tg iter t)(i:∀σ H R,t' σ H R->t σ H R):PI X tg iter t':=λpins s σ H R I hw=>h pins s σ H R I (i σ H R hw)
theorem bz{α β γ:Type}(m:M α)(f:α -> M β)(g:β -> M γ):bnd (bnd m f) g=bnd m λx=>bnd (f x) g:=by
 funext h;show (match (match m h with|.ok a h'=>f a h'|.exc c vs h'=>.exc c vs h'|.no=>.no) with|.ok a h'=>g a h'|.exc c vs h'=>.exc c vs h'|.no=>.no)=(match m h with|.ok a h'=>bnd (f a) g h'|.exc c vs h'=>.exc c vs h'|.no=>.no);cases m h<;>rfl
theorem dI{α β:Type}(a:α)(f:α -> M β):bnd (ret a) f=f a:=rfl
def wN(B:Bd)(n:Nat)(φ:List Val->M Val):Sp:=λxs H Q _=>∃ρ h vs,vs.length=n/\HR B ρ h H/\aD B.K ρ H vs xs/\Post B (λ_ _ _=>False) ρ H (WV B.K Q) (φ vs h)
def Qn(P:Program)(w:World)(B:Bd)(mg:Str->Option Value)(base:Heap)(k:Nat)(j:Nat)(x:Str)(n:Nat)(φ:List Val->M Val):Prop :=
 (n<1000/\((∃(f:Addr) (fd:FuncData) (ps:List Str),ps.length=n/\mg x=some (.ref f)/\keepIn B.K (.ref f)=true/\Binds B.K fd ps []/\fZ P w B.K mg base zW k f fd ps (wN B n φ)) \/
  ∃(c:Nat) (f:Addr) (fd:FuncData) (ps:List Str) (φ0:List Val->M Val),φ = EI c φ0/\ps.length=n+1/\mg x=some (.ref (B.cl c))/\Mk B.K (B.cl c) f/\Binds B.K fd ps []/\fZ P w B.K mg base zW k f fd ps (wN B (n+1) φ0))) \/
 (1000<=n/\∃(fd:FuncData) (ps:List Str),ps.length=n-1000/\Binds B.K fd ps []/\fZ P w B.K mg base zW k (B.cl (1000+j)) fd ps (wN B (n-1000) φ))
def bltNames:List Str:=["len","min","max","sorted","list","tuple","str","all","any","isinstance","range","enumerate","int","bool","dict","set","zip"]
structure Ctx (Φ:Fn) (Γ:uh) (k:Nat) (X:Cx) (cl:Nat->Addr) (EX:Nat->List V->Hp->Prop):Prop where
 N:X.N = Γ.N
 sc:X.env.scope = Γ.sc
 calm:X.calm=true
 room:eZ (k+1) X.A
 mU:∀c xs H,¬ EX c xs H
 fns:∀j x n,Γ.fns[j]?=some (x,n)->Qn X.prog X.w (bd X cl) X.mg X.base k j x n (Φ j)
 cls:∀c,c < Γ.tb.nc->DH X.K (cl c)/\∀x ∈ Γ.tb.JK,ku X.K (cl c) x
 JL:∀p ∈ Γ.tb.JL,Meth X.K (cl p.1) p.2.1 (cl (1000+p.2.2))
 Iu:∀p ∈ Γ.tb.Iu,∃C,X.mg p.1=some (.ref C)/\Na X.K C p.2.1 (cl (1000+p.2.2))
 isc:∀p ∈ Γ.tb.isc,∃C,X.mg p.1=some (.ref C)/\∀c b,p.2[c]?=some b->Xb X.K (cl c)/\kitOne X.K (.ref (cl c)) (.ref C)=some b
 cons:∀p ∈ Γ.cons,∃v u,X.mg p.1=some u/\RelV v u/\∀K ρ H,VR K ρ H p.2 v
 blt:∀x∈bltNames,X.mg x=none
section
variable {Φ:Fn} {Γ:uh} {k:Nat} {X:Cx} {cl:Nat->Addr} {EX:Nat->List V->Hp->Prop}
theorem Ctx.units(c:Ctx Φ Γ k X cl EX):X.A.units+64<cLine:=c.room.units
theorem Ctx.vis(c:Ctx Φ Γ k X cl EX)(h:NO Γ.sc x=true):we X.env.scope x/\(x==("__debug__":Str))=false/\(x==("__classdict__":Str))=false:=by
 unfold NO at h;simp only[and_eq_true,or_eq_true,beq_iff_eq,not_eq_true']at h;obtain⟨⟨h1,h2⟩,h3⟩:=h;refine⟨?_,h2,h3⟩;unfold we;rw[c.sc]
 rcases h1 with (z|z)|z
 ·exact .inl z
 ·exact .inr (.inl z)
 ·exact .inr (.inr z)
theorem Ctx.gl(c:Ctx Φ Γ k X cl EX)(h:yI Γ.sc x=true):Gl X x/\(x==("__debug__":Str))=false/\x ≠ "__name__":=by
 unfold yI at h;simp only[and_eq_true,beq_iff_eq,not_eq_true']at h;obtain⟨⟨h1,h2⟩,h3⟩:=h;refine⟨?_,h2,λz=>by rw[z]at h3;simp at h3⟩;show X.env.scope.names.lookup x=_;rw[c.sc];exact h1
theorem Ctx.LG(c:Ctx Φ Γ k X cl EX)(scope:Scope)(N':List Str)(cls:List (Str×Addr))(C:Addr)(s:Shared)(H:Hp)(fp:List Addr):Ctx Φ (Γ.LG scope N') k (bS X scope N' cls C s H fp) cl EX:=by
 refine⟨rfl,?_,c.calm,c.room,c.mU,c.fns,c.cls,c.JL,c.Iu,c.isc,c.cons,c.blt⟩;show relabel scope X.env=LF scope Γ.sc;rw[<-c.sc];rfl
theorem bF(h:noStar e=true):starEach (e::es) env=(false,eval e env)::starEach es env:=by
 cases e<;>first|rfl|(simp[noStar]at h)
theorem gH:∀{es:List Expr} {fK:nQ},aX Γ fK es=true->(backTo pos (starEach es env)).any (·.1)=false
 |[],_,_=>rfl
 |e::es,.nil,h=>by simp[aX]at h
 | e::es,.cons i fK,h=>by
  simp only[aX,and_eq_true]at h;rw[bF h.1.1];show (false||(backTo pos (starEach es env)).any (·.1))=false;rw[gH (fK:=fK) h.2];rfl
theorem sS(h:aX Γ fK es=true):(backTo pos (starEach es env)).all (λx=>!x.1)=true:=by
 have q:=gH (pos:=pos) (env:=env) h;rw[all_eq_true];intro x hx;have:=List.any_eq_false.mp q x hx;simpa using this
theorem AD(h:qY e=true):A9 e:=by
 intro o i;cases e<;>first|rfl|(simp[qY]at h)
theorem super_ok(h:superB e=true):attributeBase e x env whole=whole:=by
 cases e<;>first
  |rfl
  |skip
 rename_i f args kws pos;cases f<;>first
  |rfl
  |skip
 cases args with
 |cons a r=>rfl
 |nil=>
  cases kws with
  |cons a r=>rfl
  |nil=>simp[superB]at h
theorem cP(q:PE X e (tV Φ (bd X cl) EX ir))(he:∀whole,isTrue e X.env whole=(do let v <-whole;standAt e.pos;holding [v] (truthy v))):PT X e (tT Φ (bd X cl) EX ir) :=
 (D7 q he).imp λσ H Q ⟨ρ,env,h,hE,r,p⟩=>⟨ρ,env,h,hE,r,aC p λv h1 ρ1 x H1 g1 r1 q1 p1=>by
  obtain⟨b,e,w⟩:=dY r1 p1;exact⟨b,Nj r1 q1 e,w⟩⟩
theorem D5:Um X (unaryOp .USub) (λx H Q=>∃i,x=.int i/\Q (.int (-i)) H):=by
 intro pins s σ H x v Q I rx h;obtain⟨i,rfl,q⟩:=h;obtain⟨t,rfl⟩:=rx;exact neg_int ⟨.int (-i),H,I.tok _,⟨_,rfl⟩,q⟩
theorem LH(h:PT X (.BoolOp op vs pos) t):PW X (.BoolOp op vs pos) t:=λwhole pins s σ H Q I hw=>h pins s σ H Q I hw
def cG(Φ:Fn)(ir:IE):Prop:=∀(Γ:uh) (k:Nat) (X:Cx) (cl:Nat->Addr) (EX:Nat->List V->Hp->Prop) (e:Expr),Ctx Φ Γ k X cl EX->bL Γ ir e=true->PE X e (tV Φ (bd X cl) EX ir)/\PT X e (tT Φ (bd X cl) EX ir)
def kJ(Φ:Fn)(fK:nQ):Prop:=(∀(Γ:uh) (k:Nat) (X:Cx) (cl:Nat->Addr) (EX:Nat->List V->Hp->Prop) (es:List Expr),Ctx Φ Γ k X cl EX->aX Γ fK es=true->PA X es (Xe Φ (bd X cl) EX fK))/\match fK with
 |.nil=>True
 | .cons e r=>cG Φ e/\match r with
  |.nil=>True
  |.cons e' _=>cG Φ e'
theorem JN(h:NP o op=true):op=EK o:=aaB h
theorem JO(h:RT o op=true):op=Bo o:=aaB h
theorem pI(hs:∀env h,aB Φ ir env h=.no):cG Φ ir:=by
 intro Γ k X cl EX e c h;exact⟨λpins s σ H Q I ⟨ρ,env,h,hE,r,p⟩=>by rw[hs]at p;exact p.elim,λpins s σ H Q I ⟨ρ,env,h,hE,r,p⟩=>by unfold NR bnd at p;rw[hs]at p;exact p.elim⟩
theorem NS{i:Nat}:cG Φ (.var i):=by
 intro Γ k X cl EX e c h;apply lQ h;intro x pos h;simp only[and_eq_true,beq_iff_eq]at h;obtain⟨v1,v2,v3⟩:=c.vis h.2;have q:PE X (.Name x pos) (tV Φ (bd X cl) EX (.var i)):=by refine(Mg (by rw[c.N];exact h.1) v1 v2 v3).imp λσ H Q aS=>?_;obtain⟨ρ,env,h,hE,r,p⟩:=aS;rw[aB.eq_def]at p;dsimp only at p;obtain⟨d,e1,w⟩:=gf r p;split at e1<;>cases e1;rename_i e1;obtain⟨x,e2,e3⟩:=hE i d e1;exact⟨x,e2,w x e3⟩
 exact⟨q,cP q λ_=>rfl⟩
theorem NT:cG Φ (.cst d):=by
 intro Γ k X cl EX e c h;apply yE h;intro cc j pos h;have q:PE X (.Constant cc j pos) (tV Φ (bd X cl) EX (.cst d)):=by
  unfold E7 at h;split at h<;>first|cases h|skip
  ·refine Mi.imp λσ H Q aS=>?_;obtain⟨ρ,env,h,hE,r,p⟩:=aS;simp only[aB]at p;exact ao r p _ VR.non
  ·cases eq_of_beq h;refine QF.imp λσ H Q aS=>?_;obtain⟨ρ,env,h,hE,r,p⟩:=aS;simp only[aB]at p;exact ao r p _ VR.bl
  ·cases eq_of_beq h;refine Mh.imp λσ H Q aS=>?_;obtain⟨ρ,env,h,hE,r,p⟩:=aS;simp only[aB]at p;exact ao r p _ VR.int
  ·cases eq_of_beq h;refine Mj.imp λσ H Q aS=>?_;obtain⟨ρ,env,h,hE,r,p⟩:=aS;simp only[aB]at p;exact ao r p _ VR.str
 exact⟨q,cP q λ_=>rfl⟩
theorem C8(h:AB a b=true):a=b:=by
 unfold AB at h;split at h<;>first|rfl|(cases eq_of_beq h;rfl)|cases h
theorem NU:cG Φ (.con x d):=by
 intro Γ k X cl EX e c h;apply lQ h;intro y pos h;simp only[and_eq_true,beq_iff_eq]at h;obtain⟨⟨h1,h2⟩,h3⟩:=h;subst h1;obtain⟨g1,g2,g3⟩:=c.gl h2;obtain⟨p,hp,h4⟩:=List.any_eq_true.mp h3;simp only[and_eq_true,beq_iff_eq]at h4;obtain⟨v,u,m1,m2,m3⟩:=c.cons p hp;rw[h4.1]at m1;have q:PE X (.Name x pos) (tV Φ (bd X cl) EX (.con x d)):=by refine(IG g1 m1 m2 g2).imp λσ H Q aS=>?_;obtain⟨ρ,env,h,hE,r,p⟩:=aS;simp only[aB]at p;exact ao r p _ (by rw[<-C8 h4.2];exact m3 _ _ _)
 exact⟨q,cP q λ_=>rfl⟩
theorem RX:cG Φ .no:=by
 intro Γ k X cl EX e c h
 (conv at h=>lhs;whnf);cases h
theorem E8:kJ Φ .nil:=by
 refine⟨fun Γ k X cl EX es c h=>?_,trivial⟩;rw[aX]at h;cases es with
 |cons a r=>cases h
 |nil=>refine Ea.imp λσ H Q aS=>?_;obtain⟨ρ,env,h,hE,r,p⟩:=aS;simp only[aF]at p;exact ao r p _ aD.nil
theorem Bw(h1:cG Φ e)(h2:kJ Φ es):kJ Φ (.cons e es):=by
 refine⟨fun Γ k X cl EX ls c h=>?_,h1,?_⟩
 ·rw[aX.eq_def]at h;dsimp only at h
  cases ls with
  |nil=>cases h
  |cons l ls=>simp only[and_eq_true]at h;refine(wm (h1 Γ k X cl EX l c h.1.2).1 (h2.1 Γ k X cl EX ls c h.2) (bF h.1.1)).imp λσ H Q aS=>?_;obtain⟨ρ,env,h,hE,r,p⟩:=aS;simp only[aF]at p;refine⟨ρ,env,h,hE,r,aC p λv h1 ρ1 x H1 g1 r1 q1 p1=>⟨ρ1,env,h1,hE.up g1,r1,bx p1 λvs h2 ρ2 H2 g2 r2 p2 xs q2=>?_⟩⟩;exact ao r2 p2 _ (aD.cons (VR.up g2 _ _ q1) q2)
 ·cases es with
  |nil=>trivial
  |cons e' r=>exact h2.2.1
theorem NV(ha:cG Φ a)(hb:cG Φ b):cG Φ (.bin o a b):=by
 intro Γ k X cl EX e c h;apply Ny h;intro l op r pos h;simp only[and_eq_true]at h;obtain⟨⟨h1,h2⟩,h3⟩:=h;have eo:op=EK o:=JN h1;subst eo;have q:PE X (.BinOp l (EK o) r pos) (tV Φ (bd X cl) EX (.bin o a b)):=by refine(Q0 (Nh (cl:=cl) (EX:=EX) o) (ha Γ k X cl EX l c h2).1 (hb Γ k X cl EX r c h3).1).imp λσ H Q aS=>?_;obtain⟨ρ,env,h,hE,r,p⟩:=aS;simp only[aB]at p;exact⟨ρ,env,h,hE,r,aC p λv h1 ρ1 x H1 g1 r1 q1 p1=>⟨ρ1,env,h1,hE.up g1,r1,aC p1 λw h2 ρ2 y H2 g2 r2 q2 p2=>⟨ρ2,h2,v,w,r2,VR.up g2 _ _ q1,q2,p2⟩⟩⟩
 exact⟨q,cP q λ_=>rfl⟩
theorem NW(ha:cG Φ a):cG Φ (.neg a):=by
 intro Γ k X cl EX e c h;apply LB h;intro q1 l pos h;apply yH h;intro h;have q:PE X (.UnaryOp .USub l pos) (tV Φ (bd X cl) EX (.neg a)):=by
  refine(Q2 D5 (ha Γ k X cl EX l c h).1).imp λσ H Q aS=>?_;obtain⟨ρ,env,h,hE,r,p⟩:=aS;simp only[aB]at p;refine⟨ρ,env,h,hE,r,aC p λv h1 ρ1 x H1 g1 r1 q1 p1=>?_⟩;cases v<;>first|exact p1.elim|skip
  rw[VR]at q1;exact⟨_,q1,ao r1 p1 _ VR.int⟩
 exact⟨q,cP q λ_=>rfl⟩
theorem NX(ha:cG Φ a)(hb:cG Φ b):cG Φ (.cmp o a b):=by
 intro Γ k X cl EX e c h;apply Nz h;intro l q1 q2 pos h;apply ni h;intro op h;apply ni h;intro r h;simp only[and_eq_true,not_eq_true']at h;obtain⟨⟨⟨h1,h4⟩,h2⟩,h3⟩:=h;have eo:op=Bo o:=JO h1;subst eo;refine⟨(IW (EN (cl:=cl) c.units o) (ha Γ k X cl EX l c h2).1 (hb Γ k X cl EX r c h3).1 h4).imp λσ H Q ⟨ρ,env,h,hE,r,p⟩=>?_,(IX (EN (cl:=cl) c.units o) (ha Γ k X cl EX l c h2).1 (hb Γ k X cl EX r c h3).1 h4).imp λσ H Q ⟨ρ,env,h,hE,r,p⟩=>?_⟩
 ·simp only[aB]at p;refine⟨ρ,env,h,hE,r,aC p λv h1 ρ1 x H1 g1 r1 q1 p1=>⟨ρ1,env,h1,hE.up g1,r1,aC p1 λw h2 ρ2 y H2 g2 r2 q2 p2=>?_⟩⟩;obtain⟨t,e,p3⟩:=aJ p2;exact⟨ρ2,h2,v,w,t,r2,VR.up g2 _ _ q1,q2,e,ao r2 p3 _ VR.bl⟩
 ·simp only[NR,aB,bz,dI]at p;refine⟨ρ,env,h,hE,r,aC p λv h1 ρ1 x H1 g1 r1 q1 p1=>⟨ρ1,env,h1,hE.up g1,r1,aC p1 λw h2 ρ2 y H2 g2 r2 q2 p2=>?_⟩⟩;obtain⟨t,e,p3⟩:=aJ p2;obtain⟨t',e',w'⟩:=dY r2 p3;cases (show some t=some t' from e');exact⟨ρ2,h2,v,w,t,r2,VR.up g2 _ _ q1,q2,e,t,rfl,w'⟩
theorem NY(ha:cG Φ a)(hb:cG Φ b)(hd:cG Φ d):cG Φ (.chn o o' a b d):=pI λ_ _=>rfl
end
section
variable {B:Bd} {EX:Nat->List V->Hp->Prop} {ρ:List Addr} {H:Hp} {β:Type} {W:β -> Hs->List Addr->Hp->Prop} {h:Hs}
theorem post_bool(p:Post B EX ρ H W (bnd (sG v) f h)):∃t,v=.bl t/\Post B EX ρ H W (f t h):=by
 cases v with
 |bl t=>exact⟨t,rfl,p⟩
 |_=>exact p.elim
theorem pJ(p:Post B EX ρ H W (bnd m F h))(k:∀v h1,Post B EX ρ H W (F v h1)->∃t,cZ h1 v=some t/\∀ρ1 H1,Gr ρ H ρ1 H1->HR B ρ1 h1 H1->Q t H1) :
  Post B EX ρ H (WT Q) (bnd m (λx=>ask λh=>cZ h x) h):=by
 unfold bnd at p |-;cases e:m h with
 |ok v h1=>
  rw[e]at p;obtain⟨t,e1,q⟩:=k v h1 p;show Post B EX ρ H (WT Q) (ask (λh=>cZ h v) h1);have e2:ask (λh=>cZ h v) h1=.ok t h1:=by unfold ask bM;dsimp only;rw[e1]
  rw[e2];exact λρ1 H1 g r=>q ρ1 H1 g r
 |exc c vs h1=>rw[e]at p;exact p
 |no=>rw[e]at p;exact p
end
section
variable {Φ:Fn} {Γ:uh} {k:Nat} {X:Cx} {cl:Nat->Addr} {EX:Nat->List V->Hp->Prop}
theorem NZ(ha:cG Φ a)(hb:cG Φ b):cG Φ (.and a b):=by
 intro Γ k X cl EX e c h;apply vh h;intro q1 q2 pos h;apply yH h;intro h;apply C6 h;intro l q3 h;apply C6 h;intro m r h;simp only[and_eq_true]at h;obtain⟨h1,h2⟩:=h;have hB:PE X (.BoolOp .And (m::r) pos) (tV Φ (bd X cl) EX b)/\PW X (.BoolOp .And (m::r) pos) (tT Φ (bd X cl) EX b):=by
  cases r with
  |nil=>exact⟨DS (hb Γ k X cl EX m c h2).1,IJ (hb Γ k X cl EX m c h2).2⟩
  |cons n r'=>exact⟨(hb Γ k X cl EX _ c h2).1,LH (hb Γ k X cl EX _ c h2).2⟩
 refine⟨(Mp (ha Γ k X cl EX l c h1).1 hB.1).imp λσ H Q ⟨ρ,env,h,hE,r,p⟩=>?_,(Mm (ha Γ k X cl EX l c h1).2 hB.2).pt.imp λσ H Q ⟨ρ,env,h,hE,r,p⟩=>?_⟩
 ·simp only[aB]at p
  refine⟨ρ,env,h,hE,r,aC p λv h1 ρ1 x H1 g1 r1 q1 p1=>?_⟩;obtain⟨t,rfl,p2⟩:=post_bool p1;rw[VR]at q1;refine⟨t,q1,?_⟩;cases t with
  |true=>rw[aak rfl]at p2 |-;refine⟨ρ1,env,h1,hE.up g1,r1,aC p2 λw h2 ρ2 y H2 g2 r2 q2 p3=>?_⟩;obtain⟨u,rfl,p4⟩:=post_bool p3;exact ao r2 p4 _ q2
  |false=>rw[aam aab]at p2 |-;exact ao r1 p2 _ VR.bl
 ·simp only[NR,aB,bz]at p
  refine⟨ρ,env,h,hE,r,pJ p λv h1 p1=>?_⟩;obtain⟨t,rfl,p2⟩:=post_bool p1;refine⟨t,rfl,λρ1 H1 g1 r1=>?_⟩;have p2:=Post.up g1 p2;cases t with
  |true=>rw[aak rfl]at p2 |-;simp only[bz,dI]at p2;refine⟨ρ1,env,h1,hE.up g1,r1,pJ p2 λw h2 p3=>?_⟩;obtain⟨u,rfl,p4⟩:=post_bool p3;exact⟨u,rfl,λρ2 H2 g2 r2=>by obtain⟨t',e',w'⟩:=dY r2 (Post.up g2 p4);cases (show some u=some t' from e');exact w'⟩
  |false=>rw[aam aab]at p2 |-;obtain⟨t',e',w'⟩:=dY r1 (show Post _ _ ρ1 H1 _ (ask (λh=>cZ h (.bl false)) h1) from p2);cases (show some false=some t' from e');exact w'
theorem RY(ha:cG Φ a)(hb:cG Φ b):cG Φ (.or a b):=by
 intro Γ k X cl EX e c h;apply vh h;intro q1 q2 pos h;apply yH h;intro h;apply C6 h;intro l q3 h;apply C6 h;intro m r h;simp only[and_eq_true]at h;obtain⟨h1,h2⟩:=h;have hB:PE X (.BoolOp .Or (m::r) pos) (tV Φ (bd X cl) EX b)/\PW X (.BoolOp .Or (m::r) pos) (tT Φ (bd X cl) EX b):=by
  cases r with
  |nil=>exact⟨DS (hb Γ k X cl EX m c h2).1,Ml (hb Γ k X cl EX m c h2).2⟩
  |cons n r'=>exact⟨(hb Γ k X cl EX _ c h2).1,LH (hb Γ k X cl EX _ c h2).2⟩
 refine⟨(QJ (ha Γ k X cl EX l c h1).1 hB.1).imp λσ H Q ⟨ρ,env,h,hE,r,p⟩=>?_,(QG (ha Γ k X cl EX l c h1).2 hB.2).pt.imp λσ H Q ⟨ρ,env,h,hE,r,p⟩=>?_⟩
 ·simp only[aB]at p
  refine⟨ρ,env,h,hE,r,aC p λv h1 ρ1 x H1 g1 r1 q1 p1=>?_⟩;obtain⟨t,rfl,p2⟩:=post_bool p1;rw[VR]at q1;refine⟨t,q1,?_⟩;cases t with
  |false=>rw[aam aab]at p2 |-;refine⟨ρ1,env,h1,hE.up g1,r1,aC p2 λw h2 ρ2 y H2 g2 r2 q2 p3=>?_⟩;obtain⟨u,rfl,p4⟩:=post_bool p3;exact ao r2 p4 _ q2
  |true=>rw[aak rfl]at p2 |-;exact ao r1 p2 _ VR.bl
 ·simp only[NR,aB,bz]at p
  refine⟨ρ,env,h,hE,r,pJ p λv h1 p1=>?_⟩;obtain⟨t,rfl,p2⟩:=post_bool p1;refine⟨t,rfl,λρ1 H1 g1 r1=>?_⟩;have p2:=Post.up g1 p2;cases t with
  |false=>rw[aam aab]at p2 |-;simp only[bz,dI]at p2;refine⟨ρ1,env,h1,hE.up g1,r1,pJ p2 λw h2 p3=>?_⟩;obtain⟨u,rfl,p4⟩:=post_bool p3;exact⟨u,rfl,λρ2 H2 g2 r2=>by obtain⟨t',e',w'⟩:=dY r2 (Post.up g2 p4);cases (show some u=some t' from e');exact w'⟩
  |true=>rw[aak rfl]at p2 |-;obtain⟨t',e',w'⟩:=dY r1 (show Post _ _ ρ1 H1 _ (ask (λh=>cZ h (.bl true)) h1) from p2);cases (show some true=some t' from e');exact w'
theorem N1(ha:cG Φ a):cG Φ (.not a):=by
 intro Γ k X cl EX e c h;apply LB h;intro q1 l pos h;apply yH h;intro h;refine⟨(Mq (ha Γ k X cl EX l c h).1).imp λσ H Q ⟨ρ,env,h,hE,r,p⟩=>?_,(Mn (ha Γ k X cl EX l c h).2).imp λσ H Q ⟨ρ,env,h,hE,r,p⟩=>?_⟩
 ·simp only[aB]at p;refine⟨ρ,env,h,hE,r,aC p λv h1 ρ1 x H1 g1 r1 q1 p1=>?_⟩;obtain⟨t,rfl,p2⟩:=post_bool p1;rw[VR]at q1;exact⟨t,q1,ao r1 p2 _ VR.bl⟩
 ·simp only[NR,aB,bz]at p;refine⟨ρ,env,h,hE,r,pJ p λv h1 p1=>?_⟩;obtain⟨t,rfl,p2⟩:=post_bool p1;refine⟨t,rfl,λρ1 H1 g1 r1=>?_⟩;obtain⟨t',e',w'⟩:=dY r1 (show Post _ _ ρ1 H1 _ (ask (λh=>cZ h (.bl (!t))) h1) from Post.up g1 p2);cases (show some (!t)=some t' from e');exact w'
theorem N2(ht:cG Φ t)(ha:cG Φ a)(hb:cG Φ b):cG Φ (.ite t a b):=pI λ_ _=>rfl
theorem N3(hs:kJ Φ es):cG Φ (.tup es):=by
 intro Γ k X cl EX e c h;apply NB h;intro ls x1 pos h;have q:PE X (.Tuple ls x1 pos) (tV Φ (bd X cl) EX (.tup es)):=by refine(MP (hs.1 Γ k X cl EX ls c h)).imp λσ H Q aS=>?_;obtain⟨ρ,env,h,hE,r,p⟩:=aS;simp only[aB]at p;refine⟨ρ,env,h,hE,r,bx p λvs h1 ρ1 H1 g1 r1 p1 xs q1=>?_⟩;obtain⟨e1,p2⟩:=aT p1;exact⟨by rw[<-q1.length];exact aaB e1,λq hq=>yC r1 hq q1 p2⟩
 exact⟨q,cP q λ_=>rfl⟩
theorem N4(hs:kJ Φ es):cG Φ (.lst es):=by
 intro Γ k X cl EX e c h;apply NC h;intro ls pos h;have q:PE X (.List ls pos) (tV Φ (bd X cl) EX (.lst es)):=by refine(MQ (hs.1 Γ k X cl EX ls c h)).imp λσ H Q aS=>?_;obtain⟨ρ,env,h,hE,r,p⟩:=aS;simp only[aB]at p;refine⟨ρ,env,h,hE,r,bx p λvs h1 ρ1 H1 g1 r1 p1 xs q1=>?_⟩;obtain⟨e1,p2⟩:=aT p1;exact⟨by rw[<-q1.length];exact aaB e1,λq hq=>cU r1 hq q1 p2⟩
 exact⟨q,cP q λ_=>rfl⟩
theorem JP:cG Φ .dct0:=by
 intro Γ k X cl EX e c h;apply Bs h;intro q1 q2 pos h;apply nh h;intro h;apply nh h;intro h;have q:PE X (.Dict [] [] pos) (tV Φ (bd X cl) EX .dct0):=by refine(Ej (X:=X) (pos:=pos)).imp λσ H Q aS=>?_;obtain⟨ρ,env,h,hE,r,p⟩:=aS;simp only[aB]at p;exact λa ha=>yz (o:=.dct []) (O:=.dK []) r ha ⟨[],bE,(by rw[iQ])⟩ p
 exact⟨q,cP q λ_=>rfl⟩
theorem N5(ha:cG Φ a)(hb:cG Φ b):cG Φ (.idx a b):=by
 intro Γ k X cl EX e c h;apply sP h;intro l r pos h;simp only[and_eq_true]at h;have q:PE X (.Subscript l r pos) (tV Φ (bd X cl) EX (.idx a b)):=by refine(Rg (Nk (cl:=cl) c.units) (ha Γ k X cl EX l c h.1.2).1 (hb Γ k X cl EX r c h.2).1 (AD h.1.1)).imp λσ H Q aS=>?_;obtain⟨ρ,env,h,hE,r,p⟩:=aS;simp only[aB]at p;refine⟨ρ,env,h,hE,r,aC p λv h1 ρ1 x H1 g1 r1 q1 p1=>⟨ρ1,env,h1,hE.up g1,r1,aC p1 λw h2 ρ2 y H2 g2 r2 q2 p2=>?_⟩⟩;obtain⟨z,e,w'⟩:=dY r2 p2;exact⟨ρ2,h2,v,w,z,r2,VR.up g2 _ _ q1,q2,e,w'⟩
 exact⟨q,cP q λ_=>rfl⟩
def Qo(Φ:Fn)(ir:IE)(env:Env):M (Option Int):=if dg ir=true then ret none else bnd (aB Φ ir env) λv=>bnd (bM (kG v)) λi=>ret (some i)
def tP(Φ:Fn)(B:Bd)(EX:Nat->List V->Hp->Prop)(ir:IE):TO:=λσ H Q=>∃ρ env h,dH B.K ρ env σ H/\HR B ρ h H/\Post B EX ρ H (λo _ _ H'=>Q o H') (Qo Φ ir env h)
theorem C9{i:Int}(h:kG d=some i):d=.int i:=by cases d<;>cases h;rfl
theorem wO(hi:cG Φ ir)(c:Ctx Φ Γ k X cl EX)(h:(match o with|none=>dg ir|some e=>!dg ir&&bL Γ ir e)=true):PO X o (tP Φ (bd X cl) EX ir):=by
 cases o with
 |none=>refine Jb.imp λσ H Q aS=>?_;obtain⟨ρ,env,h',hE,r,p⟩:=aS;unfold Qo at p;rw[aak h]at p;exact ao r p
 |some e=>simp only[and_eq_true,not_eq_true']at h;refine(Jc (hi Γ k X cl EX e c h.2).1).imp λσ H Q aS=>?_;obtain⟨ρ,env,h',hE,r,p⟩:=aS;unfold Qo at p;rw[aam (by rw[h.1];exact aab)]at p;refine⟨ρ,env,h',hE,r,aC p λv h1 ρ1 x H1 g1 r1 q1 p1=>?_⟩;obtain⟨i,e1,p2⟩:=cH p1;cases C9 e1;rw[VR]at q1;exact⟨i,q1,ao r1 p2⟩
theorem N6{a lo hi:IE}(ha:cG Φ a)(hl:cG Φ lo)(hh:cG Φ hi):cG Φ (.slc a lo hi):=by
 intro Γ k X cl EX e c h;apply sP h;intro l q1 pos h;apply ES h;intro l' h' q2 p2 h;apply qX h;intro h;simp only[and_eq_true]at h;have q:PE X (.Subscript l (.Slice l' h' none p2) pos) (tV Φ (bd X cl) EX (.slc a lo hi)):=by refine(Ef (Nl (cl:=cl) (EX:=EX)) (ha Γ k X cl EX l c h.1.1).1 (wO hl c h.1.2) (wO hh c h.2)).imp λσ H Q aS=>?_;obtain⟨ρ,env,h,hE,r,p⟩:=aS;simp only[aB]at p;refine⟨ρ,env,h,hE,r,aC p λv h1 ρ1 x H1 g1 r1 q1 p1=>⟨ρ1,env,h1,hE.up g1,r1,bx (m:=Qo Φ lo env) p1 λlo' h2 ρ2 H2 g2 r2 p3=>⟨ρ2,env,h2,(hE.up g1).up g2,r2,bx (m:=Qo Φ hi env) p3 λhi' h3 ρ3 H3 g3 r3 p4=>?_⟩⟩⟩;exact⟨ρ3,h3,v,r3,VR.up (g2.trans g3) _ _ q1,p4⟩
 exact⟨q,cP q λ_=>rfl⟩
theorem N7(ha:cG Φ a)(hs:cG Φ sx):cG Φ (.rev a sx):=by
 intro Γ k X cl EX e c h;apply sP h;intro l q1 pos h;apply ES h;intro q2 q3 st p2 h;apply qX h;intro h;apply qX h;intro h;simp only[and_eq_true]at h;obtain⟨⟨h1,h2⟩,h3⟩:=h;obtain⟨st,rfl⟩:=Option.isSome_iff_exists.mp h2;have q:PE X (.Subscript l (.Slice none none (some st) p2) pos) (tV Φ (bd X cl) EX (.rev a sx)):=by refine(M9 (ha Γ k X cl EX l c h1).1 (wO hs c h3)).imp λσ H Q aS=>?_;obtain⟨ρ,env,h,hE,r,p⟩:=aS;simp only[aB]at p;refine⟨ρ,env,h,hE,r,aC p λv h1 ρ1 x H1 g1 r1 q1 p1=>⟨ρ1,env,h1,hE.up g1,r1,bx (m:=Qo Φ sx env) p1 λlo' h2 ρ2 H2 g2 r2 p3=>?_⟩⟩;obtain⟨e1,p4⟩:=aT p3;obtain⟨xs,e2,p5⟩:=aJ p4;obtain⟨ad,ys,rfl,k1,k2⟩:=fO r2 (VR.up g2 _ _ q1) e2;exact⟨aaB e1,ad,ys,rfl,k1,λq hq=>cU r2 hq (aD.rev k2) p5⟩
 exact⟨q,cP q λ_=>rfl⟩
theorem jA:∀{fK:nQ} {ls:List Expr} {vs:List Val} {h h':Hs},aX Γ fK ls=true->aF Φ fK env h=.ok vs h'->vs.length=ls.length:=by
 intro fK
 induction fK using nQ.rec (motive_1:=λ_=>True) with
 |nil=>
  intro ls ds h h' a b;rw[aX]at a;simp only[aF,ret]at b;cases b;cases ls with
  |nil=>rfl
  |cons _ _=>cases a
 |cons e es _ ih=>
  intro ls ds h h' a b;rw[aX.eq_def]at a;dsimp only at a;cases ls with
  |nil=>cases a
  |cons l ls=>
   simp only[and_eq_true]at a;simp only[aF,bnd]at b;cases e1:aB Φ e env h with
   |ok v h1=>
    rw[e1]at b;dsimp only at b;cases e2:aF Φ es env h1 with
    |ok vs h2=>rw[e2]at b;cases b;simp[ih a.2 e2]
    |exc _ _ _=>rw[e2]at b;cases b
    |no=>rw[e2]at b;cases b
   |exc _ _ _=>rw[e1]at b;cases b
   |no=>rw[e1]at b;cases b
 |_=>trivial
theorem gg{α β:Type}{W:β -> Hs->List Addr->Hp->Prop}{W':α -> Hs->List Addr->Hp->Prop}{m:M α}{f:α -> M β}(p:Post B EX ρ H W (bnd m f h))(k:∀v h1 ρ1 H1,m h=.ok v h1->Gr ρ H ρ1 H1->HR B ρ1 h1 H1->Post B EX ρ1 H1 W (f v h1)->W' v h1 ρ1 H1):Post B EX ρ H W' (m h):=by
 unfold bnd at p;cases e:m h with
 |ok v h1=>rw[e]at p;exact λρ1 H1 g r=>k v h1 ρ1 H1 e g r (Post.up g p)
 |exc c vs h1=>rw[e]at p;exact p
 |no=>rw[e]at p;exact p
theorem fh{α:Type}{h:Hs}{W:α -> Hs->List Addr->Hp->Prop}{o:Out α}(n:∀c xs H,¬ EX c xs H)(p:Post B EX ρ H W o):Post B (λ_ _ _=>False) ρ H W o:=by
 cases o with
 |ok a h'=>exact p
 |exc c vs h'=>exact λρ' H' xs g r q=>n _ _ _ (p ρ' H' xs g r q)
 |no=>exact p
theorem Bx{n c:Nat}{φ0:List Val->M Val}(r:HR B ρ h H)(hv:aD B.K ρ H vs xs)(hl:vs.length=n)(p:Post B (λ_ _ _=>False) ρ H (WV B.K Q) (EI c φ0 vs h))
  (nx:H x=none) (nd:H dx=none) (ne:dx≠x):wN B (n+1) φ0 (.ref x::xs) (upd (upd H dx (.own x)) x (.ins (B.cl c) dx [])) (λv H2=>v=.non/\Q (.ref x) H2) E:=by
 have r1:HR B ρ h (upd H dx (.own x)):=r.side nd;have Xf:(upd H dx (.own x)) x=none:=by rw[aR λz=>ne z.symm];exact nx
 have g:Gr ρ H (ρ ++ [x]) (upd (upd H dx (.own x)) x (.ins (B.cl c) dx [])):=(Gr.side nd).trans (Gr.new Xf);have r2:HR B (ρ ++ [x]) (h++[.ins c []]) (upd (upd H dx (.own x)) x (.ins (B.cl c) dx [])):=r1.new Xf ⟨dx,[],bE,rfl⟩;have hx:(ρ ++ [x])[h.length]?=some x:=by rw[<-r.len];simp
 refine⟨ρ ++ [x],h++[.ins c []],.ref h.length::vs,by simp[hl],r2,aD.cons (VR.ref hx) (aD.up g _ _ hv),?_⟩;have p2:Post B (λ_ _ _=>False) (ρ ++ [x]) (upd (upd H dx (.own x)) x (.ins (B.cl c) dx [])) (WV B.K Q) (bnd (φ0 (.ref h.length::vs)) (λr=>match r with|.non=>ret (.ref h.length)|_=>bM none) (h++[.ins c []])):=Post.up g p;refine bx p2 λv h1 ρ1 H1 g1 r3 p3 y hy=>?_;cases v<;>first|exact p3.elim|skip
 rw[VR]at hy;exact⟨hy,ao r3 p3 _ (VR.ref (wK g1.pre hx))⟩
theorem JQ{j:Nat}{k:Nat}(hs:kJ Φ es)(c:Ctx Φ Γ k X cl EX)
  (h:(yI Γ.sc x && Γ.fns[j]?==some (x,args.length)&&decide (args.length<1000)&&aX Γ es args)=true):PE X (.Call (.Name x p) args [] pos) (tV Φ (bd X cl) EX (.call j es))/\PT X (.Call (.Name x p) args [] pos) (tT Φ (bd X cl) EX (.call j es)):=by
 simp only[and_eq_true,beq_iff_eq,decide_eq_true_eq]at h;obtain⟨⟨⟨h1,h2⟩,h3⟩,h4⟩:=h;obtain⟨g1,g2,g3⟩:=c.gl h1;have room:eZ k X.A:=c.room.mono (le_succ k);have q:PE X (.Call (.Name x p) args [] pos) (tV Φ (bd X cl) EX (.call j es)):=by
  rcases c.fns j x _ h2 with ⟨_,⟨f,fd,ps,f1,f2,f3,f4,f5⟩|⟨cc,f,fd,ps,φ0,f0,f1,f2,f3,f4,f5⟩⟩|⟨z,_⟩
  ·cases args with
   |nil=>
    cases es with
    |cons i fK=>rw[aX.eq_def]at h4;cases h4
    |nil=>refine(Eb f5 room g1 f2 f3 f4 .nil rX g2).imp λσ H Q aS=>?_;obtain⟨ρ,env,h,hE,r,p⟩:=aS;simp only[aB,aF,dI]at p;exact⟨ρ,h,[],rfl,r,aD.nil,fh (h:=h) c.mU p⟩
   |cons l ls=>
    cases es with
    |nil=>rw[aX]at h4;cases h4
    |cons i fK=>have h5:=h4;rw[aX.eq_def]at h5;dsimp only at h5;simp only[and_eq_true]at h5;refine(IZ f5 room g1 f2 f3 f4 .nil rX (hs.1 Γ k X cl EX _ c h4) g2 (bF h5.1.1) (gH h5.2)).imp λσ H Q aS=>?_;obtain⟨ρ,env,h,hE,r,p⟩:=aS;simp only[aB]at p;refine⟨ρ,env,h,hE,r,gg p λvs h1 ρ1 H1 e1 g1 r1 p1 xs q1=>⟨ρ1,h1,vs,jA h4 e1,r1,by rw[aaM];exact q1,fh (h:=h1) c.mU p1⟩⟩
  ·cases args with
   |nil=>
    cases es with
    |cons i fK=>rw[aX.eq_def]at h4;cases h4
    |nil=>refine(Ec f3 f5 c.room g1 f2 f4 .nil rX g2).imp λσ H Q aS=>?_;obtain⟨ρ,env,h,hE,r,p⟩:=aS;simp only[aB,aF,dI]at p;intro y dy ny VU VW;rw[f0]at p;exact Bx (B:=bd X cl) r aD.nil rfl (fh (h:=h) c.mU p) ny VU VW
   |cons l ls=>
    cases es with
    |nil=>rw[aX]at h4;cases h4
    |cons i fK=>have h5:=h4;rw[aX.eq_def]at h5;dsimp only at h5;simp only[and_eq_true]at h5;refine(I0 f3 f5 c.room g1 f2 f4 .nil rX (hs.1 Γ k X cl EX _ c h4) g2 (bF h5.1.1) (gH h5.2)).imp λσ H Q aS=>?_;obtain⟨ρ,env,h,hE,r,p⟩:=aS;simp only[aB]at p;refine⟨ρ,env,h,hE,r,gg p λvs h1 ρ1 H1 e1 g1 r1 p1 xs q1 y dy ny VU VW=>?_⟩;rw[f0]at p1;rw[aaM];exact Bx (B:=bd X cl) r1 q1 (jA h4 e1) (fh (h:=h1) c.mU p1) ny VU VW
  ·omega
 exact⟨q,cP q λ_=>rfl⟩
theorem JR{j:Nat}{k:Nat}(hs:kJ Φ es)(c:Ctx Φ Γ k X cl EX)
  (h:(yI Γ.sc x && Γ.tb.Iu.contains (x,m,j)&&(match Γ.fns[j]? with|some (_,n)=>n==1000+args.length|none=>false)&&decide (args.length<29)&&ap.endLine==cp.line&&aX Γ es args && !args.isEmpty)=true) :
  PE X (.Call (.Attribute (.Name x p) m ap) args [] cp) (tV Φ (bd X cl) EX (.call j es))/\PT X (.Call (.Attribute (.Name x p) m ap) args [] cp) (tT Φ (bd X cl) EX (.call j es)):=by
 simp only[and_eq_true,beq_iff_eq,decide_eq_true_eq,contains_iff_mem]at h;obtain⟨⟨⟨⟨⟨⟨h1,h2⟩,h3⟩,h4⟩,h5⟩,h6⟩,h7⟩:=h;obtain⟨g1,g2,g3⟩:=c.gl h1;obtain⟨C,hm,cm⟩:=c.Iu _ h2;have hf:∃xx,Γ.fns[j]?=some (xx,1000+args.length):=by
  cases ef:Γ.fns[j]? with
  |none=>rw[ef]at h3;cases h3
  |some q=>rw[ef]at h3;obtain⟨q1,q2⟩:=q;exact⟨q1,by rw[show q2=_ from eq_of_beq h3]⟩
 obtain⟨xx,hf⟩:=hf;have room:eZ k X.A:=c.room.mono (le_succ k)
 rcases c.fns j xx _ hf with ⟨z,_⟩|⟨_,fd,ps,f1,f4,f5⟩
 ·omega
 rw[show 1000+args.length-1000=args.length by omega]at f5;have few:((backTo cp (starEach args X.env)).all (λx=>!x.1)&&(backToKw cp (keywordEach [] X.env)).all (λx=>x.1.isSome)
   && decide (args.length+([]:List Keyword).length+(if ([]:List Keyword).isEmpty then 0 else 1)<30))=true:=by
  rw[sS h6];simp only[Bool.true_and,and_eq_true];exact⟨rfl,decide_eq_true (by simp;omega)⟩
 have hl:(ap.endLine==cp.line)=true:=by rw[h5];exact beq_self_eq_true _
 have q:PE X (.Call (.Attribute (.Name x p) m ap) args [] cp) (tV Φ (bd X cl) EX (.call j es)):=by
  cases args with
  |nil=>exact absurd h7 (by simp)
  |cons l ls=>
   cases es with
   |nil=>rw[aX]at h6;cases h6
   |cons i fK=>have h8:=h6;rw[aX.eq_def]at h8;dsimp only at h8;simp only[and_eq_true]at h8;refine(Nb (k:=k) f5 room g1 hm cm f4 (hs.1 Γ k X cl EX _ c h6) g2 few hl (bF h8.1.1) (gH h8.2)).imp λσ H Q aS=>?_;obtain⟨ρ,env,h,hE,r,p⟩:=aS;simp only[aB]at p;refine⟨ρ,env,h,hE,r,gg p λvs h1 ρ1 H1 e1 g1 r1 p1 xs q1=>⟨ρ1,h1,vs,jA h6 e1,r1,q1,fh (h:=h1) c.mU p1⟩⟩
 exact⟨q,cP q λ_=>rfl⟩
theorem JS{j:Nat}(hs:kJ Φ es):cG Φ (.call j es):=by
 intro Γ k X cl EX e c h
 rcases VS h with h|h
 ·apply kI h;intro x _ args _ h;exact JQ hs c h
 ·apply EZ h;intro q1 m ap args cp h;apply lQ h;intro x _ h;exact JR hs c h
theorem N8{n:Nat}(ha:cG Φ a):cG Φ (.fld n a x):=by
 intro Γ k X cl EX e c h;apply wM h;intro o y pos h;simp only[and_eq_true,beq_iff_eq,contains_iff_mem]at h;obtain⟨⟨⟨⟨h1,h2⟩,h3⟩,h4⟩,h5⟩:=h;subst h1;have q:PE X (.Attribute o x pos) (tV Φ (bd X cl) EX (.fld n a x)):=by
  refine(pe_fld (ha Γ k X cl EX o c h5).1 (super_ok h2)).imp λσ H Q aS=>?_;obtain⟨ρ,env,h,hE,r,p⟩:=aS;simp only[aB]at p;refine⟨ρ,env,h,hE,r,aC p λv h1 ρ1 y H1 g1 r1 q1 p1=>?_⟩;obtain⟨z,e1,w⟩:=dY r1 p1;cases v<;>first|(cases e1;done)|(rw[VR]at q1;exact q1.elim)|skip
  rename_i i;rw[VR]at q1;obtain⟨ad,rfl,q1⟩:=q1;have hx:∃c0 fs,h1[i]?=some (.ins c0 fs)/\c0<n/\fs.lookup x=some z:=by
   change (match h1[i]? with|some (.ins c fs)=>if c<n then fs.lookup x else none|_=>none)=some z at e1;split at e1
   ·rename_i c0 fs e2
    split at e1
    ·rename_i hc;exact⟨c0,fs,e2,hc,e1⟩
    ·cases e1
   ·cases e1
  obtain⟨c0,fs,e2,hc,e3⟩:=hx;obtain⟨dx,gs,k1,k2⟩:=r1.ob i _ ad e2 q1;obtain⟨y,l1,l2⟩:=k2.look.2 z e3;obtain⟨cc,nn⟩:=c.cls c0 (by omega);exact⟨ad,cl c0,dx,gs,y,rfl,k1,cc,nn x h4,l1,w y l2⟩
 exact⟨q,cP q λ_=>rfl⟩
theorem yK:∀{js:List (Nat×Nat)} {c j:Nat},js.lookup c=some j->(c,j)∈js
 | (a,b)::r,c,j,e=>by
  rw[aaV]at e;cases hb:c==a with
  |true=>rw[hb]at e;cases e;rw[eq_of_beq hb];exact aag
  |false=>rw[hb]at e;exact aac _ (yK e)
theorem N9(ha:cG Φ a)(hs:kJ Φ es):cG Φ (.mth a m js es):=by
 intro Γ k X cl EX e c h;apply EZ h;intro o x ap args cp h;simp only[and_eq_true,beq_iff_eq,all_eq_true,decide_eq_true_eq,contains_iff_mem]at h;obtain⟨⟨⟨⟨⟨⟨h1,h2⟩,h3⟩,h4⟩,h5⟩,h6⟩,h7⟩:=h;subst h1;have few:((backTo cp (starEach args X.env)).all (λx=>!x.1)&&(backToKw cp (keywordEach [] X.env)).all (λx=>x.1.isSome)
   && decide (args.length+([]:List Keyword).length+(if ([]:List Keyword).isEmpty then 0 else 1)<30))=true:=by
  rw[sS h7];simp only[Bool.true_and,and_eq_true];exact⟨rfl,decide_eq_true (by simp;omega)⟩
 have hl:(ap.endLine==cp.line)=true:=by rw[h4];exact beq_self_eq_true _
 have room:eZ k X.A:=c.room.mono (le_succ k);have main:∀(σ:L2.St) (H:Hp) (Q:VK) (v:Val) (h1:Hs) (ρ1:List Addr) (y:V) (H1:Hp) (F:Nat->M Val),HR (bd X cl) ρ1 h1 H1->VR X.K ρ1 H1 v y->Post (bd X cl) EX ρ1 H1 (WV X.K Q) (bnd (ask λh=>nV h v x js) F h1) ->
   ∃j i ad c0 dx gs fd ps,v=.ref i/\y=.ref ad/\H1 ad=some (.ins (cl c0) dx gs)/\DH X.K (cl c0)/\Meth X.K (cl c0) x (cl (1000+j))/\gs.lookup x=none/\Binds X.K fd ps [] /\
    fZ X.prog X.w X.K X.mg X.base zW k (cl (1000+j)) fd ps (wN (bd X cl) (1+args.length) (Φ j))/\Post (bd X cl) EX ρ1 H1 (WV X.K Q) (F j h1):=by
  intro σ H Q v h1 ρ1 y H1 F r1 q1 p1;obtain⟨j,e1,p2⟩:=aJ p1;cases v<;>first|(cases e1;done)|(rw[VR]at q1;exact q1.elim)|skip
  rename_i i;rw[VR]at q1;obtain⟨ad,rfl,q1⟩:=q1;have hx:∃c0 fs,h1[i]?=some (.ins c0 fs)/\fs.lookup x=none/\js.lookup c0=some j:=by
   change (match h1[i]? with|some (.ins c fs)=>if (fs.lookup x).isNone=true then js.lookup c else none|_=>none)=some j at e1;split at e1
   ·rename_i c0 fs e2
    split at e1
    ·rename_i hc;exact⟨c0,fs,e2,by simpa using hc,e1⟩
    ·cases e1
   ·cases e1
  obtain⟨c0,fs,e2,hn,e3⟩:=hx;obtain⟨dx,gs,k1,k2⟩:=r1.ob i _ ad e2 q1;obtain⟨⟨m1,m2⟩,m3⟩:=h5 _ (yK e3);dsimp only at m1 m2 m3;have cc:=(c.cls c0 m1).1;have mm:=c.JL _ m2;dsimp only at mm;have hf:∃xx,Γ.fns[j]?=some (xx,1001+args.length):=by
   cases ef:Γ.fns[j]? with
   |none=>rw[ef]at m3;cases m3
   |some q=>rw[ef]at m3;obtain⟨q1,q2⟩:=q;exact⟨q1,by rw[show q2=_ from eq_of_beq m3]⟩
  obtain⟨xx,hf⟩:=hf
  rcases c.fns j xx _ hf with ⟨z,_⟩|⟨_,fd,ps,f1,f4,f5⟩
  ·omega
  ·rw[show 1001+args.length-1000=1+args.length by omega]at f5;exact⟨j,i,ad,c0,dx,gs,fd,ps,rfl,rfl,k1,cc,mm,k2.look.1 hn,f4,f5,p2⟩
 have q:PE X (.Call (.Attribute o x ap) args [] cp) (tV Φ (bd X cl) EX (.mth a x js es)):=by
  cases args with
  |nil=>
   cases es with
   |cons i fK=>rw[aX.eq_def]at h7;cases h7
   |nil=>refine(pe_mth0 (k:=k) (ha Γ k X cl EX o c h6).1 (super_ok h2) hl room).imp λσ H Q aS=>?_;obtain⟨ρ,env,h,hE,r,p⟩:=aS;simp only[aB,aF,dI]at p;refine⟨ρ,env,h,hE,r,aC p λv h1 ρ1 y H1 g1 r1 q1 p1=>?_⟩;obtain⟨j,i,ad,c0,dx,gs,fd,ps,rfl,rfl,k1,cc,mm,k2,f4,f5,p2⟩:=main σ H Q v h1 ρ1 y H1 _ r1 q1 p1;exact⟨ad,cl c0,dx,gs,cl (1000+j),fd,ps,_,rfl,k1,cc,mm,k2,f4,f5,ρ1,h1,[.ref i],rfl,r1,aD.cons q1 aD.nil,fh (h:=h1) c.mU p2⟩
  |cons l ls=>
   cases es with
   |nil=>rw[aX]at h7;cases h7
   |cons i fK=>have h8:=h7;rw[aX.eq_def]at h8;dsimp only at h8;simp only[and_eq_true]at h8;refine(pe_mthD (k:=k) (ha Γ k X cl EX o c h6).1 (hs.1 Γ k X cl EX _ c h7) (super_ok h2) few hl room (bF h8.1.1) (gH h8.2)).imp λσ H Q aS=>?_;obtain⟨ρ,env,h,hE,r,p⟩:=aS;simp only[aB]at p;refine⟨ρ,env,h,hE,r,aC p λv h1 ρ1 y H1 g1 r1 q1 p1=>?_⟩;obtain⟨j,i,ad,c0,dx,gs,fd,ps,rfl,rfl,k1,cc,mm,k2,f4,f5,p2⟩:=main σ H Q v h1 ρ1 y H1 _ r1 q1 p1;refine⟨ad,cl c0,dx,gs,cl (1000+j),fd,ps,_,rfl,k1,cc,mm,k2,f4,f5,ρ1,env,h1,hE.up g1,r1,gg p2 λvs h2 ρ2 H2 e4 g2 r2 p3 xs q2=>?_⟩;refine⟨ρ2,h2,.ref i::vs,?_,r2,aD.cons (VR.up g2 _ _ q1) q2,fh (h:=h2) c.mU p3⟩;rw[aaE,jA h7 e4];omega
 exact⟨q,cP q λ_=>rfl⟩
end
section
variable {Φ:Fn} {Γ:uh} {k:Nat} {X:Cx} {cl:Nat->Addr} {EX:Nat->List V->Hp->Prop}
theorem Oa:bootBuiltins "all" = some (.builtin "all"):=by decide +kernel
theorem Oc:bootBuiltins "any" = some (.builtin "any"):=by decide +kernel
theorem lR:bootBuiltins "sorted" = some (.builtin "sorted"):=by decide +kernel
theorem Od:bootBuiltins "min" = some (.builtin "min"):=by decide +kernel
theorem Oe:bootBuiltins "max" = some (.builtin "max"):=by decide +kernel
theorem wQ:bootBuiltins "list" = some (.type "list"):=by decide +kernel
theorem yL:bootBuiltins "tuple" = some (.type "tuple"):=by decide +kernel
theorem E9:bootBuiltins "str" = some (.type "str"):=by decide +kernel
theorem Fb:bootBuiltins "int" = some (.type "int"):=by decide +kernel
theorem JT:bootBuiltins "bool" = some (.type "bool"):=by decide +kernel
theorem JU:bootBuiltins "dict" = some (.type "dict"):=by decide +kernel
theorem JV:bootBuiltins "isinstance" = some (.builtin "isinstance"):=by decide +kernel
theorem yM:aF Φ #[e] env=bnd (aB Φ e env) λd=>ret [d]:=by
 simp only[aF,dI]
theorem six{T:String}(h:["list","tuple","str","bool","int","dict"].contains T=true):T = "list" \/ T = "tuple" \/ T = "str" \/ T = "bool" \/ T = "int" \/ T = "dict":=by simpa using h
theorem JW{T:String}(h:["list","tuple","str","bool","int","dict"].contains T=true):(T:Str)∈bltNames/\bootBuiltins (T:Str)=some (.type T)/\(T:Str) ≠ "__name__" /\ ((T:Str)==("__debug__":Str))=false:=by
 rcases six h with rfl|rfl|rfl|rfl|rfl|rfl
 ·exact⟨by decide,wQ,by decide,by decide⟩
 ·exact⟨by decide,yL,by decide,by decide⟩
 ·exact⟨by decide,E9,by decide,by decide⟩
 ·exact⟨by decide,JT,by decide,by decide⟩
 ·exact⟨by decide,Fb,by decide,by decide⟩
 ·exact⟨by decide,JU,by decide,by decide⟩
theorem JX{T:String}(hs:kJ Φ es):cG Φ (.blt (.isin T) es):=by
 intro Γ k X cl EX e c h;apply kI h;intro x p args pos h;simp only[and_eq_true,beq_iff_eq]at h;obtain⟨⟨h1,h2⟩,h3⟩:=h;subst h2;obtain⟨g1,g2,g3⟩:=c.gl h1;split at h3<;>first|cases h3|skip
 rename_i a y yp;simp only[and_eq_true,beq_iff_eq]at h3;obtain⟨⟨⟨k1,k2⟩,k3⟩,k4⟩:=h3;obtain⟨b1,b2,b3,b4⟩:=JW k3;obtain⟨y1,y2,y3⟩:=c.gl k1;subst k2;cases es with
 |nil=>rw[aX]at k4;cases k4
 |cons i fK=>
  rw[aX.eq_def]at k4;dsimp only at k4;simp only[and_eq_true]at k4;cases fK with
  |cons j fK=>have:=k4.2;rw[aX.eq_def]at this;cases this
  |nil=>
   have q:PE X (.Call (.Name (RU (.isin T)) p) [a,.Name (T:Str) yp] [] pos) (tV Φ (bd X cl) EX (.blt (.isin T) #[i])):=by refine(iF (JF (cl:=cl) (EX:=EX) (T:=T)) g1 (c.blt _ (show ("isinstance":Str)∈bltNames by decide)) JV (wm (hs.2.1 Γ k X cl EX a c k4.1.2).1 (wm (II (v:=.ty T) y1 (c.blt _ b1) b2 rfl b3 b4) Ea) (bF k4.1.1)) g3 g2 (bF k4.1.1)).imp λσ H Q aS=>?_;obtain⟨ρ,env,h,hE,r,p⟩:=aS;simp only[aB,yM,bz,dI]at p;exact⟨ρ,env,h,hE,r,aC p λv h1 ρ1 x H1 g1 r1 q1 p1=>⟨ρ1,h1,v,x,rfl,r1,q1,p1⟩⟩
   exact⟨q,cP q λ_=>rfl⟩
theorem Fc:bootBuiltins "set" = some (.type "set"):=by decide +kernel
theorem JY(ha:cG Φ a):cG Φ (.sset a):=by
 intro Γ k X cl EX e c h;apply kI h;intro x p1 q1 pos1 h;apply ni h;intro q2 h;apply kI h;intro y p2 q3 pos2 h;apply ni h;intro l h;simp only[and_eq_true,beq_iff_eq]at h;obtain⟨⟨⟨⟨⟨h1,h2⟩,h3⟩,h4⟩,h5⟩,h6⟩:=h;subst h1;subst h2;have q:PE X (.Call (.Name "sorted" p1) [.Call (.Name "set" p2) [l] [] pos2] [] pos1) (tV Φ (bd X cl) EX (.sset a)):=by have qe:=(ha Γ k X cl EX l c h6).1;intro pins s σ H Q I hh;have hd:X.A.handled=none:=I.ok.hd c.calm;refine((Jw hd (c.gl h3).1 (c.blt _ (by decide)) (c.gl h4).1 (c.blt _ (by decide)) lR Fc qe (bF (env:=X.env) (es:=[]) h5)).imp λσ H Q ⟨ρ,env,h,hE,r,p⟩=>?_) pins s σ H Q I hh;simp only[aB]at p;refine⟨ρ,env,h,hE,r,aC p λv h1 ρ1 x H1 g1 r1 q1 p1=>?_⟩;obtain⟨zs,e,p1⟩:=aJ p1;obtain⟨ns,e1,p1⟩:=cH p1;obtain⟨e2,p1⟩:=aT p1;obtain⟨b,ys,rfl,q2,q3⟩:=fO r1 q1 e;rw[iz e1]at q3;rw[aD.ints.mp q3]at q2;exact⟨b,ns,rfl,q2,aaB e2,λl hl=>cU r1 hl (aD.ints.mpr rfl) p1⟩
 exact⟨q,cP q λ_=>rfl⟩
theorem JZ{d k x:IE}(hd:cG Φ d)(hk:cG Φ k)(hx:cG Φ x):cG Φ (.dget d k x):=pI λ_ _=>rfl
theorem By{K:Frag}{ρ:List Addr}{H:Hp}:∀{kvs:List (Key×Val)} {ks:List (Key×V)},iQ K ρ H kvs ks->aD K ρ H ((kvs.map (·.1)).map EH) (ks.map λkv=>kV kv.1)
 |[],ks,q=>by rw[iQ]at q;subst q;exact rfl
 | (k,v)::kvs,ks,q=>by
  rw[iQ]at q;obtain⟨x,r,rfl,_,q⟩:=q;refine⟨kV k,_,rfl,?_,By q⟩;cases k with
  |inl i=>exact VR.int
  |inr s=>exact VR.str
theorem Dc{rM:Unit}:∀(σ:L2.St) (H:Hp) (Q:VK),tV Φ (bd X cl) EX (.lkeys d) σ H Q->W9 (tV Φ (bd X cl) EX d) σ H Q:=λσ H Q ⟨ρ,env,h,hE,r,p⟩=>by
 simp only[aB]at p;refine⟨ρ,env,h,hE,r,aC p λv h1 ρ1 y H1 g1 r1 q1 p1=>?_⟩;obtain⟨VX,e1,pA⟩:=aJ p1;clear p1;cases v<;>first|(cases e1;done)|(rw[VR]at q1;exact q1.elim)|skip
 rename_i i;rw[VR]at q1;obtain⟨ad,rfl,q1⟩:=q1;have hdc:∃kvs,h1[i]?=some (.dct kvs)/\VX=kvs.map (·.1):=by
  change (match h1[i]? with|some (.dct kvs)=>some (kvs.map (·.1))|_=>none)=some _ at e1;split at e1
  ·rename_i kvs e2;cases e1;exact⟨kvs,e2,rfl⟩
  ·cases e1
 obtain⟨kvs,e2,rfl⟩:=hdc;obtain⟨ks,k1,k2⟩:=r1.ob i _ ad e2 q1;exact⟨ad,ks,rfl,k1,λl hl=>cU r1 hl (By k2) pA⟩
theorem Fd(hd:cG Φ d):cG Φ (.lkeys d):=by
 intro Γ n X cl EX e c h
 ·apply kI h;intro x p q1 pos h
  apply ni h;intro q2 h;apply lQ h;intro y qp h;simp only[and_eq_true,beq_iff_eq]at h;obtain⟨⟨h1,h3⟩,h6⟩:=h;subst h1;have q:PE X (.Call (.Name "list" p) [.Name y qp] [] pos) (tV Φ (bd X cl) EX (.lkeys d)):=by have qe:=(hd Γ n X cl EX _ c h6).1;intro pins s σ H Q I hh;have hdl:X.A.handled=none:=I.ok.hd c.calm;exact((CY hdl (bF rfl) (c.gl h3).1 (c.blt _ (by decide)) wQ qe).imp (Dc (rM:=()))) pins s σ H Q I hh
  exact⟨q,cP q λ_=>rfl⟩
theorem J0{d k x:IE}(hd:cG Φ d)(hk:cG Φ k)(hx:cG Φ x):cG Φ (.sdef d k x):=pI λ_ _=>rfl
theorem BA{K:Frag}{ρ:List Addr}{H:Hp}:∀{kvs:List (Key×Val)} {ks:List (Key×V)},iQ K ρ H kvs ks->ks.map (·.1)=kvs.map (·.1)
 |[],ks,q=>by rw[iQ]at q;subst q;rfl
 | (k,v)::kvs,ks,q=>by
  rw[iQ]at q;obtain⟨x,r,rfl,_,q⟩:=q;rw[aaq,aaq,BA q]
theorem BB:∀{ks:List Key} {ns:List Int},vf ks=some ns->ks=ns.map Sum.inl
 |[],ns,e=>by cases e;rfl
 | k::ks,ns,e=>by
  unfold vf at e;rw[cM]at e;obtain⟨i,e1,e⟩:=aad.mp e;obtain⟨r,e2,e⟩:=aad.mp e;cases e;cases k with
  |inl j=>cases e1;rw[BB e2];rfl
  |inr _=>cases e1
theorem vj{rM:Unit}:∀(σ:L2.St) (H:Hp) (Q:VK),tV Φ (bd X cl) EX (.skeys d) σ H Q->Xa (tV Φ (bd X cl) EX d) σ H Q:=λσ H Q ⟨ρ,env,h,hE,r,p⟩=>by
 simp only[aB]at p;refine⟨ρ,env,h,hE,r,aC p λv h1 ρ1 y H1 g1 r1 q1 p1=>?_⟩;obtain⟨ns0,e1,pA⟩:=aJ p1;clear p1;unfold mZ at e1;obtain⟨VX,e5,e6⟩:=aad.mp e1;clear e1;obtain⟨ns,e3,e4⟩:=aad.mp e6;clear e6;have e1:=e5;clear e5;cases v<;>first|(cases e1;done)|(rw[VR]at q1;exact q1.elim)|skip
 rename_i i;rw[VR]at q1;obtain⟨ad,rfl,q1⟩:=q1;have hdc:∃kvs,h1[i]?=some (.dct kvs)/\VX=kvs.map (·.1):=by
  change (match h1[i]? with|some (.dct kvs)=>some (kvs.map (·.1))|_=>none)=some _ at e1;split at e1
  ·rename_i kvs e2;cases e1;exact⟨kvs,e2,rfl⟩
  ·cases e1
 obtain⟨kvs,e2,rfl⟩:=hdc;obtain⟨ks,k1,k2⟩:=r1.ob i _ ad e2 q1
 by_cases hl:ns.length<64
 ·rw[aak hl]at e4;cases e4;exact⟨ad,ks,ns,rfl,k1,(BA k2).trans (BB e3),hl,λl hl=>cU r1 hl (aD.ints.mpr rfl) pA⟩
 ·rw[aam hl]at e4;cases e4
theorem Fe(hd:cG Φ d):cG Φ (.skeys d):=by
 intro Γ n X cl EX e c h
 rcases VS h with h|h
 ·apply kI h;intro x p q1 pos h
  apply ni h;intro q2 h;apply lQ h;intro y qp h;simp only[and_eq_true,beq_iff_eq]at h;obtain⟨⟨h1,h3⟩,h6⟩:=h;subst h1;have q:PE X (.Call (.Name "sorted" p) [.Name y qp] [] pos) (tV Φ (bd X cl) EX (.skeys d)):=by have qe:=(hd Γ n X cl EX _ c h6).1;intro pins s σ H Q I hh;have hdl:X.A.handled=none:=I.ok.hd c.calm;exact((vd hdl (bF rfl) (c.gl h3).1 (c.blt _ (by decide)) lR qe).imp (vj (rM:=()))) pins s σ H Q I hh
  exact⟨q,cP q λ_=>rfl⟩
 ·apply kI h;intro x p q1 pos h
  apply ni h;intro q2 h;apply sP h;intro y y2 qp h;simp only[and_eq_true,beq_iff_eq]at h;obtain⟨⟨h1,h3⟩,h6⟩:=h;subst h1;have q:PE X (.Call (.Name "sorted" p) [.Subscript y y2 qp] [] pos) (tV Φ (bd X cl) EX (.skeys d)):=by have qe:=(hd Γ n X cl EX _ c h6).1;intro pins s σ H Q I hh;have hdl:X.A.handled=none:=I.ok.hd c.calm;exact((vd hdl (bF rfl) (c.gl h3).1 (c.blt _ (by decide)) lR qe).imp (vj (rM:=()))) pins s σ H Q I hh
  exact⟨q,cP q λ_=>rfl⟩
theorem Of:bootBuiltins "len" = some (.builtin "len"):=by decide +kernel
theorem Ff(ha:cG Φ a):cG Φ (.svals a):=by
 intro Γ k X cl EX e c h;apply kI h;intro x p1 q1 pos1 h;apply ni h;intro q2 h;apply kI h;intro y p2 q3 pos2 h;apply ni h;intro l h;simp only[and_eq_true,beq_iff_eq]at h;obtain⟨⟨⟨⟨⟨h1,h2⟩,h3⟩,h4⟩,h5⟩,h6⟩:=h;subst h1;subst h2;have q:PE X (.Call (.Name "len" p1) [.Call (.Name "set" p2) [l] [] pos2] [] pos1) (tV Φ (bd X cl) EX (.svals a)):=by have qe:=(ha Γ k X cl EX l c h6).1;intro pins s σ H Q I hh;have hd:X.A.handled=none:=I.ok.hd c.calm;refine((Jy hd (c.gl h3).1 (c.blt _ (by decide)) (c.gl h4).1 (c.blt _ (by decide)) Of Fc qe (bF (env:=X.env) (es:=[]) h5)).imp λσ H Q ⟨ρ,env,h,hE,r,p⟩=>?_) pins s σ H Q I hh;simp only[aB]at p;refine⟨ρ,env,h,hE,r,aC p λv h1 ρ1 x H1 g1 r1 q1 p1=>?_⟩;obtain⟨zs,e,p1⟩:=aJ p1;obtain⟨ns,e1,p1⟩:=cH p1;obtain⟨e2,p1⟩:=aT p1;obtain⟨b,ys,rfl,q2,q3⟩:=fO r1 q1 e;rw[iz e1]at q3;rw[aD.ints.mp q3]at q2;exact⟨b,ns,rfl,q2,aaB e2,ao r1 p1 _ VR.int⟩
 exact⟨q,cP q λ_=>rfl⟩
theorem Og(hs:kJ Φ es):cG Φ (.blt b es):=by
 cases b with
 |isin T=>exact JX hs
 |_=>
  intro Γ k X cl EX e c h;apply kI h;intro x p args pos h;simp only[and_eq_true,beq_iff_eq]at h;obtain⟨⟨h1,h2⟩,h3⟩:=h;subst h2;obtain⟨g1,g2,g3⟩:=c.gl h1;cases args with
  |nil=>cases h3.1
  |cons l ls=>
   cases es with
   |nil=>have:=h3.2;rw[aX]at this;cases this
   |cons i fK=>
    have h5:=h3.2;rw[aX.eq_def]at h5;dsimp only at h5;simp only[and_eq_true]at h5;have hA:=hs.1 Γ k X cl EX _ c h3.2;have st:=bF (env:=X.env) (es:=ls) h5.1.1;have an:=gH (pos:=pos) (env:=X.env) h5.2;refine(λq=>⟨q,cP q λ_=>rfl⟩) ?_
    first
     |refine(iF (Nn (cl:=cl) (EX:=EX)) g1 (c.blt _ (by decide)) PySem.boot_len hA g3 g2 st an).imp λσ H Q ⟨ρ,env,h,hE,r,p⟩=>?_
     |refine(iF (Np (cl:=cl) (EX:=EX) c.calm) g1 (c.blt _ (by decide)) Od hA g3 g2 st an).imp λσ H Q ⟨ρ,env,h,hE,r,p⟩=>?_
     |refine(iF (Nq (cl:=cl) (EX:=EX) c.calm) g1 (c.blt _ (by decide)) Oe hA g3 g2 st an).imp λσ H Q ⟨ρ,env,h,hE,r,p⟩=>?_
     |refine(iF (C1 (cl:=cl) (EX:=EX)) g1 (c.blt _ (by decide)) lR hA g3 g2 st an).imp λσ H Q ⟨ρ,env,h,hE,r,p⟩=>?_
     |refine(iF (Nu (cl:=cl) (EX:=EX) c.calm) g1 (c.blt _ (by decide)) Oa hA g3 g2 st an).imp λσ H Q ⟨ρ,env,h,hE,r,p⟩=>?_
     |refine(iF (Nv (cl:=cl) (EX:=EX) c.calm) g1 (c.blt _ (by decide)) Oc hA g3 g2 st an).imp λσ H Q ⟨ρ,env,h,hE,r,p⟩=>?_
     |refine(lK (JD (cl:=cl) (EX:=EX)) g1 (c.blt _ (by decide)) wQ hA g3 g2 st an).imp λσ H Q ⟨ρ,env,h,hE,r,p⟩=>?_
     |refine(lK (EO (cl:=cl) (EX:=EX)) g1 (c.blt _ (by decide)) yL hA g3 g2 st an).imp λσ H Q ⟨ρ,env,h,hE,r,p⟩=>?_
     |refine(lK (Nr (cl:=cl) (EX:=EX)) g1 (c.blt _ (by decide)) E9 hA g3 g2 st an).imp λσ H Q ⟨ρ,env,h,hE,r,p⟩=>?_
     |refine(lK (Nt (cl:=cl) (EX:=EX)) g1 (c.blt _ (by decide)) Fb hA g3 g2 st an).imp λσ H Q ⟨ρ,env,h,hE,r,p⟩=>?_
    simp only[aB]at p;exact⟨ρ,env,h,hE,r,bx p λvs h1 ρ1 H1 g1 r1 p1 xs q1=>⟨ρ1,h1,vs,r1,q1,p1⟩⟩
def Xg:Me->String
 |.join=>"str" | .append=>"list" | .extend=>"list" | .remove=>"list" | .pop=>"list"
theorem J1(r:HR B ρ h H)(q:VR B.K ρ H v x)(e:recv h m v=some ()):Vr B.K (Xg m) x H:=by
 cases m<;>cases v<;>simp only[recv]at e<;>first|cases e|skip
 ·rw[VR]at q;subst q;rfl
 all_goals
  split at e
  ·rename_i xs e1;obtain⟨a,ys,rfl,q0,q1,q2⟩:=nX r q e1;exact .inl ⟨rfl,ys,.inl (.inl q1)⟩
  ·cases e
theorem Oh(ha:cG Φ a)(hs:kJ Φ es):cG Φ (.met m a es):=by
 intro Γ k X cl EX e c h;apply EZ h;intro o x ap args cp h;simp only[and_eq_true,beq_iff_eq]at h;obtain⟨⟨⟨⟨⟨⟨h1,h2⟩,h3⟩,h4⟩,h5⟩,h6⟩,h7⟩:=h;subst h1;cases args with
 |nil=>cases h3
 |cons l ls=>
  have hA:=hs.1 Γ k X cl EX _ c h7;have h8:noStar l=true/\∃fK,aX Γ fK ls=true:=by
   cases es with
   |nil=>rw[aX]at h7;cases h7
   |cons i fK=>rw[aX.eq_def]at h7;dsimp only at h7;simp only[and_eq_true]at h7;exact⟨h7.1.1,fK,h7.2⟩
  obtain⟨n1,fK,n2⟩:=h8;have st:=bF (env:=X.env) (es:=ls) n1;have an:=gH (pos:=cp) (env:=X.env) n2;have few:((backTo cp (starEach (l::ls) X.env)).all (λx=>!x.1)&&(backToKw cp (keywordEach [] X.env)).all (λx=>x.1.isSome)
   && decide ((l::ls).length+([]:List Keyword).length+(if ([]:List Keyword).isEmpty then 0 else 1)<30))=true:=by
   rw[sS h7];have:(l::ls).length<29:=aaB h4;simp only[Bool.true_and,and_eq_true];exact⟨rfl,decide_eq_true (by simp at this |-;omega)⟩
  have hl:(ap.endLine==cp.line)=true:=by rw[h5];exact beq_self_eq_true _
  refine(λq=>⟨q,cP q λ_=>rfl⟩) ?_;have fin:∀(T:String) (r:V->List V->Hp->VK->Prop),(∀x xs H Q,Qm (bd X cl) EX m x xs H Q->r x xs H Q)->T=Xg m->∀σ H Q,tV Φ (bd X cl) EX (.met m a es) σ H Q->WW X.K T r (tV Φ (bd X cl) EX a) (Xe Φ (bd X cl) EX es) σ H Q:=by rintro T rr hr rfl σ H Q ⟨ρ,env,h,hE,r,p⟩;simp only[aB]at p;refine⟨ρ,env,h,hE,r,aC p λv h1 ρ1 x H1 g1 r1 q1 p1=>?_⟩;obtain⟨_,e1,p2⟩:=aJ p1;refine⟨J1 r1 q1 e1,ρ1,env,h1,hE.up g1,r1,bx p2 λvs h2 ρ2 H2 g2 r2 p3 xs q2=>hr _ _ _ _ ⟨ρ2,h2,v,vs,r2,VR.up g2 _ _ q1,q2,p3⟩⟩
  cases m with
  |join=>exact(yc PySem.F.plainAttrs_str PySem.F.slot_str_join PySem.F.type_str_join (JG (cl:=cl) (EX:=EX)) (ha Γ k X cl EX o c h6).1 hA (super_ok h2) few hl st an).imp (fin _ _ (λ_ _ _ _ z=>z) rfl)
  |append=>exact(yc PySem.F.plainAttrs_list PySem.F.slot_list_append PySem.F.type_list_append (C2 (cl:=cl) (EX:=EX)) (ha Γ k X cl EX o c h6).1 hA (super_ok h2) few hl st an).imp (fin _ _ (λ_ _ _ _ z=>z) rfl)
  |extend=>exact(yc PySem.F.plainAttrs_list PySem.F.slot_list_extend PySem.F.type_list_extend (C3 (cl:=cl) (EX:=EX)) (ha Γ k X cl EX o c h6).1 hA (super_ok h2) few hl st an).imp (fin _ _ (λ_ _ _ _ z=>z) rfl)
  |remove=>exact(yc PySem.F.plainAttrs_list PySem.F.slot_list_remove PySem.F.type_list_remove (C4 (cl:=cl) (EX:=EX)) (ha Γ k X cl EX o c h6).1 hA (super_ok h2) few hl st an).imp (fin _ _ (λ_ _ _ _ z=>z) rfl)
  |pop=>exact(yc PySem.F.plainAttrs_list PySem.F.slot_list_pop PySem.F.type_list_pop (Nx (cl:=cl) (EX:=EX)) (ha Γ k X cl EX o c h6).1 hA (super_ok h2) few hl st an).imp (fin _ _ (λ_ _ _ _ z=>z) rfl)
end
theorem _root_.L2.PI.or(h:PI X tg iter t)(h':PI X tg iter t'):PI X tg iter (λσ H R=>t σ H R\/t' σ H R):=λpins s σ H R I hw=>hw.elim (h pins s σ H R I) (h' pins s σ H R I)
structure Walks (B:Bd) (src:Src) (J:It) (ρ1:List Addr) (H1:Hp):Prop where
 stop:∀{ρ h H i xs},Gw ρ1 H1 ρ H->HR B ρ h H->src.items h=some xs->xs.length<=i->J.stop i H
 go:∀{ρ h H i xs v},Gw ρ1 H1 ρ H->HR B ρ h H->src.items h=some xs->xs[i]?=some v->J.go i H
 DG:∀{ρ h H i xs v y H'},Gw ρ1 H1 ρ H->HR B ρ h H->src.items h=some xs->xs[i]?=some v->J.DG i H y H'->Gr ρ H ρ H'/\HR B ρ h H'/\VR B.K ρ H' v y
section
variable {B:Bd} {ρ1:List Addr} {H1:Hp} {a:Addr}
theorem Dd(q:mD B.K H1 a xs)(e:aD B.K ρ1 H1 vs xs):Walks B (.fix vs) (Vd B.K a) ρ1 H1 where
 stop:=λg r hi hl=>by
  cases hi;exact⟨xs,g.Ux q,by rw[<-e.length];exact hl⟩
 go:=λg r hi hv=>by
  cases hi;obtain⟨x,k1,_⟩:=e.get hv;exact⟨xs,x,g.Ux q,k1⟩
 DG:=λg r hi hv y=>by
  cases hi;obtain⟨rfl,y⟩:=y;obtain⟨x,k1,k2⟩:=e.get hv;have:=y xs (g.Ux q);rw[k1]at this;cases this;exact⟨Gr.refl,r,VR.mH g _ _ k2⟩
theorem Fg(q:Nf B.K H1 a xs)(e:aD B.K ρ1 H1 vs xs):Walks B (.fix vs) (Uk B.K a) ρ1 H1 where
 stop:=λg r hi hl=>by
  cases hi;exact⟨xs,(g.Uy q).sq,by rw[<-e.length];exact hl⟩
 go:=λg r hi hv=>by
  cases hi;obtain⟨x,k1,_⟩:=e.get hv;exact⟨xs,x,(g.Uy q).sq,k1⟩
 DG:=λg r hi hv y=>by
  cases hi;obtain⟨rfl,y⟩:=y;obtain⟨x,k1,k2⟩:=e.get hv;have:=y xs (g.Uy q).sq;rw[k1]at this;cases this;exact⟨Gr.refl,r,VR.mH g _ _ k2⟩
theorem wR{i:Nat}(q:ρ1[i]?=some a)(g:Gw ρ1 H1 ρ H)(r:HR B ρ h H)(hi:(Src.live i).items h=some xs):∃ys,j4 B.K H a ys/\aD B.K ρ H xs ys:=by
 obtain⟨b,ys,e,k1,k2⟩:=fO r (VR.ref (wK g.pre q)) (show aI h (.ref i)=some xs from hi);cases e;exact⟨ys,k1,k2⟩
theorem AE{i:Nat}(q:ρ1[i]?=some a):Walks B (.live i) (Uk B.K a) ρ1 H1 where
 stop:=λg r hi hl=>by
  obtain⟨ys,k1,k2⟩:=wR q g r hi;exact⟨ys,k1,by rw[<-k2.length];exact hl⟩
 go:=λg r hi hv=>by
  obtain⟨ys,k1,k2⟩:=wR q g r hi;obtain⟨x,k3,_⟩:=k2.get hv;exact⟨ys,x,k1,k3⟩
 DG:=λg r hi hv y=>by
  obtain⟨ys,k1,k2⟩:=wR q g r hi;obtain⟨rfl,y⟩:=y;obtain⟨x,k3,k4⟩:=k2.get hv;have:=y ys k1;rw[k3]at this;cases this;exact⟨Gr.refl,r,k4⟩
theorem je(lo:Int)(n:Nat):(bH lo n).length=n:=by unfold bH;simp
theorem qt{lo:Int}{n:Nat}:Walks B (.fix (bH lo n)) (QW lo n) ρ1 H1 where
 stop:=λg r hi hl=>by
  cases hi;rw[je]at hl;exact hl
 go:=λg r hi hv=>by
  cases hi;have:=(aah.mp hv).1;rw[je]at this;exact this
 DG:=λ{ρ h H i xs v y H'} g r hi hv y'=>by
  cases hi;obtain⟨rfl,rfl⟩:=y';have hl:=(aah.mp hv).1;rw[je]at hl;have e:(bH lo n)[i]?=some (.int (lo+i)):=by unfold bH;simp[hl]
  rw[e]at hv;cases hv;exact⟨Gr.refl,r,VR.int⟩
end
section
variable {Φ:Fn} {Γ:uh} {k:Nat} {X:Cx} {cl:Nat->Addr} {EX:Nat->List V->Hp->Prop}
def Qp(Φ:Fn)(ik:Ik)(it:nQ)(env:Env):M Src:=bnd (aF Φ it env) λits=>bM (srcOf ik its)
def tI(Φ:Fn)(B:Bd)(EX:Nat->List V->Hp->Prop)(ik:Ik)(it:nQ):TI:=λσ H R=>∃ρ env h,dH B.K ρ env σ H/\HR B ρ h H /\
 Post B EX ρ H (λsrc h' ρ' H'=>(∃xs,src.items h'=some xs)/\∀J,Walks B src J ρ' H'->R J H') (Qp Φ ik it env h)
theorem LI(hs:kJ Φ it)(c:Ctx Φ Γ k X cl EX)(h:Bv Γ ik it iter=true)(ht:ik=.enum\/ik=.zip->∃es kk pos,tg=.Tuple es kk pos):PI X tg iter (tI Φ (bd X cl) EX ik it)/\∀x,foldedSetIterable iter X.env x=pure x:=by
 cases it with
 |nil=>rw[Bv]at h;cases h
 |cons e es=>
  cases ik with
  |seq=>
   replace h:=NQ h;obtain⟨rfl,h⟩:=h;simp only[and_eq_true]at h;have q:=(hs.2.1 Γ k X cl EX iter c h.2).1;refine⟨((IT q).or (MB q)).imp λσ H R ⟨ρ,env,h,hE,r,p⟩=>?_,λx=>?_⟩
   ·simp only[Qp,yM,bz,dI]at p
    have key:∀(Q:VK),(∀v h1 ρ1 x H1,aB Φ e env h=.ok v h1->Gr ρ H ρ1 H1->HR (bd X cl) ρ1 h1 H1->VR X.K ρ1 H1 v x->Post (bd X cl) EX ρ1 H1 (λsrc h' ρ' H'=>(∃xs,src.items h'=some xs)/\∀J,Walks (bd X cl) src J ρ' H'->R J H') (bM (srcOf .seq [v]) h1)->Q x H1)->tV Φ (bd X cl) EX e σ H Q:=λQ kk=>
     ⟨ρ,env,h,hE,r,gg p λv h1 ρ1 H1 e1 g1 r1 p1 x q1=>kk v h1 ρ1 x H1 e1 g1 r1 q1 p1⟩
    cases ev:aB Φ e env h with
    |ok v h1=>
     cases v with
     |tup vs=>refine .inr (key _ λv h1 ρ1 x H1 e1 g1 r1 q1 p1=>?_);rw[ev]at e1;cases e1;obtain⟨src,e2,w1,w2⟩:=gf r1 p1;cases e2;rw[VR]at q1;obtain⟨a,xs,rfl,k1,k2⟩:=q1;exact⟨a,rfl,⟨xs,k1⟩,w2 _ (Dd k1 k2)⟩
     |rl vs=>refine .inl (key _ λv h1 ρ1 x H1 e1 g1 r1 q1 p1=>?_);rw[ev]at e1;cases e1;obtain⟨src,e2,w1,w2⟩:=gf r1 p1;cases e2;rw[VR]at q1;obtain⟨a,xs,rfl,k1,k2⟩:=q1;exact⟨a,rfl,⟨xs,k1.sq⟩,w2 _ (Fg k1 k2)⟩
     |ref i=>refine .inl (key _ λv h1 ρ1 x H1 e1 g1 r1 q1 p1=>?_);rw[ev]at e1;cases e1;obtain⟨src,e2,⟨zs,w1⟩,w2⟩:=gf r1 p1;cases e2;have q0:=q1;rw[VR]at q1;obtain⟨a,rfl,k1⟩:=q1;obtain⟨b,ys,e3,k2,k3⟩:=fO r1 q0 (show aI h1 (.ref i)=some zs from w1);cases e3;exact⟨a,rfl,⟨ys,k2⟩,w2 _ (AE k1)⟩
     |_=>refine .inl (key _ λv h1 ρ1 x H1 e1 g1 r1 q1 p1=>?_);rw[ev]at e1;cases e1;obtain⟨src,e2,_⟩:=gf r1 p1;cases e2
    |exc _ _ _=>exact .inl (key _ λv h1 ρ1 x H1 e1=>by rw[ev]at e1;cases e1)
    |no=>exact .inl (key _ λv h1 ρ1 x H1 e1=>by rw[ev]at e1;cases e1)
   ·cases iter<;>first|rfl|(exact absurd h.1 aab)
  |range=>
   apply kI h;intro x xp q1 pos h;apply C6 h;intro a args h;simp only[and_eq_true,beq_iff_eq]at h;obtain⟨⟨⟨⟨⟨h1,h2⟩,h3⟩,h4⟩,h5⟩,h6⟩:=h;subst h1;obtain⟨g1,g2,g3⟩:=c.gl h2;have hm:=c.blt _ (show ("range":Str)∈bltNames by decide);refine⟨?_,λx=>rfl⟩;have hA:=hs.1 Γ k X cl EX (a::args) c (by rw[aX.eq_def];simp[h3,h4,h5]);cases args with
   |nil=>
    cases es with
    |cons i fK=>rw[aX.eq_def]at h5;cases h5
    |nil=>
     refine(Cw g1 hm hA (bF h3)).imp λσ H R aS=>?_;obtain⟨ρ,env,h,hE,r,p⟩:=aS;refine⟨ρ,env,h,hE,r,gg p λvs h1 ρ1 H1 e1 Zd r1 p1 xs q1=>?_⟩;obtain⟨src,e2,w1,w2⟩:=gf r1 p1
     match vs,e2 with
     |[.int n],e2=>
      change (if inR n=true then some (Src.fix (bH 0 n.toNat)) else none)=some src at e2;split at e2
      ·rename_i hn;cases e2;simp only[inR,and_eq_true,decide_eq_true_eq]at hn;obtain⟨x,rfl,hx⟩:=aD.one q1;rw[VR]at hx;subst hx;exact⟨n,rfl,hn.1,hn.2,w2 _ qt⟩
      ·cases e2
     |[.int _,.int _],e2=>have:=jA (Γ:=Γ) (ls:=[a]) (by rw[aX.eq_def];simp[h3,h4,aX]) e1;simp at this
   |cons b args=>
    cases args with
    |cons _ _=>have:=aaB h6;simp only[length_cons]at this;omega
    |nil=>
     have hb:noStar b=true:=by
      cases es with
      |nil=>rw[aX]at h5;cases h5
      |cons i fK=>rw[aX.eq_def]at h5;dsimp only at h5;simp only[and_eq_true]at h5;exact h5.1.1
     refine(Cy g1 hm hA (by rw[bF h3,bF hb];rfl) (by rw[bF hb];rfl)).imp λσ H R aS=>?_;obtain⟨ρ,env,h,hE,r,p⟩:=aS;refine⟨ρ,env,h,hE,r,gg p λvs h1 ρ1 H1 e1 Zd r1 p1 xs q1=>?_⟩;obtain⟨src,e2,w1,w2⟩:=gf r1 p1
     match vs,e2 with
     |[.int _],e2=>have:=jA (Γ:=Γ) (ls:=[a,b]) (by rw[aX.eq_def];simp[h3,h4,h5]) e1;simp at this
     |[.int lo,.int hi],e2=>
      change (if (inR lo&&inR hi)=true then some (Src.fix (bH lo (hi-lo).toNat)) else none)=some src at e2;split at e2
      ·rename_i hn;cases e2;simp only[inR,and_eq_true,decide_eq_true_eq]at hn;obtain⟨x,y,rfl,hx,hy⟩:=aD.two q1;rw[VR]at hx;rw[VR]at hy;subst hx;subst hy;exact⟨lo,hi,rfl,⟨hn.1.1,hn.1.2,hn.2.1,hn.2.2⟩,w2 _ qt⟩
      ·cases e2
  |enum=>cases h
  |zip=>cases h
end
section
variable {Φ:Fn} {Γ:uh} {k:Nat} {X:Cx} {cl:Nat->Addr} {EX:Nat->List V->Hp->Prop}
def sU:List Nat->Qj
 |[]=>QT
 |i::is=>Lo (uI i) (sU is)
def De(K:Frag):Bf->TG
 |.one i=>uI i
 |.tup is=>QU K is.length (sU is)
def jf:List Nat->List V->L2.St->L2.St
 |i::is,v::vs,σ=>jf is vs (σ.set i (some v))
 |_,_,σ=>σ
theorem pK:∀{is:List Nat} {vs:List V} {σ:L2.St} {H:Hp} {Q:L2.St->Hp->Prop},vs.length=is.length->Q (jf is vs σ) H->sU is vs σ H Q
 |[],[],_,_,_,_,h=>⟨rfl,h⟩
 |i::is,v::vs,σ,H,Q,hl,h=>⟨v,vs,rfl,pK (by simpa using hl) h⟩
theorem vo(hnd:X.N.Nodup):∀{is:List Nat} {es:List Expr},es.length=is.length->(∀p∈is.zip es,∃x pos,p.2=.Name x pos/\X.N[p.1]?=some x/\X.env.scope.names.lookup x=some .local)->Qk X es (sU is)
 |[],[],_,_=>AW
 | i::is,e::es,hl,h=>by
  obtain⟨x,pos,rfl,h1,h2⟩:=h (i,e) (by simp);exact xZ (qT hnd h1 (.inl h2) (.inr h2)) (vo hnd (by simpa using hl) λp hp=>h p (by simp[hp]))
theorem iI:∀{es:List Expr},(∀e∈es,∃x pos,e=.Name x pos)->(assignEach es env).length=es.length/\(assignEach es env).findIdx? (·.1)=none
 |[],_=>⟨rfl,rfl⟩
 | e::es,h=>by
  obtain⟨x,pos,rfl⟩:=h e aag;obtain⟨h1,h2⟩:=iI (env:=env) (es:=es) λe he=>h e (aac _ he);have e1:assignEach (Expr.Name x pos::es) env=(false,assign (Expr.Name x pos) env)::assignEach es env:=rfl;rw[e1];refine⟨by simp[h1],?_⟩;rw[List.findIdx?_cons,h2];rfl
theorem Fi{i:Nat}(h:C7 Γ (.one i) tg=true):∃x p,tg=.Name x p:=by
 cases tg<;>first|exact⟨_,_,rfl⟩|exact absurd h aab
theorem yN{is:List Nat}(h:C7 Γ (.tup is) tg=true):∃es k p,tg=.Tuple es k p:=by
 cases tg<;>first|exact⟨_,_,_,rfl⟩|exact absurd h aab
theorem Oi(c:Ctx Φ Γ k X cl EX)(hnd:X.N.Nodup)(h:C7 Γ pat tg=true):PG X tg (De X.K pat):=by
 cases pat with
 |one i=>obtain⟨x,xp,rfl⟩:=Fi h;simp only[C7,and_eq_true,beq_iff_eq]at h;obtain⟨h1,h2⟩:=h;exact qT hnd (by rw[c.N];exact h1) (.inl (by rw[c.sc];exact h2)) (.inr (by rw[c.sc];exact h2))
 |tup is=>
  obtain⟨es,kk,pos,rfl⟩:=yN h
  ·
   simp only[C7,and_eq_true,beq_iff_eq,all_eq_true]at h;obtain⟨h1,h2⟩:=h;have names:∀p∈is.zip es,∃x pos,p.2=.Name x pos/\X.N[p.1]?=some x/\X.env.scope.names.lookup x=some .local:=λp hp=>by
    have q:=h2 p hp;cases ep:p.2<;>rw[ep]at q<;>simp at q;rename_i x pos';exact⟨x,pos',rfl,by rw[c.N];exact q.1,by rw[c.sc];exact q.2⟩
   have all:∀e∈es,∃x pos,e=.Name x pos:=λe he=>by
    obtain⟨n,hn,rfl⟩:=getElem_of_mem he;have hm:(is[n]'(by omega),es[n])∈is.zip es:=List.mem_iff_getElem?.mpr ⟨n,by rw[List.getElem?_zip_eq_some];simp[hn]⟩;obtain⟨x,pos,q,_⟩:=names _ hm;exact⟨x,pos,q⟩
   obtain⟨l1,l2⟩:=iI (env:=X.env) all;exact DX c.calm (vo hnd h1 names) (by rw[l1,h1]) l2
def yO(Γ:uh):Bf->Expr->Bool
 |.one i,.Name x _=>Γ.N[i]?==some x&&(Γ.sc.names.lookup x==some .local || Γ.sc.names.lookup x==some .cell)
 | .tup is,.Tuple es _ _=>es.length==is.length&&(is.zip es).all λp=>match p.2 with
  |.Name x _=>Γ.N[p.1]?==some x&&(Γ.sc.names.lookup x==some .local || Γ.sc.names.lookup x==some .cell)
  |_=>false
 |_,_=>false
theorem sV(hfn:∀x,X.fn x=true)(hnd:X.N.Nodup):∀{is:List Nat} {es:List Expr},es.length=is.length->(∀p∈is.zip es,∃x pos,p.2=.Name x pos/\X.N[p.1]?=some x/\Loc X.env.scope x)->Qk X es (sU is)
 |[],[],_,_=>AW
 | i::is,e::es,hl,h=>by
  obtain⟨x,pos,rfl,h1,h2⟩:=h (i,e) (by simp);exact xZ (qT hnd h1 h2 (.inl (hfn x))) (sV hfn hnd (by simpa using hl) λp hp=>h p (by simp[hp]))
theorem sW{i:Nat}(h:yO Γ (.one i) tg=true):∃x p,tg=.Name x p:=by
 cases tg<;>first|exact⟨_,_,rfl⟩|exact absurd h aab
theorem nY{is:List Nat}(h:yO Γ (.tup is) tg=true):∃es k p,tg=.Tuple es k p:=by
 cases tg<;>first|exact⟨_,_,_,rfl⟩|exact absurd h aab
theorem BC(c:Ctx Φ Γ k X cl EX)(hfn:∀x,X.fn x=true)(hnd:X.N.Nodup)(h:yO Γ pat tg=true):PG X tg (De X.K pat):=by
 have loc:∀x,(Γ.sc.names.lookup x==some .local || Γ.sc.names.lookup x==some .cell)=true->Loc X.env.scope x:=λx e=>by
  unfold L2.Loc;rw[c.sc];simpa using e
 cases pat with
 |one i=>obtain⟨x,pos,rfl⟩:=sW h;simp only[yO,and_eq_true,beq_iff_eq]at h;obtain⟨h1,h2⟩:=h;exact qT hnd (by rw[c.N];exact h1) (loc _ h2) (.inl (hfn _))
 |tup is=>
  obtain⟨es,kk,pos,rfl⟩:=nY h
  ·
   simp only[yO,and_eq_true,beq_iff_eq,all_eq_true]at h;obtain⟨h1,h2⟩:=h;have names:∀p∈is.zip es,∃x pos,p.2=.Name x pos/\X.N[p.1]?=some x/\Loc X.env.scope x:=λp hp=>by
    have q:=h2 p hp;cases ep:p.2<;>rw[ep]at q<;>first|cases q|skip
    rename_i x pos';simp only[and_eq_true,beq_iff_eq]at q;exact⟨x,pos',rfl,by rw[c.N];exact q.1,loc _ q.2⟩
   have all:∀e∈es,∃x pos,e=.Name x pos:=λe he=>by
    obtain⟨n,hn,rfl⟩:=getElem_of_mem he;have hm:(is[n]'(by omega),es[n])∈is.zip es:=List.mem_iff_getElem?.mpr ⟨n,by rw[List.getElem?_zip_eq_some];simp[hn]⟩;obtain⟨x,pos,q,_⟩:=names _ hm;exact⟨x,pos,q⟩
   obtain⟨l1,l2⟩:=iI (env:=X.env) all;exact DX c.calm (sV hfn hnd h1 names) (by rw[l1,h1]) l2
theorem dH.set{K:Frag}{ρ:List Addr}{env:Env}{σ:L2.St}{H:Hp}{i:Nat}{v:Val}{x:V}(e:dH K ρ env σ H)(hl:env.length = σ.length)(q:VR K ρ H v x):dH K ρ (env.set i (some v)) (σ.set i (some x)) H:=λj w hj=>by
 by_cases hij:i=j
 ·subst hij
  have hi:i<env.length:=by have:=(aah.mp hj).1;simpa using this
  rw[aan hi]at hj;cases hj;exact⟨x,by rw[aan (by rw[<-hl];exact hi)],q⟩
 ·rw[aaf hij]at hj;rw[aaf hij];exact e j w hj
theorem nj{K:Frag}{ρ:List Addr}{H:Hp}:∀{is:List Nat} {ds:List Val} {xs:List V} {env env':Env} {σ:L2.St},bindAll is ds env=some env'->aD K ρ H ds xs->dH K ρ env σ H->env.length = σ.length->dH K ρ env' (jf is xs σ) H/\env'.length=(jf is xs σ).length/\(jf is xs σ).length = σ.length/\xs.length=is.length
 | [],[],xs,env,env',σ,e,q,hE,hl=>by
  rw[aD]at q;subst q;simp only[bindAll]at e;cases e;exact⟨hE,hl,rfl,rfl⟩
 | i::is,d::ds,xs,env,env',σ,e,q,hE,hl=>by
  rw[aD]at q;obtain⟨x,r,rfl,q1,q2⟩:=q;simp only[bindAll]at e;obtain⟨a1,a2,a3,a4⟩:=nj e q2 (hE.set hl q1) (by simp[hl]);exact⟨a1,a2,by rw[show jf (i::is) (x::r) σ = jf is r (σ.set i (some x)) from rfl,a3];simp,by simp[a4]⟩
 |[],_::_,_,_,_,_,e,_,_,_=>by simp[bindAll]at e
 |_::_,[],_,_,_,_,e,_,_,_=>by simp[bindAll]at e
theorem BD{K:Frag}{ρ:List Addr}{H:Hp}{pat:Bf}{v:Val}{x:V}{env env':Env}{σ:L2.St}{Q:L2.St->Hp->Prop}(e:fN pat v env=some env')(q:VR K ρ H v x)(hE:dH K ρ env σ H)(hl:env.length = σ.length)
  (kk:∀σ',dH K ρ env' σ' H->env'.length = σ'.length -> σ'.length = σ.length->Q σ' H):De K pat x σ H Q:=by
 cases pat with
 |one i=>simp only[fN]at e;cases e;exact kk _ (hE.set hl q) (by simp[hl]) (by simp)
 |tup is=>
  cases v<;>simp only[fN]at e<;>first|cases e|skip
  rw[VR]at q;obtain⟨a,xs,rfl,q1,q2⟩:=q;obtain⟨a1,a2,a3,a4⟩:=nj e q2 hE hl;exact⟨a,xs,rfl,q1,a4,pK a4 (kk _ a1 a2 a3)⟩
theorem lT{α β:Type}{W:β -> Hs->List Addr->Hp->Prop}{W':α -> Hs->List Addr->Hp->Prop}{m:M α}{f:α -> M β}(g:Gr ρ H ρ' H')(p:Post B EX ρ H W (bnd m f h))
  (kk:∀v h1 ρ2 H2,m h=.ok v h1->Post B EX ρ H W (f v h1)->Gr ρ' H' ρ2 H2->HR B ρ2 h1 H2->W' v h1 ρ2 H2):Post B EX ρ' H' W' (m h):=by
 unfold bnd at p;cases e:m h with
 |ok v h1=>rw[e]at p;exact λρ2 H2 g2 r2=>kk v h1 ρ2 H2 e p g2 r2
 |exc c vs h1=>rw[e]at p;exact λρ2 H2 xs g2 r2 q=>p ρ2 H2 xs (g.trans g2) r2 q
 |no=>rw[e]at p;exact p
theorem HR.adopt(r:HR B ρ h H)(hD:D ∉ ρ)(q:OR B (ρ ++ [D]) H D u):HR B (ρ ++ [D]) (h++[u]) H where
 len:=by simp[r.len]
 nd:=by rw[aaH];refine⟨r.nd,by simp,λa ha b hb=>?_⟩;rw[aap.mp hb];rintro rfl;exact hD ha
 ob i v a q1 q2:=by
  by_cases hi:i<h.length
  ·rw[aav hi]at q1;rw[aav (by rw[r.len];exact hi)]at q2;exact OR.mH ⟨aa7 _ _,λ_ _ e _=>e⟩ rfl (r.ob i v a q1 q2)
  ·rw[aaC (by omega)]at q1
   rw[aaC (by rw[r.len];omega)]at q2;have hi0:i-h.length=0:=by have:=(aah.mp q1).1;simp at this;omega
   rw[hi0]at q1;rw[r.len,hi0]at q2;simp at q1 q2;subst q1;subst q2;exact q
theorem Gr.over(g:Gr ρ H ρ' H')(hD:H D=none):Gr ρ H ρ' (upd H' D o) where
 pre:=g.pre
 keep a u e n:=by rw[aR (bf e hD)];exact g.keep a u e n
 firm a u e n:=by rw[aR (bf e hD)];exact g.firm a u e n
 fresh:=g.fresh
theorem Gr.adopt(g:Gr ρ H ρ' H')(hD:H D=none):Gr ρ H (ρ'++[D]) H' where
 pre:=g.pre.trans (aa7 _ _)
 keep:=g.keep
 firm:=g.firm
 fresh a z n:=by
  rcases aas.mp z with z|z
  ·exact g.fresh a z n
  ·rw[aap.mp z];exact hD
theorem J2{K:Frag}{ρ:List Addr}{env:Env}{σ:L2.St}{H:Hp}{js:List (Option Nat)}(e:dH K ρ env σ H):dH K ρ (kF js env) (jQ js σ) H:=λi v q=>by
 unfold kF at q;rw[aaF]at q;cases hj:js[i]? with
 |none=>rw[hj]at q;cases q
 |some o=>
  rw[hj]at q;simp only[map_some]at q;cases o with
  |none=>cases q
  |some j=>
   dsimp only at q;cases ej:env[j]? with
   |none=>rw[ej]at q;cases q
   |some w=>
    cases w with
    |none=>rw[ej]at q;cases q
    |some d=>rw[ej]at q;cases q;obtain⟨x,q1,q2⟩:=e j _ ej;refine⟨x,?_,q2⟩;unfold jQ;rw[aaF,hj];simp only[map_some];rw[q1]
theorem Fj{K:Frag}{ρ:List Addr}{env:Env}{σ σ':L2.St}{H:Hp}{js:List (Option Nat)}{pat:Bf}(hp:(yJ pat).all (λi=>js[i]?==some none)=true)(e:dH K ρ (kF js env) σ H)(hs:∀i,i∉yJ pat -> σ'[i]? = σ[i]?):dH K ρ (kF js env) σ' H:=λi v q=>by
 have hi:i∉yJ pat:=λz=>by
  have h1:=all_eq_true.mp hp i z;have h2:js[i]?=some none:=eq_of_beq h1;unfold kF at q;rw[aaF,h2]at q;cases q
 obtain⟨x,q1,q2⟩:=e i v q;exact⟨x,(hs i hi).trans q1,q2⟩
theorem sX:∀{is:List Nat} {xs:List V} {σ:L2.St} {i:Nat},i∉is->(jf is xs σ)[i]? = σ[i]?
 |[],xs,σ,i,_=>by cases xs<;>rfl
 |j::is,[],σ,i,_=>rfl
 | j::is,x::xs,σ,i,h=>by
  rw[show jf (j::is) (x::xs) σ = jf is xs (σ.set j (some x)) from rfl,sX λz=>h (aac _ z),aaf λz=>h (by rw[z];exact aag)]
theorem Fo{K:Frag}{ρ:List Addr}{H:Hp}{pat:Bf}{v:Val}{x:V}{env env':Env}{σ:L2.St}{Q:L2.St->Hp->Prop}(e:fN pat v env=some env')(q:VR K ρ H v x)(hE:dH K ρ env σ H)(hl:env.length = σ.length)
  (kk:∀σ',dH K ρ env' σ' H -> σ'.length = σ.length->(∀i,i∉yJ pat -> σ'[i]? = σ[i]?)->Q σ' H):De K pat x σ H Q:=by
 cases pat with
 |one i=>simp only[fN]at e;cases e;exact kk _ (hE.set hl q) (by simp) λj hj=>aaf λz=>hj (by rw[z];exact aap.mpr rfl)
 |tup is=>
  cases v<;>simp only[fN]at e<;>first|cases e|skip
  rw[VR]at q;obtain⟨a,xs,rfl,q1,q2⟩:=q;obtain⟨a1,a2,a3,a4⟩:=nj e q2 hE hl;exact⟨a,xs,rfl,q1,a4,pK a4 (kk _ a1 a3 λj hj=>sX hj)⟩
theorem sY(hs:kJ Φ it)(hc:cG Φ t)(he:cG Φ elt)(c:Ctx Φ Γ k X cl EX)(h:bL Γ (.comp N' js pat ik it t elt) e=true) :
  ∃e' tg iter ifs scope pos wi g tt te,e=.ListComp e' [⟨tg,iter,ifs,0⟩] scope pos/\lM X.N X.env.scope scope N' js=true/\PI X tg iter wi/\(∀cls C s H fp,PG (bS X scope N' cls C s H fp) tg g)/\(∀cls C s H fp,Jo (bS X scope N' cls C s H fp) ifs tt) /\
   (∀cls C s H fp,PE (bS X scope N' cls C s H fp) e' te)/\(∀x,foldedSetIterable iter X.env x=pure x)/\∀σ H Q,tV Φ (bd X cl) EX (.comp N' js pat ik it t elt) σ H Q->Ep wi js g tt te σ H Q:=by
 apply JH h;intro e' q1 scope pos h;apply ni h;intro q2 h;apply NH h;intro tg iter ifs q3 h;apply yH h;intro h;simp only[and_eq_true]at h;obtain⟨⟨⟨⟨⟨⟨⟨h1,h2⟩,h3⟩,h4⟩,h5⟩,h6⟩,h7⟩,h8⟩:=h;have hnd:N'.Nodup:=aaB h3;have hen:ik=.enum\/ik=.zip->∃es kk pos,tg=.Tuple es kk pos:=by
  intro hz;cases pat with
  |one i=>rcases hz with rfl|rfl<;>cases h6
  |tup is=>exact yN h4
 obtain⟨hi,hf⟩:=LI hs c h2 hen
 let tt:TT:=if dg t=true then yh else tT Φ (bd X cl) EX t
 have Vm:∀cls C s H fp,Jo (bS X scope N' cls C s H fp) ifs tt:=λcls C s H fp=>by
  have c':=c.LG scope N' cls C s H fp;cases ifs with
  |nil=>have:dg t=true:=h7;show Jo _ [] (if dg t=true then yh else tT Φ (bd X cl) EX t);rw[aak this];exact Jp
  |cons a r=>
   cases r with
   |cons _ _=>cases h7
   |nil=>simp only[and_eq_true,not_eq_true']at h7;show Jo _ [a] (if dg t=true then yh else tT Φ (bd X cl) EX t);rw[aam (by rw[h7.1];exact aab)];exact Jq (hc _ _ _ _ _ _ c' h7.2).2
 refine⟨e',tg,iter,ifs,scope,pos,_,De X.K pat,tt,tV Φ (bd X cl) EX elt,rfl,by rw[c.N,c.sc];exact h1,hi,λcls C s H fp=>Oi (c.LG scope N' cls C s H fp) hnd h4,Vm,λcls C s H fp=>(he _ _ _ _ _ _ (c.LG scope N' cls C s H fp) h8).1,hf,λσ H Q ⟨ρ,env,h,hE,r,p⟩=>?_⟩
 ·skip
  simp only[aB]at p
  let f:Val->M (Option Val):=λd=>bnd (bM (fN pat d (kF js env))) λenv'=>bnd (if dg t=true then ret true else bnd (aB Φ t env') λv=>ask λh=>cZ h v) λt=>
    if t=true then bnd (aB Φ elt env') λe=>ret (some e) else ret none
  have p':Post (bd X cl) EX ρ H (WV X.K Q) (bnd (Qp Φ ik it env) (λsrc=>bnd (ask λh=>src.items h) λxs=>az (decide (xs.length<=100000)) (bnd (gG src f xs.length 0 []) λys=>new (.lst ys))) h):=by unfold Qp;rw[bz];exact p
  refine⟨ρ,env,h,hE,r,bx p' λsrc h1 ρ1 H1 g1 r1 p1=>?_⟩;obtain⟨xs,e1,p2⟩:=aJ p1;obtain⟨e2,p3⟩:=aT p2;have e2:=aaB e2;refine⟨⟨xs,e1⟩,λJ wk D hD=>?_⟩;have hDl:(100000:Nat)<sizeLine:=by rw[sizeLine_eq];decide
  refine⟨λi m σ' H'=>∃ρ' h' acc ys,Gr ρ1 H1 ρ' H'/\HR (bd X cl) ρ' h' H'/\D ∉ ρ'/\H' D=some (.lst ys)/\aD X.K ρ' H' acc ys/\dH X.K ρ' (kF js env) σ' H' /\ σ'.length=js.length/\acc.length<=i/\i+m=xs.length /\
   Post (bd X cl) EX ρ1 H1 (WV X.K Q) (bnd (gG src f m i acc) (λys=>new (.lst ys)) h'),⟨xs.length,ρ1,h1,[],[],Gr.side hD,r1.side hD,r1.out hD,bE,aD.nil,(J2 (hE.up g1)).up (Gr.side hD),mF js σ,aao _,by omega,p3⟩,?_⟩
  rintro i m σ' H' ⟨ρ',h',acc,ys,w1,w2,w3,w4,w5,w6,w7,w8,w9,wU⟩;have fin:∀p:Post (bd X cl) EX ρ1 H1 (WV X.K Q) (new (.lst acc) h'),Q (.ref D) H':=λp=>by
   refine p (ρ'++[D]) H' (w1.adopt hD) (w2.adopt w3 ⟨ys,w4,aD.mH ⟨aa7 _ _,λ_ _ e _=>e⟩ _ _ w5⟩) _ (VR.ref (by rw[<-w2.len];simp))
  cases m with
  |zero=>
   simp only[gG,bz]at wU;obtain⟨xs',k1,wU⟩:=aJ wU;have RZ:Post (bd X cl) EX ρ1 H1 (WV X.K Q) (bnd (az (decide (xs'.length<=i)) (ret acc)) (λys=>new (.lst ys)) h'):=wU;unfold az at RZ
   by_cases hl:xs'.length<=i
   ·have:bnd (λh=>if decide (xs'.length<=i)=true then ret acc h else Out.no) (λys=>new (.lst ys)) h'=new (.lst acc) h':=by
     unfold bnd;dsimp only;rw[aak (decide_eq_true hl)];rfl
    rw[this] at RZ;exact .inl ⟨wk.stop w1.w w2 k1 hl,fin RZ⟩
   ·have:bnd (λh=>if decide (xs'.length<=i)=true then ret acc h else Out.no) (λys=>new (.lst ys)) h'=Out.no:=by
     unfold bnd;dsimp only;rw[aam (by rw[decide_eq_false hl];exact aab)]
    rw[this] at RZ;exact RZ.elim
  |succ m=>
   simp only[gG,bz]at wU;obtain⟨xs',k1,wU⟩:=aJ wU;cases hx:xs'[i]? with
   |none=>rw[hx]at wU;exact .inl ⟨wk.stop w1.w w2 k1 (List.getElem?_eq_none_iff.mp hx),fin wU⟩
   |some v=>
    rw[hx]at wU;dsimp only at wU;refine .inr ⟨wk.go w1.w w2 k1 hx,_,λCM Lv w=>⟨m,lt_succ_self _,w⟩,λy H2 hy=>?_⟩;obtain⟨z1,z2,z3⟩:=wk.DG w1.w w2 k1 hx hy;simp only[bz]at wU;simp only[f,bz]at wU;obtain⟨env',k2,wU⟩:=cH wU;refine Fo k2 z3 (w6.up z1) (by rw[w7];simp[kF]) λσ2 Uz hl2 hout=>?_;have Oj:H2 D=some (.lst ys):=z1.keep _ _ w4 w3;have G2:Gr ρ1 H1 ρ' H2:=w1.trans z1;have body:∀(b:Bool) (h3:Hs) (ρ3:List Addr) (H3:Hp),Gr ρ' H2 ρ3 H3->HR (bd X cl) ρ3 h3 H3->Post (bd X cl) EX ρ1 H1 (WV X.K Q) (bnd (if b=true then bnd (aB Φ elt env') λe=>ret (some e) else ret none) (λo=>bnd (gG src f m (i+1) (match o with|some e=>acc++[e]|none=>acc)) λys=>new (.lst ys)) h3) ->
      (if b=true then tV Φ (bd X cl) EX elt σ2 H3 (λy H4=>∃ys,H4 D=some (.lst ys)/\ys.length<sizeLine/\(λσ' H'=>∃ρ' h' acc ys,Gr ρ1 H1 ρ' H'/\HR (bd X cl) ρ' h' H'/\D ∉ ρ'/\H' D=some (.lst ys)/\aD X.K ρ' H' acc ys/\dH X.K ρ' (kF js env) σ' H' /\ σ'.length=js.length/\acc.length<=i+1/\i+1+m=xs.length /\
       Post (bd X cl) EX ρ1 H1 (WV X.K Q) (bnd (gG src f m (i+1) acc) (λys=>new (.lst ys)) h')) σ2 (upd H4 D (.lst (ys++[y]))))
      else (λσ' H'=>∃ρ' h' acc ys,Gr ρ1 H1 ρ' H'/\HR (bd X cl) ρ' h' H'/\D ∉ ρ'/\H' D=some (.lst ys)/\aD X.K ρ' H' acc ys/\dH X.K ρ' (kF js env) σ' H' /\ σ'.length=js.length/\acc.length<=i+1/\i+1+m=xs.length /\
       Post (bd X cl) EX ρ1 H1 (WV X.K Q) (bnd (gG src f m (i+1) acc) (λys=>new (.lst ys)) h')) σ2 H3):=by
     intro b h3 ρ3 H3 g3 r3 p5;have VY:D ∉ ρ3:=λz=>by have:=g3.fresh D z w3;rw[Oj]at this;cases this
     have Qq:H3 D=some (.lst ys):=g3.keep _ _ Oj w3;have E3:dH X.K ρ3 (kF js env) σ2 H3:=(Fj h5 (w6.up z1) hout).up g3;cases b with
     |true=>
      rw[aak rfl]at p5 |-;simp only[bz,dI]at p5;refine⟨ρ3,env',h3,Uz.up g3,r3,lT (G2.trans g3) p5 λv4 h4 ρ4 H4 _ p6 g4 r4 y4 q4=>?_⟩;have Xh:D ∉ ρ4:=λz=>by have:=g4.fresh D z VY;rw[Qq]at this;cases this
      have R0:H4 D=some (.lst ys):=g4.keep _ _ Qq VY;have gw:Gw ρ4 H4 ρ4 (upd H4 D (.lst (ys++[y4]))):=Gw.other R0 rfl;have la:=w5.length;refine⟨ys,R0,by omega,ρ4,h4,acc++[v4],ys++[y4],((G2.trans g3).trans g4).over hD,r4.other Xh R0 rfl,Xh,bE,aD.append (aD.mH gw _ _ (aD.up ((z1.trans g3).trans g4) _ _ w5)) (aD.mH gw _ _ (aD.cons q4 aD.nil)),(E3.up g4).mH gw,by rw[hl2,w7],by simp;omega,by omega,p6⟩
     |false=>rw[aam aab]at p5 |-;exact⟨ρ3,h3,acc,ys,G2.trans g3,r3,VY,Qq,aD.up (z1.trans g3) _ _ w5,E3,by rw[hl2,w7],by omega,by omega,p5⟩
    show (if dg t=true then yh else tT Φ (bd X cl) EX t) σ2 H2 _
    by_cases hn:dg t=true
    ·rw[aak hn];rw[aak hn,dI]at wU;exact body true h' ρ' H2 Gr.refl z2 wU
    ·rw[aam hn];rw[aam hn]at wU;exact⟨ρ',env',h',Uz,z2,lT G2 wU λb h3 ρ3 H3 _ p5 g3 r3=>body b h3 ρ3 H3 g3 r3 p5⟩
theorem J3(hs:kJ Φ it)(hc:cG Φ t)(he:cG Φ elt):cG Φ (.comp N' js pat ik it t elt):=by
 intro Γ k X cl EX e c h;obtain⟨e',tg,iter,ifs,scope,pos,wi,g,tt,te,rfl,h1,h2,h3,h4,h5,h6,h7⟩:=sY hs hc he c h;have q:=(Jr (pos:=pos) h1 c.calm h2 h3 h4 h5 h6).imp h7;exact⟨q,cP q λ_=>rfl⟩
theorem J4{k v:IE}(hk:cG Φ k)(hv:cG Φ v):cG Φ (.dct1 k v):=by
 intro Γ n X cl EX e c h;apply Bs h;intro q1 q2 pos h;apply ni h;intro q3 h;apply Bt h;intro a h;apply ni h;intro b h;simp only[and_eq_true]at h;have q:PE X (.Dict [some a] [b] pos) (tV Φ (bd X cl) EX (.dct1 k v)):=by
  refine(Jl (Ek (hk Γ n X cl EX a c h.1).1 (hv Γ n X cl EX b c h.2).1 Jk) rfl rfl (by simp) (by simp)).imp λσ H Q aS=>?_;obtain⟨ρ,env,h,hE,r,p⟩:=aS;intro D hD;have g0:Gr ρ H ρ (upd H D (.dK [])):=Gr.side hD;simp only[aB]at p;refine⟨ρ,env,h,hE.up g0,r.side hD,lT g0 p λx h1 ρ1 H1 _ p1 g1 r1 y1 q1=>?_⟩;obtain⟨kk,e1,p1⟩:=cH p1;refine⟨ρ1,env,h1,(hE.up g0).up g1,r1,lT (g0.trans g1) p1 λy h2 ρ2 H2 _ p2 g2 r2 y2 q2=>?_⟩;have Xi:D ∉ ρ:=r.out hD;have Oj:D ∉ ρ2:=λz=>by have:=(g1.trans g2).fresh D z Xi;rw[bE]at this;cases this
  have e2:H2 D=some (.dK []):=(g1.trans g2).keep D _ bE Xi;have ek:y1=kV kk:=by
   cases x<;>first|(cases e1;done)|skip
   ·cases e1;rw[VR]at q1;exact q1
   ·cases e1;rw[VR]at q1;exact q1
  refine⟨e2,[(kk,y2)],by rw[ek];rfl,by simp,?_⟩;have gw:Gw ρ2 H2 (ρ2++[D]) (upd H2 D (.dK (o7 [] [(kk,y2)]))):=⟨aa7 _ _,(Gw.other (ρ:=ρ2) e2 rfl).firm⟩;exact p2 (ρ2++[D]) _ ((((g0.trans g1).trans g2).over hD).adopt hD) ((r2.other Oj e2 rfl).adopt Oj ⟨[(kk,y2)],bE,y2,[],rfl,VR.mH gw _ _ q2,rfl⟩) _ (Bk r2)
 exact⟨q,cP q λ_=>rfl⟩
theorem J5{p q:Nat}:cG Φ (.dflt N' js p q d w):=pI λ_ _=>rfl
theorem Ol(ha:cG Φ a):cG Φ (.isc a x bs):=pI λ_ _=>rfl
theorem pM:(∀ir,cG Φ ir)/\∀fK,kJ Φ fK:=by
 have one:∀ir,cG Φ ir:=by
  intro ir;exact IE.rec (motive_1:=λir=>cG Φ ir) (motive_2:=λfK=>kJ Φ fK) (λ_=>NS) (λ_=>NT) (λ_ _=>NU) RX (λ_ _ _ a b=>NV a b) (λ_ a=>NW a) (λ_ _ _ a b=>NX a b) (λ_ _ _ _ _ a b c=>NY a b c)
   (λ_ _ a b=>NZ a b) (λ_ _ a b=>RY a b) (λ_ a=>N1 a) (λ_ _ _ a b c=>N2 a b c) (λ_ a=>N3 a) (λ_ a=>N4 a) (λ_ _ a b=>N5 a b) (λ_ _ _ a b c=>N6 a b c) (λ_ _ a=>JS a) (λ_ _ a=>Og a)
   (λ_ _ _ a b=>Oh a b) (λ_ _ _ _ _ _ _ a b c=>J3 a b c) JP (λ_ a=>JY a) (λ_ _ _ a b c=>JZ a b c) (λ_ _ a b=>J4 a b) (λ_ a=>Fd a) (λ_ _ _ a b c=>J0 a b c) (λ_ a=>Ff a) (λ_ a=>Fe a) (λ_ _ _ a=>N8 a) (λ_ _ _ _ a b=>N9 a b) (λ_ _ a b=>N7 a b) (λ_ _ _ _ _ _ _ _=>J5) (λ_ _ _ a=>Ol a) E8 (λ_ _ a b=>Bw a b) ir
 refine⟨one,λfK=>?_⟩
 induction fK using nQ.rec (motive_1:=λ_=>True) with
 |nil=>exact E8
 |cons e es _ ih=>exact Bw (one e) ih
 |_=>trivial
end
def pP:Expr->Bool
 |.ListComp ..=>false|.SetComp ..=>false|.DictComp ..=>false
 |_=>true
def R3:Expr->Bool
 |.Tuple ..=>false
 |_=>true
def VZ:Expr->Bool
 |.SetComp ..=>false|.DictComp ..=>false
 |_=>true
mutual
noncomputable def R4(Γ:uh):IS->Stmt->Bool
 |.expr e,s=>E1 (λx _=>pP x&&bL Γ e x) s
 |.asg p e,s=>JI (λq1 x _=>k1 (λtg=>yO Γ p tg&&bL Γ e x&&(match p with|.one _=>VZ x|.tup _=>pP x&&R3 x)) q1) s
 |.aug i o e,s=>VT (λq1 op v _=>qq (λx _=>Γ.N[i]?==some x&&(Γ.sc.names.lookup x==some .local || Γ.sc.names.lookup x==some .cell)&&NP o op&&(match o with|.pow=>false|_=>true)&&bL Γ e v) q1) s
 |.f9 o i v,s=>JI (λq1 x _=>k1 (λq2=>C5 (λa b _=>qY b&&pP x&&bL Γ o a&&bL Γ i b&&bL Γ v x) q2) q1) s
 |.iff c a b,s=>Xd (λt x y _=>bL Γ c t&&bu Γ a x&&bu Γ b y) s
 |.for p k it body,s=>RP (λtg iter x q1 _=>yF q1 (yO Γ p tg&&Bv Γ k it iter&&(match k,p with|.enum,.one _=>false|.zip,.one _=>false|_,_=>true)&&bu Γ body x)) s
 |.whl _ c body,s=>E4 (λt x q1 _=>yF q1 (bL Γ c t&&bu Γ body x)) s
 |.ret e,s=>NK (λq1 _=>EW (λx=>bL Γ e x) q1) s
 |.Jz,s=>NK (λq1 _=>yG q1 (true)) s
 |.brk,s=>RQ (λ_=>true) s
 |.cnt,s=>RS (λ_=>true) s
 |.pass,s=>LD (λ_=>true) s||E1 (λq1 _=>Az (λq2 _ _=>RL (λ_=>true) q2) q1) s
 |.never,_=>true
 |.setF n a x v,s=>JI (λq1 e _=>k1 (λq2=>Br (λo y _=>x==y&&pP e&&n == Γ.tb.nc && Γ.tb.JK.contains x&&bL Γ a o&&bL Γ v e) q2) q1) s
noncomputable def bu(Γ:uh):dm->List Stmt->Bool
 |.nil,ls=>ls.isEmpty
 | .cons s r,ls=>match ls with
  |l::ls=>R4 Γ s l&&bu Γ r ls
  |[]=>false
end
structure Om (Φ:Fn) (Γ:uh) (k:Nat) (X:Cx) (cl:Nat->Addr) (EX:Nat->List V->Hp->Prop):Prop extends Ctx Φ Γ k X cl EX where
 fn:∀x,X.fn x=true
 nd:X.N.Nodup
 kind:X.env.scope.kind=.function
 xe:PassesOwn (model X.prog X.w) X.A X.env X.xe
def WF(K:Frag)(D:Ends):Fl->Hs->List Addr->Hp->Prop
 |.nx env',_,ρ',H'=>∀σ',dH K ρ' env' σ' H'->env'.length = σ'.length->D.nx σ' H'
 |.rt v,_,ρ',H'=>∀x,VR K ρ' H' v x->D.rt x H'
 |.bk env',_,ρ',H'=>∀σ',dH K ρ' env' σ' H'->env'.length = σ'.length->D.bk σ' H'
 |.ct env',_,ρ',H'=>∀σ',dH K ρ' env' σ' H'->env'.length = σ'.length->D.ct σ' H'
def tS(Φ:Fn)(B:Bd)(EX:Nat->List V->Hp->Prop)(ir:IS):TS:=λD σ H=>∃ρ env h,dH B.K ρ env σ H/\env.length = σ.length/\HR B ρ h H/\Post B EX ρ H (WF B.K D) (dX Φ ir env h)
def Ze(Φ:Fn)(B:Bd)(EX:Nat->List V->Hp->Prop)(ir:dm):TS:=λD σ H=>∃ρ env h,dH B.K ρ env σ H/\env.length = σ.length/\HR B ρ h H/\Post B EX ρ H (WF B.K D) (bN Φ ir env h)
theorem _root_.L2.PS.imp(h:PS X e t)(i:∀D σ H,t' D σ H->t D σ H):PS X e t':=λpins s σ H D I hw=>h pins s σ H D I (i D σ H hw)
theorem _root_.L2.zV.imp(h:zV X e t)(i:∀D σ H,t' D σ H->t D σ H):zV X e t':=λpins s σ H D I hw=>h pins s σ H D I (i D σ H hw)
section
variable {Φ:Fn} {Γ:uh} {k:Nat} {X:Cx} {cl:Nat->Addr} {EX:Nat->List V->Hp->Prop}
def yP(Φ:Fn)(ir:IS):Prop:=∀(Γ:uh) (k:Nat) (X:Cx) (cl:Nat->Addr) (EX:Nat->List V->Hp->Prop) (st:Stmt),Om Φ Γ k X cl EX->R4 Γ ir st=true->PS X st (tS Φ (bd X cl) EX ir)
def wV(Φ:Fn)(fK:dm):Prop:=∀(Γ:uh) (k:Nat) (X:Cx) (cl:Nat->Addr) (EX:Nat->List V->Hp->Prop) (st:List Stmt),Om Φ Γ k X cl EX->bu Γ fK st=true->zV X st (Ze Φ (bd X cl) EX fK)
theorem kK{n:Nat}(h:pP e=true):swapsWith e t n env=pure false:=by
 cases e<;>first|rfl|(exact absurd h aab)
theorem LJ(ir:IE)(c:Ctx Φ Γ k X cl EX)(h:bL Γ ir e=true):PE X e (tV Φ (bd X cl) EX ir):=(pM.1 ir Γ k X cl EX e c h).1
theorem Xj(ir:IE)(c:Ctx Φ Γ k X cl EX)(h:bL Γ ir e=true):PT X e (tT Φ (bd X cl) EX ir):=(pM.1 ir Γ k X cl EX e c h).2
theorem R5(hs:∀env h,dX Φ ir env h=.no):yP Φ ir:=by
 intro Γ k X cl EX st c h;refine rF.imp λD σ H ⟨ρ,env,h,hE,hl,r,p⟩=>?_;rw[hs]at p;exact p.elim
theorem Oo:yP Φ (.expr e):=by
 intro Γ k X cl EX st c h;apply Bu h;intro x _ h;simp only[and_eq_true]at h;refine(IM (LJ e c.toCtx h.2) (kK h.1)).imp λD σ H aS=>?_;obtain⟨ρ,env,h,hE,hl,r,p⟩:=aS;simp only[dX]at p;exact⟨ρ,env,h,hE,r,aC p λv h1 ρ1 x H1 g1 r1 q1 p1=>ao r1 p1 σ (hE.up g1) hl⟩
theorem R6:yP Φ (.asg p e):=by
 intro Γ k X cl EX st c h;apply AA h;intro q1 x pos h;apply ni h;intro tg h;simp only[and_eq_true]at h;obtain⟨⟨h1,h2⟩,h3⟩:=h;have hg:=BC c.toCtx c.fn c.nd h1;have he:=LJ e c.toCtx h2;have fin:∀D σ H,tS Φ (bd X cl) EX (.asg p e) D σ H->IQ (tV Φ (bd X cl) EX e) (De X.K p) D σ H:=λD σ H ⟨ρ,env,h,hE,hl,r,pp⟩=>by
  simp only[dX]at pp;refine⟨ρ,env,h,hE,r,aC pp λv h1 ρ1 x H1 g1 r1 q1 p1=>?_⟩;obtain⟨env',e1,p2⟩:=cH p1;exact BD e1 q1 (hE.up g1) hl λσ' V3 hl' _=>ao r1 p2 σ' V3 hl'
 have Zf:(assignEach [tg] X.env).map (·.2)=[assign tg X.env]:=by
  cases p with
  |one i=>obtain⟨t,tp,rfl⟩:=sW h1;rfl
  |tup is=>obtain⟨es,kk,tp,rfl⟩:=nY h1;rfl
 cases p with
 |tup is=>
  simp only[and_eq_true]at h3;refine(DY he hg ?_ ?_ Zf).imp fin
  ·show swapsWith x (some tg) _ _=_;exact kK h3.1
  ·obtain⟨es,kk,tp,rfl⟩:=nY h1;cases x<;>first|rfl|(exact absurd h3.2 aab)
 |one i=>
  obtain⟨t,tp,rfl⟩:=sW h1
  ·
   simp only[yO,and_eq_true,beq_iff_eq]at h1;have loc:L2.Loc X.env.scope t:=by unfold L2.Loc;rw[c.sc];simpa using h1.2
   have pl:pP x=true->PS X (.Assign [.Name t tp] x pos) (tS Φ (bd X cl) EX (.asg (.one i) e)):=λhx=>(DZ c.nd (by rw[c.N];exact h1.1) loc he (kK hx) (.inl (c.fn t))).imp fin;cases x with
   |ListComp e' gens scope p2=>
    cases hb:(X.env.kindOf t==some .local&&tp.line==p2.line && !(scope.names.any λ(n,k)=>n==t&&(k==.local||k==.cell))) with
    |false=>
     refine(DZ c.nd (by rw[c.N];exact h1.1) loc he ?_ (.inl (c.fn t))).imp fin;have bk:(X.env.blockKind==.function)=true:=by unfold Env.blockKind;rw[c.kind];rfl
     show (pure (X.env.blockKind==.function&&X.env.kindOf t==some .local&&tp.line==p2.line && !(scope.names.any λ(n,k)=>n==t&&(k==.local||k==.cell))):Sem Bool)=pure false;rw[bk,Bool.true_and,hb]
    |true=>
     have bk:(X.env.blockKind==.function)=true:=by unfold Env.blockKind;rw[c.kind];rfl
     have hsw:swapsWith (.ListComp e' gens scope p2) (some (.Name t tp)) pos.line X.env=pure true:=by show (pure (X.env.blockKind==.function&&X.env.kindOf t==some .local&&tp.line==p2.line && !(scope.names.any λ(n,k)=>n==t&&(k==.local||k==.cell))):Sem Bool)=pure true;rw[bk,Bool.true_and,hb]
     cases e with
     |comp N' js pat ik it R7 elt=>obtain⟨e2,tg2,iter,ifs,V4,pos2,wi,g,tt,te,q0,q1,q2,q3,q4,q5,q6,q7⟩:=sY (pM.2 it) (pM.1 R7) (pM.1 elt) c.toCtx h2;cases q0;refine(Js c.nd (by rw[c.N];exact h1.1) loc q1 c.calm q2 q3 q4 q5 hsw (.inl (c.fn t)) q6).imp λD σ H hh=>?_;exact q7 σ H _ (fin D σ H hh)
     |dflt N' js p q d w=>refine rF.imp λD σ H hh=>?_;obtain⟨ρ,env,h,hE,hl,r,pp⟩:=hh;simp only[dX,aB]at pp;exact pp.elim
     |_=>first|exact absurd h2 aab|(rw[bL.eq_def]at h2;cases h2)
   |SetComp _ _ _ _=>exact absurd h3 aab
   |DictComp _ _ _ _ _=>exact absurd h3 aab
   |_=>exact pl rfl
theorem R8{i:Nat}:yP Φ (.aug i o e):=R5 λ_ _=>rfl
def R9(B:Bd)(EX:Nat->List V->Hp->Prop):Mw:=λo i v H Q=>∃ρ h a b w,HR B ρ h H/\VR B.K ρ H a o/\VR B.K ρ H b i/\VR B.K ρ H w v/\Post B EX ρ H (λ_ _ _ H'=>Q H') (yv a b w h)
theorem Oq(hu:X.A.units+64<cLine):QS X (R9 (bd X cl) EX):=by
 intro pins s σ H o i v ov iv u Q I ro ri rv hh;obtain⟨ρ,h,a,b,w,r,ha,hb,hw,p⟩:=hh;cases a with
 |ref j=>
  simp only[yv]at p;obtain⟨ob,e1,p⟩:=aJ p;have dict:∀kvs,ob=.dct kvs->Post (bd X cl) EX ρ H (λ_ _ _ H'=>Q H') (bnd (bM (keyOf b)) (λk=>az (decide (kvs.length<sizeLine)) (put j (.dct (iR kvs k w)))) h)->wpAny (model X.prog X.w) X.A (setItem ov iv u) (λ_ s'=>∃H',L2.Inv X pins σ H' s'/\Q H') X.xe s:=by rintro kvs rfl p;obtain⟨kk,e2,p⟩:=cH p;obtain⟨e3,p⟩:=aT p;have e3:=aaB e3;rw[VR]at ha;obtain⟨A,rfl,k1⟩:=ha;obtain⟨ks,k2,k3⟩:=r.ob j _ A e1 k1;cases ro;have ek:=EM hb e2;subst ek;refine CI (by omega) I (Ji.k (v:=v) k2 (by rw[<-k3.length];exact e3)) ri rv λs' I'=>⟨_,I',?_⟩;have g:Gr ρ H ρ (upd H A (.dK (putK ks kk v))):=Gr.put (aaL k1) k2 rfl;exact p ρ _ g (r.put k1 e1 (u:=.dct (iR kvs kk w)) ⟨_,bE,iQ.put kk (VR.up g _ _ hw) (iQ.up g _ _ k3)⟩)
  cases ob with
  |dct kvs=>exact dict kvs rfl p
  |_=>exact p.elim
 |_=>exact p.elim
theorem Ot:yP Φ (.f9 o i v):=by
 intro Γ k X cl EX st c h;apply AA h;intro q1 x pos h;apply ni h;intro q2 h;apply sP h;intro a b sp h;simp only[and_eq_true]at h;obtain⟨⟨⟨⟨h1,h2⟩,h3⟩,h4⟩,h5⟩:=h;have Zg:PG X (.Subscript a b sp) (QV (tV Φ (bd X cl) EX o) (tV Φ (bd X cl) EX i) (R9 (bd X cl) EX)):=My (LJ o c.toCtx h3) (LJ i c.toCtx h4) (Oq c.units) (by
  intro v;cases b<;>first|rfl|(exact absurd h1 aab))
 refine(DY (LJ v c.toCtx h5) Zg (kK (t:=some (.Subscript a b sp)) (n:=pos.line) (env:=X.env) h2) (by cases x<;>rfl) rfl).imp λD σ H aS=>?_;obtain⟨ρ,env,h,hE,hl,r,p⟩:=aS;simp only[dX]at p;refine⟨ρ,env,h,hE,r,aC p λw h1 ρ1 x1 H1 g1 r1 q1 p1=>⟨ρ1,env,h1,hE.up g1,r1,aC p1 λw2 h2 ρ2 x2 H2 g2 r2 q2 p2=>⟨ρ2,env,h2,(hE.up g1).up g2,r2,aC p2 λw3 h3 ρ3 x3 H3 g3 r3 q3 p3=>?_⟩⟩⟩;refine⟨ρ3,h3,w2,w3,w,r3,VR.up g3 _ _ q2,q3,VR.up (g2.trans g3) _ _ q1,bx p3 λ_ h4 ρ4 H4 g4 r4 p4=>?_⟩;exact ao r4 p4 σ (((hE.up g1).up g2).up g3 |>.up g4) hl
theorem Sa(ha:wV Φ a)(hb:wV Φ b):yP Φ (.iff t a b):=by
 intro Γ k X cl EX st c h;apply RM h;intro tt x y pos h;simp only[and_eq_true]at h;refine(QO (Xj t c.toCtx h.1.1) (ha Γ k X cl EX x c h.1.2) (hb Γ k X cl EX y c h.2)).imp λD σ H aS=>?_;obtain⟨ρ,env,h,hE,hl,r,p⟩:=aS;simp only[dX]at p;refine⟨ρ,env,h,hE,r,pJ p λv h1 p1=>?_⟩;obtain⟨s,e1,p2⟩:=aJ p1;refine⟨s,e1,λρ1 H1 g1 r1=>?_⟩;have p2:=Post.up g1 p2;cases s with
 |true=>rw[aak rfl]at p2 |-;exact⟨ρ1,env,h1,hE.up g1,hl,r1,p2⟩
 |false=>rw[aam aab]at p2 |-;exact⟨ρ1,env,h1,hE.up g1,hl,r1,p2⟩
theorem Sb(hb:wV Φ body):yP Φ (.for p ik it body):=by
 intro Γ k X cl EX st c h;apply NJ h;intro tg iter x q1 pos h;apply nh h;intro h;simp only[and_eq_true]at h;obtain⟨⟨⟨h1,h2⟩,h3⟩,h4⟩:=h;have hen:ik=.enum\/ik=.zip->∃es kk pos,tg=.Tuple es kk pos:=by
  intro hz;cases p with
  |one i=>rcases hz with rfl|rfl<;>cases h3
  |tup is=>exact nY h1
 obtain⟨hi,hf⟩:=LI (pM.2 it) c.toCtx h2 hen;refine(MC c.xe c.calm hi (BC c.toCtx c.fn c.nd h1) (hb Γ k X cl EX x c h4) hf).imp λD σ H aS=>?_;obtain⟨ρ,env,h,hE,hl,r,pp⟩:=aS;simp only[dX]at pp;have p':Post (bd X cl) EX ρ H (WF X.K D) (bnd (Qp Φ ik it env) (λsrc=>bnd (ask λh=>src.items h) λxs=>forM src (λx env=>bnd (bM (fN p x env)) λenv'=>bN Φ body env') xs.length 0 env) h):=by unfold Qp;rw[bz];exact pp
 refine⟨ρ,env,h,hE,r,bx p' λsrc h1 ρ1 H1 g1 r1 p1=>?_⟩;obtain⟨xs,e1,p2⟩:=aJ p1;refine⟨⟨xs,e1⟩,λJ wk=>?_⟩;refine⟨λi m σ' H'=>∃ρ' env' h',Gr ρ1 H1 ρ' H'/\dH X.K ρ' env' σ' H'/\env'.length = σ'.length/\HR (bd X cl) ρ' h' H'/\Post (bd X cl) EX ρ' H' (WF X.K D) (forM src (λx env=>bnd (bM (fN p x env)) λenv'=>bN Φ body env') m i env' h'),
  ⟨xs.length,ρ1,env,h1,Gr.refl,hE.up g1,hl,r1,p2⟩,?_⟩
 rintro i m σ' H' ⟨ρ',env',h',w1,w2,w3,w4,w5⟩;cases m with
 |zero=>simp only[forM]at w5;obtain⟨xs',k1,w5⟩:=aJ w5;obtain⟨k2,w5⟩:=aT w5;exact .inl ⟨wk.stop w1.w w4 k1 (aaB k2),ao w4 w5 σ' w2 w3⟩
 |succ m=>
  simp only[forM]at w5;obtain⟨xs',k1,w5⟩:=aJ w5;cases hx:xs'[i]? with
  |none=>rw[hx]at w5;exact .inl ⟨wk.stop w1.w w4 k1 (List.getElem?_eq_none_iff.mp hx),ao w4 w5 σ' w2 w3⟩
  |some v=>
   rw[hx]at w5;dsimp only at w5;refine .inr ⟨wk.go w1.w w4 k1 hx,_,λCM Lv w=>⟨m,lt_succ_self _,w⟩,λy H2 hy=>?_⟩;obtain⟨z1,z2,z3⟩:=wk.DG w1.w w4 k1 hx hy;rw[bz]at w5;obtain⟨nq,k2,w5⟩:=cH w5;refine BD k2 z3 (w2.up z1) w3 λσ2 Uz hl2 _=>⟨ρ',nq,h',Uz,hl2,z2,bx (Post.up z1 w5) λf h3 ρ3 H3 g3 r3 p3=>?_⟩;cases f with
   |nx wW=>exact λσ3 Fp hl3=>⟨ρ3,wW,h3,(w1.trans z1).trans g3,Fp,hl3,r3,p3⟩
   |ct wW=>exact λσ3 Fp hl3=>⟨ρ3,wW,h3,(w1.trans z1).trans g3,Fp,hl3,r3,p3⟩
   |bk wW=>exact λσ3 Fp hl3=>ao r3 p3 σ3 Fp hl3
   |rt v=>exact(ao r3 p3:WF X.K D (.rt v) h3 ρ3 H3)
theorem Sd{n:Nat}(hb:wV Φ body):yP Φ (.whl n t body):=by
 intro Γ k X cl EX st c h;apply E5 h;intro tt x q1 pos h;apply nh h;intro h;simp only[and_eq_true]at h;refine(D3 c.xe (Xj t c.toCtx h.1) (hb Γ k X cl EX x c h.2)).imp λD σ H aS=>?_;obtain⟨ρ,env,h,hE,hl,r,p⟩:=aS;simp only[dX]at p;refine⟨λm σ H=>∃ρ env h,dH X.K ρ env σ H/\env.length = σ.length/\HR (bd X cl) ρ h H/\Post (bd X cl) EX ρ H (WF X.K D) (pF (λenv=>bnd (aB Φ t env) λx=>ask λh=>cZ h x) (bN Φ body) m env h),⟨n,ρ,env,h,hE,hl,r,p⟩,?_⟩;rintro m σ' H' ⟨ρ',env',h',w1,w2,w3,w4⟩;cases m with
 |zero=>exact w4.elim
 |succ m=>
  simp only[pF]at w4;refine⟨ρ',env',h',w1,w3,bx (m:=NR Φ t env') w4 λb h1 ρ1 H1 g1 r1 p1=>?_⟩;show if b=true then _ else _
  cases b with
  |true=>
   rw[aak rfl]at p1 |-;refine⟨_,λCM Lv w=>⟨m,lt_succ_self _,w⟩,ρ1,env',h1,w1.up g1,w2,r1,bx p1 λf h3 ρ3 H3 g3 r3 p3=>?_⟩;cases f with
   |nx wW=>exact λσ3 Fp hl3=>⟨ρ3,wW,h3,Fp,hl3,r3,p3⟩
   |ct wW=>exact λσ3 Fp hl3=>⟨ρ3,wW,h3,Fp,hl3,r3,p3⟩
   |bk wW=>exact λσ3 Fp hl3=>ao r3 p3 σ3 Fp hl3
   |rt v=>exact(ao r3 p3:WF X.K D (.rt v) h3 ρ3 H3)
  |false=>rw[aam aab]at p1 |-;exact ao r1 p1 σ' (w1.up g1) w2
theorem Se:yP Φ (.ret e):=by
 intro Γ k X cl EX st c h;apply E6 h;intro q1 _ h;apply Bt h;intro x h;refine(Mt (LJ e c.toCtx h)).imp λD σ H aS=>?_;obtain⟨ρ,env,h,hE,hl,r,p⟩:=aS;simp only[dX]at p;exact⟨ρ,env,h,hE,r,aC p λv h1 ρ1 x H1 g1 r1 q1 p1=>ao r1 p1 x q1⟩
theorem Ou:yP Φ .Jz:=by
 intro Γ k X cl EX st c h;apply E6 h;intro q1 _ h;apply qX h;intro h;refine IP.imp λD σ H aS=>?_;obtain⟨ρ,env,h,hE,hl,r,p⟩:=aS;simp only[dX]at p;exact ao r p _ VR.non
theorem Sf:yP Φ .brk:=by
 intro Γ k X cl EX st c h;apply NL h;intro _ h;refine DW.imp λD σ H aS=>?_;obtain⟨ρ,env,h,hE,hl,r,p⟩:=aS;simp only[dX]at p;exact ao r p σ hE hl
theorem Sg:yP Φ .cnt:=by
 intro Γ k X cl EX st c h;apply NN h;intro _ h;refine xY.imp λD σ H aS=>?_;obtain⟨ρ,env,h,hE,hl,r,p⟩:=aS;simp only[dX]at p;exact ao r p σ hE hl
theorem Ov:yP Φ .pass:=by
 intro Γ k X cl EX st c h
 rcases VS h with h|h
 ·apply JJ h;intro _ h;refine IL.imp λD σ H aS=>?_;obtain⟨ρ,env,h,hE,hl,r,p⟩:=aS;simp only[dX]at p;exact ao r p σ hE hl
 ·apply Bu h;intro q1 _ h;apply yE h;intro q2 _ _ h;apply NI h;intro _ h;refine Ms.imp λD σ H aS=>?_;obtain⟨ρ,env,h,hE,hl,r,p⟩:=aS;simp only[dX]at p;exact ao r p σ hE hl
theorem J6:yP Φ .never:=by
 intro Γ k X cl EX st c h;refine rF.imp λD σ H aS=>?_;obtain⟨ρ,env,h,hE,hl,r,p⟩:=aS;simp only[dX]at p;exact p.elim
theorem Df{α β:Type}(c:Bool)(m:M α)(f:α -> M β):bnd (az c m) f=az c (bnd m f):=by
 funext h;unfold bnd az;cases c<;>rfl
theorem Ow{n:Nat}:yP Φ (.setF n a x v):=by
 intro Γ k X cl EX st c h;apply AA h;intro q1 e pos h;apply ni h;intro q2 h;apply wM h;intro o y ap h;simp only[and_eq_true,beq_iff_eq,contains_iff_mem]at h;obtain⟨⟨⟨⟨⟨h1,h2⟩,h3⟩,h4⟩,h5⟩,h6⟩:=h;subst h1;refine(MN (LJ a c.toCtx h5) (LJ v c.toCtx h6) (kK (t:=some (.Attribute o x ap)) (n:=pos.line) (env:=X.env) h2)).imp λD σ H aS=>?_;obtain⟨ρ,env,h,hE,hl,r,p⟩:=aS;simp only[dX]at p;refine⟨ρ,env,h,hE,r,aC p λw h1 ρ1 x1 H1 g1 r1 q1 p1=>⟨ρ1,env,h1,hE.up g1,r1,aC p1 λw2 h2 ρ2 x2 H2 g2 r2 q2 p2=>?_⟩⟩;cases w2<;>first|exact p2.elim|skip
 rename_i i;rw[VR]at q2;obtain⟨ad,rfl,q2⟩:=q2;unfold Bh at p2;dsimp only at p2;rw[bz]at p2;obtain⟨pr,e1,p3⟩:=aJ p2;have hx:h2[i]?=some (.ins pr.1 pr.2)/\pr.1<n:=by
  split at e1
  ·rename_i c0 fs e2
   split at e1
   ·rename_i hc;cases e1;exact⟨e2,hc⟩
   ·cases e1
  ·cases e1
 obtain⟨dx,gs,k1,k2⟩:=r2.ob i _ ad hx.1 q2;obtain⟨cc,nn⟩:=c.cls pr.1 (by omega);have p4:Post (bd X cl) EX ρ2 H2 (WF X.K D) (az (decide (pr.2.length<1000)) (bnd (put i (.ins pr.1 (sH x w pr.2))) λ_=>ret (.nx env)) h2):=by rw[<-Df];exact p3
 obtain⟨el,p5⟩:=aT p4;refine⟨ad,cl pr.1,dx,gs,rfl,k1,cc,nn x h4,by rw[<-k2.length];exact aaB el,?_⟩;have g:Gr ρ2 H2 ρ2 (upd H2 ad (.ins (cl pr.1) dx (jO x x1 gs))):=Gr.put (aaL q2) k1 rfl;exact p5 ρ2 _ g (r2.put q2 hx.1 (u:=.ins pr.1 (sH x w pr.2)) ⟨dx,_,bE,nW.put (VR.up (g2.trans g) _ _ q1) (nW.up g _ _ k2)⟩) σ (((hE.up g1).up g2).up g) hl
theorem Ox:wV Φ .nil:=by
 intro Γ k X cl EX st c h;rw[bu]at h;cases st with
 |cons _ _=>cases h
 |nil=>refine IK.imp λD σ H aS=>?_;obtain⟨ρ,env,h,hE,hl,r,p⟩:=aS;simp only[bN]at p;exact ao r p σ hE hl
theorem J7(h1:yP Φ s)(h2:wV Φ ss):wV Φ (.cons s ss):=by
 intro Γ k X cl EX st c h;rw[bu.eq_def]at h;dsimp only at h;cases st with
 |nil=>cases h
 |cons l ls=>
  simp only[and_eq_true]at h;refine(DV (h1 Γ k X cl EX l c h.1) (h2 Γ k X cl EX ls c h.2)).imp λD σ H aS=>?_;obtain⟨ρ,env,h,hE,hl,r,p⟩:=aS;simp only[bN]at p;refine⟨ρ,env,h,hE,hl,r,bx p λf h1 ρ1 H1 g1 r1 p1=>?_⟩;cases f with
  |nx env'=>exact λσ' V3 hl'=>⟨ρ1,env',h1,V3,hl',r1,p1⟩
  |rt v=>exact(ao r1 p1:WF X.K D (.rt v) h1 ρ1 H1)
  |bk env'=>exact(ao r1 p1:WF X.K D (.bk env') h1 ρ1 H1)
  |ct env'=>exact(ao r1 p1:WF X.K D (.ct env') h1 ρ1 H1)
theorem Fq:∀fK,wV Φ fK:=by
 intro fK;exact dm.rec (motive_1:=λs=>yP Φ s) (motive_2:=λss=>wV Φ ss) (λ_=>Oo) (λ_ _=>R6) (λ_ _ _=>R8) (λ_ _ _=>Ot) (λ_ _ _ a b=>Sa a b) (λ_ _ _ _ a=>Sb a) (λ_ _ _ a=>Sd a) (λ_=>Se) Ou Sf Sg Ov J6 (λ_ _ _ _=>Ow)
  Ox (λ_ _ a b=>J7 a b) fK
end
abbrev Row:=Str×Nat×(List Val->M Val)
def look(fs:List Row)(j:Nat):List Val->M Val:=match fs[j]? with
 |some r=>r.2.2
 |none=>λ_=>bM none
def cI(P:Program)(w:World)(B:Bd)(mg:Str->Option Value)(base:Heap)(k:Nat)(fs:List Row):Prop:=∀(j:Nat) (r:Row),fs[j]?=some r->Qn P w B mg base k j r.1 r.2.1 r.2.2
def aW(N P:List Str)(sc:Scope):Bool :=
 sc.kind==.function && !sc.isCoroutine && !sc.isGenerator&&decide N.Nodup&&N.take P.length==P&&(P.all λx=>sc.names.lookup x==some .local||sc.names.lookup x==some .cell)&&(sc.names.all λy=>y.2 != .free)
theorem Ft(h:aW N P sc=true):qV N P sc:=by
 unfold aW at h;simp only[and_eq_true,beq_iff_eq,not_eq_true',decide_eq_true_eq,all_eq_true,or_eq_true,bne_iff_ne]at h;obtain⟨⟨⟨⟨⟨⟨h1,h2⟩,h3⟩,h4⟩,h5⟩,h6⟩,h7⟩:=h;exact⟨h1,h2,h3,h4,h5,h6,h7⟩
structure Base (K:Frag) (cl:Nat->Addr) (mg:Str->Option Value) (cons:List (Str×Val)) (tb:Tb):Prop where
 blt:∀x∈bltNames,mg x=none
 cons:∀p∈cons,∃v u,mg p.1=some u/\RelV v u/\∀K ρ H,VR K ρ H p.2 v
 cls:∀c,c<tb.nc->DH K (cl c)/\∀x∈tb.JK,ku K (cl c) x
 JL:∀p∈tb.JL,Meth K (cl p.1) p.2.1 (cl (1000+p.2.2))
 Iu:∀p∈tb.Iu,∃C,mg p.1=some (.ref C)/\Na K C p.2.1 (cl (1000+p.2.2))
 isc:∀p∈tb.isc,∃C,mg p.1=some (.ref C)/\∀c b,p.2[c]?=some b->Xb K (cl c)/\kitOne K (.ref (cl c)) (.ref C)=some b
section
variable {P:Program} {w:World} {K:Frag} {cl:Nat->Addr} {mg:Str->Option Value} {base:Heap} {k:Nat} {fs:List Row} {cons:List (Str×Val)} {tb:Tb}
theorem BE{x qual:Str}{st:Stmt}{f:Addr}{fd:FuncData}{N ps:List Str}{body:dm}(T:Base K cl mg cons tb)(A:cI P w ⟨K,cl⟩ mg base k fs)(F:Io K x qual st f fd)(hS:aW N ps (ah st)=true)
  (hc:bu ⟨N,ah st,fs.map (λr=>(r.1,r.2.1)),cons,tb⟩ body (aG st)=true):fZ P w K mg base zW (k+2) f fd ps (wN ⟨K,cl⟩ ps.length (fW (look fs) N.length body)):=by
 have S:=Ft hS;refine F.ok S (λvs H Q E h=>?_) (λcdv A' outer s H vs Q E hr h=>?_)
 ·obtain⟨ρ,h,ws,h1,_,h2,_⟩:=h;rw[<-h2.length,h1]
 ·obtain⟨ρ,h,ws,hl,r,hv,p⟩:=h
  have lv:=hv.length
  let X:Cx:=(Af zW P w K mg base N qual (ah st) f cdv A' outer s H E).QK
  have c:Om (look fs) ⟨N,ah st,fs.map (λr=>(r.1,r.2.1)),cons,tb⟩ k X cl (λ_ _ _=>False):=by
   refine { N:=rfl,sc:=rfl,calm:=rfl,room:=hr,mU:=λ_ _ _ z=>z,fns:=λj x n e=>?_,cls:=T.cls,JL:=T.JL,Iu:=T.Iu,isc:=T.isc,cons:=T.cons,blt:=T.blt,fn:=λ_=>rfl,nd:=S.nd,kind:=S.kind,xe:=PassesOwn.never };have e':(fs.map (λr=>(r.1,r.2.1)))[j]?=some (x,n):=e;rw[aaF]at e';cases er:fs[j]? with
   |none=>rw[er]at e';cases e'
   |some r=>rw[er]at e';cases e';have:=A j r er;unfold look;rw[er];exact this
  refine⟨_,Fq body _ k X cl _ (aG st) c hc,ρ,ws.map some++replicate (N.length-ws.length) none,h,λi v e=>?_,?_,r,bx p λfl h1 ρ1 H1 g1 r1 p1=>?_⟩
  ·by_cases hi:i<ws.length
   ·rw[aav (by simpa using hi)]at e
    rw[aaF]at e;cases ei:ws[i]? with
    |none=>rw[ei]at e;cases e
    |some w'=>rw[ei]at e;cases e;obtain⟨y,q1,q2⟩:=hv.get ei;refine⟨y,?_,q2⟩;show (vs.map some++_)[i]?=_;rw[aav (by rw[aae,<-lv];exact hi),aaF,q1];rfl
   ·rw[aaC (by simp;omega)]at e;have:=aaL e;rw[List.mem_replicate]at this;exact absurd this.2 (by simp)
  ·show _=(vs.map some++_).length;simp[lv]
  ·cases fl with
   |nx env'=>exact λσ' _ _=>ao r1 p1 _ VR.non
   |rt v=>exact(ao r1 p1:WV K Q v h1 ρ1 H1)
   |bk env'=>exact p1.elim
   |ct env'=>exact p1.elim
theorem _root_.Hv.Qn.mono{j:Nat}{n:Nat}(g:Qn P w B mg base k j x n φ):Qn P w B mg base (k+2) j x n φ:=by
 have le:k<=k+2:=Nat.le_add_right _ _
 rcases g with ⟨h,⟨f,fd,ps,q1,q2,q3,q4,q5⟩|⟨c,f,fd,ps,φ0,q0,q1,q2,q3,q4,q5⟩⟩|⟨h,fd,ps,q1,q4,q5⟩
 ·exact .inl ⟨h,.inl ⟨f,fd,ps,q1,q2,q3,q4,q5.mono le⟩⟩
 ·exact .inl ⟨h,.inr ⟨c,f,fd,ps,φ0,q0,q1,q2,q3,q4,q5.mono le⟩⟩
 ·exact .inr ⟨h,fd,ps,q1,q4,q5.mono le⟩
theorem all_nil:cI P w ⟨K,cl⟩ mg base k []:=λj r e=>by simp at e
theorem wX{r0:Row}(A:cI P w ⟨K,cl⟩ mg base k fs)(g:Qn P w ⟨K,cl⟩ mg base (k+2) fs.length r0.1 r0.2.1 r0.2.2):cI P w ⟨K,cl⟩ mg base (k+2) (fs++[r0]):=λj r e=>by
 by_cases hj:j<fs.length
 ·rw[aav hj]at e;exact(A j r e).mono
 ·rw[aaC (by omega)]at e
  have hj0:j-fs.length=0:=by have:=(aah.mp e).1;simp at this;omega
  rw[hj0]at e;simp at e;subst e;rw[show j=fs.length by omega];exact g
theorem Fv{x qual:Str}{st:Stmt}{f:Addr}{fd:FuncData}{N ps:List Str}{body:dm}(T:Base K cl mg cons tb)(A:cI P w ⟨K,cl⟩ mg base k fs)(F:Io K x qual st f fd)(hm:mg x=some (.ref f))(hb:Binds K fd ps [])(sZ:ps.length<1000)(hS:aW N ps (ah st)=true)
  (hc:bu ⟨N,ah st,fs.map (λr=>(r.1,r.2.1)),cons,tb⟩ body (aG st)=true):cI P w ⟨K,cl⟩ mg base (k+2) (fs++[(x,ps.length,fW (look fs) N.length body)]) :=
 wX (r0:=(x,ps.length,fW (look fs) N.length body)) A (.inl ⟨sZ,.inl ⟨f,fd,ps,rfl,hm,F.kp,hb,BE T A F hS hc⟩⟩)
theorem Fw{x qual y:Str}{st:Stmt}{f:Addr}{fd:FuncData}{N ps:List Str}{body:dm}(T:Base K cl mg cons tb)(A:cI P w ⟨K,cl⟩ mg base k fs)(F:Io K x qual st f fd)(hf:cl (1000+fs.length)=f)(hb:Binds K fd ps [])(hS:aW N ps (ah st)=true)
  (hc:bu ⟨N,ah st,fs.map (λr=>(r.1,r.2.1)),cons,tb⟩ body (aG st)=true):cI P w ⟨K,cl⟩ mg base (k+2) (fs++[(y,1000+ps.length,fW (look fs) N.length body)]):=by
 refine wX (r0:=(y,1000+ps.length,fW (look fs) N.length body)) A (.inr ⟨Nat.le_add_right _ _,fd,ps,?_,hb,?_⟩)
 ·show ps.length=1000+ps.length-1000;omega
 ·show fZ P w K mg base zW (k+2) (cl (1000+fs.length)) fd ps (wN ⟨K,cl⟩ (1000+ps.length-1000) _);rw[hf,show 1000+ps.length-1000=ps.length by omega];exact BE T A F hS hc
theorem all_class{x i qual:Str}{st:Stmt}{f:Addr}{fd:FuncData}{N ps:List Str}{n c:Nat}{body:dm}(T:Base K cl mg cons tb)(A:cI P w ⟨K,cl⟩ mg base k fs)(F:Io K i qual st f fd)(hm:mg x=some (.ref (cl c)))(M:Mk K (cl c) f)(hb:Binds K fd ps [])(hn:ps.length=n+1)(sZ:n<1000)(hS:aW N ps (ah st)=true)
  (hc:bu ⟨N,ah st,fs.map (λr=>(r.1,r.2.1)),cons,tb⟩ body (aG st)=true):cI P w ⟨K,cl⟩ mg base (k+2) (fs++[(x,n,EI c (fW (look fs) N.length body))]):=by
 refine wX (r0:=(x,n,EI c (fW (look fs) N.length body))) A (.inl ⟨sZ,.inr ⟨c,f,fd,ps,_,rfl,hn,hm,M,hb,?_⟩⟩);rw[<-hn];exact BE T A F hS hc
end
def mJ(K:Frag)(x qual:Str)(st:Stmt)(f:Addr):Prop:=∃fd,Io K x qual st f fd
theorem mJ.kp{K:Frag}{x qual:Str}{st:Stmt}{f:Addr}(F:mJ K x qual st f):keepIn K (.ref f)=true:=F.elim λ_ F=>F.kp
section
variable {α:Type} {p:List α -> Prop}
theorem Oz:∀{us:List α},us.length=1->(∀a,p [a])->p us
 |[a],_,h=>h a
theorem ln2:∀{us:List α},us.length=2->(∀a b,p [a,b])->p us
 |[a,b],_,h=>h a b
theorem V5:∀{us:List α},us.length=3->(∀a b c,p [a,b,c])->p us
 |[a,b,c],_,h=>h a b c
end
def V6(x qual:Str)(st:Stmt)(ps:List Str):Prop:=∀(kV doc pm:Value) (an:Option Addr) (cdv ct:Value) (us:List Value),us.length=ps.length->bindArgs (fnOf x qual (nM st) (aG st) (ah st) .none kV doc pm an cdv ct) ⟨us,[]⟩=pure (ps.zip us)
section
variable {P:Program} {w:World} {K:Frag} {cl:Nat->Addr} {mg:Str->Option Value} {base:Heap} {k:Nat} {fs:List Row} {cons:List (Str×Val)} {tb:Tb} {x i y qual:Str} {st:Stmt} {f:Addr} {N ps:List Str} {body:dm} (T:Base K cl mg cons tb) (A:cI P w ⟨K,cl⟩ mg base k fs)
include T A
theorem fX(F:mJ K x qual st f)(hm:mg x=some (.ref f))(hS:aW N ps (ah st)=true)
  (hc:bu ⟨N,ah st,fs.map (λr=>(r.1,r.2.1)),cons,tb⟩ body (aG st)=true) (sZ:ps.length<1000) (hb:V6 x qual st ps):cI P w ⟨K,cl⟩ mg base (k+2) (fs++[(x,ps.length,fW (look fs) N.length body)]):=F.elim λ_ F=>Fv T A F hm (F.binds hb) sZ hS hc
theorem vp(F:mJ K x qual st f)(hf:cl (1000+fs.length)=f)(hS:aW N ps (ah st)=true)
  (hc:bu ⟨N,ah st,fs.map (λr=>(r.1,r.2.1)),cons,tb⟩ body (aG st)=true) (hb:V6 x qual st ps):cI P w ⟨K,cl⟩ mg base (k+2) (fs++[(y,1000+ps.length,fW (look fs) N.length body)]):=F.elim λ_ F=>Fw T A F hf (F.binds hb) hS hc
theorem Fx{n c:Nat}(F:mJ K i qual st f)(hm:mg x=some (.ref (cl c)))(M:Mk K (cl c) f)(hS:aW N ps (ah st)=true)
  (hc:bu ⟨N,ah st,fs.map (λr=>(r.1,r.2.1)),cons,tb⟩ body (aG st)=true) (hn:ps.length=n+1) (sZ:n<1000) (hb:V6 i qual st ps):cI P w ⟨K,cl⟩ mg base (k+2) (fs++[(x,n,EI c (fW (look fs) N.length body))]):=F.elim λ_ F=>all_class T A F hm M (F.binds hb) hn sZ hS hc
end
theorem OA{K:Frag}{cl:Nat->Addr}{φ:List Val->M Val}{H:Hp}{a:Addr}{ns:List Int}(hO:Em H)(hS:j4 K H a (ns.map V.int))(h:∃h',φ [.rl (ns.map .int)] []=.ok (.bl true) h') :
  wN ⟨K,cl⟩ 1 φ [.ref a] H (λv _=>v=.bl true) λ_ _ _=>False:=by
 obtain⟨h',e⟩:=h;have sr:Nf K H a (ns.map V.int):=by
  rcases hS with (z|z)|z
  ·rcases hO a with y|⟨o,xs,y⟩
   ·rw[y]at z;cases z
   ·rw[y]at z;cases z
  ·exact .inl z
  ·exact .inr (.inr z)
 refine⟨[],[],[.rl (ns.map .int)],rfl,⟨rfl,nodup_nil,λi o a e=>by simp at e⟩,aD.cons (by rw[VR];exact⟨a,_,rfl,sr,aD.ints.mpr rfl⟩) aD.nil,?_⟩;rw[e];intro ρ' H' g r x q;rw[VR]at q;exact q
def UA(K:Frag):Sp:=λvs H Q _=>∃(a:Addr) (ns:List Int),vs=[.ref a]/\Em H/\j4 K H a (ns.map V.int)/\ns.length<=63/\∀H',Q (.bl true) H'
theorem OC{K:Frag}{cl:Nat->Addr}{φ:List Val->M Val}(hφ:∀ns:List Int,ns.length<=63->∃h',φ [.rl (ns.map .int)] []=.ok (.bl true) h')(vs:List V)(H:Hp)(Q:VK)(E:XK)(h:UA K vs H Q E):wN ⟨K,cl⟩ 1 φ vs H Q E:=by
 obtain⟨a,ns,rfl,hO,hS,hl,hq⟩:=h;obtain⟨ρ,h,vs,q1,q2,q3,q4⟩:=OA (cl:=cl) hO hS (hφ ns hl);refine⟨ρ,h,vs,q1,q2,q3,?_⟩;revert q4;cases φ vs h with
 |ok v h'=>exact λq4 ρ' H' g r x hx=>by rw[show x=_ from q4 ρ' H' g r x hx];exact hq H'
 |exc c ws h'=>exact λq4=>q4
 |no=>exact λq4=>q4
theorem walk{l:PySem.W.OpenLaw}{q:Program}{loose:List Str}{XP:(Str->Option Value)->Heap->Prop}{YP:World->Heap->Prop}{d:DefRec}{K:Params->Frag}{k:Nat}{x:Str}(hn:l.most=some 63)(hdf:d.params.defaults=[])(hr:eZ k callerA)
  (hY:∀(w:World) (h:Heap),YP w h->(K w.params).In h)
  (F:∀(w:World) (mg:Str->Option Value) (fa:Addr) (h:Heap),(K w.params).In h->h.Ns mainGlobals mg->mg d.name=some (.ref fa) ->
   ∃fd:FuncData,(∀(s:Shared) (u:Value),BindsTo s fd ⟨[u],[]⟩ [(x,u)])/\∀base:Heap,(K w.params).In base->base.Ns mainGlobals mg->fZ l.prog w (K w.params) mg base zW k fa fd [x] (UA (K w.params))) :
  PySem.W.WalkO q loose XP YP l.row.toRowW d [] (λf vs=>PySem.call f vs) :=
 L2.Jm (n:=63) (k:=k) (x:=x) (CX:=λ_=>zW) (sp:=λw=>UA (K w.params)) hn (by decide) hdf hr hY F (λ_ _ a ns hl hO hS=>⟨a,ns,rfl,hO,hS,hl,λ_=>rfl⟩) λ_ _ _ _ _ z=>z
end Hv
end
section
namespace Hv
open PySem L2
inductive Pr (α:Type)
 |ok (a:α)|exc (c:Nat) (ds:List Val)|no
def pb{α β:Type}(m:Pr α)(f:α -> Pr β):Pr β:=match m with
 |.ok a=>f a
 |.exc c ds=>.exc c ds
 |.no=>.no
def pl{α:Type}(o:Option α):Pr α:=match o with
 |some a=>.ok a
 |none=>.no
def pg{α:Type}(c:Bool)(m:Pr α):Pr α:=if c=true then m else .no
inductive Mk
 |sh|nw|ow
def iJ:Mk->Bool
 |.ow=>false
 |_=>true
def Qs:Mk->Bool
 |.nw=>true
 |_=>false
abbrev bC:=List (Option (Mk×Val))
abbrev FV:=Bool×Val
mutual
noncomputable def jx:Val->Bool
 |.rl _=>false
 |.dc _ _=>false
 |.ob _ _ _=>false
 |.ref _=>false
 |.tup vs=>bD vs
 |.non=>true
 |.bl _=>true
 |.int _=>true
 |.str _=>true
noncomputable def bD:List Val->Bool
 |[]=>true
 |v::vs=>jx v&&bD vs
end
def fj(f:Bool)(d:Val):Mk:=if (f && !jx d)=true then .nw else .sh
def putD(ks:List Key)(ds:List Val)(k:Key)(d:Val):Val:=.dc ((iR (ks.zip ds) k d).map (·.1)) ((iR (ks.zip ds) k d).map (·.2))
def dZ:Lx->Val->Val->Pr FV
 |.add,.int a,.int b=>.ok (true,.int (a+b))
 |.add,.rl a,.rl b=>pg (decide (a.length+b.length<=sizeLine)) (.ok (bD (a++b),.rl (a++b)))
 |.sub,.int a,.int b=>.ok (true,.int (a-b))
 |.mul,.int a,.int b=>pg (kE a b) (.ok (true,.int (a*b)))
 |.fdiv,.int a,.int b=>pg (kg b) (.ok (true,.int (a/b)))
 |.mod,.int a,.int b=>pg (decide (0<b)) (.ok (true,.int (a%b)))
 |.pow,.int a,.int b=>pg (decide (0<=b/\b<=1000000/\a.natAbs<2 ^ 64)) (.ok (true,.int (a ^ b.toNat)))
 |_,_,_=>.no
def Dg(v:Val)(lo hi:Option Int):Pr FV:=match v with
 |.tup vs=>pg (!(decide (HT.fJ vs.length 0 lo=0)&&decide (HT.fJ vs.length vs.length hi=vs.length))) (.ok (bD (cg vs lo hi),.tup (cg vs lo hi)))
 |.rl vs=>.ok (bD (cg vs lo hi),.rl (cg vs lo hi))
 |_=>.no
def iS:Bl->List Val->Pr FV
 |.len,[v]=>pb (pl (m9 [] v)) λn=>.ok (true,.int n)
 |.min,[.int a,.int b]=>.ok (true,.int (if b<a then b else a))
 |.max,[.int a,.int b]=>.ok (true,.int (if b>a then b else a))
 |.sorted,[.rl xs]=>pb (pl (fz xs)) λys=>.ok (true,.rl ys)
 |.list,[v]=>pb (pl (kD [] v)) λxs=>.ok (bD xs,.rl xs)
 |.int,[.bl b]=>.ok (true,.int (if b=true then 1 else 0))
 |.int,[.int i]=>.ok (true,.int i)
 |.all,[.rl xs]=>pb (pl (gc xs)) λbs=>.ok (true,.bl (bs.all id))
 |.isin T,[v]=>pb (pl (yt [] v)) λt=>pb (pl (yu T t)) λb=>.ok (true,.bl b)
 |_,_=>.no
def kh:Ik->List Val->Option (List Val)
 |.seq,[.tup vs]=>some vs
 |.seq,[.rl vs]=>some vs
 |.range,[.int n]=>if inR n then some (bH 0 n.toNat) else none
 |.range,[.int a,.int b]=>if inR a&&inR b then some (bH a (b-a).toNat) else none
 |.enum,[.rl vs]=>some (sE 0 vs)
 |_,_=>none
def Fy(k:Ik)(ds:List Val):Option (List Val):=match k with
 |.zip=>none
 |k=>kh k ds
def cQ:List Nat->List Val->bC->Option bC
 |[],[],env=>some env
 |i::is,d::ds,env=>cQ is ds (env.set i (some (.sh,d)))
 |_,_,_=>none
def cF:Bf->Val->bC->Option bC
 |.one i,d,env=>some (env.set i (some (.sh,d)))
 |.tup is,.tup ds,env=>cQ is ds env
 |_,_,_=>none
def iY(js:List (Option Nat))(env:bC):bC:=js.map λo=>match o with
 |none=>none
 | some j=>match env[j]? with
  |some (some d)=>some d
  |_=>none
def j5(f:Val->Pr (Option FV)):List Val->Pr (Bool×List Val)
 |[]=>.ok (true,[])
 |x::r=>pb (f x) λo=>pb (j5 f r) λp=>.ok (match o with|some e=>(e.1&&p.1,e.2::p.2)|none=>p)
def nZ:Val->Pr Bool
 |.bl b=>.ok b
 |_=>.no
def jg(env:bC):IE->Option FV
 | .var i=>match env[i]? with
  |some (some (_,d))=>some (jx d,d)
  |_=>none
 |_=>none
def isVar:IE->Bool
 |.var _=>true
 |_=>false
mutual
noncomputable def bg(Ψ:Nat->List Val->Pr FV):IE->bC->Pr FV
 | .var i,env=>match env[i]? with
  |some (some (m,d))=>pg (iJ m) (.ok (jx d,d))
  |_=>.no
 |.cst d,_=>.ok (jx d,d)
 |.con _ d,_=>.ok (jx d,d)
 |.no,_=>.no
 |.bin o a b,env=>pb (if isVar a=true then pl (jg env a) else bg Ψ a env) λx=>pb (if isVar b=true then pl (jg env b) else bg Ψ b env) λy=>dZ o x.2 y.2
 | .neg a,env=>pb (bg Ψ a env) λx=>match x.2 with
  |.int i=>.ok (true,.int (-i))
  |_=>.no
 |.cmp o a b,env=>pb (if isVar a=true then pl (jg env a) else bg Ψ a env) λx=>pb (if isVar b=true then pl (jg env b) else bg Ψ b env) λy=>pb (pl (cop [] o x.2 y.2)) λt=>.ok (true,.bl t)
 |.chn _ _ _ _ _,_=>.no
 |.and a b,env=>pb (bg Ψ a env) λx=>pb (nZ x.2) λt=>if t=true then pb (bg Ψ b env) λy=>pb (nZ y.2) λu=>.ok (true,.bl u) else .ok (true,.bl false)
 |.or a b,env=>pb (bg Ψ a env) λx=>pb (nZ x.2) λt=>if t=true then .ok (true,.bl true) else pb (bg Ψ b env) λy=>pb (nZ y.2) λu=>.ok (true,.bl u)
 |.not a,env=>pb (bg Ψ a env) λx=>pb (nZ x.2) λt=>.ok (true,.bl (!t))
 |.ite _ _ _,_=>.no
 |.tup es,env=>pb (qP Ψ es env) λp=>pg (decide (p.2.length<=sizeLine)) (.ok (p.1,.tup p.2))
 |.lst es,env=>pb (qP Ψ es env) λp=>pg (decide (p.2.length<=sizeLine)) (.ok (p.1,.rl p.2))
 |.idx a b,env=>pb (if isVar a=true then pl (jg env a) else bg Ψ a env) λx=>pb (bg Ψ b env) λy=>pb (pl (mY [] x.2 y.2)) λz=>.ok (jx z,z)
 |.slc a lo hi,env=>pb (if isVar a=true then pl (jg env a) else bg Ψ a env) λx=>pb (if dg lo=true then .ok none else pb (bg Ψ lo env) λv=>pb (pl (kG v.2)) λi=>.ok (some i)) λl=>
   pb (if dg hi=true then .ok none else pb (bg Ψ hi env) λv=>pb (pl (kG v.2)) λi=>.ok (some i)) λu=>Dg x.2 l u
 |.call j es,env=>pb (qP Ψ es env) λp=>Ψ j p.2
 |.blt b es,env=>pb (gI Ψ es env) λds=>iS b ds
 | .met m a es,env=>match m with
  |.join=>.no
  |_=>.no
 | .comp _ js pat k it c elt,env=>pb (gI Ψ it env) λits=>pb (pl (Fy k its)) λxs=>pg (decide (xs.length<=100000))
   (pb (j5 (λd=>pb (pl (cF pat d (iY js env))) λenv'=>pb (if dg c=true then .ok true else pb (bg Ψ c env') λv=>pl (cZ [] v.2)) λt=>
    if t=true then pb (bg Ψ elt env') λe=>.ok (some e) else .ok none) xs) λp=>.ok (p.1,.rl p.2))
 |.dct0,_=>.ok (true,.dc [] [])
 | .sset a,env=>pb (if isVar a=true then pl (jg env a) else bg Ψ a env) λx=>match x.2 with
  |.rl xs=>pb (pl (cE xs)) λns=>pg (decide (ns.length<64)) (.ok (true,.rl ((sortI (L2.cL [] ns)).map .int)))
  |_=>.no
 |.dget _ _ _,_=>.no
 |.dct1 _ _,_=>.no
 |.lkeys d,env=>pb (if isVar d=true then pl (jg env d) else bg Ψ d env) λo=>pb (pl (ve [] o.2)) λks=>.ok (true,.rl (ks.map EH))
 |.sdef ..,_=>.no
 | .svals a,env=>pb (if isVar a=true then pl (jg env a) else bg Ψ a env) λx=>match x.2 with
  |.rl xs=>pb (pl (cE xs)) λns=>pg (decide (ns.length<64)) (.ok (true,.int ((L2.cL [] ns).length:Nat)))
  |_=>.no
 |.skeys d,env=>pb (if isVar d=true then pl (jg env d) else bg Ψ d env) λo=>pb (pl (mZ [] o.2)) λns=>.ok (true,.rl (ns.map .int))
 |.fld n a x,env=>pb (if isVar a=true then pl (jg env a) else bg Ψ a env) λo=>pb (pl (jd n [] o.2 x)) λz=>.ok (jx z,z)
 |.mth a m js es,env=>pb (bg Ψ a env) λo=>pb (pl (nV [] o.2 m js)) λj=>pb (qP Ψ es env) λp=>Ψ j (o.2::p.2)
 |.rev a s,env=>pb (if isVar a=true then pl (jg env a) else bg Ψ a env) λx=>pb (if dg s=true then .ok none else pb (bg Ψ s env) λv=>pb (pl (kG v.2)) λi=>.ok (some i)) λk=>
   pg (decide (k=some (-1))) (match x.2 with
    |.rl vs=>.ok (bD vs.reverse,.rl vs.reverse)
    |_=>.no)
 |.dflt _ _ _ _ _ _,_=>.no
 |.isc _ _ _,_=>.no
noncomputable def qP(Ψ:Nat->List Val->Pr FV):nQ->bC->Pr (Bool×List Val)
 |.nil,_=>.ok (true,[])
 |.cons e es,env=>pb (bg Ψ e env) λd=>pb (qP Ψ es env) λp=>.ok (d.1&&p.1,d.2::p.2)
noncomputable def gI(Ψ:Nat->List Val->Pr FV):nQ->bC->Pr (List Val)
 |.nil,_=>.ok []
 |.cons e es,env=>pb (if isVar e=true then pl (jg env e) else bg Ψ e env) λd=>pb (gI Ψ es env) λp=>.ok (d.2::p)
end
def zX(Ψ:Nat->List Val->Pr FV)(e:IE)(env:bC):Pr FV:=if isVar e=true then pl (jg env e) else bg Ψ e env
inductive DJ
 |nx (env:bC)|rt (p:FV)|bk (env:bC)|ct (env:bC)
mutual
noncomputable def ux:IS->List Nat
 |.expr (.met .append (.var i) _)=>[i]
 |.expr (.met .extend (.var i) _)=>[i]
 |.f9 (.var i) _ _=>[i]
 |.asg _ (.met .pop (.var j) _)=>[j]
 |.iff _ a b=>gW a++gW b
 |.for _ _ _ b=>gW b
 |.whl _ _ b=>gW b
 |_=>[]
noncomputable def gW:dm->List Nat
 |.nil=>[]
 |.cons s r=>ux s++gW r
end
def stored:Bf->List Nat
 |.one i=>[i]
 |.tup is=>is
mutual
noncomputable def pQ:IS->List Nat
 |.asg p _=>stored p
 |.aug i _ _=>[i]
 |.iff _ a b=>mK a++mK b
 |.for p _ _ b=>stored p++mK b
 |.whl _ _ b=>mK b
 |_=>[]
noncomputable def mK:dm->List Nat
 |.nil=>[]
 |.cons s r=>pQ s++mK r
end
def V7:IE->Bool
 |.lst _=>true
 |.comp ..=>true
 |.slc ..=>true
 |.blt .list _=>true
 |.blt .sorted _=>true
 |.lkeys _=>true
 |.dct0=>true
 |.dct1 ..=>true
 |_=>false
def eE(body:Val->bC->Pr DJ):List Val->bC->Pr DJ
 |[],env=>.ok (.nx env)
 | x::r,env=>pb (body x env) λf=>match f with
  |.nx env'=>eE body r env'
  |.ct env'=>eE body r env'
  |.bk env'=>.ok (.nx env')
  |.rt p=>.ok (.rt p)
def nt(c:bC->Pr Bool)(body:bC->Pr DJ):Nat->bC->Pr DJ
 |0,_=>.no
 | n+1,env=>pb (c env) λt=>if t=true then pb (body env) λf=>(match f with
   |.nx env'=>nt c body n env'
   |.ct env'=>nt c body n env'
   |.bk env'=>.ok (.nx env')
   |.rt p=>.ok (.rt p)) else .ok (.nx env)
def Xk:Mk->Mk
 |.ow=>.sh
 |m=>m
def Xl:Option (Mk×Val)->Option (Mk×Val)
 |none=>none
 |some (m,d)=>some (Xk m,d)
def v9(env:bC):bC:=env.map Xl
def J8(env:bC):nQ->Option (Val×Val)
 | .cons (.var i) #[.var j]=>match env[i]?,env[j]? with
  |some (some (.nw,d)),some (some (.nw,e))=>some (d,e)
  |_,_=>none
 |_=>none
def J9(Ψ:Nat->List Val->Pr FV)(es:nQ)(env:bC):Pr FV:=match J8 env es with
 |some p=>.ok (true,.tup [p.1,p.2])
 |none=>bg Ψ (.tup es) (v9 env)
def UB(Ψ:Nat->List Val->Pr FV)(e:IE)(env:bC):Pr FV:=match e with
 | .var i=>match env[i]? with
  | some (some (m,d))=>if iJ m=true then .ok (jx d||Qs m,d) else match d with
   |.rl ds=>.ok (bD ds,.rl ds)
   |.dc ks ds=>.ok (bD ds,.dc ks ds)
   |_=>.no
  |_=>.no
 |.call j es=>bg Ψ (.call j es) (v9 env)
 |.tup es=>J9 Ψ es env
 |e=>bg Ψ e env
def tu(p:Bf)(it:nQ)(body:dm):Bool:=match it with
 |.cons (.var i) .nil=>!(gW body).contains i && !(mK body).contains i && !(stored p).contains i
 |_=>true
def yQ:IE->Option Nat
 |.met .pop (.var j) #[¬0]=>some j
 |_=>none
def OE(ms:List Nat)(i:Nat)(o:Option Nat)(env:bC):Pr DJ:=match o with
 | some j=>pg (!ms.contains i&&decide (i≠j)) (match env[j]? with
  |some (some (.ow,.rl (d::ds)))=>pg (jx d) (.ok (.nx ((env.set j (some (.ow,.rl ds))).set i (some (.sh,d)))))
  |_=>.no)
 |none=>.no
mutual
noncomputable def bw(Ψ:Nat->List Val->Pr FV)(ms:List Nat):IS->bC->Pr DJ
 | .expr e,env=>match e with
  | .met .append (.var i) #[a]=>match env[i]? with
   |some (some (.ow,.rl ds))=>pb (bg Ψ a env) λx=>pg (decide (ds.length<sizeLine)) (.ok (.nx (env.set i (some (.ow,.rl (ds++[x.2]))))))
   |_=>.no
  | .met .extend (.var i) #[a]=>match env[i]? with
   | some (some (.ow,.rl ds))=>pb (bg Ψ a env) λx=>match x.2 with
    |.tup vs=>pg (decide (ds.length+vs.length<=sizeLine)) (.ok (.nx (env.set i (some (.ow,.rl (ds++vs))))))
    |_=>.no
   |_=>.no
  |e=>pb (bg Ψ e env) λ_=>.ok (.nx env)
 | .asg p e,env=>match p with
  | .one i=>if (yQ e).isSome=true then OE ms i (yQ e) env else if ms.contains i=true then pg (V7 e) (pb (bg Ψ e env) λx=>match x.2 with
    |.rl ds=>.ok (.nx (env.set i (some (.ow,.rl ds))))
    |.dc ks ds=>.ok (.nx (env.set i (some (.ow,.dc ks ds))))
    |_=>.no) else pb (bg Ψ e env) λx=>.ok (.nx (env.set i (some (fj x.1 x.2,x.2))))
  |.tup is=>pg (is.all λi=>!ms.contains i) (pb (bg Ψ e env) λx=>pb (pl (cF (.tup is) x.2 env)) λenv'=>.ok (.nx env'))
 |.aug _ _ _,_=>.no
 | .f9 o i v,env=>match o with
  | .var j=>pb (bg Ψ v env) λx=>match env[j]? with
   |some (some (.ow,.dc ks ds))=>pb (bg Ψ i env) λz=>pb (pl (keyOf z.2)) λk=>pg (decide (ks.length<sizeLine)) (.ok (.nx (env.set j (some (.ow,putD ks ds k x.2)))))
   |_=>.no
  |_=>.no
 |.iff c a b,env=>pb (zX Ψ c env) λx=>pb (pl (cZ [] x.2)) λt=>if t=true then av Ψ ms a env else av Ψ ms b env
 |.for p k it body,env=>pg (tu p it body&&(stored p).all λi=>!ms.contains i) (pb (gI Ψ it env) λits=>pb (pl (kh k its)) λxs=>
   eE (λx env=>pb (pl (cF p x env)) λenv'=>av Ψ ms body env') xs env)
 |.whl n c body,env=>nt (λenv=>pb (zX Ψ c env) λx=>pl (cZ [] x.2)) (av Ψ ms body) n env
 |.ret e,env=>pb (UB Ψ e env) λp=>.ok (.rt p)
 |.Jz,_=>.ok (.rt (true,.non))
 |.brk,env=>.ok (.bk env)
 |.cnt,env=>.ok (.ct env)
 |.pass,env=>.ok (.nx env)
 |.never,_=>.no
 |.setF _ _ _ _,_=>.no
noncomputable def av(Ψ:Nat->List Val->Pr FV)(ms:List Nat):dm->bC->Pr DJ
 |.nil,env=>.ok (.nx env)
 | .cons s r,env=>pb (bw Ψ ms s env) λf=>match f with
  |.nx env'=>av Ψ ms r env'
  |f=>.ok f
end
def gh(Ψ:Nat->List Val->Pr FV)(n:Nat)(body:dm)(ds:List Val):Pr FV :=
 pb (av Ψ (gW body) body (ds.map (λd=>some (.sh,d))++replicate (n-ds.length) none)) λf=>match f with
  |.nx _=>.ok (true,.non)
  |.rt p=>.ok p
  |_=>.no
abbrev AP:=Option Nat->Prop
def Fr(n:Nat):AP:=λo=>match o with
 |none=>False
 |some k=>n<=k
theorem Fr.le{n m:Nat}(h:n<=m):∀o,Fr m o->Fr n o
 |none,e=>e
 |some k,e=>aaN h e
mutual
noncomputable def Dn(A:AP)(h:Hs):Val->Val->Prop
 |.non,v=>v=.non
 |.bl b,v=>v=.bl b
 |.int i,v=>v=.int i
 |.str x,v=>v=.str x
 |.tup ds,v=>∃vs,v=.tup vs/\aq A h ds vs
 |.rl ds,v=>(∃vs,v=.rl vs/\A none/\aq A h ds vs)\/∃i vs,v=.ref i/\A (some i)/\h[i]?=some (.lst vs)/\aq A h ds vs
 |.dc ks ds,v=>∃i kvs,v=.ref i/\A (some i)/\h[i]?=some (.dct kvs)/\kvs.map (·.1)=ks/\aq A h ds (kvs.map (·.2))
 |.ob c xs ds,v=>∃i fs,v=.ref i/\A (some i)/\h[i]?=some (.ins c fs)/\fs.map (·.1)=xs/\aq A h ds (fs.map (·.2))
 |.ref _,_=>False
noncomputable def aq(A:AP)(h:Hs):List Val->List Val->Prop
 |[],vs=>vs=[]
 |d::ds,vs=>∃v r,vs=v::r/\Dn A h d v/\aq A h ds r
end
section
variable {A A':AP} {h h' h1:Hs}
mutual
theorem Dn.mono(hA:∀i,A i->A' i)(hh:∀(i:Nat) (o:Ob),A (some i)->h[i]?=some o->h'[i]?=some o):∀(d v:Val),Dn A h d v->Dn A' h' d v
 |.non,v,e=>by rw[Dn]at e |-;exact e
 |.bl _,v,e=>by rw[Dn]at e |-;exact e
 |.int _,v,e=>by rw[Dn]at e |-;exact e
 |.str _,v,e=>by rw[Dn]at e |-;exact e
 | .tup ds,v,e=>by
  rw[Dn]at e |-;obtain⟨vs,rfl,q⟩:=e;exact⟨vs,rfl,aq.mono hA hh ds vs q⟩
 | .rl ds,v,e=>by
  rw[Dn]at e |-
  rcases e with ⟨vs,rfl,n,q⟩|⟨i,vs,rfl,a,g,q⟩
  ·exact .inl ⟨vs,rfl,hA _ n,aq.mono hA hh ds vs q⟩
  ·exact .inr ⟨i,vs,rfl,hA _ a,hh i _ a g,aq.mono hA hh ds vs q⟩
 | .dc ks ds,v,e=>by
  rw[Dn]at e |-;obtain⟨i,kvs,rfl,a,g,k,q⟩:=e;exact⟨i,kvs,rfl,hA _ a,hh i _ a g,k,aq.mono hA hh ds _ q⟩
 | .ob c xs ds,v,e=>by
  rw[Dn]at e |-;obtain⟨i,kvs,rfl,a,g,k,q⟩:=e;exact⟨i,kvs,rfl,hA _ a,hh i _ a g,k,aq.mono hA hh ds _ q⟩
 |.ref _,v,e=>by rw[Dn]at e;exact e.elim
theorem aq.mono(hA:∀i,A i->A' i)(hh:∀(i:Nat) (o:Ob),A (some i)->h[i]?=some o->h'[i]?=some o):∀(ds vs:List Val),aq A h ds vs->aq A' h' ds vs
 |[],vs,e=>by rw[aq]at e |-;exact e
 | d::ds,vs,e=>by
  rw[aq]at e |-;obtain⟨v,r,rfl,q1,q2⟩:=e;exact⟨v,r,rfl,Dn.mono hA hh d v q1,aq.mono hA hh ds r q2⟩
end
theorem bP{i:Nat}(p:h<+:h')(e:h[i]?=some o):h'[i]?=some o:=by
 obtain⟨t,rfl⟩:=p;have hi:i<h.length:=(aah.mp e).1;rw[aav hi];exact e
theorem Dn.ext(p:h<+:h')(e:Dn A h d v):Dn A h' d v:=Dn.mono (λ_ a=>a) (λ_ _ _ q=>bP p q) d v e
theorem aq.ext(p:h<+:h')(e:aq A h d v):aq A h' d v:=aq.mono (λ_ a=>a) (λ_ _ _ q=>bP p q) d v e
theorem Dn.wid(hA:∀i,A i->A' i)(e:Dn A h d v):Dn A' h d v:=Dn.mono hA (λ_ _ _ q=>q) d v e
theorem aq.wid(hA:∀i,A i->A' i)(e:aq A h d v):aq A' h d v:=aq.mono hA (λ_ _ _ q=>q) d v e
mutual
theorem eX:∀(d v:Val),jx d=true->(Dn A h d v↔v=d)
 |.non,v,_=>by rw[Dn]
 |.bl _,v,_=>by rw[Dn]
 |.int _,v,_=>by rw[Dn]
 |.str _,v,_=>by rw[Dn]
 | .tup ds,v,e=>by
  rw[jx]at e;rw[Dn];constructor
  ·rintro⟨vs,rfl,q⟩;rw[(aP ds vs e).mp q]
  ·rintro rfl;exact⟨ds,rfl,(aP ds ds e).mpr rfl⟩
 |.rl _,v,e=>by rw[jx]at e;cases e
 |.dc _ _,v,e=>by rw[jx]at e;cases e
 |.ob _ _ _,v,e=>by rw[jx]at e;cases e
 |.ref _,v,e=>by rw[jx]at e;cases e
theorem aP:∀(ds vs:List Val),bD ds=true->(aq A h ds vs↔vs=ds)
 |[],vs,_=>by rw[aq]
 | d::ds,vs,e=>by
  rw[bD,and_eq_true]at e;rw[aq];constructor
  ·rintro⟨v,r,rfl,q1,q2⟩;rw[(eX d v e.1).mp q1,(aP ds r e.2).mp q2]
  ·rintro rfl;exact⟨d,ds,rfl,(eX d d e.1).mpr rfl,(aP ds ds e.2).mpr rfl⟩
end
theorem aq.nil:aq A h [] []:=by rw[aq]
theorem aq.cons{d v:Val}{ds vs:List Val}(a:Dn A h d v)(b:aq A h ds vs):aq A h (d::ds) (v::vs):=by rw[aq];exact⟨v,vs,rfl,a,b⟩
theorem aq.length:∀{ds vs:List Val},aq A h ds vs->ds.length=vs.length
 |[],vs,e=>by rw[aq]at e;subst e;rfl
 |d::ds,vs,e=>by rw[aq]at e;obtain⟨v,r,rfl,_,q⟩:=e;simp[aq.length q]
theorem aq.get:∀{ds vs:List Val} {i:Nat} {d:Val},aq A h ds vs->ds[i]?=some d->∃v,vs[i]?=some v/\Dn A h d v
 |[],vs,i,d,e,q=>by simp at q
 | c::ds,vs,0,d,e,q=>by
  rw[aq]at e;obtain⟨v,r,rfl,a,_⟩:=e;simp at q;subst q;exact⟨v,rfl,a⟩
 | c::ds,vs,i+1,d,e,q=>by
  rw[aq]at e;obtain⟨v,r,rfl,_,b⟩:=e;simp at q;obtain⟨w,q1,q2⟩:=aq.get b q;exact⟨w,by simpa using q1,q2⟩
theorem aq.append:∀{ds es vs ws:List Val},aq A h ds vs->aq A h es ws->aq A h (ds++es) (vs++ws)
 |[],es,vs,ws,e,q=>by rw[aq]at e;subst e;exact q
 | d::ds,es,vs,ws,e,q=>by
  rw[aq]at e;obtain⟨v,r,rfl,a,b⟩:=e;exact aq.cons a (aq.append b q)
theorem aq.take:∀{ds vs:List Val} (n:Nat),aq A h ds vs->aq A h (ds.take n) (vs.take n)
 |_,_,0,_=>by simp;exact aq.nil
 |[],vs,n+1,e=>by rw[aq]at e;subst e;simp;exact aq.nil
 | d::ds,vs,n+1,e=>by
  rw[aq]at e;obtain⟨v,r,rfl,a,b⟩:=e;exact aq.cons a (aq.take n b)
theorem aq.drop:∀{ds vs:List Val} (n:Nat),aq A h ds vs->aq A h (ds.drop n) (vs.drop n)
 |_,_,0,e=>by simpa using e
 |[],vs,n+1,e=>by rw[aq]at e;subst e;simp;exact aq.nil
 | d::ds,vs,n+1,e=>by
  rw[aq]at e;obtain⟨v,r,rfl,a,b⟩:=e;exact aq.drop n b
theorem aq.cut(lo hi:Option Int)(e:aq A h ds vs):aq A h (cg ds lo hi) (cg vs lo hi):=by
 unfold cg;rw[e.length];exact aq.take _ (aq.drop _ e)
theorem aq.app:∀{ds es vs ws:List Val},aq A h ds vs->aq A h es ws->aq A h (ds++es) (vs++ws)
 |[],_,vs,_,e,q=>by rw[aq]at e;subst e;exact q
 | d::ds,_,vs,_,e,q=>by
  rw[aq]at e;obtain⟨v,r,rfl,a,b⟩:=e;rw[cons_append,cons_append,aq];exact⟨v,_,rfl,a,aq.app b q⟩
theorem aq.rev:∀{ds vs:List Val},aq A h ds vs->aq A h ds.reverse vs.reverse
 |[],vs,e=>by rw[aq]at e;subst e;exact aq.nil
 | d::ds,vs,e=>by
  rw[aq]at e;obtain⟨v,r,rfl,a,b⟩:=e;rw[reverse_cons,reverse_cons];refine aq.app (aq.rev b) ?_;rw[aq];exact⟨v,[],rfl,a,by rw[aq]⟩
theorem aq.ko{i:Int}(e:aq A h ds vs)(q:L2.ko ds i=some d):∃v,L2.ko vs i=some v/\Dn A h d v:=by
 unfold L2.ko at q |-;rw[e.length]at q;cases hi:L2.Ls vs.length i with
 |none=>rw[hi]at q;cases q
 |some n=>rw[hi]at q;exact aq.get e q
theorem aq.one(e:aq A h [d] vs):∃v,vs=[v]/\Dn A h d v:=by
 rw[aq]at e;obtain⟨v,r,rfl,a,b⟩:=e;rw[aq]at b;subst b;exact⟨v,rfl,a⟩
def OD(A:AP)(h:Hs)(d:Val)(a:Nat):Prop:=match d with
 |.rl ds=>∃vs,h[a]?=some (.lst vs)/\aq A h ds vs
 |.dc ks ds=>∃kvs,h[a]?=some (.dct kvs)/\kvs.map (·.1)=ks/\aq A h ds (kvs.map (·.2))
 |_=>False
theorem OD.mono{a:Nat}(e:OD A h d a)(ho:∀o,h[a]?=some o->h'[a]?=some o)(hq:∀ds vs,aq A h ds vs->aq A' h' ds vs):OD A' h' d a:=by
 cases d with
 |rl ds=>obtain⟨vs,g,q⟩:=e;exact⟨vs,ho _ g,hq _ _ q⟩
 |dc ks ds=>obtain⟨kvs,g,k,q⟩:=e;exact⟨kvs,ho _ g,k,hq _ _ q⟩
 |_=>exact False.elim e
theorem OD.ext{a:Nat}(p:h<+:h')(e:OD A h d a):OD A h' d a:=e.mono (λ_ g=>bP p g) λ_ _ q=>q.ext p
theorem OD.lt{a:Nat}(e:OD A h d a):a<h.length:=by
 cases d with
 |rl ds=>obtain⟨vs,g,q⟩:=e;exact(aah.mp g).1
 |dc ks ds=>obtain⟨kvs,g,k,q⟩:=e;exact(aah.mp g).1
 |_=>exact False.elim e
theorem OD.dn{a:Nat}(e:OD A h d a)(ha:A (.some a)):Dn A h d (.ref a):=by
 cases d with
 |rl ds=>obtain⟨vs,g,q⟩:=e;rw[Dn];exact .inr ⟨a,vs,rfl,ha,g,q⟩
 |dc ks ds=>obtain⟨kvs,g,k,q⟩:=e;rw[Dn];exact⟨a,kvs,rfl,ha,g,k,q⟩
 |_=>exact False.elim e
def OB(A:AP)(h:Hs)(d:Val)(o:Ob):Prop:=match d with
 |.rl ds=>∃vs,o=.lst vs/\aq A h ds vs
 |.dc ks ds=>∃kvs,o=.dct kvs/\kvs.map (·.1)=ks/\aq A h ds (kvs.map (·.2))
 |_=>False
theorem OB.od{a:Nat}(e:OB A h d o)(g:h'[a]?=.some o)(hq:∀ds vs,aq A h ds vs->aq A' h' ds vs):OD A' h' d a:=by
 cases d with
 |rl ds=>obtain⟨vs,rfl,q⟩:=e;exact⟨vs,g,hq _ _ q⟩
 |dc ks ds=>obtain⟨kvs,rfl,k,q⟩:=e;exact⟨kvs,g,k,hq _ _ q⟩
 |_=>exact False.elim e
def DB(A:AP)(h:Hs)(d v:Val):Prop:=Dn A h d v\/∃i,v=.ref i/\OD A h d i
theorem DB.all(e:DB A h d v):Dn (λ_=>True) h d v:=by
 rcases e with e|⟨i,rfl,q⟩
 ·exact e.wid λ_ _=>trivial
 ·exact(q.mono (A':=λ_=>True) (λ_ g=>g) λ_ _ z=>z.wid λ_ _=>trivial).dn trivial
theorem DB.ext(p:h<+:h')(e:DB A h d v):DB A h' d v:=by
 rcases e with e|⟨i,rfl,q⟩
 ·exact .inl (e.ext p)
 ·exact .inr ⟨i,rfl,q.ext p⟩
theorem DB.dc(e:DB A h (.dc ks ds) v):∃i kvs,v=.ref i/\h[i]?=some (.dct kvs)/\kvs.map (·.1)=ks/\aq A h ds (kvs.map (·.2)):=by
 rcases e with e|⟨i,rfl,kvs,g,k,q⟩
 ·rw[Dn]at e;obtain⟨i,kvs,rfl,_,g,k,q⟩:=e;exact⟨i,kvs,rfl,g,k,q⟩
 ·exact⟨i,kvs,rfl,g,k,q⟩
theorem DB.lst(e:DB A h (.rl ds) v):∃vs,aI h v=some vs/\aq A h ds vs:=by
 rcases e with e|⟨i,rfl,vs,g,q⟩
 ·rw[Dn]at e
  rcases e with ⟨vs,rfl,_,q⟩|⟨i,vs,rfl,_,g,q⟩
  ·exact⟨vs,rfl,q⟩
  ·exact⟨vs,by simp[aI,g],q⟩
 ·exact⟨vs,by simp[aI,g],q⟩
theorem DB.seq(e:DB A h d v)(q:kD [] d=some ds):∃vs,kD h v=some vs/\aq A h ds vs:=by
 cases d with
 |tup es=>
  simp only[kD]at q;cases q
  rcases e with e|⟨_,_,e1⟩
  ·rw[Dn]at e;obtain⟨vs,rfl,q⟩:=e;exact⟨vs,rfl,q⟩
  ·exact False.elim e1
 |rl es=>simp only[kD,aI]at q;cases q;obtain⟨vs,q1,q2⟩:=e.lst;refine⟨vs,?_,q2⟩;cases v<;>first|(simp[aI]at q1;done)|exact q1
 |ref i=>simp[kD,aI]at q
 |_=>simp[kD,aI]at q
theorem DB.int{i:Int}(e:DB A h (.int i) v):v=.int i:=by
 rcases e with e|⟨_,_,e1⟩
 ·rw[Dn]at e;exact e
 ·exact False.elim e1
theorem DB.str(e:DB A h (.str i) v):v=.str i:=by
 rcases e with e|⟨_,_,e1⟩
 ·rw[Dn]at e;exact e
 ·exact False.elim e1
theorem DB.bl{i:Bool}(e:DB A h (.bl i) v):v=.bl i:=by
 rcases e with e|⟨_,_,e1⟩
 ·rw[Dn]at e;exact e
 ·exact False.elim e1
theorem DB.tup(e:DB A h (.tup ds) v):∃vs,v=.tup vs/\aq A h ds vs:=by
 rcases e with e|⟨_,_,e1⟩
 ·rw[Dn]at e;exact e
 ·exact False.elim e1
theorem wY:∀(n:Nat) (d v:Val) (p:PyData),Dn (λ_=>True) h d v->toD n [] d=some p->toD n h v=some p:=by
 intro n
 induction n with
 |zero=>intro d v p _ e;simp[toD]at e
 |succ n ih=>
  have all:∀(ds vs:List Val) (ps:List PyData),aq (λ_=>True) h ds vs->cM (toD n []) ds=some ps->cM (toD n h) vs=some ps:=by
   intro ds
   induction ds with
   |nil=>intro vs ps q e;rw[aq]at q;subst q;exact e
   |cons d ds Zh=>intro vs ps q e;rw[aq]at q;obtain⟨v,r,rfl,q1,q2⟩:=q;simp only[cM]at e |-;obtain⟨x,e1,e⟩:=aad.mp e;obtain⟨xs,e2,e⟩:=aad.mp e;rw[ih d v x q1 e1,Zh r xs q2 e2];exact e
  intro d v p q e;cases d with
  |non=>rw[Dn]at q;subst q;exact e
  |bl b=>rw[Dn]at q;subst q;exact e
  |int b=>rw[Dn]at q;subst q;exact e
  |str b=>rw[Dn]at q;subst q;exact e
  |tup ds=>rw[Dn]at q;obtain⟨vs,rfl,q⟩:=q;simp only[toD]at e |-;obtain⟨ps,e1,e⟩:=aad.mp e;rw[all ds vs ps q e1];exact e
  |rl ds=>
   rw[Dn]at q;simp only[toD]at e;obtain⟨ps,e1,e⟩:=aad.mp e
   rcases q with ⟨vs,rfl,_,q⟩|⟨i,vs,rfl,_,g,q⟩
   ·simp only[toD];rw[all ds vs ps q e1];exact e
   ·simp only[toD,aI,g,bind_some];rw[all ds vs ps q e1];exact e
  |dc ks ds=>simp[toD]at e
  |ob c xs ds=>simp[toD]at e
  |ref i=>rw[Dn]at q;exact q.elim
theorem LK{b:Bool}(a:DB A h d v)(c:DB A h e w)(q:DI [] d e=some b):DI h v w=some b:=by
 unfold DI at q |-;obtain⟨x,e1,q⟩:=aad.mp q;obtain⟨y,e2,q⟩:=aad.mp q;rw[wY 16 d v x a.all e1,wY 16 e w y c.all e2];exact q
theorem Fz(a:DB A h d v):nU v=nU d:=by
 rcases a with a|⟨i,rfl,q⟩
 ·cases d<;>rw[Dn]at a
  ·subst a;rfl
  ·subst a;rfl
  ·subst a;rfl
  ·subst a;rfl
  ·obtain⟨vs,rfl,_⟩:=a;rfl
  ·rcases a with ⟨vs,rfl,_⟩|⟨i,vs,rfl,_⟩<;>rfl
  ·obtain⟨i,kvs,rfl,_⟩:=a;rfl
  ·obtain⟨i,kvs,rfl,_⟩:=a;rfl
  ·exact a.elim
 ·cases d<;>first|exact False.elim q|rfl
theorem DB.vq{j:Nat}(c:DB A h (.ref j) v):False:=by
 rcases c with c|⟨_,_,e1⟩
 ·rw[Dn]at c;exact c
 ·exact e1
theorem Ka{b:Bool}(q:memD h v w=some b):(∃ds,w=.tup ds)\/(∃ds,w=.rl ds)\/∃i,w=.ref i:=by
 unfold memD at q;obtain⟨x,e1,q⟩:=aad.mp q;obtain⟨z,e2,q⟩:=aad.mp q;cases w with
 |tup ds=>exact .inl ⟨_,rfl⟩
 |rl ds=>exact .inr (.inl ⟨_,rfl⟩)
 |ref i=>exact .inr (.inr ⟨_,rfl⟩)
 |str y=>simp only[toD]at e1;split at e1<;>cases e1;cases q
 |_=>cases e1<;>cases q
theorem FA{b:Bool}(a:DB A h d v)(c:DB A h e w)(q:wJ [] d e=some b):wJ h v w=some b:=by
 have data:memD [] d e=some b->memD h v w=some b:=λq=>by
  unfold memD at q |-;obtain⟨x,e1,q⟩:=aad.mp q;obtain⟨y,e2,q⟩:=aad.mp q;rw[wY 16 e w x c.all e1,wY 16 d v y a.all e2];exact q
 cases e with
 |tup es=>obtain⟨ws,rfl,_⟩:=c.tup;have q':=data (by cases d<;>exact q);cases v<;>exact q'
 |rl es=>
  have q':=data (by cases d<;>exact q)
  rcases c with c|⟨i,rfl,vs,g,q2⟩
  ·rw[Dn]at c
   rcases c with ⟨ws,rfl,_⟩|⟨i,ws,rfl,_,g,_⟩
   ·cases v<;>exact q'
   ·cases v<;>(show (h[i]?).bind _=_;rw[g];exact q')
  ·cases v<;>(show (h[i]?).bind _=_;rw[g];exact q')
 |dc ks es=>
  obtain⟨i,kvs,rfl,g,hk,_⟩:=c.dc
  ·skip
   have q':(keyOf d).bind (λk=>some (ks.any λj=>decide (j=k)))=some b:=by cases d<;>exact q
   obtain⟨kk,e1,q'⟩:=aad.mp q';have ev:keyOf v=some kk:=by
    cases d<;>simp only[keyOf]at e1<;>first|(cases e1;done)|skip
    ·have:=a.int;subst this;exact e1
    ·have:=a.str;subst this;exact e1
   have:(fH kvs kk).isSome=(ks.any λj=>decide (j=kk)):=by
    subst hk;unfold fH;rw[isSome_map,any_map];have key:∀l:List (Key×Val),(List.find? (λkv=>decide (kv.fst=kk)) l).isSome=l.any ((λj=>decide (j=kk))∘λx=>x.fst):=by
     intro l
     induction l with
     |nil=>rfl
     |cons x l ih=>
      rw[find?_cons,any_cons]
      by_cases hx:x.1=kk
      ·simp[hx]
      ·simp[hx];simpa using ih
    exact key kvs
   have fin:JA h v i (.dct kvs)=some b:=by simp only[JA,ev,bind_some,this];exact q'
   cases v<;>(show (h[i]?).bind _=_;rw[g];exact fin)
 |ref i=>exact(DB.vq c).elim
 |_=>rcases Ka (show memD [] d _=some b by cases d<;>exact q) with ⟨_,e⟩|⟨_,e⟩|⟨_,e⟩<;>cases e
theorem FD{b:Bool}(a:DB A h d v)(c:DB A h e w)(q:Ly d e=some b):Ly v w=some b:=by
 cases e<;>first|(cases q;done)|skip
 ·have:w=.non:=by
   rcases c with c|⟨_,_,e1⟩
   ·rw[Dn]at c;exact c
   ·exact False.elim e1
  subst this;show some (nU v)=_;rw[Fz a];exact q
theorem OF{b:Bool}(a:DB A h d v)(c:DB A h e w)(q:cop [] o d e=some b):cop h o v w=some b:=by
 cases o with
 |eq=>exact LK a c q
 |ne=>obtain⟨x,e1,e2⟩:=map_eq_some_iff.mp (show (DI [] d e).map _=some b from q);show (DI h v w).map _=_;rw[LK a c e1];exact congrArg some e2
 |isn=>exact FD a c q
 |ntn=>obtain⟨x,e1,e2⟩:=map_eq_some_iff.mp (show (Ly d e).map _=some b from q);show (Ly v w).map _=_;rw[FD a c e1];exact congrArg some e2
 |inn=>exact FA a c q
 |nin=>obtain⟨x,e1,e2⟩:=map_eq_some_iff.mp (show (wJ [] d e).map _=some b from q);show (wJ h v w).map _=_;rw[FA a c e1];exact congrArg some e2
 |lt=>obtain⟨i,j,rfl,rfl⟩:=kH (.inl rfl) q;have:=a.int;subst this;have:=c.int;subst this;exact q
 |le=>obtain⟨i,j,rfl,rfl⟩:=kH (.inr (.inl rfl)) q;have:=a.int;subst this;have:=c.int;subst this;exact q
 |gt=>obtain⟨i,j,rfl,rfl⟩:=kH (.inr (.inr (.inl rfl))) q;have:=a.int;subst this;have:=c.int;subst this;exact q
 |ge=>obtain⟨i,j,rfl,rfl⟩:=kH (.inr (.inr (.inr rfl))) q;have:=a.int;subst this;have:=c.int;subst this;exact q
theorem wZ{b:Bool}(a:DB A h d v)(q:cZ [] d=some b):cZ h v=some b:=by
 cases d<;>first|(cases q;done)|skip
 have:=a.bl;subst this;exact q
theorem OG{n:Nat}(a:DB A h d v)(q:m9 [] d=some n):m9 h v=some n:=by
 cases d with
 |rl ds=>
  obtain⟨vs,q1,q2⟩:=a.lst;have l:=q2.length;simp only[m9]at q;rw[l]at q;cases v<;>simp only[aI]at q1<;>first|(cases q1;done)|skip
  ·cases q1;exact q
  ·split at q1<;>cases q1;rename_i g;simp only[m9,g];exact q
 |tup ds=>obtain⟨vs,rfl,q2⟩:=a.tup;simp only[m9]at q |-;rw[<-q2.length];exact q
 |dc ks ds=>obtain⟨i,kvs,rfl,g,hk,_⟩:=a.dc;subst hk;simp only[m9,g]at q |-;rw[<-q];simp
 |_=>simp[m9]at q
theorem Sh{t:String}(a:DB A h d v)(q:yt [] d=some t):yt h v=some t:=by
 cases d with
 |rl ds=>
  obtain⟨vs,q1,q2⟩:=a.lst;cases v<;>simp only[aI]at q1<;>first|(cases q1;done)|skip
  ·exact q
  ·split at q1<;>cases q1;rename_i g;simp only[yt,g];exact q
 |tup ds=>obtain⟨vs,rfl,q2⟩:=a.tup;exact q
 |dc ks ds=>obtain⟨i,kvs,rfl,g,hk,_⟩:=a.dc;simp only[yt,g]at q |-;exact q
 |ob c xs ds=>cases q
 |ref i=>
  rcases a with a|⟨_,_,e1⟩
  ·rw[Dn]at a;exact a.elim
  ·exact False.elim e1
 |non=>
  rcases a with a|⟨_,_,e1⟩
  ·rw[Dn]at a;subst a;exact q
  ·exact False.elim e1
 |bl b=>have:=a.bl;subst this;exact q
 |int b=>have:=a.int;subst this;exact q
 |str b=>have:=a.str;subst this;exact q
theorem BF:∀{kvs:List (Key×Val)} {ks:List Key} {ds:List Val} {z:Val},kvs.map (·.1)=ks->aq A h ds (kvs.map (·.2))->fH (ks.zip ds) k=some z->∃v,fH kvs k=some v/\Dn A h z v
 |[],ks,ds,z,hk,q,e=>by subst hk;simp[fH]at e
 | (k',v')::kvs,ks,ds,z,hk,q,e=>by
  subst hk;have l:=q.length;cases ds with
  |nil=>simp at l
  |cons d ds=>
   simp only[map_cons]at q;rw[aq]at q;obtain⟨v,r,e1,q1,q2⟩:=q;cases e1
   by_cases hkk:k'=k
   ·subst hkk;simp[fH]at e |-;subst e;exact q1
   ·have e':fH ((kvs.map (·.1)).zip ds) k=some z:=by simpa [fH,hkk] using e
    obtain⟨w,a1,a2⟩:=BF rfl q2 e';exact⟨w,by simpa [fH,hkk] using a1,a2⟩
theorem tw(a:DB A h o v)(e:ve [] o=some ks):ve h v=some ks:=by
 cases o<;>first|(cases e;done)|(exact(DB.vq a).elim)|skip
 obtain⟨i,kvs,rfl,g,hk,q⟩:=a.dc;cases e;show (match h[i]? with|some (.dct kvs)=>some (kvs.map (λkv:Key×Val=>kv.1))|_=>none)=_;rw[g];exact congrArg some hk
theorem kL:∀ks:List Key,bD (ks.map EH)=true
 |[]=>rfl
 |.inl _::ks=>by rw[aaq,bD,kL ks];rfl
 |.inr _::ks=>by rw[aaq,bD,kL ks];rfl
theorem OH(a:DB A h d v)(c:Dn A h e w)(q:mY [] d e=some z):∃u,mY h v w=some u/\Dn A h z u:=by
 cases e with
 |int i=>
  rw[Dn]at c;subst c;cases d with
  |tup ds=>obtain⟨vs,rfl,q2⟩:=a.tup;exact q2.ko q
  |rl ds=>
   obtain⟨vs,q1,q2⟩:=a.lst;obtain⟨u,q3,q4⟩:=q2.ko q;refine⟨u,?_,q4⟩;cases v<;>simp only[aI]at q1<;>first|(cases q1;done)|skip
   ·cases q1;exact q3
   ·split at q1<;>cases q1;rename_i g;unfold mY;simp only[aI,g,bind_some];exact q3
  |dc ks ds=>obtain⟨i',kvs,rfl,g,hk,q2⟩:=a.dc;obtain⟨u,q3,q4⟩:=BF hk q2 q;refine⟨u,?_,q4⟩;show (match h[i']? with|some (.dct kvs)=>fH kvs (.inl i)|_=>(aI h (.ref i')).bind λxs=>ko xs i)=_;rw[g];exact q3
  |ref j=>exact(DB.vq a).elim
  |_=>cases q
 |_=>cases d<;>first|(cases q;done)|exact(DB.vq a).elim
theorem xg:∀{fs:List (Str×Val)} {ds:List Val},aq A h ds (fs.map (·.2))->(((fs.map (·.1)).zip ds).lookup x=none->fs.lookup x=none)/\∀z,((fs.map (·.1)).zip ds).lookup x=some z->∃u,fs.lookup x=some u/\Dn A h z u
 |[],ds,q=>⟨λ_=>rfl,λz e=>by simp at e⟩
 | (k,v)::fs,ds,q=>by
  cases ds with
  |nil=>rw[aq]at q;cases q
  |cons d ds=>
   rw[aaq,aq]at q;obtain⟨w,r,eq,q1,q2⟩:=q;cases eq;rw[aaq,zip_cons_cons,aaV,aaV];cases hb:x==k with
   |true=>exact⟨λz=>(by cases z),λz e=>(by cases e;exact⟨v,rfl,q1⟩)⟩
   |false=>exact xg q2
theorem DB.ob{c:Nat}(e:DB A h (.ob c xs ds) v):∃i fs,v=.ref i/\h[i]?=some (.ins c fs)/\fs.map (·.1)=xs/\aq A h ds (fs.map (·.2)):=by
 rcases e with e|⟨_,_,e1⟩
 ·rw[Dn]at e;obtain⟨i,fs,rfl,_,g,k,q⟩:=e;exact⟨i,fs,rfl,g,k,q⟩
 ·exact False.elim e1
theorem OI{n:Nat}(a:DB A h o v)(e:jd n [] o x=some z):∃u,jd n h v x=some u/\Dn A h z u:=by
 cases o<;>first|(cases e;done)|(exact(DB.vq a).elim)|skip
 obtain⟨i,fs,rfl,g,hk,q⟩:=a.ob;subst hk;unfold jd at e;dsimp only at e;split at e
 ·rename_i hc;obtain⟨u,e1,e2⟩:=(xg q).2 z e;refine⟨u,?_,e2⟩;unfold jd;dsimp only;rw[g];dsimp only;rw[aak hc];exact e1
 ·cases e
theorem OJ{j:Nat}(a:DB A h o v)(e:nV [] o m js=some j):nV h v m js=some j:=by
 cases o<;>first|(cases e;done)|(exact(DB.vq a).elim)|skip
 obtain⟨i,fs,rfl,g,hk,q⟩:=a.ob;subst hk;unfold nV at e;dsimp only at e;split at e
 ·rename_i hc;have e1:=(xg q).1 (by simpa using hc);unfold nV;dsimp only;rw[g];dsimp only;rw[aak (by rw[e1];rfl)];exact e
 ·cases e
end
def Up(A:AP)(h:Hs):Prop:=∀k,h.length<=k->A (some k)
def Rel(A:AP)(h:Hs){α β:Type}(R:α -> Hs -> β -> Prop)(o:Out β):Pr α -> Prop
 |.ok a=>∃b h',o=.ok b h'/\h<+:h'/\R a h' b
 |.exc c es=>∃ws h',o=.exc c ws h'/\h<+:h'/\aq A h' es ws
 |.no=>True
def RV(A:AP)(h:Hs):FV->Hs->Val->Prop:=λx h' v=>Dn A h' x.2 v/\(x.1=true->Dn (Fr h.length) h' x.2 v)
def Zi(A:AP)(h:Hs):Bool×List Val->Hs->List Val->Prop:=λx h' v=>aq A h' x.2 v/\(x.1=true->aq (Fr h.length) h' x.2 v)
def V8(A:AP):FV->Hs->Val->Prop:=λx h' v=>DB A h' x.2 v
def Kc(A:AP)(h:Hs):List Val->List Val->Prop
 |[],vs=>vs=[]
 |d::ds,vs=>∃v r,vs=v::r/\DB A h d v/\Kc A h ds r
def ER(A:AP)(af:bC)(env:Env)(h:Hs):Prop:=∀(i:Nat) (f:Mk) (d:Val),af[i]?=some (some (f,d)) ->
 if iJ f=false then ∃a,env[i]?=some (some (.ref a))/\OD A h d a else ∃v,env[i]?=some (some v)/\Dn A h d v
section
variable {A:AP} {h h1:Hs} {α β γ δ:Type}
theorem Up.ext(u:Up A h)(p:h<+:h1):Up A h1:=λk hk=>u k (aaN p.length_le hk)
theorem ER.ext(e:ER A af env h)(p:h<+:h1):ER A af env h1:=λi f d q=>by
 have:=e i f d q;revert this;generalize iJ f=t;intro this;cases t with
 |false=>rw[aak rfl]at this |-;obtain⟨a,k2,k3⟩:=this;exact⟨a,k2,k3.ext p⟩
 |true=>rw[aam (by decide)]at this |-;obtain⟨v,k1,k2⟩:=this;exact⟨v,k1,k2.ext p⟩
theorem aj(r:Rel A h R (m h) p)(k:∀a h1 b,h<+:h1->R a h1 b->Rel A h1 R' (f b h1) (F a)):Rel A h R' (bnd m f h) (pb p F):=by
 unfold bnd;cases p with
 |ok a=>
  obtain⟨b,h1,e,q,r⟩:=r;rw[e];show Rel A h R' (f b h1) (F a);have:=k a h1 b q r;cases e2:F a with
  |ok c=>rw[e2]at this;obtain⟨d,h2,e3,q2,r2⟩:=this;exact⟨d,h2,e3,q.trans q2,r2⟩
  |exc c es=>rw[e2]at this;obtain⟨d,h2,e3,q2,r2⟩:=this;exact⟨d,h2,e3,q.trans q2,r2⟩
  |no=>trivial
 |exc c es=>obtain⟨ws,h1,e,q,r⟩:=r;rw[e];exact⟨ws,h1,rfl,q,r⟩
 |no=>trivial
theorem aH(r:R a h b):Rel A h R (ret b h) (.ok a):=⟨b,h,rfl,aaK _,r⟩
theorem bW(r:∀a,o=some a->∃b,o'=some b/\R a h b):Rel A h R (bM o' h) (pl o):=by
 cases o with
 |none=>trivial
 |some a=>obtain⟨b,rfl,q⟩:=r a rfl;exact⟨b,h,rfl,aaK _,q⟩
theorem cN(r:∀a,o=some a->∃b,f h=some b/\R a h b):Rel A h R (ask f h) (pl o):=bW r
theorem bZ{c c':Bool}(e:c=true->c'=true)(r:c=true->Rel A h R (m h) p):Rel A h R (az c' m h) (pg c p):=by
 unfold az pg;cases c with
 |true=>rw[aak (e rfl),aak rfl];exact r rfl
 |false=>rw[aam aab];trivial
theorem yR(r:Rel A h R o p)(k:∀a h' b,h<+:h'->R a h' b->R' a h' b):Rel A h R' o p:=by
 cases p with
 |ok a=>obtain⟨b,h',e,q,r⟩:=r;exact⟨b,h',e,q,k a h' b q r⟩
 |exc c es=>exact r
 |no=>trivial
theorem cj(o:Ob):h<+:h++[o]:=aa7 _ _
theorem n5(o:Ob):(h++[o])[h.length]?=some o:=by simp
theorem gz{f:Bool}{h0:Hs}(u:Up A h)(p:h0<+:h)(q:aq A h xs vs)(g:f=true->aq (Fr h0.length) h xs vs):Rel A h (RV A h0) (new (.lst vs) h) (.ok (f,.rl xs)):=by
 refine⟨_,_,rfl,cj _,?_,λhf=>?_⟩
 ·show Dn A _ (.rl xs) _;rw[Dn];exact .inr ⟨_,vs,rfl,u _ (aao _),n5 _,q.ext (cj _)⟩
 ·show Dn _ _ (.rl xs) _;rw[Dn];exact .inr ⟨_,vs,rfl,p.length_le,n5 _,(g hf).ext (cj _)⟩
theorem tD{h0:Hs}(q:Dn A h d v):RV A h0 (jx d,d) h v:=⟨q,λhi=>(eX d v hi).mpr ((eX d v hi).mp q)⟩
theorem iK(q:aq A h ds vs)(hi:bD ds=true):aq A' h' ds vs:=(aP ds vs hi).mpr ((aP ds vs hi).mp q)
theorem jk{i:Int}{h0:Hs}{f:Bool}:RV A h0 (f,.int i) h (.int i):=⟨by rw[Dn],λ_=>by rw[Dn]⟩
theorem qu{i:Bool}{h0:Hs}{f:Bool}:RV A h0 (f,.bl i) h (.bl i):=⟨by rw[Dn],λ_=>by rw[Dn]⟩
theorem RV.br{h0:Hs}(r:RV A h0 x h v):V8 A x h v:=.inl r.1
theorem Kd(ho:o≠.add)(v w:Val):(∃i j,v=.int i/\w=.int j)\/dZ o v w=.no:=by
 cases v with
 |int i=>
  cases w with
  |int j=>exact .inl ⟨i,j,rfl,rfl⟩
  |_=>right;cases o<;>first|rfl|exact absurd rfl ho
 |_=>right;cases o<;>first|rfl|exact absurd rfl ho
theorem Ke{h0:Hs}(u:Up A h)(p:h0<+:h)(a:DB A h d v)(c:DB A h e w):Rel A h (RV A h0) (Nd o v w h) (dZ o d e):=by
 have ii:o≠.add->(∃i j,d=.int i/\e=.int j)\/dZ o d e=.no:=λho=>Kd ho d e;cases o with
 |add=>
  cases d<;>cases e<;>first|trivial|skip
  ·have:=a.int;subst this;have:=c.int;subst this;exact aH jk
  ·rename_i xs ys
   obtain⟨vs,e1,q1⟩:=a.lst;obtain⟨ws,e2,q2⟩:=c.lst;have eb:Nd .add v w=bnd (ask λh=>aI h v) λa=>bnd (ask λh=>aI h w) λb=>az (decide (a.length+b.length<=sizeLine)) (new (.lst (a++b))):=by
    cases v<;>simp only[aI]at e1<;>first|(cases e1;done)|skip
    all_goals cases w<;>simp only[aI]at e2<;>first|(cases e2;done)|rfl
   have ev:Nd .add v w h=az (decide (vs.length+ws.length<=sizeLine)) (new (.lst (vs++ws))) h:=by rw[eb];unfold bnd ask bM;dsimp only;rw[e1];dsimp only;rw[e2]
   rw[ev];refine bZ (λz=>?_) λ_=>gz u p (q1.append q2) λhi=>iK (q1.append q2) hi;rw[<-q1.length,<-q2.length];exact z
 |_=>
  rcases ii (by intro z;cases z) with ⟨i,j,rfl,rfl⟩|z
  case inr=>rw[z];trivial
  have:=a.int;subst this;have:=c.int;subst this
  first
   |exact aH jk
   |exact bZ (λz=>z) λ_=>aH jk
theorem Kf{lo hi:Option Int}{h0:Hs}(u:Up A h)(p:h0<+:h)(a:DB A h d v):Rel A h (RV A h0) (uw v lo hi h) (Dg d lo hi):=by
 cases d with
 |tup ds=>
  obtain⟨vs,rfl,q⟩:=a.tup;have l:=q.length;simp only[Dg,uw];refine bZ (λz=>?_) λ_=>aH ⟨?_,λhi=>?_⟩
  ·rw[l]at z;exact z
  ·show Dn A h (.tup _) _;rw[Dn];exact⟨_,rfl,q.cut lo hi⟩
  ·show Dn _ h (.tup _) _;rw[Dn];exact⟨_,rfl,iK (q.cut _ _) hi⟩
 |rl ds=>
  obtain⟨vs,e1,q⟩:=a.lst;have ev:uw v lo hi h=new (.lst (cg vs lo hi)) h:=by
   have:uw v lo hi=bnd (ask λh=>aI h v) λxs=>new (.lst (cg xs lo hi)):=by cases v<;>simp only[aI]at e1<;>first|(cases e1;done)|rfl
   rw[this];unfold bnd ask bM;dsimp only;rw[e1]
  rw[ev];exact gz u p (q.cut lo hi) λhh=>iK (q.cut lo hi) hh
 |_=>trivial
theorem Kc.one(e:Kc A h [d] vs):∃v,vs=[v]/\DB A h d v:=by
 obtain⟨v,r,rfl,a,b⟩:=e;cases (show r=[] from b);exact⟨v,rfl,a⟩
theorem FE(q:aq A h ds vs)(e:gc ds=some ns):vs=ds:=by
 have:bD ds=true:=by
  clear q
  induction ds generalizing ns with
  |nil=>rfl
  |cons d ds ih=>
   simp only[gc,cM]at e;obtain⟨i,e1,e⟩:=aad.mp e;obtain⟨is,e2,e⟩:=aad.mp e;cases d<;>first|(cases e1;done)|skip
   rw[bD,jx,Bool.true_and];exact ih e2
 exact(aP ds vs this).mp q
theorem tF:∀{ds:List Val} {ns:List Int},cE ds=some ns->bD ds=true
 |[],_,_=>rfl
 | d::ds,ns,e=>by
  simp only[cE,cM]at e;obtain⟨i,e1,e⟩:=aad.mp e;obtain⟨is,e2,e⟩:=aad.mp e;cases d<;>first|(cases e1;done)|skip
  rw[bD,jx,Bool.true_and];exact tF (show cE ds=some is from e2)
theorem yS:∀{ds:List Val} {ns:List (List Int)},mG ds=some ns->bD ds=true
 |[],_,_=>rfl
 | d::ds,ns,e=>by
  simp only[mG,cM]at e;obtain⟨i,e1,e⟩:=aad.mp e;obtain⟨is,e2,e⟩:=aad.mp e;cases d<;>first|(cases e1;done)|skip
  rename_i vs;dsimp only at e1;split at e1
  ·cases e1
  ·rw[bD,jx,tF e1,Bool.true_and];exact yS (show mG ds=some is from e2)
theorem aO:∀ns:List Int,bD (ns.map .int)=true
 |[]=>rfl
 |n::ns=>by rw[aaq,bD,jx,Bool.true_and];exact aO ns
theorem n6:∀qW:List (List Int),bD (qW.map nT)=true
 |[]=>rfl
 |n::ns=>by rw[aaq,bD,nT,jx,aO,Bool.true_and];exact n6 ns
theorem vv(e:fz xs=some ys):bD xs=true/\bD ys=true:=by
 unfold fz at e;split at e
 ·cases e2:cE xs with
  |some ns=>rw[e2]at e;cases e;exact⟨tF e2,aO _⟩
  |none=>rw[e2]at e;obtain⟨qW,e3,e4⟩:=aad.mp e;cases e4;exact⟨yS e3,n6 _⟩
 ·cases e
theorem Kg{h0:Hs}(u:Up A h)(p:h0<+:h)(a:Kc A h ds vs):Rel A h (RV A h0) (blt b vs h) (iS b ds):=by
 match ds,a with
 |[],a=>cases b<;>trivial
 |[d],a=>
  obtain⟨v,rfl,hv⟩:=a.one;cases b with
  |len=>exact aj (R:=λn _ m=>m=n) (cN λn e=>⟨n,OG hv e,rfl⟩) λn h1 m _ e=>by subst e;exact aH jk
  |min=>cases d<;>trivial
  |max=>cases d<;>trivial
  |sorted=>
   cases d<;>first|trivial|skip
   rename_i xs;obtain⟨ws,e1,q⟩:=hv.lst;have ev:bnd (ask λh=>aI h v) (λxs=>bnd (bM (fz xs)) λys=>new (.lst ys)) h=bnd (bM (fz ws)) (λys=>new (.lst ys)) h:=by unfold bnd ask bM;dsimp only;rw[e1]
   show Rel A h (RV A h0) (bnd (ask λh=>aI h v) (λxs=>bnd (bM (fz xs)) λys=>new (.lst ys)) h) _;rw[ev];refine aj (R:=λys _ zs=>zs=ys/\bD ys=true) (bW λys e=>?_) λys h1 zs q1 hz=>?_
   ·obtain⟨i1,i2⟩:=vv e;rw[(aP xs ws i1).mp q];exact⟨ys,e,rfl,i2⟩
   ·obtain⟨rfl,hi⟩:=hz;exact gz (u.ext q1) (p.trans q1) ((aP _ _ hi).mpr rfl) λ_=>(aP _ _ hi).mpr rfl
  |list=>refine aj (R:=λxs h' ws=>aq A h' xs ws) (cN λxs e=>hv.seq e) λxs h1 ws q1 q=>?_;exact gz (u.ext q1) (p.trans q1) q λhi=>iK q hi
  |tuple=>trivial
  |str=>trivial
  |int=>
   cases d<;>first|trivial|skip
   ·have:=hv.bl;subst this;exact aH jk
   ·have:=hv.int;subst this;exact aH jk
  |all=>
   cases d<;>first|trivial|skip
   rename_i xs;obtain⟨ws,e1,q⟩:=hv.lst;have ev:bnd (ask λh=>aI h v) (λxs=>bnd (bM (gc xs)) λbs=>ret (Val.bl (bs.all id))) h=bnd (bM (gc ws)) (λbs=>ret (Val.bl (bs.all id))) h:=by unfold bnd ask bM;dsimp only;rw[e1]
   show Rel A h (RV A h0) (bnd (ask λh=>aI h v) (λxs=>bnd (bM (gc xs)) λbs=>ret (Val.bl (bs.all id))) h) _;rw[ev];exact aj (R:=λys _ zs=>zs=ys) (bW λys e=>⟨ys,by rw[FE q e];exact e,rfl⟩) λys h1 zs q1 hz=>by subst hz;exact aH qu
  |any=>trivial
  |isin T=>refine aj (R:=λn _ m=>m=n) (cN λn e=>⟨n,Sh hv e,rfl⟩) λn h1 m _ e=>?_;subst e;exact aj (R:=λn _ m=>m=n) (bW λn e=>⟨n,e,rfl⟩) λn h1 m _ e=>by subst e;exact aH qu
 |[d,e],a=>
  obtain⟨v,r,rfl,hv,hr⟩:=a;obtain⟨w,rfl,hw⟩:=Kc.one hr;cases b<;>first|trivial|(cases d<;>trivial)|skip
  ·cases d<;>cases e<;>first|trivial|skip
   have:=hv.int;subst this;have:=hw.int;subst this;exact aH jk
  ·cases d<;>cases e<;>first|trivial|skip
   have:=hv.int;subst this;have:=hw.int;subst this;exact aH jk
 |x::y::z::t,a=>cases b<;>first|trivial|(cases x<;>trivial)|(cases x<;>cases y<;>trivial)
end
def Imp(φ:List Val->M Val)(ψ:List Val->Pr FV):Prop:=∀(A:AP) (h:Hs) (ds vs:List Val),Up A h->aq A h ds vs->Rel A h (RV A h) (φ vs h) (ψ ds)
section
variable {Φ:Nat->List Val->M Val} {Ψ:Nat->List Val->Pr FV} {A:AP} {h h1:Hs}
theorem gZ{x y:Bool}(f:(x&&y)=true):x=true/\y=true:=Bool.and_eq_true_iff.mp f
theorem xh{x y z:Bool}(f:(x&&y&&z)=true):(x=true/\y=true)/\z=true:=⟨gZ (gZ f).1,(gZ f).2⟩
def ck(Φ:Nat->List Val->M Val)(Ψ:Nat->List Val->Pr FV)(ir:IE):Prop:=∀(af:bC) (env:Env) (A:AP) (h:Hs),Up A h->ER A af env h->Rel A h (RV A h) (aB Φ ir env h) (bg Ψ ir af)
def l0(Φ:Nat->List Val->M Val)(Ψ:Nat->List Val->Pr FV)(fK:nQ):Prop:=(∀(af:bC) (env:Env) (A:AP) (h:Hs),Up A h->ER A af env h->Rel A h (Zi A h) (aF Φ fK env h) (qP Ψ fK af)) /\
 ∀(af:bC) (env:Env) (A:AP) (h:Hs),Up A h->ER A af env h->Rel A h (λds h' vs=>Kc A h' ds vs) (aF Φ fK env h) (gI Ψ fK af)
theorem RV.up{h0 h':Hs}(p:h0<+:h)(r:RV A h x h' v):RV A h0 x h' v:=⟨r.1,λf=>(r.2 f).wid (Fr.le p.length_le)⟩
theorem FF{h0:Hs}(p:h0<+:h)(r:Rel A h (RV A h) o x):Rel A h (RV A h0) o x:=yR r λ_ _ _ _ q=>q.up p
theorem Si{i:Nat}(e:ER A af env h):Rel A h (V8 A) (aB Φ (.var i) env h) (pl (jg af (.var i))):=by
 rw[aB];refine bW λx hx=>?_;simp only[jg]at hx;split at hx
 ·rename_i f d hd
  cases hx;have:=e i f d hd;revert this;generalize iJ f=t;intro this;cases t with
  |false=>rw[aak rfl]at this;obtain⟨a,k2,k3⟩:=this;exact⟨.ref a,by rw[k2],.inr ⟨a,rfl,k3⟩⟩
  |true=>rw[aam (by decide)]at this;obtain⟨v,k1,k2⟩:=this;exact⟨v,by rw[k1],.inl k2⟩
 ·cases hx
theorem kM(o:ck Φ Ψ ir)(u:Up A h)(e:ER A af env h):Rel A h (V8 A) (aB Φ ir env h) (if isVar ir=true then pl (jg af ir) else bg Ψ ir af):=by
 by_cases hv:isVar ir=true
 ·rw[aak hv];cases ir<;>first|(cases hv;done)|exact Si e
 ·rw[aam hv];exact yR (o af env A h u e) λ_ _ _ _ q=>q.br
theorem Kh{α β:Type}{R:α -> Hs -> β -> Prop}{c:Bool}{o:Out β}{p:Pr α}(r:c=true->Rel A h R o p):Rel A h R o (pg c p):=by
 unfold pg;cases c with
 |true=>rw[aak rfl];exact r rfl
 |false=>rw[aam aab];trivial
theorem v_var{i:Nat}:ck Φ Ψ (.var i):=λaf env A h u e=>by
 rw[aB,bg];cases hv:af[i]? with
 |none=>trivial
 |some o=>
  cases o with
  |none=>trivial
  |some fd=>
   obtain⟨f,d⟩:=fd;refine Kh λhf=>?_
   ·have:=e i f d hv;rw[aam (by simp[hf])]at this;obtain⟨v,k1,k2⟩:=this;rw[k1];exact⟨v,h,rfl,aaK _,tD k2⟩
theorem BG{α:Type}{f:Hs->Option α}:ask f h=bnd (ask f) (λz=>ret z) h:=by unfold bnd ask bM;cases f h<;>rfl
theorem BH(f:jx d=true):Dn A h d d:=(eX d d f).mpr rfl
theorem Sj(f:jx d=true):ck Φ Ψ (.cst d):=λaf env A h u e=>by rw[aB,bg];exact aH (tD (BH f))
theorem Sk(f:jx d=true):ck Φ Ψ (.con x d):=λaf env A h u e=>by rw[aB,bg];exact aH (tD (BH f))
theorem V9:ck Φ Ψ .no:=λaf env A h u e=>by rw[bg];trivial
theorem Sm(ha:ck Φ Ψ a)(hb:ck Φ Ψ b):ck Φ Ψ (.bin o a b):=λaf env A h u e=>by
 rw[aB,bg];exact aj (kM ha u e) λx h1 v p1 q1=>aj (kM hb (u.ext p1) (e.ext p1)) λy h2 w p2 q2=>Ke ((u.ext p1).ext p2) (p1.trans p2) (DB.ext p2 q1) q2
theorem Sn(ha:ck Φ Ψ a):ck Φ Ψ (.neg a):=λaf env A h u e=>by
 rw[aB,bg];refine aj (ha af env A h u e) λx h1 v p1 q1=>?_;obtain⟨f,d⟩:=x;have q:=q1.1;cases d<;>dsimp only<;>first|trivial|skip
 dsimp only at q;rw[Dn]at q;subst q;exact aH jk
theorem So(ha:ck Φ Ψ a)(hb:ck Φ Ψ b):ck Φ Ψ (.cmp o a b):=λaf env A h u e=>by
 rw[aB,bg];exact aj (kM ha u e) λx h1 v p1 q1=>aj (kM hb (u.ext p1) (e.ext p1)) λy h2 w p2 q2=>
  aj (R:=λt _ t'=>t'=t) (cN λt et=>⟨t,OF (DB.ext p2 q1) q2 et,rfl⟩) λt h3 t' p3 et=>by subst et;exact aH qu
theorem Sq(ha:ck Φ Ψ a)(hb:ck Φ Ψ b)(hc:ck Φ Ψ c):ck Φ Ψ (.chn o o' a b c):=λaf env A h u e=>by rw[bg];trivial
theorem kN(q:Dn A h d v):Rel A h (λt _ t'=>t'=t) (sG v h) (nZ d):=by
 cases d<;>first|trivial|skip
 rw[Dn]at q;subst q;exact aH rfl
theorem v_and(ha:ck Φ Ψ a)(hb:ck Φ Ψ b):ck Φ Ψ (.and a b):=λaf env A h u e=>by
 rw[aB,bg];refine aj (ha af env A h u e) λx h1 v p1 q1=>aj (kN q1.1) λt h2 t' p2 et=>?_;subst et;cases t' with
 |true=>rw[aak rfl,aak rfl];exact aj (hb af env A h2 ((u.ext p1).ext p2) ((e.ext p1).ext p2)) λy h3 w p3 q3=>aj (kN q3.1) λt h2 t' p2 et=>by subst et;exact aH qu
 |false=>rw[aam aab,aam aab];exact aH qu
theorem v_or(ha:ck Φ Ψ a)(hb:ck Φ Ψ b):ck Φ Ψ (.or a b):=λaf env A h u e=>by
 rw[aB,bg];refine aj (ha af env A h u e) λx h1 v p1 q1=>aj (kN q1.1) λt h2 t' p2 et=>?_;subst et;cases t' with
 |false=>rw[aam aab,aam aab];exact aj (hb af env A h2 ((u.ext p1).ext p2) ((e.ext p1).ext p2)) λy h3 w p3 q3=>aj (kN q3.1) λt h2 t' p2 et=>by subst et;exact aH qu
 |true=>rw[aak rfl,aak rfl];exact aH qu
theorem v_not(ha:ck Φ Ψ a):ck Φ Ψ (.not a):=λaf env A h u e=>by
 rw[aB,bg];exact aj (ha af env A h u e) λx h1 v p1 q1=>aj (kN q1.1) λt h2 t' p2 et=>by subst et;exact aH qu
theorem v_ite(hc:ck Φ Ψ c)(ha:ck Φ Ψ a)(hb:ck Φ Ψ b):ck Φ Ψ (.ite c a b):=λaf env A h u e=>by rw[bg];trivial
theorem LL:l0 Φ Ψ .nil:=⟨λaf env A h u e=>by rw[aF,qP];exact aH ⟨aq.nil,λ_=>aq.nil⟩,λaf env A h u e=>by rw[aF,gI];exact aH rfl⟩
theorem FG(he:ck Φ Ψ e)(hs:l0 Φ Ψ es):l0 Φ Ψ (.cons e es):=by
 refine⟨λaf env A h u er=>?_,λaf env A h u er=>?_⟩
 ·rw[aF,qP]
  refine aj (he af env A h u er) λx h1 v p1 q1=>aj (hs.1 af env A h1 (u.ext p1) (er.ext p1)) λy h2 vs p2 q2=>?_;refine aH ⟨aq.cons (q1.1.ext p2) q2.1,λhf=>?_⟩;have hf':x.1=true/\y.1=true:=by simpa using hf
  exact aq.cons ((q1.2 hf'.1).ext p2) ((q2.2 hf'.2).wid (Fr.le p1.length_le))
 ·rw[aF,gI];refine aj (kM he u er) λx h1 v p1 q1=>aj (hs.2 af env A h1 (u.ext p1) (er.ext p1)) λy h2 vs p2 q2=>?_;exact aH ⟨v,vs,rfl,DB.ext p2 q1,q2⟩
theorem Ss(hs:l0 Φ Ψ es):ck Φ Ψ (.tup es):=λaf env A h u e=>by
 rw[aB,bg];refine aj (hs.1 af env A h u e) λx h1 vs p1 q1=>bZ (λz=>by rw[<-q1.1.length];exact z) λ_=>aH ⟨?_,λhf=>?_⟩
 ·show Dn A h1 (.tup _) _;rw[Dn];exact⟨vs,rfl,q1.1⟩
 ·show Dn _ h1 (.tup _) _;rw[Dn];exact⟨vs,rfl,q1.2 hf⟩
theorem OL:ck Φ Ψ .dct0:=λaf env A h u e=>by
 rw[aB,bg];refine⟨_,_,rfl,cj _,?_,λhf=>?_⟩
 ·show Dn A _ (.dc [] []) _;rw[Dn];exact⟨_,[],rfl,u _ (aao _),n5 _,rfl,aq.nil⟩
 ·show Dn _ _ (.dc [] []) _;rw[Dn];exact⟨_,[],rfl,aao _,n5 _,rfl,aq.nil⟩
theorem OM(hk:ck Φ Ψ k)(hv:ck Φ Ψ v):ck Φ Ψ (.dct1 k v):=λaf env A h u e=>by rw[bg];trivial
theorem ON(hd:ck Φ Ψ d)(hk:ck Φ Ψ k)(hx:ck Φ Ψ x):ck Φ Ψ (.dget d k x):=λaf env A h u e=>by rw[bg];trivial
theorem Kl(hd:ck Φ Ψ d):ck Φ Ψ (.lkeys d):=λaf env A h u e=>by
 rw[aB,bg];refine aj (kM hd u e) λo h1 v p1 q1=>aj (R:=λks _ ks'=>ks'=ks) (cN λks ek=>⟨ks,tw q1 ek,rfl⟩) λks h2 ks' p2 hk=>?_;subst hk;exact gz ((u.ext p1).ext p2) (p1.trans p2) ((aP _ _ (kL ks')).mpr rfl) λ_=>(aP _ _ (kL ks')).mpr rfl
theorem Km(hd:ck Φ Ψ d):ck Φ Ψ (.skeys d):=λaf env A h u e=>by
 rw[aB,bg];refine aj (kM hd u e) λo h1 v p1 q1=>aj (R:=λns _ ns'=>ns'=ns) (cN λns en=>⟨ns,?_,rfl⟩) λns h2 ns' p2 hk=>?_
 ·unfold mZ at en |-;obtain⟨ks,e1,e2⟩:=aad.mp en;rw[tw q1 e1];exact e2
 ·subst hk;exact gz ((u.ext p1).ext p2) (p1.trans p2) ((aP _ _ (aO ns')).mpr rfl) λ_=>(aP _ _ (aO ns')).mpr rfl
theorem kO:∀{xs:List Val} {ns:List Int},cE xs=some ns->xs=ns.map .int
 |[],ns,e=>by cases e;rfl
 | x::xs,ns,e=>by
  unfold cE at e;rw[cM]at e;obtain⟨i,e1,e⟩:=aad.mp e;obtain⟨r,e2,e⟩:=aad.mp e;cases e;cases x<;>simp at e1;subst e1;rw[kO e2];rfl
theorem OO{p q:Nat}(hd:ck Φ Ψ d)(hw:ck Φ Ψ w):ck Φ Ψ (.dflt N' js p q d w):=λaf env A h u e=>by rw[bg];trivial
theorem Su(ha:ck Φ Ψ a):ck Φ Ψ (.isc a x bs):=λaf env A h u e=>by rw[bg];trivial
theorem OP(ha:ck Φ Ψ a):ck Φ Ψ (.sset a):=λaf env A h u e=>by
 rw[aB,bg];refine aj (kM ha u e) λx h1 v p1 q1=>?_;obtain⟨f,d⟩:=x;cases d<;>first|trivial|skip
 rename_i xs;obtain⟨vs,e1,e2⟩:=DB.lst q1;have ea:∀(F:List Val->M Val),bnd (ask λh=>aI h v) F h1=F vs h1:=λF=>by unfold bnd ask bM;dsimp only;rw[e1]
 rw[ea];show Rel A h1 _ _ (pb (pl (cE xs)) _);refine aj (R:=λns h' ns'=>ns'=ns) (bW λns en=>⟨ns,?_,rfl⟩) λns h2 ns' p2 en=>?_
 ·have ei:=kO en;subst ei;rw[(aP _ _ (aO ns)).mp e2];exact en
 ·subst en;refine bZ (λz=>z) λ_=>?_;have hi:∀ms:List Int,aq A h2 (ms.map Val.int) (ms.map Val.int):=λms=>(aP _ _ (aO ms)).mpr rfl;exact gz ((u.ext p1).ext p2) (p1.trans p2) (hi _) λ_=>(aP _ _ (aO _)).mpr rfl
theorem Kn(ha:ck Φ Ψ a):ck Φ Ψ (.svals a):=λaf env A h u e=>by
 rw[aB,bg];refine aj (kM ha u e) λx h1 v p1 q1=>?_;obtain⟨f,d⟩:=x;cases d<;>first|trivial|skip
 rename_i xs;obtain⟨vs,e1,e2⟩:=DB.lst q1;have ea:∀(F:List Val->M Val),bnd (ask λh=>aI h v) F h1=F vs h1:=λF=>by unfold bnd ask bM;dsimp only;rw[e1]
 rw[ea];show Rel A h1 _ _ (pb (pl (cE xs)) _);refine aj (R:=λns h' ns'=>ns'=ns) (bW λns en=>⟨ns,?_,rfl⟩) λns h2 ns' p2 en=>?_
 ·have ei:=kO en;subst ei;rw[(aP _ _ (aO ns)).mp e2];exact en
 ·subst en;exact bZ (λz=>z) λ_=>aH jk
theorem Sv(hs:l0 Φ Ψ es):ck Φ Ψ (.lst es):=λaf env A h u e=>by
 rw[aB,bg];exact aj (hs.1 af env A h u e) λx h1 vs p1 q1=>bZ (λz=>by rw[<-q1.1.length];exact z) λ_=>gz (u.ext p1) p1 q1.1 q1.2
theorem Sw(ha:ck Φ Ψ a)(hb:ck Φ Ψ b):ck Φ Ψ (.idx a b):=λaf env A h u e=>by
 rw[aB,bg];refine aj (kM ha u e) λx h1 v p1 q1=>aj (hb af env A h1 (u.ext p1) (e.ext p1)) λy h2 w p2 q2=>?_;rw[BG];exact aj (R:=λz h' z'=>Dn A h' z z') (cN λz ez=>OH (DB.ext p2 q1) q2.1 ez) λz h3 z' p3 q3=>aH (tD q3)
theorem kP(o:ck Φ Ψ ir)(u:Up A h)(e:ER A af env h) :
  Rel A h (λ(t:Option Int) _ t'=>t'=t) ((if dg ir=true then ret none else bnd (aB Φ ir env) λv=>bnd (bM (kG v)) λi=>ret (some i)) h) (if dg ir=true then .ok none else pb (bg Ψ ir af) λv=>pb (pl (kG v.2)) λi=>.ok (some i)):=by
 by_cases hn:dg ir=true
 ·rw[aak hn,aak hn];exact aH rfl
 ·rw[aam hn,aam hn]
  refine aj (o af env A h u e) λx h1 v p1 q1=>aj (R:=λt _ t'=>t'=t) (bW λi ei=>?_) λt h2 t' p2 et=>by subst et;exact aH rfl
  obtain⟨f,d⟩:=x;have q:=q1.1;cases d<;>first|(cases ei;done)|skip
  dsimp only at q;rw[Dn]at q;subst q;exact⟨i,ei,rfl⟩
theorem Sx(ha:ck Φ Ψ a)(hl:ck Φ Ψ lo)(hh:ck Φ Ψ hi):ck Φ Ψ (.slc a lo hi):=λaf env A h u e=>by
 rw[aB,bg];refine aj (kM ha u e) λx h1 v p1 q1=>aj (kP hl (u.ext p1) (e.ext p1)) λl h2 l' p2 el=>aj (kP hh ((u.ext p1).ext p2) ((e.ext p1).ext p2)) λr h3 r' p3 er=>?_;subst el;subst er;exact Kf (((u.ext p1).ext p2).ext p3) ((p1.trans p2).trans p3) (DB.ext (p2.trans p3) q1)
theorem Sy(ha:ck Φ Ψ a)(hs:ck Φ Ψ sx):ck Φ Ψ (.rev a sx):=λaf env A h u e=>by
 rw[aB,bg];refine aj (kM ha u e) λx h1 v p1 q1=>aj (kP hs (u.ext p1) (e.ext p1)) λl h2 l' p2 el=>?_;subst el;refine bZ (λz=>z) λ_=>?_;obtain⟨f,d⟩:=x;cases d with
 |rl ds=>
  obtain⟨vs,e1,q⟩:=DB.lst (DB.ext p2 q1);have ev:bnd (ask λh=>aI h v) (λxs=>new (.lst xs.reverse)) h2=new (.lst vs.reverse) h2:=by unfold bnd ask bM;dsimp only;rw[e1]
  rw[ev];exact gz ((u.ext p1).ext p2) (p1.trans p2) (aq.rev q) λhh=>iK (aq.rev q) hh
 |_=>trivial
theorem OQ{j:Nat}(hΦ:∀j,Imp (Φ j) (Ψ j))(hs:l0 Φ Ψ es):ck Φ Ψ (.call j es):=λaf env A h u e=>by
 rw[aB,bg];exact aj (hs.1 af env A h u e) λx h1 vs p1 q1=>FF p1 (hΦ j A h1 x.2 vs (u.ext p1) q1.1)
theorem Sz{n:Nat}(ha:ck Φ Ψ a):ck Φ Ψ (.fld n a x):=λaf env A h u e=>by
 rw[aB,bg];refine aj (kM ha u e) λo h1 v p1 q1=>?_;rw[BG];exact aj (R:=λz h' z'=>Dn A h' z z') (cN λz ez=>OI q1 ez) λz h3 z' p3 q3=>aH (tD q3)
theorem SA(hΦ:∀j,Imp (Φ j) (Ψ j))(ha:ck Φ Ψ a)(hs:l0 Φ Ψ es):ck Φ Ψ (.mth a m js es):=λaf env A h u e=>by
 rw[aB,bg];refine aj (ha af env A h u e) λo h1 v p1 q1=>aj (R:=λj _ j'=>j'=j) (cN λj ej=>⟨j,OJ (.inl q1.1) ej,rfl⟩) λj h2 j' p2 hj=>?_;subst hj;exact aj (hs.1 af env A h2 ((u.ext p1).ext p2) ((e.ext p1).ext p2)) λx h3 vs p3 q3=>FF ((p1.trans p2).trans p3) (hΦ j' A h3 (o.2::x.2) (v::vs) (((u.ext p1).ext p2).ext p3) (aq.cons (q1.1.ext (p2.trans p3)) q3.1))
theorem SD(hs:l0 Φ Ψ es):ck Φ Ψ (.blt b es):=λaf env A h u e=>by
 rw[aB,bg];exact aj (hs.2 af env A h u e) λx h1 vs p1 q1=>Kg (u.ext p1) p1 q1
theorem SE(ha:ck Φ Ψ a)(hs:l0 Φ Ψ es):ck Φ Ψ (.met m a es):=λaf env A h u e=>by
 cases m with
 |join=>rw[bg];trivial
 |_=>rw[bg]<;>first|trivial|(intro z;cases z)
def SrcR(A:AP)(h:Hs)(xs:List Val)(src:Src):Prop:=∃ws,aq A h xs ws/\∀h',h<+:h'->src.items h'=some ws
theorem lU{lo:Int}{n:Nat}:aq A h (bH lo n) (bH lo n):=by
 unfold bH;generalize List.range n=l
 induction l with
 |nil=>exact aq.nil
 |cons a l ih=>exact aq.cons (by rw[Dn]) ih
theorem jB:∀{xs ws:List Val} (i:Nat),aq A h xs ws->aq A h (sE i xs) (sE i ws)
 |[],ws,i,q=>by rw[aq]at q;subst q;exact aq.nil
 | x::xs,ws,i,q=>by
  rw[aq]at q;obtain⟨w,r,rfl,a,b⟩:=q;exact aq.cons (by rw[Dn];exact⟨_,rfl,aq.cons (by rw[Dn]) (aq.cons a aq.nil)⟩) (jB (i+1) b)
theorem BI{ds vs:List Val}(a:DB A h (.rl ds) v):∃ws,aq A h ds ws/\((v=.rl ws)\/∃i,v=.ref i/\∀h',h<+:h'->aI h' (.ref i)=some ws):=by
 rcases a with a|⟨i,rfl,vs,g,q⟩
 ·rw[Dn]at a
  rcases a with ⟨vs,rfl,_,q⟩|⟨i,vs,rfl,_,g,q⟩
  ·exact⟨vs,q,.inl rfl⟩
  ·exact⟨vs,q,.inr ⟨i,rfl,λh' p=>by simp[aI,bP p g]⟩⟩
 ·exact⟨vs,q,.inr ⟨i,rfl,λh' p=>by simp[aI,bP p g]⟩⟩
theorem BJ(a:Kc A h ds vs):Rel A h (λxs h' src=>SrcR A h' xs src) (bM (srcOf k vs) h) (pl (Fy k ds)):=by
 refine bW λxs e=>?_;cases k with
 |seq=>
  match ds,e with
  |[.tup es],e=>cases e;obtain⟨v,rfl,hv⟩:=a.one;obtain⟨ws,rfl,q⟩:=hv.tup;exact⟨.fix ws,rfl,ws,q,λ_ _=>rfl⟩
  |[.rl es],e=>
   cases e;obtain⟨v,rfl,hv⟩:=a.one;obtain⟨ws,q,rfl|⟨i,rfl,g⟩⟩:=BI (vs:=[]) hv
   ·exact⟨.fix ws,rfl,ws,q,λ_ _=>rfl⟩
   ·exact⟨.live i,rfl,ws,q,λh' p=>g h' p⟩
 |range=>
  match ds,e with
  |[.int n],e=>
   obtain⟨v,rfl,hv⟩:=a.one;have:=hv.int;subst this;change (if inR n=true then some (bH 0 n.toNat) else none)=some _ at e;split at e
   ·rename_i hn;cases e;exact⟨.fix _,aak hn,_,lU,λ_ _=>rfl⟩
   ·cases e
  |[.int n,.int m],e=>
   obtain⟨v,r,rfl,hv,hr⟩:=a;obtain⟨w,rfl,hw⟩:=Kc.one hr;have:=hv.int;subst this;have:=hw.int;subst this;change (if (inR n&&inR m)=true then some (bH n (m-n).toNat) else none)=some _ at e;split at e
   ·rename_i hn;cases e;exact⟨.fix _,aak hn,_,lU,λ_ _=>rfl⟩
   ·cases e
 |enum=>
  match ds,e with
  |[.rl es],e=>
   cases e;obtain⟨v,rfl,hv⟩:=a.one;obtain⟨ws,q,rfl|⟨i,rfl,g⟩⟩:=BI (vs:=[]) hv
   ·exact⟨.fix _,rfl,_,jB 0 q,λ_ _=>rfl⟩
   ·exact⟨.enum i,rfl,_,jB 0 q,λh' p=>by simp[Src.items,g h' p]⟩
 |zip=>cases e
theorem BK:∀{is:List Nat} {ds vs:List Val} {af aQ:bC} {env:Env},cQ is ds af=some aQ->aq A h ds vs->ER A af env h->(∀i∈is,i<af.length->i<env.length)->∃env',bindAll is vs env=some env'/\ER A aQ env' h
 | [],[],vs,af,aQ,env,e,q,er,_=>by
  rw[aq]at q;subst q;simp only[cQ]at e;cases e;exact⟨env,rfl,er⟩
 | i::is,d::ds,vs,af,aQ,env,e,q,er,hl=>by
  rw[aq]at q;obtain⟨v,r,rfl,q1,q2⟩:=q;simp only[cQ]at e;have Zj:ER A (af.set i (some (.sh,d))) (env.set i (some v)) h:=λj f d' hj=>by
   by_cases hij:i=j
   ·subst hij
    have hi:i<af.length:=by have:=(aah.mp hj).1;simpa using this
    rw[aan hi]at hj;cases hj;rw[aam (by decide)];exact⟨v,by rw[aan (hl i aag hi)],q1⟩
   ·rw[aaf hij]at hj;rw[aaf hij];exact er j f d' hj
  simp only[bindAll];exact BK e q2 Zj λj hj hl'=>by simpa using hl j (aac _ hj) (by simpa using hl')
 |[],_::_,_,_,_,_,e,_,_,_=>by simp[cQ]at e
 |_::_,[],_,_,_,_,e,_,_,_=>by simp[cQ]at e
theorem yT(e:cF p d af=some aQ)(q:Dn A h d v)(er:ER A af env h)(hl:af.length<=env.length):∃env',fN p v env=some env'/\ER A aQ env' h:=by
 cases p with
 |one i=>
  simp only[cF]at e;cases e;refine⟨_,rfl,λj f d' hj=>?_⟩
  by_cases hij:i=j
  ·subst hij
   have hi:i<af.length:=by have:=(aah.mp hj).1;simpa using this
   rw[aan hi]at hj;cases hj;rw[aam (by decide)];exact⟨v,by rw[aan (by omega)],q⟩
  ·rw[aaf hij]at hj;rw[aaf hij];exact er j f d' hj
 |tup is=>
  cases d<;>simp only[cF]at e<;>first|(cases e;done)|skip
  rw[Dn]at q;obtain⟨vs,rfl,q⟩:=q;exact BK e q er λi _ hi=>by omega
theorem BL(e:ER A af env h):ER A (iY js af) (kF js env) h:=λi f d q=>by
 unfold iY at q;rw[aaF]at q;cases hj:js[i]? with
 |none=>rw[hj]at q;cases q
 |some o=>
  rw[hj]at q;simp only[map_some]at q;cases o with
  |none=>cases q
  |some j=>
   dsimp only at q;cases ej:af[j]? with
   |none=>rw[ej]at q;cases q
   |some w=>
    cases w with
    |none=>rw[ej]at q;cases q
    |some fd=>
     rw[ej]at q;cases q;have:=e j f d ej;revert this;generalize iJ f=t;intro this;cases t with
     |false=>rw[aak rfl]at this |-;obtain⟨a,k2,k3⟩:=this;refine⟨a,?_,k3⟩;unfold kF;rw[aaF,hj];simp only[map_some];rw[k2]
     |true=>rw[aam (by decide)]at this |-;obtain⟨v,k1,k2⟩:=this;refine⟨v,?_,k2⟩;unfold kF;rw[aaF,hj];simp only[map_some];rw[k1]
theorem tG :
  ∀(xs:List Val) (vs:List Val) (i:Nat) (acc:List Val) (h:Hs),hb<+:h->Up A h->(∀h',h<+:h'->src.items h'=some ws)->ws.drop i=vs->aq A h xs vs ->
   (∀x v h',h<+:h'->Dn A h' x v->Rel A h' (λo h'' o'=>match o,o' with|some e,some e'=>RV A hb e h'' e'|none,none=>True|_,_=>False) (f v h') (g x)) ->
   Rel A h (λp h' ys=>∃zs,ys=acc++zs/\aq A h' p.2 zs/\(p.1=true->aq (Fr hb.length) h' p.2 zs)) (gG src f vs.length i acc h) (j5 g xs)
 | [],vs,i,acc,h,Xm,u,hi,hd,q,hf=>by
  rw[aq]at q;subst q;have hl:ws.length<=i:=List.drop_eq_nil_iff.mp hd;have ev:gG src f ([]:List Val).length i acc h=.ok acc h:=by show gG src f 0 i acc h=_;simp only[gG];unfold bnd ask bM az;dsimp only;rw[hi h (aaK _)];dsimp only;rw[aak (decide_eq_true hl)];rfl
  rw[ev,j5];exact⟨acc,h,rfl,aaK _,[],by simp,aq.nil,λ_=>aq.nil⟩
 | x::xs,vs,i,acc,h,Xm,u,hi,hd,q,hf=>by
  rw[aq]at q;obtain⟨v,r,rfl,q1,q2⟩:=q;have hv:ws[i]?=some v:=by have:=congrArg (λl=>l[0]?) hd;simpa using this
  have hr:ws.drop (i+1)=r:=by
   have:ws.drop (i+1)=(ws.drop i).drop 1:=by rw[List.drop_drop]
   rw[this,hd];rfl
  have ev:gG src f (v::r).length i acc h=bnd (f v) (λo=>gG src f r.length (i+1) (match o with|some e=>acc++[e]|none=>acc)) h:=by show gG src f (r.length+1) i acc h=_;simp only[gG];unfold bnd ask bM;dsimp only;rw[hi h (aaK _)];dsimp only;rw[hv];try rfl
  rw[ev,j5];refine aj (hf x v h (aaK _) q1) λo h1 o' p1 ho=>?_;have ih:=λacc'=>tG xs r (i+1) acc' h1 (Xm.trans p1) (u.ext p1) (λh' p=>hi h' (p1.trans p)) hr (q2.ext p1) λx v h' p=>hf x v h' (p1.trans p);cases o' with
  |some e'=>
   cases o with
   |none=>exact ho.elim
   |some e=>
    have ih:=ih (acc++[e']);cases e2:j5 g xs with
    |ok p=>
     rw[e2]at ih;obtain⟨ys,h2,e3,p2,zs,rfl,z1,z2⟩:=ih;refine⟨_,h2,e3,p2,e'::zs,by simp,aq.cons (ho.1.ext p2) z1,λhp=>?_⟩;have Xn:e.1=true/\p.1=true:=by simpa using hp
     exact aq.cons ((ho.2 Xn.1).ext p2) (z2 Xn.2)
    |exc c es=>rw[e2]at ih;exact ih
    |no=>trivial
  |none=>
   cases o with
   |some e'=>exact ho.elim
   |none=>
    have ih:=ih acc;cases e2:j5 g xs with
    |ok p=>rw[e2]at ih;obtain⟨ys,h2,e3,p2,zs,rfl,z1,z2⟩:=ih;exact⟨_,h2,e3,p2,zs,rfl,z1,z2⟩
    |exc c es=>rw[e2]at ih;exact ih
    |no=>trivial
theorem OS(hs:l0 Φ Ψ it)(hc:ck Φ Ψ c)(he:ck Φ Ψ elt):ck Φ Ψ (.comp N js pat k it c elt):=λaf env A h u e=>by
 rw[aB,bg];refine aj (hs.2 af env A h u e) λds h1 vs p1 q1=>aj (BJ q1) λxs h2 src p2 q2=>?_;obtain⟨ws,q3,q4⟩:=q2;have l:=q3.length;have ev:∀(F:List Val->M Val),bnd (ask λh=>src.items h) F h2=F ws h2:=λF=>by unfold bnd ask bM;dsimp only;rw[q4 h2 (aaK _)]
 rw[ev];refine bZ (λz=>by rw[<-l];exact z) λ_=>?_;have u2:=(u.ext p1).ext p2;have e2:=(e.ext p1).ext p2;refine aj (tG (hb:=h) xs ws 0 [] h2 (p1.trans p2) u2 q4 rfl q3 λx v h' p' qx=>?_) λp h3 ys p3 hp=>?_
 ·refine aj (R:=λaQ _ env'=>∃_:ER A aQ env' h',True) (bW λaQ ev'=>?_) λaQ h4 env' p4 he'=>?_
  ·obtain⟨env',a1,a2⟩:=yT ev' qx (BL (e2.ext p')) (by simp[iY,kF]);exact⟨env',a1,a2,trivial⟩
  ·obtain⟨er,_⟩:=he'
   have er:=er.ext p4;have u4:=(u2.ext p').ext p4;have R7:Rel A h4 (λt _ t'=>t'=t) ((if dg c=true then ret true else bnd (aB Φ c env') λv=>ask λh=>cZ h v) h4) (if dg c=true then .ok true else pb (bg Ψ c aQ) λv=>pl (cZ [] v.2)):=by
    by_cases hn:dg c=true
    ·rw[aak hn,aak hn];exact aH rfl
    ·rw[aam hn,aam hn];exact aj (hc aQ env' A h4 u4 er) λy h5 w p5 q5=>cN λt et=>⟨t,wZ q5.br et,rfl⟩
   refine aj R7 λt h5 t' p5 et=>?_;subst et;cases t' with
   |true=>rw[aak rfl,aak rfl];exact aj (he aQ env' A h5 (u4.ext p5) (er.ext p5)) λy h6 w p6 q6=>aH (q6.up ((p1.trans p2).trans (p'.trans (p4.trans p5))))
   |false=>rw[aam aab,aam aab];exact aH trivial
 ·obtain⟨zs,rfl,z1,z2⟩:=hp;exact gz (u2.ext p3) ((p1.trans p2).trans p3) z1 z2
mutual
noncomputable def dW:IE->Bool
 |.cst d=>jx d
 |.con _ d=>jx d
 |.bin _ a b=>dW a&&dW b
 |.neg a=>dW a
 |.cmp _ a b=>dW a&&dW b
 |.chn _ _ a b c=>dW a&&dW b&&dW c
 |.and a b=>dW a&&dW b
 |.or a b=>dW a&&dW b
 |.not a=>dW a
 |.ite a b c=>dW a&&dW b&&dW c
 |.tup es=>n8 es
 |.lst es=>n8 es
 |.idx a b=>dW a&&dW b
 |.slc a b c=>dW a&&dW b&&dW c
 |.call _ es=>n8 es
 |.blt _ es=>n8 es
 |.met _ a es=>dW a&&n8 es
 |.comp _ _ _ _ es a b=>n8 es&&dW a&&dW b
 |.var _=>true
 |.no=>true
 |.dct0=>true
 |.sset a=>dW a
 |.dget a b c=>dW a&&dW b&&dW c
 |.dct1 a b=>dW a&&dW b
 |.lkeys a=>dW a
 |.sdef ..=>false
 |.svals a=>dW a
 |.skeys a=>dW a
 |.fld _ a _=>dW a
 |.mth a _ _ es=>dW a&&n8 es
 |.rev a b=>dW a&&dW b
 |.dflt _ _ _ _ a b=>dW a&&dW b
 |.isc a _ _=>dW a
noncomputable def n8:nQ->Bool
 |.nil=>true
 |.cons e es=>dW e&&n8 es
end
theorem v_all(hΦ:∀j,Imp (Φ j) (Ψ j)):(∀ir,dW ir=true->ck Φ Ψ ir)/\∀fK,n8 fK=true->l0 Φ Ψ fK:=by
 have one:∀ir,dW ir=true->ck Φ Ψ ir:=by
  intro ir;refine IE.rec (motive_1:=λir=>dW ir=true->ck Φ Ψ ir) (motive_2:=λfK=>n8 fK=true->l0 Φ Ψ fK) ?_ ?_ ?_ ?_ ?_ ?_ ?_ ?_ ?_ ?_ ?_ ?_ ?_ ?_ ?_ ?_ ?_ ?_ ?_ ?_ ?_ ?_ ?_ ?_ ?_ ?_ ?_ ?_ ?_ ?_ ?_ ?_ ?_ ?_ ?_ ir
  ·exact λ_ _=>v_var
  ·exact λ_ f=>Sj f
  ·exact λ_ _ f=>Sk f
  ·exact λ_=>V9
  ·intro _ _ _ a b f;have f:=gZ f;exact Sm (a f.1) (b f.2)
  ·intro _ a f;exact Sn (a f)
  ·intro _ _ _ a b f;have f:=gZ f;exact So (a f.1) (b f.2)
  ·intro _ _ _ _ _ a b c f;have f:=xh f;exact Sq (a f.1.1) (b f.1.2) (c f.2)
  ·intro _ _ a b f;have f:=gZ f;exact v_and (a f.1) (b f.2)
  ·intro _ _ a b f;have f:=gZ f;exact v_or (a f.1) (b f.2)
  ·intro _ a f;exact v_not (a f)
  ·intro _ _ _ a b c f;have f:=xh f;exact v_ite (a f.1.1) (b f.1.2) (c f.2)
  ·intro _ a f;exact Ss (a f)
  ·intro _ a f;exact Sv (a f)
  ·intro _ _ a b f;have f:=gZ f;exact Sw (a f.1) (b f.2)
  ·intro _ _ _ a b c f;have f:=xh f;exact Sx (a f.1.1) (b f.1.2) (c f.2)
  ·intro _ _ a f;exact OQ hΦ (a f)
  ·intro _ _ a f;exact SD (a f)
  ·intro _ _ _ a b f;have f:=gZ f;exact SE (a f.1) (b f.2)
  ·intro _ _ _ _ _ _ _ a b c f;have f:=xh f;exact OS (a f.1.1) (b f.1.2) (c f.2)
  ·exact λ_=>OL
  ·intro _ a f;exact OP (a f)
  ·intro _ _ _ a b c f;have f:=xh f;exact ON (a f.1.1) (b f.1.2) (c f.2)
  ·intro _ _ a b f;have f:=gZ f;exact OM (a f.1) (b f.2)
  ·intro _ a f;exact Kl (a f)
  ·intro _ _ _ _ _ _ f;exact nomatch (show false=true from f)
  ·intro _ a f;exact Kn (a f)
  ·intro _ a f;exact Km (a f)
  ·intro _ _ _ a f;exact Sz (a f)
  ·intro _ _ _ _ a b f;have f:=gZ f;exact SA hΦ (a f.1) (b f.2)
  ·intro _ _ a b f;have f:=gZ f;exact Sy (a f.1) (b f.2)
  ·intro _ _ _ _ _ _ a b f;have f:=gZ f;exact OO (a f.1) (b f.2)
  ·intro _ _ _ a f;exact Su (a f)
  ·exact λ_=>LL
  ·intro _ _ a b f;have f:=gZ f;exact FG (a f.1) (b f.2)
 refine⟨one,λfK=>?_⟩
 induction fK using nQ.rec (motive_1:=λ_=>True) with
 |nil=>exact λ_=>LL
 |cons e es _ ih=>exact λf=>by have f:=gZ f;exact FG (one e f.1) (ih f.2)
 |_=>trivial
end
section
variable {A A':AP} {h h':Hs}
mutual
theorem Dn.move(hn:A none->A' none)(hh:∀(i:Nat) (o:Ob),A (some i)->h[i]?=some o->A' (some i)/\h'[i]?=some o):∀(d v:Val),Dn A h d v->Dn A' h' d v
 |.non,v,e=>by rw[Dn]at e |-;exact e
 |.bl _,v,e=>by rw[Dn]at e |-;exact e
 |.int _,v,e=>by rw[Dn]at e |-;exact e
 |.str _,v,e=>by rw[Dn]at e |-;exact e
 | .tup ds,v,e=>by
  rw[Dn]at e |-;obtain⟨vs,rfl,q⟩:=e;exact⟨vs,rfl,aq.move hn hh ds vs q⟩
 | .rl ds,v,e=>by
  rw[Dn]at e |-
  rcases e with ⟨vs,rfl,n,q⟩|⟨i,vs,rfl,a,g,q⟩
  ·exact .inl ⟨vs,rfl,hn n,aq.move hn hh ds vs q⟩
  ·exact .inr ⟨i,vs,rfl,(hh i _ a g).1,(hh i _ a g).2,aq.move hn hh ds vs q⟩
 | .dc ks ds,v,e=>by
  rw[Dn]at e |-;obtain⟨i,kvs,rfl,a,g,k,q⟩:=e;exact⟨i,kvs,rfl,(hh i _ a g).1,(hh i _ a g).2,k,aq.move hn hh ds _ q⟩
 | .ob c xs ds,v,e=>by
  rw[Dn]at e |-;obtain⟨i,kvs,rfl,a,g,k,q⟩:=e;exact⟨i,kvs,rfl,(hh i _ a g).1,(hh i _ a g).2,k,aq.move hn hh ds _ q⟩
 |.ref _,v,e=>by rw[Dn]at e;exact e.elim
theorem aq.move(hn:A none->A' none)(hh:∀(i:Nat) (o:Ob),A (some i)->h[i]?=some o->A' (some i)/\h'[i]?=some o):∀(ds vs:List Val),aq A h ds vs->aq A' h' ds vs
 |[],vs,e=>by rw[aq]at e |-;exact e
 | d::ds,vs,e=>by
  rw[aq]at e |-;obtain⟨v,r,rfl,q1,q2⟩:=e;exact⟨v,r,rfl,Dn.move hn hh d v q1,aq.move hn hh ds r q2⟩
end
end
def Al(A0:AP)(O:Nat->Option Nat):AP:=λo=>A0 o/\∀i,o.isSome=true->O i≠o
structure SR (A0:AP) (h0:Hs) (af:bC) (env:Env) (h:Hs) (O:Nat->Option Nat):Prop where
 len:af.length=env.length
 sh:∀(i:Nat) (m:Mk) (d:Val),af[i]?=some (some (m,d))->iJ m=true->∃v,env[i]?=some (some v)/\Dn (Al A0 O) h d v/\(Qs m=true->Dn (Al (Fr h0.length) O) h d v)
 ow:∀(i:Nat) (d:Val),af[i]?=some (some (.ow,d))->∃a,env[i]?=some (some (.ref a))/\O i=some a/\OD (Al A0 O) h d a
 own:∀i a,O i=some a->h0.length<=a/\a<h.length/\∃d,af[i]?=some (some (.ow,d))
 inj:∀i j a,O i=some a->O j=some a->i=j
 pre:h0<+:h
 up:Up A0 h0
structure Fm (m:List Nat) (af:bC) (env:Env) (h:Hs) (O:Nat->Option Nat) (aQ:bC) (env':Env) (h':Hs) (O':Nat->Option Nat):Prop where
 le:h.length<=h'.length
 keep:∀k,k<h.length->(∀i,O i≠some k)->h'[k]?=h[k]?/\∀i,O' i≠some k
 stay:∀i,i∉m->O' i=O i/\aQ[i]?=af[i]?/\env'[i]?=env[i]?/\∀a,O i=some a->h'[a]?=h[a]?
def RF(A0:AP)(h0:Hs)(m:List Nat)(af:bC)(env:Env)(h:Hs)(O:Nat->Option Nat):DJ->Hs->Fl->Prop
 |.nx aQ,h',.nx env'=>∃O',SR A0 h0 aQ env' h' O'/\Fm m af env h O aQ env' h' O'
 |.bk aQ,h',.bk env'=>∃O',SR A0 h0 aQ env' h' O'/\Fm m af env h O aQ env' h' O'
 |.ct aQ,h',.ct env'=>∃O',SR A0 h0 aQ env' h' O'/\Fm m af env h O aQ env' h' O'
 |.rt p,h',.rt v=>Dn A0 h' p.2 v/\(p.1=true->Dn (Fr h0.length) h' p.2 v)/\h0<+:h'
 |_,_,_=>False
def iT(A0:AP)(h0:Hs){α β:Type}(R:α -> Hs -> β -> Prop)(o:Out β):Pr α -> Prop
 |.ok f=>∃g h',o=.ok g h'/\R f h' g
 |.exc c es=>∃ws h',o=.exc c ws h'/\h0<+:h'/\aq A0 h' es ws
 |.no=>True
section
variable {A0:AP} {h0:Hs} {af:bC} {env:Env} {h h1:Hs} {O:Nat->Option Nat} {m:List Nat}
theorem SR.er(s:SR A0 h0 af env h O):ER (Al A0 O) af env h:=λi f d e=>by
 cases f with
 |ow=>rw[aak (show iJ .ow=false by decide)];obtain⟨a,k2,_,k3⟩:=s.ow i d e;exact⟨a,k2,k3⟩
 |sh=>rw[aam (by decide)];obtain⟨v,k1,k2,_⟩:=s.sh i _ d e rfl;exact⟨v,k1,k2⟩
 |nw=>rw[aam (by decide)];obtain⟨v,k1,k2,_⟩:=s.sh i _ d e rfl;exact⟨v,k1,k2⟩
theorem SR.Dh(s:SR A0 h0 af env h O):Up (Al A0 O) h:=λk hk=>⟨s.up k (aaN s.pre.length_le hk),λi _ e=>by have:=(s.own i k e).2.1;omega⟩
theorem SR.ext(s:SR A0 h0 af env h O)(p:h<+:h1):SR A0 h0 af env h1 O where
 len:=s.len
 sh i m d e hm:=by obtain⟨v,k1,k2,k3⟩:=s.sh i m d e hm;exact⟨v,k1,k2.ext p,λz=>(k3 z).ext p⟩
 ow i d e:=by obtain⟨a,k2,k3,k4⟩:=s.ow i d e;exact⟨a,k2,k3,k4.ext p⟩
 own i a e:=by obtain⟨k1,k2,k3⟩:=s.own i a e;exact⟨k1,aaz k2 p.length_le,k3⟩
 inj:=s.inj
 pre:=s.pre.trans p
 up:=s.up
theorem jC(p:h<+:h1){k:Nat}(hk:k<h.length):h1[k]?=h[k]?:=by
 obtain⟨t,rfl⟩:=p;rw[aav hk]
theorem Fm.refl(s:SR A0 h0 af env h O)(p:h<+:h1):Fm m af env h O af env h1 O where
 le:=p.length_le
 keep k hk n:=⟨jC p hk,n⟩
 stay i _:=⟨rfl,rfl,rfl,λa e=>jC p (s.own i a e).2.1⟩
theorem Fm.trans{n9 qv:bC}{ic nq:Env}{h2:Hs}{O1 O2:Nat->Option Nat}(a:Fm m af env h O n9 ic h1 O1)(b:Fm m n9 ic h1 O1 qv nq h2 O2):Fm m af env h O qv nq h2 O2 where
 le:=aaN a.le b.le
 keep k hk n:=by obtain⟨a1,a2⟩:=a.keep k hk n;obtain⟨b1,b2⟩:=b.keep k (aaz hk a.le) a2;exact⟨b1.trans a1,b2⟩
 stay i hi:=by obtain⟨a1,a2,a3,a4⟩:=a.stay i hi;obtain⟨b1,b2,b3,b4⟩:=b.stay i hi;exact⟨b1.trans a1,b2.trans a2,b3.trans a3,λc e=>(b4 c (a1.trans e)).trans (a4 c e)⟩
theorem Fm.wid{m':List Nat}(hm:∀i∈m,i∈m')(a:Fm m af env h O aQ env' h1 O'):Fm m' af env h O aQ env' h1 O':=⟨a.le,a.keep,λi hi=>a.stay i λz=>hi (hm i z)⟩
theorem RF.pre(s:SR A0 h0 af env h O)(p:h<+:h1)(r:RF A0 h0 m af env h1 O f h' g):RF A0 h0 m af env h O f h' g:=by
 cases f<;>cases g<;>first|exact r.elim|exact r|(obtain⟨O',a,b⟩:=r;exact⟨O',a,(Fm.refl s p).trans b⟩)
theorem RF.wid{m':List Nat}(hm:∀i∈m,i∈m')(r:RF A0 h0 m af env h O f h' g):RF A0 h0 m' af env h O f h' g:=by
 cases f<;>cases g<;>first|exact r.elim|exact r|(obtain⟨O',a,b⟩:=r;exact⟨O',a,b.wid hm⟩)
theorem RF.seq{n9:bC}{ic:Env}{O1:Nat->Option Nat}(a:Fm m af env h O n9 ic h1 O1)(r:RF A0 h0 m n9 ic h1 O1 f h' g):RF A0 h0 m af env h O f h' g:=by
 cases f<;>cases g<;>first|exact r.elim|exact r|(obtain⟨O',b,c⟩:=r;exact⟨O',b,a.trans c⟩)
theorem bT{α β γ δ:Type}{R:α -> Hs -> β -> Prop}{R':γ -> Hs -> δ -> Prop}{mm:M β}{f:β -> M δ}{p:Pr α}{F:α -> Pr γ}(s:SR A0 h0 af env h O)(r:Rel (Al A0 O) h R (mm h) p)(k:∀a h1 b,h<+:h1->R a h1 b->iT A0 h0 R' (f b h1) (F a)):iT A0 h0 R' (bnd mm f h) (pb p F):=by
 unfold bnd;cases p with
 |ok a=>obtain⟨b,h1,e,q,r⟩:=r;rw[e];exact k a h1 b q r
 |exc c es=>obtain⟨ws,h1,e,q,r⟩:=r;rw[e];exact⟨ws,h1,rfl,s.pre.trans q,r.wid λ_ z=>z.1⟩
 |no=>trivial
theorem bA{α β:Type}{R:α -> Hs -> β -> Prop}{a:α}{b:β}(r:R a h b):iT A0 h0 R (ret b h) (.ok a):=⟨b,h,rfl,r⟩
theorem gi{α β:Type}{R R':α -> Hs -> β -> Prop}{o:Out β}{p:Pr α}(r:iT A0 h0 R o p)(k:∀a h' b,R a h' b->R' a h' b):iT A0 h0 R' o p:=by
 cases p with
 |ok a=>obtain⟨b,h',e,r⟩:=r;exact⟨b,h',e,k a h' b r⟩
 |exc c es=>exact r
 |no=>trivial
theorem oh{α β γ δ:Type}{R:α -> Hs -> β -> Prop}{R':γ -> Hs -> δ -> Prop}{mm:M β}{f:β -> M δ}{p:Pr α}{F:α -> Pr γ}(r:iT A0 h0 R (mm h) p)(k:∀a h1 b,R a h1 b->iT A0 h0 R' (f b h1) (F a)):iT A0 h0 R' (bnd mm f h) (pb p F):=by
 unfold bnd;cases p with
 |ok a=>obtain⟨b,h1,e,r⟩:=r;rw[e];exact k a h1 b r
 |exc c es=>obtain⟨ws,h1,e,q,r⟩:=r;rw[e];exact⟨ws,h1,rfl,q,r⟩
 |no=>trivial
theorem iZ{α β:Type}{R:α -> Hs -> β -> Prop}{c:Bool}{o:Out β}{p:Pr α}(r:c=true->iT A0 h0 R o p):iT A0 h0 R o (pg c p):=by
 unfold pg;cases c with
 |true=>rw[aak rfl];exact r rfl
 |false=>rw[aam aab];trivial
def gX(O:Nat->Option Nat)(i:Nat):Nat->Option Nat:=λj=>if j=i then none else O j
theorem qZ:Al A0 O none->Al A0 O none:=id
theorem kQ:Al A0 O none->Al A0 O' none:=λh=>⟨h.1,λ_ z=>by cases z⟩
theorem jS{i:Nat}:∀k,Al A0 O k->Al A0 (gX O i) k:=λk ⟨a,b⟩=>⟨a,λj z=>by unfold gX;split;(cases k<;>simp_all);exact b j z⟩
theorem SR.setM(s:SR A0 h0 af env h O){i:Nat}{mk:Mk}{d v:Val}(Zk:iJ mk=true)(q:Dn (Al A0 O) h d v)(qn:Qs mk=true->Dn (Al (Fr h0.length) O) h d v):SR A0 h0 (af.set i (some (mk,d))) (env.set i (some v)) h (gX O i)/\Fm [i] af env h O (af.set i (some (mk,d))) (env.set i (some v)) h (gX O i):=by
 refine⟨⟨by simp[s.len],λj m' d' e hm'=>?_,λj d' e=>?_,λj a e=>?_,λj l a e1 e2=>?_,s.pre,s.up⟩,aao _,λk hk n=>⟨rfl,λj=>?_⟩,λj hj=>?_⟩
 ·by_cases hij:i=j
  ·subst hij
   have hi:i<af.length:=by have:=(aah.mp e).1;simpa using this
   rw[aan hi]at e;cases e;exact⟨v,by rw[aan (by rw[<-s.len];exact hi)],q.wid jS,λz=>(qn z).wid jS⟩
  ·rw[aaf hij]at e;rw[aaf hij];obtain⟨w,k1,k2,k3⟩:=s.sh j m' d' e hm';exact⟨w,k1,k2.wid jS,λz=>(k3 z).wid jS⟩
 ·by_cases hij:i=j
  ·subst hij
   have hi:i<af.length:=by have:=(aah.mp e).1;simpa using this
   rw[aan hi]at e;cases e;cases Zk
  ·rw[aaf hij]at e;rw[aaf hij];obtain⟨a,k2,k3,k4⟩:=s.ow j d' e;exact⟨a,k2,by unfold gX;rw[aam (λz=>hij z.symm)];exact k3,k4.mono (λ_ g=>g) λ_ _ z=>z.wid jS⟩
 ·unfold gX at e
  split at e
  ·cases e
  ·rename_i hj;obtain⟨k1,k2,d',k3⟩:=s.own j a e;exact⟨k1,k2,d',by rw[aaf (λz=>hj z.symm)];exact k3⟩
 ·unfold gX at e1 e2
  split at e1
  ·cases e1
  ·split at e2
   ·cases e2
   ·exact s.inj j l a e1 e2
 ·unfold gX;split;simp;exact n j
 ·have hj':j≠i:=by simpa using hj
  exact⟨by unfold gX;rw[aam hj'],aaf (λz=>hj' z.symm),aaf (λz=>hj' z.symm),λ_ _=>rfl⟩
theorem SR.set(s:SR A0 h0 af env h O){i:Nat}(q:Dn (Al A0 O) h d v):SR A0 h0 (af.set i (some (.sh,d))) (env.set i (some v)) h (gX O i)/\Fm [i] af env h O (af.set i (some (.sh,d))) (env.set i (some v)) h (gX O i):=s.setM rfl q λz=>nomatch z
theorem SR.binds:∀{is:List Nat} {ds vs:List Val} {af:bC} {env:Env} {O:Nat->Option Nat} {aQ:bC},SR A0 h0 af env h O->cQ is ds af=some aQ->aq (Al A0 O) h ds vs ->
  ∃env' O',bindAll is vs env=some env'/\SR A0 h0 aQ env' h O'/\Fm is af env h O aQ env' h O'
 | [],[],vs,af,env,O,aQ,s,e,q=>by
  rw[aq]at q;subst q;simp only[cQ]at e;cases e;exact⟨env,O,rfl,s,Fm.refl s (aaK _)⟩
 | i::is,d::ds,vs,af,env,O,aQ,s,e,q=>by
  rw[aq]at q;obtain⟨v,r,rfl,q1,q2⟩:=q;simp only[cQ]at e;obtain⟨s1,f1⟩:=s.set (i:=i) q1;obtain⟨env',O',b1,b2,b3⟩:=SR.binds s1 e (q2.wid jS);refine⟨env',O',by simp only[bindAll];exact b1,b2,(f1.wid λj hj=>?_).trans (b3.wid λj hj=>aac _ hj)⟩;rw[aap.mp hj];exact aag
 |[],_::_,_,_,_,_,_,_,e,_=>by simp[cQ]at e
 |_::_,[],_,_,_,_,_,_,e,_=>by simp[cQ]at e
theorem SR.bind(s:SR A0 h0 af env h O)(e:cF p d af=some aQ)(q:Dn (Al A0 O) h d v):∃env' O',fN p v env=some env'/\SR A0 h0 aQ env' h O'/\Fm (stored p) af env h O aQ env' h O':=by
 cases p with
 |one i=>simp only[cF]at e;cases e;obtain⟨s1,f1⟩:=s.set (i:=i) q;exact⟨_,_,rfl,s1,f1⟩
 |tup is=>
  cases d<;>simp only[cF]at e<;>first|(cases e;done)|skip
  rw[Dn]at q;obtain⟨vs,rfl,q⟩:=q;exact s.binds e q
theorem rj{a:Nat}(p:h0<+:h)(ha:h0.length<=a):h0<+:h.set a o:=by
 obtain⟨t,rfl⟩:=p;rw[List.set_append_right _ _ ha];exact aa7 _ _
theorem SR.put(s:SR A0 h0 af env h O){i a:Nat}{d d1:Val}(e:af[i]?=some (some (.ow,d)))(ha:O i=some a)(q:OB (Al A0 O) h d1 ob) :
  SR A0 h0 (af.set i (some (.ow,d1))) env (h.set a ob) O/\Fm [i] af env h O (af.set i (some (.ow,d1))) env (h.set a ob) O:=by
 obtain⟨o1,o2,_⟩:=s.own i a ha;have hi:i<af.length:=(aah.mp e).1;have mv:∀{A0:AP} (k:Nat) (o:Ob),Al A0 O k->h[k]?=some o->Al A0 O k/\(h.set a ob)[k]?=some o:=λk o hk g=>⟨hk,by rw[aaf λz=>hk.2 i rfl (by rw[<-z];exact ha)];exact g⟩;obtain⟨a0,e2,e3,_⟩:=s.ow i d e;refine⟨⟨by simp[s.len],λj m' d' ej hm'=>?_,λj d' ej=>?_,λj b ej=>?_,s.inj,rj s.pre o1,s.up⟩,by simp,λk hk n=>⟨?_,n⟩,λj hj=>?_⟩
 ·by_cases hij:i=j
  ·subst hij;rw[aan hi]at ej;cases ej;cases hm'
  ·rw[aaf hij]at ej;obtain⟨w,k1,k2,k3⟩:=s.sh j m' d' ej hm';exact⟨w,k1,Dn.move qZ mv _ _ k2,λz=>Dn.move qZ mv _ _ (k3 z)⟩
 ·by_cases hij:i=j
  ·subst hij;rw[aan hi]at ej;cases ej;rw[ha]at e3;cases e3;exact⟨a,e2,ha,q.od (by rw[aan o2]) λ_ _ z=>aq.move qZ mv _ _ z⟩
  ·rw[aaf hij]at ej;obtain⟨a1,k2,k3,k4⟩:=s.ow j d' ej;have:a≠a1:=λz=>hij (s.inj i j a ha (by rw[z];exact k3));exact⟨a1,k2,k3,k4.mono (λ_ g=>by rw[aaf this];exact g) λ_ _ z=>aq.move qZ mv _ _ z⟩
 ·obtain⟨k1,k2,d',k3⟩:=s.own j b ej
  refine⟨k1,by simp[k2],?_⟩
  by_cases hij:i=j
  ·subst hij;exact⟨_,by rw[aan hi]⟩
  ·exact⟨d',by rw[aaf hij];exact k3⟩
 ·rw[aaf λz=>n i (by rw[<-z];exact ha)]
 ·have hj':j≠i:=by simpa using hj
  exact⟨rfl,aaf (λz=>hj' z.symm),rfl,λb eb=>by rw[aaf λz=>hj' (s.inj j i b eb (by rw[<-z];exact ha))]⟩
def uy(O:Nat->Option Nat)(i a:Nat):Nat->Option Nat:=λj=>if j=i then some a else O j
theorem SR.fresh(s:SR A0 h0 af env h O){i:Nat}{d1:Val}{h2:Hs}(p:h<+:h2)(q:OB (Al A0 O) h2 d1 ob) :
  SR A0 h0 (af.set i (some (.ow,d1))) (env.set i (some (.ref h2.length))) (h2++[ob]) (if i<af.length then uy O i h2.length else gX O i) /\
   Fm [i] af env h O (af.set i (some (.ow,d1))) (env.set i (some (.ref h2.length))) (h2++[ob]) (if i<af.length then uy O i h2.length else gX O i):=by
 have pp:h<+:h2++[ob]:=p.trans (aa7 _ _);have s2:=s.ext p;have mv:∀{A0:AP} (j:Nat),∀(k:Nat) (o:Ob),Al A0 O k->h2[k]?=some o->Al A0 (if i<af.length then uy O i h2.length else gX O i) k/\(h2++[ob])[k]?=some o:=λ{A0} j k o hk g=>by
  have hlt:k<h2.length:=(aah.mp g).1;refine⟨?_,by rw[aav hlt];exact g⟩
  split
  ·refine⟨hk.1,λl _=>?_⟩
   unfold uy
   split
   ·intro z;cases z;omega
   ·exact hk.2 l rfl
  ·exact jS k hk
 by_cases hi:i<af.length
 ·rw[aak hi]at mv |-
  refine⟨⟨by simp[s.len],λj m' d' ej hm'=>?_,λj d' ej=>?_,λj b ej=>?_,λj l b e1 e2=>?_,s.pre.trans pp,s.up⟩,pp.length_le,λk hk n=>⟨jC pp hk,λl=>?_⟩,λj hj=>?_⟩
  ·by_cases hij:i=j
   ·subst hij;rw[aan hi]at ej;cases ej;cases hm'
   ·rw[aaf hij]at ej;rw[aaf hij];obtain⟨w,k1,k2,k3⟩:=s2.sh j m' d' ej hm';exact⟨w,k1,Dn.move kQ (mv 0) _ _ k2,λz=>Dn.move kQ (mv 0) _ _ (k3 z)⟩
  ·by_cases hij:i=j
   ·subst hij;rw[aan hi]at ej;cases ej;exact⟨h2.length,by rw[aan (by rw[<-s.len];exact hi)],by unfold uy;rw[aak rfl],q.od (by simp) λ_ _ z=>aq.move kQ (mv 0) _ _ z⟩
   ·rw[aaf hij]at ej;rw[aaf hij];obtain⟨a1,k2,k3,k4⟩:=s2.ow j d' ej;have hlt:a1<h2.length:=k4.lt;exact⟨a1,k2,by unfold uy;rw[aam λz=>hij z.symm];exact k3,k4.mono (λ_ g=>by rw[aav hlt];exact g) λ_ _ z=>aq.move kQ (mv 0) _ _ z⟩
  ·unfold uy at ej
   split at ej
   ·rename_i hj;cases ej;subst hj;exact⟨aaN s.pre.length_le p.length_le,by simp,_,by rw[aan hi]⟩
   ·rename_i hj;obtain⟨k1,k2,d',k3⟩:=s2.own j b ej;exact⟨k1,by simp;omega,d',by rw[aaf λz=>hj z.symm];exact k3⟩
  ·unfold uy at e1 e2
   split at e1
   ·rename_i h1;cases e1
    split at e2
    ·rename_i h3;rw[h1,h3]
    ·have:=(s2.own l _ e2).2.1;omega
   ·split at e2
    ·cases e2;have:=(s2.own j _ e1).2.1;omega
    ·exact s.inj j l b e1 e2
  ·unfold uy;split
   ·intro z;cases z;have:=p.length_le;omega
   ·exact n l
  ·have hj':j≠i:=by simpa using hj
   exact⟨by unfold uy;rw[aam hj'],aaf (λz=>hj' z.symm),aaf (λz=>hj' z.symm),λb eb=>jC pp (s.own j b eb).2.1⟩
 ·rw[aam hi]at mv |-
  have e1:af.set i (some (.ow,d1))=af:=List.set_eq_of_length_le (by omega);have e2:env.set i (some (.ref h2.length))=env:=List.set_eq_of_length_le (by rw[<-s.len];omega);have e3:gX O i=O:=by
   funext j;unfold gX;split
   ·rename_i hj;subst hj
    cases e:O j with
    |none=>rfl
    |some a=>obtain⟨_,_,d,k⟩:=s.own j a e;exact absurd (aah.mp k).1 hi
   ·rfl
  rw[e1,e2,e3];exact⟨s.ext pp,Fm.refl s pp⟩
end
section
variable {Φ:Nat->List Val->M Val} {Ψ:Nat->List Val->Pr FV} {A:AP} {h h1:Hs}
def isRef:Val->Bool
 |.rl _=>true
 |.dc _ _=>true
 |_=>false
def RN(A:AP)(h:Hs):FV->Hs->Val->Prop:=λx h' v=>isRef x.2=true->∃h2 o,h'=h2++[o]/\v=.ref h2.length/\h<+:h2/\OB A h2 x.2 o
def Ko(Φ:Nat->List Val->M Val)(Ψ:Nat->List Val->Pr FV)(ir:IE):Prop:=∀(af:bC) (env:Env) (A:AP) (h:Hs),Up A h->ER A af env h->Rel A h (RN A h) (aB Φ ir env h) (bg Ψ ir af)
theorem jD{f:Bool}{h0:Hs}(p:h0<+:h)(q:aq A h xs vs):Rel A h (RN A h0) (new (.lst vs) h) (.ok (f,.rl xs)) :=
 ⟨_,_,rfl,cj _,λ_=>⟨h,.lst vs,rfl,rfl,p,vs,rfl,q⟩⟩
theorem OT:Ko Φ Ψ .dct0:=λaf env A h u e=>by
 rw[aB,bg];exact⟨_,_,rfl,cj _,λ_=>⟨h,.dct [],rfl,rfl,aaK _,[],rfl,rfl,aq.nil⟩⟩
theorem OU(hk:ck Φ Ψ k)(hv:ck Φ Ψ v):Ko Φ Ψ (.dct1 k v):=λaf env A h u e=>by rw[bg];trivial
theorem Kp(hd:ck Φ Ψ d):Ko Φ Ψ (.lkeys d):=λaf env A h u e=>by
 rw[aB,bg];refine aj (kM hd u e) λo h1 v p1 q1=>aj (R:=λks _ ks'=>ks'=ks) (cN λks ek=>⟨ks,tw q1 ek,rfl⟩) λks h2 ks' p2 hk=>?_;subst hk;exact jD (p1.trans p2) ((aP _ _ (kL ks')).mpr rfl)
theorem SG(hs:l0 Φ Ψ es):Ko Φ Ψ (.lst es):=λaf env A h u e=>by
 rw[aB,bg];exact aj (hs.1 af env A h u e) λx h1 vs p1 q1=>bZ (λz=>by rw[<-q1.1.length];exact z) λ_=>jD p1 q1.1
theorem SH(ha:ck Φ Ψ a)(hl:ck Φ Ψ lo)(hh:ck Φ Ψ hi):Ko Φ Ψ (.slc a lo hi):=λaf env A h u e=>by
 rw[aB,bg];refine aj (kM ha u e) λx h1 v p1 q1=>aj (kP hl (u.ext p1) (e.ext p1)) λl h2 l' p2 el=>aj (kP hh ((u.ext p1).ext p2) ((e.ext p1).ext p2)) λr h3 r' p3 er=>?_;subst el;subst er;have q1:=DB.ext (p2.trans p3) q1;obtain⟨f,d⟩:=x;cases d with
 |tup ds=>obtain⟨vs,rfl,q⟩:=DB.tup q1;have l:=q.length;simp only[Dg,uw];exact bZ (λz=>by rw[l]at z;exact z) λ_=>aH λe=>by cases e
 |rl ds=>
  obtain⟨vs,e1,q⟩:=DB.lst q1;have ev:uw v l' r' h3=new (.lst (cg vs l' r')) h3:=by
   have:uw v l' r'=bnd (ask λh=>aI h v) λxs=>new (.lst (cg xs l' r')):=by cases v<;>simp only[aI]at e1<;>first|(cases e1;done)|rfl
   rw[this];unfold bnd ask bM;dsimp only;rw[e1]
  rw[ev];exact jD ((p1.trans p2).trans p3) (q.cut l' r')
 |_=>trivial
theorem OV(hs:l0 Φ Ψ es):Ko Φ Ψ (.blt .list es):=λaf env A h u e=>by
 rw[aB,bg];refine aj (hs.2 af env A h u e) λds h1 vs p1 q1=>?_
 match ds,q1 with
 |[],q1=>trivial
 |[d],q1=>obtain⟨v,rfl,hv⟩:=q1.one;exact aj (R:=λxs h' ws=>aq A h' xs ws) (cN λxs e=>hv.seq e) λxs h2 ws p2 q=>jD (p1.trans p2) q
 |_::_::_,_=>trivial
theorem FH(hs:l0 Φ Ψ es):Ko Φ Ψ (.blt .sorted es):=λaf env A h u e=>by
 rw[aB,bg];refine aj (hs.2 af env A h u e) λds h1 vs p1 q1=>?_
 match ds,q1 with
 |[],q1=>trivial
 |[d],q1=>
  obtain⟨v,rfl,hv⟩:=q1.one;cases d<;>first|trivial|skip
  rename_i xs;obtain⟨ws,e1,q⟩:=hv.lst;have ev:bnd (ask λh=>aI h v) (λxs=>bnd (bM (fz xs)) λys=>new (.lst ys)) h1=bnd (bM (fz ws)) (λys=>new (.lst ys)) h1:=by unfold bnd ask bM;dsimp only;rw[e1]
  show Rel A h1 (RN A h) (bnd (ask λh=>aI h v) (λxs=>bnd (bM (fz xs)) λys=>new (.lst ys)) h1) _;rw[ev];refine aj (R:=λys _ zs=>zs=ys/\bD ys=true) (bW λys e=>?_) λys h2 zs p2 hz=>?_
  ·obtain⟨i1,i2⟩:=vv e;rw[(aP xs ws i1).mp q];exact⟨ys,e,rfl,i2⟩
  ·obtain⟨rfl,hi⟩:=hz;exact jD (p1.trans p2) ((aP _ _ hi).mpr rfl)
 |x::_::_,_=>cases x<;>trivial
theorem OW(hs:l0 Φ Ψ it)(hc:ck Φ Ψ c)(he:ck Φ Ψ elt):Ko Φ Ψ (.comp N js pat k it c elt):=λaf env A h u e=>by
 rw[aB,bg];refine aj (hs.2 af env A h u e) λds h1 vs p1 q1=>aj (BJ q1) λxs h2 src p2 q2=>?_;obtain⟨ws,q3,q4⟩:=q2;have l:=q3.length;have ev:∀(F:List Val->M Val),bnd (ask λh=>src.items h) F h2=F ws h2:=λF=>by unfold bnd ask bM;dsimp only;rw[q4 h2 (aaK _)]
 rw[ev];refine bZ (λz=>by rw[<-l];exact z) λ_=>?_;have u2:=(u.ext p1).ext p2;have e2:=(e.ext p1).ext p2;refine aj (tG (hb:=h) xs ws 0 [] h2 (p1.trans p2) u2 q4 rfl q3 λx v h' p' qx=>?_) λp h3 ys p3 hp=>?_
 ·refine aj (R:=λaQ _ env'=>∃_:ER A aQ env' h',True) (bW λaQ ev'=>?_) λaQ h4 env' p4 he'=>?_
  ·obtain⟨env',a1,a2⟩:=yT ev' qx (BL (e2.ext p')) (by simp[iY,kF]);exact⟨env',a1,a2,trivial⟩
  ·obtain⟨er,_⟩:=he'
   have er:=er.ext p4;have u4:=(u2.ext p').ext p4;have R7:Rel A h4 (λt _ t'=>t'=t) ((if dg c=true then ret true else bnd (aB Φ c env') λv=>ask λh=>cZ h v) h4) (if dg c=true then .ok true else pb (bg Ψ c aQ) λv=>pl (cZ [] v.2)):=by
    by_cases hn:dg c=true
    ·rw[aak hn,aak hn];exact aH rfl
    ·rw[aam hn,aam hn];exact aj (hc aQ env' A h4 u4 er) λy h5 w p5 q5=>cN λt et=>⟨t,wZ q5.br et,rfl⟩
   refine aj R7 λt h5 t' p5 et=>?_;subst et;cases t' with
   |true=>rw[aak rfl,aak rfl];exact aj (he aQ env' A h5 (u4.ext p5) (er.ext p5)) λy h6 w p6 q6=>aH (q6.up ((p1.trans p2).trans (p'.trans (p4.trans p5))))
   |false=>rw[aam aab,aam aab];exact aH trivial
 ·obtain⟨zs,rfl,z1,z2⟩:=hp;exact jD ((p1.trans p2).trans p3) z1
theorem SJ(hΦ:∀j,Imp (Φ j) (Ψ j))(hf:V7 e=true)(ho:dW e=true):Ko Φ Ψ e:=by
 have V:=v_all hΦ;cases e<;>first|(cases hf;done)|skip
 ·exact SG (V.2 _ ho)
 ·have ho:=xh ho;exact SH (V.1 _ ho.1.1) (V.1 _ ho.1.2) (V.1 _ ho.2)
 ·rename_i b es
  change n8 _=true at ho;cases b<;>first|(cases hf;done)|skip
  ·exact FH (V.2 _ ho)
  ·exact OV (V.2 _ ho)
 ·have ho:=xh ho;exact OW (V.2 _ ho.1.1) (V.1 _ ho.1.2) (V.1 _ ho.2)
 ·exact OT
 ·have ho:=gZ ho;exact OU (V.1 _ ho.1) (V.1 _ ho.2)
 ·exact Kp (V.1 _ ho)
mutual
noncomputable def Xo:IS->Bool
 |.expr e=>dW e
 |.asg _ e=>dW e
 |.aug _ _ e=>dW e
 |.f9 o i v=>dW o&&dW i&&dW v
 |.iff c a b=>dW c&&yU a&&yU b
 |.for _ _ it b=>n8 it&&yU b
 |.whl _ c b=>dW c&&yU b
 |.ret e=>dW e
 |_=>true
noncomputable def yU:dm->Bool
 |.nil=>true
 |.cons s r=>Xo s&&yU r
end
def mS(s:IS):List Nat:=ux s++pQ s
def Kq(s:dm):List Nat:=gW s++mK s
variable {ms:List Nat}
def BN(Φ:Nat->List Val->M Val)(Ψ:Nat->List Val->Pr FV)(ms:List Nat)(s:IS):Prop:=∀(A0:AP) (h0:Hs) (af:bC) (env:Env) (h:Hs) (O:Nat->Option Nat),SR A0 h0 af env h O->iT A0 h0 (RF A0 h0 (mS s) af env h O) (dX Φ s env h) (bw Ψ ms s af)
def xj(Φ:Nat->List Val->M Val)(Ψ:Nat->List Val->Pr FV)(ms:List Nat)(s:dm):Prop:=∀(A0:AP) (h0:Hs) (af:bC) (env:Env) (h:Hs) (O:Nat->Option Nat),SR A0 h0 af env h O->iT A0 h0 (RF A0 h0 (Kq s) af env h O) (bN Φ s env h) (av Ψ ms s af)
theorem FI(he:ck Φ Ψ e)(hx:∀af,bw Ψ ms (.expr e) af=pb (bg Ψ e af) λ_=>.ok (.nx af)):BN Φ Ψ ms (.expr e):=λA0 h0 af env h O s=>by
 rw[dX,hx];exact bT s (he af env _ h s.Dh s.er) λx h1 v p1 q1=>bA ⟨O,s.ext p1,Fm.refl s p1⟩
theorem bI{α β γ:Type}(m:M α)(f:α -> M β)(g:β -> M γ):bnd (bnd m f) g=bnd m λx=>bnd (f x) g:=by
 funext h;show (match (match m h with|.ok a h'=>f a h'|.exc c vs h'=>.exc c vs h'|.no=>.no) with|.ok a h'=>g a h'|.exc c vs h'=>.exc c vs h'|.no=>.no)=(match m h with|.ok a h'=>bnd (f a) g h'|.exc c vs h'=>.exc c vs h'|.no=>.no);cases m h<;>rfl
theorem aa{α β:Type}{m:M α}{f:α -> M β}{a:α}{h h1:Hs}(e:m h=.ok a h1):bnd m f h=f a h1:=by unfold bnd;rw[e]
theorem aA{i:Nat}(e:env[i]?=some (some v)):aB Φ (.var i) env h=.ok v h:=by rw[aB,e];rfl
theorem Di{i:Nat}(ha:ck Φ Ψ a):BN Φ Ψ ms (.expr (.met .append (.var i) #[a])):=λA0 h0 af env h O s=>by
 rw[dX,bw];try dsimp only
 split
 ·rename_i ds hv
  obtain⟨b,e2,e3,vs,e4,e5⟩:=s.ow i _ hv;have ev:bnd (aB Φ (.met .append (.var i) #[a]) env) (λ_=>ret (Fl.nx env)) h=bnd (aB Φ a env) (λv=>bnd (met .append (.ref b) [v]) λ_=>ret (Fl.nx env)) h:=by
   rw[aB,bI,aa (aA e2)];rw[bI,aa (a:=()) (h1:=h) (by unfold ask bM;simp[recv,e4])];rw[bI,aF,bI]
   congr 1
  rw[ev];refine bT s (ha af env _ h s.Dh s.er) λx h1 v p1 q1=>iZ λhg=>?_;have s1:=s.ext p1;obtain⟨s2,f2⟩:=s1.put (d1:=.rl (ds++[x.2])) (ob:=.lst (vs++[v])) hv e3 ⟨_,rfl,(e5.ext p1).append (aq.cons q1.1 aq.nil)⟩;have l:=e5.length;refine⟨.nx env,h1.set b (.lst (vs++[v])),?_,O,s2,(Fm.refl s p1).trans (f2.wid λj hj=>?_)⟩
  ·have g:=bP p1 e4;unfold met bnd ask bM az put ret;dsimp only;rw[g];dsimp only;rw[aak (by rw[<-l];exact hg)]
  ·rw[aap.mp hj];exact aat _ aag
 ·trivial
theorem Dj{i:Nat}(ha:ck Φ Ψ a):BN Φ Ψ ms (.expr (.met .extend (.var i) #[a])):=λA0 h0 af env h O s=>by
 rw[dX,bw];try dsimp only
 split
 ·rename_i ds hv
  obtain⟨b,e2,e3,vs,e4,e5⟩:=s.ow i _ hv;have ev:bnd (aB Φ (.met .extend (.var i) #[a]) env) (λ_=>ret (Fl.nx env)) h=bnd (aB Φ a env) (λv=>bnd (met .extend (.ref b) [v]) λ_=>ret (Fl.nx env)) h:=by
   rw[aB,bI,aa (aA e2)];rw[bI,aa (a:=()) (h1:=h) (by unfold ask bM;simp[recv,e4])];rw[bI,aF,bI]
   congr 1
  rw[ev];refine bT s (ha af env _ h s.Dh s.er) λx h1 v p1 q1=>?_;obtain⟨f,d⟩:=x;cases d<;>first|trivial|skip
  rename_i ts;have q:=q1.1;dsimp only at q;rw[Dn]at q;obtain⟨ws,rfl,q⟩:=q;refine iZ λhg=>?_;have s1:=s.ext p1;obtain⟨s2,f2⟩:=s1.put (d1:=.rl (ds++ts)) (ob:=.lst (vs++ws)) hv e3 ⟨_,rfl,(e5.ext p1).append q⟩;have l:=e5.length;have l2:=q.length;refine⟨.nx env,h1.set b (.lst (vs++ws)),?_,O,s2,(Fm.refl s p1).trans (f2.wid λj hj=>?_)⟩
  ·have g:=bP p1 e4;unfold met bnd ask bM az put ret Bg;dsimp only;rw[g];dsimp only;rw[aak (by rw[<-l,<-l2];exact hg)]
  ·rw[aap.mp hj];exact aat _ aag
 ·trivial
theorem Kr(hΦ:∀j,Imp (Φ j) (Ψ j))(ho:dW e=true):BN Φ Ψ ms (.expr e):=by
 have V:=v_all hΦ;have gen:(∀af,bw Ψ ms (.expr e) af=pb (bg Ψ e af) λ_=>.ok (.nx af))->BN Φ Ψ ms (.expr e):=λhx=>FI (V.1 e ho) hx;cases e with
 |met m a es=>
  cases m with
  |join=>exact gen λaf=>by rw[bw]<;>(intros;simp_all)
  |append=>
   cases a with
   |var i=>
    cases es with
    |nil=>exact gen λaf=>by rw[bw]<;>(intros;simp_all)
    |cons x r=>
     cases r with
     |nil=>exact Di (V.1 x (gZ (gZ ho).2).1)
     |cons _ _=>exact gen λaf=>by rw[bw]<;>(intros;simp_all)
   |_=>exact gen λaf=>by rw[bw]<;>(intros;simp_all)
  |extend=>
   cases a with
   |var i=>
    cases es with
    |nil=>exact gen λaf=>by rw[bw]<;>(intros;simp_all)
    |cons x r=>
     cases r with
     |nil=>exact Dj (V.1 x (gZ (gZ ho).2).1)
     |cons _ _=>exact gen λaf=>by rw[bw]<;>(intros;simp_all)
   |_=>exact gen λaf=>by rw[bw]<;>(intros;simp_all)
  |remove=>exact gen λaf=>by rw[bw]<;>(intros;simp_all)
  |pop=>exact gen λaf=>by rw[bw]<;>(intros;simp_all)
 |_=>exact gen λaf=>by rw[bw]<;>(intros;simp_all)
end
section
variable {Φ:Nat->List Val->M Val} {Ψ:Nat->List Val->Pr FV} {ms:List Nat}
theorem Dk{i:Nat}{l:List Nat}(h:i∈l):∀j∈[i],j∈l:=λj hj=>by rw[aap.mp hj];exact h
theorem OX{j:Nat}(h:yQ e=some j):e=.met .pop (.var j) #[¬0]:=by
 unfold yQ at h;split at h
 ·cases h;rfl
 ·cases h
theorem OY{A0:AP}{h0:Hs}{i:Nat}{o:Option Nat}{j:Nat}(s:SR A0 h0 af env h O)(hp:some j=yQ e)(ho:o=yQ e) :
  iT A0 h0 (RF A0 h0 (mS (.asg (.one i) e)) af env h O) (bnd (aB Φ e env) (λv=>bnd (bM (fN (.one i) v env)) λenv'=>ret (.nx env')) h) (OE ms i o af):=by
 have e0:=OX hp.symm;have eo:o=some j:=ho.trans hp.symm;subst eo;subst e0;unfold OE;dsimp only;refine iZ λhf=>?_
 split
 ·rename_i d ds hj
  refine iZ λhi=>?_;obtain⟨b,e2,e3,vs,e4,e5⟩:=s.ow j _ hj;rw[aq]at e5;obtain⟨w,r,rfl,q1,q2⟩:=e5;obtain⟨s3,f3⟩:=s.put (d1:=.rl ds) (ob:=.lst r) hj e3 ⟨_,rfl,q2⟩;have qi:w=d:=(eX d w hi).mp q1;obtain⟨s4,f4⟩:=s3.set (i:=i) (d:=d) (v:=w) ((eX d w hi).mpr qi);refine⟨.nx (env.set i (some w)),h.set b (.lst r),?_,_,s4,(f3.wid (Dk (by simp[mS,ux]))).trans (f4.wid (Dk (by simp[mS,pQ,stored])))⟩;have b1:recv h .pop (.ref b)=some ():=by show (match h[b]? with|some (.lst _)=>some ()|_=>none)=_;rw[e4]
  have b2:aF Φ #[¬0] env h=.ok [.int 0] h:=by rw[aF,aa (a:=.int 0) (h1:=h) (by rw[aB];rfl),aF];rfl
  have b3:aB Φ (.met .pop (.var j) #[¬0]) env h=.ok w (h.set b (.lst r)):=by rw[aB,aa (aA e2)];rw[show ∀(f:Unit->M Val),bnd (ask λh=>recv h .pop (.ref b)) f h=f () h from λf=>by unfold bnd ask;dsimp only;rw[b1];rfl];rw[aa b2,met];unfold bnd ask az bM put ret;dsimp only;rw[e4];rfl
  rw[aa b3];rfl
 ·trivial
theorem OZ(hΦ:∀j,Imp (Φ j) (Ψ j))(ho:dW e=true):BN Φ Ψ ms (.asg p e):=λA0 h0 af env h O s=>by
 have V:=(v_all hΦ).1 e ho;cases p with
 |one i=>
  rw[dX,bw];try dsimp only
  split
  ·rename_i hp;exact OY s (Option.some_get hp) rfl
  split
  ·refine iZ λhf=>?_
   refine bT s (SJ hΦ hf ho af env _ h s.Dh s.er) λx h1 v p1 q1=>?_;obtain⟨f,d⟩:=x;cases d<;>first|trivial|skip
   ·obtain⟨h2,vs,rfl,rfl,p2,q2⟩:=q1 rfl;obtain⟨s2,f2⟩:=s.fresh (i:=i) p2 q2;exact⟨_,_,rfl,_,s2,f2.wid (Dk (by simp[mS,pQ,stored]))⟩
   ·obtain⟨h2,vs,rfl,rfl,p2,q2⟩:=q1 rfl;obtain⟨s2,f2⟩:=s.fresh (i:=i) p2 q2;exact⟨_,_,rfl,_,s2,f2.wid (Dk (by simp[mS,pQ,stored]))⟩
  ·refine bT s (V af env _ h s.Dh s.er) λx h1 v p1 q1=>?_
   have hnw:Qs (fj x.1 x.2)=true->Dn (Al (Fr h0.length) O) h1 x.2 v:=λz=>by
    have hx:x.1=true:=by
     unfold fj at z;split at z
     ·rename_i hh;simp only[and_eq_true]at hh;exact hh.1
     ·cases z
    refine(q1.2 hx).wid λo ho=>?_;cases o with
    |none=>exact ho.elim
    |some k=>exact⟨aaN s.pre.length_le ho,λj _ e=>by have:=(s.own j k e).2.1;have ho':h.length<=k:=ho;omega⟩
   have hrd:iJ (fj x.1 x.2)=true:=by unfold fj;split<;>rfl
   obtain⟨s2,f2⟩:=(s.ext p1).setM (i:=i) hrd q1.1 hnw;exact⟨_,_,rfl,_,s2,(Fm.refl s p1).trans (f2.wid (Dk (by simp[mS,pQ,stored])))⟩
 |tup is=>
  rw[dX,bw];try dsimp only
  refine iZ λhf=>bT s (V af env _ h s.Dh s.er) λx h1 v p1 q1=>?_;have s1:=s.ext p1;refine bT s1 (R:=λaQ h' env'=>∃O',SR A0 h0 aQ env' h' O'/\Fm (stored (.tup is)) af env h1 O aQ env' h' O') (bW λaQ ev=>?_) λaQ h2 env' p2 hh=>?_
  ·obtain⟨env',O',b1,b2,b3⟩:=s1.bind ev q1.1;exact⟨env',b1,O',b2,b3⟩
  ·obtain⟨O',b2,b3⟩:=hh;exact bA ⟨O',b2,(Fm.refl s p1).trans (b3.wid λj hj=>by simp only[mS,pQ];exact aaD _ hj)⟩
theorem O0{i:Nat}(hΦ:∀j,Imp (Φ j) (Ψ j))(ho:dW e=true):BN Φ Ψ ms (.aug i o e):=λA0 h0 af env h O s=>by rw[bw];trivial
theorem BO(k:Key)(l:List (Key×Val)):(l.any λkv=>decide (kv.1=k))=((l.map (·.1)).any λx=>decide (x=k)):=by
 rw[any_map];rfl
theorem BP(e:Dn A h d v):∀{kvs:List (Key×Val)} {ds:List Val},aq A h ds (kvs.map (·.2)) ->
  aq A h ((((kvs.map (·.1)).zip ds).map λkv=>if kv.1=k then (kv.1,d) else kv).map (·.2)) ((kvs.map λkv=>if kv.1=k then (kv.1,v) else kv).map (·.2))
 |[],ds,q=>by simp only[map_nil,List.zip_nil_left];exact aq.nil
 | (k',v')::kvs,ds,q=>by
  have l:=q.length;cases ds with
  |nil=>simp at l
  |cons d' ds=>
   simp only[map_cons]at q;rw[aq]at q;obtain⟨v1,r,e1,q1,q2⟩:=q;cases e1;simp only[map_cons,zip_cons_cons];refine aq.cons ?_ (BP e q2)
   by_cases hk:k'=k
   ·rw[aak hk,aak hk];exact e
   ·rw[aam hk,aam hk];exact q1
theorem qy(k:Key)(d:Val)(l:List (Key×Val)):(l.map λkv=>if kv.1=k then (kv.1,d) else kv).map (·.1)=l.map (·.1):=by
 rw[aa2];refine map_congr_left λx _=>?_;show (if x.1=k then (x.1,d) else x).1=x.1
 split<;>rfl
theorem Ks(hk:kvs.map (·.1)=ks)(q:aq A h ds (kvs.map (·.2)))(e:Dn A h d v) :
  (iR kvs k v).map (·.1)=(iR (ks.zip ds) k d).map (·.1)/\aq A h ((iR (ks.zip ds) k d).map (·.2)) ((iR kvs k v).map (·.2)):=by
 subst hk;have l:=q.length;rw[aae]at l;have z1:((kvs.map (·.1)).zip ds).map (·.1)=kvs.map (·.1):=List.map_fst_zip (by rw[aae];omega);have z2:((kvs.map (·.1)).zip ds).map (·.2)=ds:=List.map_snd_zip (by rw[aae];omega);unfold iR;rw[BO,BO,z1]
 split
 ·rw[qy,qy,z1];exact⟨rfl,BP e q⟩
 ·rw[aaO,aaO,aaO,aaO,z1,z2];exact⟨rfl,q.append (aq.cons e aq.nil)⟩
theorem Ku(hΦ:∀j,Imp (Φ j) (Ψ j))(ho:dW o=true)(hi:dW i=true)(hv:dW v=true):BN Φ Ψ ms (.f9 o i v):=λA0 h0 af env h O s=>by
 have V:=(v_all hΦ).1;cases o with
 |var j=>
  rw[dX,bw];refine bT s (V v hv af env _ h s.Dh s.er) λx h1 w p1 q1=>?_;have s1:=s.ext p1
  split
  ·rename_i ks ds hj
   obtain⟨b,e2,e3,kvs,e4,ek,e5⟩:=s1.ow j _ hj;rw[aa (aA e2)];refine bT s1 (V i hi af env _ h1 s1.Dh s1.er) λz h2 u p2 q2=>?_;have s2:=s1.ext p2;obtain⟨f,d⟩:=z;have q:=q2.1;dsimp only at q;show iT A0 h0 _ _ (pb (pl (keyOf d)) _);cases hk:keyOf d with
   |none=>trivial
   |some kk=>
    have hu:keyOf u=some kk:=by
     cases d<;>simp only[keyOf]at hk<;>first|(cases hk;done)|skip
     all_goals (rw[Dn]at q;subst q;exact hk)
    show iT A0 h0 _ _ (pg _ _);refine iZ λhl=>?_;have g:=bP p2 e4;obtain⟨k1,k2⟩:=Ks (k:=kk) ek (e5.ext p2) (q1.1.ext p2);obtain⟨s3,f3⟩:=s2.put (d1:=putD ks ds kk x.2) (ob:=.dct (iR kvs kk w)) hj e3 ⟨_,rfl,k1,k2⟩;refine⟨.nx env,h2.set b (.dct (iR kvs kk w)),?_,O,s3,(Fm.refl s (p1.trans p2)).trans (f3.wid (Dk (by simp[mS,ux])))⟩;have hl':decide (kvs.length<sizeLine)=true:=by rw[<-ek,aae]at hl;exact hl
    simp only[yv];unfold bnd ask bM put ret az;dsimp only;rw[g];dsimp only;rw[hu];dsimp only;rw[aak hl']
  ·trivial
 |_=>rw[bw]<;>first|trivial|(intros;simp_all)
theorem O3(hΦ:∀j,Imp (Φ j) (Ψ j))(hc:dW c=true)(ha:xj Φ Ψ ms a)(hb:xj Φ Ψ ms b):BN Φ Ψ ms (.iff c a b):=λA0 h0 af env h O s=>by
 have V:=(v_all hΦ).1 c hc;rw[dX,bw];refine bT s (kM V s.Dh s.er) λx h1 v p1 q1=>?_;have s1:=s.ext p1;refine bT s1 (R:=λt _ t'=>t'=t) (cN λt et=>⟨t,wZ q1 et,rfl⟩) λt h2 t' p2 et=>?_;subst et;have s2:=s1.ext p2;cases t' with
 |true=>
  rw[aak rfl,aak rfl];refine gi (ha A0 h0 af env h2 O s2) λf h' g r=>(r.pre s (p1.trans p2)).wid λi hi=>?_;simp only[Kq,mS,ux,pQ,mem_append]at hi |-
  rcases hi with z|z
  ·exact .inl (.inl z)
  ·exact .inr (.inl z)
 |false=>
  rw[aam aab,aam aab];refine gi (hb A0 h0 af env h2 O s2) λf h' g r=>(r.pre s (p1.trans p2)).wid λi hi=>?_;simp only[Kq,mS,ux,pQ,mem_append]at hi |-
  rcases hi with z|z
  ·exact .inl (.inr z)
  ·exact .inr (.inr z)
def AF(h:Hs)(O:Nat->Option Nat)(m:List Nat)(src:Src)(ws:List Val):Prop :=
 ∀h':Hs,(∀k,k<h.length->(∀i,O i≠some k)->h'[k]?=h[k]?)->(∀i,i∉m->∀a,O i=some a->h'[a]?=h[a]?)->src.items h'=some ws
theorem fk{i:Nat}(e:h[i]?=some (.lst ws)):(Src.live i).items h=some ws:=by simp[Src.items,aI,e]
theorem jT{i:Nat}(e:h[i]?=some (.lst ws)):(Src.enum i).items h=some (sE 0 ws):=by simp[Src.items,aI,e]
theorem yV{A0:AP}{h0:Hs}{m:List Nat}(hb:∀af env h O x v,SR A0 h0 af env h O->Dn (Al A0 O) h x v->iT A0 h0 (RF A0 h0 m af env h O) (body v env h) (bodyV x af))
  {n9:bC} {ic:Env} {h1:Hs} {O1:Nat->Option Nat} (st:AF h1 O1 m src ws) :
  ∀(xs vs:List Val) (i:Nat) (af:bC) (env:Env) (h:Hs) (O:Nat->Option Nat),SR A0 h0 af env h O->Fm m n9 ic h1 O1 af env h O->ws.drop i=vs->aq (Al A0 O) h xs vs ->
   iT A0 h0 (RF A0 h0 m n9 ic h1 O1) (forM src body vs.length i env h) (eE bodyV xs af)
 | [],vs,i,af,env,h,O,s,f,hd,q=>by
  rw[aq]at q;subst q;have hl:ws.length<=i:=List.drop_eq_nil_iff.mp hd;have hi:=st h (λk hk n=>(f.keep k hk n).1) (λj hj a e=>(f.stay j hj).2.2.2 a e);rw[eE];refine⟨.nx env,h,?_,O,s,f⟩;show forM src body 0 i env h=_;simp only[forM];unfold bnd ask bM az;dsimp only;rw[hi];dsimp only;rw[aak (decide_eq_true hl)];rfl
 | x::xs,vs,i,af,env,h,O,s,f,hd,q=>by
  rw[aq]at q;obtain⟨v,r,rfl,q1,q2⟩:=q;have hv:ws[i]?=some v:=by have:=congrArg (λl=>l[0]?) hd;simpa using this
  have hr:ws.drop (i+1)=r:=by
   have:ws.drop (i+1)=(ws.drop i).drop 1:=by rw[List.drop_drop]
   rw[this,hd];rfl
  have hi:=st h (λk hk n=>(f.keep k hk n).1) (λj hj a e=>(f.stay j hj).2.2.2 a e);have ev:forM src body (v::r).length i env h=bnd (body v env) (λf=>match f with
   |.nx env'=>forM src body r.length (i+1) env'
   |.ct env'=>forM src body r.length (i+1) env'
   |.bk env'=>ret (.nx env')
   |.rt v=>ret (.rt v)) h:=by
   show forM src body (r.length+1) i env h=_;simp only[forM];unfold bnd ask bM;dsimp only;rw[hi];dsimp only;rw[hv];try rfl
  rw[ev,eE];refine oh (hb af env h O x v s q1) λfl h2 gl hr2=>?_;have go:∀aQ env' O',SR A0 h0 aQ env' h2 O'->Fm m af env h O aQ env' h2 O'->iT A0 h0 (RF A0 h0 m n9 ic h1 O1) (forM src body r.length (i+1) env' h2) (eE bodyV xs aQ):=λaQ env' O' s' f'=>by
   refine yV hb st xs r (i+1) aQ env' h2 O' s' (f.trans f') hr (aq.move kQ (λk o hk g=>?_) _ _ q2);have hlt:k<h.length:=(aah.mp g).1;obtain⟨a1,a2⟩:=f'.keep k hlt λi=>hk.2 i rfl;exact⟨⟨hk.1,λi _=>a2 i⟩,a1.trans g⟩
  cases fl<;>cases gl<;>first|exact hr2.elim|skip
  ·obtain⟨O',s',f'⟩:=hr2;exact go _ _ O' s' f'
  ·exact bA hr2
  ·obtain⟨O',s',f'⟩:=hr2;exact bA ⟨O',s',f.trans f'⟩
  ·obtain⟨O',s',f'⟩:=hr2;exact go _ _ O' s' f'
theorem FJ{A0:AP}{m:List Nat}(q:Dn (Al A0 O) h d v)(e:kh k [d]=some xs):∃src ws,srcOf k [v]=some src/\aq (Al A0 O) h xs ws/\src.items h=some ws/\AF h O m src ws:=by
 have lst:∀es,d=.rl es->(∃ws,v=.rl ws/\aq (Al A0 O) h es ws)\/∃a ws,v=.ref a/\h[a]?=some (.lst ws)/\aq (Al A0 O) h es ws/\∀h':Hs,(∀k,k<h.length->(∀i,O i≠some k)->h'[k]?=h[k]?)->h'[a]?=some (Ob.lst ws):=by
  rintro es rfl;rw[Dn]at q
  rcases q with ⟨ws,rfl,_,q⟩|⟨a,ws,rfl,al,g,q⟩
  ·exact .inl ⟨ws,rfl,q⟩
  ·exact .inr ⟨a,ws,rfl,g,q,λh' hk=>(hk a (aah.mp g).1 λi=>al.2 i rfl).trans g⟩
 cases k with
 |seq=>
  cases d<;>first|(cases e;done)|skip
  ·cases e;rw[Dn]at q;obtain⟨ws,rfl,q⟩:=q;exact⟨.fix ws,ws,rfl,q,rfl,λ_ _ _=>rfl⟩
  ·cases e
   rcases lst _ rfl with ⟨ws,rfl,q'⟩|⟨a,ws,rfl,g,q',st⟩
   ·exact⟨.fix ws,ws,rfl,q',rfl,λ_ _ _=>rfl⟩
   ·exact⟨.live a,ws,rfl,q',fk g,λh' hk _=>fk (st h' hk)⟩
 |range=>
  cases d<;>first|(cases e;done)|skip
  rw[Dn]at q;subst q;rename_i n;change (if inR n=true then some (bH 0 n.toNat) else none)=some _ at e;split at e
  ·rename_i hn;cases e;exact⟨.fix _,_,aak hn,lU,rfl,λ_ _ _=>rfl⟩
  ·cases e
 |enum=>
  cases d<;>first|(cases e;done)|skip
  cases e
  rcases lst _ rfl with ⟨ws,rfl,q'⟩|⟨a,ws,rfl,g,q',st⟩
  ·exact⟨.fix _,_,rfl,jB 0 q',rfl,λ_ _ _=>rfl⟩
  ·exact⟨.enum a,_,rfl,jB 0 q',jT g,λh' hk _=>jT (st h' hk)⟩
 |zip=>cases e
theorem FL{α β γ δ:Type}{R:α -> Hs -> β -> Prop}{R':γ -> Hs -> δ -> Prop}{m:M β}{f:β -> M δ}{p:Pr α}{F:α -> Pr γ}(r:Rel A h R (m h) p)(k:∀a h1 b,p=.ok a->h<+:h1->R a h1 b->Rel A h1 R' (f b h1) (F a)):Rel A h R' (bnd m f h) (pb p F):=by
 unfold bnd;cases p with
 |ok a=>
  obtain⟨b,h1,e,q,r⟩:=r;rw[e];show Rel A h R' (f b h1) (F a);have:=k a h1 b rfl q r;cases e2:F a with
  |ok c=>rw[e2]at this;obtain⟨d,h2,e3,q2,r2⟩:=this;exact⟨d,h2,e3,q.trans q2,r2⟩
  |exc c es=>rw[e2]at this;obtain⟨d,h2,e3,q2,r2⟩:=this;exact⟨d,h2,e3,q.trans q2,r2⟩
  |no=>trivial
 |exc c es=>obtain⟨ws,h1,e,q,r⟩:=r;rw[e];exact⟨ws,h1,rfl,q,r⟩
 |no=>trivial
theorem FN{e e2:IE}(h:gI Ψ (.cons e (.cons e2 r)) af=.ok ds):2<=ds.length:=by
 rw[gI,gI]at h;cases h1:(if isVar e=true then pl (jg af e) else bg Ψ e af) with
 |ok a=>
  rw[h1]at h;cases h2:(if isVar e2=true then pl (jg af e2) else bg Ψ e2 af) with
  |ok b=>
   rw[h2]at h;cases h3:gI Ψ r af with
   |ok c=>rw[h3]at h;cases h;simp
   |exc _ _=>rw[h3]at h;cases h
   |no=>rw[h3]at h;cases h
  |exc _ _=>rw[h2]at h;cases h
  |no=>rw[h2]at h;cases h
 |exc _ _=>rw[h1]at h;cases h
 |no=>rw[h1]at h;cases h
theorem FO{d1 d2:Val}(ex:kh k [d1,d2]=some xs):k=.range/\∃n m,d1=.int n/\d2=.int m/\(inR n&&inR m)=true/\xs=bH n (m-n).toNat:=by
 cases k with
 |seq=>cases d1<;>cases ex
 |enum=>cases d1<;>cases ex
 |zip=>cases ex
 |range=>
  cases d1<;>first|(cases ex;done)|skip
  cases d2<;>first|(cases ex;done)|skip
  rename_i n m;change (if (inR n&&inR m)=true then some (bH n (m-n).toNat) else none)=some xs at ex
  by_cases hn:(inR n&&inR m)=true
  ·rw[aak hn]at ex;cases ex;exact⟨rfl,n,m,rfl,rfl,hn,rfl⟩
  ·rw[aam hn]at ex;cases ex
theorem AG{d1 d2 d3:Val}:kh k (d1::d2::d3::r)=none:=by
 cases k with
 |seq=>cases d1<;>rfl
 |enum=>cases d1<;>rfl
 |zip=>rfl
 |range=>cases d1<;>first|rfl|(cases d2<;>rfl)
theorem Kv{A0:AP}{h0:Hs}{m:List Nat}(hΦ:∀j,Imp (Φ j) (Ψ j))(hi:n8 it=true)(s:SR A0 h0 af env h O)(hm:∀i,it=.cons (.var i) .nil->i∉m) :
  Rel (Al A0 O) h (λxs h' src=>∃ws,aq (Al A0 O) h' xs ws/\src.items h'=some ws/\AF h' O m src ws) (bnd (aF Φ it env) (λits=>bM (srcOf k its)) h) (pb (gI Ψ it af) λits=>pl (kh k its)):=by
 have V:=v_all hΦ;cases it with
 |nil=>rw[gI];cases k<;>trivial
 |cons e es=>
  cases es with
  |nil=>
   replace hi:=gZ hi
   by_cases hv:isVar e=true
   ·cases e<;>first|(cases hv;done)|skip
    rename_i i;rw[gI,gI,aak hv];simp only[jg];cases hx:af[i]? with
    |none=>trivial
    |some o=>
     cases o with
     |none=>trivial
     |some fd=>
      obtain⟨f,d⟩:=fd;show Rel _ _ _ _ (pl (kh k [d]));cases hf:iJ f with
      |false=>
       have hf:f=.ow:=by cases f<;>first|rfl|cases hf
       subst hf;obtain⟨a,e2,e3,e4⟩:=s.ow i d hx;have ev:bnd (aF Φ #[.var i] env) (λits=>bM (srcOf k its)) h=bM (srcOf k [.ref a]) h:=by rw[aF,aF,bI,aa (aA e2)];rfl
       rw[ev];refine bW λxs ex=>?_;have hd:∃ds,d=.rl ds:=by cases d<;>first|exact⟨_,rfl⟩|exact False.elim e4|(cases k<;>cases ex)
       obtain⟨ds,rfl⟩:=hd;obtain⟨vs,e4,e5⟩:=e4;have st:∀h':Hs,(∀i,i∉m->∀a,O i=some a->h'[a]?=h[a]?)->h'[a]?=some (Ob.lst vs):=λh' hs=>(hs i (hm i rfl) a e3).trans e4;cases k with
       |seq=>cases ex;exact⟨.live a,rfl,vs,e5,fk e4,λh' _ hs=>fk (st h' hs)⟩
       |range=>cases ex
       |enum=>cases ex;exact⟨.enum a,rfl,_,jB 0 e5,jT e4,λh' _ hs=>jT (st h' hs)⟩
       |zip=>cases ex
      |true=>
       obtain⟨v,e1,e2,_⟩:=s.sh i f d hx hf;have ev:bnd (aF Φ #[.var i] env) (λits=>bM (srcOf k its)) h=bM (srcOf k [v]) h:=by rw[aF,aF,bI,aa (aA e1)];rfl
       rw[ev];refine bW λxs ex=>?_;obtain⟨src,ws,a1,a2,a3,a4⟩:=FJ (m:=m) e2 ex;exact⟨src,a1,ws,a2,a3,a4⟩
   ·rw[gI,gI,aam hv]
    have ev:bnd (aF Φ #[e] env) (λits=>bM (srcOf k its)) h=bnd (aB Φ e env) (λv=>bM (srcOf k [v])) h:=by rw[aF,aF,bI];rfl
    rw[ev];have ep:(pb (pb (bg Ψ e af) λd=>pb (Pr.ok ([]:List Val)) λp=>Pr.ok (d.2::p)) λits=>pl (kh k its))=pb (bg Ψ e af) λd=>pl (kh k [d.2]):=by cases bg Ψ e af<;>rfl
    rw[ep];refine aj (V.1 e hi.1 af env _ h s.Dh s.er) λx h1 v p1 q1=>bW λxs ex=>?_;obtain⟨src,ws,a1,a2,a3,a4⟩:=FJ (m:=m) q1.1 ex;exact⟨src,a1,ws,a2,a3,a4⟩
  |cons e2 r=>
   have V2:=V.2 _ hi;refine FL (V2.2 af env _ h s.Dh s.er) λds h1 vs eb p1 q1=>bW λxs ex=>?_;have hl:2<=ds.length:=FN eb
   match ds,q1 with
   |[],q1=>cases k<;>cases ex
   |[d],q1=>simp at hl
   |[d1,d2],q1=>obtain⟨v,rr,rfl,hv,hr⟩:=q1;obtain⟨w,rfl,hw⟩:=Kc.one hr;obtain⟨rfl,n,m',rfl,rfl,hn,rfl⟩:=FO ex;have:=hv.int;subst this;have:=hw.int;subst this;exact⟨.fix _,aak hn,_,lU,rfl,λ_ _ _=>rfl⟩
   |d1::d2::d3::dr,q1=>rw[AG]at ex;cases ex
theorem O4(hΦ:∀j,Imp (Φ j) (Ψ j))(hi:n8 it=true)(hb:xj Φ Ψ ms body):BN Φ Ψ ms (.for p k it body):=λA0 h0 af env h O s=>by
 rw[dX,bw];refine iZ λhg=>?_;rw[and_eq_true]at hg;have hm:∀i,it=.cons (.var i) .nil->i∉mS (.for p k it body):=by
  rintro i rfl z;simp only[tu,and_eq_true,not_eq_true',List.contains_eq_mem,decide_eq_false_iff_not]at hg;simp only[mS,ux,pQ,mem_append]at z
  rcases z with z|z|z
  ·exact hg.1.1.1 z
  ·exact hg.1.2 z
  ·exact hg.1.1.2 z
 have ev:∀(F:Src->M Fl),bnd (aF Φ it env) (λits=>bnd (bM (srcOf k its)) F) h=bnd (bnd (aF Φ it env) λits=>bM (srcOf k its)) F h:=λF=>by rw[bI]
 have ep:∀(F:List Val->Pr DJ),pb (gI Ψ it af) (λits=>pb (pl (kh k its)) F)=pb (pb (gI Ψ it af) λits=>pl (kh k its)) F:=λF=>by cases gI Ψ it af<;>rfl
 rw[ev,ep];refine bT s (Kv (m:=mS (.for p k it body)) hΦ hi s hm) λxs h1 src p1 hx=>?_;obtain⟨ws,q1,q2,st⟩:=hx;have s1:=s.ext p1;have l:=q1.length;have Zl:∀(F:List Val->M Fl),bnd (ask λh=>src.items h) F h1=F ws h1:=λF=>by unfold bnd ask bM;dsimp only;rw[q2]
 rw[Zl];refine gi (yV (m:=mS (.for p k it body)) (λaQ env' h' O' x v s' qx=>?_) st xs ws 0 af env h1 O s1 (Fm.refl s1 (aaK _)) rfl q1) λf h' g r=>r.pre s p1;refine bT s' (R:=λqv h2 nq=>∃O2,SR A0 h0 qv nq h2 O2/\Fm (stored p) aQ env' h' O' qv nq h2 O2) (bW λqv e2=>?_) λqv h2 nq p2 hh=>?_
 ·obtain⟨nq,O2,b1,b2,b3⟩:=s'.bind e2 qx;exact⟨nq,b1,O2,b2,b3⟩
 ·obtain⟨O2,b2,b3⟩:=hh
  refine gi (hb A0 h0 qv nq h2 O2 b2) λf h'' g r=>RF.seq (b3.wid λi hi=>?_) (r.wid λi hi=>?_)
  ·simp only[mS,ux,pQ,mem_append];exact .inr (.inl hi)
  ·simp only[Kq,mS,ux,pQ,mem_append]at hi |-
   rcases hi with z|z
   ·exact .inl z
   ·exact .inr (.inr z)
theorem O5{n:Nat}(hΦ:∀j,Imp (Φ j) (Ψ j))(hc:dW c=true)(hb:xj Φ Ψ ms body):BN Φ Ψ ms (.whl n c body):=λA0 h0 af env h O s=>by
 have V:=(v_all hΦ).1 c hc;rw[dX,bw]
 induction n generalizing af env h O with
 |zero=>trivial
 |succ n ih=>
  simp only[pF,nt];have ct:Rel (Al A0 O) h (λt _ t'=>t'=t) ((bnd (aB Φ c env) λx=>ask λh=>cZ h x) h) (pb (zX Ψ c af) λx=>pl (cZ [] x.2)) :=
   aj (kM V s.Dh s.er) λx h1 v p1 q1=>cN λt et=>⟨t,wZ q1 et,rfl⟩
  refine bT s ct λt h1 t' p1 et=>?_;subst et;have s1:=s.ext p1;cases t' with
  |true=>
   rw[aak rfl,aak rfl];refine oh (hb A0 h0 af env h1 O s1) λf h2 g r=>?_;have r:=(r.pre s p1).wid (m':=mS (.whl n c body)) λi hi=>hi;cases f<;>cases g<;>first|exact r.elim|skip
   ·obtain⟨O',s',f'⟩:=r;exact gi (ih _ _ _ O' s') λf h' g r'=>RF.seq f' r'
   ·exact bA r
   ·obtain⟨O',s',f'⟩:=r;exact bA ⟨O',s',f'⟩
   ·obtain⟨O',s',f'⟩:=r;exact gi (ih _ _ _ O' s') λf h' g r'=>RF.seq f' r'
  |false=>rw[aam aab,aam aab];exact bA ⟨O,s1,Fm.refl s p1⟩
theorem LM:iJ (Xk m)=true:=by cases m<;>rfl
theorem SR.fr{A0:AP}{h0:Hs}(s:SR A0 h0 af env h O):ER A0 (v9 af) env h:=λi f d e=>by
 unfold v9 at e;rw[aaF]at e;cases hx:af[i]? with
 |none=>rw[hx]at e;cases e
 |some o=>
  rw[hx]at e;cases o with
  |none=>cases e
  |some fd=>
   obtain⟨m,d'⟩:=fd;cases e;rw[aam (by rw[LM];decide)];cases hm:iJ m with
   |false=>
    have hm:m=.ow:=by cases m<;>first|rfl|cases hm
    subst hm;obtain⟨a,e2,e3,e4⟩:=s.ow i d hx;exact⟨_,e2,(e4.mono (A':=A0) (λ_ g=>g) λ_ _ z=>z.wid λ_ y=>y.1).dn (s.up a (s.own i a e3).1)⟩
   |true=>obtain⟨v,e1,e2,_⟩:=s.sh i m d hx hm;exact⟨v,e1,e2.wid λ_ z=>z.1⟩
theorem vz{A0:AP}{h0:Hs}{α β γ δ:Type}{R:α -> Hs -> β -> Prop}{R':γ -> Hs -> δ -> Prop}{mm:M β}{f:β -> M δ}{p:Pr α}{F:α -> Pr γ}(s:SR A0 h0 af env h O)(r:Rel A0 h R (mm h) p)(k:∀a h1 b,h<+:h1->R a h1 b->iT A0 h0 R' (f b h1) (F a)):iT A0 h0 R' (bnd mm f h) (pb p F):=by
 unfold bnd;cases p with
 |ok a=>obtain⟨b,h1,e,q,r⟩:=r;rw[e];exact k a h1 b q r
 |exc c es=>obtain⟨ws,h1,e,q,r⟩:=r;rw[e];exact⟨ws,h1,rfl,s.pre.trans q,r⟩
 |no=>trivial
theorem Dl(h:J8 env es=some p):∃i j,es=.cons (.var i) #[.var j]/\env[i]?=some (some (.nw,p.1))/\env[j]?=some (some (.nw,p.2)):=by
 unfold J8 at h;split at h
 ·split at h
  ·rename_i a b;cases h;exact⟨_,_,rfl,a,b⟩
  ·cases h
 ·cases h
theorem O6(hΦ:∀j,Imp (Φ j) (Ψ j))(ho:dW e=true):BN Φ Ψ ms (.ret e):=λA0 h0 af env h O s=>by
 have V:=(v_all hΦ).1 e ho;have gen:UB Ψ e af=bg Ψ e af->iT A0 h0 (RF A0 h0 (mS (.ret e)) af env h O) (dX Φ (.ret e) env h) (bw Ψ ms (.ret e) af):=λhe=>by
  rw[dX,bw,he];exact bT s (V af env _ h s.Dh s.er) λx h1 v p1 q1=>bA ⟨q1.1.wid λ_ z=>z.1,λf=>(q1.2 f).wid (Fr.le s.pre.length_le),s.pre.trans p1⟩
 cases e with
 |var i=>
  rw[dX,bw];simp only[UB];cases hx:af[i]? with
  |none=>trivial
  |some o=>
   cases o with
   |none=>trivial
   |some fd=>
    obtain⟨f,d⟩:=fd;cases hf:iJ f with
    |false=>
     have hf:f=.ow:=by cases f<;>first|rfl|cases hf
     subst hf;obtain⟨a,e2,e3,e4⟩:=s.ow i d hx;rw[aa (aA e2)];have ha:=s.own i a e3;cases d<;>first|exact False.elim e4|skip
     ·refine⟨_,h,rfl,?_,λhi=>?_,s.pre⟩
      ·exact(e4.mono (A':=A0) (λ_ g=>g) λ_ _ z=>z.wid λ_ y=>y.1).dn (s.up a ha.1)
      ·obtain⟨vs,e4,e5⟩:=e4;show Dn _ h (.rl _) (.ref a);rw[Dn];exact .inr ⟨a,vs,rfl,ha.1,e4,iK e5 hi⟩
     ·refine⟨_,h,rfl,?_,λhi=>?_,s.pre⟩
      ·exact(e4.mono (A':=A0) (λ_ g=>g) λ_ _ z=>z.wid λ_ y=>y.1).dn (s.up a ha.1)
      ·obtain⟨kvs,e4,ek,e5⟩:=e4;show Dn _ h (.dc _ _) (.ref a);rw[Dn];exact⟨a,kvs,rfl,ha.1,e4,ek,iK e5 hi⟩
    |true=>
     obtain⟨v,e1,e2,e3⟩:=s.sh i f d hx hf;rw[aa (aA e1)];dsimp only;rw[aak hf];refine⟨_,h,rfl,e2.wid λ_ z=>z.1,λhi=>?_,s.pre⟩
     rcases(or_eq_true _ _).mp hi with hi|hi
     ·exact(eX d v hi).mpr ((eX d v hi).mp e2)
     ·exact(e3 hi).wid λ_ z=>z.1
 |call j es=>rw[dX,bw];exact vz s (V (v9 af) env A0 h (s.up.ext s.pre) s.fr) λx h1 v p1 q1=>bA ⟨q1.1,λf=>(q1.2 f).wid (Fr.le s.pre.length_le),s.pre.trans p1⟩
 |tup es=>
  rw[dX,bw];change iT A0 h0 _ _ (pb (J9 Ψ es af) _);unfold J9
  split
  ·rename_i pp hp
   obtain⟨i,j,he,hi,hj⟩:=Dl hp;subst he;obtain⟨v,e1,e2,e3⟩:=s.sh i .nw _ hi rfl;obtain⟨w,k1,k2,k3⟩:=s.sh j .nw _ hj rfl;have ev:aB Φ (.tup #[.var i,.var j]) env h=.ok (.tup [v,w]) h:=by rw[aB,aF,aF,aF];rw[aa (a:=[v,w]) (h1:=h) (by rw[aa (aA e1),aa (a:=[w]) (h1:=h) (by rw[aa (aA k1)];rfl)];rfl)];rfl
   rw[aa ev];refine⟨_,h,rfl,?_,λ_=>?_,s.pre⟩
   ·show Dn A0 h (.tup _) _;rw[Dn];exact⟨_,rfl,aq.cons (e2.wid λ_ z=>z.1) (aq.cons (k2.wid λ_ z=>z.1) aq.nil)⟩
   ·show Dn (Fr h0.length) h (.tup _) _;rw[Dn];exact⟨_,rfl,aq.cons ((e3 rfl).wid λ_ z=>z.1) (aq.cons ((k3 rfl).wid λ_ z=>z.1) aq.nil)⟩
  exact vz s (V (v9 af) env A0 h (s.up.ext s.pre) s.fr) λx h1 v p1 q1=>bA ⟨q1.1,λf=>(q1.2 f).wid (Fr.le s.pre.length_le),s.pre.trans p1⟩
 |_=>exact gen rfl
theorem O7:xj Φ Ψ ms .nil:=λA0 h0 af env h O s=>by rw[bN,av];exact bA ⟨O,s,Fm.refl s (aaK _)⟩
theorem Kw(ha:BN Φ Ψ ms a)(hr:xj Φ Ψ ms r):xj Φ Ψ ms (.cons a r):=λA0 h0 af env h O s=>by
 rw[bN,av];have w1:∀i∈mS a,i∈Kq (.cons a r):=λi hi=>by
  simp only[mS,Kq,gW,mK,mem_append]at hi |-
  rcases hi with z|z
  ·exact .inl (.inl z)
  ·exact .inr (.inl z)
 have w2:∀i∈Kq r,i∈Kq (.cons a r):=λi hi=>by
  simp only[Kq,gW,mK,mem_append]at hi |-
  rcases hi with z|z
  ·exact .inl (.inr z)
  ·exact .inr (.inr z)
 refine oh (ha A0 h0 af env h O s) λf h1 g rr=>?_;have rr:=rr.wid w1;cases f<;>cases g<;>first|exact rr.elim|skip
 ·obtain⟨O',s',f'⟩:=rr;exact gi (hr A0 h0 _ _ h1 O' s') λf h' g r'=>RF.seq f' (r'.wid w2)
 ·exact bA rr
 ·exact bA rr
 ·exact bA rr
theorem SK(hΦ:∀j,Imp (Φ j) (Ψ j)):∀ss,yU ss=true->xj Φ Ψ ms ss:=by
 intro ss;refine dm.rec (motive_1:=λs=>Xo s=true->BN Φ Ψ ms s) (motive_2:=λss=>yU ss=true->xj Φ Ψ ms ss) ?_ ?_ ?_ ?_ ?_ ?_ ?_ ?_ ?_ ?_ ?_ ?_ ?_ ?_ ?_ ?_ ss
 ·exact λe f=>Kr hΦ f
 ·exact λp e f=>OZ hΦ f
 ·exact λi o e f=>O0 hΦ f
 ·intro o i v f;have f:=xh f;exact Ku hΦ f.1.1 f.1.2 f.2
 ·intro c a b ia ib f;have f:=xh f;exact O3 hΦ f.1.1 (ia f.1.2) (ib f.2)
 ·intro p k it b ib f;have f:=gZ f;exact O4 hΦ f.1 (ib f.2)
 ·intro n c b ib f;have f:=gZ f;exact O5 hΦ f.1 (ib f.2)
 ·exact λe f=>O6 hΦ f
 ·exact λ_ A0 h0 af env h O s=>by rw[dX,bw];exact bA ⟨by rw[Dn],λ_=>by rw[Dn],s.pre⟩
 ·exact λ_ A0 h0 af env h O s=>by rw[dX,bw];exact bA ⟨O,s,Fm.refl s (aaK _)⟩
 ·exact λ_ A0 h0 af env h O s=>by rw[dX,bw];exact bA ⟨O,s,Fm.refl s (aaK _)⟩
 ·exact λ_ A0 h0 af env h O s=>by rw[dX,bw];exact bA ⟨O,s,Fm.refl s (aaK _)⟩
 ·exact λ_ A0 h0 af env h O s=>by rw[bw];trivial
 ·exact λ_ _ _ _ _ A0 h0 af env h O s=>by rw[bw];trivial
 ·exact λ_=>O7
 ·intro a r ia ir f;have f:=gZ f;exact Kw (ia f.1) (ir f.2)
theorem SM{n:Nat}(u:Up A h)(q:aq A h ds vs):SR A h (ds.map (λd=>some (.sh,d))++replicate (n-ds.length) none) (vs.map some++replicate (n-vs.length) none) h (λ_=>none):=by
 have l:=q.length;have al:∀k,A k->Al A (λ_=>none) k:=λk hk=>⟨hk,λi z e=>by subst e;cases z⟩;have get:∀(i:Nat) (f:Mk) (d:Val),(ds.map (λd=>some (.sh,d))++replicate (n-ds.length) none:bC)[i]?=some (some (f,d))->f=.sh/\ds[i]?=some d:=λi f d e=>by
  by_cases hi:i<ds.length
  ·rw[aav (by simpa using hi),aaF]at e
   cases ei:ds[i]? with
   |none=>rw[ei]at e;cases e
   |some d'=>rw[ei]at e;cases e;exact⟨rfl,rfl⟩
  ·rw[aaC (by simp;omega)]at e;have:=aaL e;rw[List.mem_replicate]at this;exact absurd this.2 (by simp)
 refine⟨by simp[l],λi m d e hm=>?_,λi d e=>?_,(λi a e=>nomatch e),(λi j a e=>nomatch e),aaK _,u⟩
 ·obtain⟨hm',e⟩:=get i m d e;obtain⟨v,k1,k2⟩:=q.get e;have hi:i<vs.length:=(aah.mp k1).1;exact⟨v,by rw[aav (by simpa using hi),aaF,k1];rfl,k2.wid al,λz=>by subst hm';cases z⟩
 ·obtain⟨z,_⟩:=get i .ow d e;cases z
theorem cC{n:Nat}(hΦ:∀j,Imp (Φ j) (Ψ j))(ho:yU body=true):Imp (fW Φ n body) (gh Ψ n body):=λA h ds vs u q=>by
 have l:=q.length;have s:=SM (n:=n) u q;unfold fW gh;have r:=oh (R':=λx h' v=>h<+:h'/\RV A h x h' v) (SK (ms:=gW body) hΦ body ho A h _ _ h _ s) (f:=λf=>match f with
  |.nx _=>ret .non
  |.rt v=>ret v
  |_=>bM none) (F:=λf=>match f with
  |.nx _=>.ok (true,.non)
  |.rt p=>.ok p
  | _=>.no) λf h1 g rr=>by
   cases f<;>cases g<;>first|exact rr.elim|skip
   ·obtain⟨O',s',_⟩:=rr;exact bA ⟨s'.pre,by show Dn _ _ Val.non _;rw[Dn],λ_=>by show Dn _ _ Val.non _;rw[Dn]⟩
   ·exact bA ⟨rr.2.2,rr.1,rr.2.1⟩
   ·trivial
   ·trivial
 revert r;generalize (pb (av Ψ (gW body) body (ds.map (λd=>some (.sh,d))++replicate (n-ds.length) none)) _)=p;intro r;cases p with
 |ok x=>obtain⟨v,h',e,a,b⟩:=r;exact⟨v,h',e,a,b⟩
 |exc c es=>exact r
 |no=>trivial
end
abbrev bG:=List Val->Pr FV
def ai(gs:List bG)(j:Nat):bG:=match gs[j]? with
 |some g=>g
 |none=>λ_=>.no
def fu(fs:List Row)(gs:List bG):Prop:=fs.length=gs.length/\∀(j:Nat) (r:Row) (g:bG),fs[j]?=some r->gs[j]?=some g->Imp r.2.2 g
theorem FP:fu [] []:=⟨rfl,λj r g e=>by simp at e⟩
theorem aM(a:fu fs gs)(j:Nat):Imp (look fs j) (ai gs j):=by
 unfold look ai;cases e:fs[j]? with
 |none=>
  have:gs[j]?=none:=by have:=List.getElem?_eq_none_iff.mp e;exact List.getElem?_eq_none_iff.mpr (by rw[<-a.1];exact this)
  rw[this];exact λ_ _ _ _ _ _=>trivial
 |some r=>
  cases e2:gs[j]? with
  |none=>exact λ_ _ _ _ _ _=>trivial
  |some g=>exact a.2 j r g e e2
theorem aK{k:Nat}(a:fu fs gs)(i:Imp f g):fu (fs++[(x,k,f)]) (gs++[g]):=by
 refine⟨by simp[a.1],λj r g' e1 e2=>?_⟩
 by_cases hj:j<fs.length
 ·rw[aav hj]at e1;rw[aav (by rw[<-a.1];exact hj)]at e2;exact a.2 j r g' e1 e2
 ·rw[aaC (by omega)]at e1
  rw[aaC (by rw[<-a.1];omega)]at e2;have hj0:j-fs.length=0:=by have:=(aah.mp e1).1;simp at this;omega
  rw[<-a.1]at e2;rw[hj0]at e1 e2;simp at e1 e2;subst e1;subst e2;exact i
theorem FQ(i:Imp φ ψ){ns:List Int}{f:Bool}(e:ψ [.rl (ns.map .int)]=.ok (f,.bl true)):∃h',φ [.rl (ns.map .int)] []=.ok (.bl true) h':=by
 have r:=i (λ_=>True) [] [.rl (ns.map .int)] [.rl (ns.map .int)] (λ_ _=>trivial) (aq.cons (by rw[Dn];exact .inl ⟨_,rfl,trivial,(aP _ _ (aO ns)).mpr rfl⟩) aq.nil);rw[e]at r;obtain⟨v,h',e1,_,q⟩:=r;have q:=q.1;dsimp only at q;rw[Dn]at q;subst q;exact⟨h',e1⟩
section
variable {α β γ:Type}
theorem ay(a:α)(f:α -> Pr β):pb (.ok a) f=f a:=rfl
theorem O8(c:Prop)[Decidable c](m n:Pr α)(f:α -> Pr β):pb (if c then m else n) f=if c then pb m f else pb n f:=by split<;>rfl
theorem vA(m:Pr α)(f:α -> Pr β)(g:β -> Pr γ):pb (pb m f) g=pb m λx=>pb (f x) g:=by cases m<;>rfl
theorem bB(a:α):pl (some a)=.ok a:=rfl
theorem Ky(m:Pr α):pg true m=m:=rfl
theorem O9(c:Prop)[Decidable c](m:Pr α):pg (decide c) m=if c then m else .no:=by unfold pg;simp
theorem jU{c:Bool}(h:c=true)(m:Pr α):pg c m=m:=by rw[h];rfl
end
theorem gJ{f:Bool}:iJ (fj f d)=true:=by unfold fj;split<;>rfl
theorem SN:iJ .sh=true:=rfl
theorem SO:iJ .nw=true:=rfl
theorem SQ:iJ .ow=false:=rfl
theorem SS:Qs .sh=false:=rfl
theorem SV:Qs .nw=true:=rfl
theorem fP{f:Bool}{i:Int}:fj f (.int i)=.sh:=by cases f<;>rfl
theorem SW{f:Bool}{i:Bool}:fj f (.bl i)=.sh:=by cases f<;>rfl
theorem Pa{f:Bool}:fj f (.str i)=.sh:=by cases f<;>rfl
theorem Pb{f:Bool}:fj f .non=.sh:=by cases f<;>rfl
theorem Wa:fj false d=.sh:=rfl
theorem SX:fj true (.rl ds)=.nw:=rfl
theorem SY:fj true (.dc ks ds)=.nw:=rfl
section
variable {a b:Int} {x y:Str} {t:Bool} {vs ws:List Val} {v:Val}
theorem S0:dZ .add (.int a) (.int b)=.ok (true,.int (a+b)):=rfl
theorem S4:dZ .sub (.int a) (.int b)=.ok (true,.int (a-b)):=rfl
theorem BQ(h:kE a b=true):dZ .mul (.int a) (.int b)=.ok (true,.int (a*b)):=by simp only[dZ];exact jU h _
theorem jV(h:kg b=true):dZ .fdiv (.int a) (.int b)=.ok (true,.int (a/b)):=by simp only[dZ];exact jU h _
theorem gY(h:decide (0<b)=true):dZ .mod (.int a) (.int b)=.ok (true,.int (a%b)):=by simp only[dZ];exact jU h _
theorem BR(h:decide (0<=b/\b<=1000000/\a.natAbs<2 ^ 64)=true):dZ .pow (.int a) (.int b)=.ok (true,.int (a ^ b.toNat)):=by simp only[dZ];exact jU h _
theorem Wb:cop [] .lt (.int a) (.int b)=some (decide (a<b)):=rfl
theorem Wc:cop [] .le (.int a) (.int b)=some (decide (a<=b)):=rfl
theorem Wd:cop [] .gt (.int a) (.int b)=some (decide (b<a)):=rfl
theorem We:cop [] .ge (.int a) (.int b)=some (decide (b<=a)):=rfl
theorem S5:cop [] .eq (.int a) (.int b)=some (decide (a=b)):=by
 show some (a==b)=_
 congr 1
theorem Pc:cop [] .ne (.int a) (.int b)=some (!decide (a=b)):=by
 show some (!(a==b))=_
 congr 1
theorem S6:cop [] .isn v .non=some (nU v):=by cases v<;>rfl
theorem S7:cop [] .ntn v .non=some (!nU v):=by cases v<;>rfl
theorem FT:cZ [] (.bl t)=some t:=rfl
theorem S8:iS .len [.rl vs]=.ok (true,.int vs.length):=rfl
theorem S9:iS .len [.tup vs]=.ok (true,.int vs.length):=rfl
theorem Tc:iS .min [.int a,.int b]=.ok (true,.int (if b<a then b else a)):=rfl
theorem Td:iS .max [.int a,.int b]=.ok (true,.int (if b>a then b else a)):=rfl
theorem Pe:iS .list [.rl vs]=.ok (bD vs,.rl vs):=rfl
theorem Pf:iS .list [.tup vs]=.ok (bD vs,.rl vs):=rfl
theorem Te:iS .int [.bl t]=.ok (true,.int (if t=true then 1 else 0)):=rfl
theorem j6(h:ko vs a=some v):mY [] (.rl vs) (.int a)=some v:=h
theorem eW(h:ko vs a=some v):mY [] (.tup vs) (.int a)=some v:=h
end
theorem tH:ko (v::vs) (0:Int)=some v:=by
 have:=iV (xs:=v::vs) (j:=0) (v:=v) rfl;exact this
theorem pR:ko (u::v::vs) (1:Int)=some v:=by
 have:=iV (xs:=u::v::vs) (j:=1) (v:=v) rfl;exact this
theorem pS{T:String}{t:String}(h1:yt [] v=some t)(h2:yu T t=some true):iS (.isin T) [v]=.ok (true,.bl true):=by
 show pb (pl (yt [] v)) _=_;rw[h1,bB,ay,h2];rfl
theorem AH{T:String}{t:String}(h1:yt [] v=some t)(h2:yu T t=some false):iS (.isin T) [v]=.ok (true,.bl false):=by
 show pb (pl (yt [] v)) _=_;rw[h1,bB,ay,h2];rfl
theorem ne_self(h:toD 16 [] d=some p)(hp:p.canLay0=true):cop [] .ne d d=some false:=by
 simp only[cop,DI,h,bind_some];rw[SeqAt.eqv_refl p hp];rfl
theorem LN:kh .seq [.tup vs]=some vs:=rfl
theorem ja:kh .seq [.rl vs]=some vs:=rfl
theorem Pg:Fy .seq ds=kh .seq ds:=rfl
theorem FU:Fy .range ds=kh .range ds:=rfl
theorem Ph:Fy .enum ds=kh .enum ds:=rfl
theorem LO{lo hi:Option Int}:Dg (.rl vs) lo hi=.ok (bD (cg vs lo hi),.rl (cg vs lo hi)):=rfl
theorem aV{i:Nat}:cF (.one i) d env=some (env.set i (some (.sh,d))):=rfl
theorem oj{α β:Type}(f:α -> β)(ds:List α)(lo hi:Option Int):cg (ds.map f) lo hi=(cg ds lo hi).map f:=by
 unfold cg;simp only[length_map,List.map_take,List.map_drop]
theorem kR{α β γ:Type}{f:β -> Option γ}{g:α -> β}{k:α -> γ}:∀(xs:List α),(∀x∈xs,f (g x)=some (k x))->cM f (xs.map g)=some (xs.map k)
 |[],_=>rfl
 | x::r,h=>by
  rw[aaq,cM,h x aag,kR r λy hy=>h y (aac _ hy)];rfl
theorem ints_map(xs:List Int):cE (xs.map .int)=some xs:=by
 have:=kR (f:=λv=>match v with|.int i=>some i|_=>none) (g:=Val.int) (k:=id) xs λ_ _=>rfl;rw[map_id]at this;exact this
theorem AI(qW:List (List Int))(h:∀k∈qW,k≠[])(hl:qW.length<64):fz (qW.map nT)=some ((nR qW).map nT):=by
 unfold fz;rw[aak (by rw[aae];exact hl)];cases qW with
 |nil=>rfl
 |cons k r=>
  have e:cE (List.map nT (k::r))=none:=by unfold cE ;rw[aaq,cM];rfl
  rw[e];have e2:mG (List.map nT (k::r))=some (k::r):=by
   have:=kR (f:=λv=>match v with|.tup vs=>if vs.isEmpty then none else cE vs|_=>none) (g:=nT) (k:=id) (k::r) λx hx=>by
    have hx:=h x hx;show (if (x.map Val.int).isEmpty=true then none else cE (x.map .int))=some x;rw[aam (by simpa using hx),ints_map]
   rw[map_id]at this;exact this
  show (mG (List.map nT (k::r))).bind _=_;rw[e2];rfl
theorem AJ{α:Type}(xs:List α):gc (xs.map λ_=>Val.bl true)=some (xs.map λ_=>true):=kR (g:=λ_=>Val.bl true) (k:=λ_=>true) xs λ_ _=>rfl
theorem all_true{α:Type}(xs:List α):iS .all [.rl (xs.map λ_=>Val.bl true)]=.ok (true,.bl true):=by
 show pb (pl (gc _)) _=_;rw[AJ,bB,ay]
 congr 3
 simp
theorem FW{α:Type}{n:Nat}(f:α -> Val)(g:α -> PyData)(xs:List α)(e:∀x∈xs,toD n h (f x)=some (g x)):toD (n+1) h (.rl (xs.map f))=some (.list (xs.map g)):=by
 show (cM (toD n h) _).bind _=_;rw[kR xs e];rfl
theorem tK{α:Type}(g:α -> PyData):∀(xs:List α),(∀x∈xs,(g x).canLay0=true)->PyData.canLayAll0 (xs.map g)=true
 |[],_=>by simp[PyData.canLayAll0]
 | x::r,h=>by
  rw[aaq,PyData.canLayAll0,h x aag,tK g r λy hy=>h y (aac _ hy)];rfl
theorem FY{n:Nat}(hc:c env=.ok false):nt c body (n+1) env=.ok (.nx env):=by
 rw[nt,hc,ay,aam (by decide)]
theorem iA{α:Type}(enc:α -> Val)(Q:List α -> bC->Prop):∀(us done:List α) (env:bC),Q done env->(∀(pre:List α) (u:α) (post:List α) (env:bC),done++us=pre++u::post->Q pre env->∃env',body (enc u) env=.ok (.nx env')/\Q (pre++[u]) env')->∃env',eE body (us.map enc) env=.ok (.nx env')/\Q (done++us) env'
 |[],done,env,q,_=>⟨env,rfl,by rw[aaM];exact q⟩
 | x::xs,done,env,q,h=>by
  obtain⟨env',e,q'⟩:=h done x xs env rfl q;have eq:done++x::xs=done++[x]++xs:=by simp
  obtain⟨nq,e2,q2⟩:=iA enc Q xs (done++[x]) env' q' (by rw[<-eq];exact h);refine⟨nq,?_,by rw[eq];exact q2⟩;rw[aaq,eE,e,ay];exact e2
theorem gj{α:Type}(enc:α -> Val){us:List α}{rM:bC}{β:Type}{k:DJ->Pr β}(G:Pr β -> Prop)(Q:List α -> bC->Prop)(h0:Q [] rM)
  (step:∀(pre:List α) (u:α) (post:List α) (env:bC),us=pre++u::post->Q pre env->∃env',body (enc u) env=.ok (.nx env')/\Q (pre++[u]) env')
  (post:∀env',Q us env'->G (k (.nx env'))):G (pb (eE body (us.map enc) rM) k):=by
 obtain⟨env',e,q⟩:=iA enc Q us [] rM h0 (λpre x post env ep q=>step pre x post env ep q);rw[e,ay];exact post env' q
theorem bO:∀{l m:List Int},l.Nodup->(∀x∈l,x∈m)->l.length<=m.length
 |[],_,_,_=>zero_le _
 | x::r,m,h,hs=>by
  rw[aaI]at h;have hx:x∈m:=hs x aag;have:=bO (m:=m.erase x) h.2 λy hy=>(List.mem_erase_of_ne (λe:y=x=>h.1 (e▸hy))).mpr (hs y (aac _ hy));rw[List.length_erase_of_mem hx]at this;have:=List.length_pos_of_mem hx;rw[aaE];omega
abbrev jW(xs:List Int)(g:Int->Val):Val:=.dc (xs.map Sum.inl) (xs.map g)
def uz(g:Int->Val)(x:Int)(v:Val):Int->Val:=λy=>if y=x then v else g y
theorem AK(xs:List Int)(g:Int->Val):(xs.map (Sum.inl:Int->Key)).zip (xs.map g)=xs.map λx=>((Sum.inl x:Key),g x):=by
 induction xs with
 |nil=>rfl
 |cons x r ih=>simp only[map_cons,zip_cons_cons,ih]
theorem pT{xs:List Int}{x:Int}(h:x∈xs):mY [] (jW xs g) (.int x)=some (g x):=by
 show fH _ _=_;rw[AK];unfold fH
 induction xs with
 |nil=>simp at h
 |cons y r ih=>
  rw[aaq,find?_cons]
  by_cases e:y=x
  ·subst e;simp
  ·have:((Sum.inl y:Key)=Sum.inl x)=False:=by simp[e]
   simp only[this,decide_false];exact ih (by rcases aaw.mp h with h|h;exact absurd h.symm e;exact h)
theorem Tf{xs:List Int}{x:Int}:cop [] .inn (.int x) (jW xs g)=some (decide (x∈xs)):=by
 show some ((xs.map (Sum.inl:Int->Key)).any λj=>decide (j=Sum.inl x))=_
 congr 1
 induction xs with
 |nil=>rfl
 |cons y r ih=>
  rw[aaq,any_cons,ih]
  by_cases e:y=x
  ·subst e;simp
  ·have e':¬ x=y:=λh=>e h.symm;simp[e,e']
theorem AL(xs:List Int)(g:Int->Val)(x:Int):((xs.map λx=>((Sum.inl x:Key),g x)).any λkv=>decide (kv.1=Sum.inl x))=decide (x∈xs):=by
 induction xs with
 |nil=>rfl
 |cons y r ih=>
  rw[aaq,any_cons,ih]
  by_cases e:y=x
  ·subst e;simp
  ·have e':¬ x=y:=λh=>e h.symm;simp[e,e']
theorem Kz{xs:List Int}{x:Int}(h:x∈xs):putD (xs.map Sum.inl) (xs.map g) (.inl x) v=jW xs (uz g x v):=by
 unfold putD iR;rw[AK,AL,aak (by simpa using h)];unfold jW;rw[aa2,aa2]
 congr 1
 ·refine map_congr_left λy _=>?_
  show ((if (Sum.inl y:Key)=Sum.inl x then ((Sum.inl y:Key),v) else (Sum.inl y,g y)).1)=_
  split<;>rfl
 ·rw[aa2,aa2]
  refine map_congr_left λy _=>?_;show ((if (Sum.inl y:Key)=Sum.inl x then ((Sum.inl y:Key),v) else (Sum.inl y,g y)).2)=_;unfold uz
  by_cases e:y=x
  ·rw[aak (by rw[e]),aak e]
  ·rw[aam (by simpa using e),aam e]
theorem xm{xs:List Int}{x:Int}(h:x∉xs):putD (xs.map Sum.inl) (xs.map g) (.inl x) v=jW (xs++[x]) (uz g x v):=by
 unfold putD iR;rw[AK,AL,aam (by simpa using h)];unfold jW;simp only[List.map_append,List.map_map,map_cons,map_nil]
 congr 1
 congr 1
 ·refine map_congr_left λy hy=>?_;show g y=uz g x v y;unfold uz;rw[aam (λe:y=x=>h (e▸hy))]
 ·simp[uz]
theorem iB{xs:List Int}(h:∀x∈xs,g x=g' x):jW xs g=jW xs g':=by
 unfold jW;rw[map_congr_left h]
theorem BS{x:Int}:keyOf (.int x)=some (.inl x):=rfl
theorem KA(a b:Int):PyData.eqv (.int a) (.int b)=decide (a=b):=by
 show (a==b)=_
 by_cases h:a=b<;>simp[h]
theorem qz{xs:List Int}{x:Int}:cop [] .inn (.int x) (.rl (xs.map .int))=some (decide (x∈xs)):=by
 show (toD 16 [] (.rl (xs.map .int))).bind _=_;rw[FW Val.int PyData.int xs λ_ _=>rfl];show some ((xs.map PyData.int).any λy=>PyData.eqv y (.int x))=_
 congr 1
 induction xs with
 |nil=>rfl
 |cons y r ih=>
  rw[aaq,any_cons,ih,KA]
  by_cases e:y=x
  ·subst e;simp
  ·have e':¬ x=y:=λh=>e h.symm;simp[e,e']
theorem xq{xs:List Int}{x:Int}:cop [] .nin (.int x) (.rl (xs.map .int))=some (!decide (x∈xs)):=by
 show (cop [] .inn (.int x) (.rl (xs.map .int))).map _=_;rw[qz];rfl
theorem tL(x:Int):∀(ns ks:List Int),x∈cL ks ns↔x∈ks\/x∈ns
 |[],ks=>by simp[cL]
 | k::r,ks=>by
  rw[cL,tL x r,pe]
  split
  ·rename_i h
   constructor
   ·rintro(h'|h')
    ·exact .inl h'
    ·exact .inr (aac _ h')
   ·rintro(h'|h')
    ·exact .inl h'
    ·rcases aaw.mp h' with h'|h'
     ·exact .inl (h'▸h)
     ·exact .inr h'
  ·simp[or_assoc]
theorem gm:∀(ns ks:List Int),ks.Nodup->(cL ks ns).Nodup
 |[],ks,h=>h
 | k::r,ks,h=>by
  rw[cL];refine gm r _ ?_;rw[pe]
  split
  ·exact h
  ·rename_i hk;rw[aaH];exact⟨h,by simp,λa ha b hb=>by simp at hb;subst hb;exact λe=>hk (e▸ha)⟩
def f9(ns:List Int):List Int:=sortI (cL [] ns)
theorem FZ(x:Int)(ns:List Int):x∈f9 ns↔x∈ns:=by
 unfold f9;rw[(aaY _).mem_iff,tL];simp
theorem jX(ns:List Int):(f9 ns).Nodup:=by
 unfold f9;rw[(aaY _).nodup_iff];exact gm ns [] nodup_nil
inductive Way (es:List (Int×Int)):Int->Int->Prop
 |refl (a:Int):Way es a a
 |fwd {a b c:Int}:Way es a b->(b,c)∈es->Way es a c
 |bwd {a b c:Int}:Way es a b->(c,b)∈es->Way es a c
theorem Way.trans{a b c:Int}(h:Way es a b)(k:Way es b c):Way es a c:=by
 induction k with
 |refl=>exact h
 |fwd _ m ih=>exact .fwd ih m
 |bwd _ m ih=>exact .bwd ih m
theorem Way.symm{a b:Int}(h:Way es a b):Way es b a:=by
 induction h with
 |refl=>exact .refl _
 |fwd _ m ih=>exact(Way.bwd (.refl _) m).trans ih
 |bwd _ m ih=>exact(Way.fwd (.refl _) m).trans ih
theorem Way.mono(hs:∀e∈es,e∈fs){a b:Int}(h:Way es a b):Way fs a b:=by
 induction h with
 |refl=>exact .refl _
 |fwd _ m ih=>exact .fwd ih (hs _ m)
 |bwd _ m ih=>exact .bwd ih (hs _ m)
theorem Way.const{α:Type}(f:Int -> α)(hf:∀e∈es,f e.1=f e.2){a b:Int}(h:Way es a b):f a=f b:=by
 induction h with
 |refl=>rfl
 |fwd _ m ih=>exact ih.trans (hf _ m)
 |bwd _ m ih=>exact ih.trans (hf _ m).symm
structure mL (ps:List Int) (es:List (Int×Int)) (f:Int->Int):Prop where
 inn:∀x∈ps,f x∈ps
 way:∀x∈ps,Way es x (f x)
 same:∀e∈es,f e.1=f e.2
theorem mL.iff{ps:List Int}(h:mL ps es f){x y:Int}(hx:x∈ps)(hy:y∈ps):f x=f y↔Way es x y:=by
 constructor
 ·intro e;have:=(h.way y hy).symm;rw[<-e]at this;exact(h.way x hx).trans this
 ·exact λw=>w.const f h.same
theorem mL.start(ps:List Int):mL ps [] id:=⟨λx h=>h,λx _=>.refl x,λe h=>by simp at h⟩
theorem mL.step{ps:List Int}(h:mL ps es f){a b:Int}(ha:a∈ps)(hb:b∈ps)(kept gone:Int)(hk:(kept=f a/\gone=f b)\/(kept=f b/\gone=f a)):mL ps (es++[(a,b)]) (λx=>if f x=gone then kept else f x):=by
 have up:∀{x y},Way es x y->Way (es++[(a,b)]) x y:=λw=>w.mono λe he=>aat _ he;have ab:Way (es++[(a,b)]) a b:=.fwd (.refl _) (by simp);refine⟨λx hx=>?_,λx hx=>?_,λe he=>?_⟩
 ·split
  ·rcases hk with ⟨k,_⟩|⟨k,_⟩<;>rw[k]<;>exact h.inn _ (by assumption)
  ·exact h.inn x hx
 ·split
  ·rename_i e
   have w1:=up (h.way x hx);rw[e]at w1;refine w1.trans ?_
   rcases hk with ⟨k,g⟩|⟨k,g⟩
   ·rw[k,g];exact((up (h.way b hb)).symm.trans ab.symm).trans (up (h.way a ha))
   ·rw[k,g];exact((up (h.way a ha)).symm.trans ab).trans (up (h.way b hb))
  ·exact up (h.way x hx)
 ·rcases aas.mp he with he|he
  ·rw[h.same e he]
  ·rw[aap]at he
   subst he
   rcases hk with ⟨k,g⟩|⟨k,g⟩
   ·rw[k,g];rw[aak (rfl:f b=f b)];split<;>rfl
   ·rw[k,g];rw[aak (rfl:f a=f a)];split<;>rfl
abbrev T3:=Int×Int×Int
def l3(t:T3):List Int:=[t.1,t.2.1,t.2.2]
def dh(t:T3):Val:=.tup [.int t.1,.int t.2.1,.int t.2.2]
def tM(x:T3):List T3->List T3
 |[]=>[x]
 |y::r=>if HT.lexLt (l3 y) (l3 x)=true then y::tM x r else x::y::r
def fY:List T3->List T3
 |[]=>[]
 |x::r=>tM x (fY r)
theorem yW(x:T3):∀l:List T3,wI (l3 x) (l.map l3)=(tM x l).map l3
 |[]=>rfl
 | y::r=>by
  rw[aaq,wI,tM]
  split
  ·rw[aaq,yW x r]
  ·rfl
theorem vB:∀l:List T3,nR (l.map l3)=(fY l).map l3
 |[]=>rfl
 |x::r=>by rw[aaq,nR,vB r,yW];rfl
theorem pU(x:T3):∀l:List T3,(tM x l).Perm (x::l)
 |[]=>.refl _
 | y::r=>by
  rw[tM]
  split
  ·exact((pU x r).cons y).trans (List.Perm.swap ..)
  ·exact .refl _
theorem nu:∀l:List T3,(fY l).Perm l
 |[]=>.refl _
 |x::r=>(pU x _).trans ((nu r).cons x)
theorem KC(ts:List T3)(hl:ts.length<64):fz (ts.map dh)=some ((fY ts).map dh):=by
 have e:∀us:List T3,us.map dh=(us.map l3).map nT:=λus=>by rw[aa2];rfl
 rw[e,AI _ (λk hk=>by obtain⟨t,_,rfl⟩:=aaW.mp hk;simp[l3]) (by rw[aae];exact hl),vB,e]
theorem tN(hl:ts.length<64):iS .sorted [.rl (ts.map dh)]=.ok (true,.rl ((fY ts).map dh)):=by
 show pb (pl (fz _)) _=_;rw[KC ts hl];rfl
def KD(ts:List T3):Prop:=ts.Pairwise λa b=>a.1<b.1
theorem BU(x:T3):∀l:List T3,KD l->(∀y∈l,y.1≠x.1)->KD (tM x l)
 |[],_,_=>by simp[tM,KD]
 | y::r,h,hn=>by
  unfold KD at *;rw[aaR]at h;have ny:y.1≠x.1:=hn y aag;rw[tM];have lx:HT.lexLt (l3 y) (l3 x)=decide (y.1<x.1):=by show HT.lexLt (y.1::_) (x.1::_)=_;rw[HT.f6,aam ny]
  rw[lx]
  by_cases c:y.1<x.1
  ·rw[aak (by simpa using c),aaR]
   refine⟨λz hz=>?_,BU x r h.2 λz hz=>hn z (aac _ hz)⟩
   rcases aaw.mp ((pU x r).mem_iff.mp hz) with hz|hz
   ·rw[hz];exact c
   ·exact h.1 z hz
  ·rw[aam (by simpa using c),aaR,aaR]
   refine⟨λz hz=>?_,h⟩;have:x.1<y.1:=by omega
   rcases aaw.mp hz with hz|hz
   ·rw[hz];exact this
   ·have:=h.1 z hz;omega
theorem yX:∀l:List T3,(l.map (·.1)).Nodup->KD (fY l)
 |[],_=>.nil
 | x::r,h=>by
  rw[aaq,aaI]at h;refine BU x _ (yX r h.2) λy hy e=>h.1 ?_;rw[(nu r).mem_iff]at hy;exact aaW.mpr ⟨y,hy,e⟩
def turnT(t:T3):T3:=(t.1,if t.2.2<t.2.1 then t.2.2 else t.2.1,if t.2.2>t.2.1 then t.2.2 else t.2.1)
def di(p q:Int)(ts:List T3):Val:=.tup [.tup [.int p,.int q],.rl (ts.map dh)]
theorem KG{i j k:Nat}:cF (.tup [i,j,k]) (dh t) env=some (((env.set i (some (.sh,.int t.1))).set j (some (.sh,.int t.2.1))).set k (some (.sh,.int t.2.2))):=rfl
theorem Pj:Dg (dh t) (some 1) none=.ok (true,.tup [.int t.2.1,.int t.2.2]):=rfl
theorem tO{α:Type}(enc:α -> Val)(g:α -> FV):∀(us:List α),(∀u∈us,f (enc u)=.ok (some (g u)))->j5 f (us.map enc)=.ok (us.all λu=>(g u).1,us.map λu=>(g u).2)
 |[],_=>rfl
 | x::xs,h=>by
  rw[aaq,j5,h x aag,ay,tO enc g xs λy hy=>h y (aac _ hy),ay];rfl
theorem fy{α:Type}(enc dec:α -> Val)(us:List α)(h:∀u∈us,f (enc u)=.ok (some (true,dec u))):j5 f (us.map enc)=.ok (true,us.map dec):=by
 rw[tO enc (λu=>(true,dec u)) us h];simp
theorem jY{α:Type}(enc dec:α -> Val)(t:α -> Bool):∀(us:List α),(∀u∈us,f (enc u)=.ok (if t u=true then some (true,dec u) else none))->j5 f (us.map enc)=.ok (true,(us.filter t).map dec)
 |[],_=>rfl
 | x::xs,h=>by
  rw[aaq,j5,h x aag,ay,jY enc dec t xs λy hy=>h y (aac _ hy),ay]
  by_cases hx:t x=true
  ·rw[aak hx,List.filter_cons_of_pos hx];rfl
  ·rw[aam hx,List.filter_cons_of_neg hx]
theorem KH:∀m,m<67->∀d,d<67->0<m->0<d->(m*d)%67≠0:=by decide +kernel
theorem KI{m c i j:Int}(hm:0<m/\m<67)(hi:0<=i/\i<67)(hj:0<=j/\j<67)(e:(m*i+c)%67=(m*j+c)%67):i=j:=by
 have key:∀i j:Int,0<=i->j<67->i<j->(m*i+c)%67=(m*j+c)%67->False:=by
  intro i j h0 h1 hlt e;obtain⟨a,ha⟩:=aa3 (show 0<=m by omega);obtain⟨d,hd⟩:=aa3 (show 0<=j-i by omega);have p:=KH a (by omega) d (by omega) (by omega) (by omega);have:m*j=m*i+m*(j-i):=by rw[Int.mul_sub];omega
  rw[this]at e;have e2:(m*(j-i))%67=0:=by omega
  rw[ha,hd]at e2;apply p;have:((a*d:Nat):Int)%67=0:=by rw[Int.natCast_mul];exact e2
  omega
 rcases Int.lt_trichotomy i j with h|h|h
 ·exact(key i j hi.1 hj.2 h e).elim
 ·exact h
 ·exact(key j i hj.1 hi.2 h e.symm).elim
theorem om{α:Type}{f:Hs->Option α}{a:α}(e:f h=some a):ask f h=.ok a h:=by show (match f h with|some a=>Out.ok a h|none=>Out.no)=_;rw[e]
theorem bq{α β:Type}{f:Hs->Option α}{g:α -> M β}{a:α}(e:f h=some a):bnd (ask f) g h=g a h:=aa (om e)
theorem ie{α β:Type}{o:Option α}{g:α -> M β}{a:α}(e:o=some a):bnd (bM o) g h=g a h:=aa (by unfold bM;rw[e])
def Iv:Val->Option (Int×Int×Int)
 |.tup [.int a,.int b,.int c]=>some (a,b,c)
 |_=>none
def jE(kvs:List (Key×Val))(t:Int×Int×Int):List (Key×Val):=iR kvs (.inl t.1) (.tup [.int t.2.1,.int t.2.2])
def bU(p q:Int)(ts:List (Int×Int×Int)):List (Key×Val):=ts.foldl jE [(.inl (-1),.tup [.int p,.int q])]
def mO(Ψ:Nat->List Val->Pr FV)(c jo jp:Nat)(ds:List Val):Pr FV:=match ds with
 | [net]=>(match Ψ jo [net] with
  | .ok (true,.tup [.tup [.int p,.int q],.rl ts])=>pb (pl (cM Iv ts)) λes=>pg (decide (es.length<1000)) (match Ψ jp [.tup [.tup [.int p,.int q],.rl ts]] with
   |.ok (true,y)=>.ok (true,.ob c ["net","places","ends"] [.tup [.tup [.int p,.int q],.rl ts],y,.dc ((bU p q es).map (·.1)) ((bU p q es).map (·.2))])
   |_=>.no)
  |_=>.no)
 |_=>.no
abbrev tR(n jo jp:Nat):dm:=.cons (.setF n (!0) "net" (.call jo #[!1])) (.cons (.setF n (!0) "places" (.call jp #[.fld n (!0) "net"])) (.cons (.setF n (!0) "ends" (.dct1 (.con "THOUGHT" (.int (-1))) (.idx (.fld n (!0) "net") (¬0))))
 #[.for (.tup [2,3,4]) .seq #[.idx (.fld n (!0) "net") (¬1)] #[.f9 (.fld n (!0) "ends") (!2) (.tup #[!3,!4])]]))
def BV(t:Int×Int×Int):Val:=.tup [.int t.1,.int t.2.1,.int t.2.2]
theorem KJ(e:Iv v=some t):v=BV t:=by
 unfold Iv at e;split at e
 ·cases e;rfl
 ·cases e
theorem yY:∀{vs:List Val} {ts:List (Int×Int×Int)},cM Iv vs=some ts->vs=ts.map BV
 |[],ts,e=>by cases e;rfl
 | v::vs,ts,e=>by
  rw[cM]at e;obtain⟨t,e1,e⟩:=aad.mp e;obtain⟨r,e2,e⟩:=aad.mp e;cases e;rw[KJ e1,yY e2];rfl
theorem xr:∀ts:List (Int×Int×Int),bD (ts.map BV)=true
 |[]=>rfl
 |t::r=>by rw[aaq,bD,xr r];rfl
theorem Ga(kvs:List (Key×Val))(k:Key)(v:Val):(iR kvs k v).length<=kvs.length+1:=by
 unfold iR
 split
 ·rw[aae];omega
 ·rw[aaj];simp
theorem Gb(hv:jx v=true)(kvs:List (Key×Val))(h:∀kv∈kvs,jx kv.2=true):∀kv∈iR kvs k v,jx kv.2=true:=by
 unfold iR;intro kv hk;split at hk
 ·obtain⟨z,hz,rfl⟩:=aaW.mp hk
  split
  ·exact hv
  ·exact h z hz
 ·rcases aas.mp hk with hk|hk
  ·exact h kv hk
  ·rw[aap.mp hk];exact hv
theorem yZ:∀(ts:List (Int×Int×Int)) (kvs:List (Key×Val)),(∀kv∈kvs,jx kv.2=true)->∀kv∈ts.foldl jE kvs,jx kv.2=true
 |[],kvs,h=>h
 |t::r,kvs,h=>yZ r _ (Gb rfl kvs h)
theorem y9:∀{vs:List Val},(∀v∈vs,jx v=true)->bD vs=true
 |[],_=>rfl
 |v::vs,h=>by rw[bD,h v aag,y9 λw hw=>h w (aac _ hw)];rfl
section
variable {Φ:Nat->List Val->M Val} {Ψ:Nat->List Val->Pr FV}
theorem vC{n c D L E:Nat}{ts:List (Int×Int×Int)}{fs:List (Str×Val)}(hc:c<n)(hf:fs.lookup ("ends":Str)=some (Val.ref E))(Pk:ts.length<1000)(Xp:D≠E)(Wf:L≠E) :
  ∀(m j:Nat) (kvs:List (Key×Val)) (env:Env) (h h':Hs),m+j=ts.length->kvs.length<=j+1->env[0]?=some (some (.ref D))->4<env.length->h[D]?=some (.ins c fs)->h[L]?=some (.lst (ts.map BV))->h'.length=h.length->(∀k,k≠E->h'[k]?=h[k]?)->h'[E]?=some (.dct kvs) ->
  ∃env' h2,forM (.live L) (λx env=>bnd (bM (fN (.tup [2,3,4]) x env)) λenv'=>bN Φ #[.f9 (.fld n (!0) "ends") (!2) (.tup #[!3,!4])] env') m j env h'=.ok (.nx env') h2 /\
   h2.length=h.length/\(∀k,k≠E->h2[k]?=h[k]?)/\h2[E]?=some (.dct ((ts.drop j).foldl jE kvs))
 | 0,j,kvs,env,h,h',hm,hk,he,hl,hD,hL,h1,h2,h3=>by
  refine⟨env,h',?_,h1,h2,?_⟩
  ·rw[forM,bq (a:=ts.map BV) (fk (by rw[h2 L Wf];exact hL))];unfold az;rw[aak (decide_eq_true (by rw[aae];omega))];rfl
  ·rw[List.drop_of_length_le (by omega)];exact h3
 | m+1,j,kvs,env,h,h',hm,hk,he,hl,hD,hL,h1,h2,h3=>by
  have hj:j<ts.length:=by omega
  have hE:E<h'.length:=(aah.mp h3).1
  let ic:Env:=((env.set 2 (some (.int ts[j].1))).set 3 (some (.int ts[j].2.1))).set 4 (some (.int ts[j].2.2))
  have b1:fN (.tup [2,3,4]) (BV ts[j]) env=some ic:=rfl;have g0:ic[0]?=some (some (.ref D)):=by show (((env.set 2 _).set 3 _).set 4 _)[0]?=_;rw[aaf (by omega),aaf (by omega),aaf (by omega)];exact he
  have g2:ic[2]?=some (some (.int ts[j].1)):=by show (((env.set 2 _).set 3 _).set 4 _)[2]?=_;rw[aaf (by omega),aaf (by omega),aan (by omega)]
  have g3:ic[3]?=some (some (.int ts[j].2.1)):=by show (((env.set 2 _).set 3 _).set 4 _)[3]?=_;rw[aaf (by omega),aan (by rw[length_set];omega)]
  have g4:ic[4]?=some (some (.int ts[j].2.2)):=by show (((env.set 2 _).set 3 _).set 4 _)[4]?=_;rw[aan (by rw[length_set,length_set];omega)]
  have Zm:aB Φ (.fld n (!0) "ends") ic h'=.ok (.ref E) h':=by rw[aB,aa (aA g0)];refine om (f:=λh=>jd n h (.ref D) "ends") ?_;unfold jd;dsimp only;rw[h2 D Xp,hD];dsimp only;rw[aak hc];exact hf
  have Zn:aB Φ (.tup #[!3,!4]) ic h'=.ok (.tup [.int ts[j].2.1,.int ts[j].2.2]) h':=by
   rw[aB,aa (a:=[.int ts[j].2.1,.int ts[j].2.2]) (h1:=h')]
   ·unfold az;rw[aak (decide_eq_true (show ([Val.int ts[j].2.1,Val.int ts[j].2.2]:List Val).length<=sizeLine from(by decide:2<=sizeLine)))];rfl
   ·rw[aF,aa (aA g3),aF];rw[show bnd (bnd (aB Φ (!4) ic) λd=>bnd (aF Φ .nil ic) λds=>ret (d::ds)) (λds=>ret (Val.int ts[j].2.1::ds)) h'=_ from aa (a:=[.int ts[j].2.2]) (h1:=h') (by rw[aa (aA g4),aF];rfl)];rfl
  have st:bN Φ #[.f9 (.fld n (!0) "ends") (!2) (.tup #[!3,!4])] ic h'=.ok (.nx ic) (h'.set E (.dct (jE kvs ts[j]))):=by
   rw[bN,aa (a:=Fl.nx ic) (h1:=h'.set E (.dct (jE kvs ts[j])))]
   ·dsimp only;rw[bN];rfl
   ·rw[dX,aa Zn,aa Zm,aa (aA g2)]
    rw[aa (a:=()) (h1:=h'.set E (.dct (jE kvs ts[j])))]
    ·rfl
    ·unfold yv;dsimp only;rw[bq (f:=λh=>h[E]?) h3];dsimp only;rw[ie (o:=keyOf (.int ts[j].1)) (a:=.inl ts[j].1) rfl];unfold az;rw[aak (decide_eq_true (by unfold sizeLine;omega))];rfl
  have hlen:(jE kvs ts[j]).length<=j+1+1:=aaN (Ga _ _ _) (by omega);obtain⟨nq,h4,r1,r2,r3,r4⟩:=vC hc hf Pk Xp Wf m (j+1) (jE kvs ts[j]) ic h (h'.set E (.dct (jE kvs ts[j]))) (by omega) hlen g0 (by show 4<(((env.set 2 _).set 3 _).set 4 _).length;simp;omega) hD hL (by simp[h1])
   (λk hk=>by rw[aaf λz=>hk z.symm];exact h2 k hk) (aan hE)
  refine⟨nq,h4,?_,r2,r3,?_⟩
  ·rw[forM,bq (a:=ts.map BV) (fk (by rw[h2 L Wf];exact hL))]
   rw[show (ts.map BV)[j]?=some (BV ts[j]) by rw[aaF,aax hj];rfl];dsimp only;rw[aa (a:=Fl.nx ic) (h1:=h'.set E (.dct (jE kvs ts[j])))]
   ·exact r1
   ·rw[ie b1];exact st
  ·rw[List.drop_eq_getElem_cons hj,List.foldl_cons];exact r4
theorem rm{n c i:Nat}(hc:c<n)(g:h[i]?=some (.ins c fs))(hl:fs.length<1000):bnd (Bh n (.ref i) x v) (λ_=>ret (Fl.nx env)) h=.ok (.nx env) (h.set i (.ins c (sH x v fs))):=by
 unfold Bh;dsimp only;rw[bI,bq (a:=(c,fs)) (by rw[g];dsimp only;rw[aak hc])];dsimp only;unfold bnd az;rw[aak (decide_eq_true hl)];rfl
theorem zb{n c jo jp:Nat}(hc:c<n)(hΦ:∀j,Imp (Φ j) (Ψ j)){p q':Int}(u:Up A h)(qn:Dn A h net v)(e1:Ψ jo [net]=.ok (true,.tup [.tup [.int p,.int q'],.rl ts]))(e2:cM Iv ts=some es)(hz:es.length<1000)
  (e3:Ψ jp [.tup [.tup [.int p,.int q'],.rl ts]]=.ok (true,y)):∃(h8:Hs) (V1 v2 vE:Val),fW Φ 5 (tR n jo jp) [.ref h.length,v] (h++[Ob.ins c []])=.ok .non h8/\h<+:h8/\h8[h.length]?=some (.ins c [("net",V1),("places",v2),("ends",vE)]) /\
   ∀B:AP,(∀k,h.length+1<=k->B (some k))->aq B h8 [.tup [.tup [.int p,.int q'],.rl ts],y,.dc ((bU p q' es).map (·.1)) ((bU p q' es).map (·.2))] [V1,v2,vE]:=by
 have et:=yY e2;have Xq:h<+:h++[Ob.ins c []]:=aa7 _ _;have u1:=u.ext Xq;have R1:=hΦ jo A (h++[Ob.ins c []]) [net] [v] u1 (aq.cons (qn.ext Xq) aq.nil);rw[e1] at R1;obtain⟨v1,h2,f1,Wg,_,dF⟩:=R1;have dA:=dF rfl;clear dF;have Oj:h2[h.length]?=some (.ins c []):=bP Wg (by simp);have l2:h.length+1<=h2.length:=by have:=Wg.length_le;simpa using this
 rw[Dn]at dA;obtain⟨ws,rfl,dB⟩:=dA;rw[aq]at dB;obtain⟨w0,r0,rfl,d0,d1⟩:=dB;obtain⟨w1,rfl,d5⟩:=aq.one d1;clear d1;have Zo:w0=.tup [.int p,.int q']:=(eX _ _ (show jx (.tup [.int p,.int q'])=true from rfl)).mp d0;subst Zo;rw[Dn]at d5
 rcases d5 with ⟨_,_,z,_⟩|⟨L,ws,rfl,aL,gL,d6⟩
 ·exact False.elim z
 rw[et]at d6;have Zp:ws=es.map BV:=(aP _ _ (xr es)).mp d6;subst Zp;have hL:(h++[Ob.ins c []]).length<=L:=aL;have hL':h.length+1<=L:=by simpa using hL
 have lL:L<h2.length:=(aah.mp gL).1
 let V1:Val:=.tup [.tup [.int p,.int q'],.ref L]
 let h3:Hs:=h2.set h.length (.ins c [("net",V1)])
 have Qq:h3[h.length]?=some (.ins c [("net",V1)]):=aan (by omega);have Xr:h3[L]?=some (.lst (es.map BV)):=by show (h2.set _ _)[L]?=_;rw[aaf (by omega)];exact gL
 have l3:h3.length=h2.length:=length_set;have Xs:Dn (Fr (h.length+1)) h3 (.tup [.tup [.int p,.int q'],.rl ts]) V1:=by rw[Dn];refine⟨_,rfl,aq.cons ((eX _ _ (show jx (.tup [.int p,.int q'])=true from rfl)).mpr rfl) (aq.cons ?_ aq.nil)⟩;rw[Dn];exact .inr ⟨L,_,rfl,hL',Xr,by rw[et];exact(aP _ _ (xr es)).mpr rfl⟩
 have R2:=hΦ jp (Fr (h.length+1)) h3 [.tup [.tup [.int p,.int q'],.rl ts]] [V1] (λk hk=>by show h.length+1<=k;omega) (aq.cons Xs aq.nil);rw[e3] at R2;obtain⟨v2,h4,f2,Tg,_,dG⟩:=R2;have d2:=dG rfl;clear dG;have R0:h4[h.length]?=some (.ins c [("net",V1)]):=bP Tg Qq;have l4:h3.length<=h4.length:=Tg.length_le
 let h5:Hs:=h4.set h.length (.ins c [("net",V1),("places",v2)])
 have Xu:h5[h.length]?=some (.ins c [("net",V1),("places",v2)]):=aan (by omega);have l5:h5.length=h4.length:=length_set
 let h6:Hs:=h5++[Ob.dct [(.inl (-1),.tup [.int p,.int q'])]]
 have Zq:h6[h.length]?=some (.ins c [("net",V1),("places",v2)]):=bP (aa7 _ _) Xu;have l6:h6.length=h5.length+1:=by show (h5++[_]).length=_;simp
 let FS:List (Str×Val):=[("net",V1),("places",v2),("ends",.ref h5.length)]
 let h7:Hs:=h6.set h.length (.ins c FS)
 have Wh:h7[h.length]?=some (.ins c FS):=aan (by omega);have l7:h7.length=h6.length:=length_set;have Zr:h7[h5.length]?=some (.dct [(.inl (-1),.tup [.int p,.int q'])]):=by show (h6.set _ _)[h5.length]?=_;rw[aaf (by omega)];show (h5++[_])[h5.length]?=_;simp
 have hk7:∀k,k≠h.length->k<h4.length->h7[k]?=h4[k]?:=λk n1 n2=>by
  show (h6.set _ _)[k]?=_;rw[aaf λz=>n1 z.symm];show (h5++[_])[k]?=_;rw[aav (by omega)];show (h4.set _ _)[k]?=_;rw[aaf λz=>n1 z.symm]
 have Zs:h4[L]?=some (.lst (es.map BV)):=bP Tg Xr;have Xv:h7[L]?=some (.lst (es.map BV)):=by rw[hk7 L (by omega) (by omega)];exact Zs
 let env:Env:=[some (.ref h.length),some v,none,none,none]
 have k1:("ends":Str) ≠ "net":=by decide
 obtain⟨env',h8,lp,l8,k8,d8⟩:=vC (Φ:=Φ) (fs:=FS) (ts:=es) hc (by rfl) hz (by omega) (by omega) es.length 0 [(.inl (-1),.tup [.int p,.int q'])] env h7 h7 (by omega) (by simp) rfl (by decide:4<5) Wh Xv rfl (λ_ _=>rfl) Zr;have fldN:∀(g:Hs) (fs:List (Str×Val)),g[h.length]?=some (.ins c (("net",V1)::fs))->aB Φ (.fld n (!0) "net") env g=.ok V1 g:=λg fs hg=>by
  rw[aB,aa (aA rfl)];refine om (f:=λh'=>jd n h' (.ref h.length) "net") ?_;unfold jd;dsimp only;rw[hg];dsimp only;rw[aak hc];rfl
 have s1:dX Φ (.setF n (!0) "net" (.call jo #[!1])) env (h++[Ob.ins c []])=.ok (.nx env) h3:=by
  have e:aB Φ (.call jo #[!1]) env (h++[Ob.ins c []])=.ok V1 h2:=by
   rw[aB,aa (a:=[v]) (h1:=h++[Ob.ins c []])]
   ·exact f1
   ·rw[aF,aa (aA rfl),aF];rfl
  rw[dX,aa e,aa (aA rfl)];exact rm hc Oj (by decide)
 have s2:dX Φ (.setF n (!0) "places" (.call jp #[.fld n (!0) "net"])) env h3=.ok (.nx env) h5:=by
  have e:aB Φ (.call jp #[.fld n (!0) "net"]) env h3=.ok v2 h4:=by
   rw[aB,aa (a:=[V1]) (h1:=h3)]
   ·exact f2
   ·rw[aF,aa (fldN h3 [] Qq),aF];rfl
  rw[dX,aa e,aa (aA rfl)];exact rm hc R0 (by decide:1<1000)
 have s3:dX Φ (.setF n (!0) "ends" (.dct1 (.con "THOUGHT" (.int (-1))) (.idx (.fld n (!0) "net") (¬0)))) env h5=.ok (.nx env) h7:=by
  have e0:aB Φ (.idx (.fld n (!0) "net") (¬0)) env h5=.ok (.tup [.int p,.int q']) h5:=by rw[aB,aa (fldN h5 _ Xu),aa (a:=.int 0) (h1:=h5) (by rw[aB];rfl)];rfl
  have e:aB Φ (.dct1 (.con "THOUGHT" (.int (-1))) (.idx (.fld n (!0) "net") (¬0))) env h5=.ok (.ref h5.length) h6:=by rw[aB,aa (a:=.int (-1)) (h1:=h5) (by rw[aB];rfl),ie (o:=keyOf (.int (-1))) (a:=.inl (-1)) rfl,aa e0];rfl
  rw[dX,aa e,aa (aA rfl)];exact rm hc Zq (by decide:2<1000)
 have s4:dX Φ (.for (.tup [2,3,4]) .seq #[.idx (.fld n (!0) "net") (¬1)] #[.f9 (.fld n (!0) "ends") (!2) (.tup #[!3,!4])]) env h7=.ok (.nx env') h8:=by
  have e0:aB Φ (.idx (.fld n (!0) "net") (¬1)) env h7=.ok (.ref L) h7:=by rw[aB,aa (fldN h7 _ Wh),aa (a:=.int 1) (h1:=h7) (by rw[aB];rfl)];rfl
  rw[dX,aa (a:=[.ref L]) (h1:=h7)]
  ·rw[ie (o:=srcOf .seq [.ref L]) (a:=.live L) rfl,bq (a:=es.map BV) (fk Xv),aae];exact lp
  ·rw[aF,aa e0,aF];rfl
 have run:fW Φ 5 (tR n jo jp) [.ref h.length,v] (h++[Ob.ins c []])=.ok .non h8:=by
  unfold fW;rw[aa (a:=Fl.nx env') (h1:=h8)]
  ·rfl
  ·show bN Φ (tR n jo jp) env _=_;rw[bN,aa s1];dsimp only;rw[bN,aa s2];dsimp only;rw[bN,aa s3];dsimp only;rw[bN,aa s4];dsimp only;rw[bN];rfl
 have Wi:∀k,k≠h.length->k<h4.length->h8[k]?=h4[k]?:=λk n1 n2=>(k8 k (by omega)).trans (hk7 k n1 n2);have hpre:h<+:h8:=by
  refine List.prefix_iff_getElem?.mpr λi hi=>?_;have Zt:i<h4.length:=by omega
  rw[Wi i (by omega) Zt];have:(h2.set h.length (.ins c [("net",V1)]))[i]?=h2[i]?:=aaf (by omega);have Zu:h4[i]?=h3[i]?:=jC Tg (by omega);rw[Zu,this,jC Wg (by simp;omega),aav hi,aax hi]
 refine⟨h8,V1,v2,.ref h5.length,run,hpre,by rw[k8 _ (by omega)];exact Wh,λB hB=>aq.cons ?_ (aq.cons ?_ (aq.cons ?_ aq.nil))⟩
 ·refine Dn.mono (A:=Fr (h.length+1)) (h:=h3) (λo z=>?_) (λk o a g=>?_) _ _ Xs
  ·cases o with
   |none=>exact False.elim z
   |some k=>exact hB k z
  ·have a:h.length+1<=k:=a;have:=(aah.mp g).1;rw[Wi k (by omega) (by omega)];exact bP Tg g
 ·refine Dn.mono (A:=Fr h3.length) (h:=h4) (λo z=>?_) (λk o a g=>?_) _ _ d2
  ·cases o with
   |none=>exact False.elim z
   |some k=>exact hB k (by have:h3.length<=k:=z;omega)
  ·have a:h3.length<=k:=a;have:=(aah.mp g).1;rw[Wi k (by omega) (by omega)];exact g
 ·rw[Dn]
  refine⟨h5.length,bU p q' es,rfl,hB _ (by omega),?_,rfl,?_⟩
  ·rw[List.drop_zero]at d8;exact d8
  ·refine(aP _ _ (y9 λw hw=>?_)).mpr rfl;obtain⟨kv,hkv,rfl⟩:=aaW.mp hw;exact yZ es _ (λkv hk=>by rw[aap.mp hk];rfl) kv hkv
theorem Gd{n c jo jp:Nat}(hc:c<n)(hΦ:∀j,Imp (Φ j) (Ψ j)):Imp (EI c (fW Φ 5 (tR n jo jp))) (mO Ψ c jo jp):=λA h ds vs u q=>by
 unfold mO
 split
 ·rename_i net
  obtain⟨v,rfl,qn⟩:=aq.one q
  split
  ·rename_i p q' ts e1
   cases e2:cM Iv ts with
   |none=>trivial
   |some es=>
    show Rel A h (RV A h) _ (pg (decide (es.length<1000)) _)
    by_cases hz:es.length<1000
    ·unfold pg
     rw[aak (decide_eq_true hz)]
     split
     ·rename_i y e3
      obtain⟨h8,V1,v2,vE,r1,p8,g8,d8⟩:=zb (Ψ:=Ψ) hc hΦ u qn e1 e2 hz e3;have run:EI c (fW Φ 5 (tR n jo jp)) [v] h=.ok (.ref h.length) h8:=by show bnd (fW Φ 5 (tR n jo jp) [.ref h.length,v]) _ (h++[Ob.ins c []])=_;rw[aa r1];rfl
      have dn:∀B:AP,(∀k,h.length<=k->B (some k))->Dn B h8 (.ob c ["net","places","ends"] [.tup [.tup [.int p,.int q'],.rl ts],y,.dc ((bU p q' es).map (·.1)) ((bU p q' es).map (·.2))]) (.ref h.length):=λB hB=>by
       rw[Dn];exact⟨h.length,_,rfl,hB _ (aao _),g8,rfl,d8 B λk hk=>hB k (by omega)⟩
      exact⟨_,h8,run,p8,dn A λk hk=>u k hk,λ_=>dn _ λk hk=>hk⟩
     ·trivial
    ·unfold pg;rw[aam (by simpa using hz)];trivial
  ·trivial
 ·trivial
def vD(Ψ' Ψ:Nat->List Val->Pr FV)(c jo jp jt jr:Nat)(ds:List Val):Pr FV:=match mO Ψ' c jo jp ds with
 | .ok (_,.ob c' ns vs)=>(match Ψ jt [.ob c' ns vs] with
  | .ok (_,t)=>(match Ψ jr [.ob c' ns vs,t] with
   |.ok (_,.int m)=>.ok (true,.ob c' (ns++[("whole":Str)]) (vs++[.int m]))
   |_=>.no)
  |_=>.no)
 |_=>.no
abbrev BW(n ji:Nat)(jst jsr:List (Nat×Nat)):dm:=.cons (.expr (.call ji #[!0,!1])) #[.setF n (!0) "whole" (.mth (!0) "tree_rank" jsr #[.mth (!0) "ties" jst .nil])]
theorem Ge{c jo jp:Nat}(e:mO Ψ c jo jp ds=.ok fw):∃net p q ts es y,ds=[net] /\ Ψ jo [net]=.ok (true,.tup [.tup [.int p,.int q],.rl ts])/\cM Iv ts=some es/\es.length<1000 /\ Ψ jp [.tup [.tup [.int p,.int q],.rl ts]]=.ok (true,y) /\
  fw=(true,.ob c ["net","places","ends"] [.tup [.tup [.int p,.int q],.rl ts],y,.dc ((bU p q es).map (·.1)) ((bU p q es).map (·.2))]):=by
 unfold mO at e;split at e
 ·rename_i net
  split at e
  ·rename_i p q ts e1
   cases e2:cM Iv ts with
   |none=>rw[e2]at e;cases e
   |some es=>
    rw[e2]at e;change pg (decide (es.length<1000)) _=_ at e;unfold pg at e
    by_cases hz:es.length<1000
    ·rw[aak (decide_eq_true hz)]at e
     split at e
     ·rename_i y e3;cases e;exact⟨net,p,q,ts,es,y,rfl,e1,e2,hz,e3,rfl⟩
     ·cases e
    ·rw[aam (by simpa using hz)]at e;cases e
  ·cases e
 ·cases e
theorem Gf{c c' jo jp jt jr:Nat}{f f1 f2:Bool}{m:Int}(e0:mO Ψ' c jo jp ds=.ok (f,.ob c' ns vs))(e1:Ψ jt [.ob c' ns vs]=.ok (f1,t))(e2:Ψ jr [.ob c' ns vs,t]=.ok (f2,.int m)):vD Ψ' Ψ c jo jp jt jr ds=.ok (true,.ob c' (ns++[("whole":Str)]) (vs++[.int m])):=by
 unfold vD;rw[e0];dsimp only;rw[e1];dsimp only;rw[e2]
theorem zc:Imp φ (λ_=>.no):=λ_ _ _ _ _ _=>trivial
theorem Gg{n c ji jo jp jt jr:Nat}(hc:c<n)(Zv:∀j,Imp (Φ' j) (Ψ' j))(hΦ:∀j,Imp (Φ j) (Ψ j))(hji:Φ ji=fW Φ' 5 (tR n jo jp))(ht:jst.lookup c=some jt)(hr:jsr.lookup c=some jr) :
  Imp (EI c (fW Φ 2 (BW n ji jst jsr))) (vD Ψ' Ψ c jo jp jt jr):=λA h ds vs u q=>by
 unfold vD;cases e0:mO Ψ' c jo jp ds with
 |no=>trivial
 |exc _ _=>trivial
 |ok fw=>
  obtain⟨net,p,q',ts,es,y,rfl,e1,e2,hz,e3,rfl⟩:=Ge e0;dsimp only;obtain⟨v,rfl,qn⟩:=aq.one q;obtain⟨h8,V1,v2,vE,r1,p8,g8,d8⟩:=zb (Φ:=Φ') (Ψ:=Ψ') hc Zv u qn e1 e2 hz e3;have l8:=p8.length_le;have b8:h.length<h8.length:=(aah.mp g8).1;have dO:∀h',h8<+:h'->Dn (Fr h.length) h' (.ob c ["net","places","ends"] [.tup [.tup [.int p,.int q'],.rl ts],y,.dc ((bU p q' es).map (·.1)) ((bU p q' es).map (·.2))]) (.ref h.length):=λh' p'=>by
   rw[Dn];exact⟨h.length,_,rfl,aao _,bP p' g8,rfl,aq.mono (λ_ a=>a) (λ_ _ _ g=>bP p' g) _ _ (d8 (Fr h.length) λk hk=>show h.length<=k by omega)⟩
  have R1:=hΦ jt (Fr h.length) h8 _ _ (λk hk=>show h.length<=k by omega) (aq.cons (dO h8 (aaK _)) aq.nil);generalize hob:Val.ob c ["net","places","ends"] [.tup [.tup [.int p,.int q'],.rl ts],y,.dc ((bU p q' es).map (·.1)) ((bU p q' es).map (·.2))]=ob at R1 dO;cases e4:Ψ jt [ob] with
  |no=>trivial
  |exc _ _=>trivial
  |ok ft=>
   obtain⟨f1,t⟩:=ft;dsimp only;rw[e4] at R1;obtain⟨vt,h9,x1,p9,d9,_⟩:=R1;have l9:=p9.length_le;have R2:=hΦ jr (Fr h.length) h9 _ _ (λk hk=>show h.length<=k by omega) (aq.cons (dO h9 p9) (aq.cons d9 aq.nil));cases e5:Ψ jr [ob,t] with
   |no=>trivial
   |exc _ _=>trivial
   |ok fm=>
    obtain⟨f2,m⟩:=fm;rw[e5] at R2;obtain⟨vm,Th,x2,UC,oW,dz⟩:=R2;clear dz;cases m<;>first|trivial|skip
    rename_i m;have oW:Dn (Fr h.length) Th (.int m) vm:=oW;rw[Dn]at oW;subst oW;subst hob;dsimp only;have Zw:=bP (p9.trans UC) g8;have g9:=bP p9 g8;have l10:=UC.length_le
    let h11:Hs:=Th.set h.length (.ins c [("net",V1),("places",v2),("ends",vE),("whole",.int m)])
    let env:Env:=[some (.ref h.length),some v]
    have mt:∀(g:Hs) (x:Str) (js:List (Nat×Nat)) (jj:Nat),g[h.length]?=some (.ins c [("net",V1),("places",v2),("ends",vE)])->("net":Str)≠x->("places":Str)≠x->("ends":Str)≠x->js.lookup c=some jj->nV g (.ref h.length) x js=some jj:=λg x js jj hg n1 n2 n3 hj=>by
     unfold nV;dsimp only;rw[hg];dsimp only;rw[aak]
     ·exact hj
     ·rw[aaV,aaV,aaV,List.lookup_nil];rw[aaT.mpr n1.symm,aaT.mpr n2.symm,aaT.mpr n3.symm];rfl
    have s1:dX Φ (.expr (.call ji #[!0,!1])) env (h++[Ob.ins c []])=.ok (.nx env) h8:=by
     rw[dX,aa (a:=.non) (h1:=h8)]
     ·rfl
     ·rw[aB,aa (a:=[.ref h.length,v]) (h1:=h++[Ob.ins c []])]
      ·rw[hji];exact r1
      ·rw[aF,aa (aA rfl),aF];rw[show bnd (bnd (aB Φ (!1) env) λd=>bnd (aF Φ .nil env) λds=>ret (d::ds)) (λds=>ret (Val.ref h.length::ds)) (h++[Ob.ins c []])=_ from aa (a:=[v]) (h1:=h++[Ob.ins c []]) (by rw[aa (aA rfl),aF];rfl)];rfl
    have eT:aB Φ (.mth (!0) "ties" jst .nil) env h8=.ok vt h9:=by rw[aB,aa (aA rfl),bq (a:=jt) (mt h8 _ _ _ g8 (by decide) (by decide) (by decide) ht),aF];exact x1
    have s2:dX Φ (.setF n (!0) "whole" (.mth (!0) "tree_rank" jsr #[.mth (!0) "ties" jst .nil])) env h8=.ok (.nx env) h11:=by
     have e:aB Φ (.mth (!0) "tree_rank" jsr #[.mth (!0) "ties" jst .nil]) env h8=.ok (.int m) Th:=by
      rw[aB,aa (aA rfl),bq (a:=jr) (mt h8 _ _ _ g8 (by decide) (by decide) (by decide) hr),aF];rw[aa (a:=[vt]) (h1:=h9)]
      ·exact x2
      ·rw[aa eT,aF];rfl
     rw[dX,aa e,aa (aA rfl)];exact rm hc Zw (by decide:3<1000)
    have run:EI c (fW Φ 2 (BW n ji jst jsr)) [v] h=.ok (.ref h.length) h11:=by
     show bnd (fW Φ 2 (BW n ji jst jsr) [.ref h.length,v]) _ (h++[Ob.ins c []])=_;rw[aa (a:=.non) (h1:=h11)]
     ·rfl
     ·unfold fW
      rw[aa (a:=Fl.nx env) (h1:=h11)]
      ·rfl
      ·show bN Φ (BW n ji jst jsr) env _=_;rw[bN,aa s1];dsimp only;rw[bN,aa s2];dsimp only;rw[bN];rfl
    have hpre:h<+:h11:=by refine List.prefix_iff_getElem?.mpr λi hi=>?_;show (Th.set _ _)[i]?=_;rw[aaf (by omega)];exact List.prefix_iff_getElem?.mp ((p8.trans p9).trans UC) i hi
    have Zx:h11[h.length]?=some (.ins c [("net",V1),("places",v2),("ends",vE),("whole",.int m)]):=aan (by omega);have dn:∀B:AP,(∀k,h.length<=k->B (some k))->Dn B h11 (.ob c ((["net","places","ends"]:List Str)++[("whole":Str)]) ([.tup [.tup [.int p,.int q'],.rl ts],y,.dc ((bU p q' es).map (·.1)) ((bU p q' es).map (·.2))]++[.int m])) (.ref h.length):=λB hB=>by
     rw[Dn];refine⟨h.length,_,rfl,hB _ (aao _),Zx,rfl,?_⟩;have dd:=aq.mono (A':=B) (h':=h11) (λo z=>?_) (λk o a g=>?_) _ _ (d8 (Fr (h.length+1)) λk hk=>hk)
     ·exact aq.app dd (aq.cons ((eX _ _ rfl).mpr rfl) aq.nil)
     ·cases o with
      |none=>exact False.elim z
      |some k=>exact hB k (by have:h.length+1<=k:=z;omega)
     ·have a:h.length+1<=k:=a;show (Th.set _ _)[k]?=_;rw[aaf (by omega)];exact bP (p9.trans UC) g
    exact⟨_,h11,run,hpre,dn A λk hk=>u k hk,λ_=>dn _ λk hk=>hk⟩
end
def cnt(φ:Int->Int)(ps:List Int):Nat:=(cL [] (ps.map φ)).length
theorem gC{ps:List Int}{v:Int}:v∈cL [] (ps.map φ)↔∃x∈ps,φ x=v:=by
 rw[tL];simp
theorem Gh{ps:List Int}(h:∀x∈ps,∀y∈ps,g x=g y->f x=f y):cnt f ps<=cnt g ps:=by
 classical
 let r:Int->Int:=λv=>if hv:∃x∈ps,f x=v then g (Classical.choose hv) else 0
 have hr:∀v∈cL [] (ps.map f),∃x∈ps,f x=v/\r v=g x:=λv hv=>by
  have e:=gC.mp hv;refine⟨Classical.choose e,(choose_spec e).1,(choose_spec e).2,?_⟩;show (if hv:∃x∈ps,f x=v then g (Classical.choose hv) else 0)=_;rw[dif_pos e]
 have nd:((cL [] (ps.map f)).map r).Nodup:=by
  have n0:=gm (ps.map f) [] nodup_nil;revert hr n0;generalize cL [] (ps.map f)=l;intro hr n0
  induction l with
  |nil=>exact nodup_nil
  |cons v l ih=>rw[aaI]at n0;rw[aaq,aaI];refine⟨λhm=>?_,ih (λw hw=>hr w (aac _ hw)) n0.2⟩;obtain⟨w,hw,e⟩:=aaW.mp hm;obtain⟨x,hx,e1,e2⟩:=hr v (aag ..);obtain⟨y,hy,e3,e4⟩:=hr w (aac _ hw);have:f x=f y:=h x hx y hy (by rw[<-e2,<-e4,e]);exact n0.1 (by rw[<-e1,this,e3];exact hw)
 have:=bO nd (m:=cL [] (ps.map g)) λz hz=>by
  obtain⟨v,hv,rfl⟩:=aaW.mp hz;obtain⟨x,hx,_,e2⟩:=hr v hv;rw[e2];exact gC.mpr ⟨x,hx,rfl⟩
 rw[aae]at this;exact this
theorem Pn{ps:List Int}(h:∀x∈ps,∀y∈ps,f x=f y↔g x=g y):cnt f ps=cnt g ps :=
 Nat.le_antisymm (Gh λx hx y hy=>(h x hx y hy).mpr) (Gh λx hx y hy=>(h x hx y hy).mp)
theorem cnt_join{ps:List Int}{a b:Int}(ha:a∈ps)(hb:b∈ps)(ne:ψ a ≠ ψ b):cnt (λx=>if ψ x = ψ b then ψ a else ψ x) ps+1=cnt ψ ps:=by
 have m1:ψ b∈cL [] (ps.map ψ):=gC.mpr ⟨b,hb,rfl⟩;have n1:=gm (ps.map ψ) [] nodup_nil;have n2:=gm (ps.map λx=>if ψ x = ψ b then ψ a else ψ x) [] nodup_nil;have Zy:=bO n2 (m:=(cL [] (ps.map ψ)).erase (ψ b)) λv hv=>by
  obtain⟨x,hx,e⟩:=gC.mp hv;rw[List.Nodup.mem_erase_iff n1]
  by_cases c:ψ x = ψ b
  ·rw[aak c]at e;subst e;exact⟨ne,gC.mpr ⟨a,ha,rfl⟩⟩
  ·rw[aam c]at e;subst e;exact⟨c,gC.mpr ⟨x,hx,rfl⟩⟩
 have Zz:=bO (n1.erase (ψ b)) (m:=cL [] (ps.map λx=>if ψ x = ψ b then ψ a else ψ x)) λv hv=>by
  rw[List.Nodup.mem_erase_iff n1]at hv;obtain⟨x,hx,e⟩:=gC.mp hv.2;subst e;exact gC.mpr ⟨x,hx,by rw[aam hv.1]⟩
 rw[List.length_erase_of_mem m1] at Zy Zz;have:=List.length_pos_of_mem m1;unfold cnt;omega
theorem mL.fix{ps:List Int}(h:mL ps es φ){x:Int}(hx:x∈ps):φ (φ x) = φ x:=((h.way x hx).const φ h.same).symm
def rk(φ:Int->Int)(ps:List Int):Nat:=(ps.filter λx=>!decide (φ x=x)).length
theorem BX(t:Int->Bool):∀ps:List Int,(ps.filter t).length+(ps.filter λx=>!t x).length=ps.length
 |[]=>rfl
 | x::r=>by
  have ih:=BX t r;cases h:t x with
  |true=>rw[List.filter_cons_of_pos h,List.filter_cons_of_neg (by simp[h]),aaE,aaE];omega
  |false=>rw[List.filter_cons_of_neg (by simp[h]),List.filter_cons_of_pos (by simp[h]),aaE,aaE];omega
theorem xw{ps:List Int}(h:mL ps es φ)(hn:ps.Nodup):rk φ ps+cnt φ ps=ps.length:=by
 have e:cnt φ ps=(ps.filter λx=>decide (φ x=x)).length:=by
  unfold cnt;refine Nat.le_antisymm (bO (gm _ [] nodup_nil) λv hv=>?_) (bO (hn.filter _) λv hv=>?_)
  ·obtain⟨x,hx,rfl⟩:=gC.mp hv;exact aar.mpr ⟨h.inn x hx,decide_eq_true (h.fix hx)⟩
  ·obtain⟨a,b⟩:=aar.mp hv;exact gC.mpr ⟨v,a,aaB b⟩
 rw[e];have:=BX (λx=>decide (φ x=x)) ps;unfold rk;omega
theorem Ti{ps:List Int}{n:Nat}(h1:mL ps es φ)(h2:mL ps es ψ)(hn:ps.Nodup)(e:n+cnt ψ ps=ps.length):n=rk φ ps:=by
 have c:cnt φ ps=cnt ψ ps:=Pn λx hx y hy=>by rw[h1.iff hx hy,h2.iff hx hy]
 have:=xw h1 hn;omega
theorem mL.Dm{ps:List Int}(h:mL ps es f){a b:Int}(ha:a∈ps)(hb:b∈ps)(e:f a=f b):mL ps (es++[(a,b)]) f:=by
 have:=h.step ha hb (f a) (f b) (.inl ⟨rfl,rfl⟩);have ef:(λx=>if f x=f b then f a else f x)=f:=funext λx=>by
  split
  ·rename_i c;rw[c,e]
  ·rfl
 rwa [ef]at this
theorem zd:∀ks:List Int,vf (ks.map Sum.inl)=some ks
 |[]=>rfl
 | x::r=>by
  have ih:=zd r;unfold vf at ih |-;rw[aaq,cM,ih];rfl
theorem Gi{ks:List Int}(h:ks.length<64):mZ [] (jW ks g)=some (sortI ks):=by
 unfold mZ;show (vf (ks.map Sum.inl)).bind _=_;rw[zd];show (if ks.length<64 then some (sortI ks) else none)=_;rw[aak h]
def Qt(ps:List Int)(es:List (Int×Int)):Prop:=∀e∈es,e.1∈ps/\e.2∈ps
theorem Gj{ps:List Int}:∀(es pre:List (Int×Int)) (φ:Int->Int),mL ps pre φ -> Qt ps es->∃ψ,mL ps (pre++es) ψ
 |[],pre,φ,h,_=>⟨φ,by rw[aaM];exact h⟩
 | e::r,pre,φ,h,hi=>by
  obtain⟨h1,h2⟩:=hi e aag;have st:=h.step h1 h2 (φ e.1) (φ e.2) (.inl ⟨rfl,rfl⟩);obtain⟨ψ,k⟩:=Gj r (pre++[(e.1,e.2)]) _ st λx hx=>hi x (aac _ hx);exact⟨ψ,by rw[aaS]at k;exact k⟩
theorem Gk{ps:List Int}(hi:Qt ps es):∃ψ,mL ps es ψ:=by
 obtain⟨ψ,h⟩:=Gj es [] id (mL.start ps) hi;exact⟨ψ,h⟩
theorem mL.Po{ps:List Int}(h:mL ps es φ)(hm:∀e,e∈es↔e∈es'):mL ps es' φ :=
 ⟨h.inn,λx hx=>(h.way x hx).mono λe he=>(hm e).mp he,λe he=>h.same e ((hm e).mpr he)⟩
open Classical in
def tr(ps:List Int)(es:List (Int×Int)):Nat:=if h:∃φ,mL ps es φ then rk (Classical.choose h) ps else 0
theorem qA{ps:List Int}(h:mL ps es φ)(hn:ps.Nodup):tr ps es=rk φ ps:=by
 unfold tr;have h':∃φ,mL ps es φ:=⟨φ,h⟩;rw[dif_pos h'];have h2:=choose_spec h';exact Ti h h2 hn (xw h2 hn)
theorem ze{ps:List Int}(hn:ps.Nodup)(hi:Qt ps es)(hm:∀e,e∈es↔e∈es'):tr ps es=tr ps es':=by
 obtain⟨φ,h⟩:=Gk hi;rw[qA h hn,qA (h.Po hm) hn]
open Classical in
theorem KL{ps:List Int}{a b:Int}(hn:ps.Nodup)(hi:Qt ps es)(ha:a∈ps)(hb:b∈ps)(hm:∀e,e∈es'↔e∈es\/e=(a,b)):tr ps es'=tr ps es+if Way es a b then 0 else 1:=by
 obtain⟨φ,h⟩:=Gk hi;have hi':Qt ps (es++[(a,b)]):=λe he=>by
  rcases aas.mp he with he|he
  ·exact hi e he
  ·rw[aap.mp he];exact⟨ha,hb⟩
 rw[<-ze (es:=es++[(a,b)]) hn hi' (λe=>by rw[hm e];simp)]
 by_cases c:φ a = φ b
 ·rw[aak ((h.iff ha hb).mp c),qA (h.Dm ha hb c) hn,qA h hn,Nat.add_zero]
 ·rw[aam (λw=>c ((h.iff ha hb).mpr w))];have st:=h.step ha hb (φ a) (φ b) (.inl ⟨rfl,rfl⟩);have e1:=xw st hn;have e2:=xw h hn;have e3:=cnt_join ha hb c;rw[qA st hn,qA h hn];omega
section
variable {Φ:Nat->List Val->M Val} {env env':Env} {h h1 h2:Hs}
theorem gQ(e:dX Φ st env h=.ok (.nx env') h1):bN Φ (.cons st r) env h=bN Φ r env' h1:=by
 rw[bN,aa e]
theorem eY{i:Nat}(ev:aB Φ e env h=.ok v h1):dX Φ (.asg (.one i) e) env h=.ok (.nx (env.set i (some v))) h1:=by
 rw[dX,aa ev];rfl
theorem nC:aB Φ (.cst d) env h=.ok d h:=by rw[aB];rfl
theorem kT(ea:aB Φ a env h=.ok x h)(eb:aB Φ b env h=.ok y h)(ei:mY h x y=some z):aB Φ (.idx a b) env h=.ok z h:=by
 rw[aB,aa ea,aa eb];exact om ei
theorem pV(ea:aB Φ a env h=.ok x h):aB Φ (.cmp .ntn a (.cst .non)) env h=.ok (.bl (!nU x)) h:=by
 rw[aB,aa ea,aa nC,bq (a:=!nU x)]
 ·rfl
 ·cases x<;>rfl
theorem LP{n:Nat}(ec:c env h=.ok true h)(eb:B env h=.ok (.nx env') h1):pF c B (n+1) env h=pF c B n env' h1:=by
 rw[pF,aa ec,aak rfl,aa eb]
theorem LQ{n:Nat}(ec:c env h=.ok false h):pF c B (n+1) env h=.ok (.nx env) h:=by
 rw[pF,aa ec,aam aab];rfl
theorem xy{t:Bool}(ec:aB Φ c env h=.ok (.bl t) h):bnd (aB Φ c env) (λx=>ask λh=>cZ h x) h=.ok t h:=by
 rw[aa ec];rfl
end
abbrev Gm(jh:Nat):dm:=#[.asg (.one 2) (.idx (!1) (¬0)),.asg (.one 3) (.idx (!1) (¬1)),.asg (.one 4) (.idx (!1) (¬2)),.whl 100000 (.cmp .ntn (!3) (.cst .non)) #[.asg (.one 5) (.call jh #[!0,!3]),.iff (.cmp .ntn (!5) (.cst .non)) #[.expr (.met .remove (.idx (!0) (!5)) #[!3])] .nil,.expr (.met .append (.idx (!0) (!4)) #[!3]),.asg (.one 4) (!5),.asg (.one 3) (.idx (!2) (!3))]]
abbrev zf(jw:Nat):IE:=.call jw #[!0,!2,!3]
abbrev qB:IE:=.tup #[.blt .sorted #[.idx (!3) (¬0)],.blt .sorted #[.idx (!3) (¬1)],.skeys (.idx (!4) (¬0))]
abbrev vF(jw jp:Nat):dm:=.cons (.asg (.one 2) (.blt .sorted #[!1])) #[.asg (.one 3) (.tup #[.lst .nil,.lst .nil]),.asg (.one 4) (zf jw),.whl 100000 (.cmp .ntn (.idx (!4) (¬1)) (.cst .non)) #[.expr (.call jp #[!3,!4]),.asg (.one 4) (zf jw)],.ret qB]
abbrev gR:=List Int×List Int
def au(R:gR)(a:Nat):List Int:=if a=0 then R.1 else R.2
def qQ(R:gR)(a:Nat)(l:List Int):gR:=if a=0 then (l,R.2) else (R.1,l)
def home(R:gR)(y:Int):Option Nat:=if y∈R.1 then some 0 else if y∈R.2 then some 1 else none
def jZ(R:gR)(y:Int):gR:=match home R y with
 |some a=>qQ R a ((au R a).erase y)
 |none=>R
def ki(R:gR)(y:Int)(room:Nat):gR:=qQ (jZ R y) room (au (jZ R y) room++[y])
def putL:List Int->gR->Nat->gR
 |[],R,_=>R
 |y::q,R,room=>putL q (ki R y room) ((home R y).getD 0)
def adr(a b c:Nat):Nat:=if c=0 then a else b
def Ab(A:AP)(a b:Nat):AP:=λo=>A o/\o≠some a/\o≠some b
structure PJ (A:AP) (h0:Hs) (dr dw dn vr vw vn:Val) (a b:Nat) (R:gR) (h:Hs):Prop where
 pre:h0<+:h
 ha:h0.length<=a
 hb:h0.length<=b
 ab:a≠b
 ga:h[a]?=some (.lst (R.1.map .int))
 gb:h[b]?=some (.lst (R.2.map .int))
 rule:Dn (Ab A a b) h dr vr
 row:Dn (Ab A a b) h dw vw
 names:Dn (Ab A a b) h dn vn
abbrev dJ(R:gR):Val:=.tup [.rl (R.1.map .int),.rl (R.2.map .int)]
section
variable {A:AP} {h0 h h1:Hs} {dr dw dn vr vw vn:Val} {a b:Nat} {R:gR}
theorem oq{ns:List Int}:aq A h (ns.map .int) (ns.map .int):=(aP _ _ (aO ns)).mpr rfl
theorem PJ.ext(p:PJ A h0 dr dw dn vr vw vn a b R h)(e:h<+:h1):PJ A h0 dr dw dn vr vw vn a b R h1 :=
 ⟨p.pre.trans e,p.ha,p.hb,p.ab,bP e p.ga,bP e p.gb,p.rule.ext e,p.row.ext e,p.names.ext e⟩
theorem PJ.rows(p:PJ A h0 dr dw dn vr vw vn a b R h)(u:Up A h0):Dn A h (dJ R) (.tup [.ref a,.ref b]):=by
 rw[Dn];refine⟨_,rfl,aq.cons ?_ (aq.cons ?_ aq.nil)⟩
 ·rw[Dn];exact .inr ⟨a,_,rfl,u a p.ha,p.ga,oq⟩
 ·rw[Dn];exact .inr ⟨b,_,rfl,u b p.hb,p.gb,oq⟩
theorem PJ.at(p:PJ A h0 dr dw dn vr vw vn a b R h){c:Nat}:h[adr a b c]?=some (.lst ((au R c).map .int)):=by
 unfold adr au
 split
 ·exact p.ga
 ·exact p.gb
theorem PJ.set{c:Nat}{l:List Int}(p:PJ A h0 dr dw dn vr vw vn a b R h):PJ A h0 dr dw dn vr vw vn a b (qQ R c l) (h.set (adr a b c) (.lst (l.map .int))):=by
 have mv:∀d v,Dn (Ab A a b) h d v->Dn (Ab A a b) (h.set (adr a b c) (.lst (l.map .int))) d v:=Dn.move (λz=>z) λi o hi g=>⟨hi,by
  rw[aaf λe=>?_];exact g;unfold adr at e;split at e
  ·exact hi.2.1 (by rw[e])
  ·exact hi.2.2 (by rw[e])⟩
 have hle:h0.length<=adr a b c:=by unfold adr;split;exact p.ha;exact p.hb
 have la:a<h.length:=(aah.mp p.ga).1;have lb:b<h.length:=(aah.mp p.gb).1;refine⟨rj p.pre hle,p.ha,p.hb,p.ab,?_,?_,mv _ _ p.rule,mv _ _ p.row,mv _ _ p.names⟩
 ·unfold adr qQ
  split
  ·rw[aan la]
  ·rw[aaf (Ne.symm p.ab)];exact p.ga
 ·unfold adr qQ
  split
  ·rw[aaf p.ab];exact p.gb
  ·rw[aan lb]
end
def pW(o:Option Nat):Val:=match o with
 |some a=>.int (a:Int)
 |none=>.non
def KN(q:List Int):Val:=match q with
 |[]=>.non
 |x::_=>.int x
def vG(Ψ:Nat->List Val->Pr FV)(jH:Nat)(ks:List Key)(ds:List Val):List Int->Nat->gR->Prop
 |[],_,_=>True
 |y::q,room,R=>room<2/\(∃f,Ψ jH [dJ R,.int y]=.ok (f,pW (home R y)))/\fH (ks.zip ds) (.inl y)=some (KN q)/\(home R y=none->q=[])/\(au (jZ R y) room).length<64/\vG Ψ jH ks ds q ((home R y).getD 0) (ki R y room)
def jl(Ψ:Nat->List Val->Pr FV)(jw jH:Nat)(dr:Val)(ss:List Int):Nat->gR->gR->List Key->List Val->Prop
 |0,R,R',ks,ds=>R'=R/\bD ds=true/\∃f,Ψ jw [dr,.rl (ss.map .int),dJ R]=.ok (f,.tup [.dc ks ds,.non,.non])
 |n+1,R,R',ks',ds'=>∃f ks ds x q room,Ψ jw [dr,.rl (ss.map .int),dJ R]=.ok (f,.tup [.dc ks ds,.int x,.int ((room:Nat):Int)])/\bD ds=true/\(x::q).length<64/\vG Ψ jH ks ds (x::q) room R/\jl Ψ jw jH dr ss n (putL (x::q) R room) R' ks' ds'
def zg(dr:Val)(xs:List Val)(ss:List Int)(R:gR)(ks:List Key)(ds:List Val):bC:=[some (.sh,dr),some (.sh,.rl xs),some (.sh,.rl (ss.map .int)),some (.sh,dJ R),some (.sh,.tup [.dc ks ds,.non,.non])]
structure Wj where
 n:Nat
 R:gR
 ks:List Key
 ds:List Val
def zh(Ψ:Nat->List Val->Pr FV)(jw jh:Nat):List Val->Pr FV
 | [dr,.rl xs]=>match cE xs with
  |some ns=>open Classical in if hc:(∃k:Wj,k.n<1000/\jl Ψ jw jh dr (sortI ns) k.n ([],[]) k.R k.ks k.ds)/\ns.length<64 then bg Ψ qB (zg dr xs (sortI ns) hc.1.choose.R hc.1.choose.ks hc.1.choose.ds) else .no
  |none=>.no
 |_=>.no
section
variable {Φ Φ':Nat->List Val->M Val} {Ψ:Nat->List Val->Pr FV} {A:AP} {h0:Hs} {dr dw vr vw vn:Val} {a b jw jp jh jH:Nat} {ss:List Int}
theorem xA{α β:Type}(f:α -> β):∀(l:List α) (k:Nat),(l.map f).eraseIdx k=(l.eraseIdx k).map f
 |[],_=>rfl
 |_::_,0=>rfl
 |x::l,k+1=>by rw[eraseIdx_cons_succ,aaq,aaq,eraseIdx_cons_succ,xA f l k]
theorem Gn(l:List Int)(x:Int):(l.map Val.int).eraseIdx (l.idxOf x)=(l.erase x).map .int:=by
 rw[xA]
 congr 1
 induction l with
 |nil=>rfl
 |cons y l ih=>
  by_cases c:y=x
  ·subst c;rw[List.idxOf_cons_self,List.erase_cons_head];rfl
  ·have e:(y::l).idxOf x=l.idxOf x+1:=by rw[List.idxOf_cons,aaT.mpr c];rfl
   rw[e,eraseIdx_cons_succ,ih,List.erase_cons_tail (by simpa using c)]
theorem Gp{c:Nat}(hc:c<2):mY h (.tup [.ref a,.ref b]) (.int (c:Int))=some (.ref (adr a b c)):=by
 have:c=0\/c=1:=by omega
 rcases this with rfl|rfl<;>rfl
theorem Pp{i x:Nat}{y:Int}{l:List Int}(ee:aB Φ e env h=.ok (.ref i) h)(ex:env[x]?=some (some (.int y)))(g:h[i]?=some (.lst (l.map .int)))(hl:l.length<64):dX Φ (.expr (.met .append e #[.var x])) env h=.ok (.nx env) (h.set i (.lst ((l++[y]).map .int))):=by
 have e2:aB Φ (.met .append e #[.var x]) env h=.ok .non (h.set i (.lst ((l++[y]).map .int))):=by
  rw[aB,aa ee];have b1:recv h .append (.ref i)=some ():=by show (match h[i]? with|some (.lst _)=>some ()|_=>none)=_;rw[g]
  rw[bq (f:=λh=>recv h .append (.ref i)) b1];have b2:aF Φ #[.var x] env h=.ok [.int y] h:=by rw[aF,aa (aA ex),aF];rfl
  rw[aa b2];rw[met];try dsimp only
  rw[bq (a:=l.map .int) (by rw[g])];unfold az;rw[aak (decide_eq_true (by rw[aae];unfold sizeLine;omega)),aaO];rfl
 rw[dX,aa e2];rfl
theorem Pq{i x:Nat}{y:Int}{l:List Int}(ee:aB Φ e env h=.ok (.ref i) h)(ex:env[x]?=some (some (.int y)))(g:h[i]?=some (.lst (l.map .int)))(hy:y∈l):dX Φ (.expr (.met .remove e #[.var x])) env h=.ok (.nx env) (h.set i (.lst ((l.erase y).map .int))):=by
 have e2:aB Φ (.met .remove e #[.var x]) env h=.ok .non (h.set i (.lst ((l.erase y).map .int))):=by
  rw[aB,aa ee];have b1:recv h .remove (.ref i)=some ():=by show (match h[i]? with|some (.lst _)=>some ()|_=>none)=_;rw[g]
  rw[bq (f:=λh=>recv h .remove (.ref i)) b1];have b2:aF Φ #[.var x] env h=.ok [.int y] h:=by rw[aF,aa (aA ex),aF];rfl
  rw[aa b2];rw[met];try dsimp only
  rw[bq (a:=l.map .int) (by rw[g]),ie (ints_map l)];unfold az;rw[aak (decide_eq_true hy),Gn];rfl
 rw[dX,aa e2];rfl
abbrev Tj(jh:Nat):dm:=#[.asg (.one 5) (.call jh #[!0,!3]),.iff (.cmp .ntn (!5) (.cst .non)) #[.expr (.met .remove (.idx (!0) (!5)) #[!3])] .nil,.expr (.met .append (.idx (!0) (!4)) #[!3]),.asg (.one 4) (!5),.asg (.one 3) (.idx (!2) (!3))]
theorem zj{dd:Nat}(hh:Imp (Φ' jh) (Ψ jH))(u:Up A h0)(hk:ks.zip ds=kvs)(da:dd≠a)(db:dd≠b):∀(q:List Int) (n room:Nat) (R:gR) (h:Hs) (x4 x5:Option Val),vG Ψ jH ks ds q room R->q.length<n->(q≠[]->x4=some (.int (room:Int)))->PJ A h0 dr dw (.rl (ss.map .int)) vr vw vn a b R h->h[dd]?=some (.dct kvs) ->
  ∃y4 y5 h',pF (λenv=>bnd (aB Φ' (.cmp .ntn (!3) (.cst .non)) env) λx=>ask λh=>cZ h x) (bN Φ' (Tj jh)) n [some (.tup [.ref a,.ref b]),some w,some (.ref dd),some (KN q),x4,x5] h=.ok (.nx [some (.tup [.ref a,.ref b]),some w,some (.ref dd),some .non,y4,y5]) h'/\PJ A h0 dr dw (.rl (ss.map .int)) vr vw vn a b (putL q R room) h'/\h'[dd]?=some (.dct kvs)
 |q,0,_,_,_,_,_,_,hn,_,_,_=>absurd hn (not_lt_zero _)
 |[],n+1,room,R,h,x4,x5,_,_,_,p,g=>⟨x4,x5,h,LQ (xy (pV (x:=.non) (aA rfl))),p,g⟩
 | y::q,n+1,room,R,h,x4,x5,ok,hn,hx,p,g=>by
  obtain⟨hr,⟨f,eh⟩,ev,hq,hlen,ok'⟩:=ok;obtain rfl:=hx (by simp);have im:=hh A h [dJ R,.int y] [.tup [.ref a,.ref b],.int y] (u.ext p.pre) (aq.cons (p.rows u) (aq.cons (by rw[Dn]) aq.nil));rw[eh]at im;obtain⟨v1,h1,e4,pr,q1⟩:=im;have hv1:v1=pW (home R y):=(eX _ _ (by unfold pW;split<;>rfl)).mp q1.1;subst hv1;have p1:=p.ext pr;have g1:=bP pr g;have e1:aB Φ' (.call jh #[!0,!3]) [some (.tup [.ref a,.ref b]),some w,some (.ref dd),some (.int y),some (.int (room:Int)),x5] h=.ok (pW (home R y)) h1:=by
   rw[aB,aa (a:=[.tup [.ref a,.ref b],.int y]) (h1:=h)]
   ·exact e4
   ·rw[aF,aa (aA rfl),aa (a:=[.int y]) (h1:=h)]
    ·rfl
    ·rw[aF,aa (aA rfl),aa (a:=[]) (h1:=h)]
     ·rfl
     ·rw[aF];rfl
  have e2:∃h2,dX Φ' (.iff (.cmp .ntn (!5) (.cst .non)) #[.expr (.met .remove (.idx (!0) (!5)) #[!3])] .nil) [some (.tup [.ref a,.ref b]),some w,some (.ref dd),some (.int y),some (.int (room:Int)),some (pW (home R y))] h1=.ok (.nx [some (.tup [.ref a,.ref b]),some w,some (.ref dd),some (.int y),some (.int (room:Int)),some (pW (home R y))]) h2/\PJ A h0 dr dw (.rl (ss.map .int)) vr vw vn a b (jZ R y) h2/\h2[dd]?=some (.dct kvs):=by
   unfold jZ;cases LR:home R y with
   |none=>refine⟨h1,?_,p1,g1⟩;rw[dX,aa (pV (x:=.non) (aA rfl)),bq (a:=false) rfl,aam aab,bN];rfl
   |some c=>
    have hc:c<2/\y∈au R c:=by
     unfold home at LR;split at LR
     ·cases LR;rename_i z;exact⟨by omega,z⟩
     ·split at LR
      ·cases LR;rename_i z;exact⟨by omega,z⟩
      ·cases LR
    refine⟨_,?_,p1.set (c:=c) (l:=(au R c).erase y),?_⟩
    ·rw[dX,aa (pV (x:=.int (c:Int)) (aA rfl)),bq (a:=true) rfl,aak rfl,gQ (Pq (kT (x:=.tup [.ref a,.ref b]) (y:=.int (c:Int)) (aA rfl) (aA rfl) (Gp hc.1)) rfl p1.at hc.2),bN];rfl
    ·rw[aaf (by unfold adr;split;exact Ne.symm da;exact Ne.symm db)];exact g1
  obtain⟨h2,e2,p2,g2⟩:=e2;have e3:=Pp (Φ:=Φ') (x:=3) (y:=y) (env:=[some (.tup [.ref a,.ref b]),some w,some (.ref dd),some (.int y),some (.int (room:Int)),some (pW (home R y))]) (kT (a:=.var 0) (b:=.var 4) (x:=.tup [.ref a,.ref b]) (y:=.int (room:Int)) (aA rfl) (aA rfl) (Gp hr)) rfl p2.at hlen;have p3:=p2.set (c:=room) (l:=au (jZ R y) room++[y]);have g3:(h2.set (adr a b room) (.lst ((au (jZ R y) room++[y]).map .int)))[dd]?=some (.dct kvs):=by rw[aaf (by unfold adr;split;exact Ne.symm da;exact Ne.symm db)];exact g2
  obtain⟨y4,y5,h',r1,r2,r3⟩:=zj hh u hk da db q n ((home R y).getD 0) (ki R y room) _ (some (pW (home R y))) (some (pW (home R y))) ok' (Nat.lt_of_succ_lt_succ hn) (λhne=>by
   cases LR:home R y with
   |none=>exact absurd (hq LR) hne
   |some c=>rfl) p3 g3
  refine⟨y4,y5,h',?_,r2,r3⟩;rw[LP (env':=[some (.tup [.ref a,.ref b]),some w,some (.ref dd),some (KN q),some (pW (home R y)),some (pW (home R y))]) (h1:=h2.set (adr a b room) (.lst ((au (jZ R y) room++[y]).map .int)))]
  ·exact r1
  ·exact xy (pV (x:=.int y) (aA rfl))
  ·show bN Φ' (Tj jh) [some (.tup [.ref a,.ref b]),some w,some (.ref dd),some (.int y),some (.int (room:Int)),x5] h=_
   rw[gQ (eY e1)];simp only[set_cons_succ,set_cons_zero];rw[gQ e2,gQ e3,gQ (eY (v:=pW (home R y)) (aA rfl))];simp only[set_cons_succ,set_cons_zero];rw[gQ (eY (kT (x:=.ref dd) (y:=.int y) (z:=KN q) (aA rfl) (aA rfl) (by
    show (match (h2.set (adr a b room) (.lst ((au (jZ R y) room++[y]).map .int)))[dd]? with|some (.dct kvs)=>fH kvs (.inl y)|_=>_)=_;rw[g3,<-hk];exact ev)))]
   rw[bN];rfl
theorem KO{dd:Nat}{x:Int}{q:List Int}{room:Nat}(hh:Imp (Φ' jh) (Ψ jH))(u:Up A h0)(hk:ks.zip ds=kvs)(da:dd≠a)(db:dd≠b)(ok:vG Ψ jH ks ds (x::q) room R)(hl:(x::q).length<64)(p:PJ A h0 dr dw (.rl (ss.map .int)) vr vw vn a b R h)(g:h[dd]?=some (.dct kvs)) :
  ∃h',fW Φ' 6 (Gm jh) [.tup [.ref a,.ref b],.tup [.ref dd,.int x,.int (room:Int)]] h=.ok .non h'/\PJ A h0 dr dw (.rl (ss.map .int)) vr vw vn a b (putL (x::q) R room) h':=by
 obtain⟨y4,y5,h',r1,r2,_⟩:=zj (w:=.tup [.ref dd,.int x,.int (room:Int)]) hh u hk da db (x::q) 100000 room R h (some (.int (room:Int))) none ok (by omega) (λ_=>rfl) p g;refine⟨h',?_,r2⟩;have run:bN Φ' (Gm jh) [some (.tup [.ref a,.ref b]),some (.tup [.ref dd,.int x,.int (room:Int)]),none,none,none,none] h=.ok (.nx [some (.tup [.ref a,.ref b]),some (.tup [.ref dd,.int x,.int (room:Int)]),some (.ref dd),some .non,y4,y5]) h':=by rw[gQ (eY (kT (x:=.tup [.ref dd,.int x,.int (room:Int)]) (y:=.int 0) (z:=.ref dd) (aA rfl) nC rfl))];rw[gQ (eY (kT (x:=.tup [.ref dd,.int x,.int (room:Int)]) (y:=.int 1) (z:=.int x) (aA rfl) nC rfl))];rw[gQ (eY (kT (x:=.tup [.ref dd,.int x,.int (room:Int)]) (y:=.int 2) (z:=.int (room:Int)) (aA rfl) nC rfl))];simp only[set_cons_succ,set_cons_zero];rw[gQ (st:=.whl _ _ _) (by rw[dX];exact r1),bN];rfl
 show bnd (bN Φ' (Gm jh) [some (.tup [.ref a,.ref b]),some (.tup [.ref dd,.int x,.int (room:Int)]),none,none,none,none]) _ h=_;rw[aa run];rfl
theorem KP(hy:jx y=true)(hz:jx z=true)(q:Dn A h (.tup [.dc ks ds,y,z]) v):∃dd kvs,v=.tup [.ref dd,y,z]/\h[dd]?=some (.dct kvs)/\kvs.map (·.1)=ks/\aq A h ds (kvs.map (·.2)):=by
 rw[Dn]at q;obtain⟨vs,rfl,q⟩:=q;rw[aq]at q;obtain⟨v1,r,rfl,q1,q⟩:=q;rw[aq]at q;obtain⟨v2,r,rfl,q2,q⟩:=q;rw[aq]at q;obtain⟨v3,r,rfl,q3,q⟩:=q;rw[aq]at q;subst q;rw[Dn]at q1;obtain⟨dd,kvs,rfl,_,g,k,q1⟩:=q1;rw[(eX y v2 hy).mp q2,(eX z v3 hz).mp q3];exact⟨dd,kvs,rfl,g,k,q1⟩
theorem Gq{f:Bool}(hΦ:∀j,Imp (Φ j) (Ψ j))(u:Up A h0)(hy:jx y=true)(hz:jx z=true)(hd:bD ds=true)(p:PJ A h0 dr dw (.rl (ss.map .int)) vr vw vn a b R h)(e:Ψ jw [dr,.rl (ss.map .int),dJ R]=.ok (f,.tup [.dc ks ds,y,z])) :
  ∃dd h',aB Φ (zf jw) [some vr,some vw,some vn,some (.tup [.ref a,.ref b]),w] h=.ok (.tup [.ref dd,y,z]) h'/\h<+:h'/\h'[dd]?=some (.dct (ks.zip ds))/\Dn A h' (.tup [.dc ks ds,y,z]) (.tup [.ref dd,y,z]):=by
 have wid:∀d v,Dn (Ab A a b) h d v->Dn A h d v:=λd v q=>q.wid λ_ z=>z.1;have im:=hΦ jw A h [dr,.rl (ss.map .int),dJ R] [vr,vn,.tup [.ref a,.ref b]] (u.ext p.pre) (aq.cons (wid _ _ p.rule) (aq.cons (wid _ _ p.names) (aq.cons (p.rows u) aq.nil)));rw[e]at im;obtain⟨v,h',e1,pr,q⟩:=im;obtain⟨dd,kvs,rfl,g,gk,gq⟩:=KP hy hz q.1;have ed:kvs.map (·.2)=ds:=(aP _ _ hd).mp gq;have ez:kvs=ks.zip ds:=by
  rw[<-gk,<-ed];clear q g gk gq ed
  induction kvs with
  |nil=>rfl
  |cons c r ih=>rw[aaq,aaq,zip_cons_cons,<-ih]
 refine⟨dd,h',?_,pr,by rw[<-ez];exact g,q.1⟩;rw[aB,aa (a:=[vr,vn,.tup [.ref a,.ref b]]) (h1:=h)]
 ·exact e1
 ·rw[aF,aa (aA rfl),aa (a:=[vn,.tup [.ref a,.ref b]]) (h1:=h)]
  ·rfl
  ·rw[aF,aa (aA rfl),aa (a:=[.tup [.ref a,.ref b]]) (h1:=h)]
   ·rfl
   ·rw[aF,aa (aA rfl),aF];rfl
abbrev Tn(jw jp:Nat):dm:=.cons (.expr (.call jp #[!3,!4])) #[.asg (.one 4) (zf jw)]
theorem vH(hΦ:∀j,Imp (Φ j) (Ψ j))(hp:Φ jp=fW Φ' 6 (Gm jh))(hh:Imp (Φ' jh) (Ψ jH))(u:Up A h0):∀(n m:Nat) (R:gR) (h:Hs) (w:Option Val),jl Ψ jw jH dr ss n R R' ks' ds'->n<m->PJ A h0 dr dw (.rl (ss.map .int)) vr vw vn a b R h ->
  ∃v1 h1 v' h',aB Φ (zf jw) [some vr,some vw,some vn,some (.tup [.ref a,.ref b]),w] h=.ok v1 h1/\pF (λenv=>bnd (aB Φ (.cmp .ntn (.idx (!4) (¬1)) (.cst .non)) env) λx=>ask λh=>cZ h x) (bN Φ (Tn jw jp)) m [some vr,some vw,some vn,some (.tup [.ref a,.ref b]),some v1] h1=.ok (.nx [some vr,some vw,some vn,some (.tup [.ref a,.ref b]),some v']) h' /\
   PJ A h0 dr dw (.rl (ss.map .int)) vr vw vn a b R' h'/\Dn A h' (.tup [.dc ks' ds',.non,.non]) v'
 |n,0,_,_,_,_,hm,_=>absurd hm (not_lt_zero _)
 | 0,m+1,R,h,w,ok,hm,p=>by
  obtain⟨rfl,hd,f,e⟩:=ok;obtain⟨dd,h1,e1,pr,g,q⟩:=Gq hΦ u rfl rfl hd p e (w:=w);exact⟨_,h1,_,h1,e1,LQ (xy (pV (x:=.non) (kT (x:=.tup [.ref dd,.non,.non]) (y:=.int 1) (aA rfl) nC rfl))),p.ext pr,q⟩
 | n+1,m+1,R,h,w,ok,hm,p=>by
  obtain⟨f,ks,ds,x,q,room,e,hd,hl,pk,ok'⟩:=ok;obtain⟨dd,h1,e1,pr,g,_⟩:=Gq hΦ u rfl rfl hd p e (w:=w);have p1:=p.ext pr;have da:dd≠a:=λz=>by rw[z,p1.ga]at g;cases g
  have db:dd≠b:=λz=>by rw[z,p1.gb]at g;cases g
  obtain⟨h2,run,p2⟩:=KO hh u rfl da db pk hl p1 g;rw[<-hp]at run;obtain⟨v3,h3,v',h',e3,r3,p3,q3⟩:=vH hΦ hp hh u n m _ h2 (some (.tup [.ref dd,.int x,.int (room:Int)])) ok' (Nat.lt_of_succ_lt_succ hm) p2;refine⟨_,h1,v',h',e1,?_,p3,q3⟩;rw[LP (env':=[some vr,some vw,some vn,some (.tup [.ref a,.ref b]),some v3]) (h1:=h3)]
  ·exact r3
  ·exact xy (pV (x:=.int x) (kT (x:=.tup [.ref dd,.int x,.int (room:Int)]) (y:=.int 1) (aA rfl) nC rfl))
  ·rw[gQ (st:=.expr _) (env':=[some vr,some vw,some vn,some (.tup [.ref a,.ref b]),some (.tup [.ref dd,.int x,.int (room:Int)])]) (h1:=h2)]
   ·rw[gQ (eY e3),bN];rfl
   ·rw[dX,aa (a:=.non) (h1:=h2)]
    ·rfl
    ·rw[aB,aa (a:=[.tup [.ref a,.ref b],.tup [.ref dd,.int x,.int (room:Int)]]) (h1:=h1)]
     ·exact run
     ·rw[aF,aa (aA rfl),aa (a:=[.tup [.ref dd,.int x,.int (room:Int)]]) (h1:=h1)]
      ·rfl
      ·rw[aF,aa (aA rfl),aF];rfl
theorem To(q:aq A h ds vs):ER A (ds.map λd=>some (.sh,d)) (vs.map some) h:=λi f d e=>by
 rw[aaF]at e;cases ei:ds[i]? with
 |none=>rw[ei]at e;cases e
 |some d'=>rw[ei]at e;cases e;rw[aam (by decide)];obtain⟨v,q1,q2⟩:=q.get ei;exact⟨v,by rw[aaF,q1];rfl,q2⟩
theorem AM(hΦ:∀j,Imp (Φ j) (Ψ j))(hp:Φ jp=fW Φ' 6 (Gm jh))(hh:Imp (Φ' jh) (Ψ jH)):Imp (fW Φ 5 (vF jw jp)) (zh Ψ jw jH):=λA h ds vs u q=>by
 unfold zh
 split
 ·rename_i dr xs
  split
  ·rename_i ns hi
   by_cases hc:(∃k:Wj,k.n<1000/\jl Ψ jw jH dr (sortI ns) k.n ([],[]) k.R k.ks k.ds)/\ns.length<64
   ·rw[dif_pos hc]
    have h64:=hc.2;have ok:=hc.1.choose_spec;generalize hc.1.choose=pk at *;obtain⟨hn,ok⟩:=ok;have ex:=kO hi;subst ex;rw[aq]at q;obtain⟨vr,r,rfl,qr,q⟩:=q;rw[aq]at q;obtain⟨vw,r,rfl,qw,q⟩:=q;rw[aq]at q;subst q;have hsl:(sortI ns).length<64:=by rw[(aaY ns).length_eq];exact h64
    have Wk:fz (ns.map .int)=some ((sortI ns).map .int):=by unfold fz;rw[aak (by rw[aae];exact h64),ints_map]
    generalize sortI ns=ss at *;have el:aI h vw=some (ns.map .int):=by
     have qw:=qw;rw[Dn]at qw
     rcases qw with ⟨ws,rfl,_,q⟩|⟨i,ws,rfl,_,g,q⟩
     ·rw[(aP _ _ (aO ns)).mp q];rfl
     ·show (match h[i]? with|some (.lst xs)=>some xs|_=>none)=_;rw[g,(aP _ _ (aO ns)).mp q]
    let h1:Hs:=h++[.lst (ss.map .int)]
    let h2:Hs:=(h1++[.lst []])++[.lst []]
    have l1:h1.length=h.length+1:=by simp[h1]
    have e1:∀env:Env,env[1]?=some (some vw)->aB Φ (.blt .sorted #[!1]) env h=.ok (.ref h.length) h1:=λenv he=>by
     rw[aB,aa (a:=[vw]) (h1:=h)]
     ·rw[blt];try dsimp only
      rw[bq (a:=ns.map .int) el,ie Wk];rfl
     ·rw[aF,aa (aA he),aF];rfl
    have nl:∀(env:Env) (g:Hs),aB Φ (.lst .nil) env g=.ok (.ref g.length) (g++[Ob.lst []]):=λenv g=>by
     rw[aB,show bnd (aF Φ .nil env) (λds=>az (decide (ds.length<=sizeLine)) (new (.lst ds))) g=az (decide (([]:List Val).length<=sizeLine)) (new (.lst [])) g from aa (a:=[]) (by rw[aF];rfl)];rfl
    have e2:∀env:Env,aB Φ (.tup #[.lst .nil,.lst .nil]) env h1=.ok (.tup [.ref h1.length,.ref (h1.length+1)]) h2:=λenv=>by
     rw[aB,aa (a:=[.ref h1.length,.ref (h1.length+1)]) (h1:=h2)]
     ·rfl
     ·rw[aF,aa (nl env h1),aa (a:=[.ref (h1.length+1)]) (h1:=h2)]
      ·rfl
      ·rw[aF,aa (nl env _),aF,aaj];rfl
    have Tp:h<+:h2:=((cj _).trans (cj _)).trans (cj _);have mv:∀d v,Dn A h d v->Dn (Ab A h1.length (h1.length+1)) h2 d v:=Dn.move (λz=>⟨z,by simp,by simp⟩) λi o hi g=>by
     have hl:=(aah.mp g).1;refine⟨⟨hi,λe=>?_,λe=>?_⟩,bP Tp g⟩<;>(injection e with e;omega)
    have p0:PJ A h dr (.rl (ns.map .int)) (.rl (ss.map .int)) vr vw (.ref h.length) h1.length (h1.length+1) ([],[]) h2:=by
     refine⟨Tp,by omega,by omega,by omega,?_,?_,mv _ _ qr,mv _ _ qw,?_⟩
     ·show ((h1++[Ob.lst []])++[Ob.lst []])[h1.length]?=_;rw[aav (by simp),aaC (aao _),sub_self];rfl
     ·show ((h1++[Ob.lst []])++[Ob.lst []])[h1.length+1]?=_;rw[aaC (by simp)];simp
     ·rw[Dn]
      refine .inr ⟨h.length,_,rfl,⟨u _ (aao _),λe=>?_,λe=>?_⟩,?_,oq⟩
      ·injection e with e;omega
      ·injection e with e;omega
      ·refine bP (h:=h1) ((cj _).trans (cj _)) ?_;show (h++[Ob.lst (ss.map .int)])[h.length]?=_;rw[aaC (aao _),sub_self];rfl
    obtain⟨v3,h3,v4,h4,e3,e4,p4,q4⟩:=vH hΦ hp hh u pk.n 100000 ([],[]) h2 none ok (by omega) p0;have wid:∀d v,Dn (Ab A h1.length (h1.length+1)) h4 d v->Dn A h4 d v:=λd v q=>q.wid λ_ z=>z.1;have ZA:aq A h4 [dr,.rl (ns.map .int),.rl (ss.map .int),dJ pk.R,.tup [.dc pk.ks pk.ds,.non,.non]] [vr,vw,.ref h.length,.tup [.ref h1.length,.ref (h1.length+1)],v4] :=
     aq.cons (wid _ _ p4.rule) (aq.cons (wid _ _ p4.row) (aq.cons (wid _ _ p4.names) (aq.cons (p4.rows u) (aq.cons q4 aq.nil))))
    have V:=(v_all hΦ).1 qB (by decide) (zg dr (ns.map .int) ss pk.R pk.ks pk.ds) [some vr,some vw,some (.ref h.length),some (.tup [.ref h1.length,.ref (h1.length+1)]),some v4] A h4 (u.ext p4.pre) (To ZA);have run:∀{v h'},aB Φ qB [some vr,some vw,some (.ref h.length),some (.tup [.ref h1.length,.ref (h1.length+1)]),some v4] h4=.ok v h'->fW Φ 5 (vF jw jp) [vr,vw] h=.ok v h':=λ{v h'} e=>by
     show bnd (bN Φ (vF jw jp) [some vr,some vw,none,none,none]) _ h=_;rw[aa (a:=.rt v) (h1:=h')]
     ·rfl
     ·rw[gQ (eY (e1 _ rfl))]
      simp only[set_cons_succ,set_cons_zero];rw[gQ (eY (e2 _))];simp only[set_cons_succ,set_cons_zero];rw[gQ (eY e3)];simp only[set_cons_succ,set_cons_zero];rw[gQ (st:=.whl _ _ _) (by rw[dX];exact e4)];rw[bN,dX,aa (a:=.rt v) (h1:=h')]
      ·rfl
      ·rw[aa e];rfl
    have Wl:∀{c ws h'},aB Φ qB [some vr,some vw,some (.ref h.length),some (.tup [.ref h1.length,.ref (h1.length+1)]),some v4] h4=.exc c ws h'->fW Φ 5 (vF jw jp) [vr,vw] h=.exc c ws h':=λ{c ws h'} e=>by
     show bnd (bN Φ (vF jw jp) [some vr,some vw,none,none,none]) _ h=_;have:bN Φ (vF jw jp) [some vr,some vw,none,none,none] h=.exc c ws h':=by rw[gQ (eY (e1 _ rfl))];simp only[set_cons_succ,set_cons_zero];rw[gQ (eY (e2 _))];simp only[set_cons_succ,set_cons_zero];rw[gQ (eY e3)];simp only[set_cons_succ,set_cons_zero];rw[gQ (st:=.whl _ _ _) (by rw[dX];exact e4)];rw[bN,dX];unfold bnd;rw[e]
     unfold bnd;rw[this]
    revert V;cases bg Ψ qB (zg dr (ns.map .int) ss pk.R pk.ks pk.ds) with
    |ok x=>
     rintro⟨v,h',e,pr,q1,q2⟩;exact⟨v,h',run e,p4.pre.trans pr,q1,λz=>(q2 z).wid λo ho=>by
      cases o with
      |none=>exact ho
      |some k=>exact aaN p4.pre.length_le ho⟩
    |exc c es=>rintro⟨ws,h',e,pr,q1⟩;exact⟨ws,h',Wl e,p4.pre.trans pr,q1⟩
    |no=>exact λ_=>trivial
   ·rw[dif_neg hc];trivial
  ·trivial
 ·trivial
end
def kU:Nat->Int->List Int->List Int
 |0,_,_=>[]
 |n+1,c,l=>l.getD (c%(l.length:Int)).toNat 0::kU n (c/(l.length:Int)) (l.eraseIdx (c%(l.length:Int)).toNat)
abbrev vI:IE:=.bin .mod (!0) (.blt .len #[!2])
abbrev LS:IE:=.bin .fdiv (!0) (.bin .add (.blt .len #[!2]) (¬1))
abbrev Gs:dm:=.cons (.expr (.met .append (!3) #[.met .pop (!2) #[vI]])) #[.asg (.one 0) LS]
abbrev LU:dm:=.cons (.asg (.one 2) (.blt .list #[!1])) #[.asg (.one 3) (.lst .nil),.for (.one 4) .range #[.blt .len #[!1]] Gs,.ret (!3)]
def zk:List Val->Pr FV
 | [.int c,.rl xs]=>match cE xs with
  |some ns=>if ns.length<64 then .ok (true,.rl ((kU ns.length c ns).map .int)) else .no
  |none=>.no
 |_=>.no
theorem zm:∀(l:List Int) (k:Nat) (h:k<l.length),(l[k]::l.eraseIdx k).Perm l
 |[],k,h=>absurd h (not_lt_zero _)
 |x::l,0,_=>.refl _
 | x::l,k+1,h=>by
  have h':k<l.length:=Nat.lt_of_succ_lt_succ h;rw[eraseIdx_cons_succ,List.getElem_cons_succ];exact(List.Perm.swap x (l[k]'h') _).trans ((zm l k h').cons x)
theorem vJ:∀(n:Nat) (c:Int) (l:List Int),l.length=n->(kU n c l).Perm l
 |0,c,l,h=>by rw[kU,List.length_eq_zero_iff.mp h]
 | n+1,c,l,h=>by
  have h0:0<=c%(l.length:Int):=emod_nonneg _ (by omega);have h1:c%(l.length:Int)<(l.length:Int):=emod_lt_of_pos _ (by omega);rw[kU];generalize c%(l.length:Int)=k at *;have hk:k.toNat<l.length:=by omega
  have e:l.getD k.toNat 0=l[k.toNat]:=by rw[List.getD_eq_getElem?_getD,aax hk];rfl
  have ih:=vJ n (c/(l.length:Int)) (l.eraseIdx k.toNat) (by rw[length_eraseIdx,aak hk];omega);rw[e];exact(List.Perm.cons _ ih).trans (zm l k.toNat hk)
section
variable {Φ:Nat->List Val->M Val}
theorem Gu{i j:Nat}{l:List Int}(e:env[j]?=some (some (.ref i)))(g:h[i]?=some (.lst (l.map .int))):aB Φ (.blt .len #[.var j]) env h=.ok (.int (l.length:Nat)) h:=by
 rw[aB,aa (a:=[.ref i]) (h1:=h)]
 ·rw[blt];try dsimp only
  rw[bq (a:=l.length)]
  ·rfl
  ·show (match h[i]? with|some (.lst xs)=>some xs.length|some (.dct xs)=>some xs.length|_=>none)=_;rw[g];show some (List.map Val.int _).length=_;rw[aae]
 ·rw[aF,aa (aA e),aF];rfl
theorem vK{a b:Nat}{h0:Hs}(hab:a≠b)(ha:h0.length<=a)(hb:h0.length<=b):∀(n i:Nat) (l found:List Int) (c:Int) (x4:Option Val) (h:Hs),items.length=i+n->l.length=n->found.length+n<64->h0<+:h->h[a]?=some (.lst (l.map .int))->h[b]?=some (.lst (found.map .int)) ->
  ∃c' y4 h',forM (.fix items) (λx env=>bnd (bM (fN (.one 4) x env)) λenv'=>bN Φ Gs env') n i [some (.int c),some vw,some (.ref a),some (.ref b),x4] h=.ok (.nx [some (.int c'),some vw,some (.ref a),some (.ref b),y4]) h'/\h0<+:h'/\h'[b]?=some (.lst ((found++kU n c l).map .int))
 | 0,i,l,found,c,x4,h,hi,hl,hf,hp,ga,gb=>by
  refine⟨c,x4,h,?_,hp,by rw[kU,aaM];exact gb⟩;rw[forM,bq (a:=items) rfl];unfold az;rw[aak (decide_eq_true (by omega))];rfl
 | n+1,i,l,found,c,x4,h,hi,hl,hf,hp,ga,gb=>by
  have k0:0<=c%(l.length:Int):=emod_nonneg _ (by omega);have k1:c%(l.length:Int)<(l.length:Int):=emod_lt_of_pos _ (by omega);have hd:kU (n+1) c l=l.getD (c%(l.length:Int)).toNat 0::kU n (c/(l.length:Int)) (l.eraseIdx (c%(l.length:Int)).toNat):=rfl;rw[hd];have km:Nd .mod (.int c) (.int (l.length:Nat)) h=.ok (.int (c%(l.length:Int))) h:=by show az (decide (0<((l.length:Nat):Int))) (ret (Val.int (c%(l.length:Int)))) h=_;unfold az;rw[aak (decide_eq_true (by omega))];rfl
  generalize c%(l.length:Int)=k at *;have hk:k.toNat<l.length:=by omega
  have ek:l.getD k.toNat 0=l[k.toNat]:=by rw[List.getD_eq_getElem?_getD,aax hk];rfl
  have le:(l.eraseIdx k.toNat).length=n:=by rw[length_eraseIdx,aak hk];omega
  have la:a<h.length:=(aah.mp ga).1;have lb:b<h.length:=(aah.mp gb).1;obtain⟨x,hx⟩:∃x,items[i]?=some x:=⟨_,aax (by omega)⟩
  let h1:=h.set a (.lst ((l.eraseIdx k.toNat).map .int))
  let h2:=h1.set b (.lst ((found++[l[k.toNat]]).map .int))
  have g1:h1[b]?=some (.lst (found.map .int)):=by show (h.set a _)[b]?=_;rw[aaf hab];exact gb
  have l1:h1.length=h.length:=length_set;have g2:h2[a]?=some (.lst ((l.eraseIdx k.toNat).map .int)):=by show (h1.set b _)[a]?=_;rw[aaf (Ne.symm hab)];show (h.set a _)[a]?=_;rw[aan la]
  have g3:h2[b]?=some (.lst ((found++[l[k.toNat]]).map .int)):=by show (h1.set b _)[b]?=_;rw[aan (by omega)]
  have p2:h0<+:h2:=rj (rj hp ha) hb;have E:∀E:Env,E=[some (.int c),some vw,some (.ref a),some (.ref b),some x]->bN Φ Gs E h=.ok (.nx [some (.int (c/(l.length:Int))),some vw,some (.ref a),some (.ref b),some x]) h2:=λE hE=>by
   subst hE;have e1:aB Φ vI [some (.int c),some vw,some (.ref a),some (.ref b),some x] h=.ok (.int k) h:=by rw[aB,aa (aA (v:=.int c) rfl),aa (Gu (i:=a) rfl ga)];exact km
   have e2:aB Φ (.met .pop (!2) #[vI]) [some (.int c),some vw,some (.ref a),some (.ref b),some x] h=.ok (.int l[k.toNat]) h1:=by
    rw[aB,aa (aA (v:=.ref a) rfl)];have b1:recv h .pop (.ref a)=some ():=by show (match h[a]? with|some (.lst _)=>some ()|_=>none)=_;rw[ga]
    rw[bq (f:=λh=>recv h .pop (.ref a)) b1];have b2:aF Φ #[vI] [some (.int c),some vw,some (.ref a),some (.ref b),some x] h=.ok [.int k] h:=by rw[aF,aa e1,aF];rfl
    rw[aa b2,met];try dsimp only
    rw[bq (a:=l.map .int) (by rw[ga])];unfold az;rw[aak (decide_eq_true (by omega)),ie (a:=.int l[k.toNat]) (by rw[aaF,aax hk];rfl),xA];rfl
   have e3:aB Φ (.met .append (!3) #[.met .pop (!2) #[vI]]) [some (.int c),some vw,some (.ref a),some (.ref b),some x] h=.ok .non h2:=by
    rw[aB,aa (aA (v:=.ref b) rfl)];have b1:recv h .append (.ref b)=some ():=by show (match h[b]? with|some (.lst _)=>some ()|_=>none)=_;rw[gb]
    rw[bq (f:=λh=>recv h .append (.ref b)) b1];have b2:aF Φ #[.met .pop (!2) #[vI]] [some (.int c),some vw,some (.ref a),some (.ref b),some x] h=.ok [.int l[k.toNat]] h1:=by rw[aF,aa e2,aF];rfl
    rw[aa b2,met];try dsimp only
    rw[bq (a:=found.map .int) (by rw[g1])];unfold az;rw[aak (decide_eq_true (by rw[aae];unfold sizeLine;omega))];show _=Out.ok _ (h1.set b (.lst ((found++[l[k.toNat]]).map .int)));rw[aaO];rfl
   have e4:aB Φ LS [some (.int c),some vw,some (.ref a),some (.ref b),some x] h2=.ok (.int (c/(l.length:Int))) h2:=by
    rw[aB,aa (aA (v:=.int c) rfl)];have e5:aB Φ (.bin .add (.blt .len #[!2]) (¬1)) [some (.int c),some vw,some (.ref a),some (.ref b),some x] h2=.ok (.int (l.length:Int)) h2:=by rw[aB,aa (Gu (i:=a) rfl g2),aa nC,le];show Out.ok (Val.int ((n:Int)+1)) h2=_;rw[hl];rfl
    rw[aa e5];show az (kg (l.length:Int)) (ret (Val.int (c/(l.length:Int)))) h2=_;unfold az kg;rw[aak (decide_eq_true (by omega))];rfl
   rw[gQ (st:=.expr _) (env':=[some (.int c),some vw,some (.ref a),some (.ref b),some x]) (h1:=h2) (by rw[dX,aa e3];rfl),gQ (eY e4),bN];rfl
  obtain⟨c',y4,h',r1,r2,r3⟩:=vK (items:=items) hab ha hb n (i+1) (l.eraseIdx k.toNat) (found++[l[k.toNat]]) (c/(l.length:Int)) (some x) h2 (by omega) le (by rw[aaj,aaQ];omega) p2 g2 g3;refine⟨c',y4,h',?_,r2,?_⟩
  ·rw[forM,bq (a:=items) rfl,hx]
   try dsimp only
   rw[aa (a:=.nx [some (.int (c/(l.length:Int))),some vw,some (.ref a),some (.ref b),some x]) (h1:=h2)]
   ·exact r1
   ·rw[ie (o:=fN (.one 4) x [some (.int c),some vw,some (.ref a),some (.ref b),x4]) (a:=[some (.int c),some vw,some (.ref a),some (.ref b),some x]) rfl];exact E _ rfl
  ·rw[r3,ek,aaS];rfl
theorem Gv:Imp (fW Φ 5 LU) zk:=λA h ds vs u q=>by
 unfold zk
 split
 ·rename_i c xs
  split
  ·rename_i ns hi
   by_cases h64:ns.length<64
   ·rw[aak h64]
    have ex:=kO hi;subst ex;rw[aq]at q;obtain⟨vc,r,rfl,qc,q⟩:=q;rw[aq]at q;obtain⟨vw,r,rfl,qw,q⟩:=q;rw[aq]at q;subst q;have ZC:vc=.int c:=(eX (.int c) vc rfl).mp qc;subst ZC;have el:aI h vw=some (ns.map .int)/\kD h vw=some (ns.map .int)/\m9 h vw=some ns.length:=by
     rw[Dn]at qw
     rcases qw with ⟨ws,rfl,_,q⟩|⟨i,ws,rfl,_,g,q⟩
     ·rw[(aP _ _ (aO ns)).mp q];exact⟨rfl,rfl,by show some (ns.map Val.int).length=_;rw[aae]⟩
     ·rw[(aP _ _ (aO ns)).mp q]at g
      refine⟨?_,?_,?_⟩
      ·show (match h[i]? with|some (.lst xs)=>some xs|_=>none)=_;rw[g]
      ·show (match h[i]? with|some (.lst xs)=>some xs|_=>none)=_;rw[g]
      ·show (match h[i]? with|some (.lst xs)=>some xs.length|some (.dct xs)=>some xs.length|_=>none)=_;rw[g];show some (List.map Val.int _).length=_;rw[aae]
    let h1:Hs:=h++[.lst (ns.map .int)]
    let h2:Hs:=h1++[.lst []]
    have l1:h1.length=h.length+1:=by simp[h1]
    have e1:aB Φ (.blt .list #[!1]) [some (.int c),some vw,none,none,none] h=.ok (.ref h.length) h1:=by
     rw[aB,aa (a:=[vw]) (h1:=h)]
     ·rw[blt];try dsimp only
      rw[bq (a:=ns.map .int) el.2.1];rfl
     ·rw[aF,aa (aA rfl),aF];rfl
    have e2:∀env:Env,aB Φ (.lst .nil) env h1=.ok (.ref h1.length) h2:=λenv=>by
     rw[aB,show bnd (aF Φ .nil env) (λds=>az (decide (ds.length<=sizeLine)) (new (.lst ds))) h1=az (decide (([]:List Val).length<=sizeLine)) (new (.lst [])) h1 from aa (a:=[]) (by rw[aF];rfl)];rfl
    have Tp:h<+:h2:=(cj _).trans (cj _);have ga:h2[h.length]?=some (.lst (ns.map .int)):=by refine bP (h:=h1) (cj _) ?_;show (h++[Ob.lst (ns.map .int)])[h.length]?=_;rw[aaC (aao _),sub_self];rfl
    have gb:h2[h1.length]?=some (.lst (([]:List Int).map .int)):=by show (h1++[Ob.lst []])[h1.length]?=_;rw[aaC (aao _),sub_self];rfl
    have Wm:m9 h2 vw=some ns.length:=by
     have Xw:=qw.ext Tp;rw[Dn] at Xw
     rcases Xw with ⟨ws,rfl,_,q⟩|⟨i,ws,rfl,_,g,q⟩
     ·rw[(aP _ _ (aO ns)).mp q];show some (ns.map Val.int).length=_;rw[aae]
     ·rw[(aP _ _ (aO ns)).mp q]at g;show (match h2[i]? with|some (.lst xs)=>some xs.length|some (.dct xs)=>some xs.length|_=>none)=_;rw[g];show some (List.map Val.int _).length=_;rw[aae]
    have e3:aF Φ #[.blt .len #[!1]] [some (.int c),some vw,some (.ref h.length),some (.ref h1.length),none] h2=.ok [.int (ns.length:Nat)] h2:=by
     rw[aF,aa (a:=.int (ns.length:Nat)) (h1:=h2)]
     ·rw[aF];rfl
     ·rw[aB,aa (a:=[vw]) (h1:=h2)]
      ·rw[blt];try dsimp only
       rw[bq (a:=ns.length) Wm];rfl
      ·rw[aF,aa (aA rfl),aF];rfl
    have il:(bH 0 ns.length).length=0+ns.length:=by unfold bH;rw[aae,length_range];omega
    obtain⟨c',y4,h',r1,r2,r3⟩:=vK (Φ:=Φ) (vw:=vw) (h0:=h) (items:=bH 0 ns.length) (a:=h.length) (b:=h1.length) (by omega) (aao _) (by omega) ns.length 0 ns [] c none h2 il rfl (by simpa using h64) Tp ga gb;have sr:srcOf .range [.int (ns.length:Nat)]=some (.fix (bH 0 ns.length)):=by show (if inR (ns.length:Int) then some (Src.fix (bH 0 (ns.length:Int).toNat)) else none)=_;rw[aak (by unfold inR;simp only[and_eq_true,decide_eq_true_eq];omega)];rfl
    refine⟨.ref h1.length,h',?_,r2,?_⟩
    ·show bnd (bN Φ LU [some (.int c),some vw,none,none,none]) _ h=_
     rw[aa (a:=.rt (.ref h1.length)) (h1:=h')]
     ·rfl
     ·rw[gQ (eY e1)]
      simp only[set_cons_succ,set_cons_zero];rw[gQ (eY (e2 _))];simp only[set_cons_succ,set_cons_zero];rw[gQ (st:=.for _ _ _ _) (env':=[some (.int c'),some vw,some (.ref h.length),some (.ref h1.length),y4]) (h1:=h')]
      ·rw[bN,dX,aa (a:=.rt (.ref h1.length)) (h1:=h')]
       ·rfl
       ·rw[aa (aA rfl)];rfl
      ·rw[dX,aa e3,ie sr,bq (a:=bH 0 ns.length) rfl,il,Nat.zero_add];exact r1
    ·have fin:∀A':AP,A' (some h1.length)->Dn A' h' (.rl ((kU ns.length c ns).map .int)) (.ref h1.length):=λA' ha'=>by
      rw[Dn];exact .inr ⟨h1.length,_,rfl,ha',by rw[r3,nil_append],oq⟩
     exact⟨fin A (u _ (by omega)),λ_=>fin (Fr h.length) (by show h.length<=h1.length;omega)⟩
   ·rw[aam h64];trivial
  ·trivial
 ·trivial
end
end Hv
end
section
namespace K33
open PySem L2 Hv
abbrev Gx:List PySem.Str:=["_law_script","_law_k"]
abbrev Pu:List PySem.Str:=["_law_one","_law_two","_law_k","_law_step","_law_shift"]
abbrev Pw:List PySem.Str:=["_law_script","_law_one","_law_two","_law_pick","_law_many_here","_law_places","_law_turn","_law_order","_law_ties","_law_row","_law_k","_law_here","_law_there","_law_poles"]
abbrev Gy:List PySem.Str:=["_law_script"]
abbrev Px:List PySem.Str:=["_law_cell_here","_law_many_here","_law_number_here","_law_found","_law_k"]
abbrev Py:List PySem.Str:=["_law_cell_here","_law_things","_law_left","_law_found","_law_k"]
abbrev Pz:List PySem.Str:=["_law_script","_law_rest","_law_many_here","_law_places","_law_names","_law_cell_here","_law_ties","_law_at","_law_row","_law_k","_law_there","_law_one","_law_other"]
abbrev PB:List PySem.Str:=["places","pairs","firsts","place","one","other","kept","gone"]
abbrev PC:List PySem.Str:=["self","row","firsts"]
abbrev ou:List PySem.Str:=["self","row"]
abbrev Gz:List PySem.Str:=["self","row","rest"]
abbrev GA:List PySem.Str:=["rule","row","name","found","other"]
abbrev GB:List PySem.Str:=["rule","names","rows","pushers","name","waiting","at","other"]
abbrev GC:List PySem.Str:=["rows","name","at"]
abbrev GD:List PySem.Str:=["rows","way","pushers","name","room","left"]
abbrev GF:List PySem.Str:=["rule","row","names","rows","way"]
abbrev zo:List PySem.Str:=["_law_found"]
abbrev GG:List PySem.Str:=["_law_rule","_law_names","_law_found","_law_both"]
abbrev GH:List PySem.Str:=["poles","ties","named","name","one","other"]
abbrev GI:List PySem.Str:=["net","places","tie"]
abbrev vL:List PySem.Str:=["self","net","name","one","other"]
abbrev oz:List PySem.Str:=["self","net"]
abbrev LV:List PySem.Str:=["_law_script","_law_net","_law_names","_law_turn"]
def top(i:Nat):Stmt:=PySem.Challenge.pw_linkorcut_k33_whole_rows_as_built.main.body.getD i (.Pass ⟨0,0,0,0⟩)
def cons:List (Str×Val):=[("THOUGHT",(.int (-1)))]
def tb:Tb:=⟨2,["places","ends","net","whole"],[(0,"tree_rank",7),(1,"tree_rank",7),(0,"ties",9),(1,"ties",9),(0,"rank",10),(1,"rank",11),(0,"free",12),(1,"free",12)],[("Rule","__init__",23)],[]⟩
def fB(i:Nat):Stmt:=match top 16 with|.ClassDef (body:=b) ..=>b.getD i (.Pass ⟨0,0,0,0⟩)|_=>.Pass ⟨0,0,0,0⟩
def BY(i:Nat):Stmt:=match top 17 with|.ClassDef (body:=b) ..=>b.getD i (.Pass ⟨0,0,0,0⟩)|_=>.Pass ⟨0,0,0,0⟩
def qC(i:Nat):Stmt:=match top 18 with|.ClassDef (body:=b) ..=>b.getD i (.Pass ⟨0,0,0,0⟩)|_=>.Pass ⟨0,0,0,0⟩
def jF:dm:=#[.iff (.cmp .lt (!1) (.blt .len #[!0])) #[.ret (.idx (!0) (!1))] .nil,.ret (¬0)]
def gK:dm:=#[.asg (.one 3) (¬1),.asg (.one 4) (¬0),.iff (.cmp .gt (.bin .mod (!0) (¬3)) (¬0)) #[.asg (.one 3) (.bin .add (¬1) (.bin .mod (.bin .fdiv (!0) (¬3)) (.bin .pow (¬10) (¬56)))),.asg (.one 4) (.bin .mod (.bin .fdiv (!1) (¬66)) (.bin .pow (¬10) (¬58)))] .nil,.ret (.bin .add (.bin .mul (!3) (.bin .mod (.bin .add (.bin .mul (.bin .add (¬1) (.bin .mod (!1) (¬66))) (!2)) (!0)) (¬67))) (!4))]
def cJ:dm:=#[.asg (.one 1) (.call 0 #[!0,¬0]),.asg (.one 2) (.call 0 #[!0,¬1]),.asg (.one 3) (.call 0 #[!0,¬2]),.asg (.one 4) (.bin .add (¬2) (.bin .mod (!3) (¬7))),.asg (.one 5) (.comp ["_law_k","_law_two","_law_one"] [none,some 2,some 1] (.one 0) .range #[!4] .no (.call 1 #[!1,!2,!0])),.asg (.one 6) (.bin .mod (.bin .fdiv (!3) (¬7)) (!4)),.asg (.one 7) (.bin .add (.slc (!5) (!6) .no) (.slc (!5) .no (!6))),.iff (.cmp .eq (.bin .mod (.bin .fdiv (!3) (¬56)) (¬2)) (¬1)) #[.asg (.one 7) (.rev (!7) (.neg (¬1)))] .nil,.asg (.one 8) (.lst .nil),.for (.one 9) .seq #[.lst #[!5,!7]] #[.for (.one 10) .range #[¬1,!4] #[.asg (.one 11) (.idx (!9) (!10)),.asg (.one 12) (.idx (!9) (.bin .mod (.call 0 #[!0,.bin .add (¬3) (.blt .len #[!8])]) (!10))),.expr (.met .append (!8) #[.tup #[.call 1 #[!1,!2,.blt .len #[!8]],.blt .min #[!11,!12],.blt .max #[!11,!12]]])]],.asg (.one 13) (.blt .sorted #[.lst #[.idx (!5) (¬0),.idx (!5) (.bin .mul (.bin .sub (!4) (¬1)) (.blt .int #[.cmp .ne (.bin .mod (.bin .fdiv (!3) (¬112)) (¬8)) (¬3)]))]]),.ret (.tup #[.tup #[.idx (!13) (¬0),.idx (!13) (¬1)],.blt .sorted #[!8]])]
def bJ:dm:=#[.asg (.one 2) (.neg (¬1)),.asg (.one 3) (.lst .nil),.for (.one 4) .range #[!1] #[.asg (.one 2) (.bin .add (.bin .add (!2) (¬1)) (.bin .mod (!0) (.bin .pow (¬10) (¬57)))),.asg (.one 0) (.bin .fdiv (!0) (.bin .pow (¬10) (¬57))),.expr (.met .append (!3) #[!2])],.ret (!3)]
def nD:dm:=#[.asg (.one 2) (.blt .list #[!1]),.asg (.one 3) (.lst .nil),.for (.one 4) .range #[.blt .len #[!1]] #[.expr (.met .append (!3) #[.met .pop (!2) #[.bin .mod (!0) (.blt .len #[!2])]]),.asg (.one 0) (.bin .fdiv (!0) (.bin .add (.blt .len #[!2]) (¬1)))],.ret (!3)]
def bV:dm:=#[.asg (.one 1) (.call 0 #[!0,¬2]),.asg (.one 2) (.bin .add (¬2) (.bin .mod (!1) (¬7))),.asg (.one 3) (.call 3 #[.call 0 #[!0,¬1],!2]),.asg (.one 4) (.call 4 #[.call 0 #[!0,¬7],.call 3 #[.call 0 #[!0,¬0],.bin .sub (.bin .mul (¬2) (!2)) (¬2)]]),.asg (.one 5) (.call 0 #[!0,¬5]),.asg (.one 6) (.lst .nil),.for (.one 7) .seq #[.tup #[¬3,¬4]] #[.asg (.one 8) (.call 4 #[.call 0 #[!0,!7],!3]),.for (.one 9) .range #[¬1,!2] #[.asg (.one 10) (.idx (!8) (.bin .mod (!5) (!9))),.asg (.one 5) (.bin .fdiv (!5) (!9)),.expr (.met .append (!6) #[.tup #[.idx (!4) (.blt .len #[!6]),.blt .min #[.idx (!8) (!9),!10],.blt .max #[.idx (!8) (!9),!10]]])]],.asg (.one 11) (.bin .mod (.bin .fdiv (!1) (¬7)) (!2)),.asg (.one 12) (.bin .mod (.bin .fdiv (.bin .fdiv (!1) (¬7)) (!2)) (!2)),.ret (.tup #[.tup #[.idx (!3) (.blt .min #[!11,!12]),.idx (!3) (.blt .max #[!11,!12])],.blt .sorted #[!6]])]
def fQ:dm:=#[.asg (.one 2) .dct0,.for (.one 3) .seq #[!0] #[.f9 (!2) (!3) (!3)],.for (.tup [4,5]) .seq #[!1] #[.asg (.one 6) (.blt .min #[.idx (!2) (!4),.idx (!2) (!5)]),.asg (.one 7) (.blt .max #[.idx (!2) (!4),.idx (!2) (!5)]),.for (.one 3) .seq #[!0] #[.iff (.cmp .eq (.idx (!2) (!3)) (!7)) #[.f9 (!2) (!3) (!6)] .nil]],.ret (!2)]
def cu:dm:=#[.asg (.one 2) (.call 6 #[.fld 2 (!0) "places",.comp ["tie","self"] [none,some 0] (.one 0) .seq #[!1] .no (.idx (.fld 2 (!1) "ends") (!0))]),.ret (.blt .len #[.comp ["place","firsts"] [none,some 2] (.one 0) .seq #[.fld 2 (!0) "places"] (.cmp .ne (.idx (!1) (!0)) (!0)) (!0)])]
def gM:dm:=#[.ret (.comp ["tie"] [none] (.one 0) .seq #[.idx (!0) (¬1)] .no (.idx (!0) (¬0)))]
def fR:dm:=#[.ret (.bin .add (.lst #[.con "THOUGHT" (.int (-1))]) (.call 8 #[.fld 2 (!0) "net"]))]
def dM:dm:=#[.asg (.one 2) (.comp ["tie","row"] [none,some 1] (.one 0) .seq #[.mth (!0) "ties" [(0,9),(1,9)] .nil] (.cmp .nin (!0) (!1)) (!0)),.ret (.bin .add (.bin .sub (.blt .len #[!1]) (.fld 2 (!0) "whole")) (.mth (!0) "tree_rank" [(0,7),(1,7)] #[!2]))]
def cR:dm:=#[.ret (.mth (!0) "tree_rank" [(0,7),(1,7)] #[!1])]
def eF:dm:=#[.ret (.cmp .eq (.mth (!0) "rank" [(0,10),(1,11)] #[!1]) (.blt .len #[!1]))]
def cV:dm:=#[.asg (.one 3) (.lst .nil),.for (.one 4) .seq #[!1] #[.iff (.mth (!0) "free" [(0,12),(1,12)] #[.bin .add (.comp ["each","other"] [none,some 4] (.one 0) .seq #[!1] (.cmp .ne (!0) (!1)) (!0)) (.lst #[!2])]) #[.expr (.met .append (!3) #[!4])] .nil],.ret (!3)]
def iC:dm:=#[.asg (.one 3) .dct0,.for (.one 4) .seq #[!1] #[.iff (.and (.cmp .nin (!4) (.idx (!2) (¬0))) (.cmp .nin (!4) (.idx (!2) (¬1)))) #[.f9 (!3) (!4) (.cst .non)] .nil],.asg (.one 5) (.lkeys (!3)),.whl 100000 (.cmp .gt (.blt .len #[!5]) (¬0)) #[.asg (.one 4) (.met .pop (!5) #[¬0]),.for (.one 6) .range #[¬2] #[.iff (.cmp .inn (!4) (.idx (!2) (!6))) #[.cnt] .nil,.iff (.mth (!0) "free" [(0,12),(1,12)] #[.bin .add (.idx (!2) (!6)) (.lst #[!4])]) #[.ret (.tup #[!3,!4,!6])] .nil,.for (.one 7) .seq #[.call 13 #[!0,.idx (!2) (!6),!4]] #[.iff (.cmp .nin (!7) (!3)) #[.f9 (!3) (!7) (!4),.expr (.met .append (!5) #[!7])] .nil]]],.ret (.tup #[!3,.cst .non,.cst .non])]
def gn:dm:=#[.for (.one 2) .range #[¬2] #[.iff (.cmp .inn (!1) (.idx (!0) (!2))) #[.ret (!2)] .nil],.ret (.cst .non)]
def pX:dm:=#[.asg (.one 2) (.idx (!1) (¬0)),.asg (.one 3) (.idx (!1) (¬1)),.asg (.one 4) (.idx (!1) (¬2)),.whl 100000 (.cmp .ntn (!3) (.cst .non)) #[.asg (.one 5) (.call 15 #[!0,!3]),.iff (.cmp .ntn (!5) (.cst .non)) #[.expr (.met .remove (.idx (!0) (!5)) #[!3])] .nil,.expr (.met .append (.idx (!0) (!4)) #[!3]),.asg (.one 4) (!5),.asg (.one 3) (.idx (!2) (!3))]]
def pY:dm:=#[.asg (.one 2) (.blt .sorted #[!1]),.asg (.one 3) (.tup #[.lst .nil,.lst .nil]),.asg (.one 4) (.call 14 #[!0,!2,!3]),.whl 100000 (.cmp .ntn (.idx (!4) (¬1)) (.cst .non)) #[.expr (.call 16 #[!3,!4]),.asg (.one 4) (.call 14 #[!0,!2,!3])],.ret (.tup #[.blt .sorted #[.idx (!3) (¬0)],.blt .sorted #[.idx (!3) (¬1)],.skeys (.idx (!4) (¬0))])]
def e7:dm:=#[.iff (.or (.not (.blt (.isin "list") #[!0])) (.cmp .ne (!0) (.blt .sorted #[!0]))) #[.ret (.cst (.bl false))] .nil,.ret (.blt .all #[.comp ["_law_one"] [none] (.one 0) .seq #[!0] .no (.and (.blt (.isin "int") #[!0]) (.not (.blt (.isin "bool") #[!0])))])]
def iD:dm:=#[.asg (.one 2) (.call 17 #[!0,.blt .list #[!1]]),.iff (.or (.not (.blt (.isin "tuple") #[!2])) (.or (.cmp .ne (.blt .len #[!2]) (¬3)) (.not (.blt .all #[.comp ["_law_each"] [none] (.one 0) .seq #[!2] .no (.call 18 #[!0])])))) #[.ret (.neg (¬1))] .nil,.asg (.one 3) (.bin .add (.idx (!2) (¬0)) (.idx (!2) (¬1))),.iff (.or (.cmp .ne (.svals (!3)) (.blt .len #[!3])) (.not (.blt .all #[.comp ["_law_name","_law_names"] [none,some 1] (.one 0) .seq #[!3] .no (.cmp .inn (!0) (!1))]))) #[.ret (.neg (¬1))] .nil,.ret (.blt .len #[!3])]
def cS:dm:=#[.asg (.one 2) (.lst .nil),.for (.tup [3,4,5]) .seq #[!1] #[.expr (.met .append (!2) #[.tup #[!3,.blt .min #[!4,!5],.blt .max #[!4,!5]]])],.ret (.tup #[.tup #[.blt .min #[.idx (!0) (¬0),.idx (!0) (¬1)],.blt .max #[.idx (!0) (¬0),.idx (!0) (¬1)]],.blt .sorted #[!2]])]
def iL:dm:=#[.ret (.call 20 #[.idx (!0) (¬0),.idx (!0) (¬1)])]
def fS:dm:=#[.asg (.one 1) (.blt .list #[.idx (!0) (¬0)]),.for (.one 2) .seq #[.idx (!0) (¬1)] #[.expr (.met .extend (!1) #[.slc (!2) (¬1) .no])],.ret (.sset (!1))]
def gp:dm:=#[.setF 2 (!0) "net" (.call 21 #[!1]),.setF 2 (!0) "places" (.call 22 #[.fld 2 (!0) "net"]),.setF 2 (!0) "ends" (.dct1 (.con "THOUGHT" (.int (-1))) (.idx (.fld 2 (!0) "net") (¬0))),.for (.tup [2,3,4]) .seq #[.idx (.fld 2 (!0) "net") (¬1)] #[.f9 (.fld 2 (!0) "ends") (!2) (.tup #[!3,!4])]]
def pZ:dm:=#[.expr (.call 23 #[!0,!1]),.setF 2 (!0) "whole" (.mth (!0) "tree_rank" [(0,7),(1,7)] #[.mth (!0) "ties" [(0,9),(1,9)] .nil])]
def nE:dm:=#[.setF 2 (!0) "net" (.call 21 #[!1]),.setF 2 (!0) "places" (.call 22 #[.fld 2 (!0) "net"]),.setF 2 (!0) "ends" (.dct1 (.con "THOUGHT" (.int (-1))) (.idx (.fld 2 (!0) "net") (¬0))),.for (.tup [2,3,4]) .seq #[.idx (.fld 2 (!0) "net") (¬1)] #[.f9 (.fld 2 (!0) "ends") (!2) (.tup #[!3,!4])]]
def p7:dm:=#[.asg (.one 1) (.call 2 #[!0]),.iff (.and (.cmp .eq (.bin .mod (.blt .len #[!0]) (¬2)) (¬0)) (.cmp .ge (.call 0 #[!0,¬5]) (.bin .pow (¬10) (¬18)))) #[.asg (.one 1) (.call 5 #[!0])] .nil,.asg (.one 2) (.comp ["_law_each"] [none] (.one 0) .seq #[.idx (!1) (¬1)] .no (.idx (!0) (¬0))),.asg (.one 3) (.bin .mod (.call 0 #[!0,¬18]) (.bin .add (.blt .len #[!2]) (¬1))),.asg (.one 2) (.bin .add (.slc (!2) (!3) .no) (.slc (!2) .no (!3))),.iff (.and (.cmp .eq (.bin .mod (.blt .len #[!0]) (¬2)) (¬0)) (.cmp .ge (.call 0 #[!0,¬5]) (.bin .pow (¬10) (¬18)))) #[.asg (.one 2) (.call 4 #[.call 0 #[!0,¬6],!2])] .nil,.iff (.or (.cmp .ne (.call 19 #[.call 25 #[!1],!2]) (.blt .len #[!2])) (.cmp .ne (.call 19 #[.call 25 #[!1],.bin .add (!2) (.lst #[.neg (¬1)])]) (.blt .len #[!2]))) #[.ret (.cst (.bl false))] .nil,.ret (.cmp .eq (.call 19 #[.call 24 #[!1],.bin .add (.lst #[.neg (¬1)]) (!2)]) (.bin .add (.blt .len #[!2]) (¬1)))]
def Tq:List Row:=[]
def zp:List Val->M Val:=fW (look Tq) 2 jF
def Tr:List Row:=Tq++[(("_law_cell":Str),2,zp)]
def tU:List Val->M Val:=fW (look Tr) 5 gK
def Tt:List Row:=Tr++[(("_law_number":Str),3,tU)]
def mP:List Val->M Val:=fW (look Tt) 14 cJ
def Tu:List Row:=Tt++[(("_law_two_trees":Str),1,mP)]
def j7:List Val->M Val:=fW (look Tu) 5 bJ
def Tv:List Row:=Tu++[(("_law_gap_numbers":Str),2,j7)]
def vM:List Val->M Val:=fW (look Tv) 5 nD
def Tw:List Row:=Tv++[(("_law_dealt":Str),2,vM)]
def mQ:List Val->M Val:=fW (look Tw) 13 bV
def Tz:List Row:=Tw++[(("_law_any_trees":Str),1,mQ)]
def qD:List Val->M Val:=fW (look Tz) 8 fQ
def TF:List Row:=Tz++[(("firsts_by":Str),2,qD)]
def jG:List Val->M Val:=fW (look TF) 3 cu
def TH:List Row:=TF++[(("Rule.tree_rank":Str),1002,jG)]
def tW:List Val->M Val:=fW (look TH) 1 gM
def TJ:List Row:=TH++[(("names_of":Str),1,tW)]
def qE:List Val->M Val:=fW (look TJ) 1 fR
def GJ:List Row:=TJ++[(("Rule.ties":Str),1001,qE)]
def mR:List Val->M Val:=fW (look GJ) 3 dM
def GK:List Row:=GJ++[(("ByRest.rank":Str),1002,mR)]
def kW:List Val->M Val:=fW (look GK) 2 cR
def GL:List Row:=GK++[(("ByTrees.rank":Str),1002,kW)]
def qF:List Val->M Val:=fW (look GL) 2 eF
def GN:List Row:=GL++[(("Rule.free":Str),1002,qF)]
def oA:List Val->M Val:=fW (look GN) 5 cV
def GO:List Row:=GN++[(("pushed_out":Str),3,oA)]
def zq:List Val->M Val:=fW (look GO) 8 iC
def GP:List Row:=GO++[(("way_in":Str),3,zq)]
def vN:List Val->M Val:=fW (look GP) 3 gn
def Dp:List Row:=GP++[(("home_of":Str),2,vN)]
def zu:List Val->M Val:=fW (look Dp) 6 pX
def GQ:List Row:=Dp++[(("put_in":Str),2,zu)]
def zv:List Val->M Val:=fW (look GQ) 5 pY
def GR:List Row:=GQ++[(("packed":Str),2,zv)]
def oB:List Val->M Val:=fW (look GR) 1 e7
def GS:List Row:=GR++[(("_law_told_row":Str),1,oB)]
def zx:List Val->M Val:=fW (look GS) 4 iD
def GU:List Row:=GS++[(("_law_many":Str),2,zx)]
def kX:List Val->M Val:=fW (look GU) 6 cS
def GV:List Row:=GU++[(("put_in_order":Str),2,kX)]
def vO:List Val->M Val:=fW (look GV) 1 iL
def GW:List Row:=GV++[(("own_net":Str),1,vO)]
def qG:List Val->M Val:=fW (look GW) 3 fS
def GX:List Row:=GW++[(("places_of":Str),1,qG)]
def j8:List Val->M Val:=fW (look GX) 5 gp
def GY:List Row:=GX++[(("Rule.__init__":Str),1002,j8)]
def zy:List Val->M Val:=EI 0 (fW (look GY) 2 pZ)
def GZ:List Row:=GY++[(("ByRest":Str),1,zy)]
def vP:List Val->M Val:=EI 1 (fW (look GZ) 5 nE)
def KQ:List Row:=GZ++[(("ByTrees":Str),1,vP)]
def Hf:List Val->M Val:=fW (look KQ) 4 p7
def Wn:List bG:=[]
def bh:bG:=gh (ai Wn) 2 jF
def Wo:List bG:=Wn++[bh]
def gu:bG:=gh (ai Wo) 5 gK
def zY:List bG:=Wo++[gu]
def gD:bG:=gh (ai zY) 14 cJ
def UD:List bG:=zY++[gD]
def b6:bG:=gh (ai UD) 5 bJ
def Xx:List bG:=UD++[b6]
def jI:bG:=zk
def DK:List bG:=Xx++[jI]
def cW:bG:=gh (ai DK) 13 bV
def Wq:List bG:=DK++[cW]
def fD:bG:=gh (ai Wq) 8 fQ
def UE:List bG:=Wq++[fD]
def aY:bG:=gh (ai UE) 3 cu
def Wr:List bG:=UE++[aY]
def iM:bG:=gh (ai Wr) 1 gM
def UG:List bG:=Wr++[iM]
def dN:bG:=gh (ai UG) 1 fR
def Hg:List bG:=UG++[dN]
def cX:bG:=gh (ai Hg) 3 dM
def KR:List bG:=Hg++[cX]
def dP:bG:=gh (ai KR) 2 cR
def Hh:List bG:=KR++[dP]
def dQ:bG:=gh (ai Hh) 2 eF
def Dq:List bG:=Hh++[dQ]
def fT:bG:=gh (ai Dq) 5 cV
def dR:List bG:=Dq++[fT]
def kY:bG:=gh (ai dR) 8 iC
def KS:List bG:=dR++[kY]
def lV:bG:=gh (ai KS) 3 gn
def TL:List bG:=KS++[lV]
def zA:bG:=λ_=>.no
def qa:List bG:=TL++[zA]
def kZ:bG:=zh (ai qa) 14 15
def PD:List bG:=qa++[kZ]
def cO:bG:=gh (ai PD) 1 e7
def Dr:List bG:=PD++[cO]
def oE:bG:=gh (ai Dr) 4 iD
def PF:List bG:=Dr++[oE]
def dS:bG:=gh (ai PF) 6 cS
def KU:List bG:=PF++[dS]
def eG:bG:=gh (ai KU) 1 iL
def PK:List bG:=KU++[eG]
def cK:bG:=gh (ai PK) 3 fS
def Hi:List bG:=PK++[cK]
def j9:bG:=λ_=>.no
def Hj:List bG:=Hi++[j9]
def oF:bG:=vD (ai Hi) (ai Hj) 0 21 22 9 7
def Hl:List bG:=Hj++[oF]
def lW:bG:=mO (ai Hl) 1 21 22
def gS:List bG:=Hl++[lW]
def BZ:bG:=gh (ai gS) 4 p7
theorem bX:ai zY 0=bh:=rfl
theorem fE:ai zY 1=gu:=rfl
theorem bY:ai DK 0=bh:=rfl
theorem gT:ai DK 3=b6:=rfl
theorem fU:ai DK 4=jI:=rfl
theorem ig:ai UE 6=fD:=rfl
theorem kj:ai UG 8=iM:=rfl
theorem gO:ai Hg 7=aY:=rfl
theorem jm:ai Hg 9=dN:=rfl
theorem gx:ai KR 7=aY:=rfl
theorem jn:ai Hh 10=cX:=rfl
theorem iU:ai Hh 11=dP:=rfl
theorem jJ:ai Dq 12=dQ:=rfl
theorem mh:ai dR 12=dQ:=rfl
theorem k9:ai dR 13=fT:=rfl
theorem gy:ai qa 14=kY:=rfl
theorem qb:ai Dr 17=kZ:=rfl
theorem lg:ai Dr 18=cO:=rfl
theorem jK:ai KU 20=dS:=rfl
theorem jq:ai Hi 21=eG:=rfl
theorem iO:ai Hi 22=cK:=rfl
theorem ju:ai Hj 7=aY:=rfl
theorem mj:ai Hj 9=dN:=rfl
theorem nF:ai Hl 21=eG:=rfl
theorem lq:ai Hl 22=cK:=rfl
theorem jv:ai gS 0=bh:=rfl
theorem nG:ai gS 2=gD:=rfl
theorem tY:ai gS 4=jI:=rfl
theorem nH:ai gS 5=cW:=rfl
theorem uA:ai gS 19=oE:=rfl
theorem uB:ai gS 24=oF:=rfl
theorem tZ:ai gS 25=lW:=rfl
theorem i0:fu Tq Wn:=FP
theorem Ho:Imp zp bh:=cC (aM i0) (by decide +kernel)
theorem i1:fu Tr Wo:=aK i0 Ho
theorem AN:Imp tU gu:=cC (aM i1) (by decide +kernel)
theorem i2:fu Tt zY:=aK i1 AN
theorem uC:Imp mP gD:=cC (aM i2) (by decide +kernel)
theorem i3:fu Tu UD:=aK i2 uC
theorem qR:Imp j7 b6:=cC (aM i3) (by decide +kernel)
theorem i4:fu Tv Xx:=aK i3 qR
theorem Ds:Imp vM jI:=Gv
theorem i5:fu Tw DK:=aK i4 Ds
theorem uD:Imp mQ cW:=cC (aM i5) (by decide +kernel)
theorem i6:fu Tz Wq:=aK i5 uD
theorem zB:Imp qD fD:=cC (aM i6) (by decide +kernel)
theorem i7:fu TF UE:=aK i6 zB
theorem qd:Imp jG aY:=cC (aM i7) (by decide +kernel)
theorem i8:fu TH Wr:=aK i7 qd
theorem AO:Imp tW iM:=cC (aM i8) (by decide +kernel)
theorem i9:fu TJ UG:=aK i8 AO
theorem zC:Imp qE dN:=cC (aM i9) (by decide +kernel)
theorem Xy:fu GJ Hg:=aK i9 zC
theorem uE:Imp mR cX:=cC (aM Xy) (by decide +kernel)
theorem Xz:fu GK KR:=aK Xy uE
theorem t6:Imp kW dP:=cC (aM Xz) (by decide +kernel)
theorem i12:fu GL Hh:=aK Xz t6
theorem zE:Imp qF dQ:=cC (aM i12) (by decide +kernel)
theorem XA:fu GN Dq:=aK i12 zE
theorem xB:Imp oA fT:=cC (aM XA) (by decide +kernel)
theorem XC:fu GO dR:=aK XA xB
theorem Hq:Imp zq kY:=cC (aM XC) (by decide +kernel)
theorem XD:fu GP KS:=aK XC Hq
theorem vQ:Imp vN lV:=cC (aM XD) (by decide +kernel)
theorem ZD:fu Dp TL:=aK XD vQ
theorem Hr:Imp zu zA:=zc
theorem XE:fu GQ qa:=aK ZD Hr
theorem Ht:Imp zv kZ:=AM (jw:=14) (jp:=16) (jh:=15) (jH:=15) (Φ':=look Dp) (aM XE) rfl vQ
theorem XF:fu GR PD:=aK XE Ht
theorem xC:Imp oB cO:=cC (aM XF) (by decide +kernel)
theorem XG:fu GS Dr:=aK XF xC
theorem Hu:Imp zx oE:=cC (aM XG) (by decide +kernel)
theorem XH:fu GU PF:=aK XG Hu
theorem t7:Imp kX dS:=cC (aM XH) (by decide +kernel)
theorem XI:fu GV KU:=aK XH t7
theorem Dt:Imp vO eG:=cC (aM XI) (by decide +kernel)
theorem XJ:fu GW PK:=aK XI Dt
theorem zF:Imp qG cK:=cC (aM XJ) (by decide +kernel)
theorem XM:fu GX Hi:=aK XJ zF
theorem qS:Imp j8 j9:=zc
theorem XO:fu GY Hj:=aK XM qS
theorem Hw:Imp zy oF:=Gg (n:=2) (ji:=23) (by decide) (aM XM) (aM XO) rfl rfl rfl
theorem XQ:fu GZ Hl:=aK XO Hw
theorem Du:Imp vP lW:=Gd (n:=2) (by decide) (aM XQ)
theorem ZE:fu KQ gS:=aK XQ Du
theorem KW{ns:List Int}{f:Bool}(e:BZ [.rl (ns.map .int)]=.ok (f,.bl true)):∃h',Hf [.rl (ns.map .int)] []=.ok (.bl true) h':=FQ (cC (aM ZE) (by decide +kernel)) e
theorem c0:aW Gx Gx (ah (top 20))=true:=by decide +kernel
theorem d0:bu ⟨Gx,ah (top 20),Tq.map (λr=>(r.1,r.2.1)),cons,tb⟩ jF (aG (top 20))=true:=by decide +kernel
theorem c1:aW Pu ["_law_one","_law_two","_law_k"] (ah (top 21))=true:=by decide +kernel
theorem d1:bu ⟨Pu,ah (top 21),Tr.map (λr=>(r.1,r.2.1)),cons,tb⟩ gK (aG (top 21))=true:=by decide +kernel
theorem c2:aW Pw Gy (ah (top 22))=true:=by decide +kernel
theorem d2:bu ⟨Pw,ah (top 22),Tt.map (λr=>(r.1,r.2.1)),cons,tb⟩ cJ (aG (top 22))=true:=by decide +kernel
theorem c3:aW Px ["_law_cell_here","_law_many_here"] (ah (top 25))=true:=by decide +kernel
theorem d3:bu ⟨Px,ah (top 25),Tu.map (λr=>(r.1,r.2.1)),cons,tb⟩ bJ (aG (top 25))=true:=by decide +kernel
theorem c4:aW Py ["_law_cell_here","_law_things"] (ah (top 26))=true:=by decide +kernel
theorem d4:bu ⟨Py,ah (top 26),Tv.map (λr=>(r.1,r.2.1)),cons,tb⟩ nD (aG (top 26))=true:=by decide +kernel
theorem c5:aW Pz Gy (ah (top 27))=true:=by decide +kernel
theorem d5:bu ⟨Pz,ah (top 27),Tw.map (λr=>(r.1,r.2.1)),cons,tb⟩ bV (aG (top 27))=true:=by decide +kernel
theorem c6:aW PB ["places","pairs"] (ah (top 13))=true:=by decide +kernel
theorem d6:bu ⟨PB,ah (top 13),Tz.map (λr=>(r.1,r.2.1)),cons,tb⟩ fQ (aG (top 13))=true:=by decide +kernel
theorem c7:aW PC ou (ah (fB 7))=true:=by decide +kernel
theorem d7:bu ⟨PC,ah (fB 7),TF.map (λr=>(r.1,r.2.1)),cons,tb⟩ cu (aG (fB 7))=true:=by decide +kernel
theorem c8:aW ["net"] ["net"] (ah (top 11))=true:=by decide +kernel
theorem d8:bu ⟨["net"],ah (top 11),TH.map (λr=>(r.1,r.2.1)),cons,tb⟩ gM (aG (top 11))=true:=by decide +kernel
theorem c9:aW ["self"] ["self"] (ah (fB 3))=true:=by decide +kernel
theorem d9:bu ⟨["self"],ah (fB 3),TJ.map (λr=>(r.1,r.2.1)),cons,tb⟩ fR (aG (fB 3))=true:=by decide +kernel
theorem vR:aW Gz ou (ah (qC 2))=true:=by decide +kernel
theorem oW:bu ⟨Gz,ah (qC 2),GJ.map (λr=>(r.1,r.2.1)),cons,tb⟩ dM (aG (qC 2))=true:=by decide +kernel
theorem Hx:aW ou ou (ah (BY 1))=true:=by decide +kernel
theorem DL:bu ⟨ou,ah (BY 1),GK.map (λr=>(r.1,r.2.1)),cons,tb⟩ cR (aG (BY 1))=true:=by decide +kernel
theorem c12:aW ou ou (ah (fB 5))=true:=by decide +kernel
theorem DM:bu ⟨ou,ah (fB 5),GL.map (λr=>(r.1,r.2.1)),cons,tb⟩ eF (aG (fB 5))=true:=by decide +kernel
theorem ZF:aW GA ["rule","row","name"] (ah (top 4))=true:=by decide +kernel
theorem ZG:bu ⟨GA,ah (top 4),GN.map (λr=>(r.1,r.2.1)),cons,tb⟩ cV (aG (top 4))=true:=by decide +kernel
theorem ZH:aW GB ["rule","names","rows"] (ah (top 3))=true:=by decide +kernel
theorem ZI:bu ⟨GB,ah (top 3),GO.map (λr=>(r.1,r.2.1)),cons,tb⟩ iC (aG (top 3))=true:=by decide +kernel
theorem ZJ:aW GC ["rows","name"] (ah (top 6))=true:=by decide +kernel
theorem ZK:bu ⟨GC,ah (top 6),GP.map (λr=>(r.1,r.2.1)),cons,tb⟩ gn (aG (top 6))=true:=by decide +kernel
theorem ZL:aW GD ["rows","way"] (ah (top 5))=true:=by decide +kernel
theorem ZM:bu ⟨GD,ah (top 5),Dp.map (λr=>(r.1,r.2.1)),cons,tb⟩ pX (aG (top 5))=true:=by decide +kernel
theorem ZN:aW GF ["rule","row"] (ah (top 2))=true:=by decide +kernel
theorem ZO:bu ⟨GF,ah (top 2),GQ.map (λr=>(r.1,r.2.1)),cons,tb⟩ pY (aG (top 2))=true:=by decide +kernel
theorem UH:aW zo zo (ah (top 23))=true:=by decide +kernel
theorem ZP:bu ⟨zo,ah (top 23),GR.map (λr=>(r.1,r.2.1)),cons,tb⟩ e7 (aG (top 23))=true:=by decide +kernel
theorem ZQ:aW GG ["_law_rule","_law_names"] (ah (top 24))=true:=by decide +kernel
theorem ZR:bu ⟨GG,ah (top 24),GS.map (λr=>(r.1,r.2.1)),cons,tb⟩ iD (aG (top 24))=true:=by decide +kernel
theorem ZS:aW GH ["poles","ties"] (ah (top 8))=true:=by decide +kernel
theorem ZT:bu ⟨GH,ah (top 8),GU.map (λr=>(r.1,r.2.1)),cons,tb⟩ cS (aG (top 8))=true:=by decide +kernel
theorem ZU:aW ["net"] ["net"] (ah (top 9))=true:=by decide +kernel
theorem ZV:bu ⟨["net"],ah (top 9),GV.map (λr=>(r.1,r.2.1)),cons,tb⟩ iL (aG (top 9))=true:=by decide +kernel
theorem ZW:aW GI ["net"] (ah (top 10))=true:=by decide +kernel
theorem ZX:bu ⟨GI,ah (top 10),GW.map (λr=>(r.1,r.2.1)),cons,tb⟩ fS (aG (top 10))=true:=by decide +kernel
theorem ZY:aW vL oz (ah (fB 0))=true:=by decide +kernel
theorem ZZ:bu ⟨vL,ah (fB 0),GX.map (λr=>(r.1,r.2.1)),cons,tb⟩ gp (aG (fB 0))=true:=by decide +kernel
theorem Z0:aW oz oz (ah (qC 0))=true:=by decide +kernel
theorem Z1:bu ⟨oz,ah (qC 0),GY.map (λr=>(r.1,r.2.1)),cons,tb⟩ pZ (aG (qC 0))=true:=by decide +kernel
theorem Z2:aW vL oz (ah (fB 0))=true:=by decide +kernel
theorem Z3:bu ⟨vL,ah (fB 0),GZ.map (λr=>(r.1,r.2.1)),cons,tb⟩ nE (aG (fB 0))=true:=by decide +kernel
theorem Z4:aW LV Gy (ah (top 28))=true:=by decide +kernel
theorem Z5:bu ⟨LV,ah (top 28),KQ.map (λr=>(r.1,r.2.1)),cons,tb⟩ p7 (aG (top 28))=true:=by decide +kernel
section
variable {P:Program} {w:World} {K:Frag} {mg:Str->Option Value} {base:Heap}
theorem all_mk{l:PySem.W.OpenLaw}{h:Heap}{fa:Addr}(X:K.In h)(G:h.Ns mainGlobals mg)(Z6:mg "law" = some (.ref fa))(hφ:∀ns:List Int,ns.length<=63->∃h',Hf [.rl (ns.map .int)] []=.ok (.bl true) h'){D0:Addr}{D1:Addr}{E0:Addr}{a0:Addr}{a1:Addr}{a2:Addr}{a3:Addr}{a4:Addr}{a5:Addr}{a6:Addr}{a7:Addr}{a8:Addr}{a9:Addr}{Iw:Addr}{LW:Addr}{KY:Addr}{XR:Addr}{XS:Addr}{XT:Addr}{XU:Addr}{XW:Addr}{XX:Addr}{XY:Addr}{XZ:Addr}{X0:Addr}{X3:Addr}{UI:Addr}{UJ:Addr}{UK:Addr}{X4:Addr}{tk0:Tok}
  (DA0:nsIn K mainGlobals "ByRest" = some (some (.ref D0))) (DG0:plainGet K D0 Str.empty=true) (DH0:hasDictIn K D0=true) (DO0:plainOver K D0=true) (DS0:findIn K (.ref D0) "__setattr__" = some (some (.builtin "object.__setattr__"))) (DM0:makesIn K D0=true) (DK0:keepIn K (.ref D0)=true)
  (DN0_0:findIn K (.ref D0) "places" = some none)
  (DN0_1:findIn K (.ref D0) "ends" = some none)
  (DN0_2:findIn K (.ref D0) "net" = some none)
  (DN0_3:findIn K (.ref D0) "whole" = some none)
  (DA1:nsIn K mainGlobals "ByTrees" = some (some (.ref D1))) (DG1:plainGet K D1 Str.empty=true) (DH1:hasDictIn K D1=true) (DO1:plainOver K D1=true) (DS1:findIn K (.ref D1) "__setattr__" = some (some (.builtin "object.__setattr__"))) (DM1:makesIn K D1=true) (DK1:keepIn K (.ref D1)=true)
  (DN1_0:findIn K (.ref D1) "places" = some none)
  (DN1_1:findIn K (.ref D1) "ends" = some none)
  (DN1_2:findIn K (.ref D1) "net" = some none)
  (DN1_3:findIn K (.ref D1) "whole" = some none)
  (EA0:nsIn K mainGlobals "Rule" = some (some (.ref E0)))
  (EG0:specialIn K (.ref E0) "__getattribute__" = some (some (.builtin "type.__getattribute__"))) (ER0:readsIn K E0 (.type "type")=true)
  (A0:nsIn K mainGlobals "_law_cell" = some (some (.ref a0)))
  (F0:mJ K "_law_cell" "_law_cell" (top 20) a0)
  (A1:nsIn K mainGlobals "_law_number" = some (some (.ref a1)))
  (F1:mJ K "_law_number" "_law_number" (top 21) a1)
  (A2:nsIn K mainGlobals "_law_two_trees" = some (some (.ref a2)))
  (F2:mJ K "_law_two_trees" "_law_two_trees" (top 22) a2)
  (A3:nsIn K mainGlobals "_law_gap_numbers" = some (some (.ref a3)))
  (F3:mJ K "_law_gap_numbers" "_law_gap_numbers" (top 25) a3)
  (A4:nsIn K mainGlobals "_law_dealt" = some (some (.ref a4)))
  (F4:mJ K "_law_dealt" "_law_dealt" (top 26) a4)
  (A5:nsIn K mainGlobals "_law_any_trees" = some (some (.ref a5)))
  (F5:mJ K "_law_any_trees" "_law_any_trees" (top 27) a5)
  (A6:nsIn K mainGlobals "firsts_by" = some (some (.ref a6)))
  (F6:mJ K "firsts_by" "firsts_by" (top 13) a6)
  (M0_7:findIn K (.ref D0) "tree_rank" = some (some (.ref a7)))
  (M1_7:findIn K (.ref D1) "tree_rank" = some (some (.ref a7)))
  (I7:isFn K (.ref a7)=true)
  (F7:mJ K "tree_rank" "Rule.tree_rank" (fB 7) a7)
  (A8:nsIn K mainGlobals "names_of" = some (some (.ref a8)))
  (F8:mJ K "names_of" "names_of" (top 11) a8)
  (M0_9:findIn K (.ref D0) "ties" = some (some (.ref a9)))
  (M1_9:findIn K (.ref D1) "ties" = some (some (.ref a9)))
  (I9:isFn K (.ref a9)=true)
  (F9:mJ K "ties" "Rule.ties" (fB 3) a9)
  (M0_10:findIn K (.ref D0) "rank" = some (some (.ref Iw)))
  (I10:isFn K (.ref Iw)=true)
  (F10:mJ K "rank" "ByRest.rank" (qC 2) Iw)
  (M1_11:findIn K (.ref D1) "rank" = some (some (.ref LW)))
  (I11:isFn K (.ref LW)=true)
  (F11:mJ K "rank" "ByTrees.rank" (BY 1) LW)
  (M0_12:findIn K (.ref D0) "free" = some (some (.ref KY)))
  (M1_12:findIn K (.ref D1) "free" = some (some (.ref KY)))
  (I12:isFn K (.ref KY)=true)
  (F12:mJ K "free" "Rule.free" (fB 5) KY)
  (A13:nsIn K mainGlobals "pushed_out" = some (some (.ref XR)))
  (F13:mJ K "pushed_out" "pushed_out" (top 4) XR)
  (A14:nsIn K mainGlobals "way_in" = some (some (.ref XS)))
  (F14:mJ K "way_in" "way_in" (top 3) XS)
  (A15:nsIn K mainGlobals "home_of" = some (some (.ref XT)))
  (F15:mJ K "home_of" "home_of" (top 6) XT)
  (A16:nsIn K mainGlobals "put_in" = some (some (.ref XU)))
  (F16:mJ K "put_in" "put_in" (top 5) XU)
  (A17:nsIn K mainGlobals "packed" = some (some (.ref XW)))
  (F17:mJ K "packed" "packed" (top 2) XW)
  (A18:nsIn K mainGlobals "_law_told_row" = some (some (.ref XX)))
  (F18:mJ K "_law_told_row" "_law_told_row" (top 23) XX)
  (A19:nsIn K mainGlobals "_law_many" = some (some (.ref XY)))
  (F19:mJ K "_law_many" "_law_many" (top 24) XY)
  (A20:nsIn K mainGlobals "put_in_order" = some (some (.ref XZ)))
  (F20:mJ K "put_in_order" "put_in_order" (top 8) XZ)
  (A21:nsIn K mainGlobals "own_net" = some (some (.ref X0)))
  (F21:mJ K "own_net" "own_net" (top 9) X0)
  (A22:nsIn K mainGlobals "places_of" = some (some (.ref X3)))
  (F22:mJ K "places_of" "places_of" (top 10) X3)
  (EF0_23:findCls K (.ref E0) (.type "type") "__init__" = some (.val (.ref UI)))
  (I23:isFn K (.ref UI)=true)
  (F23:mJ K "__init__" "Rule.__init__" (fB 0) UI)
  (A24:findIn K (.ref D0) "__init__" = some (some (.ref UJ))) (I24:isFn K (.ref UJ)=true)
  (F24:mJ K "__init__" "ByRest.__init__" (qC 0) UJ)
  (A25:findIn K (.ref D1) "__init__" = some (some (.ref UK))) (I25:isFn K (.ref UK)=true)
  (F25:mJ K "__init__" "Rule.__init__" (fB 0) UK)
  (A26:nsIn K mainGlobals "law" = some (some (.ref X4)))
  (F26:mJ K "law" "law" (top 28) X4)
  (Z:∀x∈bltNames,nsIn K mainGlobals x=some none)
  (V0:nsIn K mainGlobals "THOUGHT" = some (some (.int (-1) tk0))) :
  ∃fd:FuncData,(∀(s:Shared) (v:Value),BindsTo s fd ⟨[v],[]⟩ [("_law_script",v)])/\∀base:Heap,K.In base->base.Ns mainGlobals mg->fZ l.prog w K mg base zW 54 fa fd ["_law_script"] (UA K):=by
 have e:=Z6.symm.trans (aaP X G A26);cases e;obtain⟨cl,hcl⟩:∃cl:Nat->Addr,cl=λn=>if n=0 then D0 else if n=1 then D1 else if n=1007 then a7 else if n=1009 then a9 else if n=1010 then Iw else if n=1011 then LW else if n=1012 then KY else if n=1023 then UI else 0:=⟨_,rfl⟩
 have T:Base K cl mg cons tb:=by
  subst hcl;refine⟨λx hx=>?_,λp hp=>?_,λc hc=>?_,λp hp=>?_,λp hp=>?_,λp hp=>?_⟩
  ·exact PySem.W.mg_none_of X G (Z x hx)
  ·simp only[cons,mem_cons,not_mem_nil,or_false]at hp
   rcases hp with rfl
   ·exact⟨.int (-1),_,aaP X G V0,⟨_,rfl⟩,λ_ _ _=>VR.int⟩
  ·have hc:c<2:=hc
   match c,hc with
   |0,_=>
    refine⟨⟨DG0,DH0,DO0,DS0⟩,λx hx=>?_⟩;simp only[tb,mem_cons,not_mem_nil,or_false]at hx
    rcases hx with rfl|rfl|rfl|rfl
    ·exact DN0_0
    ·exact DN0_1
    ·exact DN0_2
    ·exact DN0_3
   |1,_=>
    refine⟨⟨DG1,DH1,DO1,DS1⟩,λx hx=>?_⟩;simp only[tb,mem_cons,not_mem_nil,or_false]at hx
    rcases hx with rfl|rfl|rfl|rfl
    ·exact DN1_0
    ·exact DN1_1
    ·exact DN1_2
    ·exact DN1_3
  ·simp only[tb,mem_cons,not_mem_nil,or_false]at hp
   rcases hp with rfl|rfl|rfl|rfl|rfl|rfl|rfl|rfl
   ·exact⟨M0_7,I7,F7.kp⟩
   ·exact⟨M1_7,I7,F7.kp⟩
   ·exact⟨M0_9,I9,F9.kp⟩
   ·exact⟨M1_9,I9,F9.kp⟩
   ·exact⟨M0_10,I10,F10.kp⟩
   ·exact⟨M1_11,I11,F11.kp⟩
   ·exact⟨M0_12,I12,F12.kp⟩
   ·exact⟨M1_12,I12,F12.kp⟩
  ·simp only[tb,mem_cons,not_mem_nil,or_false]at hp
   rcases hp with rfl
   ·exact⟨E0,aaP X G EA0,⟨EG0,ER0,EF0_23,F23.kp⟩⟩
  ·simp[tb]at hp
 obtain⟨fd,F⟩:=F26;obtain⟨_,_,_,_,_,_,_,_,_,e,_⟩:=F.ex;refine⟨fd,λs v=>by rw[e];exact .of_eq rfl,λbase _ _=>?_⟩;have G0:cI l.prog w ⟨K,cl⟩ mg base 0 Tq:=all_nil;have G1:cI l.prog w ⟨K,cl⟩ mg base 2 Tr:=fX (x:="_law_cell") (N:=Gx) (ps:=Gx) (body:=jF) T G0 F0 (aaP X G A0) c0 d0 (by decide) (by intro _ _ _ _ _ _ _ l;apply ln2 l;intros;rfl);have G2:cI l.prog w ⟨K,cl⟩ mg base 4 Tt:=fX (x:="_law_number") (N:=Pu) (ps:=["_law_one","_law_two","_law_k"]) (body:=gK) T G1 F1 (aaP X G A1) c1 d1 (by decide) (by intro _ _ _ _ _ _ _ l;apply V5 l;intros;rfl);have G3:cI l.prog w ⟨K,cl⟩ mg base 6 Tu:=fX (x:="_law_two_trees") (N:=Pw) (ps:=Gy) (body:=cJ) T G2 F2 (aaP X G A2) c2 d2 (by decide) (by intro _ _ _ _ _ _ _ l;apply Oz l;intros;rfl);have G4:cI l.prog w ⟨K,cl⟩ mg base 8 Tv:=fX (x:="_law_gap_numbers") (N:=Px) (ps:=["_law_cell_here","_law_many_here"]) (body:=bJ) T G3 F3 (aaP X G A3) c3 d3 (by decide) (by intro _ _ _ _ _ _ _ l;apply ln2 l;intros;rfl);have G5:cI l.prog w ⟨K,cl⟩ mg base 10 Tw:=fX (x:="_law_dealt") (N:=Py) (ps:=["_law_cell_here","_law_things"]) (body:=nD) T G4 F4 (aaP X G A4) c4 d4 (by decide) (by intro _ _ _ _ _ _ _ l;apply ln2 l;intros;rfl);have G6:cI l.prog w ⟨K,cl⟩ mg base 12 Tz:=fX (x:="_law_any_trees") (N:=Pz) (ps:=Gy) (body:=bV) T G5 F5 (aaP X G A5) c5 d5 (by decide) (by intro _ _ _ _ _ _ _ l;apply Oz l;intros;rfl);have G7:cI l.prog w ⟨K,cl⟩ mg base 14 TF:=fX (x:="firsts_by") (N:=PB) (ps:=["places","pairs"]) (body:=fQ) T G6 F6 (aaP X G A6) c6 d6 (by decide) (by intro _ _ _ _ _ _ _ l;apply ln2 l;intros;rfl);have G8:cI l.prog w ⟨K,cl⟩ mg base 16 TH:=vp (y:="Rule.tree_rank") (N:=PC) (ps:=ou) (body:=cu) T G7 F7 (by rw[hcl];rfl) c7 d7 (by intro _ _ _ _ _ _ _ l;apply ln2 l;intros;rfl);have G9:cI l.prog w ⟨K,cl⟩ mg base 18 TJ:=fX (x:="names_of") (N:=["net"]) (ps:=["net"]) (body:=gM) T G8 F8 (aaP X G A8) c8 d8 (by decide) (by intro _ _ _ _ _ _ _ l;apply Oz l;intros;rfl);have Z7:cI l.prog w ⟨K,cl⟩ mg base 20 GJ:=vp (y:="Rule.ties") (N:=["self"]) (ps:=["self"]) (body:=fR) T G9 F9 (by rw[hcl];rfl) c9 d9 (by intro _ _ _ _ _ _ _ l;apply Oz l;intros;rfl);have Z8:cI l.prog w ⟨K,cl⟩ mg base 22 GK:=vp (y:="ByRest.rank") (N:=Gz) (ps:=ou) (body:=dM) T Z7 F10 (by rw[hcl];rfl) vR oW (by intro _ _ _ _ _ _ _ l;apply ln2 l;intros;rfl);have Z9:cI l.prog w ⟨K,cl⟩ mg base 24 GL:=vp (y:="ByTrees.rank") (N:=ou) (ps:=ou) (body:=cR) T Z8 F11 (by rw[hcl];rfl) Hx DL (by intro _ _ _ _ _ _ _ l;apply ln2 l;intros;rfl);have G13:cI l.prog w ⟨K,cl⟩ mg base 26 GN:=vp (y:="Rule.free") (N:=ou) (ps:=ou) (body:=eF) T Z9 F12 (by rw[hcl];rfl) c12 DM (by intro _ _ _ _ _ _ _ l;apply ln2 l;intros;rfl);have G14:cI l.prog w ⟨K,cl⟩ mg base 28 GO:=fX (x:="pushed_out") (N:=GA) (ps:=["rule","row","name"]) (body:=cV) T G13 F13 (aaP X G A13) ZF ZG (by decide) (by intro _ _ _ _ _ _ _ l;apply V5 l;intros;rfl);have G15:cI l.prog w ⟨K,cl⟩ mg base 30 GP:=fX (x:="way_in") (N:=GB) (ps:=["rule","names","rows"]) (body:=iC) T G14 F14 (aaP X G A14) ZH ZI (by decide) (by intro _ _ _ _ _ _ _ l;apply V5 l;intros;rfl);have G16:cI l.prog w ⟨K,cl⟩ mg base 32 Dp:=fX (x:="home_of") (N:=GC) (ps:=["rows","name"]) (body:=gn) T G15 F15 (aaP X G A15) ZJ ZK (by decide) (by intro _ _ _ _ _ _ _ l;apply ln2 l;intros;rfl);have G17:cI l.prog w ⟨K,cl⟩ mg base 34 GQ:=fX (x:="put_in") (N:=GD) (ps:=["rows","way"]) (body:=pX) T G16 F16 (aaP X G A16) ZL ZM (by decide) (by intro _ _ _ _ _ _ _ l;apply ln2 l;intros;rfl);have G18:cI l.prog w ⟨K,cl⟩ mg base 36 GR:=fX (x:="packed") (N:=GF) (ps:=["rule","row"]) (body:=pY) T G17 F17 (aaP X G A17) ZN ZO (by decide) (by intro _ _ _ _ _ _ _ l;apply ln2 l;intros;rfl);have G19:cI l.prog w ⟨K,cl⟩ mg base 38 GS:=fX (x:="_law_told_row") (N:=zo) (ps:=zo) (body:=e7) T G18 F18 (aaP X G A18) UH ZP (by decide) (by intro _ _ _ _ _ _ _ l;apply Oz l;intros;rfl);have G20:cI l.prog w ⟨K,cl⟩ mg base 40 GU:=fX (x:="_law_many") (N:=GG) (ps:=["_law_rule","_law_names"]) (body:=iD) T G19 F19 (aaP X G A19) ZQ ZR (by decide) (by intro _ _ _ _ _ _ _ l;apply ln2 l;intros;rfl);have G21:cI l.prog w ⟨K,cl⟩ mg base 42 GV:=fX (x:="put_in_order") (N:=GH) (ps:=["poles","ties"]) (body:=cS) T G20 F20 (aaP X G A20) ZS ZT (by decide) (by intro _ _ _ _ _ _ _ l;apply ln2 l;intros;rfl);have G22:cI l.prog w ⟨K,cl⟩ mg base 44 GW:=fX (x:="own_net") (N:=["net"]) (ps:=["net"]) (body:=iL) T G21 F21 (aaP X G A21) ZU ZV (by decide) (by intro _ _ _ _ _ _ _ l;apply Oz l;intros;rfl);have G23:cI l.prog w ⟨K,cl⟩ mg base 46 GX:=fX (x:="places_of") (N:=GI) (ps:=["net"]) (body:=fS) T G22 F22 (aaP X G A22) ZW ZX (by decide) (by intro _ _ _ _ _ _ _ l;apply Oz l;intros;rfl);have G24:cI l.prog w ⟨K,cl⟩ mg base 48 GY:=vp (y:="Rule.__init__") (N:=vL) (ps:=oz) (body:=gp) T G23 F23 (by rw[hcl];rfl) ZY ZZ (by intro _ _ _ _ _ _ _ l;apply ln2 l;intros;rfl);have G25:cI l.prog w ⟨K,cl⟩ mg base 50 GZ:=Fx (x:="ByRest") (N:=oz) (ps:=oz) (body:=pZ) (n:=1) (f:=UJ) (c:=0) T G24 F24 (by rw[hcl];exact aaP X G DA0) (by rw[hcl];exact⟨DM0,A24,I24,DK0⟩) Z0 Z1 rfl (by decide) (by intro _ _ _ _ _ _ _ l;apply ln2 l;intros;rfl);have G26:cI l.prog w ⟨K,cl⟩ mg base 52 KQ:=Fx (x:="ByTrees") (N:=vL) (ps:=oz) (body:=nE) (n:=1) (f:=UK) (c:=1) T G25 F25 (by rw[hcl];exact aaP X G DA1) (by rw[hcl];exact⟨DM1,A25,I25,DK1⟩) Z2 Z3 rfl (by decide) (by intro _ _ _ _ _ _ _ l;apply ln2 l;intros;rfl);exact(BE T G26 F Z4 Z5).imp (OC hφ)
end
end K33
end
section
open PySem L2 Hv
set_option hygiene false
local macro_rules | `(tactic| simp only[EV,$ls,*] $[$l:location]?)=>`(tactic| simp only[gh,yQ,isSome_some,Option.isSome_none,Pg,FU,Ph,gJ,SN,SO,SQ,SS,SV,fP,SW,Pa,Pb,Wa,SX,SY,av,bw,zX,bg,qP,gI,UB,J9,J8,v9,Xl,LM,ay,O8,bB,Ky,O9,isVar,jg,List.getElem?_cons_zero,List.getElem?_cons_succ,set_cons_zero,set_cons_succ,map_cons,map_nil,length_cons,length_nil,cons_append,nil_append,List.replicate_succ,List.replicate_zero,Nat.reduceSub,Nat.reduceAdd,Nat.reduceLeDiff,S0,S4,Wb,Wc,Wd,We,S5,Pc,S6,S7,FT,S8,S9,Tc,Td,Pe,Pf,Te,jx,bD,nZ,V7,dg,kG,Hv.stored,List.contains_nil,List.contains_cons,List.elem_nil,List.elem_cons,Nat.reduceBEq,Nat.reduceEqDiff,BEq.rfl,List.all_cons,List.all_nil,beq_self_eq_true,tu,gW,ux,mK,pQ,↓reduceIte,Bool.and_true,Bool.true_and,Bool.false_and,Bool.and_false,Bool.or_false,Bool.false_or,Bool.or_true,Bool.true_or,Bool.or_self,zero_le,Bool.not_true,Bool.not_false,false_eq_true,decide_eq_true_eq,not_eq_true',decide_eq_false_iff_not,List.append_nil,nil_append,reduceCtorEq,$ls,*] $[$l:location]?)
section
open PySem L2 Hv
namespace K33
def cellAt(ns:List Int)(k:Nat):Int:=ns.getD k 0
theorem eL(ns:List Int)(k:Nat):bh [.rl (ns.map .int),.int k]=.ok (true,.int (cellAt ns k)):=by
 unfold bh jF
 by_cases h:k<ns.length
 ·have e:ko (List.map Val.int ns) (k:Int)=some (.int (ns[k])):=iV (by simp[h])
  have h':(k:Int)<ns.length:=by omega
  simp only[EV,j6 e,length_map,h',cellAt,List.getD,List.getElem?_eq_getElem h,getD_some]
 ·have h':¬ (k:Int)<ns.length:=by omega
  have e:ns[k]?=none:=by simp;omega
  simp only[EV,length_map,h',cellAt,List.getD,e,getD_none]
def mq(one two k:Int):Int:=(if 0<one%3 then 1+one/3%10 ^ 56 else 1)*(((1+two%66)*k+one)%67)+(if 0<one%3 then two/66%10 ^ 58 else 0)
theorem vS(a b:Int)(h:0<=b/\b<67):kE a b=true:=by
 unfold kE;simp only[or_eq_true,and_eq_true,decide_eq_true_eq];right;omega
theorem t8(a b:Int)(h:0<=a/\a<67):kE a b=true:=by
 unfold kE;simp only[or_eq_true,and_eq_true,decide_eq_true_eq];left;omega
theorem B0(one two k:Int):gu [.int one,.int two,.int k]=.ok (true,.int (mq one two k)):=by
 unfold gu gK mq;have m1:kE (1+two%66) k=true:=t8 _ _ (by omega);have m2:∀x,kE x (((1+two%66)*k+one)%67)=true:=λx=>vS _ _ (by omega);simp only[EV,gY (show decide ((0:Int)<3)=true by decide),gY (show decide ((0:Int)<66)=true by decide),gY (show decide ((0:Int)<67)=true by decide),jV (show kg 3=true by decide),jV (show kg 66=true by decide),BR (show decide ((0:Int)<=56/\(56:Int)<=1000000/\(10:Int).natAbs<2 ^ 64)=true by decide),BR (show decide ((0:Int)<=58/\(58:Int)<=1000000/\(10:Int).natAbs<2 ^ 64)=true by decide),BQ m1,BQ (m2 _),gY (show decide ((0:Int)<10 ^ (56:Int).toNat)=true by decide),gY (show decide ((0:Int)<10 ^ (58:Int).toNat)=true by decide)]
 repeat' split
 all_goals first|rfl|contradiction
theorem KZ(one two k:Int):0<=mq one two k:=by
 unfold mq;generalize ((1+two%66)*k+one)=z;have hs:∃st:Int,(if 0<one%3 then 1+one/3%10 ^ 56 else 1)=st/\1<=st:=by refine⟨_,rfl,?_⟩;split<;>omega
 have hf:∃sh:Int,(if 0<one%3 then two/66%10 ^ 58 else 0)=sh/\0<=sh:=by refine⟨_,rfl,?_⟩;split<;>omega
 obtain⟨st,e1,a1⟩:=hs;obtain⟨sh,e2,b1⟩:=hf;rw[e1,e2];have p1:0<=st*(z%67):=Int.mul_nonneg (by omega) (by omega);omega
theorem zG(one two i j:Int)(hi:0<=i/\i<67)(hj:0<=j/\j<67)(e:mq one two i=mq one two j):i=j:=by
 unfold mq at e;have hs:∃st:Int,(if 0<one%3 then 1+one/3%10 ^ 56 else 1)=st/\1<=st:=by refine⟨_,rfl,?_⟩;split<;>omega
 obtain⟨st,e1,a1⟩:=hs;rw[e1]at e;have e2:st*(((1+two%66)*i+one)%67)=st*(((1+two%66)*j+one)%67):=by omega
 have e3:=Int.eq_of_mul_eq_mul_left (by omega:st≠0) e2;exact KI (by omega) hi hj e3
theorem LX{n:Int}(h:inR n=true):kh .range [.int n]=some ((List.range n.toNat).map λ(i:Nat)=>Val.int (0+(i:Int))):=by
 show (if inR n=true then some (bH 0 n.toNat) else none)=_;rw[aak h];rfl
structure aU (p q:Int) (ts:List T3):Prop where
 ord:p<=q
 len:ts.length<=14
 up:KD ts
 ends:∀t∈ts,t.2.1<=t.2.2
 names:∀t∈ts,0<=t.1
structure lu (one two:Int) (ts:List T3):Prop where
 name:∀i (h:i<ts.length),(ts[i]).1=mq one two i
 ends:∀t∈ts,t.2.1<=t.2.2
theorem lu.nodup{one two:Int}(h:lu one two ts)(hl:ts.length<=14):(ts.map (·.1)).Nodup:=by
 unfold List.Nodup;rw[pairwise_iff_getElem];intro i j hi hj hij;rw[aae]at hi hj;rw[getElem_map,getElem_map,h.name i hi,h.name j hj];intro e;have:=zG one two i j (by omega) (by omega) e;omega
theorem TM(a b:Int):∃x y,sortI [a,b]=[x,y]/\x<=y:=by
 have hl:(sortI [a,b]).length=2:=(aaY _).length_eq;have hs:=sortI_rises [a,b]
 match h:sortI [a,b],hl,hs with
 |[x,y],_,hs=>exact⟨x,y,rfl,by simpa using hs⟩
theorem zH(h:fz xs=some ys):iS .sorted [.rl xs]=.ok (true,.rl ys):=by
 show (pb (pl (fz xs)) (λys:List Val=>Pr.ok ((true,Val.rl ys):FV)):Pr FV)=_;rw[h];rfl
end K33
end
section
open PySem L2 Hv
namespace K33
def kc(p q:Int)(ts:List T3):List Int:=p::q::ts.flatMap λt=>[t.2.1,t.2.2]
def qH(p q:Int)(ts:List T3):List Int:=f9 (kc p q ts)
theorem qf(p q:Int)(ts:List T3):(kc p q ts).length=2+2*ts.length:=by
 unfold kc
 induction ts with
 |nil=>rfl
 |cons t r ih=>simp only[List.flatMap_cons,length_cons,List.length_append,length_nil] at *;omega
theorem zJ:∀(ns ks:List Int),(cL ks ns).length<=ks.length+ns.length
 |[],ks=>aao _
 | k::r,ks=>by
  rw[cL,aaE];have:=zJ r (pe ks k);have:=sf ks k;omega
theorem K1{p q:Int}(h:ts.length<=14):(qH p q ts).length<64:=by
 unfold qH f9;rw[(aaY _).length_eq];have:=zJ (kc p q ts) [];rw[qf]at this;simp only[length_nil]at this;omega
theorem oG{p q x:Int}:x∈qH p q ts↔x=p\/x=q\/∃t∈ts,x=t.2.1\/x=t.2.2:=by
 unfold qH;rw[FZ];unfold kc;simp only[mem_cons,List.mem_flatMap,not_mem_nil,or_false]
theorem places_eq{p q:Int}(h:ts.length<=14):cK [di p q ts]=.ok (true,.rl ((qH p q ts).map .int)):=by
 unfold cK fS di;simp only[EV,eW tH,eW pR,ja];rw[vA];refine gj dh (λr:Pr FV=>r=.ok (true,.rl ((qH p q ts).map .int)))
  (λdone env=>∃a,env=[some (.sh,di p q ts),some (.ow,.rl ((kc p q done).map .int)),a])
  ⟨none,rfl⟩ ?_ ?_
 ·rintro pre t post env hx ⟨a,rfl⟩
  refine⟨[some (.sh,di p q ts),some (.ow,.rl ((kc p q (pre++[t])).map .int)),some (.sh,dh t)],?_,_,rfl⟩;have hpl:pre.length<14:=by have:=congrArg length hx;rw[aaj,aaE]at this;omega
  have z:((kc p q pre).map Val.int).length+2<=sizeLine:=by rw[aae,qf];unfold sizeLine;omega
  have ea:(kc p q (pre++[t])).map Val.int=(kc p q pre).map Val.int++[.int t.2.1,.int t.2.2]:=by unfold kc;simp
  simp only[EV,aV,Pj,z,ea]
 ·rintro env ⟨a,rfl⟩
  have hl:(kc p q ts).length<64:=by rw[qf];omega
  simp only[EV,ints_map,hl];rfl
end K33
end
section
open PySem L2 Hv
namespace K33
def oH(e:Int×Int):Val:=.tup [.int e.1,.int e.2]
theorem K2{i j:Nat}:cF (.tup [i,j]) (oH e) env=some ((env.set i (some (.sh,.int e.1))).set j (some (.sh,.int e.2))):=rfl
theorem Dv(ps:List Int)(hn:ps.Nodup)(hl:ps.length<64)(es:List (Int×Int))(he:∀e∈es,e.1∈ps/\e.2∈ps):∃f φ,fD [.rl (ps.map .int),.rl (es.map oH)]=.ok (f,jW ps λx=>.int (φ x))/\mL ps es φ:=by
 unfold fD fQ;simp only[EV,ja];rw[vA];have hz:∀pre:List Int,pre.length<=ps.length->(pre.map (Sum.inl:Int->Key)).length<sizeLine:=λpre h=>by rw[aae];unfold sizeLine;omega
 refine gj Val.int (λr:Pr FV=>∃f φ,r=.ok (f,jW ps λx=>.int (φ x))/\mL ps es φ)
  (λdone env=>∃a,env=[some (.sh,.rl (ps.map .int)),some (.sh,.rl (es.map oH)),some (.ow,jW done λx=>.int x),a,none,none,none,none])
  ⟨none,rfl⟩ ?_ ?_
 ·rintro pre x post env hx ⟨a,rfl⟩
  have Ws:x∉pre:=by rw[hx,aaH]at hn;exact λh=>hn.2.2 x h x (by simp) rfl
  refine⟨[some (.sh,.rl (ps.map .int)),some (.sh,.rl (es.map oH)),some (.ow,jW (pre++[x]) λx=>.int x),some (.sh,.int x),none,none,none,none],?_,_,rfl⟩;simp only[EV,aV,BS,hz pre (by rw[hx];simp),xm Ws];rw[iB (g':=λx=>Val.int x)];intro y _;unfold uz
  split
  ·rename_i e;rw[e]
  ·rfl
 ·rintro env ⟨a,rfl⟩
  simp only[EV,ja];rw[vA];refine gj oH (λr:Pr FV=>∃f φ,r=.ok (f,jW ps λx=>.int (φ x))/\mL ps es φ)
   (λdone env=>∃(φ:Int->Int) (a b c d e:Option (Mk×Val)),env=[some (.sh,.rl (ps.map .int)),some (.sh,.rl (es.map oH)),some (.ow,jW ps λx=>.int (φ x)),a,b,c,d,e]/\mL ps done φ)
   ⟨id,_,_,_,_,_,rfl,mL.start ps⟩ ?_ ?_
  ·rintro pre e post env hx ⟨φ,a,b,c,d,f,rfl,TN⟩
   obtain⟨h1,h2⟩:=he e (by rw[hx];simp);simp only[EV,K2,pT h1,pT h2,ja];have hk:∃kept gone:Int,(if φ e.2 < φ e.1 then φ e.2 else φ e.1)=kept/\(if φ e.2 > φ e.1 then φ e.2 else φ e.1)=gone/\((kept = φ e.1/\gone = φ e.2)\/(kept = φ e.2/\gone = φ e.1)):=by
    refine⟨_,_,rfl,rfl,?_⟩
    split<;>split<;>omega
   obtain⟨kept,gone,ek,eg,hk⟩:=hk;rw[ek,eg];refine gj Val.int (λr:Pr DJ=>∃env',r=.ok (.nx env')/\∃(φ:Int->Int) (a b c d f:Option (Mk×Val)),env'=[some (.sh,.rl (ps.map .int)),some (.sh,.rl (es.map oH)),some (.ow,jW ps λx=>.int (φ x)),a,b,c,d,f]/\mL ps (pre++[e]) φ)
    (λdone env=>∃a,env=[some (.sh,.rl (ps.map .int)),some (.sh,.rl (es.map oH)),some (.ow,jW ps λx=>.int (if x∈done /\ φ x=gone then kept else φ x)),a,some (.sh,.int e.1),some (.sh,.int e.2),some (.sh,.int kept),some (.sh,.int gone)])
    ⟨a,by simp⟩ ?_ ?_
   ·rintro done x post env hy ⟨a,rfl⟩
    have Ws:x∉done:=by rw[hy,aaH]at hn;exact λh=>hn.2.2 x h x (by simp) rfl
    have hxs:x∈ps:=by rw[hy];simp
    refine⟨_,?_,some (.sh,.int x),rfl⟩;simp only[EV,aV,pT hxs,BS,hz ps (Nat.le_refl _),Kz hxs,Ws,false_and,if_false]
    by_cases hg:φ x=gone
    ·simp only[hg,↓reduceIte]
     rw[iB];intro y _;unfold uz
     by_cases e:y=x
     ·subst e;simp[hg]
     ·simp[e]
    ·simp only[hg,↓reduceIte]
     rw[iB];intro y _
     by_cases e:y=x
     ·subst e;simp[hg]
     ·simp[e]
   ·rintro env ⟨a,rfl⟩;refine⟨_,rfl,(λx=>if φ x=gone then kept else φ x),a,some (.sh,.int e.1),some (.sh,.int e.2),some (.sh,.int kept),some (.sh,.int gone),?_,TN.step h1 h2 kept gone hk⟩;rw[iB];intro y hy;simp[hy]
  ·rintro env ⟨φ,a,b,c,d,e,rfl,TN⟩;simp only[EV,ay];exact⟨_,φ,rfl,TN⟩
end K33
end
section
open PySem L2 Hv
namespace K33
theorem order_eq{p q:Int}{us:List T3}(hl:us.length<=16):dS [.tup [.int p,.int q],.rl (us.map dh)]=.ok (true,di (if q<p then q else p) (if q>p then q else p) (fY (us.map turnT))):=by
 unfold dS cS;have z0:0<=sizeLine:=by decide
 have z2:2<=sizeLine:=by decide
 have z3:3<=sizeLine:=by decide
 simp only[EV,ja];rw[vA];refine gj dh (λr:Pr FV=>r=.ok (true,di (if q<p then q else p) (if q>p then q else p) (fY (us.map turnT))))
  (λdone env=>∃a b c,env=[some (.sh,.tup [.int p,.int q]),some (.sh,.rl (us.map dh)),some (.ow,.rl ((done.map turnT).map dh)),a,b,c])
  ⟨none,none,none,rfl⟩ ?_ ?_
 ·rintro pre t post env hx ⟨a,b,c,rfl⟩
  have hpl:pre.length<16:=by have:=congrArg length hx;rw[aaj,aaE]at this;omega
  have z:((pre.map turnT).map dh).length<sizeLine:=by rw[aae,aae];unfold sizeLine;omega
  refine⟨[some (.sh,.tup [.int p,.int q]),some (.sh,.rl (us.map dh)),some (.ow,.rl (((pre++[t]).map turnT).map dh)),some (.sh,.int t.1),some (.sh,.int t.2.1),some (.sh,.int t.2.2)],?_,_,_,_,rfl⟩;have ea:((pre++[t]).map turnT).map dh=(pre.map turnT).map dh++[dh (turnT t)]:=by simp
  simp only[EV,KG,z3,z,ea];rfl
 ·rintro env ⟨a,b,c,rfl⟩;simp only[EV,eW tH,eW pR,z2,tN (show (us.map turnT).length<64 by rw[length_map];omega)];rfl
theorem Dw{p q:Int}(hl:us.length<=16):eG [di p q us]=.ok (true,di (if q<p then q else p) (if q>p then q else p) (fY (us.map turnT))):=by
 have e:=order_eq (p:=p) (q:=q) hl;unfold eG iL;unfold di at e |-;simp only[EV,jK,eW tH,eW pR,e]
end K33
end
section
open PySem L2 Hv
namespace K33
def nameV(t:T3):Val:=.int t.1
theorem K3(h:t.2.1<=t.2.2):turnT t=t:=by
 obtain⟨a,b,c⟩:=t;unfold turnT;dsimp only at h |-;rw[Prod.mk.injEq,Prod.mk.injEq];refine⟨rfl,?_,?_⟩<;>split<;>omega
theorem K4:∀{l:List T3},(∀y∈l,x.1<y.1)->tM x l=x::l
 |[],_=>rfl
 | y::r,h=>by
  rw[tM];have lx:HT.lexLt (l3 y) (l3 x)=decide (y.1<x.1):=by show HT.lexLt (y.1::_) (x.1::_)=_;have:=h y aag;rw[HT.f6,aam (by omega)]
  have:=h y aag;rw[lx,aam (by simp;omega)]
theorem zK:∀{l:List T3},KD l->fY l=l
 |[],_=>rfl
 | x::r,h=>by
  unfold KD at h;rw[aaR]at h;rw[fY,zK h.2,K4 h.1]
theorem PM{p q:Int}(ok:aU p q ts):eG [di p q ts]=.ok (true,di p q ts):=by
 have e:=Dw (p:=p) (q:=q) (us:=ts) (aaN ok.len (by decide));have em:ts.map turnT=ts:=by rw[map_congr_left λt ht=>K3 (ok.ends t ht)];exact map_id _
 have ep:(if q<p then q else p)=p:=by have:=ok.ord;split<;>omega
 have eq:(if q>p then q else p)=q:=by have:=ok.ord;split<;>omega
 rw[em,zK ok.up,ep,eq]at e;exact e
theorem Hy:∀ts:List T3,cM Iv (ts.map dh)=some ts
 |[]=>rfl
 |t::r=>by rw[aaq,cM,show Iv (dh t)=some t from rfl,bind_some,Hy r];rfl
def ly(c:Nat)(p q:Int)(ts:List T3):Val:=.ob c ["net","places","ends"] [di p q ts,.rl ((qH p q ts).map .int),.dc ((bU p q ts).map (·.1)) ((bU p q ts).map (·.2))]
def jb(c:Nat)(p q:Int)(ts:List T3)(w:Int):Val:=.ob c ["net","places","ends","whole"] [di p q ts,.rl ((qH p q ts).map .int),.dc ((bU p q ts).map (·.1)) ((bU p q ts).map (·.2)),.int w]
theorem zL{c jo jp:Nat}{p q:Int}(h1:Ψ jo=eG)(h2:Ψ jp=cK)(ok:aU p q ts):mO Ψ c jo jp [di p q ts]=.ok (true,ly c p q ts):=by
 have e1:=PM ok;have e2:=places_eq (p:=p) (q:=q) ok.len;unfold mO;dsimp only;rw[h1,e1];unfold di at e2 |-;dsimp only;rw[Hy,bB,ay,h2];unfold pg;rw[aak (decide_eq_true (by have:=ok.len;omega)),e2];rfl
def nms(ts:List T3):List Int:=-1::ts.map (·.1)
theorem lz(h:a.length+b.length<=sizeLine):dZ .add (.rl a) (.rl b)=.ok (bD (a++b),.rl (a++b)):=by
 show pg _ _=_;unfold pg;rw[aak (decide_eq_true h)]
theorem t9{c:Nat}{p q:Int}{ts:List T3}{m:Str}{js:List (Nat×Nat)}{j:Nat}(hj:js.lookup c=some j)(h:m ≠ "net" /\ m ≠ "places" /\ m ≠ "ends" /\ m ≠ "whole"):nV [] (ly c p q ts) m js=some j:=by
 unfold ly nV;dsimp only;have e:∀vs:List Val,vs.length=3->((["net","places","ends"]:List Str).zip vs).lookup m=none:=λvs hv=>by
  match vs,hv with
  |[a,b,c],_=>rw[zip_cons_cons,aaV,beq_false_of_ne h.1,zip_cons_cons,aaV,beq_false_of_ne h.2.1,zip_cons_cons,aaV,beq_false_of_ne h.2.2.1];rfl
 rw[e _ rfl];exact hj
theorem oJ{c:Nat}{p q w:Int}{ts:List T3}{m:Str}{js:List (Nat×Nat)}{j:Nat}(hj:js.lookup c=some j)(h:m ≠ "net" /\ m ≠ "places" /\ m ≠ "ends" /\ m ≠ "whole"):nV [] (jb c p q ts w) m js=some j:=by
 unfold jb nV;dsimp only;have e:∀vs:List Val,vs.length=4->((["net","places","ends","whole"]:List Str).zip vs).lookup m=none:=λvs hv=>by
  match vs,hv with
  |[a,b,c,d],_=>rw[zip_cons_cons,aaV,beq_false_of_ne h.1,zip_cons_cons,aaV,beq_false_of_ne h.2.1,zip_cons_cons,aaV,beq_false_of_ne h.2.2.1,zip_cons_cons,aaV,beq_false_of_ne h.2.2.2];rfl
 rw[e _ rfl];exact hj
theorem Dy{c:Nat}(hc:c<2){p q w:Int}:jd 2 [] (jb c p q ts w) "whole" = some (.int w):=by
 unfold jb jd;dsimp only;rw[aak hc];rfl
theorem zM(l:List Int):bD (l.map Val.int)=true:=aO l
theorem cY{p q:Int}(ok:aU p q ts):(nms ts).Nodup:=by
 unfold nms;rw[aaI];refine⟨λh=>?_,?_⟩
 ·obtain⟨t,ht,e⟩:=aaW.mp h;have:=ok.names t ht;omega
 ·have:=ok.up;unfold KD at this;rw[List.Nodup,pairwise_map];exact this.imp λh=>by omega
theorem tyi(t:Int):iS (.isin "int") [.int t]=.ok (true,.bl true):=pS (t:="int") rfl (by decide)
theorem Wt(t:Int):iS (.isin "bool") [.int t]=.ok (true,.bl false):=AH (t:="int") rfl (by decide)
theorem K5(l:List Int):cop [] .ne (.rl (l.map .int)) (.rl (l.map .int))=some false:=by
 refine ne_self (FW Val.int PyData.int l λ_ _=>rfl) ?_;rw[PyData.canLay0];exact tK _ _ λt _=>by rw[PyData.canLay0]
def gU(p q:Int)(ts:List T3)(x:Int):Int×Int:=match ts.find? (λt=>decide (t.1=x)) with
 |some t=>(t.2.1,t.2.2)
 |none=>(p,q)
theorem Hz:∀{ts:List T3},(ts.map (·.1)).Nodup->t∈ts->ts.find? (λu=>decide (u.1=t.1))=some t
 | u::r,hn,ht=>by
  rw[aaq,aaI]at hn;rw[find?_cons]
  by_cases e:u.1=t.1
  ·rw[decide_eq_true e]
   rcases aaw.mp ht with rfl|ht
   ·rfl
   ·exact absurd (e▸mem_map_of_mem (f:=(·.1)) ht) hn.1
  ·rw[decide_eq_false e]
   rcases aaw.mp ht with rfl|ht
   ·exact absurd rfl e
   ·exact Hz hn.2 ht
theorem oK{p q:Int}(ok:aU p q ts):(ts.map (·.1)).Nodup:=(aaI.mp (cY ok)).2
theorem AQ{p q:Int}(ok:aU p q ts)(ht:t∈ts):gU p q ts t.1=(t.2.1,t.2.2):=by
 unfold gU;rw[Hz (oK ok) ht]
theorem HD{p q:Int}(ok:aU p q ts):gU p q ts (-1)=(p,q):=by
 unfold gU;rw[List.find?_eq_none.mpr λt ht=>by have:=ok.names t ht;simp;omega]
theorem rq{p q:Int}(ok:aU p q ts){x:Int}(hx:x∈nms ts):(gU p q ts x).1∈qH p q ts/\(gU p q ts x).2∈qH p q ts:=by
 unfold nms at hx
 rcases aaw.mp hx with rfl|hx
 ·rw[HD ok];exact⟨oG.mpr (.inl rfl),oG.mpr (.inr (.inl rfl))⟩
 ·obtain⟨t,ht,rfl⟩:=aaW.mp hx;rw[AQ ok ht];exact⟨oG.mpr (.inr (.inr ⟨t,ht,.inl rfl⟩)),oG.mpr (.inr (.inr ⟨t,ht,.inr rfl⟩))⟩
theorem B3(g:Int->Val):∀(us:List T3) (ks:List Int),(∀u∈us,u.1∉ks)->(us.map (·.1)).Nodup->(∀u∈us,g u.1=.tup [.int u.2.1,.int u.2.2]) ->
  us.foldl jE (ks.map λx=>((Sum.inl x:Key),g x))=(ks++us.map (·.1)).map λx=>((Sum.inl x:Key),g x)
 |[],ks,_,_,_=>by simp
 | u::r,ks,h1,h2,h3=>by
  rw[aaq,aaI]at h2;have e:jE (ks.map λx=>((Sum.inl x:Key),g x)) u=(ks++[u.1]).map λx=>((Sum.inl x:Key),g x):=by unfold jE iR;rw[AL,aam (by simpa using h1 u aag),aaO,aaq,map_nil,h3 u aag]
  rw[List.foldl_cons,e,B3 g r (ks++[u.1]) (λv hv z=>?_) h2.2 λv hv=>h3 v (aac _ hv)]
  ·simp
  ·rcases aas.mp z with z|z
   ·exact h1 v (aac _ hv) z
   ·rw[aap]at z;exact h2.1 (z▸mem_map_of_mem (f:=(·.1)) hv)
def uF(p q:Int)(ts:List T3)(x:Int):Val:=oH (gU p q ts x)
def PN(p q:Int)(ts:List T3):Val:=jW (nms ts) (uF p q ts)
theorem B4{p q:Int}(ok:aU p q ts):Val.dc ((bU p q ts).map (·.1)) ((bU p q ts).map (·.2))=PN p q ts:=by
 have e:bU p q ts=(nms ts).map λx=>((Sum.inl x:Key),uF p q ts x):=by
  have h:=B3 (uF p q ts) ts [-1] (λu hu z=>by
   rw[aap]at z;have:=ok.names u hu;omega) (oK ok) λu hu=>by unfold uF;rw[AQ ok hu];rfl
  unfold bU nms;rw[aaq,map_nil]at h;have e1:uF p q ts (-1)=.tup [.int p,.int q]:=by unfold uF;rw[HD ok];rfl
  rw[e1]at h;exact h
 rw[e,aa2,aa2];rfl
structure K6 (o:Val) (p q:Int) (ts:List T3):Prop where
 net:jd 2 [] o "net" = some (di p q ts)
 places:jd 2 [] o "places" = some (.rl ((qH p q ts).map .int))
 ends:jd 2 [] o "ends" = some (PN p q ts)
theorem xD{c:Nat}(hc:c<2){p q:Int}(ok:aU p q ts):K6 (ly c p q ts) p q ts:=by
 refine⟨?_,?_,?_⟩
 ·unfold ly jd;dsimp only;rw[aak hc];rfl
 ·unfold ly jd;dsimp only;rw[aak hc];rfl
 ·rw[<-B4 ok];unfold ly jd;dsimp only;rw[aak hc];rfl
theorem B5{c:Nat}(hc:c<2){p q w:Int}(ok:aU p q ts):K6 (jb c p q ts w) p q ts:=by
 refine⟨?_,?_,?_⟩
 ·unfold jb jd;dsimp only;rw[aak hc];rfl
 ·unfold jb jd;dsimp only;rw[aak hc];rfl
 ·rw[<-B4 ok];unfold jb jd;dsimp only;rw[aak hc];rfl
theorem HE{p q:Int}(h:ts.length<=14):iM [di p q ts]=.ok (true,.rl (ts.map nameV)):=by
 unfold iM gM di;have hc:ts.length<=100000:=by omega
 simp only[EV,eW pR,ja,iY,length_map,hc];rw[fy dh nameV ts (λt ht=>by
  have i0:mY [] (dh t) (.int 0)=some (.int t.1):=rfl;simp only[EV,aV,i0,nameV])]
 simp only[EV,ay]
theorem B6{p q:Int}(ro:K6 o p q ts)(h:ts.length<=14):dN [o]=.ok (true,.rl ((nms ts).map .int)):=by
 have e1:=HE (p:=p) (q:=q) h;unfold dN fR;have z1:1<=sizeLine:=by decide
 have z:([.int (-1)]:List Val).length+(ts.map nameV).length<=sizeLine:=by rw[aae];simp;unfold sizeLine;omega
 simp only[EV,ro.net,kj,e1,z1,lz z];have em:[Val.int (-1)]++ts.map nameV=(nms ts).map .int:=by unfold nms;rw[aaq,aa2];rfl
 have en:bD (ts.map nameV)=true:=by rw[show ts.map nameV=(ts.map (·.1)).map Val.int by rw[aa2];rfl];exact zM _
 rw[show Val.int (-1)::ts.map nameV=(nms ts).map .int from em,en]
theorem HF(p q:Int)(ts:List T3)(x:Int):jx (uF p q ts x)=true:=rfl
theorem K7{p q:Int}{x:Int}(h:x∈nms ts):mY [] (PN p q ts) (.int x)=some (uF p q ts x):=pT h
theorem lX{p q:Int}(ok:aU p q ts):(nms ts).length<=15:=by
 have:=ok.len;unfold nms;simp;omega
def fc(p q:Int)(ts:List T3)(P:List Int):Nat:=tr (qH p q ts) (P.map (gU p q ts))
theorem HG{p q:Int}(ok:aU p q ts){P:List Int}(hP:∀x∈P,x∈nms ts):Qt (qH p q ts) (P.map (gU p q ts)):=λe he=>by
 obtain⟨x,hx,rfl⟩:=aaW.mp he;exact rq ok (hP x hx)
theorem ua{p q:Int}(ok:aU p q ts)(ro:K6 o p q ts){P:List Int}(hP:∀x∈P,x∈nms ts)(hl:P.length<=15):aY [o,.rl (P.map .int)]=.ok (true,.int (fc p q ts P)):=by
 have hpl:=K1 (p:=p) (q:=q) ok.len;have X5:(qH p q ts).Nodup:=jX _;obtain⟨f,φ,ef,TN⟩:=Dv (qH p q ts) X5 hpl (P.map (gU p q ts)) (λe he=>by
  obtain⟨x,hx,rfl⟩:=aaW.mp he;exact rq ok (hP x hx))
 have et:fc p q ts P=rk φ (qH p q ts):=qA TN X5;rw[et];rw[aa2]at ef;unfold aY cu;have hc:P.length<=100000:=by omega
 have hc2:(qH p q ts).length<=100000:=by omega
 simp only[EV,ro.places,ro.ends,ja,iY,length_map,hc];rw[fy Val.int (uF p q ts) P (λx hx=>by
  simp only[EV,aV,ro.ends,K7 (hP x hx),HF])]
 have ef':fD [.rl ((qH p q ts).map .int),.rl (P.map (uF p q ts))]=.ok (f,jW (qH p q ts) λx=>.int (φ x)):=ef;simp only[EV,ig,ef',ro.places,ja,iY,length_map,hc2];rw[jY Val.int Val.int (λx=>!decide (φ x=x)) (qH p q ts) (λx hx=>by
  have hi:=pT (g:=λx=>Val.int (φ x)) hx;simp only[EV,aV,hi]
  by_cases c:φ x=x
  ·simp[c]
  ·simp[c])]
 simp only[EV,length_map];rfl
theorem HH{c jo jp jt jr:Nat}(hc:c<2){p q:Int}(h1:Ψ' jo=eG)(h2:Ψ' jp=cK)(h3:Ψ jt=dN)(h4:Ψ jr=aY)(ok:aU p q ts) :
  vD Ψ' Ψ c jo jp jt jr [di p q ts]=.ok (true,jb c p q ts (fc p q ts (nms ts))):=by
 have e3:=B6 (xD hc ok) ok.len;have e1:=ua ok (xD hc ok) (P:=nms ts) (λ_ h=>h) (lX ok);rw[<-h3]at e3;rw[<-h4]at e1;exact Gf (zL h1 h2 ok) e3 e1
def others(ts:List T3)(P:List Int):List Int:=(nms ts).filter λx=>!decide (x∈P)
theorem lC{P:List Int}:∀x∈others ts P,x∈nms ts:=λx hx=>(aar.mp hx).1
theorem K8{p q:Int}(ok:aU p q ts){P:List Int}:(others ts P).length<=15:=aaN (length_filter_le _ _) (lX ok)
theorem HJ{c:Nat}(hc:c<2)(jt:([(0,9),(1,9)]:List (Nat×Nat)).lookup c=some 9)(jr:([(0,7),(1,7)]:List (Nat×Nat)).lookup c=some 7){p q w:Int}(ok:aU p q ts){P:List Int}:cX [jb c p q ts w,.rl (P.map .int)]=.ok (true,.int ((P.length:Int)-w+fc p q ts (others ts P))):=by
 have e1:=ua ok (B5 (w:=w) hc ok) (P:=others ts P) lC (K8 ok);have e3:=B6 (B5 (w:=w) hc ok) ok.len;have hl:(nms ts).length<=100000:=by have:=lX ok;omega
 have m1:=oJ (p:=p) (q:=q) (w:=w) (ts:=ts) (m:="ties") jt (by decide);have m2:=oJ (p:=p) (q:=q) (w:=w) (ts:=ts) (m:="tree_rank") jr (by decide);unfold cX dM;simp only[EV,m1,jm,e3,ja,iY,length_map,hl];rw[jY Val.int Val.int (λx=>!decide (x∈P)) (nms ts) (λx hx=>by
  simp only[EV,aV,xq]
  by_cases c:x∈P
  ·simp[c]
  ·simp[c])]
 have Uu:aY [jb c p q ts w,.rl (((nms ts).filter λx=>!decide (x∈P)).map .int)]=.ok (true,.int (fc p q ts (others ts P))):=e1;simp only[EV,m2,gO,Uu,Dy hc,length_map]
end K33
end
section
open PySem L2 Hv
namespace K33
theorem HK{p q:Int}{P Q:List Int}{x:Int}(h:∀y,y∈Q↔y∈P\/y=x):∀e,e∈Q.map (gU p q ts)↔e∈P.map (gU p q ts)\/e=((gU p q ts x).1,(gU p q ts x).2):=λe=>by
 constructor
 ·intro he
  obtain⟨y,hy,rfl⟩:=aaW.mp he
  rcases(h y).mp hy with hy|rfl
  ·exact .inl (mem_map_of_mem hy)
  ·exact .inr rfl
 ·rintro(he|rfl)
  ·obtain⟨y,hy,rfl⟩:=aaW.mp he;exact mem_map_of_mem ((h y).mpr (.inl hy))
  ·exact mem_map_of_mem (f:=gU p q ts) ((h x).mpr (.inr rfl))
section
variable {p q:Int} {ts:List T3}
def Wy(p q:Int)(ts:List T3)(P:List Int)(x:Int):Prop:=Way (P.map (gU p q ts)) (gU p q ts x).1 (gU p q ts x).2
theorem Wy.mono{P Q:List Int}(h:∀y∈P,y∈Q){x:Int}(w:Wy p q ts P x):Wy p q ts Q x:=by
 unfold Wy at w |-;refine Way.mono (λe he=>?_) w;obtain⟨y,hy,rfl⟩:=aaW.mp he;exact mem_map_of_mem (h y hy)
open Classical in
theorem LY(ok:aU p q ts){P Q:List Int}{x:Int}(hP:∀y∈P,y∈nms ts)(hx:x∈nms ts)(h:∀y,y∈Q↔y∈P\/y=x):fc p q ts Q=fc p q ts P+if Wy p q ts P x then 0 else 1:=by
 obtain⟨h1,h2⟩:=rq ok hx;exact KL (ps:=qH p q ts) (jX _) (HG ok hP) h1 h2 (HK (p:=p) (q:=q) (ts:=ts) h)
theorem lD(ok:aU p q ts){P Q:List Int}{x:Int}(hP:∀y∈P,y∈nms ts)(hx:x∈nms ts)(h:∀y,y∈Q↔y∈P\/y=x):fc p q ts P<=fc p q ts Q/\fc p q ts Q<=fc p q ts P+1:=by
 rw[LY ok hP hx h]
 split<;>omega
theorem vU(ok:aU p q ts){P Q:List Int}{x:Int}(hP:∀y∈P,y∈nms ts)(hx:x∈nms ts)(h:∀y,y∈Q↔y∈P\/y=x):Wy p q ts P x↔fc p q ts Q=fc p q ts P:=by
 rw[LY ok hP hx h]
 split
 ·exact⟨λ_=>rfl,λ_=>‹_›⟩
 ·exact⟨λw=>absurd w ‹_›,λe=>by omega⟩
theorem lE(ok:aU p q ts){P Q:List Int}(hP:∀y∈P,y∈nms ts)(h:∀y,y∈P↔y∈Q):fc p q ts P=fc p q ts Q:=by
 refine ze (jX _) (HG ok hP) λe=>⟨λhe=>?_,λhe=>?_⟩
 ·obtain⟨y,hy,rfl⟩:=aaW.mp he;exact mem_map_of_mem ((h y).mp hy)
 ·obtain⟨y,hy,rfl⟩:=aaW.mp he;exact mem_map_of_mem ((h y).mpr hy)
theorem aN{R:List Int}{x:Int}(y:Int):y∈R++[x]↔y∈R\/y=x:=by simp
theorem xE{R:List Int}{x:Int}(hR:∀y∈R,y∈nms ts)(hx:x∈nms ts):∀y∈R++[x],y∈nms ts:=λy hy=>by
 rcases(aN y).mp hy with h|rfl
 ·exact hR y h
 ·exact hx
theorem B7(ok:aU p q ts):∀(xs R:List Int),(∀y∈R,y∈nms ts)->(∀y∈xs,y∈nms ts)->fc p q ts R<=fc p q ts (R++xs)/\fc p q ts (R++xs)<=fc p q ts R+xs.length
 |[],R,_,_=>by rw[aaM];exact⟨aao _,aao _⟩
 | x::xs,R,hR,hx=>by
  have h1:=lD ok (Q:=R++[x]) hR (hx x aag) aN;have h2:=B7 ok xs (R++[x]) (xE hR (hx x aag)) λy hy=>hx y (aac _ hy);rw[aaS]at h2;rw[aaE];exact⟨aaN h1.1 h2.1,by have:=h2.2;have:=h1.2;show fc p q ts (R++([x]++xs))<=_;omega⟩
theorem B8(ok:aU p q ts):∀(xs R:List Int),(∀y∈R,y∈nms ts)->(∀y∈xs,y∈nms ts)->(∀y∈xs,Wy p q ts R y)->fc p q ts (R++xs)=fc p q ts R
 |[],R,_,_,_=>by rw[aaM]
 | x::xs,R,hR,hx,hw=>by
  have h1:=(vU ok (Q:=R++[x]) hR (hx x aag) aN).mp (hw x aag);have h2:=B8 ok xs (R++[x]) (xE hR (hx x aag)) (λy hy=>hx y (aac _ hy)) λy hy=>(hw y (aac _ hy)).mono λz hz=>aat _ hz;rw[aaS,h1]at h2;exact h2
theorem zN(ok:aU p q ts):∀(xs R:List Int),(∀y∈R,y∈nms ts)->(∀y∈xs,y∈nms ts)->(∀pre x post,xs=pre++x::post->¬ Wy p q ts (R++pre) x)->fc p q ts (R++xs)=fc p q ts R+xs.length
 |[],R,_,_,_=>by rw[aaM];rfl
 | x::xs,R,hR,hx,hw=>by
  have n1:¬ Wy p q ts R x:=by have:=hw [] x xs rfl;rwa [aaM]at this
  have s1:=lD ok (Q:=R++[x]) hR (hx x aag) aN;have h1:¬ fc p q ts (R++[x])=fc p q ts R:=λe=>n1 ((vU ok (Q:=R++[x]) hR (hx x aag) aN).mpr e);have h2:=zN ok xs (R++[x]) (xE hR (hx x aag)) (λy hy=>hx y (aac _ hy)) λpre y post e=>by
   have:=hw (x::pre) y post (by rw[e];rfl);rw[aaS];exact this
  rw[aaS]at h2;rw[aaE];show fc p q ts (R++([x]++xs))=_;omega
theorem B9:fc p q ts []=0:=by
 unfold fc;rw[map_nil,qA (ps:=qH p q ts) (mL.start _) (jX _)];unfold rk;simp
theorem Ca(ok:aU p q ts){P Q:List Int}(h:∀y∈P,y∈Q)(hQ:∀y∈Q,y∈nms ts):fc p q ts P<=fc p q ts Q:=by
 have hP:∀y∈P,y∈nms ts:=λy hy=>hQ y (h y hy);have h1:=(B7 ok Q P hP hQ).1;rwa [lE ok (P:=P++Q) (Q:=Q) (λy hy=>by rcases aas.mp hy with h|h;exact hP y h;exact hQ y h) λy=>⟨λhy=>by rcases aas.mp hy with z|z;exact h y z;exact z,λhy=>aaD _ hy⟩]at h1
theorem j3{P:List Int}{y:Int}:y∈others ts P↔y∈nms ts/\y∉P:=by
 unfold others;rw[aar];simp
end
end K33
end
section
open PySem L2 Hv
namespace K33
structure mz (N:List Int) (r:List Int->Int):Prop where
 nil:r []=0
 same:∀P Q:List Int,P.Nodup->Q.Nodup->(∀y∈P,y∈N)->(∀y,y∈P↔y∈Q)->r P=r Q
 step:∀(P:List Int) (x:Int),P.Nodup->(∀y∈P,y∈N)->x∈N->x∉P->r (P++[x])=r P\/r (P++[x])=r P+1
 loc:∀(P Q:List Int) (x:Int),P.Nodup->Q.Nodup->(∀y∈Q,y∈N)->(∀y∈P,y∈Q)->x∈N->x∉Q->r (P++[x])=r P->r (Q++[x])=r Q
theorem e9{P:List Int}{x:Int}(hn:P.Nodup)(hx:x∉P):(P++[x]).Nodup:=by
 rw[aaH];exact⟨hn,by simp,λa ha b hb e=>hx (by rw[aap]at hb;rw[<-hb,<-e];exact ha)⟩
theorem HL{P D:List Int}{x:Int}(h:(P++x::D).Nodup):P.Nodup/\x∉P:=by
 rw[aaH]at h;exact⟨h.1,λhx=>h.2.2 x hx x aag rfl⟩
theorem uc(P D:List Int)(x:Int):P++x::D=(P++[x])++D:=by rw[aaS];rfl
section
variable {N:List Int} {r:List Int->Int} (h:mz N r)
include h
theorem mz.app:∀(D P:List Int),(P++D).Nodup->(∀y∈P++D,y∈N)->r P<=r (P++D)/\r (P++D)<=r P+D.length
 |[],P,_,_=>by rw[aaM];exact⟨Int.le_refl _,by simp⟩
 | x::D,P,hn,hi=>by
  obtain⟨n1,n2⟩:=HL hn;have s:=h.step P x n1 (λy hy=>hi y (aat _ hy)) (hi x (aaD _ aag)) n2;rw[uc]at hn hi |-;have ih:=mz.app D (P++[x]) hn hi;rw[aaE];omega
theorem mz.bound{P:List Int}(hn:P.Nodup)(hP:∀y∈P,y∈N):0<=r P/\r P<=P.length:=by
 have:=h.app P [] hn hP;rw[h.nil,nil_append]at this;omega
theorem mz.mono{P Q:List Int}(hp:P.Nodup)(hq:Q.Nodup)(hQ:∀y∈Q,y∈N)(hs:∀y∈P,y∈Q):r P<=r Q:=by
 have nd:(P++Q.filter λy=>!decide (y∈P)).Nodup:=by rw[aaH];exact⟨hp,hq.sublist aaG,λa ha b hb e=>by subst e;have:=(aar.mp hb).2;simp[ha]at this⟩
 have mm:∀y,y∈(P++Q.filter λy=>!decide (y∈P))↔y∈Q:=λy=>by
  rw[aas,aar];constructor
  ·rintro(z|z)
   ·exact hs y z
   ·exact z.1
  ·intro z
   by_cases c:y∈P
   ·exact .inl c
   ·exact .inr ⟨z,by simpa using c⟩
 have:=(h.app _ P nd λy hy=>hQ y ((mm y).mp hy)).1;rwa [h.same _ Q nd hq (λy hy=>hQ y ((mm y).mp hy)) mm]at this
theorem mz.close:∀(E P:List Int),(P++E).Nodup->(∀y∈P++E,y∈N)->(∀x∈E,r (P++[x])=r P)->r (P++E)=r P
 |[],P,_,_,_=>by rw[aaM]
 | x::E,P,hn,hi,hE=>by
  obtain⟨n1,n2⟩:=HL hn;have hP:∀y∈P,y∈N:=λy hy=>hi y (aat _ hy);have hx:=hi x (aaD _ aag);have e1:=hE x aag;have hall:∀y∈E,y∈N/\y∉P++[x]:=λy hy=>⟨hi y (aaD _ (aac _ hy)),λz=>by
   rw[uc,aaH]at hn;exact hn.2.2 y z y hy rfl⟩
  rw[uc]at hn hi |-;rw[mz.close E (P++[x]) hn hi λy hy=>h.loc P (P++[x]) y n1 (e9 n1 n2) (λy hy=>by rcases(aN y).mp hy with q|rfl;exact hP y q;exact hx) (λz hz=>aat _ hz) (hall y hy).1 (hall y hy).2 (hE y (aac _ hy)),e1]
theorem mz.grow{P Q:List Int}(hp:P.Nodup)(hP:∀y∈P,y∈N)(hq:Q.Nodup)(hQ:∀y∈Q,y∈N)(fp:r P=P.length)(fq:r Q=Q.length)(hl:P.length<Q.length):∃x∈Q,x∉P/\r (P++[x])=P.length+1:=by
 refine byContradiction λno=>?_;have nd:(P++Q.filter λy=>!decide (y∈P)).Nodup:=by rw[aaH];exact⟨hp,hq.sublist aaG,λa ha b hb e=>by subst e;have:=(aar.mp hb).2;simp[ha]at this⟩
 have hi:∀y∈P++Q.filter (λy=>!decide (y∈P)),y∈N:=λy hy=>by
  rcases aas.mp hy with z|z
  ·exact hP y z
  ·exact hQ y (aar.mp z).1
 have e:=h.close (Q.filter λy=>!decide (y∈P)) P nd hi λx hx=>by
  obtain⟨h1,h2⟩:=aar.mp hx;have nx:x∉P:=by simpa using h2
  rcases h.step P x hp hP (hQ x h1) nx with z|z
  ·exact z
  ·exact absurd ⟨x,h1,nx,by omega⟩ no
 have m:=h.mono (P:=Q) (Q:=P++Q.filter λy=>!decide (y∈P)) hq nd hi λy hy=>by
  by_cases c:y∈P
  ·exact aat _ c
  ·exact aaD _ (aar.mpr ⟨hy,by simpa using c⟩)
 omega
end
section
variable {p q:Int} {ts:List T3}
def e8(κ:Nat)(p q:Int)(ts:List T3)(P:List Int):Int:=if κ = 0 then (P.length:Int) else if κ = 1 then (fc p q ts P:Int) else (P.length:Int)-fc p q ts (nms ts)+fc p q ts (others ts P)
theorem iP{P Q:List Int}(hp:P.Nodup)(hq:Q.Nodup)(h:∀y,y∈P↔y∈Q):P.length=Q.length :=
 Nat.le_antisymm (bO hp λx hx=>(h x).mp hx) (bO hq λx hx=>(h x).mpr hx)
theorem oM{P:List Int}{x:Int}(hx:x∈nms ts)(hn:x∉P)(y:Int):y∈others ts P↔y∈others ts (P++[x])\/y=x:=by
 rw[j3,j3,aN];constructor
 ·rintro⟨h1,h2⟩
  by_cases c:y=x
  ·exact .inr c
  ·exact .inl ⟨h1,λz=>z.elim h2 c⟩
 ·rintro(⟨h1,h2⟩|rfl)
  ·exact⟨h1,λz=>h2 (.inl z)⟩
  ·exact⟨hx,hn⟩
theorem qI(ok:aU p q ts){κ:Nat}(hk:κ < 3):mz (nms ts) (e8 κ p q ts):=by
 match κ,hk with
 |0,_=>have e:∀P,e8 0 p q ts P=(P.length:Int):=λP=>aak rfl;refine⟨by rw[e];rfl,λP Q hp hq _ h=>by rw[e,e,iP hp hq h],λP x _ _ _ _=>.inr (by rw[e,e,aaj];rfl),λP Q x _ _ _ _ _ _ z=>?_⟩;rw[e,e,aaj]at z;simp at z;omega
 |1,_=>
  have e:∀P,e8 1 p q ts P=(fc p q ts P:Int):=λP=>by unfold e8;rw[aam (by decide),aak rfl]
  refine⟨by rw[e,B9];rfl,λP Q _ _ hP h=>by rw[e,e,lE ok hP h],λP x _ hP hx _=>?_,λP Q x _ _ hQ hs hx _ z=>?_⟩
  ·have:=lD ok (Q:=P++[x]) hP hx aN;rw[e,e];omega
  ·rw[e,e]at z |-;have hP:∀y∈P,y∈nms ts:=λy hy=>hQ y (hs y hy);have w:=(vU ok (Q:=P++[x]) hP hx aN).mpr (by omega);rw[(vU ok (Q:=Q++[x]) hQ hx aN).mp (w.mono hs)]
 |2,_=>
  have e:∀P,e8 2 p q ts P=(P.length:Int)-fc p q ts (nms ts)+fc p q ts (others ts P):=λP=>by unfold e8;rw[aam (by decide),aam (by decide)]
  have l1:∀(P:List Int) (x:Int),((P++[x]).length:Int)=P.length+1:=λP x=>by simp
  refine⟨?_,λP Q hp hq hP h=>?_,λP x _ hP hx hn=>?_,λP Q x _ _ hQ hs hx hn z=>?_⟩
  ·have:others ts []=nms ts:=by unfold others;rw[List.filter_eq_self];simp
   rw[e,this,length_nil];omega
  ·rw[e,e,iP hp hq h,lE ok lC (P:=others ts P) (Q:=others ts Q) λy=>by rw[j3,j3,h]]
  ·have:=lD ok (P:=others ts (P++[x])) (Q:=others ts P) (x:=x) lC hx (oM hx hn);rw[e,e,l1];omega
  ·rw[e,e,l1]at z |-
   have hnP:x∉P:=λw=>hn (hs x w);have sQ:=lD ok (P:=others ts (Q++[x])) (Q:=others ts Q) (x:=x) lC hx (oM hx hn);have y1:=vU ok (P:=others ts (P++[x])) (Q:=others ts P) (x:=x) lC hx (oM hx hnP);have y2:=vU ok (P:=others ts (Q++[x])) (Q:=others ts Q) (x:=x) lC hx (oM hx hn);have n1:¬ Wy p q ts (others ts (P++[x])) x:=λw=>by have:=y1.mp w;omega
   have n2:¬ fc p q ts (others ts Q)=fc p q ts (others ts (Q++[x])):=λw=>n1 ((y2.mpr w).mono λy hy=>by
    rw[j3]at hy |-;exact⟨hy.1,λk=>hy.2 (by rcases(aN y).mp k with k|k;exact aat _ (hs y k);rw[k];simp)⟩)
   omega
end
end K33
end
section
open PySem L2 Hv
namespace K33
theorem oN{N:List Int}(o:mz N r){P Q:List Int}(hp:P.Nodup)(hP:∀y∈P,y∈N)(hq:Q.Nodup)(hs:∀y∈Q,y∈P)(f:r P=P.length):r Q=Q.length:=by
 have nd:(Q++P.filter λy=>!decide (y∈Q)).Nodup:=by rw[aaH];refine⟨hq,hp.sublist aaG,λa ha b hb e=>?_⟩;have:=(aar.mp hb).2;subst e;simp[ha]at this
 have mem:∀y,y∈P↔y∈Q++P.filter λy=>!decide (y∈Q):=λy=>by
  rw[aas,aar];constructor
  ·intro h
   by_cases c:y∈Q
   ·exact .inl c
   ·exact .inr ⟨h,by simp[c]⟩
  ·rintro(h|h)
   ·exact hs y h
   ·exact h.1
 have hl:=iP hp nd mem;have hN:∀y∈Q++P.filter λy=>!decide (y∈Q),y∈N:=λy hy=>hP y ((mem y).mpr hy);have h1:=(o.app (P.filter λy=>!decide (y∈Q)) Q nd hN).2;have h2:=o.mono hp nd hN λy hy=>(mem y).mp hy;have h3:=(o.bound hq λy hy=>hP y (hs y hy)).2;rw[aaj]at hl;omega
abbrev Pd:=Int->Prop
def ins(S:Pd)(x:Int):Pd:=λy=>S y\/y=x
def del(S:Pd)(x:Int):Pd:=λy=>S y/\y≠x
open Classical in
def sel(N:List Int)(S:Pd):List Int:=N.filter λx=>decide (S x)
def mC(N:List Int)(r:List Int->Int)(S:Pd):Int:=r (sel N S)
def Cl(N:List Int)(r:List Int->Int)(S:Pd)(x:Int):Prop:=mC N r (ins S x)=mC N r S
open Classical in
theorem bQ{N:List Int}{x:Int}:x∈sel N S↔x∈N/\S x:=by unfold sel;rw[aar,aaX]
theorem jL{N:List Int}(e:∀y∈N,S y↔T y):mC N r S=mC N r T:=by
 unfold mC sel;rw[filter_congr λy hy=>decide_eq_decide.mpr (e y hy)]
theorem zO{x:Int}(h:S x):ins S x=S:=funext λy=>propext ⟨λz=>z.elim id λe=>e▸h,.inl⟩
theorem xF{x:Int}(h:S x):ins (del S x) x=S:=funext λy=>propext ⟨λz=>z.elim (·.1) λe=>e▸h,λz=>by
 by_cases c:y=x
 ·exact .inr c
 ·exact .inl ⟨z,c⟩⟩
section
variable {N:List Int} {r:List Int->Int}
theorem Cl.of{x:Int}(h:S x):Cl N r S x:=by unfold Cl;rw[zO h]
variable (h:mz N r) (hN:N.Nodup)
include h hN
theorem nI(S:Pd):(sel N S).Nodup:=hN.sublist aaG
theorem gP{P:List Int}(hp:P.Nodup)(hP:∀y∈P,y∈N)(e:∀y,y∈P↔y∈N/\S y):mC N r S=r P :=
 (h.same P _ hp (nI h hN S) hP λy=>by rw[bQ,e]).symm
theorem oO{P:List Int}(hp:P.Nodup)(hP:∀y∈P,y∈N):mC N r (· ∈ P)=r P:=gP h hN hp hP λy=>⟨λz=>⟨hP y z,z⟩,λz=>z.2⟩
theorem xG{x:Int}(hx:x∈N)(hs:¬ S x):r (sel N S++[x])=mC N r (ins S x):=by
 refine(gP h hN (e9 (nI h hN S) λz=>hs (bQ.mp z).2) (λy hy=>?_) λy=>?_).symm
 ·rcases(aN y).mp hy with z|rfl
  ·exact(bQ.mp z).1
  ·exact hx
 ·rw[aN,bQ]
  constructor
  ·rintro(z|rfl)
   ·exact⟨z.1,.inl z.2⟩
   ·exact⟨hx,.inr rfl⟩
  ·rintro⟨z1,z2|z2⟩
   ·exact .inl ⟨z1,z2⟩
   ·exact .inr z2
theorem lF(S:Pd){x:Int}(hx:x∈N):mC N r (ins S x)=mC N r S\/mC N r (ins S x)=mC N r S+1:=by
 by_cases c:S x
 ·rw[zO c];exact .inl rfl
 ·rw[<-xG h hN hx c];exact h.step _ x (nI h hN S) (λy hy=>(bQ.mp hy).1) hx λz=>c (bQ.mp z).2
theorem oR(e:∀y,S y->T y):mC N r S<=mC N r T :=
 h.mono (nI h hN S) (nI h hN T) (λy hy=>(bQ.mp hy).1) λy hy=>bQ.mpr ⟨(bQ.mp hy).1,e y (bQ.mp hy).2⟩
theorem Cl.mono(e:∀y,S y->T y){x:Int}(hx:x∈N)(c:Cl N r S x):Cl N r T x:=by
 by_cases ct:T x
 ·exact .of ct
 ·have cs:¬ S x:=λz=>ct (e x z);unfold Cl at c |-;rw[<-xG h hN hx cs]at c;rw[<-xG h hN hx ct];exact h.loc _ _ x (nI h hN S) (nI h hN T) (λy hy=>(bQ.mp hy).1) (λy hy=>bQ.mpr ⟨(bQ.mp hy).1,e y (bQ.mp hy).2⟩) hx (λz=>ct (bQ.mp z).2) c
theorem Cb:∀(L:List Int),(∀y∈L,y∈N/\Cl N r S y)->mC N r (λy=>S y\/y∈L)=mC N r S
 |[],_=>jL λy _=>by simp
 | a::L,hL=>by
  have ih:=Cb L λy hy=>hL y (aac _ hy);have ha:=hL a aag;have:=Cl.mono h hN (T:=λy=>S y\/y∈L) (λy z=>.inl z) ha.1 ha.2;unfold Cl at this;rw[<-ih,<-this];refine jL λy _=>?_;unfold ins;rw[aaw];exact⟨λz=>z.elim (λz=>.inl (.inl z)) λz=>z.elim .inr λz=>.inl (.inr z),λz=>z.elim (λz=>z.elim .inl λz=>.inr (.inr z)) λz=>.inr (.inl z)⟩
theorem zP{S T:Pd}(e:∀y∈N,T y->Cl N r S y):mC N r (λy=>S y\/T y)=mC N r S:=by
 rw[<-Cb h hN (S:=S) (sel N T) λy hy=>⟨(bQ.mp hy).1,e y (bQ.mp hy).1 (bQ.mp hy).2⟩];exact jL λy hy=>by rw[bQ];exact⟨λz=>z.elim .inl λz=>.inr ⟨hy,z⟩,λz=>z.elim .inl λz=>.inr z.2⟩
theorem Cl.trans(e:∀y∈N,T y->Cl N r S y){x:Int}(hx:x∈N)(c:Cl N r T x):Cl N r S x:=by
 have c1:=Cl.mono h hN (T:=λy=>S y\/T y) (λy z=>.inr z) hx c;have e1:=zP h hN e;have m1:=oR h hN (S:=S) (T:=ins S x) λy z=>.inl z;have m2:=oR h hN (S:=ins S x) (T:=ins (λy=>S y\/T y) x) λy z=>z.elim (λz=>.inl (.inl z)) .inr;unfold Cl at c1 |-;omega
theorem Cl.TQ{x y:Int}(hx:x∈N)(hy:y∈N)(n:¬ Cl N r S x)(c:Cl N r (ins S y) x):Cl N r (ins S x) y:=by
 have e:mC N r (ins (ins S x) y)=mC N r (ins (ins S y) x):=jL λz _=>by unfold ins;exact⟨λq=>q.elim (λq=>q.elim (λq=>.inl (.inl q)) .inr) λq=>.inl (.inr q),λq=>q.elim (λq=>q.elim (λq=>.inl (.inl q)) .inr) λq=>.inl (.inr q)⟩
 have s1:=lF h hN S hx;have s2:=lF h hN S hy;have m:=oR h hN (S:=ins S x) (T:=ins (ins S x) y) λy z=>.inl z;unfold Cl at n c |-;omega
theorem HM{P:List Int}(hp:P.Nodup)(hP:∀y∈P,y∈N)(f:r P=P.length){y:Int}(hy:y∈P):¬ Cl N r (del (· ∈ P) y) y:=λc=>by
 have e:mC N r (del (· ∈ P) y)=r (P.filter λz=>decide (z≠y)):=gP h hN (hp.sublist aaG) (λz hz=>hP z (aar.mp hz).1) λz=>by
  rw[aar,aaX];exact⟨λq=>⟨hP z q.1,q⟩,λq=>q.2⟩
 unfold Cl at c;rw[xF hy,oO h hN hp hP,e]at c;have b:=(h.bound (P:=P.filter λz=>decide (z≠y)) (hp.sublist aaG) λz hz=>hP z (aar.mp hz).1).2;have l:(P.filter λz=>decide (z≠y)).length<P.length:=by refine List.length_filter_lt_length_iff_exists.mpr ⟨y,hy,by simp⟩
 omega
theorem vV{x y:Int}(hx:x∈N)(hy:y∈N)(hS:S y)(n:¬ Cl N r (del S y) x)(c:Cl N r S x){z:Int}(hz:z∈N):Cl N r (ins (del S y) x) z↔Cl N r S z:=by
 have cy:Cl N r (ins (del S y) x) y:=Cl.TQ h hN hx hy n (by rw[xF hS];exact c);refine⟨Cl.trans h hN (λw hw q=>?_) hz,Cl.trans h hN (λw hw q=>?_) hz⟩
 ·rcases q with q|q
  ·exact .of q.1
  ·rw[q];exact c
 ·by_cases e:w=y
  ·rw[e];exact cy
  ·exact .of (.inl ⟨q,e⟩)
structure Ch (N:List Int) (r:List Int->Int) (I:List Int) (ps:List (Int×Int)):Prop where
 one:∀e∈ps,e.1∈N/\e.1∉I/\e.2∈I/\¬ Cl N r (del (· ∈ I) e.2) e.1/\Cl N r (· ∈ I) e.1
 two:ps.Pairwise λa b=>Cl N r (del (· ∈ I) b.2) a.1/\a.1≠b.1/\a.2≠b.2
theorem chain:∀(ps:List (Int×Int)) (I I':List Int),I.Nodup->(∀y∈I,y∈N)->r I=I.length->Ch N r I ps->I'.Nodup->(∀y,y∈I'↔(y∈I/\y∉ps.map (·.2))\/y∈ps.map (·.1))->r I'=I'.length/\(∀y∈I',y∈N)/\∀z∈N,Cl N r (· ∈ I') z↔Cl N r (· ∈ I) z
 | [],I,I',hI,hIN,f,c,hI',m=>by
  have m:∀y,y∈I↔y∈I':=λy=>by rw[m];simp
  refine⟨?_,λy hy=>hIN y ((m y).mpr hy),λz _=>by rw[show (λy=>y∈I')=λy=>y∈I from funext λy=>propext (m y).symm]⟩;rw[<-h.same I I' hI hI' hIN m,f,iP hI hI' m]
 | (x,y)::ps,I,I',hI,hIN,f,c,hI',m=>by
  have o:=c.one (x,y) aag;have o1:x∈N:=o.1;have o2:x∉I:=o.2.1;have o3:y∈I:=o.2.2.1;have o4:¬ Cl N r (del (· ∈ I) y) x:=o.2.2.2.1;have o5:Cl N r (· ∈ I) x:=o.2.2.2.2;have t:=aaR.mp c.two;have X6:=hIN y o3;have hfn:(I.filter λz=>decide (z≠y)).Nodup:=hI.sublist aaG;have hfm:∀z,z∈(I.filter λz=>decide (z≠y))↔z∈I/\z≠y:=λz=>by rw[aar,aaX]
  have nx:x∉I.filter λz=>decide (z≠y):=λz=>o2 ((hfm x).mp z).1;have n1:=e9 hfn nx;have m1:∀z,z∈(I.filter λz=>decide (z≠y))++[x]↔(z∈I/\z≠y)\/z=x:=λz=>by rw[aN,hfm]
  have i1:∀z∈(I.filter λz=>decide (z≠y))++[x],z∈N:=λz hz=>by
   rcases(m1 z).mp hz with q|q
   ·exact hIN z q.1
   ·rw[q];exact o1
  have ep:(λz=>z∈(I.filter λz=>decide (z≠y))++[x])=ins (del (· ∈ I) y) x:=funext λz=>propext (m1 z);have f1:r ((I.filter λz=>decide (z≠y))++[x])=((I.filter λz=>decide (z≠y))++[x]).length:=by
   have fd:r (I.filter λz=>decide (z≠y))=(I.filter λz=>decide (z≠y)).length:=oN h hI hIN hfn (λz hz=>((hfm z).mp hz).1) f;have e1:mC N r (del (· ∈ I) y)=r (I.filter λz=>decide (z≠y)):=gP h hN hfn (λz hz=>hIN z ((hfm z).mp hz).1) λz=>by rw[hfm];exact⟨λq=>⟨hIN z q.1,q⟩,λq=>q.2⟩
   have e2:=oO h hN n1 i1;rw[ep]at e2;have s:=lF h hN (del (· ∈ I) y) o1;unfold Cl at o4;rw[aaj,aaQ];omega
  have same:=λz (hz:z∈N)=>vV h hN o1 X6 o3 o4 o5 hz;have less:∀e∈ps,∀z∈N,Cl N r (del (· ∈ (I.filter λz=>decide (z≠y))++[x]) e.2) z↔Cl N r (del (· ∈ I) e.2) z:=λe he z hz=>by
   obtain⟨p1,p2,p3⟩:=t.1 e he;obtain⟨q1,q2,q3,q4,q5⟩:=c.one e (aac _ he);have hS:del (· ∈ I) e.2 y:=⟨o3,p3⟩;have nS:¬ Cl N r (del (del (· ∈ I) e.2) y) x:=λw=>o4 (Cl.mono h hN (λv hv=>⟨hv.1.1,hv.2⟩) o1 w);have:=vV h hN o1 X6 hS nS p1 hz;have ee:del (· ∈ (I.filter λz=>decide (z≠y))++[x]) e.2=ins (del (del (· ∈ I) e.2) y) x:=funext λv=>propext (by
    show (v∈_++[x]/\v≠e.2)↔((v∈I/\v≠e.2)/\v≠y)\/v=x;rw[m1];constructor
    ·rintro⟨q|q,w⟩
     ·exact .inl ⟨⟨q.1,w⟩,q.2⟩
     ·exact .inr q
    ·rintro(q|q)
     ·exact⟨.inl ⟨q.1.1,q.2⟩,q.1.2⟩
     ·exact⟨.inr q,λw=>o2 (by rw[<-q,w];exact q3)⟩)
   rw[ee];exact this
  have c1:Ch N r ((I.filter λz=>decide (z≠y))++[x]) ps:=⟨λe he=>by
    obtain⟨p1,p2,p3⟩:=t.1 e he;obtain⟨q1,q2,q3,q4,q5⟩:=c.one e (aac _ he);refine⟨q1,λw=>?_,(m1 e.2).mpr (.inl ⟨q3,λw=>p3 w.symm⟩),λw=>q4 ((less e he _ q1).mp w),?_⟩
    ·rcases(m1 _).mp w with w|w
     ·exact q2 w.1
     ·exact p2 w.symm
    ·rw[ep];exact(same _ q1).mpr q5,
   List.Pairwise.imp_of_mem (λ{a b} ha hb w=>⟨(less b hb _ (c.one a (aac _ ha)).1).mpr w.1,w.2⟩) t.2⟩
  have res:=chain ps _ I' n1 i1 f1 c1 hI' λz=>by
   rw[m,m1,aaq,aaq,aaw,aaw];have nxs:x∉ps.map (·.2):=λw=>by
    obtain⟨e,he,ee⟩:=aaW.mp w;exact o2 (by rw[<-show e.2=x from ee];exact(c.one e (aac _ he)).2.2.1)
   constructor
   ·rintro(⟨w1,w2⟩|rfl|w)
    ·exact .inl ⟨.inl ⟨w1,λw=>w2 (.inl w)⟩,λw=>w2 (.inr w)⟩
    ·exact .inl ⟨.inr rfl,nxs⟩
    ·exact .inr w
   ·rintro(⟨w1|rfl,w2⟩|w)
    ·exact .inl ⟨w1.1,λw=>w.elim w1.2 w2⟩
    ·exact .inr (.inl rfl)
    ·exact .inr (.inr w)
  refine⟨res.1,res.2.1,λz hz=>(res.2.2 z hz).trans ?_⟩;rw[ep];exact same z hz
theorem K9{R:List Int}(hR:R.Nodup)(hRN:∀y∈R,y∈N)(f:r R=R.length){V:Pd}{x:Int}(hx:x∈N)(c:Cl N r (· ∈ R) x)(hv:∀y∈R,¬ V y->Cl N r (del (· ∈ R) y) x):Cl N r (λy=>y∈R/\V y) x:=by
 have key:∀(L:List Int),(∀y∈L,y∈R/\¬ V y)->Cl N r (λy=>y∈R/\y∉L) x:=λL=>by
  induction L with
  |nil=>intro _;exact Cl.mono h hN (λy hy=>⟨hy,by simp⟩) hx c
  |cons a L ih=>
   intro hL;obtain⟨a1,a2⟩:=hL a aag;have i:=ih λy hy=>hL y (aac _ hy);have ea:(λy=>y∈R/\y∉a::L)=del (λy=>y∈R/\y∉L) a:=funext λy=>propext (by
    unfold del;rw[aaw];exact⟨λw=>⟨⟨w.1,λz=>w.2 (.inr z)⟩,λz=>w.2 (.inl z)⟩,λw=>⟨w.1.1,λz=>z.elim w.2 w.1.2⟩⟩)
   rw[ea]
   by_cases ca:a∈L
   ·exact Cl.mono h hN (λy hy=>⟨hy,λe=>hy.2 (e▸ca)⟩) hx i
   ·refine byContradiction λn=>?_
    have ce:=Cl.TQ h hN hx (hRN a a1) n (by rw[xF ⟨a1,ca⟩];exact i);have c2:=Cl.mono h hN (T:=ins (del (· ∈ R) a) x) (λy hy=>hy.elim (λw=>.inl ⟨w.1.1,w.2⟩) .inr) (hRN a a1) ce;refine HM h hN hR hRN f a1 (Cl.trans h hN (λy hy w=>?_) (hRN a a1) c2)
    rcases w with w|w
    ·exact .of w
    ·rw[w];exact hv a a1 a2
 open Classical in
 have:=key (R.filter λy=>decide (¬ V y)) λy hy=>by
  have:=aar.mp hy;exact⟨this.1,aaB this.2⟩
 refine Cl.mono h hN (λy hy=>⟨hy.1,byContradiction λw=>hy.2 (aar.mpr ⟨hy.1,decide_eq_true w⟩)⟩) hx this
end
end K33
end
section
open PySem L2 Hv
namespace K33
structure RO (R:gR):Prop where
 n0:R.1.Nodup
 n1:R.2.Nodup
 dj:∀x∈R.1,x∉R.2
theorem xH{a b:Nat}{l:List Int}(ha:a<2)(hb:b<2):au (qQ R a l) b=if b=a then l else au R b:=by
 have:a=0\/a=1:=by omega
 have:b=0\/b=1:=by omega
 rcases ‹a=0\/a=1› with rfl|rfl<;>rcases ‹b=0\/b=1› with rfl|rfl<;>rfl
theorem iw{y:Int}{a:Nat}(h:home R y=some a):a<2/\y∈au R a:=by
 unfold home at h;split at h
 ·cases h;rename_i c;exact⟨by omega,c⟩
 ·split at h
  ·cases h;rename_i c;exact⟨by omega,c⟩
  ·cases h
theorem Dz{y:Int}(h:home R y=none):y∉R.1/\y∉R.2:=by
 unfold home at h;split at h
 ·cases h
 ·split at h
  ·cases h
  ·rename_i c1 c2;exact⟨c1,c2⟩
theorem lG(o:RO R){y:Int}{a:Nat}(ha:a<2):home R y=some a↔y∈au R a:=by
 refine⟨λh=>(iw h).2,λh=>?_⟩;unfold home;have:a=0\/a=1:=by omega
 rcases this with rfl|rfl
 ·rw[aak (show y∈R.1 from h)]
 ·have h:y∈R.2:=h;rw[aam λz=>o.dj y z h,aak h]
theorem RO.nd(o:RO R)(a:Nat):(au R a).Nodup:=by unfold au;split;exact o.n0;exact o.n1
theorem xJ(o:RO R){y z:Int}{b:Nat}(hb:b<2):z∈au (jZ R y) b↔z∈au R b/\z≠y:=by
 unfold jZ;cases h:home R y with
 |none=>
  have:=Dz h;refine⟨λw=>⟨w,λe=>?_⟩,λw=>w.1⟩;subst e;unfold au at w;split at w
  ·exact this.1 w
  ·exact this.2 w
 |some a=>
  obtain⟨h1,h2⟩:=iw h;dsimp only;rw[xH h1 hb]
  by_cases c:b=a
  ·subst c;rw[aak rfl,(o.nd b).mem_erase_iff];exact and_comm
  ·rw[aam c];refine⟨λw=>⟨w,λe=>c ?_⟩,λw=>w.1⟩;subst e;have:=(lG o hb).mpr w;rw[h]at this;cases this;rfl
theorem PR(o:RO R)(y:Int):RO (jZ R y):=by
 unfold jZ;cases h:home R y with
 |none=>exact o
 |some a=>
  dsimp only;unfold qQ
  split
  ·rename_i e;subst e;exact⟨o.n0.erase y,o.n1,λx hx=>o.dj x (List.mem_of_mem_erase hx)⟩
  ·rename_i e
   have ea:a=1:=by have:=(iw h).1;omega
   subst ea;exact⟨o.n0,o.n1.erase y,λx hx hy=>o.dj x hx (List.mem_of_mem_erase hy)⟩
theorem xK(o:RO R){y z:Int}{room b:Nat}(hr:room<2)(hb:b<2):z∈au (ki R y room) b↔(z∈au R b/\z≠y)\/(z=y/\b=room):=by
 unfold ki;rw[xH hr hb]
 by_cases c:b=room
 ·subst c;rw[aak rfl,aN,xJ o hb];exact⟨λw=>w.elim .inl λw=>.inr ⟨w,rfl⟩,λw=>w.elim .inl λw=>.inr w.1⟩
 ·rw[aam c,xJ o hb];exact⟨.inl,λw=>w.elim id λw=>absurd w.2 c⟩
theorem xM(o:RO R){y:Int}{room:Nat}(hr:room<2):RO (ki R y room):=by
 have o1:=PR o y;have ny:∀b,b<2->y∉au (jZ R y) b:=λb hb w=>((xJ o hb).mp w).2 rfl;have n0:y∉(jZ R y).1:=ny 0 (by omega);have n1:y∉(jZ R y).2:=ny 1 (by omega);unfold ki qQ
 split
 ·refine⟨e9 (o1.nd room) (ny room hr),o1.n1,λx hx hy=>?_⟩
  rename_i e;subst e
  rcases(aN x).mp hx with w|w
  ·exact o1.dj x w hy
  ·exact n1 (w▸hy)
 ·refine⟨o1.n0,e9 (o1.nd room) (ny room hr),λx hx hy=>?_⟩
  have e:room=1:=by omega
  subst e
  rcases(aN x).mp hy with w|w
  ·exact o1.dj x hx w
  ·exact n0 (w▸hx)
def tot(R:gR):Nat:=R.1.length+R.2.length
theorem xO{y:Int}{room:Nat}:tot (ki R y room)=tot R+if home R y=none then 1 else 0:=by
 have s:∀(Q:gR) (l:List Int),tot (qQ Q room (au Q room++l))=tot Q+l.length:=λQ l=>by
  unfold qQ au tot
  split<;>simp<;>omega
 unfold ki;rw[s];unfold jZ;cases h:home R y with
 |none=>rw[aak rfl];rfl
 |some a=>rw[aam (by simp)];have hm:=(iw h).2;have le:=List.length_erase_of_mem hm;have lp:=List.length_pos_of_mem hm;show tot (qQ R a ((au R a).erase y))+1=_;unfold qQ tot au at *;split at le<;>rename_i c<;>simp only[c,if_true,if_false]at lp |- <;> omega
def lH(R:gR):List Int->Nat->List (Int×Nat)
 |[],_=>[]
 |y::q,room=>(y,room)::lH R q ((home R y).getD 0)
theorem Cc:∀{q:List Int} {room:Nat},(lH R q room).map (·.1)=q
 |[],_=>rfl
 |y::q,room=>by rw[lH,aaq,Cc]
theorem vW:∀{q:List Int} {room:Nat},(∀y∈q,home R y=home Q y)->lH R q room=lH Q q room
 |[],_,_=>rfl
 |y::q,room,h=>by rw[lH,lH,h y aag,vW λz hz=>h z (aac _ hz)]
theorem vX{y:Int}:(home R y).getD 0<2:=by
 cases h:home R y with
 |none=>exact Nat.zero_lt_two
 |some a=>exact(iw h).1
theorem ud(o:RO R){y z:Int}{room:Nat}(hr:room<2)(hz:z≠y):home (ki R y room) z=home R z:=by
 have p:=xM o (y:=y) hr;cases h:home R z with
 |some a=>obtain⟨h1,h2⟩:=iw h;exact(lG p h1).mpr ((xK o hr h1).mpr (.inl ⟨h2,hz⟩))
 |none=>
  cases h':home (ki R y room) z with
  |none=>rfl
  |some a=>
   obtain⟨h1,h2⟩:=iw h'
   rcases(xK o hr h1).mp h2 with w|w
   ·have:=(lG o h1).mpr w.1;rw[h]at this;cases this
   ·exact absurd w.1 hz
theorem Cd:∀(q:List Int) (R:gR) (room:Nat),RO R->q.Nodup->room<2->RO (putL q R room)/\∀b,b<2->∀z,z∈au (putL q R room) b↔(z∈au R b/\z∉q)\/(z,b)∈lH R q room
 |[],R,room,o,_,_=>⟨o,λb hb z=>by rw[putL,lH];simp⟩
 | y::q,R,room,o,hq,hr=>by
  have hq:=aaI.mp hq;obtain⟨o',m⟩:=Cd q (ki R y room) ((home R y).getD 0) (xM o hr) hq.2 vX;refine⟨o',λb hb z=>?_⟩;have dc:lH (ki R y room) q ((home R y).getD 0)=lH R q ((home R y).getD 0):=vW λw hw=>ud o hr λe:w=y=>hq.1 (e▸hw);rw[putL,m b hb z,xK o hr hb,lH,aaw,aaw,dc];constructor
  ·rintro(⟨w|w,n⟩|w)
   ·exact .inl ⟨w.1,λe=>e.elim w.2 n⟩
   ·exact .inr (.inl (by rw[w.1,w.2]))
   ·exact .inr (.inr w)
  ·rintro(⟨w,n⟩|w|w)
   ·exact .inl ⟨.inl ⟨w,λe=>n (.inl e)⟩,λe=>n (.inr e)⟩
   ·cases w;exact .inl ⟨.inr ⟨rfl,rfl⟩,hq.1⟩
   ·exact .inr w
theorem Ce:∀(q:List Int) (R:gR) (room:Nat),RO R->q.Nodup->room<2->tot (putL q R room)=tot R+q.countP λy=>decide (home R y=none)
 |[],R,room,_,_,_=>by rw[putL];rfl
 | y::q,R,room,o,hq,hr=>by
  have hq:=aaI.mp hq;rw[putL,Ce q _ _ (xM o hr) hq.2 vX,xO,countP_cons];have:(q.countP λz=>decide (home (ki R y room) z=none))=q.countP λz=>decide (home R z=none):=List.countP_congr λz hz=>by rw[ud o hr λe:z=y=>hq.1 (e▸hz)]
  rw[this];simp only[decide_eq_true_eq];omega
def prs(R:gR)(a:Nat):List Int->List (Int×Int)
 |[]=>[]
 |[_]=>[]
 |y::x::q=>(if home R y=some a then [(x,y)] else [])++prs R a (x::q)
theorem oS{a:Nat}:∀{q:List Int} {e:Int×Int},e∈prs R a q->home R e.2=some a/\e.1∈q/\e.2∈q
 |[],e,h=>by rw[prs]at h;simp at h
 |[_],e,h=>by rw[prs]at h;simp at h
 | y::x::q,e,h=>by
  rw[prs,aas]at h
  rcases h with h|h
  ·split at h
   ·rename_i c;rw[aap]at h;subst h;exact⟨c,by simp,by simp⟩
   ·simp at h
  ·obtain⟨h1,h2,h3⟩:=oS h;exact⟨h1,aac _ h2,aac _ h3⟩
def oU(R:gR):List Int->Prop
 |[]=>False
 |[y]=>home R y=none
 |y::x::q=>home R y≠none/\oU R (x::q)
theorem Cf{a:Nat}:∀{q:List Int} {room:Nat} {z:Int},oU R q->((z,a)∈lH R q room↔z∈(prs R a q).map (·.1)\/(q.head?=some z/\room=a))
 |[],room,z,h=>h.elim
 | [y],room,z,h=>by
  rw[lH,lH,prs];simp only[List.mem_singleton,Prod.mk.injEq,map_nil,not_mem_nil,false_or,head?_cons,Option.some.injEq];exact⟨λw=>⟨w.1.symm,w.2.symm⟩,λw=>⟨w.1.symm,w.2.symm⟩⟩
 | y::x::q,room,z,h=>by
  obtain⟨h1,h2⟩:=h;rw[lH,aaw,Cf h2,prs,aaO,aas,Prod.mk.injEq];obtain⟨b,hb⟩:=Option.ne_none_iff_exists'.mp h1;rw[hb];simp only[getD_some,head?_cons,Option.some.injEq]
  by_cases c:b=a
  ·subst c
   rw[aak rfl];simp only[map_cons,map_nil,List.mem_singleton];constructor
   ·rintro(⟨w1,w2⟩|w|⟨w1,w2⟩)
    ·exact .inr ⟨w1.symm,w2.symm⟩
    ·exact .inl (.inr w)
    ·exact .inl (.inl w1.symm)
   ·rintro((w|w)|⟨w1,w2⟩)
    ·exact .inr (.inr ⟨w.symm,trivial⟩)
    ·exact .inr (.inl w)
    ·exact .inl ⟨w1.symm,w2.symm⟩
  ·rw[aam c]
   simp only[map_nil,not_mem_nil,false_or];constructor
   ·rintro(⟨w1,w2⟩|w|⟨w1,w2⟩)
    ·exact .inr ⟨w1.symm,w2.symm⟩
    ·exact .inl w
    ·exact absurd w2 c
   ·rintro(w|⟨w1,w2⟩)
    ·exact .inr (.inl w)
    ·exact .inl ⟨w1.symm,w2.symm⟩
theorem Cg{a:Nat}:∀{q:List Int} {z:Int},oU R q->home R z=some a->z∈q->z∈(prs R a q).map (·.2)
 |[],z,h,_,_=>h.elim
 | [y],z,h,hz,hm=>by
  rw[aap]at hm;subst hm;have h:home R z=none:=h;rw[h]at hz;cases hz
 | y::x::q,z,h,hz,hm=>by
  rw[prs,aaO,aas]
  rcases aaw.mp hm with rfl|hm
  ·left;rw[aak hz];simp
  ·exact .inr (Cg h.2 hz hm)
end K33
end
section
open PySem L2 Hv
namespace K33
structure PO (N:List Int) (r:List Int->Int) (S:List Int) (R:gR):Prop where
 ro:RO R
 sub:∀a,a<2->∀x∈au R a,x∈S
 fr:∀a,a<2->r (au R a)=(au R a).length
structure we (N:List Int) (r:List Int->Int) (S:List Int) (R:gR) (vis:List Int) (par:Int->Option Int):Prop where
 nd:vis.Nodup
 sub:∀v∈vis,v∈S
 bM:∀v∈S,home R v=none->v∈vis
 non:∀v∈vis,par v=none->home R v=none
 Qu:∀v∈vis,∀u,par v=some u->u∈vis/\vis.idxOf u<vis.idxOf v/\∃a,home R v=some a/\u∉au R a/\¬ Cl N r (del (· ∈ au R a) v) u/\∀u'∈vis,vis.idxOf u'<vis.idxOf u->u'∉au R a->Cl N r (del (· ∈ au R a) v) u'
def DN(N:List Int)(r:List Int->Int)(R:gR)(vis:List Int)(u:Int)(a:Nat):Prop:=u∉au R a->Cl N r (· ∈ au R a) u/\∀y∈au R a,¬ Cl N r (del (· ∈ au R a) y) u->y∈vis
inductive HN (par:Int->Option Int):List Int->Prop
 |one {y:Int}:par y=none->HN par [y]
 |cons {y x:Int} {q:List Int}:par y=some x->HN par (x::q)->HN par (y::x::q)
section
variable {N S vis:List Int} {r:List Int->Int} {R:gR} {par:Int->Option Int}
theorem we.path(w:we N r S R vis par):∀(n:Nat) (v:Int),v∈vis->vis.idxOf v<n->∃q,HN par (v::q)/\(∀x∈v::q,x∈vis)/\(v::q).Pairwise λa b=>vis.idxOf b<vis.idxOf a
 |0,v,_,h=>by omega
 | n+1,v,hv,h=>by
  cases e:par v with
  |none=>exact⟨[],.one e,λx hx=>by rw[aap.mp hx];exact hv,List.pairwise_singleton _ _⟩
  |some u=>
   obtain⟨u1,u2,_⟩:=w.Qu v hv u e;obtain⟨q,q1,q2,q3⟩:=w.path n u u1 (by omega);refine⟨u::q,.cons e q1,λx hx=>?_,aaR.mpr ⟨λx hx=>?_,q3⟩⟩
   ·rcases aaw.mp hx with rfl|hx
    ·exact hv
    ·exact q2 x hx
   ·rcases aaw.mp hx with rfl|hx
    ·exact u2
    ·have:=(aaR.mp q3).1 x hx;omega
theorem HN.vX(w:we N r S R vis par):∀{q:List Int},HN par q->(∀x∈q,x∈vis)->oU R q
 |_,.one e,h=>w.non _ (h _ aag) e
 | _,.cons e p,h=>⟨by
   obtain⟨_,_,a,ha,_⟩:=w.Qu _ (h _ aag) _ e;rw[ha];simp,HN.vX w p λx hx=>h x (aac _ hx)⟩
theorem Ci{a:Nat}:∀{q:List Int},HN par q->∀e∈prs R a q,par e.2=some e.1
 |_,.one _,e,h=>by rw[prs]at h;simp at h
 | _,.cons ee p,e,h=>by
  rw[prs,aas]at h
  rcases h with h|h
  ·split at h
   ·rw[aap]at h;subst h;exact ee
   ·simp at h
  ·exact Ci p e h
theorem oV{a:Nat}:∀{q:List Int} {y:Int} {e:Int×Int},e∈prs R a (y::q)->e.1∈q
 |[],y,e,h=>by rw[prs]at h;simp at h
 | x::q,y,e,h=>by
  rw[prs,aas]at h
  rcases h with h|h
  ·split at h
   ·rw[aap]at h;subst h;exact aag
   ·simp at h
  ·exact aac _ (oV h)
theorem HP{a:Nat}(ix:Int->Nat):∀{q:List Int},q.Pairwise (λa b=>ix b<ix a)->(prs R a q).Pairwise λb c=>ix c.1<ix b.1/\ix c.2<ix b.2
 |[],_=>by rw[prs];exact .nil
 |[_],_=>by rw[prs];exact .nil
 | y::x::q,h=>by
  have h1:=aaR.mp h;have h2:=aaR.mp h1.2;rw[prs,List.pairwise_append];refine⟨by split;exact List.pairwise_singleton _ _;exact .nil,HP ix h1.2,λb hb c hc=>?_⟩;split at hb
  ·rw[aap]at hb;subst hb;exact⟨h2.1 c.1 (oV hc),h1.1 c.2 (oS hc).2.2⟩
  ·simp at hb
theorem vY:∀{q:List Int},oU R q->(q.countP λy=>decide (home R y=none))=1
 |[],h=>h.elim
 |[y],h=>by rw[countP_cons,aak (decide_eq_true (show home R y=none from h))];rfl
 |y::x::q,h=>by rw[countP_cons,vY h.2,aam (by simpa using h.1)]
variable (h:mz N r) (hN:N.Nodup) (sN:∀x∈S,x∈N)
include h hN sN
theorem aug(o:PO N r S R)(w:we N r S R vis par){name:Int}{at':Nat}(hv:name∈vis)(ha:at'<2)(na:name∉au R at')(nc:¬ Cl N r (· ∈ au R at') name)(dn:∀u∈vis,vis.idxOf u<vis.idxOf name->∀a,a<2->DN N r R vis u a) :
  ∃q,HN par (name::q)/\(name::q).Nodup/\(name::q).length<=vis.length/\(∀x∈name::q,x∈vis)/\oU R (name::q)/\PO N r S (putL (name::q) R at')/\tot (putL (name::q) R at')=tot R+1:=by
 obtain⟨q,p,hq,pw⟩:=w.path _ name hv (lt_succ_self _);have nd:(name::q).Nodup:=pw.imp λhab e=>by rw[e]at hab;omega
 have hm:=p.vX w hq;obtain⟨o',m⟩:=Cd (name::q) R at' o.ro nd ha;have inS:∀x∈name::q,x∈S:=λx hx=>w.sub x (hq x hx);have lt:∀x∈q,vis.idxOf x<vis.idxOf name:=(aaR.mp pw).1;have ch:∀b,b<2->Ch N r (au R b) (prs R b (name::q)).reverse:=λb hb=>by
  have one:∀e∈prs R b (name::q),par e.2=some e.1/\home R e.2=some b/\e.1∈q/\e.2∈vis:=λe he=>⟨Ci p e he,(oS he).1,oV he,hq _ (oS he).2.2⟩;refine⟨λe he=>?_,List.pairwise_reverse.mpr (List.Pairwise.imp_of_mem (λ{c d} hc hd z=>?_) (HP vis.idxOf pw))⟩
  ·obtain⟨e1,e2,e3,e4⟩:=one e (mem_reverse.mp he);obtain⟨_,_,a,ea,k1,k2,_⟩:=w.Qu _ e4 _ e1;rw[e2]at ea;cases ea;exact⟨sN _ (inS _ (aac _ e3)),k1,(iw e2).2,k2,(dn e.1 (hq _ (aac _ e3)) (lt _ e3) b hb k1).1⟩
  ·obtain⟨c1,c2,c3,c4⟩:=one c hc;obtain⟨d1,d2,d3,d4⟩:=one d hd;obtain⟨_,_,a,ea,k1,k2,k3⟩:=w.Qu _ c4 _ c1;rw[c2]at ea;cases ea;obtain⟨_,_,a,ea,k4,_⟩:=w.Qu _ d4 _ d1;rw[d2]at ea;cases ea;exact⟨k3 d.1 (hq _ (aac _ d3)) z.1 k4,λe=>by rw[e]at z;omega,λe=>by rw[e]at z;omega⟩
 have rowN:∀b,b<2->∀y∈au R b,y∈N:=λb hb y hy=>sN y (o.sub b hb y hy);have mr:∀b,b<2->∀z,z∈au (putL (name::q) R at') b↔((z∈au R b/\z∉(prs R b (name::q)).reverse.map (·.2))\/z∈(prs R b (name::q)).reverse.map (·.1))\/(z=name/\at'=b):=λb hb z=>by
  rw[m b hb z,Cf hm,map_reverse,map_reverse,mem_reverse,mem_reverse,head?_cons,Option.some.injEq];have:z∈au R b->(z∉name::q↔z∉(prs R b (name::q)).map (·.2)):=λhz=>not_congr ⟨Cg hm ((lG o.ro hb).mpr hz),λk=>by
   obtain⟨e,he,ee⟩:=aaW.mp k;rw[<-show e.2=z from ee];exact(oS he).2.2⟩
  constructor
  ·rintro(k|k|k)
   ·exact .inl (.inl ⟨k.1,(this k.1).mp k.2⟩)
   ·exact .inl (.inr k)
   ·exact .inr ⟨k.1.symm,k.2⟩
  ·rintro((k|k)|k)
   ·exact .inl ⟨k.1,(this k.1).mpr k.2⟩
   ·exact .inr (.inl k)
   ·exact .inr (.inr ⟨k.1.symm,k.2⟩)
 refine⟨q,p,nd,bO nd hq,hq,hm,⟨o',λb hb x hx=>?_,λb hb=>?_⟩,?_⟩
 ·rcases(m b hb x).mp hx with k|k
  ·exact o.sub b hb x k.1
  ·have:x∈(lH R (name::q) at').map (·.1):=aaW.mpr ⟨_,k,rfl⟩;rw[Cc]at this;exact inS x this
 ·by_cases c:at'=b
  ·subst c
   have nf:name∉(prs R at' (name::q)).reverse.map (·.1):=λk=>by
    rw[map_reverse,mem_reverse]at k;obtain⟨e,he,ee⟩:=aaW.mp k;have:=lt _ (oV he);rw[show e.1=name from ee]at this;omega
   have hfm:∀z,z∈((au (putL (name::q) R at') at').filter λz=>decide (z≠name))↔(z∈au R at'/\z∉(prs R at' (name::q)).reverse.map (·.2))\/z∈(prs R at' (name::q)).reverse.map (·.1):=λz=>by
    rw[aar,aaX,mr at' ha];constructor
    ·rintro⟨k|k,k2⟩
     ·exact k
     ·exact absurd k.1 k2
    ·intro k
     refine⟨.inl k,λe=>?_⟩;subst e
     rcases k with k|k
     ·exact na k.1
     ·exact nf k
   obtain⟨f,i,s⟩:=chain h hN _ (au R at') _ (o.ro.nd at') (rowN at' ha) (o.fr at' ha) (ch at' ha) ((o'.nd at').sublist aaG) hfm;have nn:name∉(au (putL (name::q) R at') at').filter λz=>decide (z≠name):=λk=>by simpa using (aar.mp k).2
   have UL:=sN name (inS name aag);have e1:=oO h hN (o'.nd at' |>.sublist (aaG (p:=λz=>decide (z≠name)))) i;have st:=lF h hN (· ∈ (au (putL (name::q) R at') at').filter λz=>decide (z≠name)) UL;have ncl:¬ Cl N r (· ∈ (au (putL (name::q) R at') at').filter λz=>decide (z≠name)) name:=λk=>nc ((s name UL).mp k);have ml:∀z,z∈au (putL (name::q) R at') at'↔z∈((au (putL (name::q) R at') at').filter λz=>decide (z≠name))++[name]:=λz=>by
    rw[aN,aar,aaX];constructor
    ·intro k
     by_cases e:z=name
     ·exact .inr e
     ·exact .inl ⟨k,e⟩
    ·rintro(k|rfl)
     ·exact k.1
     ·exact(mr at' ha _).mpr (.inr ⟨rfl,rfl⟩)
   have nl:=e9 ((o'.nd at').sublist aaG) nn;have e2:mC N r (ins (· ∈ (au (putL (name::q) R at') at').filter λz=>decide (z≠name)) name)=r (au (putL (name::q) R at') at'):=gP h hN (o'.nd at') (λy hy=>by
    rcases(aN y).mp ((ml y).mp hy) with k|k
    ·exact i y k
    ·rw[k];exact UL) λy=>by
    rw[ml y,aN];exact⟨λk=>⟨k.elim (i y) λe=>e▸UL,k⟩,λk=>k.2⟩
   have ll:=iP (o'.nd at') nl ml;rw[aaj,aaQ]at ll;unfold Cl at ncl;omega
  ·exact(chain h hN _ (au R b) _ (o.ro.nd b) (rowN b hb) (o.fr b hb) (ch b hb) (o'.nd b) λz=>by
    rw[mr b hb z];exact⟨λk=>k.elim id λk=>absurd k.2 c,.inl⟩).1
 ·rw[Ce _ _ _ o.ro nd ha,vY hm]
open Classical in
theorem most(hS:S.Nodup)(o:PO N r S F)(V:Pd):(tot F:Int)<=(S.filter λx=>decide (¬ V x)).length+2*mC N r V:=by
 have part:∀b,b<2->((au F b).length:Int)<=((au F b).filter λx=>decide (¬ V x)).length+mC N r V:=λb hb=>by
  have e:(au F b).length=((au F b).filter λx=>decide (V x)).length+((au F b).filter λx=>decide (¬ V x)).length:=by
   have:=List.length_eq_countP_add_countP (λx=>decide (V x)) (l:=au F b);rw[List.countP_eq_length_filter,List.countP_eq_length_filter]at this;rw[this]
   congr 2
   exact filter_congr λx _=>by by_cases c:V x<;>simp[c]
  have nf:((au F b).filter λx=>decide (V x)).Nodup:=(o.ro.nd b).sublist aaG;have hs:∀y∈(au F b).filter λx=>decide (V x),y∈au F b:=λy hy=>(aar.mp hy).1;have iN:∀y∈au F b,y∈N:=λy hy=>sN y (o.sub b hb y hy);have f:=oN h (o.ro.nd b) iN nf hs (o.fr b hb);have e2:=oO h hN nf λy hy=>iN y (hs y hy);have e3:=oR h hN (S:=(· ∈ (au F b).filter λx=>decide (V x))) (T:=V) λy hy=>aaB (aar.mp hy).2;omega
 have two:((au F 0).filter λx=>decide (¬ V x)).length+((au F 1).filter λx=>decide (¬ V x)).length<=(S.filter λx=>decide (¬ V x)).length:=by
  rw[<-aaj];refine bO ?_ λx hx=>?_
  ·rw[aaH];exact⟨(o.ro.nd 0).sublist aaG,(o.ro.nd 1).sublist aaG,λa ha b hb e=>o.ro.dj a (aar.mp ha).1 (by rw[e];exact(aar.mp hb).1)⟩
  ·rcases aas.mp hx with k|k
   ·have:=aar.mp k;exact aar.mpr ⟨o.sub 0 (by omega) x this.1,this.2⟩
   ·have:=aar.mp k;exact aar.mpr ⟨o.sub 1 (by omega) x this.1,this.2⟩
 have p0:=part 0 (by omega);have p1:=part 1 (by omega);have et:tot F=(au F 0).length+(au F 1).length:=rfl;omega
open Classical in
theorem bar(hS:S.Nodup)(o:PO N r S R)(w:we N r S R vis par)(dn:∀u∈vis,∀a,a<2->DN N r R vis u a):(tot R:Int)=(S.filter λx=>decide (x∉vis)).length+2*mC N r (· ∈ vis):=by
 have iN:∀b,b<2->∀y∈au R b,y∈N:=λb hb y hy=>sN y (o.sub b hb y hy);have part:∀b,b<2->((au R b).length:Int)=((au R b).filter λx=>decide (x∉vis)).length+mC N r (· ∈ vis):=λb hb=>by
  have e:(au R b).length=((au R b).filter λx=>decide (x∈vis)).length+((au R b).filter λx=>decide (x∉vis)).length:=by
   have:=List.length_eq_countP_add_countP (λx=>decide (x∈vis)) (l:=au R b);rw[List.countP_eq_length_filter,List.countP_eq_length_filter]at this;rw[this]
   congr 2
   exact filter_congr λx _=>by by_cases c:x∈vis<;>simp[c]
  have nf:((au R b).filter λx=>decide (x∈vis)).Nodup:=(o.ro.nd b).sublist aaG;have f:=oN h (o.ro.nd b) (iN b hb) nf (λy hy=>(aar.mp hy).1) (o.fr b hb);have e2:mC N r (λy=>y∈au R b/\y∈vis)=r ((au R b).filter λx=>decide (x∈vis)):=gP h hN nf (λy hy=>iN b hb y (aar.mp hy).1) λy=>by
   rw[aar,aaX];exact⟨λk=>⟨iN b hb y k.1,k⟩,λk=>k.2⟩
  have e3:=zP h hN (S:=λy=>y∈au R b/\y∈vis) (T:=(· ∈ vis)) λy hy k=>by
   by_cases c:y∈au R b
   ·exact .of ⟨c,k⟩
   ·obtain⟨d1,d2⟩:=dn y k b hb c;exact K9 h hN (o.ro.nd b) (iN b hb) (o.fr b hb) hy d1 λx hx nx=>byContradiction λz=>nx (d2 x hx z)
  have e4:mC N r (λy=>(y∈au R b/\y∈vis)\/y∈vis)=mC N r (· ∈ vis):=jL λy _=>⟨λk=>k.elim (·.2) id,.inr⟩;omega
 have two:((au R 0).filter λx=>decide (x∉vis)).length+((au R 1).filter λx=>decide (x∉vis)).length=(S.filter λx=>decide (x∉vis)).length:=by
  rw[<-aaj];refine iP ?_ (hS.sublist aaG) λx=>?_
  ·rw[aaH];exact⟨(o.ro.nd 0).sublist aaG,(o.ro.nd 1).sublist aaG,λa ha b hb e=>o.ro.dj a (aar.mp ha).1 (by rw[e];exact(aar.mp hb).1)⟩
  ·rw[aas,aar,aar,aar]
   constructor
   ·rintro(k|k)
    ·exact⟨o.sub 0 (by omega) x k.1,k.2⟩
    ·exact⟨o.sub 1 (by omega) x k.1,k.2⟩
   ·rintro⟨k1,k2⟩
    have nv:x∉vis:=aaB k2;cases e:home R x with
    |none=>exact absurd (w.bM x k1 e) nv
    |some a=>
     obtain⟨a1,a2⟩:=iw e;have:a=0\/a=1:=by omega
     rcases this with rfl|rfl
     ·exact .inl ⟨a2,k2⟩
     ·exact .inr ⟨a2,k2⟩
 have p0:=part 0 (by omega);have p1:=part 1 (by omega);have et:tot R=(au R 0).length+(au R 1).length:=rfl;omega
end
end K33
end
section
open PySem L2 Hv
namespace K33
abbrev NF(m:Str):Prop:=m ≠ "net" /\ m ≠ "places" /\ m ≠ "ends" /\ m ≠ "whole"
def aZ(κ:Nat)(p q:Int)(ts:List T3):Val:=if κ = 2 then jb 0 p q ts (fc p q ts (nms ts)) else ly 1 p q ts
theorem m3{κ:Nat}(hk:0 < κ /\ κ < 3){p q:Int}{ts:List T3}{m:Str}{j:Nat}(h:NF m):nV [] (aZ κ p q ts) m [(0,j),(1,j)]=some j:=by
 unfold aZ
 split
 ·exact oJ (by rfl) h
 ·exact t9 (by rfl) h
theorem sub_len{p q:Int}(ok:aU p q ts){P:List Int}(hn:P.Nodup)(hP:∀x∈P,x∈nms ts):P.length<=15:=aaN (bO hn hP) (lX ok)
theorem free_eq{κ:Nat}(hk:0 < κ /\ κ < 3){p q:Int}(ok:aU p q ts){P:List Int}(hP:∀x∈P,x∈nms ts)(hl:P.length<=15):dQ [aZ κ p q ts,.rl (P.map .int)]=.ok (true,.bl (decide (e8 κ p q ts P=(P.length:Int)))):=by
 have h:κ = 1 \/ κ = 2:=by omega
 rcases h with rfl|rfl
 ·have e0:aZ 1 p q ts=ly 1 p q ts:=rfl
  have e:=ua (o:=ly 1 p q ts) ok (xD (by decide) ok) hP hl;have m:=t9 (c:=1) (p:=p) (q:=q) (ts:=ts) (m:="tree_rank") (js:=[(0,7),(1,7)]) (j:=7) rfl (by decide);have er:dP [ly 1 p q ts,.rl (P.map .int)]=.ok (true,.int (e8 1 p q ts P)):=by unfold dP cR;simp only[EV,m,gx,e];rfl
  have mr:=t9 (c:=1) (p:=p) (q:=q) (ts:=ts) (m:="rank") (js:=[(0,10),(1,11)]) (j:=11) rfl (by decide);rw[e0];unfold dQ eF;simp only[EV,mr,iU,er,length_map]
 ·have e0:aZ 2 p q ts=jb 0 p q ts (fc p q ts (nms ts)):=rfl;have er:cX [jb 0 p q ts (fc p q ts (nms ts)),.rl (P.map .int)]=.ok (true,.int (e8 2 p q ts P)):=HJ (c:=0) (by decide) rfl rfl ok;have mr:=oJ (c:=0) (p:=p) (q:=q) (ts:=ts) (w:=(fc p q ts (nms ts):Int)) (m:="rank") (js:=[(0,10),(1,11)]) (j:=10) rfl (by decide);rw[e0];unfold dQ eF;simp only[EV,mr,jn,er,length_map]
theorem HQ{p q:Int}(ok:aU p q ts):lW [di p q ts]=.ok (true,aZ 1 p q ts):=zL nF lq ok
theorem HS{p q:Int}(ok:aU p q ts):oF [di p q ts]=.ok (true,aZ 2 p q ts):=HH (by decide) jq iO mj ju ok
theorem sorted_ints{l:List Int}(h:l.length<64):iS .sorted [.rl (l.map .int)]=.ok (true,.rl ((sortI l).map .int)):=by
 refine zH ?_;unfold fz;rw[aak (by rw[aae];exact h),ints_map]
end K33
end
section
open PySem L2 Hv
namespace K33
theorem ak{m:List Nat}(h:bw Ψ m st env=.ok (.nx env')):av Ψ m (.cons st r) env=av Ψ m r env':=by
 rw[av,h];rfl
theorem lI{m:List Nat}(h:bw Ψ m st env=.ok (.rt p)):av Ψ m (.cons st r) env=.ok (.rt p):=by
 rw[av,h];rfl
theorem HU{ms:List Nat}{i:Nat}{n:Nat}(h1:(tu (.one i) #[e] B&&(stored (.one i)).all λi=>!ms.contains i)=true)(h2:gI Ψ #[e] env=.ok [.int (n:Int)])(hn:n<=1000) :
  bw Ψ ms (.for (.one i) .range #[e] B) env=eE (λx env=>pb (pl (cF (.one i) x env)) λenv'=>av Ψ ms B env') ((List.range n).map λi:Nat=>Val.int (0+(i:Int))) env:=by
 have hR:inR (n:Int)=true:=by unfold inR;simp only[and_eq_true,decide_eq_true_eq];omega
 rw[bw,h1,jU rfl,h2,ay,LX hR,bB,ay,Int.toNat_natCast]
theorem Cj{ms:List Nat}{i:Nat}(h1:(tu (.one i) #[e] B&&(stored (.one i)).all λi=>!ms.contains i)=true)(h2:gI Ψ #[e] env=.ok [.rl vs]) :
  bw Ψ ms (.for (.one i) .seq #[e] B) env=eE (λx env=>pb (pl (cF (.one i) x env)) λenv'=>av Ψ ms B env') vs env:=by
 rw[bw,h1,jU rfl,h2,ay,ja,bB,ay]
theorem fV{ms:List Nat}{f:Bool}(h:zX Ψ c env=.ok (f,.bl false)):bw Ψ ms (.iff c a .nil) env=.ok (.nx env):=by
 rw[bw,h,ay];show pb (pl (cZ [] (.bl false))) _=_;rw[FT,bB,ay,aam aab,av]
theorem gE{ms:List Nat}{f:Bool}(h:zX Ψ c env=.ok (f,.bl true)):bw Ψ ms (.iff c a b) env=av Ψ ms a env:=by
 rw[bw,h,ay];show pb (pl (cZ [] (.bl true))) _=_;rw[FT,bB,ay,aak rfl]
theorem La{n:Nat}(hc:c env=.ok true)(hb:body env=.ok (.rt p)):nt c body (n+1) env=.ok (.rt p):=by
 rw[nt,hc,ay,aak rfl,hb,ay]
section
variable {κ:Nat} {p q:Int} {ts:List T3} {S:List Int} {R:gR}
theorem HV{N:List Int}(h:mz N r)(hN:N.Nodup){P:List Int}(hp:P.Nodup)(hP:∀y∈P,y∈N)(f:r P=P.length){x:Int}(hx:x∈N)(nx:x∉P):(r (P++[x])=(P++[x]).length)↔¬ Cl N r (· ∈ P) x:=by
 have e1:=oO h hN hp hP;have e2:mC N r (ins (· ∈ P) x)=r (P++[x]):=gP h hN (e9 hp nx) (λy hy=>by
  rcases(aN y).mp hy with z|z
  ·exact hP y z
  ·rw[z];exact hx) λy=>by
  rw[aN];exact⟨λz=>⟨z.elim (hP y) λe=>e▸hx,z⟩,λz=>z.2⟩
 have s:=lF h hN (· ∈ P) hx;have l:((P++[x]).length:Int)=P.length+1:=by simp
 unfold Cl;constructor
 ·intro z w;omega
 ·intro z;omega
theorem Lb{N:List Int}(h:mz N r)(hN:N.Nodup){P:List Int}(hp:P.Nodup)(hP:∀y∈P,y∈N)(f:r P=P.length){x y:Int}(hx:x∈N)(nx:x∉P):(r ((P.filter λz=>!decide (z=y))++[x])=((P.filter λz=>!decide (z=y))++[x]).length)↔¬ Cl N r (del (· ∈ P) y) x:=by
 have hm:∀z,z∈(P.filter λz=>!decide (z=y))↔z∈P/\z≠y:=λz=>by rw[aar];simp
 have hn:(P.filter λz=>!decide (z=y)).Nodup:=hp.sublist aaG;have ff:=oN h hp hP hn (λz hz=>((hm z).mp hz).1) f;rw[HV h hN hn (λz hz=>hP z ((hm z).mp hz).1) ff hx λz=>nx ((hm x).mp z).1];rw[show (λz=>z∈P.filter λz=>!decide (z=y))=del (· ∈ P) y from funext λz=>propext (hm z)]
open Classical in
def fF(N:List Int)(r:List Int->Int)(P:List Int)(x:Int):List Int:=P.filter λy=>decide (¬ Cl N r (del (· ∈ P) y) x)
theorem DA(hk:0 < κ /\ κ < 3)(ok:aU p q ts){P:List Int}(hp:P.Nodup)(hP:∀y∈P,y∈nms ts)(f:e8 κ p q ts P=P.length){x:Int}(hx:x∈nms ts)(nx:x∉P)(hl:P.length<=14) :
  ∃fl,fT [aZ κ p q ts,.rl (P.map .int),.int x]=.ok (fl,.rl ((fF (nms ts) (e8 κ p q ts) P x).map .int)):=by
 have h:=qI ok hk.2;have hN:=cY ok;unfold fT;show ∃fl,pb (av (ai Dq) [3] cV [some (.sh,aZ κ p q ts),some (.sh,.rl (P.map .int)),some (.sh,.int x),none,none]) _=_;unfold cV;have z0:0<=sizeLine:=by decide
 rw[ak (env':=[some (.sh,aZ κ p q ts),some (.sh,.rl (P.map .int)),some (.sh,.int x),some (.ow,.rl []),none]) (by simp only[EV,z0]),av,Cj (vs:=P.map .int) rfl (by simp only[EV,ay])]
 repeat rw[vA]
 refine gj Val.int (λr:Pr FV=>∃fl,r=.ok (fl,.rl ((fF (nms ts) (e8 κ p q ts) P x).map .int)))
  (λdone env=>∃c:Option (Mk×Val),env=[some (.sh,aZ κ p q ts),some (.sh,.rl (P.map .int)),some (.sh,.int x),some (.ow,.rl ((done.filter λy=>open Classical in decide (¬ Cl (nms ts) (e8 κ p q ts) (del (· ∈ P) y) x)).map .int)),c]) ?_ ?_ ?_
 ·exact⟨none,rfl⟩
 ·rintro pre y post env e ⟨c,rfl⟩
  have hy:y∈P:=by rw[e];simp
  have hlp:(pre.filter λy=>open Classical in decide (¬ Cl (nms ts) (e8 κ p q ts) (del (· ∈ P) y) x)).length<=14:=by have:=length_filter_le (λy=>open Classical in decide (¬ Cl (nms ts) (e8 κ p q ts) (del (· ∈ P) y) x)) pre;have:=congrArg length e;rw[aaj,aaE]at this;omega
  have Wu:((P.filter λz=>!decide (z=y))++[x]).length<=15:=by have:=length_filter_le (λz=>!decide (z=y)) P;rw[aaj,aaQ];omega
  have hin:∀z∈(P.filter λz=>!decide (z=y))++[x],z∈nms ts:=λz hz=>by
   rcases(aN z).mp hz with w|w
   ·exact hP z (aar.mp w).1
   ·rw[w];exact hx
  have ef:=free_eq hk ok hin Wu;have m:=m3 hk (p:=p) (q:=q) (ts:=ts) (m:="free") (j:=12) (by decide);have sw:=Lb h hN hp hP f (y:=y) hx nx;have z1:1<=sizeLine:=by decide
  have za:((P.filter λz=>!decide (z=y)).map Val.int).length+([.int x]:List Val).length<=sizeLine:=by rw[aae];rw[aaj] at Wu;simp at Wu |-;unfold sizeLine;omega
  have ea:(P.filter λz=>!decide (z=y)).map Val.int++[.int x]=((P.filter λz=>!decide (z=y))++[x]).map .int:=by rw[aaO];rfl
  have zl:((pre.filter λy=>open Classical in decide (¬ Cl (nms ts) (e8 κ p q ts) (del (· ∈ P) y) x)).map Val.int).length<sizeLine:=by rw[aae];unfold sizeLine;omega
  have hc:P.length<=100000:=by omega
  rw[aV,bB,ay];simp only[set_cons_succ,set_cons_zero];have et:zX (ai Dq) (.mth (!0) "free" [(0,12),(1,12)] #[.bin .add (.comp ["each","other"] [none,some 4] (.one 0) .seq #[!1] (.cmp .ne (!0) (!1)) (!0)) (.lst #[!2])]) [some (.sh,aZ κ p q ts),some (.sh,.rl (P.map .int)),some (.sh,.int x),some (.ow,.rl ((pre.filter λy=>open Classical in decide (¬ Cl (nms ts) (e8 κ p q ts) (del (· ∈ P) y) x)).map .int)),some (.sh,.int y)]=.ok (true,.bl (decide (e8 κ p q ts ((P.filter λz=>!decide (z=y))++[x])=(((P.filter λz=>!decide (z=y))++[x]).length:Int)))):=by
   generalize aZ κ p q ts=O at *;simp only[EV,ja,iY,length_map,hc];rw[jY Val.int Val.int (λz=>!decide (z=y)) P (λz hz=>by
    simp only[EV,aV]
    by_cases c:z=y<;>simp[c])]
   simp only[EV,z1,lz za,ea,m,jJ,ef]
  by_cases c:Cl (nms ts) (e8 κ p q ts) (del (· ∈ P) y) x
  ·rw[decide_eq_false λz=>(sw.mp z) c]at et;refine⟨_,?_,some (.sh,.int y),rfl⟩;rw[ak (fV et),av,filter_append];simp[c]
  ·rw[decide_eq_true (sw.mpr c)]at et;refine⟨_,?_,some (.sh,.int y),rfl⟩;rw[ak ((gE et).trans ((ak (env':=[some (.sh,aZ κ p q ts),some (.sh,.rl (P.map .int)),some (.sh,.int x),some (.ow,.rl ((pre.filter λy=>open Classical in decide (¬ Cl (nms ts) (e8 κ p q ts) (del (· ∈ P) y) x)).map .int++[.int y])),some (.sh,.int y)]) (by simp only[EV,zl])).trans (by rw[av]))),av,filter_append];simp[c]
 ·rintro env ⟨c,rfl⟩;refine⟨bD ((fF (nms ts) (e8 κ p q ts) P x).map .int),?_⟩;unfold fF;simp only[EV,ay]
theorem Ck(y:Int):∃f,lV [dJ R,.int y]=.ok (f,pW (home R y)):=by
 unfold lV;show ∃f,pb (av (ai KS) [] gn [some (.sh,dJ R),some (.sh,.int y),none]) _=_;unfold gn home;rw[av,HU (n:=2) rfl (by simp only[EV,ay];rfl) (by decide)];show ∃f,pb (pb (eE _ (Val.int (0+((0:Nat):Int))::Val.int (0+((1:Nat):Int))::[]) _) _) _=_;rw[show (0:Int)+((0:Nat):Int)=0 from rfl,show (0:Int)+((1:Nat):Int)=1 from rfl];rw[eE,aV,bB,ay];simp only[set_cons_succ,set_cons_zero]
 by_cases c0:y∈R.1
 ·rw[aak c0,lI ((gE (f:=true) (by simp only[EV,eW tH,qz,c0,decide_true])).trans (lI (p:=(true,.int 0)) (by simp only[EV,ay])))];exact⟨_,rfl⟩
 ·rw[aam c0,ak (fV (f:=true) (by simp only[EV,eW tH,qz,c0,decide_false])),av,ay]
  try dsimp only
  rw[eE,aV,bB,ay];simp only[set_cons_succ,set_cons_zero]
  by_cases c1:y∈R.2
  ·rw[aak c1,lI ((gE (f:=true) (by simp only[EV,eW pR,qz,c1,decide_true])).trans (lI (p:=(true,.int 1)) (by simp only[EV,ay])))];exact⟨_,rfl⟩
  ·rw[aam c1,ak (fV (f:=true) (by simp only[EV,eW pR,qz,c1,decide_false])),av,ay]
   try dsimp only
   rw[eE,ay];simp only[EV,ay];exact⟨_,rfl⟩
end
end K33
end
section
open PySem L2 Hv
namespace K33
section
variable {N S vis:List Int} {r:List Int->Int} {R:gR} {par:Int->Option Int}
open Classical in
theorem mem_push{P:List Int}{x y:Int}:y∈fF N r P x↔y∈P/\¬ Cl N r (del (· ∈ P) y) x:=by unfold fF;rw[aar,aaX]
def news(vis P:List Int):List Int:=P.filter λy=>!decide (y∈vis)
def nJ(vis P:List Int)(par:Int->Option Int)(x:Int):Int->Option Int:=λv=>if v∈P/\v∉vis then some x else par v
theorem jM{P:List Int}{y:Int}:y∈news vis P↔y∈P/\y∉vis:=by unfold news;rw[aar];simp
theorem gF{P:List Int}{y:Int}(h:y∈vis):(vis++P).idxOf y=vis.idxOf y:=by rw[List.idxOf_append,aak h]
theorem xP{P:List Int}{y:Int}(h:y∉vis):vis.length<=(vis++P).idxOf y:=by rw[List.idxOf_append,aam h];omega
theorem DN.more{HW:List Int}(s:∀y∈vis,y∈HW){u:Int}{a:Nat}(d:DN N r R vis u a):DN N r R HW u a:=λhu=>⟨(d hu).1,λy hy c=>s y ((d hu).2 y hy c)⟩
theorem we.grow(o:PO N r S R)(w:we N r S R vis par){x:Int}{a:Nat}(ha:a<2)(hx:x∈vis)(nx:x∉au R a)(dn:∀u∈vis,vis.idxOf u<vis.idxOf x->∀b,b<2->DN N r R vis u b) :
  we N r S R (vis++news vis (fF N r (au R a) x)) (nJ vis (fF N r (au R a) x) par x):=by
 have pm:∀v,v∈fF N r (au R a) x↔v∈au R a/\¬ Cl N r (del (· ∈ au R a) v) x:=λv=>mem_push;have ix:vis.idxOf x<vis.length:=idxOf_lt_length_iff.mpr hx;refine⟨?_,λv hv=>?_,λv hv hh=>aat _ (w.bM v hv hh),λv hv e=>?_,λv hv u e=>?_⟩
 ·rw[aaH];refine⟨w.nd,?_,λy hy z hz e=>(jM.mp hz).2 (e▸hy)⟩;unfold news fF;exact(o.ro.nd a).sublist (aaG.trans aaG)
 ·rcases aas.mp hv with q|q
  ·exact w.sub v q
  ·exact o.sub a ha v ((pm v).mp (jM.mp q).1).1
 ·unfold nJ at e
  rcases aas.mp hv with q|q
  ·rw[aam λz=>z.2 q]at e;exact w.non v q e
  ·rw[aak (jM.mp q)]at e;cases e
 ·unfold nJ at e
  have low:∀u'∈vis++news vis (fF N r (au R a) x),(vis++news vis (fF N r (au R a) x)).idxOf u'<vis.length->u'∈vis:=λu' _ hl=>byContradiction λn=>by
   have:=xP (P:=news vis (fF N r (au R a) x)) n;omega
  rcases aas.mp hv with q|q
  ·rw[aam λz=>z.2 q]at e;obtain⟨k1,k2,b,k3,k4,k5,k6⟩:=w.Qu v q u e;refine⟨aat _ k1,by rw[gF q,gF k1];exact k2,b,k3,k4,k5,λu' LA hl hn=>?_⟩;rw[gF k1]at hl;have:=idxOf_lt_length_iff.mpr k1;have hv':=low u' LA (by omega);rw[gF hv']at hl;exact k6 u' hv' hl hn
  ·obtain⟨q1,q2⟩:=jM.mp q;rw[aak ⟨q1,q2⟩]at e;cases e;obtain⟨p1,p2⟩:=(pm v).mp q1;refine⟨aat _ hx,by rw[gF hx];have:=xP (P:=news vis (fF N r (au R a) x)) q2;omega,a,(lG o.ro ha).mpr p1,nx,p2,λu' LA hl hn=>?_⟩;rw[gF hx]at hl;have hv':=low u' LA (by omega);rw[gF hv']at hl;exact byContradiction λc=>q2 ((dn u' hv' hl a ha hn).2 v p1 c)
theorem Lc{x:Int}{a:Nat}(c:Cl N r (· ∈ au R a) x):DN N r R (vis++news vis (fF N r (au R a) x)) x a:=λ_=>⟨c,λy hy n=>by
 by_cases hv:y∈vis
 ·exact aat _ hv
 ·refine aaD _ (jM.mpr ⟨?_,hv⟩);exact mem_push.mpr ⟨hy,n⟩⟩
end
def dU(par:Int->Option Int)(v:Int):Val:=match par v with
 |none=>.non
 |some u=>.int u
def UM:dm:=#[.iff (.and (.cmp .nin (!4) (.idx (!2) (¬0))) (.cmp .nin (!4) (.idx (!2) (¬1)))) #[.f9 (!3) (!4) (.cst .non)] .nil]
def UN:dm:=#[.iff (.cmp .nin (!7) (!3)) #[.f9 (!3) (!7) (!4),.expr (.met .append (!5) #[!7])] .nil]
def Wv:IE:=(.mth (!0) "free" [(0,12),(1,12)] #[.bin .add (.idx (!2) (!6)) (.lst #[!4])])
def PU:dm:=#[.iff (.cmp .inn (!4) (.idx (!2) (!6))) #[.cnt] .nil,.iff Wv #[.ret (.tup #[!3,!4,!6])] .nil,.for (.one 7) .seq #[.call 13 #[!0,.idx (!2) (!6),!4]] UN]
def wB:dm:=#[.asg (.one 4) (.met .pop (!5) #[¬0]),.for (.one 6) .range #[¬2] PU]
def wC:IE:=(.cmp .gt (.blt .len #[!5]) (¬0))
theorem PV:iC=.cons (.asg (.one 3) .dct0) #[.for (.one 4) .seq #[!1] UM,.asg (.one 5) (.lkeys (!3)),.whl 100000 wC wB,.ret (.tup #[!3,.cst .non,.cst .non])]:=rfl
abbrev MS:List Nat:=[3,5,3,5]
abbrev Sl:=Option (Mk×Val)
abbrev wE(O:Val)(S:List Int)(R:gR)(vis:List Int)(par:Int->Option Int)(ws:List Int)(c4 c6 c7:Sl):bC:=[some (.sh,O),some (.sh,.rl (S.map .int)),some (.sh,dJ R),some (.ow,jW vis (dU par)),c4,some (.ow,.rl (ws.map .int)),c6,c7]
theorem PX{a:Nat}(ha:a<2):mY [] (dJ R) (.int (a:Int))=some (.rl ((au R a).map .int)):=by
 have:a=0\/a=1:=by omega
 rcases this with rfl|rfl<;>rfl
theorem HX{xs:List Int}{x:Int}:cop [] .nin (.int x) (jW xs g)=some (!decide (x∈xs)):=by
 show (cop [] .inn (.int x) (jW xs g)).map _=_;rw[Tf];rfl
section
variable {κ:Nat} {p q:Int} {ts:List T3} {S:List Int} {R:gR} {O:Val}
theorem DC{vis:List Int}{x:Int}{P ws:List Int}(hP:P.Nodup)(hl:vis.length+P.length<=60)(hw:ws.length+P.length<=60){c6:Sl}:∀c7:Sl,∃Iz:Sl,
  eE (λv env=>pb (pl (cF (.one 7) v env)) λenv'=>av (ai dR) MS UN env') (P.map .int) (wE O S R vis par ws (some (.sh,.int x)) c6 c7)=.ok (.nx (wE O S R (vis++news vis P) (nJ vis P par x) (ws++news vis P) (some (.sh,.int x)) c6 Iz)):=by
 intro c7;obtain⟨env',e,c,he⟩:=iA Val.int (body:=λv env=>pb (pl (cF (.one 7) v env)) λenv'=>av (ai dR) MS UN env')
  (λdone env=>∃c:Sl,env=wE O S R (vis++news vis done) (nJ vis done par x) (ws++news vis done) (some (.sh,.int x)) c6 c)
  P [] (wE O S R vis par ws (some (.sh,.int x)) c6 c7) ⟨c7,by unfold news nJ;simp⟩ (by
  rintro pre y post env hx ⟨c,rfl⟩;have hx:P=pre++y::post:=hx;have hpl:pre.length<P.length:=by rw[hx,aaj,aaE];omega
  have hnl:(news vis pre).length<=pre.length:=length_filter_le _ _;have ny:y∉pre:=λz=>by
   rw[hx,aaH]at hP;exact hP.2.2 y z y aag rfl
  rw[aV,bB,ay];simp only[set_cons_succ,set_cons_zero];unfold UN
  by_cases hv:y∈vis
  ·have en:news vis (pre++[y])=news vis pre:=by unfold news;rw[filter_append];simp[hv]
   have ep:nJ vis (pre++[y]) par x=nJ vis pre par x:=funext λv=>by
    unfold nJ
    by_cases c:v∈pre/\v∉vis
    ·rw[aak c,aak ⟨aat _ c.1,c.2⟩]
    ·rw[aam c,aam]
     rintro⟨k1,k2⟩
     rcases aas.mp k1 with k|k
     ·exact c ⟨k,k2⟩
     ·rw[aap.mp k]at k2;exact k2 hv
   refine⟨_,?_,some (.sh,.int y),rfl⟩;rw[en,ep,ak (fV (f:=true) (by simp only[EV,HX,List.mem_append_left _ hv,decide_true,Bool.not_true])),av]
  ·have nn:y∉vis++news vis pre:=λz=>(aas.mp z).elim hv λz=>ny (jM.mp z).1
   have en:news vis (pre++[y])=news vis pre++[y]:=by unfold news;rw[filter_append];simp[hv]
   have zz:((vis++news vis pre).map (Sum.inl:Int->Key)).length<sizeLine:=by rw[aae,aaj];unfold sizeLine;omega
   have zw:((ws++news vis pre).map Val.int).length<sizeLine:=by rw[aae,aaj];unfold sizeLine;omega
   have pn:putD ((vis++news vis pre).map Sum.inl) ((vis++news vis pre).map (dU (nJ vis pre par x))) (.inl y) (.int x)=jW (vis++(news vis pre++[y])) (dU (nJ vis (pre++[y]) par x)):=by
    rw[xm nn,aaS];refine iB λv hv'=>?_;unfold uz dU nJ
    by_cases c:v=y
    ·subst c;rw[aak rfl,aak ⟨by simp,hv⟩]
    ·rw[aam c]
     by_cases c2:v∈pre/\v∉vis
     ·rw[aak c2,aak ⟨aat _ c2.1,c2.2⟩]
     ·rw[aam c2,aam]
      rintro⟨k1,k2⟩
      rcases aas.mp k1 with k|k
      ·exact c2 ⟨k,k2⟩
      ·exact c (aap.mp k)
   have ew:(ws++news vis pre).map Val.int++[.int y]=(ws++(news vis pre++[y])).map .int:=by simp only[List.map_append,List.append_assoc,map_cons,map_nil]
   refine⟨_,?_,some (.sh,.int y),rfl⟩;rw[en,ak ((gE (f:=true) (by simp only[EV,HX,nn,decide_false,Bool.not_false])).trans ((ak (env':=wE O S R (vis++(news vis pre++[y])) (nJ vis (pre++[y]) par x) (ws++news vis pre) (some (.sh,.int x)) c6 (some (.sh,.int y))) (by simp only[EV,BS,zz,pn])).trans ((ak (env':=wE O S R (vis++(news vis pre++[y])) (nJ vis (pre++[y]) par x) (ws++(news vis pre++[y])) (some (.sh,.int x)) c6 (some (.sh,.int y))) (by simp only[EV,zw,ew])).trans (by rw[av])))),av])
 exact⟨c,by rw[e,he];rfl⟩
end
end K33
end
section
open PySem L2 Hv
namespace K33
section
variable {κ:Nat} {p q:Int} {ts:List T3} {S:List Int} {R:gR}
structure Qv (N:List Int) (r:List Int->Int) (S:List Int) (R:gR) (vis:List Int) (par:Int->Option Int) (x:Int) (k:Nat):Prop where
 v:we N r S R vis par
 hx:x∈vis
 dn:∀u∈vis,vis.idxOf u<vis.idxOf x->∀a,a<2->DN N r R vis u a
 now:∀a,a<k->DN N r R vis x a
def Qw(N:List Int)(r:List Int->Int)(S:List Int)(R:gR)(v:Val):Prop:=∃vis par x a,v=.tup [jW vis (dU par),.int x,.int ((a:Nat):Int)]/\we N r S R vis par/\x∈vis/\a<2/\x∉au R a/\¬ Cl N r (· ∈ au R a) x/\∀u∈vis,vis.idxOf u<vis.idxOf x->∀b,b<2->DN N r R vis u b
theorem lY(w:we (nms ts) (e8 κ p q ts) S R vis par)(sN:∀x∈S,x∈nms ts)(ok:aU p q ts):vis.length<=15:=aaN (bO w.nd λx hx=>sN x (w.sub x hx)) (lX ok)
theorem zQ(hk:0 < κ /\ κ < 3)(ok:aU p q ts)(sN:∀x∈S,x∈nms ts)(o:PO (nms ts) (e8 κ p q ts) S R){vis:List Int}{x:Int}{a:Nat}(ha:a<2)(st:Qv (nms ts) (e8 κ p q ts) S R vis par x a){ws:List Int}(hw:ws.length<=15){c7:Sl} :
  (∃f v,Qw (nms ts) (e8 κ p q ts) S R v/\av (ai dR) MS PU (wE (aZ κ p q ts) S R vis par ws (some (.sh,.int x)) (some (.sh,.int (a:Int))) c7)=.ok (.rt (f,v))) \/
  ∃E par' Iz,Qv (nms ts) (e8 κ p q ts) S R (vis++E) par' x (a+1)/\(av (ai dR) MS PU (wE (aZ κ p q ts) S R vis par ws (some (.sh,.int x)) (some (.sh,.int (a:Int))) c7)=.ok (.nx (wE (aZ κ p q ts) S R (vis++E) par' (ws++E) (some (.sh,.int x)) (some (.sh,.int (a:Int))) Iz))\/av (ai dR) MS PU (wE (aZ κ p q ts) S R vis par ws (some (.sh,.int x)) (some (.sh,.int (a:Int))) c7)=.ok (.ct (wE (aZ κ p q ts) S R (vis++E) par' (ws++E) (some (.sh,.int x)) (some (.sh,.int (a:Int))) Iz))):=by
 have h:=qI ok hk.2;have hN:=cY ok;have ix:=PX (R:=R) ha;have xN:=sN x (st.v.sub x st.hx);have rN:∀y∈au R a,y∈nms ts:=λy hy=>sN y (o.sub a ha y hy);have rn:=o.ro.nd a;unfold PU
 by_cases c1:x∈au R a
 ·right
  refine⟨[],par,c7,?_,.inr ?_⟩
  ·rw[aaM]
   exact⟨st.v,st.hx,st.dn,λb hb=>by
    by_cases e:b=a
    ·rw[e];exact λz=>absurd c1 z
    ·exact st.now b (by omega)⟩
  ·rw[aaM,aaM]
   have e1:bw (ai dR) MS (.iff (.cmp .inn (!4) (.idx (!2) (!6))) #[.cnt] .nil) (wE (aZ κ p q ts) S R vis par ws (some (.sh,.int x)) (some (.sh,.int (a:Int))) c7)=.ok (.ct (wE (aZ κ p q ts) S R vis par ws (some (.sh,.int x)) (some (.sh,.int (a:Int))) c7)):=by generalize aZ κ p q ts=O at *;rw[gE (f:=true) (by simp only[EV,ix,qz,c1,decide_true]),av,bw];rfl
   rw[av,e1];rfl
 ·have q1:bw (ai dR) MS (.iff (.cmp .inn (!4) (.idx (!2) (!6))) #[.cnt] .nil) (wE (aZ κ p q ts) S R vis par ws (some (.sh,.int x)) (some (.sh,.int (a:Int))) c7)=.ok (.nx (wE (aZ κ p q ts) S R vis par ws (some (.sh,.int x)) (some (.sh,.int (a:Int))) c7)):=by
   generalize aZ κ p q ts=O at *;exact fV (f:=true) (by simp only[EV,ix,qz,c1,decide_false])
  rw[ak q1];have hl:(au R a).length<=14:=by
   have:(au R a++[x]).length<=15:=aaN (bO (e9 rn c1) λy hy=>by
    rcases(aN y).mp hy with z|z
    ·exact rN y z
    ·rw[z];exact xN) (lX ok)
   rw[aaj,aaQ]at this;omega
  have ef:=free_eq hk ok (P:=au R a++[x]) (λy hy=>by
    rcases(aN y).mp hy with z|z
    ·exact rN y z
    ·rw[z];exact xN) (by rw[aaj,aaQ];omega)
  have m:=m3 hk (p:=p) (q:=q) (ts:=ts) (m:="free") (j:=12) (by decide);have fa:=HV h hN rn rN (o.fr a ha) xN c1;have z1:1<=sizeLine:=by decide
  have z3:3<=sizeLine:=by decide
  have za:((au R a).map Val.int).length+([.int x]:List Val).length<=sizeLine:=by rw[aae];simp;unfold sizeLine;omega
  have ea:(au R a).map Val.int++[.int x]=(au R a++[x]).map .int:=by rw[aaO];rfl
  have et:zX (ai dR) Wv (wE (aZ κ p q ts) S R vis par ws (some (.sh,.int x)) (some (.sh,.int (a:Int))) c7)=.ok (true,.bl (decide (e8 κ p q ts (au R a++[x])=((au R a++[x]).length:Int)))):=by generalize aZ κ p q ts=O at *;unfold Wv;simp only[EV,ix,z1,lz za,ea,m,mh,ef]
  by_cases c2:Cl (nms ts) (e8 κ p q ts) (· ∈ au R a) x
  ·right
   rw[decide_eq_false λz=>(fa.mp z) c2]at et;obtain⟨fl,ep⟩:=DA hk ok rn rN (o.fr a ha) xN c1 hl;have hvl:=lY st.v sN ok;have pl:(fF (nms ts) (e8 κ p q ts) (au R a) x).length<=14:=by unfold fF;exact aaN (length_filter_le _ _) hl
   have pnd:(fF (nms ts) (e8 κ p q ts) (au R a) x).Nodup:=by unfold fF;exact rn.sublist aaG
   have gr:=st.v.grow o ha st.hx c1 st.dn;have Ww:=Lc (vis:=vis) c2;generalize fF (nms ts) (e8 κ p q ts) (au R a) x=P at *;obtain⟨Iz,el⟩:=DC (O:=aZ κ p q ts) (S:=S) (R:=R) (vis:=vis) (par:=par) (x:=x) (P:=P) (ws:=ws) pnd (by omega) (by omega) (c6:=some (.sh,.int (a:Int))) c7;refine⟨news vis P,nJ vis P par x,Iz,⟨gr,aat _ st.hx,λu hu hi b hb=>?_,λb hb=>?_⟩,.inl ?_⟩
   ·rw[gF st.hx]at hi
    have:=idxOf_lt_length_iff.mpr st.hx;have hv:u∈vis:=byContradiction λn=>by have:=xP (P:=news vis P) n;omega
    rw[gF hv]at hi;exact(st.dn u hv hi b hb).more λy hy=>aat _ hy
   ·by_cases e:b=a
    ·rw[e];exact Ww
    ·exact(st.now b (by omega)).more λy hy=>aat _ hy
   ·rw[ak (fV et),ak ((Cj (vs:=P.map .int) rfl (by
     generalize aZ κ p q ts=O at *;simp only[EV,ix,k9,ep])).trans el),av]
  ·left
   rw[decide_eq_true (fa.mpr c2)]at et;refine⟨false,.tup [jW vis (dU par),.int x,.int (a:Int)],⟨vis,par,x,a,rfl,st.v,st.hx,ha,c1,c2,st.dn⟩,lI ((gE et).trans (lI ?_))⟩;generalize aZ κ p q ts=O at *;simp only[EV,z3]
end
end K33
end
section
open PySem L2 Hv
namespace K33
section
variable {κ:Nat} {p q:Int} {ts:List T3} {S:List Int} {R:gR}
theorem PY{n:Nat}(hc:c env=.ok true)(hb:body env=.ok (.nx env')):nt c body (n+1) env=nt c body n env':=by
 rw[nt,hc,ay,aak rfl,hb,ay]
theorem Cm{x:Int}{k:Nat}{vis:List Int}(st:Qv (nms ts) (e8 κ p q ts) S R vis par x k)(sN:∀x∈S,x∈nms ts)(ok:aU p q ts):vis.length<=15:=lY st.v sN ok
theorem DE(hk:0 < κ /\ κ < 3)(ok:aU p q ts)(sN:∀x∈S,x∈nms ts)(o:PO (nms ts) (e8 κ p q ts) S R){vis:List Int}{x:Int}(st:Qv (nms ts) (e8 κ p q ts) S R vis par x 0){ws:List Int}(hw:ws.length<vis.length){c4 c6 c7:Sl} :
  (∃f v,Qw (nms ts) (e8 κ p q ts) S R v/\av (ai dR) MS wB (wE (aZ κ p q ts) S R vis par (x::ws) c4 c6 c7)=.ok (.rt (f,v))) \/
  ∃E par' d4 d6 d7,Qv (nms ts) (e8 κ p q ts) S R (vis++E) par' x 2/\av (ai dR) MS wB (wE (aZ κ p q ts) S R vis par (x::ws) c4 c6 c7)=.ok (.nx (wE (aZ κ p q ts) S R (vis++E) par' (ws++E) d4 d6 d7)):=by
 have q1:bw (ai dR) MS (.asg (.one 4) (.met .pop (!5) #[¬0])) (wE (aZ κ p q ts) S R vis par (x::ws) c4 c6 c7)=.ok (.nx (wE (aZ κ p q ts) S R vis par ws (some (.sh,.int x)) c6 c7)):=by rw[bw];rfl
 have l1:=Cm st sN ok;unfold wB;rw[ak q1,av,HU (n:=2) rfl (by simp only[EV,ay];rfl) (by decide)];generalize hbd:(λ(x:Val) (env:bC)=>pb (pl (cF (.one 6) x env)) λenv'=>av (ai dR) MS PU env')=bd;have hb:∀(a:Nat) (vis ws:List Int) (par:Int->Option Int) (c6 c7:Sl),bd (.int (a:Int)) (wE (aZ κ p q ts) S R vis par ws (some (.sh,.int x)) c6 c7)=av (ai dR) MS PU (wE (aZ κ p q ts) S R vis par ws (some (.sh,.int x)) (some (.sh,.int (a:Int))) c7):=λa vis ws par c6 c7=>by
  subst hbd;dsimp only;rw[aV,bB,ay];rfl
 show (∃f v,_/\pb (eE bd (Val.int (0+((0:Nat):Int))::Val.int (0+((1:Nat):Int))::[]) _) _=_)\/∃E par' d4 d6 d7,_/\pb (eE bd (Val.int (0+((0:Nat):Int))::Val.int (0+((1:Nat):Int))::[]) _) _=_;rw[Int.zero_add,Int.zero_add,eE,hb 0]
 rcases zQ hk ok sN o (a:=0) (by decide) st (ws:=ws) (by omega) (c7:=c7) with ⟨f,v,hit,e⟩|⟨E,TR,Iz,st1,e⟩
 ·left;exact⟨f,v,hit,by rw[e];rfl⟩
 ·have l2:=Cm st1 sN ok
  have go:∀Wx:Sl,(∃f v,Qw (nms ts) (e8 κ p q ts) S R v/\eE bd [Val.int ((1:Nat):Int)] (wE (aZ κ p q ts) S R (vis++E) TR (ws++E) (some (.sh,.int x)) Wx Iz)=.ok (.rt (f,v)))\/∃E' par' d4 d6 d7,Qv (nms ts) (e8 κ p q ts) S R (vis++E') par' x 2/\eE bd [Val.int ((1:Nat):Int)] (wE (aZ κ p q ts) S R (vis++E) TR (ws++E) (some (.sh,.int x)) Wx Iz)=.ok (.nx (wE (aZ κ p q ts) S R (vis++E') par' (ws++E') d4 d6 d7)):=λWx=>by
   rw[eE,hb 1]
   rcases zQ hk ok sN o (a:=1) (by decide) st1 (ws:=ws++E) (by rw[aaj]at l2 |-;omega) (c7:=Iz) with ⟨f,v,hit,e⟩|⟨E2,Wz,WA,st2,e⟩
   ·left;exact⟨f,v,hit,by rw[e];rfl⟩
   ·right
    rw[aaS]at st2;refine⟨E++E2,Wz,some (.sh,.int x),some (.sh,.int ((1:Nat):Int)),WA,st2,?_⟩;rw[aaS,aaS]at e
    rcases e with e|e<;>(rw[e];rfl)
  rcases go (some (.sh,.int ((0:Nat):Int))) with ⟨f,v,hit,e2⟩|⟨E',par',d4,d6,d7,st2,e2⟩
  ·left
   refine⟨f,v,hit,?_⟩
   rcases e with e|e<;>(rw[e,ay];dsimp only;rw[e2];rfl)
  ·right
   refine⟨E',par',d4,d6,d7,st2,?_⟩
   rcases e with e|e<;>(rw[e,ay];dsimp only;rw[e2,ay];show av _ _ .nil _=_;rw[av])
def End(N:List Int)(r:List Int->Int)(S:List Int)(R:gR)(vis:List Int)(par:Int->Option Int):Prop:=we N r S R vis par/\∀u∈vis,∀a,a<2->DN N r R vis u a
theorem zR(hk:0 < κ /\ κ < 3)(ok:aU p q ts)(sN:∀x∈S,x∈nms ts)(o:PO (nms ts) (e8 κ p q ts) S R):∀(m n i:Nat) (vis:List Int) (par:Int->Option Int) (c4 c6 c7:Sl),15-i<m->m<=n->i<=vis.length->we (nms ts) (e8 κ p q ts) S R vis par->(∀u∈vis,vis.idxOf u<i->∀a,a<2->DN (nms ts) (e8 κ p q ts) R vis u a) ->
  (∃f v,Qw (nms ts) (e8 κ p q ts) S R v/\nt (λenv=>pb (zX (ai dR) wC env) λx=>pl (cZ [] x.2)) (av (ai dR) MS wB) n (wE (aZ κ p q ts) S R vis par (vis.drop i) c4 c6 c7)=.ok (.rt (f,v))) \/
  ∃HW par' d4 d6 d7,End (nms ts) (e8 κ p q ts) S R HW par'/\nt (λenv=>pb (zX (ai dR) wC env) λx=>pl (cZ [] x.2)) (av (ai dR) MS wB) n (wE (aZ κ p q ts) S R vis par (vis.drop i) c4 c6 c7)=.ok (.nx (wE (aZ κ p q ts) S R HW par' [] d4 d6 d7))
 |0,n,i,vis,par,c4,c6,c7,hm,_,_,_,_=>absurd hm (not_lt_zero _)
 |m+1,0,i,vis,par,c4,c6,c7,_,hn,_,_,_=>absurd hn (Nat.not_succ_le_zero _)
 | m+1,n+1,i,vis,par,c4,c6,c7,hm,hn,hi,w,dn=>by
  have lv:=lY w sN ok
  rcases Nat.lt_or_ge i vis.length with hlt|hge
  ·have hd:=List.drop_eq_getElem_cons hlt
   have ex:vis.idxOf vis[i]=i:=w.nd.idxOf_getElem i hlt;have hx:vis[i]∈vis:=List.getElem_mem hlt;have hc:(λenv=>pb (zX (ai dR) wC env) λx=>pl (cZ [] x.2)) (wE (aZ κ p q ts) S R vis par (vis[i]::vis.drop (i+1)) c4 c6 c7)=.ok true:=by
    generalize aZ κ p q ts=O at *;unfold wC;have:((((vis.drop (i+1)).length+1:Nat):Int)>0)=True:=by simp only[gt_iff_lt,eq_iff_iff,iff_true];omega
    simp only[EV,length_map,length_cons,this,decide_true]
   rw[hd]
   rcases DE hk ok sN o (vis:=vis) (par:=par) (x:=vis[i]) ⟨w,hx,λu hu hl=>dn u hu (by rw[ex]at hl;exact hl),λa ha=>absurd ha (not_lt_zero _)⟩ (ws:=vis.drop (i+1)) (by rw[length_drop];omega) (c4:=c4) (c6:=c6) (c7:=c7) with ⟨f,v,hit,e⟩|⟨E,par',d4,d6,d7,st,e⟩
   ·left;exact⟨f,v,hit,La hc e⟩
   ·have ed:(vis++E).drop (i+1)=vis.drop (i+1)++E:=List.drop_append_of_le_length (by omega)
    have step:nt (λenv=>pb (zX (ai dR) wC env) λx=>pl (cZ [] x.2)) (av (ai dR) MS wB) (n+1) (wE (aZ κ p q ts) S R vis par (vis[i]::vis.drop (i+1)) c4 c6 c7)=nt (λenv=>pb (zX (ai dR) wC env) λx=>pl (cZ [] x.2)) (av (ai dR) MS wB) n (wE (aZ κ p q ts) S R (vis++E) par' ((vis++E).drop (i+1)) d4 d6 d7):=by rw[ed];exact PY hc e
    rw[step];refine zR hk ok sN o m n (i+1) (vis++E) par' d4 d6 d7 (by omega) (by omega) (by rw[aaj];omega) st.v λu hu hl a ha=>?_;have ex':(vis++E).idxOf vis[i]=i:=by rw[gF hx,ex]
    by_cases c:(vis++E).idxOf u<i
    ·exact st.dn u hu (by rw[ex'];exact c) a ha
    ·have ei:(vis++E).idxOf u=i:=by omega
     have hul:=idxOf_lt_length_iff.mpr hu;have e1:=List.getElem_idxOf hul;have:u=vis[i]:=by rw[<-e1];simp only[ei];rw[List.getElem_append_left hlt]
     rw[this];exact st.now a ha
  ·right
   have ed:vis.drop i=[]:=List.drop_eq_nil_of_le hge;refine⟨vis,par,c4,c6,c7,⟨w,λu hu a ha=>dn u hu (by have:=idxOf_lt_length_iff.mpr hu;omega) a ha⟩,?_⟩;rw[ed];refine FY ?_;generalize aZ κ p q ts=O at *;unfold wC;simp only[EV,map_nil,length_nil];rfl
end
end K33
end
section
open PySem L2 Hv
namespace K33
section
variable {κ:Nat} {p q:Int} {ts:List T3} {S:List Int} {R:gR}
def eO(S:List Int)(R:gR):List Int:=S.filter λy=>!decide (y∈R.1) && !decide (y∈R.2)
theorem rz{y:Int}:y∈eO S R↔y∈S/\home R y=none:=by
 unfold eO home;rw[aar]
 by_cases c1:y∈R.1<;>by_cases c2:y∈R.2<;>simp[c1,c2]
theorem Ld(hn:S.Nodup)(hl:S.length<=15) :
  ∃c4:Sl,av (ai dR) MS (.cons (.asg (.one 3) .dct0) (.cons (.for (.one 4) .seq #[!1] UM) (.cons (.asg (.one 5) (.lkeys (!3))) T))) [some (.sh,O),some (.sh,.rl (S.map .int)),some (.sh,dJ R),none,none,none,none,none]=av (ai dR) MS T (wE O S R (eO S R) (λ_=>none) (eO S R) c4 none none):=by
 have q1:bw (ai dR) MS (.asg (.one 3) .dct0) [some (.sh,O),some (.sh,.rl (S.map .int)),some (.sh,dJ R),none,none,none,none,none]=.ok (.nx [some (.sh,O),some (.sh,.rl (S.map .int)),some (.sh,dJ R),some (.ow,jW [] (dU λ_=>none)),none,none,none,none]):=by simp only[EV,ay];rfl
 rw[ak q1];obtain⟨env',e,c4,he⟩:=iA Val.int (body:=λx env=>pb (pl (cF (.one 4) x env)) λenv'=>av (ai dR) MS UM env')
  (λdone env=>∃c4:Sl,env=[some (.sh,O),some (.sh,.rl (S.map .int)),some (.sh,dJ R),some (.ow,jW (eO done R) (dU λ_=>none)),c4,none,none,none])
  S [] [some (.sh,O),some (.sh,.rl (S.map .int)),some (.sh,dJ R),some (.ow,jW [] (dU λ_=>none)),none,none,none,none] ⟨none,rfl⟩ (by
   rintro pre y post env hx ⟨c,rfl⟩;have hx:S=pre++y::post:=hx;have hpl:(eO pre R).length<=15:=by have:(eO pre R).length<=pre.length:=length_filter_le _ _;have:=congrArg length hx;rw[aaj,aaE]at this;omega
   have hnew:y∉eO pre R:=λz=>by
    rw[hx,aaH]at hn;exact hn.2.2 y (rz.mp z).1 y (by simp) rfl
   have zz:((eO pre R).map (Sum.inl:Int->Key)).length<sizeLine:=by rw[aae];unfold sizeLine;omega
   have pn:putD ((eO pre R).map Sum.inl) ((eO pre R).map (dU λ_=>none)) (.inl y) .non=jW (eO pre R++[y]) (dU λ_=>none):=by rw[xm hnew];exact iB λz _=>by unfold uz dU;split<;>rfl
   rw[aV,bB,ay];simp only[set_cons_succ,set_cons_zero];unfold UM
   by_cases c1:y∈R.1
   ·refine⟨_,?_,some (.sh,.int y),rfl⟩
    have en:eO (pre++[y]) R=eO pre R:=by unfold eO;rw[filter_append];simp[c1]
    rw[en,ak (fV (f:=true) (by simp only[EV,eW tH,eW pR,xq,c1,decide_true,Bool.not_true])),av]
   ·by_cases c2:y∈R.2
    ·refine⟨_,?_,some (.sh,.int y),rfl⟩
     have en:eO (pre++[y]) R=eO pre R:=by unfold eO;rw[filter_append];simp[c2]
     rw[en,ak (fV (f:=true) (by simp only[EV,eW tH,eW pR,xq,c1,c2,decide_true,decide_false,Bool.not_true,Bool.not_false])),av]
    ·refine⟨_,?_,some (.sh,.int y),rfl⟩
     have en:eO (pre++[y]) R=eO pre R++[y]:=by unfold eO;rw[filter_append];simp[c1,c2]
     have e1:bw (ai dR) MS (.f9 (!3) (!4) (.cst .non)) [some (.sh,O),some (.sh,.rl (S.map .int)),some (.sh,dJ R),some (.ow,jW (eO pre R) (dU λ_=>none)),some (.sh,.int y),none,none,none]=.ok (.nx [some (.sh,O),some (.sh,.rl (S.map .int)),some (.sh,dJ R),some (.ow,jW (eO pre R++[y]) (dU λ_=>none)),some (.sh,.int y),none,none,none]):=by simp only[EV,BS,zz,pn]
     rw[en,ak ((gE (f:=true) (by simp only[EV,eW tH,eW pR,xq,c1,c2,decide_false,Bool.not_false])).trans ((ak e1).trans (by rw[av]))),av])
 rw[ak ((Cj rfl (by simp only[EV,ay])).trans (e.trans (by rw[he])))];have ky:ve [] (jW (eO S R) (dU λ_=>none))=some ((eO S R).map Sum.inl):=rfl;have kv:((eO S R).map (Sum.inl:Int->Key)).map EH=(eO S R).map Val.int:=by rw[aa2];rfl
 have q3:bw (ai dR) MS (.asg (.one 5) (.lkeys (!3))) [some (.sh,O),some (.sh,.rl (S.map .int)),some (.sh,dJ R),some (.ow,jW (eO S R) (dU λ_=>none)),c4,none,none,none]=.ok (.nx (wE O S R (eO S R) (λ_=>none) (eO S R) c4 none none)):=by simp only[EV,ky,kv]
 exact⟨c4,ak q3⟩
theorem AR(hk:0 < κ /\ κ < 3)(ok:aU p q ts)(hS:S.Nodup)(sN:∀x∈S,x∈nms ts)(o:PO (nms ts) (e8 κ p q ts) S R):∃f v,kY [aZ κ p q ts,.rl (S.map .int),dJ R]=.ok (f,v)/\(Qw (nms ts) (e8 κ p q ts) S R v\/∃vis par,v=.tup [jW vis (dU par),.non,.non]/\End (nms ts) (e8 κ p q ts) S R vis par):=by
 have hl:S.length<=15:=sub_len ok hS sN;have v0:we (nms ts) (e8 κ p q ts) S R (eO S R) λ_=>none:=⟨hS.sublist aaG,λv hv=>(rz.mp hv).1,λv hv hh=>rz.mpr ⟨hv,hh⟩,λv hv _=>(rz.mp hv).2,λv hv u e=>by cases e⟩;have z3:3<=sizeLine:=by decide
 have fin:∀c4:Sl,∃f v,av (ai dR) MS #[.whl 100000 wC wB,.ret (.tup #[!3,.cst .non,.cst .non])] (wE (aZ κ p q ts) S R (eO S R) (λ_=>none) (eO S R) c4 none none)=.ok (.rt (f,v))/\(Qw (nms ts) (e8 κ p q ts) S R v\/∃vis par,v=.tup [jW vis (dU par),.non,.non]/\End (nms ts) (e8 κ p q ts) S R vis par):=λc4=>by
  rcases zR hk ok sN o 16 100000 0 (eO S R) (λ_=>none) c4 none none (by omega) (by omega) (zero_le _) v0 (λu _ hl=>absurd hl (not_lt_zero _)) with ⟨f,v,hit,e⟩|⟨vis,par,d4,d6,d7,en,e⟩
  ·exact⟨f,v,lI (by rw[bw];exact e),.inl hit⟩
  ·refine⟨false,.tup [jW vis (dU par),.non,.non],?_,.inr ⟨vis,par,rfl,en⟩⟩;rw[ak (env':=wE (aZ κ p q ts) S R vis par [] d4 d6 d7) (by rw[bw];exact e)];generalize aZ κ p q ts=O at *;simp only[EV,z3]
 obtain⟨c4,key⟩:=Ld (O:=aZ κ p q ts) (R:=R) hS hl (T:=.cons (.whl 100000 wC wB) #[.ret (.tup #[!3,.cst .non,.cst .non])]);obtain⟨f,v,e,hv⟩:=fin c4;refine⟨f,v,?_,hv⟩;unfold kY;show pb (av (ai dR) MS iC [some (.sh,aZ κ p q ts),some (.sh,.rl (S.map .int)),some (.sh,dJ R),none,none,none,none,none]) _=_;rw[PV,key,e];rfl
theorem qJ:∀{q:List Int},(∀y∈q,home R y=home Q y)->oU R q->oU Q q
 |[],_,h=>h.elim
 |[y],e,h=>(e y (by simp)).symm.trans h
 |y::x::q,e,h=>⟨by rw[<-e y (by simp)];exact h.1,qJ (λz hz=>e z (aac _ hz)) h.2⟩
theorem TU{y:Int}{q:List Int}{room:Nat}(o:RO R)(hr:room<2)(hl:tot R+(y::q).length<=40):(au (jZ R y) room).length<64:=by
 have:=xO (R:=R) (y:=y) (room:=room);have h2:(au (ki R y room) room).length<=tot (ki R y room):=by unfold au tot;split<;>omega
 have h3:(au (ki R y room) room).length=(au (jZ R y) room).length+1:=by unfold ki;rw[xH hr hr,aak rfl,aaj];rfl
 rw[aaE]at hl;split at this<;>omega
theorem rD{vis:List Int}{y:Int}(h:y∈vis):fH ((vis.map (Sum.inl:Int->Key)).zip (vis.map (dU par))) (.inl y)=some (dU par y):=pT (g:=dU par) h
theorem LZ{vis:List Int}:∀(q:List Int) (R:gR) (room:Nat),HN par q->RO R->q.Nodup->(∀y∈q,y∈vis)->oU R q->room<2->tot R+q.length<=40->vG (ai qa) 15 (vis.map Sum.inl) (vis.map (dU par)) q room R
 | _,R,room,.one (y:=y) e,o,nd,hv,hm,hr,hl=>by
  refine⟨hr,Ck y,?_,λ_=>rfl,?_,trivial⟩
  ·rw[rD (hv y (by simp))];unfold dU;rw[e];rfl
  ·exact TU o hr hl
 | _,R,room,.cons (y:=y) (x:=x) (q:=q) e p,o,nd,hv,hm,hr,hl=>by
  have Ry:=aaI.mp nd;have hme:=Option.ne_none_iff_exists'.mp hm.1;refine⟨hr,Ck y,?_,λz=>absurd z hm.1,TU o hr hl,LZ (x::q) _ _ p (xM o hr) Ry.2 (λz hz=>hv z (aac _ hz)) ?_ vX ?_⟩
  ·rw[rD (hv y (by simp))];unfold dU;rw[e];rfl
  ·exact qJ (λz hz=>(ud o hr λe':z=y=>Ry.1 (e'▸hz)).symm) hm.2
  ·rw[xO,aam hm.1];rw[aaE]at hl;omega
end
end K33
end
section
open PySem L2 Hv
namespace K33
theorem ue(par:Int->Option Int):∀vis:List Int,bD (vis.map (dU par))=true
 |[]=>rfl
 | v::vis=>by
  have e:jx (dU par v)=true:=by unfold dU;split<;>rfl
  rw[aaq,bD,e,ue par vis];rfl
theorem Cn{jH:Nat}{vis:List Int}:∀{l:List Int},HN par l->∀{y:Int} {q q':List Int} {room:Nat} {R:gR},l=y::q'->(∀z∈y::q',z∈vis)->vG Ψ jH (vis.map Sum.inl) (vis.map (dU par)) (y::q) room R->q=q'
 | _,.one e,y,q,q',room,R,el,hv,ok=>by
  cases el;obtain⟨_,_,k,_⟩:=ok;rw[rD (hv _ aag)]at k;unfold dU at k;rw[e]at k;cases q with
  |nil=>rfl
  |cons a q=>cases k
 | _,.cons e p,y,q,q',room,R,el,hv,ok=>by
  cases el;obtain⟨_,_,k,_,_,ok⟩:=ok;rw[rD (hv _ aag)]at k;unfold dU at k;rw[e]at k;cases q with
  |nil=>cases k
  |cons a q=>cases k;rw[Cn p rfl (λz hz=>hv z (aac _ hz)) ok]
theorem xQ{vis:List Int}(e:Val.tup [jW vis (dU par),y,z]=.tup [.dc ks ds,y',z']):ks=vis.map Sum.inl/\ds=vis.map (dU par)/\y'=y/\z'=z:=by
 unfold jW at e;injection e with e
 injection e with e1 e
 injection e with e2 e
 injection e with e3 e
 injection e1 with e4 e5
 exact⟨e4.symm,e5.symm,e2.symm,e3.symm⟩
section
variable {κ:Nat} {p q:Int} {ts:List T3} {S:List Int}
theorem qg{N:List Int}(o:PO N r S R):tot R<=S.length:=by
 unfold tot;rw[<-aaj];refine bO ?_ λx hx=>?_
 ·rw[aaH];exact⟨o.ro.nd 0,o.ro.nd 1,λa ha b hb e=>o.ro.dj a ha (by rw[e];exact hb)⟩
 ·rcases aas.mp hx with k|k
  ·exact o.sub 0 (by omega) x k
  ·exact o.sub 1 (by omega) x k
theorem zS(hk:0 < κ /\ κ < 3)(ok:aU p q ts)(hS:S.Nodup)(sN:∀x∈S,x∈nms ts):∀(n:Nat) (R R':gR) (ks:List Key) (ds:List Val),PO (nms ts) (e8 κ p q ts) S R->jl (ai qa) 14 15 (aZ κ p q ts) S n R R' ks ds->PO (nms ts) (e8 κ p q ts) S R'/\∃vis par,ks=vis.map Sum.inl/\ds=vis.map (dU par)/\End (nms ts) (e8 κ p q ts) S R' vis par
 | 0,R,R',ks,ds,o,pk=>by
  obtain⟨rfl,_,f,e⟩:=pk;refine⟨o,?_⟩;rw[gy]at e;obtain⟨f',v,e',h⟩:=AR hk ok hS sN o;rw[e']at e;injection e with e
  injection e with _ e
  rcases h with h|⟨vis,par,rfl,en⟩
  ·obtain⟨vis,par,x,a,rfl,_⟩:=h;have:=(xQ e).2.2.1;cases this
  ·obtain⟨h1,h2,_⟩:=xQ e;exact⟨vis,par,h1,h2,en⟩
 | n+1,R,R',ks,ds,o,pk=>by
  obtain⟨f,ks1,ds1,x,q1,room,e,_,_,po,pk⟩:=pk;rw[gy]at e;obtain⟨f',v,e',h⟩:=AR hk ok hS sN o;rw[e']at e;injection e with e
  injection e with _ e
  rcases h with h|⟨vis,par,rfl,en⟩
  ·obtain⟨vis,par,x',a,rfl,w,hx,ha,na,nc,dn⟩:=h
   obtain⟨rfl,rfl,h3,h4⟩:=xQ e;injection h3 with h3
   injection h4 with h4
   have h4:room=a:=by omega
   subst h3 h4;obtain⟨q2,pt,_,_,hq,_,o',_⟩:=aug (qI ok hk.2) (cY ok) sN o w hx ha na nc dn;have eq:=Cn pt rfl hq po;subst eq;exact zS hk ok hS sN n _ R' ks ds o' pk
  ·have:=(xQ e).2.2.1;cases this
theorem HY(hk:0 < κ /\ κ < 3)(ok:aU p q ts)(hS:S.Nodup)(sN:∀x∈S,x∈nms ts):∀(m:Nat) (R:gR),PO (nms ts) (e8 κ p q ts) S R->S.length-tot R<=m->∃n R' ks ds,n<=m/\jl (ai qa) 14 15 (aZ κ p q ts) S n R R' ks ds:=by
 intro m;have hl:=sub_len ok hS sN;have step:∀R:gR,PO (nms ts) (e8 κ p q ts) S R->(∃ks ds,jl (ai qa) 14 15 (aZ κ p q ts) S 0 R R ks ds)\/∃Q:gR,PO (nms ts) (e8 κ p q ts) S Q/\tot Q=tot R+1/\∀n R' ks ds,jl (ai qa) 14 15 (aZ κ p q ts) S n Q R' ks ds->jl (ai qa) 14 15 (aZ κ p q ts) S (n+1) R R' ks ds:=λR o=>by
  obtain⟨f,v,e,h⟩:=AR hk ok hS sN o;rw[<-gy]at e
  rcases h with h|⟨vis,par,rfl,en⟩
  ·right
   obtain⟨vis,par,x,a,rfl,w,hx,ha,na,nc,dn⟩:=h;obtain⟨q2,pt,nd,hle,hq,hm,o',ht⟩:=aug (qI ok hk.2) (cY ok) sN o w hx ha na nc dn;have lv:=lY w sN ok;have tl:=qg o;refine⟨_,o',ht,λn R' ks ds pk=>⟨f,_,_,x,q2,a,e,ue par vis,by omega,LZ _ R a pt o.ro nd hq hm ha (by omega),pk⟩⟩
  ·left
   exact⟨_,_,rfl,ue par vis,f,e⟩
 induction m with
 |zero=>
  intro R o hm
  rcases step R o with ⟨ks,ds,h⟩|⟨Q,oQ,tQ,_⟩
  ·exact⟨0,R,ks,ds,aao _,h⟩
  ·have:=qg oQ;omega
 |succ m ih=>
  intro R o hm
  rcases step R o with ⟨ks,ds,h⟩|⟨Q,oQ,tQ,hQ⟩
  ·exact⟨0,R,ks,ds,zero_le _,h⟩
  ·obtain⟨n,R',ks,ds,hn,pk⟩:=ih Q oQ (by omega);exact⟨n+1,R',ks,ds,by omega,hQ n R' ks ds pk⟩
theorem PZ{N:List Int}(h:mz N r):PO N r S ([],[]):=by
 have r0:r []=0:=by
  have:=h.bound nodup_nil λy hy=>by simp at hy
  simp only[length_nil]at this;omega
 refine⟨⟨nodup_nil,nodup_nil,λa ha=>by simp at ha⟩,λa _ x hx=>?_,λa _=>?_⟩
 ·unfold au at hx;split at hx<;>simp at hx
 ·unfold au;split<;>(rw[r0];rfl)
theorem DF(hk:0 < κ /\ κ < 3)(ok:aU p q ts){P:List Int}(hP:P.Nodup)(pN:∀x∈P,x∈nms ts):∃(R:gR) (vis:List Int) (par:Int->Option Int),kZ [aZ κ p q ts,.rl (P.map .int)]=.ok (true,.tup [.rl ((sortI R.1).map .int),.rl ((sortI R.2).map .int),.rl ((sortI vis).map .int)])/\PO (nms ts) (e8 κ p q ts) (sortI P) R/\End (nms ts) (e8 κ p q ts) (sortI P) R vis par:=by
 have pm:=aaY P;have hS:(sortI P).Nodup:=pm.nodup_iff.mpr hP;have sN:∀x∈sortI P,x∈nms ts:=λx hx=>pN x (pm.mem_iff.mp hx);have hl:=sub_len ok hS sN;have hlP:=sub_len ok hP pN;have o0:=PZ (S:=sortI P) (qI ok hk.2);obtain⟨n,R',ks,ds,hn,pk⟩:=HY hk ok hS sN 15 ([],[]) o0 (by omega);have hc:(∃k:Wj,k.n<1000/\jl (ai qa) 14 15 (aZ κ p q ts) (sortI P) k.n ([],[]) k.R k.ks k.ds)/\P.length<64:=⟨⟨⟨n,R',ks,ds⟩,by show n<1000;omega,pk⟩,by omega⟩;have ek:=hc.1.choose_spec;have eg:kZ [aZ κ p q ts,.rl (P.map .int)]=bg (ai qa) qB (zg (aZ κ p q ts) (P.map .int) (sortI P) hc.1.choose.R hc.1.choose.ks hc.1.choose.ds):=by
  show zh (ai qa) 14 15 [aZ κ p q ts,.rl (P.map .int)]=_;unfold zh
  try dsimp only
  rw[ints_map]
  try dsimp only
  rw[dif_pos hc]
 rw[eg];generalize hc.1.choose=c at *;obtain⟨o,vis,par,e1,e2,en⟩:=zS hk ok hS sN _ _ _ _ _ o0 ek.2;refine⟨c.R,vis,par,?_,o,en⟩;rw[e1,e2];have lv:=lY en.1 sN ok;have tl:=qg o;unfold tot at tl;have s1:=sorted_ints (l:=c.R.1) (by omega);have s2:=sorted_ints (l:=c.R.2) (by omega);have s3:mZ [] (.dc (vis.map Sum.inl) (vis.map (dU par)))=some (sortI vis):=Gi (by omega);have z3:3<=sizeLine:=by decide
 generalize aZ κ p q ts=O at *;unfold qB zg;simp only[EV,eW tH,eW pR,s1,s2,s3,z3]
end
open Classical in
def Mx(N:List Int)(r:List Int->Int)(P:List Int)(n:Nat):Prop:=∃R,PO N r P R/\tot R=n/\∃V:Pd,(n:Int)=(P.filter λx=>decide (¬ V x)).length+2*mC N r V
section
variable {N:List Int} {r:List Int->Int} {P Q:List Int}
theorem PO.more{R:gR}(o:PO N r P R)(s:∀x∈P,x∈Q):PO N r Q R:=⟨o.ro,λa ha x hx=>s x (o.sub a ha x hx),o.fr⟩
theorem Mx.nil{n:Nat}(m:Mx N r [] n):n=0:=by
 obtain⟨R,o,e,_⟩:=m;have:=qg o;simp at this;omega
variable (h:mz N r) (hN:N.Nodup)
include h hN
open Classical in
theorem Mx.le{n m:Nat}(a:Mx N r P n)(b:Mx N r Q m)(hQ:Q.Nodup)(qN:∀x∈Q,x∈N)(s:∀x∈P,x∈Q):n<=m:=by
 obtain⟨R,o,e,_⟩:=a;obtain⟨_,_,_,V,ev⟩:=b;have:=most h hN qN hQ (o.more s) V;rw[e]at this;omega
open Classical in
theorem Mx.step{n m:Nat}{x:Int}(a:Mx N r P n)(b:Mx N r (P++[x]) m)(hQ:(P++[x]).Nodup)(qN:∀y∈P++[x],y∈N):m=n\/m=n+1:=by
 have l1:=a.le h hN b hQ qN λy hy=>aat _ hy;obtain⟨R,o,e,_⟩:=b;obtain⟨_,_,_,V,ev⟩:=a;have:=most h hN qN hQ o V;rw[e,filter_append,aaj]at this;have l2:=length_filter_le (λx=>decide (¬ V x)) [x];rw[aaQ]at l2;omega
end
end K33
end
section
open PySem L2 Hv
namespace K33
inductive iy:List Int->List (Int×Int)->Prop
 |one (x:Int):iy [x] []
 |more {pl:List Int} {es:List (Int×Int)} {x y:Int} {e:Int×Int}:iy pl es->y∉pl->x∈pl->e=(x,y)\/e=(y,x)->iy (pl++[y]) (es++[e])
theorem iy.ends{pl:List Int}(g:iy pl es):∀e∈es,e.1∈pl/\e.2∈pl:=by
 induction g with
 |one x=>intro e he;simp at he
 |more g ny hx he ih=>
  intro e' h
  rcases aas.mp h with h|h
  ·have:=ih e' h;exact⟨aat _ this.1,aat _ this.2⟩
  ·rw[aap]at h;subst h
   rcases he with rfl|rfl
   ·exact⟨aat _ hx,by simp⟩
   ·exact⟨by simp,aat _ hx⟩
theorem iy.len{pl:List Int}(g:iy pl es):pl.length=es.length+1:=by
 induction g with
 |one x=>rfl
 |more g ny hx he ih=>rw[aaj,aaj,ih];rfl
theorem iy.span{pl:List Int}(g:iy pl es):∀u∈pl,∀v∈pl,Way es u v:=by
 induction g with
 |one x=>intro u hu v hv;rw[aap.mp hu,aap.mp hv];exact .refl _
 |@more pl es x y e g ny hx he ih=>
  have wy:Way (es++[e]) x y:=by
   rcases he with rfl|rfl
   ·exact .fwd (.refl _) (by simp)
   ·exact .bwd (.refl _) (by simp)
  have up:∀u∈pl,∀v∈pl,Way (es++[e]) u v:=λu hu v hv=>(ih u hu v hv).mono λz hz=>aat _ hz;have tox:∀u∈pl++[y],Way (es++[e]) u x:=λu hu=>by
   rcases aas.mp hu with h|h
   ·exact up u h x hx
   ·rw[aap.mp h];exact wy.symm
  exact λu hu v hv=>(tox u hu).trans (tox v hv).symm
theorem iy.free{pl:List Int}(g:iy pl es):∀pre e post,es=pre++e::post->¬ Way pre e.1 e.2:=by
 induction g with
 |one x=>intro pre e post h;exact absurd h.symm (by simp)
 |@more pl es x y e0 g ny hx he ih=>
  intro pre e post h
  rcases List.eq_nil_or_concat post with rfl|⟨post',z,rfl⟩
  ·have h1:=List.append_inj_left' h rfl
   have h2:=List.append_inj_right' h rfl;subst h1;cases h2;intro w;have c:=w.const (λv=>decide (v=y)) λe' he'=>by
    have:=g.ends e' he';have n1:e'.1≠y:=λz=>ny (z▸this.1);have n2:e'.2≠y:=λz=>ny (z▸this.2);simp[n1,n2]
   have nx:x≠y:=λz=>ny (z▸hx)
   rcases he with rfl|rfl<;>simp[nx]at c
  ·rw[List.concat_eq_append]at h
   have h':es++[e0]=(pre++e::post')++[z]:=by rw[h];simp
   exact ih pre e post' (List.append_inj_left' h' rfl)
structure TT (p q:Int) (ts:List T3) (A B:List Int):Prop where
 pm:(A++B).Perm (ts.map (·.1))
 ga:∃pl,iy pl (A.map (gU p q ts))/\∀x∈qH p q ts,x∈pl
 gb:∃pl,iy pl (B.map (gU p q ts))/\∀x∈qH p q ts,x∈pl
section
variable {p q:Int} {ts:List T3}
theorem tree_rank(ok:aU p q ts){A:List Int}(hA:∀x∈A,x∈nms ts)(g:∃pl,iy pl (A.map (gU p q ts))/\∀x∈qH p q ts,x∈pl):fc p q ts A=A.length/\fc p q ts (nms ts)=fc p q ts A:=by
 obtain⟨pl,g,hp⟩:=g;constructor
 ·have:=zN ok A [] (λy hy=>by simp at hy) hA λpre x post e w=>by
   refine g.free (pre.map (gU p q ts)) (gU p q ts x) (post.map (gU p q ts)) (by rw[e];simp) ?_;exact w
  rw[B9,nil_append]at this;omega
 ·have:=B8 ok (nms ts) A hA (λy hy=>hy) λy hy=>by
   have:=rq ok hy;exact g.span _ (hp _ this.1) _ (hp _ this.2)
  rw[<-this];exact lE ok (λy hy=>hy) λy=>⟨λh=>aaD _ h,λh=>(aas.mp h).elim (hA y) id⟩
variable {A B:List Int} (ok:aU p q ts) (t:TT p q ts A B)
include ok t
theorem TT.mem(y:Int):y∈nms ts↔y = -1\/y∈A\/y∈B:=by
 unfold nms;rw[aaw,<-t.pm.mem_iff,aas]
theorem TT.nd:(A++B).Nodup:=t.pm.nodup_iff.mpr (oK ok)
theorem TT.neg:(-1:Int)∉A/\(-1:Int)∉B:=by
 have:=(aaI.mp (cY ok)).1;rw[<-t.pm.mem_iff,aas]at this;exact⟨λh=>this (.inl h),λh=>this (.inr h)⟩
theorem TT.HZ:fc p q ts A=A.length/\fc p q ts B=B.length/\fc p q ts (nms ts)=A.length/\A.length=B.length:=by
 have a:=tree_rank ok (λx hx=>(t.mem ok x).mpr (.inr (.inl hx))) t.ga;have b:=tree_rank ok (λx hx=>(t.mem ok x).mpr (.inr (.inr hx))) t.gb;omega
theorem TT.po1{S:List Int}(hs:∀x,x∈A\/x∈B->x∈S):PO (nms ts) (e8 1 p q ts) S (A,B):=by
 have nd:=aaH.mp (t.nd ok);have r:=t.HZ ok;refine⟨⟨nd.1,nd.2.1,λa ha hb=>nd.2.2 a ha a hb rfl⟩,λa ha x hx=>?_,λa ha=>?_⟩
 ·unfold au at hx
  split at hx
  ·exact hs x (.inl hx)
  ·exact hs x (.inr hx)
 ·unfold au
  split
  ·show (fc p q ts A:Int)=_;rw[r.1]
  ·show (fc p q ts B:Int)=_;rw[r.2.1]
theorem TT.po2{S:List Int}(hs:∀x,x∈nms ts->x∈S):PO (nms ts) (e8 2 p q ts) S (A++[-1],B):=by
 have nd:=aaH.mp (t.nd ok);have r:=t.HZ ok;have ng:=t.neg ok;have mm:=t.mem ok;refine⟨⟨e9 nd.1 ng.1,nd.2.1,λa ha hb=>?_⟩,λa ha x hx=>?_,λa ha=>?_⟩
 ·rcases(aN a).mp ha with h|h
  ·exact nd.2.2 a h a hb rfl
  ·rw[h]at hb;exact ng.2 hb
 ·unfold au at hx
  split at hx
  ·rcases(aN x).mp hx with h|h
   ·exact hs x ((mm x).mpr (.inr (.inl h)))
   ·exact hs x ((mm x).mpr (.inl h))
  ·exact hs x ((mm x).mpr (.inr (.inr hx)))
 ·unfold au
  split
  ·have e:fc p q ts (others ts (A++[-1]))=fc p q ts B:=(lE ok (λy hy=>(mm y).mpr (.inr (.inr hy))) λy=>by
    rw[j3,aN,mm];constructor
    ·intro h;exact⟨.inr (.inr h),λz=>z.elim (λz=>nd.2.2 y z y h rfl) λz=>ng.2 (z▸h)⟩
    ·rintro⟨h1,h2⟩
     rcases h1 with h|h|h
     ·exact absurd (.inr h) h2
     ·exact absurd (.inl h) h2
     ·exact h).symm
   show ((A++[-1]).length:Int)-fc p q ts (nms ts)+fc p q ts (others ts (A++[-1]))=((A++[-1]).length:Int);rw[e];omega
  ·have e1:=Ca ok (P:=A) (Q:=others ts B) (λy hy=>j3.mpr ⟨(mm y).mpr (.inr (.inl hy)),λz=>nd.2.2 y hy y z rfl⟩) λy hy=>lC y hy;have e2:=Ca ok (P:=others ts B) (Q:=nms ts) (λy hy=>lC y hy) λy hy=>hy;show (B.length:Int)-fc p q ts (nms ts)+fc p q ts (others ts B)=(B.length:Int);omega
open Classical in
theorem TT.X7{L:List Int}{n:Nat}(hL:L.Nodup)(lN:∀x∈L,x∈nms ts)(hs:∀x,x∈A\/x∈B->x∈L)(m:Mx (nms ts) (e8 1 p q ts) L n):n=A.length+B.length:=by
 have h:=qI ok (κ:=1) (by decide);have hN:=cY ok;have r:=t.HZ ok;obtain⟨R,o,e,V,ev⟩:=m;have l1:=most h hN lN hL (t.po1 ok hs) V;have l2:=most h hN lN hL o λ_=>True;have e1:mC (nms ts) (e8 1 p q ts) (λ_=>True)=e8 1 p q ts (nms ts):=gP h hN hN (λy hy=>hy) λy=>by simp
 have e2:e8 1 p q ts (nms ts)=(fc p q ts (nms ts):Int):=rfl;have et:tot (A,B)=A.length+B.length:=rfl;simp at l2;rw[e1,e2]at l2;have e0:(L.filter λ_=>false).length=0:=by simp
 rw[et]at l1;omega
open Classical in
theorem TT.mx2{L:List Int}{n:Nat}(hL:L.Nodup)(lN:∀x,x∈L↔x∈nms ts)(m:Mx (nms ts) (e8 2 p q ts) L n):n=L.length:=by
 have h:=qI ok (κ:=2) (by decide);have hN:=cY ok;obtain⟨R,o,e,V,ev⟩:=m;have l1:=most h hN (λx hx=>(lN x).mp hx) hL (t.po2 ok λx hx=>(lN x).mpr hx) V;have l2:=qg o;have l3:=iP hL hN lN;have l4:=t.pm.length_eq;have et:tot (A++[-1],B)=(A.length+1)+B.length:=by unfold tot;rw[aaj];rfl
 have en:(nms ts).length=(ts.map (·.1)).length+1:=rfl;rw[aaj]at l4;rw[et]at l1;omega
end
end K33
end
section
open PySem L2 Hv
namespace K33
theorem cz{ms:List Nat}{i:Nat}{f:Bool}(hm:ms.contains i=false)(hp:(yQ e).isSome=false)(h:bg Ψ e env=.ok (f,v)):bw Ψ ms (.asg (.one i) e) env=.ok (.nx (env.set i (some (fj f v,v)))):=by
 rw[bw]
 try dsimp only
 rw[aam (by rw[hp];exact aab),aam (by rw[hm];exact aab),h];rfl
theorem Ia{α:Type}(us:List α)(n:Int)(h:0<=n):cg us none (some n)++cg us (some n) none=us:=by
 obtain⟨k,rfl⟩:=aa3 h;unfold cg;rw[HT.ya,HT.ya,HT.AX,HT.AX];simp only[List.drop_zero,Nat.sub_zero];have e:(us.drop (min k us.length)).take (us.length-min k us.length)=us.drop (min k us.length):=List.take_of_length_le (by rw[length_drop];omega);rw[e,List.take_append_drop]
theorem tyl(l:List Val):iS (.isin "list") [.rl l]=.ok (true,.bl true):=pS (t:="list") rfl (by decide)
theorem tyt(vs:List Val):iS (.isin "tuple") [.tup vs]=.ok (true,.bl true):=pS (t:="tuple") rfl (by decide)
theorem zT{l:List Int}(h:l.length<64)(hs:sortI l=l):cO [.rl (l.map .int)]=.ok (true,.bl true):=by
 unfold cO e7;have hc:l.length<=100000:=by omega
 simp only[EV,tyl,sorted_ints h,hs,K5,ja,iY,length_map,hc];rw[fy Val.int (λ_=>.bl true) l (λt ht=>by
  simp only[EV,aV,tyi,Wt])]
 simp only[EV,all_true]
theorem qh{l:List Int}(h:l.length<64):cO [.rl ((sortI l).map .int)]=.ok (true,.bl true) :=
 zT (by rw[(aaY l).length_eq];exact h) (eq_sortI (List.Perm.refl _) (sortI_rises l)).symm
theorem Co:∀(ns ks:List Int),(ks++ns).Nodup->cL ks ns=ks++ns
 |[],ks,_=>by rw[cL,aaM]
 | n::ns,ks,h=>by
  have hn:n∉ks:=λz=>(aaH.mp h).2.2 n z n (by simp) rfl;have e:pe ks n=ks++[n]:=by unfold pe;rw[aam hn]
  rw[cL,e,Co ns (ks++[n]) (by rw[aaS];exact h),aaS];rfl
def X8:IE:=(.or (.not (.blt (.isin "tuple") #[!2])) (.or (.cmp .ne (.blt .len #[!2]) (¬3)) (.not (.blt .all #[.comp ["_law_each"] [none] (.one 0) .seq #[!2] .no (.call 18 #[!0])]))))
def TV:IE:=(.bin .add (.idx (!2) (¬0)) (.idx (!2) (¬1)))
def Yb:IE:=(.or (.cmp .ne (.svals (!3)) (.blt .len #[!3])) (.not (.blt .all #[.comp ["_law_name","_law_names"] [none,some 1] (.one 0) .seq #[!3] .no (.cmp .inn (!0) (!1))])))
def nB:dm:=#[.ret (.neg (¬1))]
def Yc:IE:=(.call 17 #[!0,.blt .list #[!1]])
theorem Le:iD=.cons (.asg (.one 2) Yc) #[.iff X8 nB .nil,.asg (.one 3) TV,.iff Yb nB .nil,.ret (.blt .len #[!3])]:=rfl
open Classical in
theorem xR{κ:Nat}{p q:Int}(hk:0 < κ /\ κ < 3)(ok:aU p q ts){P:List Int}(hP:P.Nodup)(pN:∀x∈P,x∈nms ts):∃n:Nat,oE [aZ κ p q ts,.rl (P.map .int)]=.ok (true,.int (n:Int))/\Mx (nms ts) (e8 κ p q ts) P n:=by
 obtain⟨R,vis,par,e,o,en⟩:=DF hk ok hP pN;have pm:=aaY P;have sN:∀x∈sortI P,x∈nms ts:=λx hx=>pN x (pm.mem_iff.mp hx);have p1:=aaY R.1;have p2:=aaY R.2;refine⟨tot R,?_,R,o.more λx hx=>pm.mem_iff.mp hx,rfl,(· ∈ vis),?_⟩
 ·have tl:=qg o
  have hl:=sub_len ok (pm.nodup_iff.mpr hP) sN;have lv:=lY en.1 sN ok;have e1:(sortI R.1++sortI R.2).length=tot R:=by rw[aaj,p1.length_eq,p2.length_eq];rfl
  have nd:(sortI R.1++sortI R.2).Nodup:=by rw[aaH];exact⟨p1.nodup_iff.mpr o.ro.n0,p2.nodup_iff.mpr o.ro.n1,λa ha b hb e=>o.ro.dj a (p1.mem_iff.mp ha) (by rw[e];exact p2.mem_iff.mp hb)⟩
  have inP:∀x∈sortI R.1++sortI R.2,x∈P:=λx hx=>by
   rcases aas.mp hx with h|h
   ·exact pm.mem_iff.mp (o.sub 0 (by omega) x (p1.mem_iff.mp h))
   ·exact pm.mem_iff.mp (o.sub 1 (by omega) x (p2.mem_iff.mp h))
  have lt:R.1.length+R.2.length<=15:=by show tot R<=15;omega
  have t1:=qh (l:=R.1) (by omega);have t2:=qh (l:=R.2) (by omega);have t3:=qh (l:=vis) (by omega);have za:((sortI R.1).map Val.int).length+((sortI R.2).map Val.int).length<=sizeLine:=by rw[aae,aae,p1.length_eq,p2.length_eq];unfold sizeLine;omega
  have nk:=Co _ [] (by rw[nil_append];exact nd);rw[nil_append]at nk;generalize aZ κ p q ts=O at *;generalize sortI R.1=S1 at *;generalize sortI R.2=S2 at *;generalize sortI vis=S3 at *;have em:S1.map Val.int++S2.map Val.int=(S1++S2).map Val.int:=by rw[aaO]
  show pb (av (ai Dr) [] iD [some (.sh,O),some (.sh,.rl (P.map .int)),none,none]) _=_;rw[Le];rw[ak (cz (f:=true) (v:=.tup [.rl (S1.map .int),.rl (S2.map .int),.rl (S3.map .int)]) rfl rfl (by unfold Yc;simp only[EV,zM,qb,e]))];simp only[set_cons_succ,set_cons_zero];obtain⟨m2,hm2,k2⟩:∃m,fj true (.tup [.rl (S1.map .int),.rl (S2.map .int),.rl (S3.map .int)])=m/\iJ m=true:=⟨_,rfl,gJ⟩;rw[hm2];have el3:([.rl (S1.map .int),.rl (S2.map .int),.rl (S3.map .int)]:List Val)=([S1,S2,S3]:List (List Int)).map λl=>Val.rl (l.map .int):=rfl;rw[ak (fV (f:=true) (by
   unfold X8;have h3:3<=100000:=by omega
   have n3:decide (((0+1+1+1:Nat):Int)=3)=true:=rfl;have al:iS .all [.rl [.bl true,.bl true,.bl true]]=.ok (true,.bl true):=rfl;simp only[EV,k2,tyt,LN,iY,n3,h3];rw[el3,fy (λl:List Int=>Val.rl (l.map .int)) (λ_=>Val.bl true) [S1,S2,S3] (λl hl=>by
    have tl:cO [.rl (l.map .int)]=.ok (true,.bl true):=by
     rcases aaw.mp hl with rfl|hl
     ·exact t1
     ·rcases aaw.mp hl with rfl|hl
      ·exact t2
      ·rw[aap.mp hl];exact t3
    simp only[EV,aV,lg,tl])]
   simp only[EV,map_cons,map_nil,al]))]
  rw[ak (cz (f:=bD ((S1++S2).map Val.int)) (v:=.rl ((S1++S2).map .int)) rfl rfl (by unfold TV;simp only[EV,k2,eW tH,eW pR,lz za,em]))];simp only[set_cons_succ,set_cons_zero];obtain⟨m3,TX,k3⟩:∃m,fj (bD ((S1++S2).map Val.int)) (.rl ((S1++S2).map .int))=m/\iJ m=true:=⟨_,rfl,gJ⟩;rw[TX];generalize S1++S2=S at *;have h64:S.length<64:=by omega
  have hc:S.length<=100000:=by omega
  rw[ak (fV (f:=true) (by
   unfold Yb;have dl:decide (((cL [] S).length:Int)=(S.length:Int))=true:=by rw[nk];simp
   have d64:decide (S.length<64)=true:=decide_eq_true h64;have ii:cE (S.map Val.int)=some S:=ints_map S;simp only[EV,k3,ii,d64,h64,length_map,dl,ja,iY,hc];rw[fy Val.int (λ_=>Val.bl true) S (λx hx=>by
    simp only[EV,aV,qz,inP x hx,decide_true])]
   simp only[EV,all_true]))]
  have Uu:(S.length:Int)=(tot R:Int):=by rw[e1]
  simp only[EV,k3,length_map,Uu]
 ·have:=bar (qI ok hk.2) (cY ok) sN (pm.nodup_iff.mpr hP) o en.1 en.2
  rw[this,(pm.filter _).length_eq]
  congr 2
  refine congrArg length (filter_congr λx _=>?_)
  by_cases c:x∈vis<;>simp[c]
end K33
end
section
open PySem L2 Hv
namespace K33
theorem L3{tA tB:List T3}{P O:List Int}{p q:Int}(gA:iy P (tA.map (·.2)))(gB:iy O (tB.map (·.2)))(pm:O.Perm P)(nd:((tA++tB).map (·.1)).Nodup)(nn:∀t∈tA++tB,0<=t.1)(en:∀t∈tA++tB,t.2.1<=t.2.2)(hpq:p<=q)(hp:p∈P)(hq:q∈P)(hl:(tA++tB).length<=14) :
  aU p q (fY (tA++tB))/\TT p q (fY (tA++tB)) (tA.map (·.1)) (tB.map (·.1)):=by
 have sp:=nu (tA++tB);have ok:aU p q (fY (tA++tB)):=⟨hpq,by rw[sp.length_eq];exact hl,yX _ nd,λt ht=>en t (sp.mem_iff.mp ht),λt ht=>nn t (sp.mem_iff.mp ht)⟩;have em:∀tX:List T3,(∀t∈tX,t∈tA++tB)->(tX.map (·.1)).map (gU p q (fY (tA++tB)))=tX.map (·.2):=λtX hX=>by
  rw[aa2];refine map_congr_left λt ht=>?_;exact AQ ok (sp.mem_iff.mpr (hX t ht))
 have inn:∀x∈qH p q (fY (tA++tB)),x∈P:=λx hx=>by
  rcases oG.mp hx with rfl|rfl|⟨t,ht,h⟩
  ·exact hp
  ·exact hq
  ·have ht:=sp.mem_iff.mp ht
   have:t.2.1∈P/\t.2.2∈P:=by
    rcases aas.mp ht with k|k
    ·exact gA.ends t.2 (aaW.mpr ⟨t,k,rfl⟩)
    ·have:=gB.ends t.2 (aaW.mpr ⟨t,k,rfl⟩);exact⟨pm.mem_iff.mp this.1,pm.mem_iff.mp this.2⟩
   rcases h with rfl|rfl
   ·exact this.1
   ·exact this.2
 refine⟨ok,⟨?_,⟨P,?_,inn⟩,⟨O,?_,λx hx=>pm.mem_iff.mpr (inn x hx)⟩⟩⟩
 ·rw[<-aaO];exact(sp.map _).symm
 ·rw[em tA λt ht=>aat _ ht];exact gA
 ·rw[em tB λt ht=>aaD _ ht];exact gB
theorem P0{a b:Int}(ha:inR a=true)(hb:inR b=true):kh .range [.int a,.int b]=some ((List.range (b-a).toNat).map λ(i:Nat)=>Val.int (a+(i:Int))):=by
 show (if (inR a&&inR b)=true then some (bH a (b-a).toNat) else none)=_;rw[ha,hb];rfl
theorem vZ{P:List Int}(g:iy P es){nm y x:Int}(ny:y∉P)(hx:x∈P):iy (P++[y]) (es++[(turnT (nm,y,x)).2]):=by
 refine g.more ny hx ?_;unfold turnT;have nx:x≠y:=λz=>ny (z▸hx);dsimp only
 by_cases c:x<y
 ·left;rw[aak c,aam (by omega)]
 ·right;rw[aam c,aak (by omega)]
theorem uf{n i:Nat}{pre post:List Nat}(he:List.range n=pre++i::post):i=pre.length/\pre.length<n:=by
 have e1:=congrArg length he;rw[length_range,aaj,aaE]at e1;have e2:(List.range n)[pre.length]?=some i:=by rw[he,aaC (aao _),sub_self];rfl
 rw[List.getElem?_range (by omega)]at e2;cases e2;exact⟨rfl,by omega⟩
theorem lu.snoc{one two:Int}(h:lu one two ts)(y x:Int):lu one two (ts++[turnT (mq one two (ts.length:Int),y,x)]):=by
 refine⟨λi hi=>?_,λt ht=>?_⟩
 ·rw[List.getElem_append]
  split
  ·exact h.name i (by assumption)
  ·rw[aaj,aaQ]at hi
   have:i=ts.length:=by omega
   subst this;simp[turnT]
 ·rcases aas.mp ht with ht|ht
  ·exact h.ends t ht
  ·rw[aap]at ht;subst ht;unfold turnT;dsimp only;split<;>split<;>omega
theorem v7{row:List Int}(hr:row.Nodup){i:Nat}(hk:i+1<row.length)(c:Int):∃y x j:Int,dZ .mod (.int c) (.int (1+(i:Int)))=.ok (true,.int j)/\ko (row.map Val.int) (1+(i:Int))=some (.int y)/\ko (row.map Val.int) j=some (.int x)/\row.take (i+1+1)=row.take (i+1)++[y]/\y∉row.take (i+1)/\x∈row.take (i+1):=by
 have m0:0<=c%(1+(i:Int)):=emod_nonneg _ (by omega);have m1:c%(1+(i:Int))<1+(i:Int):=emod_lt_of_pos _ (by omega);obtain⟨j,hj⟩:=aa3 m0;rw[hj]at m1;have hjl:j<row.length:=by omega
 have et:row.take (i+1+1)=row.take (i+1)++[row[i+1]]:=List.take_succ_eq_append_getElem hk;have ix:∀k:Nat,(h:k<row.length)->ko (row.map Val.int) (k:Int)=some (.int row[k]):=λk h=>by
  refine iV ?_;rw[aaF,aax h];rfl
 refine⟨row[i+1],row[j],j,by rw[gY (by rw[aaX];omega),hj],by rw[show (1:Int)+(i:Int)=((i+1:Nat):Int) by omega];exact ix _ hk,ix j hjl,et,?_,?_⟩
 ·have:=hr.sublist (take_sublist (i+1+1) row);rw[et,aaH]at this;exact λz=>this.2.2 _ z _ (by simp) rfl
 ·rw[List.mem_take_iff_getElem];exact⟨j,by omega,rfl⟩
def TY:dm:=#[.asg (.one 11) (.idx (!9) (!10)),.asg (.one 12) (.idx (!9) (.bin .mod (.call 0 #[!0,.bin .add (¬3) (.blt .len #[!8])]) (!10))),.expr (.met .append (!8) #[.tup #[.call 1 #[!1,!2,.blt .len #[!8]],.blt .min #[!11,!12],.blt .max #[!11,!12]]])]
def UO:dm:=#[.for (.one 10) .range #[¬1,!4] TY]
def Lf:IE:=(.blt .sorted #[.lst #[.idx (!5) (¬0),.idx (!5) (.bin .mul (.bin .sub (!4) (¬1)) (.blt .int #[.cmp .ne (.bin .mod (.bin .fdiv (!3) (¬112)) (¬8)) (¬3)]))]])
def Ib:IE:=(.tup #[.tup #[.idx (!13) (¬0),.idx (!13) (¬1)],.blt .sorted #[!8]])
def uG(k:Int):IE:=(.call 0 #[!0,.cst (.int k)])
def TZ:IE:=(.bin .add (¬2) (.bin .mod (!3) (¬7)))
def P1:IE:=(.comp ["_law_k","_law_two","_law_one"] [none,some 2,some 1] (.one 0) .range #[!4] .no (.call 1 #[!1,!2,!0]))
def T4:IE:=(.bin .mod (.bin .fdiv (!3) (¬7)) (!4))
def T5:IE:=(.bin .add (.slc (!5) (!6) .no) (.slc (!5) .no (!6)))
def P4:IE:=(.cmp .eq (.bin .mod (.bin .fdiv (!3) (¬56)) (¬2)) (¬1))
def Yd:IE:=(.rev (!7) (.neg (¬1)))
theorem P5:cJ=.cons (.asg (.one 1) (uG 0)) #[.asg (.one 2) (uG 1),.asg (.one 3) (uG 2),.asg (.one 4) TZ,.asg (.one 5) P1,.asg (.one 6) T4,.asg (.one 7) T5,.iff P4 #[.asg (.one 7) Yd] .nil,.asg (.one 8) (.lst .nil),.for (.one 9) .seq #[.lst #[!5,!7]] UO,.asg (.one 13) Lf,.ret Ib]:=rfl
abbrev tE(ns:List Int)(one two pick many:Int)(c5 c6 c7:Sl)(ts:List T3)(row:Sl)(vR Hx c12:Sl):bC:=[some (.sh,.rl (ns.map .int)),some (.sh,.int one),some (.sh,.int two),some (.sh,.int pick),some (.sh,.int many),c5,c6,c7,some (.ow,.rl (ts.map dh)),row,vR,Hx,c12,none]
theorem v8{ns:List Int}{one two pick many:Int}{n:Nat}(hn:2<=n/\n<=8){row:List Int}(hr:row.Nodup)(hl:row.length=n){c5 c6 c7:Sl}{ts0:List T3}(h0:lu one two ts0)(hts:ts0.length<=7)(vR Hx c12:Sl) :
  ∃(tA:List T3) (oW DL DM:Sl),eE (λx env=>pb (pl (cF (.one 10) x env)) λenv'=>av (ai zY) [8] TY env') ((List.range (n-1)).map λ(i:Nat)=>Val.int (1+(i:Int))) (tE ns one two pick many c5 c6 c7 ts0 (some (.sh,.rl (row.map .int))) vR Hx c12)=.ok (.nx (tE ns one two pick many c5 c6 c7 (ts0++tA) (some (.sh,.rl (row.map .int))) oW DL DM))/\iy row (tA.map (·.2))/\lu one two (ts0++tA)/\tA.length=n-1:=by
 have r0:row.take 1=[row[0]]:=by
  cases row with
  |nil=>simp at hl;omega
  |cons x r=>rfl
 obtain⟨env',e,tA,oW,DL,DM,he,hlen,hg,hok⟩:=iA (λ(i:Nat)=>Val.int (1+(i:Int))) (body:=λx env=>pb (pl (cF (.one 10) x env)) λenv'=>av (ai zY) [8] TY env')
  (λdone env=>∃(tA:List T3) (oW DL DM:Sl),env=tE ns one two pick many c5 c6 c7 (ts0++tA) (some (.sh,.rl (row.map .int))) oW DL DM/\tA.length=done.length/\iy (row.take (done.length+1)) (tA.map (·.2))/\lu one two (ts0++tA))
  (List.range (n-1)) [] (tE ns one two pick many c5 c6 c7 ts0 (some (.sh,.rl (row.map .int))) vR Hx c12) ⟨[],vR,Hx,c12,by rw[aaM],rfl,by rw[length_nil,Nat.zero_add,r0];exact .one _,by rw[aaM];exact h0⟩ (by
   rintro pre i post env he ⟨tA,oW,DL,DM,rfl,hlen,hg,hok⟩;obtain⟨rfl,hi⟩:=uf he;have hk:pre.length+1<row.length:=by omega
   have ec:bh [.rl (ns.map .int),.int (3+((ts0++tA).length:Int))]=.ok (true,.int (cellAt ns (3+(ts0++tA).length))):=eL ns (3+(ts0++tA).length);generalize cellAt ns (3+(ts0++tA).length)=c at ec;obtain⟨y,x,j,md,i1,i2,et,nin,WB⟩:=v7 hr hk c;have e3:=B0 one two ((ts0++tA).length:Int);have z:(ts0++tA).length<sizeLine:=by rw[aaj];unfold sizeLine;omega
   have z3:3<=sizeLine:=by decide
   have g':=vZ (nm:=mq one two ((ts0++tA).length:Int)) hg nin WB;have tt:Val.tup [.int (mq one two ((ts0++tA).length:Int)),.int (if x<y then x else y),.int (if x>y then x else y)]=dh (turnT (mq one two ((ts0++tA).length:Int),y,x)):=rfl;have ea:(ts0++tA).map dh++[dh (turnT (mq one two ((ts0++tA).length:Int),y,x))]=(ts0++(tA++[turnT (mq one two ((ts0++tA).length:Int),y,x)])).map dh:=by simp
   refine⟨_,?_,tA++[turnT (mq one two ((ts0++tA).length:Int),y,x)],some (.sh,.int (1+((pre.length:Nat):Int))),some (.sh,.int y),some (.sh,.int x),rfl,by simp[hlen],by rw[aaj,aaQ,et,aaO];exact g',by rw[<-aaS];exact hok.snoc y x⟩
   ·rw[aV,bB,ay];simp only[set_cons_succ,set_cons_zero];unfold TY;rw[ak (cz (f:=true) (v:=.int y) rfl rfl (by simp only[EV,j6 i1]))];simp only[set_cons_succ,set_cons_zero,fP];rw[ak (cz (f:=true) (v:=.int x) rfl rfl (by simp only[EV,length_map,bX,ec,md,j6 i2]))];simp only[set_cons_succ,set_cons_zero,fP];simp only[EV,length_map,fE,e3,z3,tt,z,ea])
 rw[nil_append,length_range]at hlen hg;have ef:row.take (n-1+1)=row:=List.take_of_length_le (by omega);rw[ef]at hg;exact⟨tA,oW,DL,DM,by rw[e,he],hg,hok,hlen⟩
end K33
end
section
open PySem L2 Hv
namespace K33
theorem Ic{ms:List Nat}{i:Nat}{n:Nat}(h1:(tu (.one i) es B&&(stored (.one i)).all λi=>!ms.contains i)=true)(h2:gI Ψ es env=.ok [.int 1,.int (n:Int)])(hn:n<=1000) :
  bw Ψ ms (.for (.one i) .range es B) env=eE (λx env=>pb (pl (cF (.one i) x env)) λenv'=>av Ψ ms B env') ((List.range (n-1)).map λi:Nat=>Val.int (1+(i:Int))) env:=by
 have hR:inR (n:Int)=true:=by unfold inR;simp only[and_eq_true,decide_eq_true_eq];omega
 have e:((n:Int)-1).toNat=n-1:=by omega
 rw[bw,h1,jU rfl,h2,ay,P0 (by decide) hR,bB,ay,e]
theorem Ie{pick:Int}{n:Nat}(hn:2<=n/\n<=8){P:List Int}(DO:P.length=n):∃x y:Int,x<=y/\x∈P/\y∈P/\∀(env:bC) (m5:Mk),iJ m5=true->env[3]?=some (some (.sh,.int pick))->env[4]?=some (some (.sh,.int (n:Int)))->env[5]?=some (some (m5,.rl (P.map .int)))->bg (ai zY) Lf env=.ok (true,.rl [.int x,.int y]):=by
 have z2:2<=sizeLine:=by decide
 have j0:ko (P.map Val.int) 0=some (.int P[0]):=by refine iV (j:=0) ?_;rw[aaF,aax (by omega)];rfl
 obtain⟨w,hw,hwn⟩:∃w:Nat,((n:Int)-1)*(if ¬ pick/112%8=3 then 1 else 0)=(w:Int)/\w<n:=by
  by_cases c:pick/112%8=3
  ·exact⟨0,by simp[c],by omega⟩
  ·exact⟨n-1,by simp[c];omega,by omega⟩
 have j1:ko (P.map Val.int) (w:Int)=some (.int P[w]):=by refine iV ?_;rw[aaF,aax (by omega)];rfl
 have mw:kE ((n:Int)-1) (if ¬ pick/112%8=3 then 1 else 0)=true:=vS _ _ (by split<;>omega);have mm:dZ .mul (.int ((n:Int)-1)) (.int (if ¬ pick/112%8=3 then 1 else 0))=.ok (true,.int (w:Int)):=by rw[BQ mw,hw]
 have eI:∀b:Bool,iS .int [.bl b]=.ok (true,.int (if b=true then 1 else 0)):=λ_=>rfl;have in0:P[0]∈P:=List.getElem_mem _;have inw:P[w]∈P:=List.getElem_mem _;obtain⟨x,y,es,hxy⟩:=TM P[0] P[w];have Wk:iS .sorted [.rl [.int P[0],.int P[w]]]=.ok (true,.rl [.int x,.int y]):=by refine zH ?_;show (if 2<64 then some ((sortI [P[0],P[w]]).map Val.int) else none)=_;rw[aak (by decide),es];rfl
 have Ye:∀z,z=x\/z=y->z∈P:=λz hz=>by
  have:z∈sortI [P[0],P[w]]:=by rw[es];rcases hz with rfl|rfl<;>simp
  have:=(aaY _).mem_iff.mp this
  rcases aaw.mp this with h|h
  ·rw[h];exact in0
  ·rw[aap.mp h];exact inw
 refine⟨x,y,hxy,Ye x (.inl rfl),Ye y (.inr rfl),λenv m5 k5 e3 e4 e5=>?_⟩;generalize P[0]=p0 at *;generalize P[w]=pw at *;unfold Lf;simp only[EV,e3,e4,e5,k5,j6 j0,jV (show kg 112=true by decide),gY (show decide ((0:Int)<8)=true by decide),eI,mm,j6 j1,z2,Wk]
theorem zU(ns:List Int){one two pick:Int}{n:Nat}(hn:2<=n/\n<=8){P:List Int}(DO:P.length=n)(L4:P.Nodup)(O:List Int)(m5 m6 m7:Mk)(t:Int)(pO:O.Perm P)(k5:iJ m5=true)(k7:iJ m7=true):∃p q ts A B,pb (av (ai zY) [8] #[.asg (.one 8) (.lst .nil),.for (.one 9) .seq #[.lst #[!5,!7]] UO,.asg (.one 13) Lf,.ret Ib] [some (.sh,.rl (ns.map .int)),some (.sh,.int one),some (.sh,.int two),some (.sh,.int pick),some (.sh,.int (n:Int)),some (m5,.rl (P.map .int)),some (m6,.int t),some (m7,.rl (O.map .int)),none,none,none,none,none,none]) (λf=>match f with|.nx _=>.ok (true,.non)|.rt p=>.ok p|_=>.no)=.ok (true,di p q ts)/\aU p q ts/\TT p q ts A B:=by
 have z0:0<=sizeLine:=by decide
 have z2:2<=sizeLine:=by decide
 obtain⟨tA,Iw,LW,KY,eA,gA,T6,lA⟩:=v8 (ns:=ns) (one:=one) (two:=two) (pick:=pick) (many:=(n:Int)) (c5:=some (m5,.rl (P.map .int))) (c6:=some (m6,.int t)) (c7:=some (m7,.rl (O.map .int))) (ts0:=[]) hn L4 DO ⟨λi h=>by simp at h,λ_ h=>by simp at h⟩ (by simp) none none none;rw[nil_append]at eA T6;obtain⟨tB,UP,Yg,Yh,eB,gB,dW,lB⟩:=v8 (ns:=ns) (one:=one) (two:=two) (pick:=pick) (many:=(n:Int)) (c5:=some (m5,.rl (P.map .int))) (c6:=some (m6,.int t)) (c7:=some (m7,.rl (O.map .int))) (ts0:=tA) hn (pO.nodup_iff.mpr L4) (by rw[pO.length_eq,DO]) T6 (by omega) Iw LW KY;have Lg:(tA++tB).length<=14:=by rw[aaj];omega
 have nd:=dW.nodup Lg;have nn:∀t∈tA++tB,0<=t.1:=λt ht=>by
  obtain⟨i,hi,rfl⟩:=getElem_of_mem ht;rw[dW.name i hi];exact KZ _ _ _
 obtain⟨x,y,hxy,hx,hy,ep⟩:=Ie (pick:=pick) hn DO;obtain⟨ok,tt⟩:=L3 (p:=x) (q:=y) gA gB pO nd nn dW.ends hxy hx hy Lg;refine⟨x,y,fY (tA++tB),_,_,?_,ok,tt⟩;have s3:=tN (ts:=tA++tB) (by omega);rw[ak (env':=tE ns one two pick n (some (m5,.rl (P.map .int))) (some (m6,.int t)) (some (m7,.rl (O.map .int))) [] none none none none) (by simp only[EV,z0];rfl)];have T7:∀(row:List Int) (ts0 WC:List T3) (r0 vR Hx c12 oW DL DM:Sl),eE (λx env=>pb (pl (cF (.one 10) x env)) λenv'=>av (ai zY) [8] TY env') ((List.range (n-1)).map λ(i:Nat)=>Val.int (1+(i:Int))) (tE ns one two pick (n:Int) (some (m5,.rl (P.map .int))) (some (m6,.int t)) (some (m7,.rl (O.map .int))) ts0 (some (.sh,.rl (row.map .int))) vR Hx c12)=.ok (.nx (tE ns one two pick (n:Int) (some (m5,.rl (P.map .int))) (some (m6,.int t)) (some (m7,.rl (O.map .int))) WC (some (.sh,.rl (row.map .int))) oW DL DM)) ->
   pb (pl (cF (.one 9) (.rl (row.map .int)) (tE ns one two pick (n:Int) (some (m5,.rl (P.map .int))) (some (m6,.int t)) (some (m7,.rl (O.map .int))) ts0 r0 vR Hx c12))) (λenv'=>av (ai zY) [8] UO env')=.ok (.nx (tE ns one two pick (n:Int) (some (m5,.rl (P.map .int))) (some (m6,.int t)) (some (m7,.rl (O.map .int))) WC (some (.sh,.rl (row.map .int))) oW DL DM)):=λrow ts0 WC r0 vR Hx c12 oW DL DM h=>by
  rw[aV,bB,ay];simp only[set_cons_succ,set_cons_zero];unfold UO;rw[ak ((Ic (n:=n) rfl (by simp only[EV,ay]) (by omega)).trans h),av]
 have o1:=T7 P [] tA none none none none Iw LW KY eA;have o2:=T7 O tA (tA++tB) (some (.sh,.rl (P.map .int))) Iw LW KY UP Yg Yh eB;rw[ak (env':=tE ns one two pick n (some (m5,.rl (P.map .int))) (some (m6,.int t)) (some (m7,.rl (O.map .int))) (tA++tB) (some (.sh,.rl (O.map .int))) UP Yg Yh) ((Cj (vs:=[.rl (P.map .int),.rl (O.map .int)]) rfl (by simp only[EV,k5,k7,z2])).trans (by rw[eE,o1,ay];dsimp only;rw[eE,o2,ay];dsimp only;rw[eE]))];rw[ak (cz (f:=true) (v:=.rl [.int x,.int y]) rfl rfl (ep _ m5 k5 rfl rfl rfl))];simp only[set_cons_succ,set_cons_zero];obtain⟨m13,WD,k13⟩:∃m,fj true (.rl [.int x,.int y])=m/\iJ m=true:=⟨_,rfl,gJ⟩;rw[WD];unfold Ib;simp only[EV,k13,j6 tH,j6 pR,z2,s3];rfl
theorem P6{one two:Int}{n:Nat}{num:Int->Int}(hnum:∀k,gu [.int two,.int one,.int k]=.ok (true,.int (num k)))(hn:n<=8){e0 e3:Sl}:bg (ai zY) P1 [e0,some (.sh,.int one),some (.sh,.int two),e3,some (.sh,.int (n:Int)),none,none,none,none,none,none,none,none,none]=.ok (true,.rl (((List.range n).map λi:Nat=>num (0+(i:Int))).map .int)):=by
 have tn:(n:Int).toNat=n:=by omega
 have hR:inR (n:Int)=true:=by unfold inR;simp only[and_eq_true,decide_eq_true_eq];omega
 have cm:=fy (f:=λd=>pb (pl (cF (.one 0) d [none,some (.sh,.int two),some (.sh,.int one)])) λenv'=>pb (.ok true) λt=>if t=true then pb (bg (ai zY) (.call 1 #[!1,!2,!0]) env') λe=>.ok (some e) else .ok none) (λi:Nat=>Val.int (0+(i:Int))) (λi:Nat=>.int (num (0+(i:Int)))) (List.range n) (λi hi=>by
  simp only[EV,aV,fE,hnum])
 have its:gI (ai zY) #[!4] [e0,some (.sh,.int one),some (.sh,.int two),e3,some (.sh,.int (n:Int)),none,none,none,none,none,none,none,none,none]=.ok [.int (n:Int)]:=by simp only[EV,ay]
 unfold P1;rw[bg,its,ay,FU,LX hR,tn,bB,ay,jU (decide_eq_true (by rw[aae,length_range];omega))];refine(congrArg (λr=>pb r λp=>Pr.ok (p.1,Val.rl p.2)) (Eq.trans ?_ cm)).trans ?_
 ·rfl
 ·rw[aa2];rfl
theorem P7(ns:List Int):∃p q ts A B,gD [.rl (ns.map .int)]=.ok (true,di p q ts)/\aU p q ts/\TT p q ts A B:=by
 have c0:bh [.rl (ns.map .int),.int 0]=.ok (true,.int (cellAt ns 0)):=eL ns 0;have c1:bh [.rl (ns.map .int),.int 1]=.ok (true,.int (cellAt ns 1)):=eL ns 1;have c2:bh [.rl (ns.map .int),.int 2]=.ok (true,.int (cellAt ns 2)):=eL ns 2;generalize cellAt ns 0=one at *;generalize cellAt ns 1=two at *;generalize cellAt ns 2=pick at *;obtain⟨n,Ig⟩:=aa3 (show 0<=2+pick%7 by omega);have hn:2<=n/\n<=8:=by omega
 have hR:inR (n:Int)=true:=by unfold inR;simp only[and_eq_true,decide_eq_true_eq];omega
 obtain⟨P,UQ⟩:∃P:List Int,P=(List.range n).map λi:Nat=>mq two one (0+(i:Int)):=⟨_,rfl⟩;have DO:P.length=n:=by rw[UQ,aae,length_range]
 have L4:P.Nodup:=by unfold List.Nodup;rw[UQ,pairwise_map];refine List.Pairwise.imp_of_mem ?_ (List.nodup_range (n:=n));intro a b ha hb hab e;have ha:=mem_range.mp ha;have hb:=mem_range.mp hb;have:=zG two one (0+(a:Int)) (0+(b:Int)) (by omega) (by omega) e;exact hab (by omega)
 show ∃p q ts A B,pb (av (ai zY) [8] cJ [some (.sh,.rl (ns.map .int)),none,none,none,none,none,none,none,none,none,none,none,none,none]) _=_/\_;rw[P5];rw[ak (cz (f:=true) (v:=.int one) rfl rfl (by unfold uG;simp only[EV,bX,c0]))];simp only[set_cons_succ,set_cons_zero,fP];rw[ak (cz (f:=true) (v:=.int two) rfl rfl (by unfold uG;simp only[EV,bX,c1]))];simp only[set_cons_succ,set_cons_zero,fP];rw[ak (cz (f:=true) (v:=.int pick) rfl rfl (by unfold uG;simp only[EV,bX,c2]))];simp only[set_cons_succ,set_cons_zero,fP];rw[ak (cz (f:=true) (v:=.int (n:Int)) rfl rfl (by unfold TZ;simp only[EV,gY (show decide ((0:Int)<7)=true by decide),Ig]))];simp only[set_cons_succ,set_cons_zero,fP];have Yi:=P6 (one:=one) (two:=two) (n:=n) (B0 two one) hn.2 (e0:=some (.sh,.rl (ns.map .int))) (e3:=some (.sh,.int pick));rw[<-UQ] at Yi;clear UQ;rw[ak (cz (f:=true) (v:=.rl (P.map .int)) rfl rfl Yi)];simp only[set_cons_succ,set_cons_zero];obtain⟨m5,WE,k5⟩:∃m,fj true (.rl (P.map .int))=m/\iJ m=true:=⟨_,rfl,gJ⟩;rw[WE];have mt:dZ .mod (.int (pick/7)) (.int (n:Int))=.ok (true,.int (pick/7%(n:Int))):=gY (by rw[aaX];omega);have t0:0<=pick/7%(n:Int):=emod_nonneg _ (by omega);generalize pick/7%(n:Int)=t at mt t0;have pm:(cg P (some t) none++cg P none (some t)).Perm P:=by refine List.perm_append_comm.trans ?_;rw[Ia _ t t0]
 have P8:dZ .add (.rl (cg (P.map Val.int) (some t) none)) (.rl (cg (P.map Val.int) none (some t)))=.ok (bD ((cg P (some t) none++cg P none (some t)).map Val.int),.rl ((cg P (some t) none++cg P none (some t)).map .int)):=by rw[oj,oj,lz,aaO];have:=pm.length_eq;rw[aaj]at this;rw[aae,aae,this];unfold sizeLine;omega
 generalize cg P (some t) none++cg P none (some t)=O at *;rw[ak (cz (f:=true) (v:=.int t) rfl rfl (by unfold T4;simp only[EV,jV (show kg 7=true by decide),mt]))];simp only[set_cons_succ,set_cons_zero];obtain⟨m6,hm6,k6⟩:∃m,fj true (.int t)=m/\iJ m=true:=⟨_,rfl,gJ⟩;rw[hm6];rw[ak (cz (f:=bD (O.map Val.int)) (v:=.rl (O.map .int)) rfl rfl (by unfold T5;simp only[EV,k5,k6,LO,P8]))];simp only[set_cons_succ,set_cons_zero];obtain⟨m7,hm7,k7⟩:∃m,fj (bD (O.map Val.int)) (.rl (O.map .int))=m/\iJ m=true:=⟨_,rfl,gJ⟩;rw[hm7];have eb:zX (ai zY) P4 [some (.sh,.rl (ns.map .int)),some (.sh,.int one),some (.sh,.int two),some (.sh,.int pick),some (.sh,.int (n:Int)),some (m5,.rl (P.map .int)),some (m6,.int t),some (m7,.rl (O.map .int)),none,none,none,none,none,none]=.ok (true,.bl (decide (pick/56%2=1))):=by unfold P4;simp only[EV,jV (show kg 56=true by decide),gY (show decide ((0:Int)<2)=true by decide)]
 cases hb:decide (pick/56%2=1) with
 |false=>rw[hb]at eb;rw[ak (fV eb)];exact zU ns hn DO L4 O m5 m6 m7 t pm k5 k7
 |true=>
  rw[hb]at eb;have erv:(O.map Val.int).reverse=O.reverse.map Val.int:=map_reverse.symm;rw[ak ((gE eb).trans ((ak (cz (f:=bD (O.reverse.map Val.int)) (v:=.rl (O.reverse.map .int)) rfl rfl (by
   unfold Yd;simp only[EV,k7,erv]))).trans (by rw[av])))]
  simp only[set_cons_succ,set_cons_zero];obtain⟨m8,WG,k8⟩:∃m,fj (bD (O.reverse.map Val.int)) (.rl (O.reverse.map .int))=m/\iJ m=true:=⟨_,rfl,gJ⟩;rw[WG];exact zU ns hn DO L4 O.reverse m5 m6 m8 t ((List.reverse_perm O).trans pm) k5 k8
end K33
end
section
open PySem L2 Hv
namespace K33
theorem xS{c:Int}{l:List Int}(h:l.length<64):∃m:List Int,jI [.int c,.rl (l.map .int)]=.ok (true,.rl (m.map .int))/\m.Perm l:=by
 refine⟨kU l.length c l,?_,vJ _ _ _ rfl⟩;show zk [.int c,.rl (l.map .int)]=_;unfold zk
 try dsimp only
 rw[ints_map]
 try dsimp only
 rw[aak h]
theorem T8:∃K:Int,dZ .pow (.int 10) (.int 57)=.ok (true,.int K)/\0<K/\kg K=true:=⟨_,BR (by decide),by decide +kernel,by decide +kernel⟩
def gB:dm:=#[.asg (.one 2) (.bin .add (.bin .add (!2) (¬1)) (.bin .mod (!0) (.bin .pow (¬10) (¬57)))),.asg (.one 0) (.bin .fdiv (!0) (.bin .pow (¬10) (¬57))),.expr (.met .append (!3) #[!2])]
theorem P9:bJ=.cons (.asg (.one 2) (.neg (¬1))) #[.asg (.one 3) (.lst .nil),.for (.one 4) .range #[!1] gB,.ret (!3)]:=rfl
theorem Ih{c:Int}{n:Nat}(hn:n<=20):∃(f:Bool) (l:List Int),b6 [.int c,.int (n:Int)]=.ok (f,.rl (l.map .int))/\l.length=n/\l.Pairwise (· < ·)/\∀x∈l,0<=x:=by
 obtain⟨K,hK,K0,dK⟩:=T8;have z0:0<=sizeLine:=by decide
 have ms:gW bJ=[3]:=rfl;have eu:b6 [.int c,.int (n:Int)]=pb (av (ai UD) [3] bJ [some (.sh,.int c),some (.sh,.int (n:Int)),none,none,none]) (λf=>match f with|.nx _=>.ok (true,.non)|.rt p=>.ok p|_=>.no):=by unfold b6 gh;rw[ms];rfl
 rw[eu,P9];rw[ak (env':=[some (.sh,.int c),some (.sh,.int (n:Int)),some (.sh,.int (-1)),none,none]) (by simp only[EV,ay])];rw[ak (env':=[some (.sh,.int c),some (.sh,.int (n:Int)),some (.sh,.int (-1)),some (.ow,.rl (([]:List Int).map .int)),none]) (by simp only[EV,z0])];rw[av,HU (n:=n) rfl (by simp only[EV,ay]) (by omega)]
 repeat rw[vA]
 refine gj (λi:Nat=>Val.int (0+(i:Int))) (λr:Pr FV=>∃(f:Bool) (l:List Int),r=.ok (f,.rl (l.map .int))/\l.length=n/\l.Pairwise (· < ·)/\∀x∈l,0<=x)
  (λdone env=>∃(c last:Int) (l:List Int) (c4:Sl),env=[some (.sh,.int c),some (.sh,.int (n:Int)),some (.sh,.int last),some (.ow,.rl (l.map .int)),c4]/\l.length=done.length/\l.Pairwise (· < ·)/\(∀x∈l,0<=x/\x<=last) /\ -1<=last)
  ⟨c,-1,[],none,rfl,rfl,.nil,λx hx=>by simp at hx,by omega⟩ ?_ ?_
 ·rintro pre i post env he ⟨c,last,l,c4,rfl,hl,pw,hb,h1⟩
  obtain⟨rfl,hi⟩:=uf he;have md:dZ .mod (.int c) (.int K)=.ok (true,.int (c%K)):=gY (decide_eq_true K0);have m0:0<=c%K:=emod_nonneg _ (by omega);generalize c%K=r at md m0;have dv:dZ .fdiv (.int c) (.int K)=.ok (true,.int (c/K)):=jV dK;have zl:(l.map Val.int).length<sizeLine:=by rw[aae];unfold sizeLine;omega
  have ea:l.map Val.int++[.int (last+1+r)]=(l++[last+1+r]).map .int:=by rw[aaO];rfl
  refine⟨_,?_,c/K,last+1+r,l++[last+1+r],some (.sh,.int (0+((pre.length:Nat):Int))),rfl,by simp[hl],?_,λx hx=>?_,by omega⟩
  ·rw[aV,bB,ay];simp only[set_cons_succ,set_cons_zero];unfold gB;rw[ak (env':=[some (.sh,.int c),some (.sh,.int (n:Int)),some (.sh,.int (last+1+r)),some (.ow,.rl (l.map .int)),some (.sh,.int (0+((pre.length:Nat):Int)))]) (by simp only[EV,hK,md])];rw[ak (env':=[some (.sh,.int (c/K)),some (.sh,.int (n:Int)),some (.sh,.int (last+1+r)),some (.ow,.rl (l.map .int)),some (.sh,.int (0+((pre.length:Nat):Int)))]) (by simp only[EV,hK,dv])];simp only[EV,zl,ea]
  ·rw[List.pairwise_append];refine⟨pw,List.pairwise_singleton _ _,λa ha b hb'=>?_⟩;rw[aap.mp hb'];have:=hb a ha;omega
  ·rcases aas.mp hx with h|h
   ·have:=hb x h;omega
   ·rw[aap.mp h];omega
 ·rintro env ⟨c,last,l,c4,rfl,hl,pw,hb,h1⟩;refine⟨bD (l.map Val.int),l,?_,by rw[hl,length_range],pw,λx hx=>(hb x hx).1⟩;simp only[EV,ay]
def UR:dm:=#[.asg (.one 10) (.idx (!8) (.bin .mod (!5) (!9))),.asg (.one 5) (.bin .fdiv (!5) (!9)),.expr (.met .append (!6) #[.tup #[.idx (!4) (.blt .len #[!6]),.blt .min #[.idx (!8) (!9),!10],.blt .max #[.idx (!8) (!9),!10]]])]
def US:dm:=#[.asg (.one 8) (.call 4 #[.call 0 #[!0,!7],!3]),.for (.one 9) .range #[¬1,!2] UR]
def Yj:IE:=(.call 3 #[.call 0 #[!0,¬1],!2])
def Yk:IE:=(.call 4 #[.call 0 #[!0,¬7],.call 3 #[.call 0 #[!0,¬0],.bin .sub (.bin .mul (¬2) (!2)) (¬2)]])
def T9:IE:=(.bin .add (¬2) (.bin .mod (!1) (¬7)))
def WH:IE:=(.bin .mod (.bin .fdiv (!1) (¬7)) (!2))
def WI:IE:=(.bin .mod (.bin .fdiv (.bin .fdiv (!1) (¬7)) (!2)) (!2))
def Qa:IE:=(.tup #[.tup #[.idx (!3) (.blt .min #[!11,!12]),.idx (!3) (.blt .max #[!11,!12])],.blt .sorted #[!6]])
theorem Qc:bV=.cons (.asg (.one 1) (uG 2)) #[.asg (.one 2) T9,.asg (.one 3) Yj,.asg (.one 4) Yk,.asg (.one 5) (uG 5),.asg (.one 6) (.lst .nil),.for (.one 7) .seq #[.tup #[¬3,¬4]] US,.asg (.one 11) WH,.asg (.one 12) WI,.ret Qa]:=rfl
structure Ii (Nm:List Int) (ts:List T3):Prop where
 name:ts.map (·.1)=Nm.take ts.length
 ends:∀t∈ts,t.2.1<=t.2.2
abbrev aE(ns:List Int)(rest:Int)(n:Nat)(c3:Sl)(m4:Mk)(Nm:List Int)(c:Int)(ts:List T3)(c7 c8 c9 vR:Sl):bC:=[some (.sh,.rl (ns.map .int)),some (.sh,.int rest),some (.sh,.int (n:Int)),c3,some (m4,.rl (Nm.map .int)),some (.sh,.int c),some (.ow,.rl (ts.map dh)),c7,c8,c9,vR,none,none]
theorem Ij{ns:List Int}{rest:Int}{n:Nat}(hn:2<=n/\n<=8){row:List Int}(hr:row.Nodup)(hl:row.length=n){c3 c7:Sl}{m4 m8:Mk}(k4:iJ m4=true)(k8:iJ m8=true){Nm:List Int}{ts0:List T3}(h0:Ii Nm ts0)(hts:ts0.length+(n-1)<=Nm.length)(Ua:ts0.length<=7)(c:Int)(c9 vR:Sl) :
  ∃(tA:List T3) (c':Int) (d9 oW:Sl),eE (λx env=>pb (pl (cF (.one 9) x env)) λenv'=>av (ai DK) [6] UR env') ((List.range (n-1)).map λ(i:Nat)=>Val.int (1+(i:Int))) (aE ns rest n c3 m4 Nm c ts0 c7 (some (m8,.rl (row.map .int))) c9 vR)=.ok (.nx (aE ns rest n c3 m4 Nm c' (ts0++tA) c7 (some (m8,.rl (row.map .int))) d9 oW))/\iy row (tA.map (·.2))/\Ii Nm (ts0++tA)/\tA.length=n-1:=by
 have r0:row.take 1=[row[0]]:=by
  cases row with
  |nil=>simp at hl;omega
  |cons x r=>rfl
 obtain⟨env',e,tA,c',d9,oW,he,hlen,hg,hok⟩:=iA (λ(i:Nat)=>Val.int (1+(i:Int))) (body:=λx env=>pb (pl (cF (.one 9) x env)) λenv'=>av (ai DK) [6] UR env')
  (λdone env=>∃(tA:List T3) (c':Int) (d9 oW:Sl),env=aE ns rest n c3 m4 Nm c' (ts0++tA) c7 (some (m8,.rl (row.map .int))) d9 oW/\tA.length=done.length/\iy (row.take (done.length+1)) (tA.map (·.2))/\Ii Nm (ts0++tA))
  (List.range (n-1)) [] (aE ns rest n c3 m4 Nm c ts0 c7 (some (m8,.rl (row.map .int))) c9 vR) ⟨[],c,c9,vR,by rw[aaM],rfl,by rw[length_nil,Nat.zero_add,r0];exact .one _,by rw[aaM];exact h0⟩ (by
   rintro pre i post env he ⟨tA,c,d9,oW,rfl,hlen,hg,hok⟩;obtain⟨rfl,hi⟩:=uf he;have hk:pre.length+1<row.length:=by omega
   have hdv:kg (1+((pre.length:Nat):Int))=true:=by unfold kg;rw[aaX];omega
   obtain⟨y,x,j,md,i1,i2,et,nin,WB⟩:=v7 hr hk c;have dv:dZ .fdiv (.int c) (.int (1+((pre.length:Nat):Int)))=.ok (true,.int (c/(1+((pre.length:Nat):Int)))):=jV hdv;have hnl:(ts0++tA).length<Nm.length:=by rw[aaj];omega
   have i3:ko (Nm.map Val.int) ((ts0++tA).length:Int)=some (.int Nm[(ts0++tA).length]):=by refine iV ?_;rw[aaF,aax hnl];rfl
   have z:(ts0++tA).length<sizeLine:=by rw[aaj];unfold sizeLine;omega
   have z3:3<=sizeLine:=by decide
   have en:Nm.take ((ts0++tA).length+1)=Nm.take (ts0++tA).length++[Nm[(ts0++tA).length]]:=List.take_succ_eq_append_getElem hnl;have g':=vZ (nm:=Nm[(ts0++tA).length]) hg nin WB;generalize Nm[(ts0++tA).length]=w at *;have tt:Val.tup [.int w,.int (if x<y then x else y),.int (if x>y then x else y)]=dh (turnT (w,y,x)):=rfl;have ea:(ts0++tA).map dh++[dh (turnT (w,y,x))]=(ts0++(tA++[turnT (w,y,x)])).map dh:=by simp
   refine⟨_,?_,tA++[turnT (w,y,x)],c/(1+((pre.length:Nat):Int)),some (.sh,.int (1+((pre.length:Nat):Int))),some (.sh,.int x),rfl,by simp[hlen],by rw[aaj,aaQ,et,aaO];exact g',by
    rw[<-aaS];refine⟨?_,λt ht=>?_⟩
    ·have el:(ts0++tA++[turnT (w,y,x)]).length=(ts0++tA).length+1:=by rw[aaj];rfl
     rw[aaO,hok.name,el,en];rfl
    ·rcases aas.mp ht with ht|ht
     ·exact hok.ends t ht
     ·rw[aap]at ht;subst ht;unfold turnT;dsimp only;split<;>split<;>omega⟩
   rw[aV,bB,ay];simp only[set_cons_succ,set_cons_zero];unfold UR;rw[ak (cz (f:=true) (v:=.int x) rfl rfl (by simp only[EV,k8,md,j6 i2]))];simp only[set_cons_succ,set_cons_zero,fP];rw[ak (cz (f:=true) (v:=.int (c/(1+((pre.length:Nat):Int)))) rfl rfl (by simp only[EV,dv]))];simp only[set_cons_succ,set_cons_zero,fP];simp only[EV,k4,k8,length_map,j6 i1,j6 i3,z3,tt,z,ea])
 rw[nil_append,length_range]at hlen hg;have ef:row.take (n-1+1)=row:=List.take_of_length_le (by omega);rw[ef]at hg;exact⟨tA,c',d9,oW,by rw[e,he],hg,hok,hlen⟩
end K33
end
section
open PySem L2 Hv
namespace K33
theorem Ub{ms:List Nat}{i:Nat}(h1:(tu (.one i) #[e] B&&(stored (.one i)).all λi=>!ms.contains i)=true)(h2:gI Ψ #[e] env=.ok [.tup vs]) :
  bw Ψ ms (.for (.one i) .seq #[e] B) env=eE (λx env=>pb (pl (cF (.one i) x env)) λenv'=>av Ψ ms B env') vs env:=by
 rw[bw,h1,jU rfl,h2,ay,LN,bB,ay]
theorem Uc{P:List Int}(h:P.Pairwise (· < ·)){i j:Nat}(hj:j<P.length)(hi:i<=j):P[i]<=P[j]:=by
 rcases Nat.lt_or_eq_of_le hi with h1|h1
 ·exact Int.le_of_lt (pairwise_iff_getElem.mp h i j (by omega) hj h1)
 ·subst h1;exact Int.le_refl _
theorem Cp{ns:List Int}{rest:Int}{n:Nat}(hn:2<=n/\n<=8){P:List Int}(hP:P.Nodup)(hl:P.length=n){m3 m4:Mk}(k3:iJ m3=true)(k4:iJ m4=true){Nm:List Int}{ts0:List T3}(h0:Ii Nm ts0)(hts:ts0.length+(n-1)<=Nm.length)(Ua:ts0.length<=7)(c:Int)(a:Nat)(c7 c8 c9 vR:Sl) :
  ∃(tA:List T3) (row:List Int) (c':Int) (d7 d8 d9 oW:Sl),pb (pl (cF (.one 7) (.int (a:Int)) (aE ns rest n (some (m3,.rl (P.map .int))) m4 Nm c ts0 c7 c8 c9 vR))) (λenv'=>av (ai DK) [6] US env')=.ok (.nx (aE ns rest n (some (m3,.rl (P.map .int))) m4 Nm c' (ts0++tA) d7 d8 d9 oW))/\iy row (tA.map (·.2))/\row.Perm P/\Ii Nm (ts0++tA)/\tA.length=n-1:=by
 have ec:bh [.rl (ns.map .int),.int (a:Int)]=.ok (true,.int (cellAt ns a)):=eL ns a;obtain⟨row,ed,pr⟩:=xS (c:=cellAt ns a) (l:=P) (by omega);generalize cellAt ns a=u at ec ed;obtain⟨m8,WG,k8⟩:∃m,fj true (.rl (row.map .int))=m/\iJ m=true:=⟨_,rfl,gJ⟩;obtain⟨tA,c',d9,oW,e,g,ok,lA⟩:=Ij (ns:=ns) (rest:=rest) (c3:=some (m3,.rl (P.map .int))) (c7:=some (.sh,.int (a:Int))) (m4:=m4) (m8:=m8) hn (pr.nodup_iff.mpr hP) (by rw[pr.length_eq,hl]) k4 k8 h0 hts Ua c c9 vR;refine⟨tA,row,c',some (.sh,.int (a:Int)),some (m8,.rl (row.map .int)),d9,oW,?_,g,pr,ok,lA⟩;rw[aV,bB,ay];simp only[set_cons_succ,set_cons_zero];unfold US;rw[ak (cz (f:=true) (v:=.rl (row.map .int)) rfl rfl (by simp only[EV,k3,bY,ec,fU,ed]))];simp only[set_cons_succ,set_cons_zero];rw[WG];rw[ak ((Ic (n:=n) rfl (by simp only[EV,ay]) (by omega)).trans e),av]
theorem Il(ns:List Int){rest:Int}{n:Nat}(hn:2<=n/\n<=8){P Nm:List Int}(DO:P.length=n)(UT:P.Pairwise (· < ·))(Yl:Nm.length=2*n-2)(hNn:Nm.Nodup)(hN0:∀x∈Nm,0<=x)(c:Int)(m3 m4:Mk)(k3:iJ m3=true)(k4:iJ m4=true) :
  ∃p q ts A B,pb (av (ai DK) [6] #[.asg (.one 6) (.lst .nil),.for (.one 7) .seq #[.tup #[¬3,¬4]] US,.asg (.one 11) WH,.asg (.one 12) WI,.ret Qa] [some (.sh,.rl (ns.map .int)),some (.sh,.int rest),some (.sh,.int (n:Int)),some (m3,.rl (P.map .int)),some (m4,.rl (Nm.map .int)),some (.sh,.int c),none,none,none,none,none,none,none]) (λf=>match f with|.nx _=>.ok (true,.non)|.rt p=>.ok p|_=>.no)=.ok (true,di p q ts)/\aU p q ts/\TT p q ts A B:=by
 have z0:0<=sizeLine:=by decide
 have z2:2<=sizeLine:=by decide
 have L4:P.Nodup:=UT.imp λh e=>by omega
 obtain⟨tA,rA,cA,a7,a8,a9,Iw,eA,gA,pA,T6,lA⟩:=Cp (ns:=ns) (rest:=rest) (Nm:=Nm) (ts0:=[]) hn L4 DO k3 k4 ⟨rfl,λ_ h=>by simp at h⟩ (by rw[length_nil];omega) (by simp) c 3 none none none none;rw[nil_append]at eA T6;obtain⟨tB,rB,cB,b7,b8,b9,UP,eB,gB,pB,dW,lB⟩:=Cp (ns:=ns) (rest:=rest) (Nm:=Nm) (ts0:=tA) hn L4 DO k3 k4 T6 (by omega) (by omega) cA 4 a7 a8 a9 Iw;have Lg:(tA++tB).length<=14:=by rw[aaj];omega
 have nm:=dW.name;have nd:((tA++tB).map (·.1)).Nodup:=by rw[nm];exact hNn.sublist (take_sublist _ _)
 have nn:∀t∈tA++tB,0<=t.1:=λt ht=>by
  have:t.1∈(tA++tB).map (·.1):=aaW.mpr ⟨t,ht,rfl⟩;rw[nm]at this;exact hN0 _ (List.mem_of_mem_take this)
 have m1:dZ .mod (.int (rest/7)) (.int (n:Int))=.ok (true,.int (rest/7%(n:Int))):=gY (by rw[aaX];omega);have q1:0<=rest/7%(n:Int):=emod_nonneg _ (by omega);have q2:rest/7%(n:Int)<(n:Int):=emod_lt_of_pos _ (by omega);have d2:dZ .fdiv (.int (rest/7)) (.int (n:Int))=.ok (true,.int (rest/7/(n:Int))):=jV (by unfold kg;rw[aaX];omega);have m2:dZ .mod (.int (rest/7/(n:Int))) (.int (n:Int))=.ok (true,.int (rest/7/(n:Int)%(n:Int))):=gY (by rw[aaX];omega);have q3:0<=rest/7/(n:Int)%(n:Int):=emod_nonneg _ (by omega);have q4:rest/7/(n:Int)%(n:Int)<(n:Int):=emod_lt_of_pos _ (by omega);have d7:dZ .fdiv (.int rest) (.int 7)=.ok (true,.int (rest/7)):=jV (by decide);generalize rest/7/(n:Int)%(n:Int)=j2 at *;generalize rest/7%(n:Int)=j1 at *;obtain⟨u,hu⟩:=aa3 (show 0<=(if j2<j1 then j2 else j1) by split<;>omega);obtain⟨v,hv⟩:=aa3 (show 0<=(if j2>j1 then j2 else j1) by split<;>omega);have huv:u<=v/\v<n:=by
  have:(u:Int)<=v:=by rw[<-hu,<-hv];split<;>split<;>omega
  have:(v:Int)<n:=by rw[<-hv];split<;>omega
  omega
 have ix:∀w:Nat,(hw:w<P.length)->ko (P.map Val.int) (w:Int)=some (.int P[w]):=λw hw=>by
  refine iV ?_;rw[aaF,aax hw];rfl
 have iu:=ix u (by omega);have iv:=ix v (by omega);have pu:=Uc UT (i:=u) (j:=v) (by omega) huv.1;have mu:P[u]∈P:=List.getElem_mem _;have mv:P[v]∈P:=List.getElem_mem _;have gA':iy rA (tA.map (·.2)):=gA;obtain⟨ok,tt⟩:=L3 (p:=P[u]) (q:=P[v]) gA gB (pB.trans pA.symm) nd nn dW.ends pu (pA.mem_iff.mpr mu) (pA.mem_iff.mpr mv) Lg;have s3:=tN (ts:=tA++tB) (by omega);refine⟨P[u],P[v],fY (tA++tB),_,_,?_,ok,tt⟩;clear tt ok mu mv pu;generalize P[u]=xu at *;generalize P[v]=xv at *;rw[ak (env':=aE ns rest n (some (m3,.rl (P.map .int))) m4 Nm c [] none none none none) (by simp only[EV,z0];rfl)];rw[ak (env':=aE ns rest n (some (m3,.rl (P.map .int))) m4 Nm cB (tA++tB) b7 b8 b9 UP) ((Ub (vs:=[.int ((3:Nat):Int),.int ((4:Nat):Int)]) rfl (by simp only[EV,z2];rfl)).trans (by rw[eE,eA,ay];dsimp only;rw[eE,eB,ay];dsimp only;rw[eE]))];rw[ak (cz (f:=true) (v:=.int j1) rfl rfl (by unfold WH;simp only[EV,d7,m1]))];simp only[set_cons_succ,set_cons_zero,fP];rw[ak (cz (f:=true) (v:=.int j2) rfl rfl (by unfold WI;simp only[EV,d7,d2,m2]))];simp only[set_cons_succ,set_cons_zero,fP];unfold Qa;simp only[EV,k3,hu,hv,j6 iu,j6 iv,z2,s3];rfl
theorem call2{j:Nat}{f g:Bool}(ea:bg Ψ a env=.ok (f,x))(eb:bg Ψ b env=.ok (g,y))(e:Ψ j [x,y]=r):bg Ψ (.call j #[a,b]) env=r:=by
 rw[bg,qP,ea,ay,qP,eb,ay,qP,ay,ay,ay];exact e
theorem Lh{n:Nat}(hn:n<=8)(e:env[2]?=some (some (.sh,.int (n:Int)))):bg Ψ (.bin .sub (.bin .mul (¬2) (!2)) (¬2)) env=.ok (true,.int (2*(n:Int)-2)):=by
 have ml:dZ .mul (.int 2) (.int (n:Int))=.ok (true,.int (2*(n:Int))):=BQ (t8 _ _ (by omega));simp only[EV,e,ml]
theorem Im{ns:List Int}{k:Int}{u:Int}(e:env[0]?=some (some (.sh,.rl (ns.map .int))))(c:bh [.rl (ns.map .int),.int k]=.ok (true,.int u)):bg (ai DK) (.call 0 #[!0,.cst (.int k)]) env=.ok (true,.int u):=by
 simp only[EV,e,bY,c]
theorem Ud{n:Nat}(e:env[2]?=some (some (.sh,.int (n:Int)))):bg Ψ (!2) env=.ok (true,.int (n:Int)):=by
 simp only[EV,e]
theorem any_eq(ns:List Int):∃p q ts A B,cW [.rl (ns.map .int)]=.ok (true,di p q ts)/\aU p q ts/\TT p q ts A B:=by
 have c0:bh [.rl (ns.map .int),.int 0]=.ok (true,.int (cellAt ns 0)):=eL ns 0;have c1:bh [.rl (ns.map .int),.int 1]=.ok (true,.int (cellAt ns 1)):=eL ns 1;have c2:bh [.rl (ns.map .int),.int 2]=.ok (true,.int (cellAt ns 2)):=eL ns 2;have c5:bh [.rl (ns.map .int),.int 5]=.ok (true,.int (cellAt ns 5)):=eL ns 5;have c7:bh [.rl (ns.map .int),.int 7]=.ok (true,.int (cellAt ns 7)):=eL ns 7;generalize cellAt ns 0=one at *;generalize cellAt ns 1=two at *;generalize cellAt ns 2=rest at *;generalize cellAt ns 5=Ue at *;generalize cellAt ns 7=Ug at *;obtain⟨n,Ig⟩:=aa3 (show 0<=2+rest%7 by omega);have hn:2<=n/\n<=8:=by omega
 obtain⟨f3,P,eP,DO,UT,_⟩:=Ih (c:=two) (n:=n) (by omega);obtain⟨f0,N0,eN,Yl,hNu,hN0⟩:=Ih (c:=one) (n:=2*n-2) (by omega);obtain⟨Nm,eD,pN⟩:=xS (c:=Ug) (l:=N0) (by omega);have e2n:((2*n-2:Nat):Int)=2*(n:Int)-2:=by omega
 rw[e2n]at eN;rw[<-gT]at eP eN;rw[<-fU]at eD;have ms:gW bV=[6]:=rfl;have eu:cW [.rl (ns.map .int)]=pb (av (ai DK) [6] bV [some (.sh,.rl (ns.map .int)),none,none,none,none,none,none,none,none,none,none,none,none]) (λf=>match f with|.nx _=>.ok (true,.non)|.rt p=>.ok p|_=>.no):=by unfold cW gh;rw[ms];rfl
 rw[eu,Qc];rw[ak (cz (f:=true) (v:=.int rest) rfl rfl (by unfold uG;simp only[EV,bY,c2]))];simp only[set_cons_succ,set_cons_zero,fP];rw[ak (cz (f:=true) (v:=.int (n:Int)) rfl rfl (by unfold T9;simp only[EV,gY (show decide ((0:Int)<7)=true by decide),Ig]))];simp only[set_cons_succ,set_cons_zero,fP];rw[ak (cz (f:=f3) (v:=.rl (P.map .int)) rfl rfl (by unfold Yj;exact call2 (Im rfl c1) (Ud rfl) eP))];simp only[set_cons_succ,set_cons_zero];obtain⟨m3,TX,k3⟩:∃m,fj f3 (.rl (P.map .int))=m/\iJ m=true:=⟨_,rfl,gJ⟩;rw[TX];rw[ak (cz (f:=true) (v:=.rl (Nm.map .int)) rfl rfl (by unfold Yk;exact call2 (Im rfl c7) (call2 (Im rfl c0) (Lh hn.2 rfl) eN) eD))];simp only[set_cons_succ,set_cons_zero];obtain⟨m4,WJ,k4⟩:∃m,fj true (.rl (Nm.map .int))=m/\iJ m=true:=⟨_,rfl,gJ⟩;rw[WJ];rw[ak (cz (f:=true) (v:=.int Ue) rfl rfl (by unfold uG;simp only[EV,bY,c5]))];simp only[set_cons_succ,set_cons_zero,fP];exact Il ns hn DO UT (by rw[pN.length_eq,Yl]) (pN.nodup_iff.mpr (hNu.imp λh e=>by omega)) (λx hx=>hN0 x (pN.mem_iff.mp hx)) Ue m3 m4 k3 k4
end K33
end
section
open PySem L2 Hv
namespace K33
def Qx:IE:=(.and (.cmp .eq (.bin .mod (.blt .len #[!0]) (¬2)) (¬0)) (.cmp .ge (.call 0 #[!0,¬5]) (.bin .pow (¬10) (¬18))))
def Ym:IE:=(.comp ["_law_each"] [none] (.one 0) .seq #[.idx (!1) (¬1)] .no (.idx (!0) (¬0)))
def Yn:IE:=(.bin .mod (.call 0 #[!0,¬18]) (.bin .add (.blt .len #[!2]) (¬1)))
def Yo:IE:=(.bin .add (.slc (!2) (!3) .no) (.slc (!2) .no (!3)))
def Yp:IE:=(.call 4 #[.call 0 #[!0,¬6],!2])
def UU:IE:=(.call 25 #[!1])
def WK:IE:=(.call 24 #[!1])
def Qy:IE:=(.lst #[.neg (¬1)])
def L5:IE:=(.blt .len #[!2])
def UW:IE:=(.call 19 #[UU,!2])
def UX:IE:=(.call 19 #[UU,.bin .add (!2) Qy])
def UY:IE:=(.call 19 #[WK,.bin .add Qy (!2)])
def WL:IE:=(.or (.cmp .ne UW L5) (.cmp .ne UX L5))
def faB:dm:=.cons (.ret (.cst (.bl false))) .nil
def Li:dm:=#[.iff WL faB .nil,.ret (.cmp .eq UY (.bin .add L5 (¬1)))]
def Qd:dm:=(.cons (.asg (.one 2) Ym) (.cons (.asg (.one 3) Yn) (.cons (.asg (.one 2) Yo) (.cons (.iff Qx #[.asg (.one 2) Yp] .nil) Li))))
theorem Qe:p7=.cons (.asg (.one 1) (.call 2 #[!0])) (.cons (.iff Qx #[.asg (.one 1) (.call 5 #[!0])] .nil) Qd):=rfl
theorem Uh:∃K:Int,dZ .pow (.int 10) (.int 18)=.ok (true,.int K):=⟨_,BR (by decide)⟩
abbrev Lj:DJ->Pr FV:=λf=>match f with|.nx _=>.ok (true,.non)|.rt p=>.ok p|_=>.no
theorem Qf(ns:List Int):∃b:Bool,∀env:bC,env[0]?=some (some (.sh,.rl (ns.map .int)))->zX (ai gS) Qx env=.ok (true,.bl b):=by
 obtain⟨K,hK⟩:=Uh;have c5:bh [.rl (ns.map .int),.int 5]=.ok (true,.int (cellAt ns 5)):=eL ns 5;have md:dZ .mod (.int (ns.length:Int)) (.int 2)=.ok (true,.int ((ns.length:Int)%2)):=gY (by decide);generalize cellAt ns 5=u at c5;cases h:decide ((ns.length:Int)%2=0) with
 |false=>refine⟨false,λenv e=>?_⟩;unfold Qx;simp only[EV,e,length_map,md,h]
 |true=>refine⟨decide (K<=u),λenv e=>?_⟩;unfold Qx;simp only[EV,e,length_map,md,h,jv,c5,hK]
theorem AS{f g t:Bool}(ha:isVar a=false)(hb:isVar b=false)(ea:bg Ψ a env=.ok (f,x))(eb:bg Ψ b env=.ok (g,y))(ec:cop [] o x y=some t):bg Ψ (.cmp o a b) env=.ok (true,.bl t):=by
 rw[bg,aam (by rw[ha];exact aab),ea,ay,aam (by rw[hb];exact aab),eb,ay,ec,bB,ay]
theorem Ui{f g:Bool}(ea:bg Ψ a env=.ok (f,.bl false))(eb:bg Ψ b env=.ok (g,.bl false)):bg Ψ (.or a b) env=.ok (true,.bl false):=by
 rw[bg,ea,ay,show nZ (.bl false)=.ok false from rfl,ay,aam aab,eb,ay,show nZ (.bl false)=.ok false from rfl,ay]
theorem Lk{ms:List Nat}(e:bg Ψ (.cmp o a b) env=.ok p):av Ψ ms #[.ret (.cmp o a b)] env=.ok (.rt p):=by
 refine lI ?_;rw[bw];show pb (bg Ψ (.cmp o a b) env) _=_;rw[e];rfl
section
variable {p q:Int} {ts:List T3} {A B:List Int}
theorem Ll(ns:List Int)(ok:aU p q ts)(tt:TT p q ts A B){L:List Int}(pL:L.Perm (ts.map (·.1))){m1 m2:Mk}(k1:iJ m1=true)(k2:iJ m2=true){c3:Sl}:∃f,pb (av (ai gS) [] Li [some (.sh,.rl (ns.map .int)),some (m1,di p q ts),some (m2,.rl (L.map .int)),c3]) Lj=.ok (f,.bl true):=by
 have hL:L.Nodup:=pL.nodup_iff.mpr (oK ok);have nn:=(aaI.mp (cY ok)).1;have n1:(-1:Int)∉L:=λh=>nn (pL.mem_iff.mp h);have lm:∀x,x∈nms ts↔x = -1\/x∈L:=λx=>by unfold nms;rw[aaw,pL.mem_iff]
 have lN:∀x∈L,x∈nms ts:=λx hx=>(lm x).mpr (.inr hx);have hA:∀x,x∈A\/x∈B->x∈L:=λx hx=>pL.mem_iff.mpr (tt.pm.mem_iff.mp (aas.mpr hx));have hl:A.length+B.length=L.length:=by rw[<-aaj,tt.pm.length_eq,pL.length_eq]
 have l15:=sub_len ok hL lN;obtain⟨a,ea,ma⟩:=xR (κ:=1) (by decide) ok hL lN;have a0:=tt.X7 ok hL lN hA ma;have Yq:=e9 hL n1;have Yr:∀x∈L++[-1],x∈nms ts:=λx hx=>(lm x).mpr ((aN x).mp hx).symm;obtain⟨b,eb,mb⟩:=xR (κ:=1) (by decide) ok Yq Yr;have b0:=tt.X7 ok Yq Yr (λx hx=>aat _ (hA x hx)) mb;have Ys:(-1::L).Nodup:=aaI.mpr ⟨n1,hL⟩;have lN3:∀x,x ∈ -1::L↔x∈nms ts:=λx=>by rw[aaw,lm]
 obtain⟨c,ec,mc⟩:=xR (κ:=2) (by decide) ok Ys λx hx=>(lN3 x).mp hx;have c0:=tt.mx2 ok Ys lN3 mc;rw[aaE]at c0;have et:=HQ ok;have er:=HS ok;have z1:1<=sizeLine:=by decide
 have a2:dZ .add (.rl (L.map .int)) (.rl [.int (-1)])=.ok (bD ((L++[-1]).map Val.int),.rl ((L++[-1]).map .int)):=by
  have e:L.map Val.int++[.int (-1)]=(L++[-1]).map Val.int:=by rw[aaO];rfl
  rw[lz (by rw[aae,aaQ];unfold sizeLine;omega),e]
 have a3:dZ .add (.rl [.int (-1)]) (.rl (L.map .int))=.ok (bD ((-1::L).map Val.int),.rl ((-1::L).map .int)):=by have e:([.int (-1)]:List Val)++L.map Val.int=(-1::L).map Val.int:=rfl;rw[lz (by rw[aae,aaQ];unfold sizeLine;omega),e]
 rw[<-uA]at ea eb ec;rw[<-tZ]at et;rw[<-uB]at er;generalize aZ 1 p q ts=O1 at *;generalize aZ 2 p q ts=O2 at *;generalize di p q ts=N at *;have v1:bg (ai gS) UU [some (.sh,.rl (ns.map .int)),some (m1,N),some (m2,.rl (L.map .int)),c3]=.ok (true,O1):=by unfold UU;simp only[EV,k1];exact et
 have v2:bg (ai gS) WK [some (.sh,.rl (ns.map .int)),some (m1,N),some (m2,.rl (L.map .int)),c3]=.ok (true,O2):=by unfold WK;simp only[EV,k1];exact er
 obtain⟨g2,v3⟩:∃g,bg (ai gS) (!2) [some (.sh,.rl (ns.map .int)),some (m1,N),some (m2,.rl (L.map .int)),c3]=.ok (g,.rl (L.map .int)):=⟨false,by simp only[EV,k2]⟩;have v4:bg (ai gS) (.bin .add (!2) Qy) [some (.sh,.rl (ns.map .int)),some (m1,N),some (m2,.rl (L.map .int)),c3]=.ok (bD ((L++[-1]).map Val.int),.rl ((L++[-1]).map .int)):=by unfold Qy;simp only[EV,k2,z1,a2]
 have v5:bg (ai gS) (.bin .add Qy (!2)) [some (.sh,.rl (ns.map .int)),some (m1,N),some (m2,.rl (L.map .int)),c3]=.ok (bD ((-1::L).map Val.int),.rl ((-1::L).map .int)):=by unfold Qy;simp only[EV,k2,z1];exact a3
 have y1:bg (ai gS) UW [some (.sh,.rl (ns.map .int)),some (m1,N),some (m2,.rl (L.map .int)),c3]=.ok (true,.int (a:Int)):=by unfold UW;exact call2 v1 v3 ea
 have y2:bg (ai gS) UX [some (.sh,.rl (ns.map .int)),some (m1,N),some (m2,.rl (L.map .int)),c3]=.ok (true,.int (b:Int)):=by unfold UX;exact call2 v1 v4 eb
 have y3:bg (ai gS) UY [some (.sh,.rl (ns.map .int)),some (m1,N),some (m2,.rl (L.map .int)),c3]=.ok (true,.int (c:Int)):=by unfold UY;exact call2 v2 v5 ec
 have ln:bg (ai gS) L5 [some (.sh,.rl (ns.map .int)),some (m1,N),some (m2,.rl (L.map .int)),c3]=.ok (true,.int (L.length:Int)):=by unfold L5;simp only[EV,k2,length_map]
 have ea':(a:Int)=(L.length:Int):=by omega
 have eb':(b:Int)=(L.length:Int):=by omega
 have ec':(c:Int)=(L.length:Int)+1:=by omega
 have x1:isVar UW=false:=rfl;have x2:isVar UX=false:=rfl;have x3:isVar UY=false:=rfl;have x4:isVar L5=false:=rfl;refine⟨true,?_⟩;have n1:cop [] .ne (.int (a:Int)) (.int (L.length:Int))=some false:=by rw[Pc,ea',decide_eq_true rfl];rfl
 have n2:cop [] .ne (.int (b:Int)) (.int (L.length:Int))=some false:=by rw[Pc,eb',decide_eq_true rfl];rfl
 have n3:cop [] .eq (.int (c:Int)) (.int ((L.length:Int)+1))=some true:=by rw[S5,ec',decide_eq_true rfl]
 have l1:bg (ai gS) (.bin .add L5 (¬1)) [some (.sh,.rl (ns.map .int)),some (m1,N),some (m2,.rl (L.map .int)),c3]=.ok (true,.int ((L.length:Int)+1)):=by unfold L5;simp only[EV,k2,length_map]
 unfold Li;rw[ak (fV (f:=true) (by
  show bg _ WL _=_;unfold WL;exact Ui (AS x1 x4 y1 ln n1) (AS x2 x4 y2 ln n2))),Lk (AS x3 rfl y3 l1 n3)]
 rfl
theorem Cq(ns:List Int)(ok:aU p q ts)(tt:TT p q ts A B){b:Bool}(hb:∀env:bC,env[0]?=some (some (.sh,.rl (ns.map .int)))->zX (ai gS) Qx env=.ok (true,.bl b)){m1:Mk}(k1:iJ m1=true):∃f,pb (av (ai gS) [] Qd [some (.sh,.rl (ns.map .int)),some (m1,di p q ts),none,none]) Lj=.ok (f,.bl true):=by
 have UH:bh [.rl (ns.map .int),.int 18]=.ok (true,.int (cellAt ns 18)):=eL ns 18;have c6:bh [.rl (ns.map .int),.int 6]=.ok (true,.int (cellAt ns 6)):=eL ns 6;generalize cellAt ns 18=u at UH;generalize cellAt ns 6=w at c6;have hc:ts.length<=100000:=by have:=ok.len;omega
 have en:ts.map nameV=(ts.map (·.1)).map Val.int:=by rw[aa2];rfl
 have hl:(ts.map (·.1)).length<=14:=by rw[aae];exact ok.len
 unfold Qd;rw[ak (cz (f:=true) (v:=.rl ((ts.map (·.1)).map .int)) rfl rfl (by
  unfold Ym di;simp only[EV,k1,eW pR,ja,iY,length_map,hc];rw[fy dh nameV ts (λt ht=>by
   have i0:mY [] (dh t) (.int 0)=some (.int t.1):=rfl;simp only[EV,aV,i0,nameV])]
  simp only[EV,en]))]
 simp only[set_cons_succ,set_cons_zero];obtain⟨m2,hm2,k2⟩:∃m,fj true (.rl ((ts.map (·.1)).map .int))=m/\iJ m=true:=⟨_,rfl,gJ⟩;rw[hm2];have fin:∀{L:List Int},L.Perm (ts.map (·.1))->∀{m2:Mk},iJ m2=true->∀{c3:Sl},∃f,pb (av (ai gS) [] Li [some (.sh,.rl (ns.map .int)),some (m1,di p q ts),some (m2,.rl (L.map .int)),c3]) Lj=.ok (f,.bl true):=λ{L} pL {m2} k2 {c3}=>Ll ns ok tt pL k1 k2;generalize ts.map (·.1)=L0 at *;generalize di p q ts=N at *;have mt:dZ .mod (.int u) (.int ((L0.length:Int)+1))=.ok (true,.int (u%((L0.length:Int)+1))):=gY (by rw[aaX];omega);have t0:0<=u%((L0.length:Int)+1):=emod_nonneg _ (by omega);generalize u%((L0.length:Int)+1)=t at mt t0;have pm:(cg L0 (some t) none++cg L0 none (some t)).Perm L0:=by refine List.perm_append_comm.trans ?_;rw[Ia _ t t0]
 have P8:dZ .add (.rl (cg (L0.map Val.int) (some t) none)) (.rl (cg (L0.map Val.int) none (some t)))=.ok (bD ((cg L0 (some t) none++cg L0 none (some t)).map Val.int),.rl ((cg L0 (some t) none++cg L0 none (some t)).map .int)):=by rw[oj,oj,lz,aaO];have:=pm.length_eq;rw[aaj]at this;rw[aae,aae,this];unfold sizeLine;omega
 generalize cg L0 (some t) none++cg L0 none (some t)=L1 at *;rw[ak (cz (f:=true) (v:=.int t) rfl rfl (by unfold Yn;simp only[EV,k2,jv,UH,length_map,mt]))];simp only[set_cons_succ,set_cons_zero];obtain⟨m3,TX,k3⟩:∃m,fj true (.int t)=m/\iJ m=true:=⟨_,rfl,gJ⟩;rw[TX];rw[ak (cz (f:=bD (L1.map Val.int)) (v:=.rl (L1.map .int)) rfl rfl (by unfold Yo;simp only[EV,k2,k3,LO,P8]))];simp only[set_cons_succ,set_cons_zero];obtain⟨m4,WJ,k4⟩:∃m,fj (bD (L1.map Val.int)) (.rl (L1.map .int))=m/\iJ m=true:=⟨_,rfl,gJ⟩;rw[WJ];have hB:=hb [some (.sh,.rl (ns.map .int)),some (m1,N),some (m4,.rl (L1.map .int)),some (m3,.int t)] rfl;cases b with
 |false=>rw[ak (fV hB)];exact fin pm k4
 |true=>
  obtain⟨L2,ed,p2⟩:=xS (c:=w) (l:=L1) (by rw[pm.length_eq];omega);rw[ak ((gE hB).trans ((ak (cz (f:=true) (v:=.rl (L2.map .int)) rfl rfl (by
   unfold Yp;simp only[EV,k4,jv,c6,tY,ed]))).trans (by rw[av])))]
  simp only[set_cons_succ,set_cons_zero];obtain⟨m5,WE,k5⟩:∃m,fj true (.rl (L2.map .int))=m/\iJ m=true:=⟨_,rfl,gJ⟩;rw[WE];exact fin (p2.trans pm) k5
end
theorem Qg(ns:List Int)(hn:ns.length<=63):∃f,BZ [.rl (ns.map .int)]=.ok (f,.bl true):=by
 obtain⟨p,q,ts,A,B,e,ok,tt⟩:=P7 ns;obtain⟨b,hb⟩:=Qf ns;have ms:gW p7=[]:=rfl;have eu:BZ [.rl (ns.map .int)]=pb (av (ai gS) [] p7 [some (.sh,.rl (ns.map .int)),none,none,none]) Lj:=by unfold BZ gh;rw[ms];rfl
 rw[eu,Qe];rw[ak (cz (f:=true) (v:=di p q ts) rfl rfl (by simp only[EV,nG,e]))];simp only[set_cons_succ,set_cons_zero];obtain⟨m1,hm1,k1⟩:∃m,fj true (di p q ts)=m/\iJ m=true:=⟨_,rfl,gJ⟩;rw[hm1];have hB:=hb [some (.sh,.rl (ns.map .int)),some (m1,di p q ts),none,none] rfl;cases b with
 |false=>rw[ak (fV hB)];exact Cq ns ok tt hb k1
 |true=>obtain⟨p',q',ts',A',B',e',ok',tt'⟩:=any_eq ns;rw[ak ((gE hB).trans ((ak (cz (f:=true) (v:=di p' q' ts') rfl rfl (by simp only[EV,nH,e']))).trans (by rw[av])))];simp only[set_cons_succ,set_cons_zero];obtain⟨m2,hm2,k2⟩:∃m,fj true (di p' q' ts')=m/\iJ m=true:=⟨_,rfl,gJ⟩;rw[hm2];exact Cq ns ok' tt' hb k2
theorem true(ns:List Int)(hn:ns.length<=63):∃h',Hf [.rl (ns.map .int)] []=.ok (.bl true) h':=by
 obtain⟨f,e⟩:=Qg ns hn;exact KW e
end K33
end
end
section
namespace PySem.W.Fast
theorem tw14016119182209383120:True:=trivial
theorem tw11819996797415085416:True:=trivial
theorem tw8605886845228181121:True:=trivial
theorem tw10313299739180248342:True:=trivial
theorem tw18082243499234078535:True:=trivial
theorem tw4157471699256529413:True:=trivial
theorem tw840165217352904098:True:=trivial
theorem tw4129231873146872913:True:=trivial
theorem tw1778225299255698854:True:=trivial
theorem tw18216359688108404172:True:=trivial
theorem tw17277342500259207058:True:=trivial
theorem tw17847192365425830893:True:=trivial
theorem tw5452592353767736508:True:=trivial
theorem tw1290953574874163058:True:=trivial
theorem tw13707392643441699912:True:=trivial
theorem tw16021927788272820748:True:=trivial
theorem tw10257954261390409092:True:=trivial
theorem tw2504001796971424222:True:=trivial
theorem tw9726280158897184475:True:=trivial
theorem tw14930648937089359549:True:=trivial
theorem tw4755538577802293270:True:=trivial
theorem tw1514573002989916556:True:=trivial
theorem tw2767457087174561697:True:=trivial
theorem tw14641300911092614408:True:=trivial
theorem tw12585110517858829405:True:=trivial
theorem tw15717428585146787220:True:=trivial
theorem tw188638057285470813:True:=trivial
theorem tw7871172892431376702:True:=trivial
theorem tw6341187707878612049:True:=trivial
theorem tw6282932520570314551:True:=trivial
theorem tw2603147451863516454:True:=trivial
theorem tw2478397634552015066:True:=trivial
theorem tw9834710525812319154:True:=trivial
theorem tw15164434016786746790:True:=trivial
theorem tw8629964639808682283:True:=trivial
theorem tw10726795807527941252:True:=trivial
theorem tw3589826386313685679:True:=trivial
theorem tw2884625887954220460:True:=trivial
theorem tw11167807708456662752:True:=trivial
theorem tw10608519761316441885:True:=trivial
theorem tw4791411411001495092:True:=trivial
theorem tw6617140433203503545:True:=trivial
theorem tw17210302628023593290:True:=trivial
theorem tw2969524767171955363:True:=trivial
theorem tw6692409341334558205:True:=trivial
theorem tw6686723219664183397:True:=trivial
theorem tw17937136681649416522:True:=trivial
theorem tw11425608414537557946:True:=trivial
theorem tw15843523885024259631:True:=trivial
theorem tw15111310778438213630:True:=trivial
theorem tw1387873922260888791:True:=trivial
theorem tw16419607699294394901:True:=trivial
theorem tw12403649610525948599:True:=trivial
theorem tw3086732866881805521:True:=trivial
theorem tw16558090304156066977:True:=trivial
theorem tw3035538366061551970:True:=trivial
theorem tw8699775006343701669:True:=trivial
theorem tw16361508032209646262:True:=trivial
theorem tw1201810199937793999:True:=trivial
theorem tw11168308902584919793:True:=trivial
theorem tw14029152117490685404:True:=trivial
theorem tw2120107105296762248:True:=trivial
theorem tw9955263657178579403:True:=trivial
theorem tw8772808926297480083:True:=trivial
theorem tw14637881494815137425:True:=trivial
theorem tw12590686819402702158:True:=trivial
theorem tw6282915604732698698:True:=trivial
theorem tw3409833405453181071:True:=trivial
theorem tw12772985872979209379:True:=trivial
theorem tw285989070777293460:True:=trivial
theorem tw16321042633866233644:True:=trivial
theorem tw1439998689052468491:True:=trivial
theorem tw11128833026371004304:True:=trivial
theorem tw513476707715243614:True:=trivial
theorem tw16751216024870328582:True:=trivial
theorem tw9643658275948514043:True:=trivial
theorem tw8758580726458207699:True:=trivial
theorem tw588495682520669984:True:=trivial
theorem tw5203860146982663362:True:=trivial
theorem tw4729379565273120692:True:=trivial
theorem tw10231407005281546080:True:=trivial
theorem tw11079454564575176674:True:=trivial
theorem tw5913486732149703634:True:=trivial
theorem tw12398431506371398661:True:=trivial
theorem tw550257004842462877:True:=trivial
theorem tw10525727454458698653:True:=trivial
end PySem.W.Fast
open PySem PySem.W PyProof.Rows
set_option maxRecDepth 100000 in
set_option maxHeartbeats 0 in
theorem PySem.Challenge.cw_linkorcut_k33_whole_rows_as_built_holds : PySem.Challenge.rw_linkorcut_k33_whole_rows_as_built.Holds := by
 w_on;o_law;k_head;(case hw=>w_witness2)
 k_fill
 refine Hv.walk (l:=PySem.Challenge.rw_linkorcut_k33_whole_rows_as_built) (k:=54) (x:="_law_script") rfl rfl ⟨rfl,by decide,by decide⟩ (λw h Y=>PySem.W.kIn_of Y) ?F
 case F=>
  intro w mg fa h KX G hmg;refine' K33.all_mk KX G hmg K33.true ?_ ?_ ?_ ?_ ?_ ?_ ?_ ?_ ?_ ?_ ?_ ?_ ?_ ?_ ?_ ?_ ?_ ?_ ?_ ?_ ?_ ?_ ?_ ?_ ?_ ?_ ?_ ?_ ?_ ?_ ?_ ?_ ?_ ?_ ?_ ?_ ?_ ?_ ?_ ?_ ?_ ?_ ?_ ?_ ?_ ?_ ?_ ?_ ?_ ?_ ?_ ?_ ?_ ?_ ?_ ?_ ?_ ?_ ?_ ?_ ?_ ?_ ?_ ?_ ?_ ?_ ?_ ?_ ?_ ?_ ?_ ?_ ?_ ?_ ?_ ?_ ?_ ?_ ?_ ?_ ?_ ?_ ?_ ?_ ?_ ?_ ?_ ?_ ?_ ?_ ?_ ?_
  all_goals try first|k_is|(exact⟨_,L2.fun_mk (by k_is) (by k_is) (by k_is)⟩)|(intro x hx;simp only[Hv.bltNames,List.mem_cons,List.not_mem_nil,or_false]at hx;rcases hx with rfl|rfl|rfl|rfl|rfl|rfl|rfl|rfl|rfl|rfl|rfl|rfl|rfl|rfl|rfl|rfl|rfl<;>k_is)
#print axioms PySem.Challenge.cw_linkorcut_k33_whole_rows_as_built_holds
end
