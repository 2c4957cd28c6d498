import PyProof.Rows.All
import Wide.All
import OpenK.AllK
import Wide.FinOn
import Lean
import PyProof.EqAt
import PyProof.EqKinds
import PyProof.TupleCall
import KE.KDictList
import KE.KDictLaws
import KE.KDictSum
import KE.KRevSl
import PyProof.DictWalks
import PySem.Challenge.RW_linkorcut_k34_one_name_more
set_option Elab.async false
set_option compiler.extract_closed false
set_option linter.all false
set_option maxRecDepth 100000
set_option maxHeartbeats 4000000
set_option genSizeOf false
set_option backward.eqns.nonrecursive false
set_option backward.eqns.deepRecursiveSplit false
set_option bootstrap.genMatcherCode false
set_option hygiene false
local macro_rules
|`(def $n:declId $s:optDeclSig $v:declVal)=>`(noncomputable def $n:declId $s:optDeclSig $v:declVal)
|`(abbrev $n:declId $s:optDeclSig $v:declVal)=>`(noncomputable abbrev $n:declId $s:optDeclSig $v:declVal)
local macro_rules
|`(#[$a])=>`(.cons $a .nil)
|`(#[$a,$as,*])=>`(.cons $a #[$as,*])
local macro_rules
|`(!$n:num)=>`(.var $n)
local macro_rules
|`(¬$n:num)=>`(.cst (.int $n))
set_option hygiene true
open Array(getElem?_toList)
open Bool(and_eq_true false_eq_true not_eq_true' or_eq_true)
open Classical(byContradiction choose_spec)
open PySem.Heap(get?_update_other get?_update_self)
open Int(eq_ofNat_of_zero_le not_lt)
open List(all_cons all_eq_true any_cons any_map cons_append contains_iff_mem countP_cons drop_zero eraseIdx_cons_succ ext_getElem filter_append filter_congr find?_cons getElem_map getElem_of_mem head?_cons idxOf_lt_length_iff length length_cons length_drop length_filter_le length_map length_nil length_range length_set length_take lookup_cons map_append map_congr_left map_cons map_id map_nil map_reverse mem_append mem_cons mem_map_of_mem mem_reverse nil_append nodup_nil not_mem_nil of_mem_zip pairwise_map range' replicate reverse_cons reverse_perm set_cons_succ set_cons_zero size_toArray take_sublist toArray)
open Nat(le_of_lt le_succ lt_succ_of_lt lt_trans mod_lt ne_of_gt not_lt_zero sub_self zero_le)
open Option(bind_some getD_none getD_some isSome_map isSome_some map_some)
open PySem.W(callWith_K callWith_K0 cellsFrom_some codeIn emptyDict eq_sortI findCls findIn handedIn hasDictIn instObj kat_lt keepIn kia_one kitOne kitx_list lookIn makesIn methodObj plainGet plainGet_of plainOver readsIn specialIn takerIn typeIn)
def Z2:=@PySem.wpAny_bind
def Z3:=@Bool.false_ne_true
def Z4:=@Option.bind_eq_some_iff
def Z5:=@List.mem_cons_of_mem
def Z6:=@List.getElem?_set_ne
def Z7:=@PySem.Heap.get?_push_of_some
def Z8:=@List.getElem?_eq_some_iff
def Z9:=@List.length_map
def aaa:=@List.mem_cons_self
def aab:=@if_pos
def aac:=@PySem.wpAny_pure
def aad:=@if_neg
def aae:=@Nat.le_refl
def aaf:=@List.map_cons
def aag:=@List.length_append
def aah:=@List.getElem?_set_self
def aai:=@List.mem_filter
def aaj:=@List.mem_singleton
def aak:=@List.size_toArray
def aal:=@PySem.Heap.lt_size
def aam:=@List.getElem?_append_left
def aan:=@Nat.lt_of_lt_of_le
def aao:=@PySem.Heap.get?_push_size
def aap:=@List.mem_cons
def aaq:=@List.length_cons
def aar:=@of_decide_eq_true
def aas:=@List.mem_append_left
def aat:=@List.mem_append
def aau:=@List.filter_sublist
def aav:=@Option.some.inj
def aaw:=@List.getElem?_append_right
def aax:=@Nat.ne_of_lt
def aay:=@List.getElem?_eq_getElem
def aaz:=@List.mem_of_getElem?
def aaA:=@List.mem_append_right
def aaB:=@List.getElem?_map
def aaC:=@List.prefix_refl
def aaD:=@Nat.le_trans
def aaE:=@Option.map_eq_some_iff
def aaF:=@List.nodup_cons
def aaG:=@Array.length_toList
def aaH:=@List.nodup_append
def aaI:=@List.pairwise_cons
def aaJ:=@beq_eq_false_iff_ne
def aaK:=@List.lookup_cons
def aaL:=@PySem.W.mg_of
def aaM:=@decide_eq_true_eq
def aaN:=@List.mem_map
def aaO:=@PySem.W.sortI_perm
def aaP:=@List.map_map
def aaQ:=@PySem.wpAny_newObj_type
def aaR:=@PySem.wpAny_Call_Name_kw
def aaS:=@PyProof.Rows.callWith_type1
def aaT:=@List.length_singleton
def aaU:=@List.append_nil
def aaV:=@PySem.Heap.size_push
def aaW:=@Nat.lt_succ_self
def aaX:=@Nat.lt_irrefl
def aa0:=@List.prefix_append
def aa1:=@List.zip_cons_cons
open PySem.W(Frag sortI nsIn fnOf isFn)
section
namespace L2
open PySem PySem.Spec PyProof.Rows
abbrev Key:=Sum Int Str
def qP:Key->Value->Bool
 |.inl k,v=>Value.isInt k v
 |.inr x,v=>Value.isStrOf x v
def T8(w:World):Key->Int
 |.inl k=>hashInt k
 |.inr x=>hashStr w x
theorem bP:∀{k:Key} {v:Value},qP k v=true->(∃i t,k=Sum.inl i/\v=Value.int i t)\/(∃x t,k=Sum.inr x/\v=Value.str x t)
 | .inl i,v,h=>by
  obtain⟨t,e⟩:=Value.isInt_shape (k:=i) (v:=v) h;exact .inl ⟨i,t,rfl,e⟩
 | .inr x,v,h=>by
  obtain⟨t,e⟩:=Value.isStrOf_shape (x:=x) (v:=v) h;exact .inr ⟨x,t,rfl,e⟩
theorem B6(i:Int)(t:Tok):qP (.inl i) (.int i t)=true:=by simp[qP,Value.isInt]
theorem B7(x:Str)(t:Tok):qP (.inr x) (.str x t)=true:=by simp[qP,Value.isStrOf]
theorem Lv(a b:Int):decide ((Sum.inl a:Key)=Sum.inl b)=(a==b):=by
 by_cases e:a=b
 ·subst e;simp
 ·have h:¬ (Sum.inl a:Key)=Sum.inl b:=λq=>e (Sum.inl.inj q);rw[decide_eq_false h];exact(aaJ.mpr e).symm
theorem Lw(a b:Str):decide ((Sum.inr a:Key)=Sum.inr b)=decide (a=b):=by
 by_cases e:a=b
 ·subst e;simp
 ·have h:¬ (Sum.inr a:Key)=Sum.inr b:=λq=>e (Sum.inr.inj q);rw[decide_eq_false h,decide_eq_false e]
theorem Lx(a:Int)(b:Str):decide ((Sum.inl a:Key)=Sum.inr b)=false:=decide_eq_false (λq=>nomatch q)
theorem Ly(a:Str)(b:Int):decide ((Sum.inr a:Key)=Sum.inl b)=false:=decide_eq_false (λq=>nomatch q)
def aS(prog:Program)(w:World):PySem.KeyKind prog w Key where
 is:=qP
 hash:=T8 w
 inj:=λv a b ha hb=>by
  rcases bP ha with ⟨i,t,rfl,rfl⟩|⟨x,t,rfl,rfl⟩
  ·rcases bP hb with ⟨j,u,rfl,e⟩|⟨y,u,rfl,e⟩
   ·injection e with e1 _;rw[e1]
   ·exact nomatch e
  ·rcases bP hb with ⟨j,u,rfl,e⟩|⟨y,u,rfl,e⟩
   ·exact nomatch e
   ·injection e with e1 _;rw[e1]
 byValue:=λk v h=>by
  rcases bP h with ⟨i,t,rfl,rfl⟩|⟨x,t,rfl,rfl⟩<;>rfl
 pyHash:=λhv h=>by
  rcases bP hv with ⟨i,t,rfl,rfl⟩|⟨x,t,rfl,rfl⟩
  ·exact wpAny_pyHash_int h
  ·exact wpAny_pyHash_str h
 eqBool:=λhu hv h=>by
  rcases bP hu with ⟨i,t,rfl,rfl⟩|⟨x,t,rfl,rfl⟩
  ·rcases bP hv with ⟨j,u,rfl,rfl⟩|⟨y,u,rfl,rfl⟩
   ·rw[Lv]at h;exact wpAny_eqBool_int h
   ·rw[Lx]at h;exact SeqAt.EqAt.int_str i t y u _ _ _ _ h
  ·rcases bP hv with ⟨j,u,rfl,rfl⟩|⟨y,u,rfl,rfl⟩
   ·rw[Ly]at h;exact SeqAt.EqAt.str_int x t j u _ _ _ _ h
   ·rw[Lw]at h;exact wpAny_eqBool_str h
 «strs»:=λk x t v h=>by
  rcases bP h with ⟨i,u,rfl,e⟩|⟨y,u,rfl,e⟩
  ·exact nomatch e
  ·injection e with e1 _
   subst e1;cases v<;>rfl
theorem zv(prog:Program)(w:World)(k:Key)(v:Value):(aS prog w).is k v=qP k v:=rfl
theorem wZ(prog:Program)(w:World)(i:Int)(t:Tok):(aS prog w).is (.inl i) (.int i t)=true:=B6 i t
theorem xg(prog:Program)(w:World)(x:Str)(t:Tok):(aS prog w).is (.inr x) (.str x t)=true:=B7 x t
inductive V where
 |non|bl (b:Bool)|int (i:Int)|str (x:Str)|byt (b:Array UInt8)|flt (b:UInt64)|ref (a:Addr)|ty (n:String)
 deriving DecidableEq
def RelV:V->Value->Prop
 |.non,u=>u=Value.none
 |.bl b,u=>u=Value.bool b
 |.int i,u=>∃t,u=Value.int i t
 |.str x,u=>∃t,u=Value.str x t
 |.byt b,u=>∃t,u=Value.bytes b t
 |.flt b,u=>∃t,u=Value.float b t
 |.ref a,u=>u=Value.ref a
 |.ty n,u=>u=Value.type n
abbrev Vals:List V->List Value->Prop:=Paired RelV
theorem Vals.length(r:Vals xs us):xs.length=us.length:=Paired.length r
theorem Vals.get:∀{xs:List V} {us:List Value} {i:Nat} {x:V},Vals xs us->xs[i]?=some x->∃u,us[i]?=some u/\RelV x u
 |_,_,_,_,.nil,e=>by simp at e
 |_,_,0,_,.cons r _,e=>by simp at e;subst e;exact⟨_,rfl,r⟩
 | _,_,i+1,x,.cons _ t,e=>by
  obtain⟨u,h1,h2⟩:=Vals.get (i:=i) (x:=x) t (by simpa using e);exact⟨u,by simpa using h1,h2⟩
theorem Vals.set(r:RelV x u):∀{xs:List V} {us:List Value} (i:Nat),Vals xs us->Vals (xs.set i x) (us.set i u)
 |_,_,_,.nil=>.nil
 |_,_,0,.cons _ t=>.cons r t
 |_,_,i+1,.cons q t=>.cons q (Vals.set r i t)
theorem Vals.append:∀{xs ys:List V} {us ws:List Value},Vals xs us->Vals ys ws->Vals (xs++ys) (us++ws)
 |_,_,_,_,.nil,s=>s
 |_,_,_,_,.cons r t,s=>.cons r (Vals.append t s)
theorem Vals.take:∀{xs:List V} {us:List Value} (n:Nat),Vals xs us->Vals (xs.take n) (us.take n)
 |_,_,0,_=>.nil
 |_,_,_+1,.nil=>.nil
 |_,_,n+1,.cons r t=>.cons r (Vals.take n t)
theorem Vals.drop:∀{xs:List V} {us:List Value} (n:Nat),Vals xs us->Vals (xs.drop n) (us.drop n)
 |_,_,0,r=>r
 |_,_,_+1,.nil=>.nil
 |_,_,n+1,.cons _ t=>Vals.drop n t
def jZ:Option V->Option Value->Prop
 |some v,some u=>RelV v u
 |none,none=>True
 |_,_=>False
def KV{κ:Type}:List (κ × V)->List (κ × Value)->Prop:=Paired λ(p:κ × V) (q:κ × Value)=>p.1=q.1/\RelV p.2 q.2
def kV:Key->V
 |.inl i=>.int i
 |.inr x=>.str x
inductive HO where
  |lst (xs:List V)
  |tup (xs:List V)
  |dK (kvs:List (Key×V))|dT (kvs:List (List Key×V))
  |set (S:Int->Bool) (n:Nat)
  |ins (C dx:Addr) (fs:List (Str×V))
  |own (x:Addr)
  |xd (fs:List (Str×V))
  |met (f x:Addr)
  |rng (lo hi:Int)
  |j3 (o:Obj) (u:HO)
  |tbl (ps:Array Value)
  |ext (φ:Heap->Prop)
abbrev Hp:=Addr->Option HO
def upd(H:Hp)(a:Addr)(o:HO):Hp:=λb=>if b=a then some o else H b
theorem aR:upd H a o a=some o:=by unfold upd;rw[aab rfl]
theorem aq(h:b≠a):upd H a o b=H b:=by unfold upd;rw[aad h]
theorem HY:upd (upd H a o) a u=upd H a u:=by
 funext b;unfold upd;split<;>rfl
theorem P5{H:Hp}{a b:Addr}{o u:HO}(h:H a=some o)(h':H b=some u)(d:o≠u):a≠b:=by
 intro e;subst e;rw[h]at h';exact d (aav h')
theorem aM{H:Hp}{a b:Addr}{o:HO}(h:H a=some o)(h':H b=none):a≠b:=by
 intro e;subst e;rw[h]at h';cases h'
section
variable (P:Program) (w:World)
def bJ(H:Hp)(h:Heap)(a:Addr):HO->Prop
 |.lst xs=>xs.length<=sizeLine/\∃(its:List Value) (n:Nat),Vals xs its/\h.get? a=some { cls:=.type "list",data:=.seq its.toArray n }
 |.tup xs=>xs.length<=sizeLine/\∃its:List Value,Vals xs its/\IsTup h a its.toArray
 |.dK kvs=>kvs.length<=sizeLine/\(a==sysModules)=false/\∃vs,KV kvs vs/\h.DictOf (aS P w) a vs
 | .dT kvs=>kvs.length<=sizeLine/\(a==sysModules)=false/\∃xs:List (List Key×Addr×Value),
   Paired (λ(p:List Key×V) (q:List Key×Addr×Value)=>p.1=q.1/\H q.2.1=some (.tup (p.1.map kV))/\RelV p.2 q.2.2) kvs xs /\
   ∃o es ep,h.get? a=some o/\o.ExactDict/\o.data=.dict es ep/\es.toList=xs.map (entryOfKey (tupleKind (aS P w)))/\(xs.map (·.1)).Nodup
 |.set S n=>h.SetOf (intKind P w) a S n
 | .ins C dx fs=>H dx=some (.own a)/\fs.length<=1000/\dx≠a/\h.get? a=some (instObj C dx) /\
   ∃mA,h.Ns1 dx mA/\(∀f,jZ (fs.lookup f) (mA f))/\PySem.Within mA (fs.map (·.1))
 |.own _=>∃o,h.get? a=some o
 |.xd fs=>∃mA,h.Ns1 a mA/\∀f,jZ (fs.lookup f) (mA f)
 |.rng lo hi=>∃t u v,h.get? a=some { cls:=.type "range",data:=.fields [.int lo t,.int hi u,.int 1 v].toArray }
 |.j3 o u=>h.get? a=some o/\bJ H h a u
 |.tbl ps=>h.get? a=some { cls:=.none,data:=.fields ps }
 |.met f x=>h.get? a=some (methodObj (.ref f) (.ref x))
 |.ext φ=>φ h/\(∃o,h.get? a=some o)/\∀h1 h2:Heap,φ h1->(∀o,h1.get? a=some o->h2.get? a=some o) -> φ h2
def lY(H:Hp)(h:Heap):Prop:=∀a o,H a=some o->bJ P w H h a o
end
section
variable {P:Program} {w:World} {H H':Hp} {h h':Heap} {a:Addr} {o:HO}
theorem bJ.lt(x:bJ P w H h a o):a<h.objs.size:=by
 cases o with
 |lst xs=>obtain⟨_,_,_,_,e⟩:=x;exact aal e
 |tup xs=>obtain⟨_,_,_,p⟩:=x;exact p.lt
 |dK kvs=>obtain⟨_,_,_,_,o,_,_,e,_⟩:=x;exact aal e
 |dT kvs=>obtain⟨_,_,_,_,o,_,_,e,_⟩:=x;exact aal e
 |set S n=>obtain⟨o,_,_,_,e,_⟩:=x;exact aal e
 |ins C dx fs=>obtain⟨_,_,_,e,_⟩:=x;exact aal e
 |own y=>obtain⟨_,e⟩:=x;exact aal e
 |xd fs=>obtain⟨_,⟨_,_,_,e,_⟩,_⟩:=x;exact aal e
 |rng lo hi=>obtain⟨_,_,_,e⟩:=x;exact aal e
 |j3 ob u=>obtain⟨e,_⟩:=x;exact aal e
 |tbl ps=>exact aal (show h.get? a=some _ from x)
 |met f y=>exact aal (show h.get? a=some _ from x)
 |ext φ=>obtain⟨_,⟨_,e⟩,_⟩:=x;exact aal e
theorem Paired.Lz{α β:Type}{F G:α -> β -> Prop}:∀{l₁:List α} {l₂:List β},Paired F l₁ l₂->(∀a b,F a b->G a b)->Paired G l₁ l₂
 |_,_,.nil,_=>.nil
 |_,_,.cons r t,f=>.cons (f _ _ r) (Paired.Lz t f)
theorem bJ.stay(x:bJ P w H h a o)(k:∀b u,(b=a\/H b=some (.own a))->h.get? b=some u->h'.get? b=some u)
  (ho:∀b,H b=some (.own a)->H' b=some (.own a)) (ht:∀b xs,H b=some (.tup xs)->H' b=some (.tup xs)):bJ P w H' h' a o:=by
 induction o with
 |lst xs=>obtain⟨z,its,n,r,e⟩:=x;exact⟨z,its,n,r,k _ _ (.inl rfl) e⟩
 |tup xs=>obtain⟨z,its,r,ob,e,c⟩:=x;exact⟨z,its,r,ob,k _ _ (.inl rfl) e,c⟩
 |dK kvs=>obtain⟨z,y,vs,r,ob,es,ep,e,c⟩:=x;exact⟨z,y,vs,r,ob,es,ep,k _ _ (.inl rfl) e,c⟩
 |dT kvs=>obtain⟨z,y,xs,r,ob,es,ep,e,c⟩:=x;exact⟨z,y,xs,Paired.Lz r λp q z=>⟨z.1,ht _ _ z.2.1,z.2.2⟩,ob,es,ep,k _ _ (.inl rfl) e,c⟩
 |set S n=>obtain⟨ob,es,ep,t,e,c⟩:=x;exact⟨ob,es,ep,t,k _ _ (.inl rfl) e,c⟩
 |ins C dx fs=>obtain⟨d,z,ne,e,mA,⟨od,es,ep,e2,c⟩,r⟩:=x;exact⟨ho _ d,z,ne,k _ _ (.inl rfl) e,mA,⟨od,es,ep,k _ _ (.inr d) e2,c⟩,r⟩
 |own y=>obtain⟨ob,e⟩:=x;exact⟨ob,k _ _ (.inl rfl) e⟩
 |xd fs=>obtain⟨mA,⟨od,es,ep,e,c⟩,r⟩:=x;exact⟨mA,⟨od,es,ep,k _ _ (.inl rfl) e,c⟩,r⟩
 |rng lo hi=>obtain⟨t,u,v,e⟩:=x;exact⟨t,u,v,k _ _ (.inl rfl) e⟩
 |j3 ob u ih=>obtain⟨e,q⟩:=x;exact⟨k _ _ (.inl rfl) e,ih q⟩
 |tbl ps=>have e:h.get? a=some { cls:=.none,data:=.fields ps }:=x;show h'.get? a=some { cls:=.none,data:=.fields ps };exact k a _ (.inl rfl) e
 |met f y=>have e:h.get? a=some (methodObj (.ref f) (.ref y)):=x;show h'.get? a=some (methodObj (.ref f) (.ref y));exact k a _ (.inl rfl) e
 |ext φ=>obtain⟨p,⟨o,e⟩,st⟩:=x;exact⟨st _ _ p λo q=>k _ _ (.inl rfl) q,⟨o,k _ _ (.inl rfl) e⟩,st⟩
theorem lY.lt(x:lY P w H h)(e:H a=some o):a<h.objs.size:=(x a o e).lt
theorem lY.fresh(x:lY P w H h)(e:h.objs.size<=a):H a=none:=by
 cases q:H a with
 |none=>rfl
 |some u=>exact absurd (aan (x.lt q) e) (aaX _)
theorem lY.kept(x:lY P w H h)(k:∀b u,h.get? b=some u->h'.get? b=some u):lY P w H h':=λa o e=>
 (x a o e).stay (λb u _ q=>k b u q) (λ_ q=>q) λ_ _ q=>q
theorem lY.laid(x:lY P w H h)(k:∀b u,h.get? b=some u->h'.get? b=some u)(hp:h.objs.size<=a)(new:bJ P w (upd H a o) h' a o):lY P w (upd H a o) h':=λb u e=>by
 have hn:=x.fresh hp
 by_cases hb:b=a
 ·subst hb;rw[aR]at e;cases e;exact new
 ·rw[aq hb]at e;exact(x b u e).stay (λc v _ q=>k c v q) (λc q=>by rw[aq (aM q hn)];exact q) λc xs q=>by rw[aq (aM q hn)];exact q
end
def Rd(H:Hp)(a:Addr)(u:HO):Prop:=H a=some u\/∃o,H a=some (.j3 o u)
theorem Rd.ok(r:Rd H a u)(x:lY P w H h):bJ P w H h a u:=by
 rcases r with r|⟨o,r⟩
 ·exact x a u r
 ·obtain⟨_,q⟩:=x a _ r;exact q
def P6:Option HO->Prop
 |some (.lst _)=>True
 |some (.dK _)=>True
 |some (.dT _)=>True
 |some (.set _ _)=>True
 |some (.ins _ _ _)=>True
 |some (.ext _)=>True
 |_=>False
section
variable {P:Program} {w:World} {H:Hp} {h h':Heap} {x e:Addr} {o':HO}
theorem lY.write(ok:lY P w H h)(mu:P6 (H x))(he:e=x\/H e=some (.own x))(k:∀b u,b≠e->h.get? b=some u->h'.get? b=some u)(Pq:∃u,h'.get? e=some u)
  (new:bJ P w (upd H x o') h' x o'):lY P w (upd H x o') h':=λb u q=>by
 have nown:∀c y,H c=some (.own y)->c≠x:=λc y r z=>by subst z;rw[r]at mu;exact mu
 have ntup:∀c xs,H c=some (.tup xs)->c≠x:=λc xs r z=>by subst z;rw[r]at mu;exact mu
 by_cases hb:b=x
 ·subst hb;rw[aR]at q;cases q;exact new
 ·rw[aq hb]at q
  by_cases LA:b=e
  ·have q':H b=some (.own x):=by
    rcases he with z|z
    ·exact absurd (LA.trans z) hb
    ·rw[LA];exact z
   rw[q]at q';cases q';obtain⟨v,hv⟩:=Pq;exact⟨v,by rw[LA];exact hv⟩
  ·refine(ok b u q).stay (λc v hc r=>k c v ?_ r) (λc r=>by rw[aq (nown c b r)];exact r) λc xs r=>by rw[aq (ntup c xs r)];exact r
   rcases hc with rfl|hc
   ·exact LA
   ·rintro rfl
    rcases he with z|z
    ·exact nown c b hc z
    ·rw[hc]at z;cases z;exact hb rfl
end
structure Un (fs ex:List Addr) (H H':Hp) (h h':Heap):Prop where
 keep:∀b o,h.get? b=some o->H b=none->b∉fs->b∉ex->h'.get? b=some o
 slot:∀b o,h.get? b=some o->H b=none->b∈fs->b∉ex->∃sl,h'.get? b=some { o with slots:=sl }
 free:∀b o,h.get? b=some o->H b=none->b∉ex->H' b=none
 there:∀b o,h.get? b=some o->b∉ex->∃o',h'.get? b=some o'
 tups:∀b xs,H b=some (.tup xs)->H' b=some (.tup xs)
 frzs:∀b o u,H b=some (.j3 o u)->H' b=some (.j3 o u)
 tW:∀b ps,H b=some (.tbl ps)->∃more,H' b=some (.tbl (ps++more))
section
variable {fs fs' ex ex':List Addr} {H H1 H2:Hp} {h h1 h2 h':Heap} {a x e:Addr} {o:HO}
theorem Un.any(u:Un fs ex H H1 h h1)(q:h.get? b=some ob)(n:H b=none)(hx:b∉ex):∃sl,h1.get? b=some { ob with slots:=sl }:=by
 by_cases hb:b∈fs
 ·exact u.slot b ob q n hb hx
 ·exact⟨ob.slots,u.keep b ob q n hb hx⟩
theorem Un.kept(k:∀b u,h.get? b=some u->h'.get? b=some u):Un fs ex H H h h' :=
 ⟨λb ob q _ _ _=>k b ob q,λb ob q _ _ _=>⟨ob.slots,k b ob q⟩,λ_ _ _ n _=>n,λb ob q _=>⟨ob,k b ob q⟩,λ_ _ q=>q,λ_ _ _ q=>q,λ_ ps q=>⟨#[],by rw[q];simp⟩⟩
theorem Un.refl:Un fs ex H H h h:=Un.kept λ_ _ q=>q
theorem Un.laid(k:∀b u,h.get? b=some u->h'.get? b=some u)(hp:h.objs.size<=a)(hn:H a=none):Un fs ex H (upd H a o) h h' where
 keep:=λb u q _ _ _=>k b u q
 slot:=λb u q _ _ _=>⟨u.slots,k b u q⟩
 free:=λb u q n _=>by rw[aq (aax (aan (aal q) hp))];exact n
 there:=λb u q _=>⟨u,k b u q⟩
 tups:=λb xs q=>by rw[aq (aM q hn)];exact q
 frzs:=λb u xs q=>by rw[aq (aM q hn)];exact q
 tW:=λb ps q=>⟨#[],by rw[aq (aM q hn),q];simp⟩
theorem Un.write(mu:P6 (H x))(he:e=x\/H e=some (.own x))(k:∀b u,b≠e->h.get? b=some u->h'.get? b=some u)(Pq:∃u,h'.get? e=some u):Un fs ex H (upd H x o) h h':=by
 have hx:∀b,H b=none->b≠x:=λb n z=>by subst z;rw[n]at mu;exact mu
 have hb:∀b,H b=none->b≠e:=λb n z=>by
  subst z
  rcases he with r|r
  ·exact hx b n r
  ·rw[n]at r;cases r
 have hm:∀b u,H b=some u->¬ P6 (some u)->b≠x:=λb u q nm z=>by subst z;rw[q]at mu;exact nm mu
 refine⟨λb u q n _ _=>k b u (hb b n) q,λb u q n _ _=>⟨u.slots,k b u (hb b n) q⟩,λb u q n _=>by rw[aq (hx b n)];exact n,λb u q _=>?_,
  λb xs q=>by rw[aq (hm b _ q λz=>z)];exact q,λb u xs q=>by rw[aq (hm b _ q λz=>z)];exact q,λb ps q=>⟨#[],by rw[aq (hm b _ q λz=>z),q];simp⟩⟩
 by_cases LA:b=e
 ·subst LA;exact Pq
 ·exact⟨u,k b u LA q⟩
end
def lK(h:Heap)(H:Hp):List Addr:=(List.range h.objs.size).filter λa=>(H a).isSome
def vg(h:Heap)(H:Hp):Heap:=PySem.W.hideAll h (lK h H)
theorem B8(h:Heap)(H:Hp):(vg h H).objs.size=h.objs.size:=PySem.W.hideAll_size _ _
theorem Dr(e:h.get? b=some o)(n:H b=none):(vg h H).get? b=some o :=
 PySem.W.hideAll_get _ e λhm=>by
  have q:(H b).isSome=true:=(aai.mp hm).2;rw[n]at q;simp at q
theorem HZ(e:(vg h H).get? b=some o):h.get? b=some o/\H b=none:=by
 have e':h.get? b=some o:=PySem.W.of_hideAll (lK h H) e;refine⟨e',?_⟩;cases q:H b with
 |none=>rfl
 |some x=>have hm:b∈lK h H:=aai.mpr ⟨List.mem_range.mpr (aal e'),by simp[q]⟩;have z:(vg h H).get? b=none:=PySem.W.hideAll_none (lK h H) hm;rw[z]at e;cases e
def Ia(g h:Heap)(L:Addr):List (Addr×Obj):=(List.range h.objs.size).filterMap λa=>if a=L\/(g.get? a).isSome=true then none else (h.get? a).map λo=>(a,o)
def rest(g h:Heap)(L d:Addr):List (Addr×Obj):=(Ia g h L).filter λp=>decide (p.1≠d)
structure Mod (K:Frag) (mg:Str->Option Value) (base:Heap):Prop where
 Pu:K.In base
 glob:base.Ns mainGlobals mg
 blt:∃mb,base.Ns builtinsNs mb/\∀x:Str,x ≠ "__name__" -> mb x=bootBuiltins x
 nolimit:base.NoLimit
structure Cx where
 prog:Program
 w:World
 K:Frag
 mg:Str->Option Value
 base:Heap
 A:Around
 N:List Str
 s₀:Shared
 H₀:Hp
 env:Env
 outer:List Env
 stack:List Env
 ex:List Addr
 fn:Str->Bool
 calm:Bool
 pn:List (Addr×Obj)
 xe:Value->Shared->Prop
def frs(l:List Env):List Addr:=l.filterMap (·.frame)
abbrev Cx.fs(X:Cx):List Addr:=frs X.outer
def vh(sc:Scope)(x:Str):Prop:=sc.names.lookup x=some .local\/sc.names.lookup x=some .cell\/sc.names.lookup x=some .free
def Loc(sc:Scope)(x:Str):Prop:=sc.names.lookup x=some .local\/sc.names.lookup x=some .cell
def Look(env:Env)(h:Heap)(m:Str->Option Value)(x:Str)(u:Value):Prop :=
 (env.kindOf x=some .local/\m x=some u)\/((env.kindOf x=some .cell\/env.kindOf x=some .free)/\∃c,env.cells.lookup x=some c/\h.IsCell c (some u))
structure Cx.Ok (X:Cx):Prop where
 mod:Mod X.K X.mg X.base
 kind:X.env.scope.kind=.function
 glob:X.env.globals=mainGlobals
 blt:X.env.builtins=builtinsNs
 above:X.s₀.heap.objs.size<=X.env.locals
 inj:∀x y c,X.env.cells.lookup x=some c->X.env.cells.lookup y=some c->x=y
 has:∀x,(X.env.kindOf x=some .cell\/X.env.kindOf x=some .free)->∃c,X.env.cells.lookup x=some c
 P7:∀x c,X.fn x=true->X.env.cells.lookup x=some c->X.s₀.heap.objs.size<=c
 hd:X.calm=true->X.A.handled=none
 frames:X.A.frames=some X.stack
 stk:X.stack=X.outer\/(X.stack=X.env::X.outer/\X.env.frame=some X.env.locals)
 T9:∀b∈X.ex,b≠X.env.locals/\∀x c,X.env.cells.lookup x=some c->c≠b
 bs:∀b o,X.base.get? b=some o->X.s₀.heap.get? b=some o/\X.H₀ b=none
 KS:X.base.objs.size<=X.s₀.heap.objs.size
 lZ:∀b o,X.base.get? b=some o->b∉X.ex
 Ds:∀b∈X.ex,b∉X.fs
 qk:X.s₀.heap.FunFrames X.base X.outer
 LB:∀b∈X.fs,X.H₀ b=none
structure Inv (X:Cx) (pins:List (Addr×Obj)) (σ:List (Option V)) (H:Hp) (s:Shared):Prop where
 ok:X.Ok
 os:s.os=X.s₀.os
 bare:AllBare s.gens
 base:Un X.fs X.ex X.H₀ H X.s₀.heap s.heap
 loc:∃m,s.heap.Ns X.env.locals m/\∀(i:Nat) (x:Str) (v:V),X.N[i]?=some x -> σ[i]?=some (some v)->vh X.env.scope x->∃u,RelV v u/\Look X.env s.heap m x u
 cell:∀x c,X.env.cells.lookup x=some c->∃v,s.heap.IsCell c v
 free:H X.env.locals=none
 iu:∀x c,X.env.cells.lookup x=some c->H c=none
 pin:∀p∈X.pn++pins,s.heap.get? p.1=some p.2/\H p.1=none/\p.1≠X.env.locals/\p.1∉X.fs/\∀v,p.2.data≠.cell v
 hok:lY X.prog X.w H s.heap
 len:σ.length=X.N.length
section
variable {X:Cx} {pins:List (Addr×Obj)} {σ:List (Option V)} {H H':Hp} {s:Shared} {h':Heap}
theorem Cx.Ok.Ua(ok:X.Ok)(e:X.base.get? b=some o):b∉X.fs:=λhb=>by
 have:=(ok.qk.mem hb).1;rw[e]at this;cases this
theorem Inv.bs(I:Inv X pins σ H s):∀b o,X.base.get? b=some o->s.heap.get? b=some o/\H b=none:=λb o e=>
 ⟨I.base.keep b o (I.ok.bs b o e).1 (I.ok.bs b o e).2 (I.ok.Ua e) (I.ok.lZ b o e),I.base.free b o (I.ok.bs b o e).1 (I.ok.bs b o e).2 (I.ok.lZ b o e)⟩
theorem Inv.bk(I:Inv X pins σ H s):∀b o,X.base.get? b=some o->s.heap.get? b=some o:=λb o e=>(I.bs b o e).1
theorem Inv.mod(I:Inv X pins σ H s):Mod X.K X.mg X.base:=I.ok.mod
theorem Inv.oj(I:Inv X pins σ H s):X.K.In s.heap:=I.ok.mod.Pu.keeps I.bk
theorem Inv.lt(I:Inv X pins σ H s):X.env.locals<s.heap.objs.size:=let ⟨_,hn,_⟩:=I.loc;hn.lt
theorem Inv.sz(I:Inv X pins σ H s):X.s₀.heap.objs.size<=s.heap.objs.size:=aaD I.ok.above (le_of_lt I.lt)
theorem Inv.Ub(I:Inv X pins σ H s)(h:s.heap.objs.size<=a):a∉X.fs:=λhb=>by
 obtain⟨_,o,ho,_⟩:=I.ok.qk.mem hb;exact absurd (aan (aal ho) (aaD I.sz h)) (aaX _)
theorem Inv.cne(I:Inv X pins σ H s):∀x c,X.env.cells.lookup x=some c->c≠X.env.locals:=λx c e z=>by
 obtain⟨v,o,ho,hd⟩:=I.cell x c e;obtain⟨m,⟨o',es,ep,ho',hd',_⟩,_⟩:=I.loc;rw[z,ho']at ho;cases ho;rw[hd']at hd;cases hd
theorem Inv.qk(I:Inv X pins σ H s):s.heap.FunFrames X.base X.outer:=by
 have all:∀(l:List Env),(∀b∈frs l,b∈X.fs)->X.s₀.heap.FunFrames X.base l->s.heap.FunFrames X.base l:=by
  intro l
  induction l with
  |nil=>intro _ _;trivial
  |cons env r ih=>intro hs hl;obtain⟨hk,⟨L,o,hf,hn,ho,hd⟩,hr⟩:=hl;have hL:L∈X.fs:=hs L (by unfold frs;rw[List.filterMap_cons,hf];exact aaa);obtain⟨sl,e⟩:=I.base.slot L o ho (I.ok.LB L hL) hL λz=>I.ok.Ds L z hL;exact⟨hk,⟨L,_,hf,hn,e,hd⟩,ih (λb hb=>hs b (by unfold frs;rw[List.filterMap_cons,hf];exact Z5 _ hb)) hr⟩
 exact all X.outer (λ_ hb=>hb) I.ok.qk
theorem Inv.stack(I:Inv X pins σ H s):s.heap.FunFrames X.base X.stack:=by
 rcases I.ok.stk with e|⟨e,hf⟩
 ·rw[e];exact I.qk
 ·rw[e];obtain⟨m,hn,_⟩:=I.loc;refine .cons (by rw[I.ok.kind];decide) hf hn ?_ I.qk;exact Heap.get?_none_of_le (aaD I.ok.KS I.ok.above)
theorem Inv.zx(I:Inv X pins σ H s):∀b∈frs X.stack,b∈X.env.locals::X.fs:=λb hb=>by
 rcases I.ok.stk with e|⟨e,hf⟩
 ·rw[e]at hb;exact Z5 _ hb
 ·rw[e]at hb;unfold frs at hb;rw[List.filterMap_cons,hf]at hb;exact hb
theorem Inv.Az(I:Inv X pins σ H s):∀b∈frs X.stack,H b=none:=λb hb=>by
 rcases aap.mp (I.zx b hb) with e|hb
 ·rw[e];exact I.free
 ·obtain⟨_,o,ho,_⟩:=I.ok.qk.mem hb;exact I.base.free b o ho (I.ok.LB b hb) λz=>I.ok.Ds b z hb
theorem Inv.step{g':Array GenState}{t':Nat}{d':Drawn}{ch:List Addr}(I:Inv X pins σ H s)
  (hch:∀b∈ch,(b∈X.ex\/X.s₀.heap.objs.size<=b)/\b≠X.env.locals/\(∀x c,X.env.cells.lookup x=some c->c≠b)/\∀p∈X.pn++pins,p.1≠b)
  (keep:∀b o,b≠X.env.locals->b∉X.fs->b∉ch->s.heap.get? b=some o->H b=none->h'.get? b=some o)
  (slot:∀b o,b≠X.env.locals->b∈X.fs->b∉ch->s.heap.get? b=some o->H b=none->∃sl,h'.get? b=some { o with slots:=sl }) (free:∀b o,b∉ch->s.heap.get? b=some o->H b=none->H' b=none)
  (there:∀b o,b∉ch->s.heap.get? b=some o->∃o',h'.get? b=some o')
  (tups:∀b xs,H b=some (.tup xs)->H' b=some (.tup xs)) (frzs:∀b o u,H b=some (.j3 o u)->H' b=some (.j3 o u)) (tW:∀b ps,H b=some (.tbl ps)->∃more,H' b=some (.tbl (ps++more)))
  (ns:∀m,s.heap.Ns X.env.locals m->h'.Ns X.env.locals m) (hok:lY X.prog X.w H' h') (hg:AllBare g') :
  Inv X pins σ H' { s with heap:=h',gens:=g',drawn:=d',toks:=t' }:=by
 have neL:∀b o,X.s₀.heap.get? b=some o->b≠X.env.locals:=λb o e=>aax (aan (aal e) I.ok.above);have neC:∀b o,X.s₀.heap.get? b=some o->b∉X.ex->b∉ch:=λb o e hx hb=>by
  rcases(hch b hb).1 with z|z
  ·exact hx z
  ·exact absurd (aan (aal e) z) (aaX _)
 have cellK:∀x c,X.env.cells.lookup x=some c->∀v,s.heap.IsCell c v->h'.IsCell c v:=λx c e v ⟨o,ho,hd⟩=>by
  have P8:c∉ch:=λz=>(hch c z).2.2.1 x c e rfl
  by_cases hc:c∈X.fs
  ·obtain⟨sl,q⟩:=slot c o (I.cne x c e) hc P8 ho (I.iu x c e);exact⟨_,q,hd⟩
  ·exact⟨o,keep c o (I.cne x c e) hc P8 ho (I.iu x c e),hd⟩
 refine⟨I.ok,I.os,hg,⟨λb o e n hb hx=>?_,λb o e n hb hx=>?_,λb o e n hx=>?_,λb o e hx=>?_,λb xs e=>tups b xs (I.base.tups b xs e),λb o xs e=>frzs b o xs (I.base.frzs b o xs e),λb ps e=>?_⟩,?_,λx c e=>?_,?_,λx c e=>?_,λp hp=>?_,hok,I.len⟩
 ·exact keep b o (neL b o e) hb (neC b o e hx) (I.base.keep b o e n hb hx) (I.base.free b o e n hx)
 ·obtain⟨sl,e1⟩:=I.base.slot b o e n hb hx;obtain⟨Xk,e2⟩:=slot b _ (neL b o e) hb (neC b o e hx) e1 (I.base.free b o e n hx);exact⟨Xk,e2⟩
 ·obtain⟨o',e1⟩:=I.base.there b o e hx;exact free b o' (neC b o e hx) e1 (I.base.free b o e n hx)
 ·obtain⟨o',e1⟩:=I.base.there b o e hx;exact there b o' (neC b o e hx) e1
 ·obtain⟨m1,e1⟩:=I.base.tW b ps e;obtain⟨m2,e2⟩:=tW b _ e1;exact⟨m1++m2,by rw[e2,Array.append_assoc]⟩
 ·obtain⟨m,hn,hl⟩:=I.loc
  refine⟨m,ns m hn,λi x v e1 e2 e3=>?_⟩;obtain⟨u,r,l⟩:=hl i x v e1 e2 e3;refine⟨u,r,?_⟩
  rcases l with l|⟨k,c,e,z⟩
  ·exact .inl l
  ·exact .inr ⟨k,c,e,cellK x c e _ z⟩
 ·obtain⟨v,z⟩:=I.cell x c e;exact⟨v,cellK x c e v z⟩
 ·obtain⟨m,⟨o,_,_,ho,_⟩,_⟩:=I.loc;exact free _ o (λz=>(hch _ z).2.1 rfl) ho I.free
 ·obtain⟨v,o,ho,hd⟩:=I.cell x c e;exact free c o (λz=>(hch c z).2.2.1 x c e rfl) ho (I.iu x c e)
 ·obtain⟨e,n,ne,nf,d⟩:=I.pin p hp;have P8:p.1∉ch:=λz=>(hch p.1 z).2.2.2 p hp rfl;exact⟨keep p.1 p.2 ne nf P8 e n,free p.1 p.2 P8 e n,ne,nf,d⟩
theorem Inv.un{t':Nat}(I:Inv X pins σ H s)(u:Un X.fs [] H H' s.heap h')(hok:lY X.prog X.w H' h'):Inv X pins σ H' { s with heap:=h',toks:=t' }:=by
 obtain⟨m,⟨o,es,ep,ho,r⟩,_⟩:=id I.loc;obtain⟨sl,hL⟩:=u.any ho I.free (by simp);exact I.step (g':=s.gens) (d':=s.drawn) (ch:=[]) (λ_ z=>nomatch z) (λb o _ hb _ e n=>u.keep b o e n hb (by simp)) (λb o _ hb _ e n=>u.slot b o e n hb (by simp)) (λb o _ e n=>u.free b o e n (by simp)) (λb o _ e=>u.there b o e (by simp)) u.tups u.frzs u.tW (λm' hm=>by
  obtain⟨o',es',Uc,ho',r'⟩:=hm;rw[ho]at ho';cases ho';exact⟨_,es',Uc,hL,r'⟩) hok I.bare
theorem Inv.call{t':Nat}(I:Inv X pins σ H s)(u:Un (frs X.stack) ch H H' s.heap h')(hok:lY X.prog X.w H' h')(hg:AllBare g')
  (hch:∀b∈ch,(b∈X.ex\/X.s₀.heap.objs.size<=b)/\b≠X.env.locals/\(∀x c,X.env.cells.lookup x=some c->c≠b)/\∀p∈X.pn++pins,p.1≠b) :
  Inv X pins σ H' { s with heap:=h',gens:=g',drawn:=d',toks:=t' }:=by
 obtain⟨m,⟨o,es,ep,ho,r⟩,_⟩:=id I.loc;obtain⟨sl,hL⟩:=u.any ho I.free λz=>(hch _ z).2.1 rfl;exact I.step (ch:=ch) hch (λb o hL hb hc e n=>u.keep b o e n (λz=>(aap.mp (I.zx b z)).elim hL hb) hc) (λb o _ _ hc e n=>u.any e n hc) (λb o hc e n=>u.free b o e n hc) (λb o hc e=>u.there b o e hc) u.tups u.frzs u.tW (λm' hm=>by
  obtain⟨o',es',Uc,ho',r'⟩:=hm;rw[ho]at ho';cases ho';exact⟨_,es',Uc,hL,r'⟩) hok hg
theorem Inv.turned{t':Nat}(I:Inv X pins σ H s)(k:∀b o,b≠it->s.heap.get? b=some o->h'.get? b=some o)(hn:H it=none)(hL:it≠X.env.locals)
  (h1:it∈X.ex\/X.s₀.heap.objs.size<=it) (h2:∀x c,X.env.cells.lookup x=some c->c≠it) (h3:∀p∈X.pn++pins,p.1≠it):Inv X pins σ H { s with heap:=h',toks:=t' }:=by
 have P9:∀b u,H b=some u->b≠it:=λb u e z=>by rw[z,hn]at e;cases e
 refine I.step (g':=s.gens) (d':=s.drawn) (ch:=[it]) (λb hb=>?_) (λb o _ _ hc e _=>k b o (λz=>hc (by simp[z])) e) (λb o _ _ hc e _=>⟨o.slots,k b o (λz=>hc (by simp[z])) e⟩) (λ_ _ _ _ n=>n)
  (λb o hc e=>⟨o,k b o (λz=>hc (by simp[z])) e⟩) (λ_ _ e=>e) (λ_ _ _ e=>e) (λb ps e=>⟨#[],by rw[e];simp⟩) (λm hm=>?_) (λb u e=>?_) I.bare
 ·have e:b=it:=by simpa using hb
  subst e;exact⟨h1,hL,h2,h3⟩
 ·obtain⟨o,es,ep,ho,r⟩:=hm;exact⟨o,es,ep,k _ o (Ne.symm hL) ho,r⟩
 ·refine(I.hok b u e).stay (λc v hc q=>k c v ?_ q) (λ_ q=>q) λ_ _ q=>q
  rcases hc with z|z
  ·rw[z];exact P9 b u e
  ·exact P9 c _ z
theorem Inv.tok(I:Inv X pins σ H s)(t:Nat):Inv X pins σ H { s with toks:=t }:=I.un (h':=s.heap) (t':=t) Un.refl I.hok
theorem Inv.kept{t':Nat}(I:Inv X pins σ H s)(k:∀b u,s.heap.get? b=some u->h'.get? b=some u):Inv X pins σ H { s with heap:=h',toks:=t' }:=I.un (Un.kept k) (I.hok.kept k)
theorem Inv.laid{t':Nat}(I:Inv X pins σ H s)(k:∀b u,s.heap.get? b=some u->h'.get? b=some u)(hp:s.heap.objs.size<=a)(new:bJ X.prog X.w (upd H a o) h' a o) :
  Inv X pins σ (upd H a o) { s with heap:=h',toks:=t' }:=I.un (Un.laid k hp (I.hok.fresh hp)) (I.hok.laid k hp new)
theorem Inv.write{t':Nat}(I:Inv X pins σ H s)(mu:P6 (H x))(he:e=x\/H e=some (.own x))(k:∀b u,b≠e->s.heap.get? b=some u->h'.get? b=some u)(Pq:∃u,h'.get? e=some u)
  (new:bJ X.prog X.w (upd H x o) h' x o):Inv X pins σ (upd H x o) { s with heap:=h',toks:=t' }:=I.un (Un.write mu he k Pq) (I.hok.write mu he k Pq new)
theorem Inv.AA(I:Inv X pins σ H s)(h:∀p∈Qa,s.heap.get? p.1=some p.2/\H p.1=none/\p.1≠X.env.locals/\p.1∉X.fs/\∀v,p.2.data≠.cell v):Inv X Qa σ H s :=
 ⟨I.ok,I.os,I.bare,I.base,I.loc,I.cell,I.free,I.iu,λp hp=>(aat.mp hp).elim (λz=>I.pin p (aas _ z)) (h p),I.hok,I.len⟩
theorem xh{N:List Str}(hN:N.Nodup){i j:Nat}{x:Str}(a:N[i]?=some x)(b:N[j]?=some x):i=j:=by
 obtain⟨h1,e1⟩:=Z8.mp a;obtain⟨h2,e2⟩:=Z8.mp b;exact(List.getElem_inj hN).mp (e1.trans e2.symm)
theorem uh{i:Nat}(I:Inv X pins σ H s)(hN:X.N.Nodup)(hi:X.N[i]?=some x)(hx:Loc X.env.scope x)(r:RelV v u)
  (h:∀s',Inv X pins (σ.set i (some v)) H s'->(∃a,Heap.SameBut a s.heap s'.heap/\(a=X.env.locals\/X.env.cells.lookup x=some a))->Q () s') (hf:X.fn x=true\/X.env.scope.names.lookup x=some .local):wpAny M A (storeName X.env x u) Q E s:=by
 obtain⟨m,hn,hl⟩:=id I.loc;have hcls:(X.env.scope.kind==.class||(X.env.scope.kind==.module&&X.env.locals != X.env.globals))=false:=by rw[I.ok.kind];rfl
 have VU:i < σ.length:=by rw[I.len];exact(Z8.mp hi).1
 have cne:=I.cne;have tracked:∀{a:Addr} {h':Heap},(∃o,s.heap.get? a=some o/\H a=none)->Heap.SameBut a s.heap h'->lY X.prog X.w H h':=λ{a h'} ha hs b ob e=>by
  obtain⟨_,_,hfree⟩:=ha;refine(I.hok b ob e).stay (λc w' hc q=>(hs.2 c ?_).trans q) (λ_ q=>q) λ_ _ q=>q;rintro rfl
  rcases hc with rfl|hc
  ·rw[hfree]at e;cases e
  ·rw[hfree]at hc;cases hc
 rcases hx with hk|hk
 ·refine wpAny_storeName_local hk hn (λh' hn' hs=>?_) hcls
  obtain⟨oL,_,_,Xl,_⟩:=id hn;refine h _ ⟨I.ok,I.os,I.bare,⟨λb o e n hb hx=>?_,λb o e n hb hx=>?_,I.base.free,λb o e hx=>?_,I.base.tups,I.base.frzs,I.base.tW⟩,⟨_,hn',λj y v' e1 e2 e3=>?_⟩,λy c e=>?_,I.free,I.iu,λp hp=>?_,tracked ⟨oL,Xl,I.free⟩ hs,by simpa using I.len⟩ ⟨_,hs,.inl rfl⟩
  ·exact(hs.2 b (aax (aan (aal e) I.ok.above))).trans (I.base.keep b o e n hb hx)
  ·obtain⟨sl,e1⟩:=I.base.slot b o e n hb hx;exact⟨sl,(hs.2 b (aax (aan (aal e) I.ok.above))).trans e1⟩
  ·obtain⟨o',e1⟩:=I.base.there b o e hx;exact⟨o',(hs.2 b (aax (aan (aal e) I.ok.above))).trans e1⟩
  ·by_cases hj:j=i
   ·subst hj;rw[hi]at e1;cases e1;rw[aah VU]at e2;cases e2;exact⟨u,r,.inl ⟨hk,by simp⟩⟩
   ·rw[Z6 (Ne.symm hj)]at e2
    obtain⟨u',r',q⟩:=hl j y v' e1 e2 e3;refine⟨u',r',?_⟩
    rcases q with ⟨k,e⟩|⟨k,c,e,z⟩
    ·refine .inl ⟨k,?_⟩;have:y≠x:=λe=>hj (xh hN e1 (e▸hi));simp[this,e]
    ·exact .inr ⟨k,c,e,z.sameBut hs (cne y c e)⟩
  ·obtain⟨w',z⟩:=I.cell y c e;exact⟨w',z.sameBut hs (cne y c e)⟩
  ·obtain⟨e,n,ne,nf,d⟩:=I.pin p hp;exact⟨(hs.2 p.1 ne).trans e,n,ne,nf,d⟩
 ·have hfn:X.fn x=true:=by
   rcases hf with z|z
   ·exact z
   ·rw[z]at hk;cases hk
  obtain⟨c,hc⟩:=I.ok.has x (.inl hk);obtain⟨w',z⟩:=I.cell x c hc;refine wpAny_storeName_cell I.ok.kind hk hc z (λh' hc' hs=>?_);obtain⟨oc,hoc,Dt⟩:=id z;refine h { s with heap:=h' } ⟨I.ok,I.os,I.bare,⟨λb o e n hb hx=>?_,λb o e n hb hx=>?_,I.base.free,λb o e hx=>?_,I.base.tups,I.base.frzs,I.base.tW⟩,⟨m,hn.sameBut hs (Ne.symm (cne x c hc)),λj y v' e1 e2 e3=>?_⟩,λy c' e=>?_,I.free,I.iu,λp hp=>?_,tracked ⟨oc,hoc,I.iu x c hc⟩ hs,by simpa using I.len⟩ ⟨c,hs,.inr hc⟩
  ·exact(hs.2 b (aax (aan (aal e) (I.ok.P7 x c hfn hc)))).trans (I.base.keep b o e n hb hx)
  ·obtain⟨sl,e1⟩:=I.base.slot b o e n hb hx;exact⟨sl,(hs.2 b (aax (aan (aal e) (I.ok.P7 x c hfn hc)))).trans e1⟩
  ·obtain⟨o',e1⟩:=I.base.there b o e hx;exact⟨o',(hs.2 b (aax (aan (aal e) (I.ok.P7 x c hfn hc)))).trans e1⟩
  ·by_cases hj:j=i
   ·subst hj;rw[hi]at e1;cases e1;rw[aah VU]at e2;cases e2;exact⟨u,r,.inr ⟨.inl hk,c,hc,hc'⟩⟩
   ·rw[Z6 (Ne.symm hj)]at e2
    obtain⟨u',r',q⟩:=hl j y v' e1 e2 e3;refine⟨u',r',?_⟩
    rcases q with q|⟨k,c',e,z'⟩
    ·exact .inl q
    ·refine .inr ⟨k,c',e,z'.sameBut hs ?_⟩;rintro rfl;exact hj (xh hN e1 (I.ok.inj _ _ _ e hc▸hi))
  ·by_cases hcc:c'=c
   ·subst hcc;exact⟨_,hc'⟩
   ·obtain⟨w2,z2⟩:=I.cell y c' e;exact⟨w2,z2.sameBut hs hcc⟩
  ·obtain⟨e,n,ne,nf,d⟩:=I.pin p hp;refine⟨(hs.2 p.1 ?_).trans e,n,ne,nf,d⟩;intro q;rw[q,hoc]at e;have q':oc=p.2:=aav e;exact d w' (by rw[<-q'];exact Dt)
theorem xj{i:Nat}(I:Inv X pins σ H s)(hN:X.N.Nodup)(hi:X.N[i]?=some x)(hx:Loc X.env.scope x)(r:RelV v u)
  (h:∀s',Inv X pins (σ.set i (some v)) H s'->Q () s') (hf:X.fn x=true\/X.env.scope.names.lookup x=some .local):wpAny M A (storeName X.env x u) Q E s :=
 uh I hN hi hx r (λs' I' _=>h s' I') hf
theorem Inv.Qc(I:Inv X pins σ H s)(ho:s'.os=s.os)(u:Un (frs X.stack) ch H H' s.heap s'.heap)(hok:lY X.prog X.w H' s'.heap)(hg:AllBare s'.gens)
  (hch:∀b∈ch,(b∈X.ex\/X.s₀.heap.objs.size<=b)/\b≠X.env.locals/\(∀x c,X.env.cells.lookup x=some c->c≠b)/\∀p∈X.pn++pins,p.1≠b):Inv X pins σ H' s':=by
 obtain⟨h',g',d',t',o'⟩:=s';have e:o'=s.os:=ho;subst e;exact I.call (g':=g') (t':=t') (d':=d') u hok hg hch
end
abbrev XK:=Value->Option Addr->Hp->Prop
abbrev St:=List (Option V)
abbrev VK:=V->Hp->Prop
abbrev TE:=St->Hp->VK->Prop
abbrev TT:=St->Hp->(Bool->Hp->Prop)->Prop
abbrev TA:=St->Hp->(List V->Hp->Prop)->Prop
structure Ends where
 nx:St->Hp->Prop
 rt:VK
 bk:St->Hp->Prop:=λ_ _=>False
 ct:St->Hp->Prop:=λ_ _=>False
abbrev TS:=Ends->St->Hp->Prop
def EP(X:Cx)(pins:List (Addr×Obj))(σ:St)(Q:VK)(u:Value)(s':Shared):Prop:=∃v H',Inv X pins σ H' s'/\RelV v u/\Q v H'
def TP(X:Cx)(pins:List (Addr×Obj))(σ:St)(Q:Bool->Hp->Prop)(b:Bool)(s':Shared):Prop:=∃H',Inv X pins σ H' s'/\Q b H'
def AP(X:Cx)(pins:List (Addr×Obj))(σ:St)(Q:List V->Hp->Prop)(us:List Value)(s':Shared):Prop:=∃vs H',Inv X pins σ H' s'/\Vals vs us/\Q vs H'
def SP(X:Cx)(pins:List (Addr×Obj))(D:Ends)(f:Flow)(s':Shared):Prop :=
 match f with
 |.next=>∃σ' H',Inv X pins σ' H' s'/\D.nx σ' H'
 |.brk=>∃σ' H',Inv X pins σ' H' s'/\D.bk σ' H'
 |.cont=>∃σ' H',Inv X pins σ' H' s'/\D.ct σ' H'
 |.ret u=>∃v σ' H',Inv X pins σ' H' s'/\RelV v u/\D.rt v H'
def PE(X:Cx)(e:Expr)(t:TE):Prop :=
 ∀(pins:List (Addr×Obj)) (s:Shared) (σ:St) (H:Hp) (Q:VK),Inv X pins σ H s->t σ H Q->wpAny (model X.prog X.w) X.A (eval e X.env) (EP X pins σ Q) X.xe s
def PT(X:Cx)(e:Expr)(t:TT):Prop :=
 ∀(pins:List (Addr×Obj)) (s:Shared) (σ:St) (H:Hp) (Q:Bool->Hp->Prop),Inv X pins σ H s->t σ H Q->wpAny (model X.prog X.w) X.A (isTrue e X.env (eval e X.env)) (TP X pins σ Q) X.xe s
def PW(X:Cx)(e:Expr)(t:TT):Prop :=
 ∀(whole:Sem Value) (pins:List (Addr×Obj)) (s:Shared) (σ:St) (H:Hp) (Q:Bool->Hp->Prop),Inv X pins σ H s->t σ H Q->wpAny (model X.prog X.w) X.A (isTrue e X.env whole) (TP X pins σ Q) X.xe s
theorem PW.pt(h:PW X e t):PT X e t:=h _
def PA(X:Cx)(es:List Expr)(t:TA):Prop :=
 ∀(pos:Pos) (pins:List (Addr×Obj)) (s:Shared) (σ:St) (H:Hp) (Q:List V->Hp->Prop),Inv X pins σ H s->t σ H Q->wpAny (model X.prog X.w) X.A (spliced (backTo pos (starEach es X.env))) (AP X pins σ Q) X.xe s
def PS(X:Cx)(st:Stmt)(t:TS):Prop :=
 ∀(pins:List (Addr×Obj)) (s:Shared) (σ:St) (H:Hp) (D:Ends),Inv X pins σ H s->t D σ H->wpAny (model X.prog X.w) X.A (exec st X.env) (SP X pins D) X.xe s
def zq(X:Cx)(st:List Stmt)(t:TS):Prop :=
 ∀(pins:List (Addr×Obj)) (s:Shared) (σ:St) (H:Hp) (D:Ends),Inv X pins σ H s->t D σ H->wpAny (model X.prog X.w) X.A (execs st X.env) (SP X pins D) X.xe s
theorem cg{α:Type}{t:Sem α}{Q Q':α -> Shared->Prop}(h:wpAny M A t Q E s)(hQ:∀a s,Q a s->Q' a s):wpAny M A t Q' E s:=wpAny_mono h hQ λ_ _ x=>x
section
variable {X:Cx}
theorem bin{a b:Expr}{ta tb:TE}(ha:PE X a ta)(hb:PE X b tb){pins:List (Addr×Obj)}{s:Shared}{σ:St}{H:Hp}{R:V->V->Hp->Prop}(I:Inv X pins σ H s)(h:ta σ H λx H1=>tb σ H1 λy H2=>R x y H2)
  {α:Type} {Q:α -> Shared->Prop} {f:Value->Value->Sem α}
  (hf:∀v u s2 x y H2,Inv X pins σ H2 s2->RelV x v->RelV y u->R x y H2->wpAny (model X.prog X.w) X.A (f v u) Q X.xe s2) :
  wpAny (model X.prog X.w) X.A (eval a X.env) (λv s₁=>wpAny (model X.prog X.w) X.A (eval b X.env) (λu s₂=>wpAny (model X.prog X.w) X.A (f v u) Q X.xe s₂) X.xe s₁) X.xe s:=by
 refine cg (ha pins s σ H _ I h) λv s1 aO=>?_;obtain⟨x,H1,I1,r1,q1⟩:=aO;refine cg (hb pins s1 σ H1 _ I1 q1) λu s2 aO=>?_;obtain⟨y,H2,I2,r2,q2⟩:=aO;exact hf v u s2 x y H2 I2 r1 r2 q2
def tX(i:Nat):TE:=λσ H Q=>∃v,σ[i]?=some (some v)/\Q v H
def tC(v:V):TE:=λ_ H Q=>Q v H
theorem zy{i:Nat}(hN:X.N[i]?=some x)(hv:vh X.env.scope x)(hd:(x==("__debug__":Str))=false)(hcd:(x==("__classdict__":Str))=false):PE X (.Name x pos) (tX i):=by
 intro pins s σ H Q I h;obtain⟨v,e,h⟩:=h;obtain⟨m,hn,hl⟩:=I.loc;obtain⟨u,r,l⟩:=hl i x v hN e hv;have fin:EP X pins σ Q u s:=⟨v,H,I,r,h⟩
 rcases l with ⟨hk,hm⟩|⟨hk,c,hc,hcell⟩
 ·exact wpAny_Name (wpAny_loadName_local I.ok.kind hk hn hm fin) hd
 ·rcases hk with hk|hk
  ·exact wpAny_Name (wpAny_loadName_cell I.ok.kind hk hc hcell fin) hd
  ·exact wpAny_Name (wpAny_loadName_free I.ok.kind hk hc hcell fin hcd) hd
theorem LC{i j pos}:PE X (.Constant (.int i) j pos) (tC (.int i)):=λ_ _ _ H _ I h=>wpAny_Constant_int ⟨.int i,H,I.tok _,⟨_,rfl⟩,h⟩
theorem Qd{b j pos}:PE X (.Constant (.bool b) j pos) (tC (.bl b)):=λ_ _ _ H _ I h=>Constant_bool ⟨.bl b,H,I,rfl,h⟩
theorem LD{j pos}:PE X (.Constant .none j pos) (tC .non):=λ_ _ _ H _ I h=>Constant_none ⟨.non,H,I,rfl,h⟩
theorem LF{x j pos}:PE X (.Constant (.str x) j pos) (tC (.str x)):=λ_ _ _ H _ I h=>Calls.Constant_str ⟨.str x,H,I.tok _,⟨_,rfl⟩,h⟩
def Gl(X:Cx)(x:Str):Prop:=X.env.kindOf x=some .globalImplicit
theorem kW(I:Inv X pins σ H s)(hg:Gl X x)(hm:X.mg x=some u)(h:Q u s)
  (hd:(x==("__debug__":Str))=false):wpAny (model X.prog X.w) X.A (eval (.Name x pos) X.env) Q E s :=
 Calls.Name_function_global I.ok.kind hg (Calls.loadGlobal_global (by rw[I.ok.glob];exact I.mod.glob.keeps I.bk) hm h) hd
theorem gg(I:Inv X pins σ H s)(hg:Gl X x)(hm:X.mg x=none)(hv:bootBuiltins x=some u)(h:Q u s)
  (hn:x ≠ "__name__":=by decide) (hd:(x==("__debug__":Str))=false:=by decide):wpAny (model X.prog X.w) X.A (eval (.Name x pos) X.env) Q E s:=by
 obtain⟨mb,h1,h2⟩:=I.mod.blt;exact Calls.Name_function_global I.ok.kind hg (Calls.loadGlobal_builtin (by rw[I.ok.glob];exact I.mod.glob.keeps I.bk) hm (by rw[I.ok.blt];exact h1.keeps I.bk) ((h2 x hn).trans hv) h) hd
theorem Ib(hg:Gl X x)(hm:X.mg x=some u)(r:RelV v u)(hd:(x==("__debug__":Str))=false):PE X (.Name x pos) (tC v) :=
 λ_ _ _ H _ I h=>kW I hg hm ⟨v,H,I,r,h⟩ hd
theorem Ic(hg:Gl X x)(hm:X.mg x=none)(hv:bootBuiltins x=some u)(r:RelV v u)(hn:x ≠ "__name__")(hd:(x==("__debug__":Str))=false):PE X (.Name x pos) (tC v) :=
 λ_ _ _ H _ I h=>gg I hg hm hv ⟨v,H,I,r,h⟩ hn hd
variable {a b:Expr} {ta tb:TE} {pos:Pos}
variable {tA Tp:TT} {rest:List Expr}
def Ud(t u:TT):TT:=λσ H Q=>t σ H λc H1=>if c=true then u σ H1 Q else Q false H1
def Xm(t u:TT):TT:=λσ H Q=>t σ H λc H1=>if c=true then Q true H1 else u σ H1 Q
def Ue(t:TT):TT:=λσ H Q=>t σ H λc H1=>Q (!c) H1
theorem Ie(ha:PT X a tA):PW X (.BoolOp .And [a] pos) tA:=by
 intro wh pins s σ H Q I h;refine isTrue_and (cg (ha pins s σ H Q I h) λc s1 e=>?_);cases c with
 |true=>exact isTrue_and_nil e
 |false=>exact e
theorem LG(ha:PT X a tA):PW X (.BoolOp .Or [a] pos) tA:=by
 intro wh pins s σ H Q I h;refine isTrue_or (cg (ha pins s σ H Q I h) λc s1 e=>?_);cases c with
 |false=>exact isTrue_or_nil e
 |true=>exact e
theorem LH(ha:PT X a tA)(hb:PW X (.BoolOp .And (b::rest) pos) Tp):PW X (.BoolOp .And (a::b::rest) pos) (Ud tA Tp):=by
 intro wh pins s σ H Q I h;refine isTrue_and (cg (ha pins s σ H _ I h) λc s1 aO=>?_);obtain⟨H1,I1,q1⟩:=aO;cases c with
 |true=>exact hb wh pins s1 σ H1 Q I1 q1
 |false=>exact⟨H1,I1,q1⟩
theorem Qe(ha:PT X a tA)(hb:PW X (.BoolOp .Or (b::rest) pos) Tp):PW X (.BoolOp .Or (a::b::rest) pos) (Xm tA Tp):=by
 intro wh pins s σ H Q I h;refine isTrue_or (cg (ha pins s σ H _ I h) λc s1 aO=>?_);obtain⟨H1,I1,q1⟩:=aO;cases c with
 |true=>exact⟨H1,I1,q1⟩
 |false=>exact hb wh pins s1 σ H1 Q I1 q1
theorem LI(ha:PT X a tA):PT X (.UnaryOp .Not a pos) (Ue tA):=by
 intro pins s σ H Q I h;exact isTrue_not (ha pins s σ H (λc H1=>Q (!c) H1) I h)
def Qf(ta tb:TE):TE:=λσ H Q=>ta σ H λx H1=>∃c,x=.bl c/\if c=true then tb σ H1 Q else Q (.bl false) H1
def Ug(ta tb:TE):TE:=λσ H Q=>ta σ H λx H1=>∃c,x=.bl c/\if c=true then Q (.bl true) H1 else tb σ H1 Q
def Qg(ta:TE):TE:=λσ H Q=>ta σ H λx H1=>∃c,x=.bl c/\Q (.bl (!c)) H1
theorem Du{op}(h:PE X a t):PE X (.BoolOp op [a] pos) t:=λpins s σ H Q I hw=>BoolOp_one (h pins s σ H Q I hw)
theorem LJ(ha:PE X a ta)(hb:PE X (.BoolOp .And (b::rest) pos) tb):PE X (.BoolOp .And (a::b::rest) pos) (Qf ta tb):=by
 intro pins s σ H Q I h;refine BoolOp_and (cg (ha pins s σ H _ I h) λv s1 aO=>?_);obtain⟨x,H1,I1,r1,q1⟩:=aO;obtain⟨c,rfl,q1⟩:=q1;cases r1;refine wpAny_truthy_bool ?_;cases c with
 |true=>exact hb pins s1 σ H1 Q I1 q1
 |false=>exact⟨.bl false,H1,I1,rfl,q1⟩
theorem Qh(ha:PE X a ta)(hb:PE X (.BoolOp .Or (b::rest) pos) tb):PE X (.BoolOp .Or (a::b::rest) pos) (Ug ta tb):=by
 intro pins s σ H Q I h;refine BoolOp_or (cg (ha pins s σ H _ I h) λv s1 aO=>?_);obtain⟨x,H1,I1,r1,q1⟩:=aO;obtain⟨c,rfl,q1⟩:=q1;cases r1;refine wpAny_truthy_bool ?_;cases c with
 |false=>exact hb pins s1 σ H1 Q I1 q1
 |true=>exact⟨.bl true,H1,I1,rfl,q1⟩
theorem LK(ha:PE X a ta):PE X (.UnaryOp .Not a pos) (Qg ta):=by
 intro pins s σ H Q I h;refine UnaryOp_ (cg (ha pins s σ H _ I h) λv s1 aO=>?_);obtain⟨x,H1,I1,r1,q1⟩:=aO;obtain⟨c,rfl,q1⟩:=q1;cases r1;exact not_of (wpAny_truthy_bool ⟨.bl (!c),H1,I1,rfl,q1⟩)
end
def gF(K:Frag)(H:Hp)(a:Addr)(xs:List V):Prop :=
 Rd H a (.lst xs) \/
  ∃(o:Obj) (its:Array Value) (n:Nat),K.lookup a=some o/\o.cls=.type "list" /\ o.dict=none/\o.data=.seq its n/\its.size<=sizeLine/\Vals xs its.toList
def j8(K:Frag)(H:Hp)(a:Addr)(xs:List V):Prop :=
 Rd H a (.tup xs) \/
  ∃(o:Obj) (its:Array Value) (n:Nat),K.lookup a=some o/\o.cls=.type "tuple" /\ o.data=.seq its n/\its.size<=sizeLine/\Vals xs its.toList
def Uh:Value->Option V
 |.none=>some .non
 |.bool b=>some (.bl b)
 |.int i _=>some (.int i)
 |.str x _=>some (.str x)
 |.bytes b _=>some (.byt b)
 |.float b _=>some (.flt b)
 |.ref a=>some (.ref a)
 |.type n=>some (.ty n)
 |_=>none
theorem RelV.abs(r:RelV x u):Uh u=some x:=by
 cases x with
 |non=>cases r;rfl
 |bl _=>cases r;rfl
 |int _=>obtain⟨t,rfl⟩:=r;rfl
 |str _=>obtain⟨t,rfl⟩:=r;rfl
 |byt _=>obtain⟨t,rfl⟩:=r;rfl
 |flt _=>obtain⟨t,rfl⟩:=r;rfl
 |ref _=>cases r;rfl
 |ty _=>cases r;rfl
theorem RelV.inj(r:RelV x u)(q:RelV y u):x=y:=aav (r.abs.symm.trans q.abs)
theorem Vals.inj:∀{xs ys:List V} {us:List Value},Vals xs us->Vals ys us->xs=ys
 |_,_,_,.nil,.nil=>rfl
 |_,_,_,.cons r t,.cons r' t'=>by rw[r.inj r',Vals.inj t t']
section
variable {X:Cx} {pins:List (Addr×Obj)} {σ:St} {H:Hp} {s:Shared} {a:Addr} {xs ys:List V}
theorem j8.of{K:Frag}(h:H a=some (.tup xs)):j8 K H a xs:=.inl (.inl h)
theorem Inv.list(I:Inv X pins σ H s)(h:gF X.K H a xs):∃its:List Value,Vals xs its/\PlainL s.heap a its.toArray/\xs.length<=sizeLine:=by
 rcases h with h|⟨o,its,n,hk,hc,hd,hs,hz,r⟩
 ·obtain⟨z,its,n,r,e⟩:=h.ok I.hok;exact⟨its,r,⟨_,n,e,rfl,rfl,rfl⟩,z⟩
 ·refine⟨its.toList,r,⟨o,n,I.oj a o hk,hc,hd,by simpa using hs⟩,?_⟩;have e:=r.length;simp only[Array.length_toList]at e;omega
theorem Inv.tuple(I:Inv X pins σ H s)(h:j8 X.K H a xs):∃its:List Value,Vals xs its/\IsTup s.heap a its.toArray/\xs.length<=sizeLine:=by
 rcases h with h|⟨o,its,n,hk,hc,hs,hz,r⟩
 ·obtain⟨z,its,r,p⟩:=h.ok I.hok;exact⟨its,r,p,z⟩
 ·refine⟨its.toList,r,⟨o,I.oj a o hk,hc,n,by simpa using hs⟩,?_⟩;have e:=r.length;simp only[Array.length_toList]at e;omega
theorem Inv.xm(I:Inv X pins σ H s)(h:gF X.K H a xs)(h':gF X.K H a ys):xs=ys:=by
 obtain⟨its,r,⟨o,n,e,_,_,d⟩,_⟩:=I.list h;obtain⟨its',r',⟨o',n',e',_,_,d'⟩,_⟩:=I.list h';rw[e]at e';cases e';rw[d]at d';injection d' with d1 _
 have:its=its':=by simpa using congrArg Array.toList d1
 subst this;exact r.inj r'
theorem Inv.B9(I:Inv X pins σ H s)(h:j8 X.K H a xs)(h':j8 X.K H a ys):xs=ys:=by
 obtain⟨its,r,⟨o,e,_,n,d⟩,_⟩:=I.tuple h;obtain⟨its',r',⟨o',e',_,n',d'⟩,_⟩:=I.tuple h';rw[e]at e';cases e';rw[d]at d';injection d' with d1 _
 have:its=its':=by simpa using congrArg Array.toList d1
 subst this;exact r.inj r'
end
abbrev Cx.tY(X:Cx)(E:Value->Shared->Prop):Cx:={ X with xe:=E }
abbrev Cx.Qi(X:Cx):Cx:=X.tY λ_ _=>False
theorem Cx.Ok.tY{X:Cx}(ok:X.Ok)(E:Value->Shared->Prop):(X.tY E).Ok :=
 ⟨ok.mod,ok.kind,ok.glob,ok.blt,ok.above,ok.inj,ok.has,ok.P7,ok.hd,ok.frames,ok.stk,ok.T9,ok.bs,ok.KS,ok.lZ,ok.Ds,ok.qk,ok.LB⟩
theorem Cx.Ok.j9{X:Cx}{E:Value->Shared->Prop}(ok:(X.tY E).Ok):X.Ok :=
 ⟨ok.mod,ok.kind,ok.glob,ok.blt,ok.above,ok.inj,ok.has,ok.P7,ok.hd,ok.frames,ok.stk,ok.T9,ok.bs,ok.KS,ok.lZ,ok.Ds,ok.qk,ok.LB⟩
section
variable {X:Cx} {pins:List (Addr×Obj)} {σ:St} {H:Hp} {s:Shared} {E:Value->Shared->Prop}
theorem Inv.tY(I:Inv X pins σ H s)(E:Value->Shared->Prop):Inv (X.tY E) pins σ H s:=⟨I.ok.tY E,I.os,I.bare,I.base,I.loc,I.cell,I.free,I.iu,I.pin,I.hok,I.len⟩
theorem Inv.j9(I:Inv (X.tY E) pins σ H s):Inv X pins σ H s:=⟨I.ok.j9,I.os,I.bare,I.base,I.loc,I.cell,I.free,I.iu,I.pin,I.hok,I.len⟩
theorem SP.j9(h:SP (X.tY E) pins D f s'):SP X pins D f s':=by
 cases f with
 |next=>obtain⟨σ',H',I,q⟩:=h;exact⟨σ',H',I.j9,q⟩
 |brk=>obtain⟨σ',H',I,q⟩:=h;exact⟨σ',H',I.j9,q⟩
 |cont=>obtain⟨σ',H',I,q⟩:=h;exact⟨σ',H',I.j9,q⟩
 |ret u=>obtain⟨v,σ',H',I,r,q⟩:=h;exact⟨v,σ',H',I.j9,r,q⟩
theorem zq.Qi{st:List Stmt}{t:TS}(h:zq X.Qi st t):zq X st t:=λpins s σ H D I hw=>
 wpAny_mono (h pins s σ H D (I.tY _) hw) (λ_ _ q=>q.j9) λ_ _ z=>False.elim z
end
section
variable {X:Cx} {st:Stmt} {rest:List Stmt} {t u:TS} {e:Expr} {te:TE} {pos:Pos}
def Dv:TS:=λD σ H=>D.nx σ H
def Ui(t u:TS):TS:=λD σ H=>t { D with nx:=u D } σ H
theorem Ig:zq X [] Dv:=λ_ _ σ H _ I h=>wpAny_execs_nil ⟨σ,H,I,h⟩
theorem Dw(h1:PS X st t)(h2:zq X rest u):zq X (st::rest) (Ui t u):=by
 intro pins s σ H D I h;refine wpAny_execs_cons (cg (h1 pins s σ H { D with nx:=u D } I h) λf s1 q=>?_);cases f with
 |next=>obtain⟨σ',H',I',q⟩:=q;exact h2 pins s1 σ' H' D I' q
 |ret v=>exact q
 |brk=>exact q
 |cont=>exact q
def LL:TS:=λD σ H=>D.bk σ H
def Qj:TS:=λD σ H=>D.ct σ H
theorem Ih:PS X (.Pass pos) Dv:=λ_ _ σ H _ I h=>wpAny_Pass ⟨σ,H,I,h⟩
theorem Dy:PS X (.Break pos) LL:=λ_ _ σ H _ I h=>wpAny_Break ⟨σ,H,I,h⟩
theorem xq:PS X (.Continue pos) Qj:=λ_ _ σ H _ I h=>wpAny_Continue ⟨σ,H,I,h⟩
theorem Inv.quiet(I:Inv X pins σ H s):interactive X.env=false:=by simp[interactive,I.ok.kind]
theorem LM{x j pos pos'}:PS X (.Expr (.Constant (.str x) j pos) pos') Dv:=λ_ s σ H _ I h=>wpAny_Expr (Calls.Constant_str (show SP X _ _ .next { s with toks:=s.toks+1 } from⟨σ,H,I.tok _,h⟩)) I.quiet
def Qk(te:TE):TS:=λD σ H=>te σ H λ_ H1=>D.nx σ H1
theorem Ii(he:PE X e te)(hs:swapsWith e none pos.line X.env=pure false):PS X (.Expr e pos) (Qk te):=by
 intro pins s σ H D I h;exact wpAny_Expr_any (cg (he pins s σ H _ I h) λv s1 ⟨x,H1,I1,r1,q1⟩=>⟨σ,H1,I1,q1⟩) I.quiet hs
def Uj(te:TE):TS:=λD σ H=>te σ H D.rt
theorem LN(he:PE X e te):PS X (.Return (some e) pos) (Uj te):=by
 intro pins s σ H D I h;exact wpAny_Return_some (cg (he pins s σ H _ I h) λv s1 ⟨x,H1,I1,r1,q1⟩=>⟨x,σ,H1,I1,r1,q1⟩)
def Ql:TS:=λD _ H=>D.rt .non H
theorem Ij:PS X (.Return none pos) Ql:=λ_ _ σ H _ I h=>wpAny_Return_none ⟨.non,σ,H,I,rfl,h⟩
def Uk(c:TT)(t u:TS):TS:=λD σ H=>c σ H λb H1=>if b=true then t D σ H1 else u D σ H1
theorem Qm(hc:PT X c tc)(ha:zq X a t)(hb:zq X b u):PS X (.If c a b pos) (Uk tc t u):=by
 intro pins s σ H D I h;refine wpAny_If (cg (hc pins s σ H _ I h) λd s1 aO=>?_);obtain⟨H1,I1,q1⟩:=aO;cases d with
 |true=>exact ha pins s1 σ H1 D I1 q1
 |false=>exact hb pins s1 σ H1 D I1 q1
def LO:TS:=λ_ _ _=>False
theorem xr:PS X st LO:=λ_ _ _ _ _ _ h=>h.elim
end
abbrev TG:=V->St->Hp->(St->Hp->Prop)->Prop
abbrev Pw:=List V->St->Hp->(St->Hp->Prop)->Prop
def PG(X:Cx)(target:Expr)(t:TG):Prop :=
 ∀(pins:List (Addr×Obj)) (s:Shared) (σ:St) (H:Hp) (v:V) (u:Value) (Q:St->Hp->Prop),Inv X pins σ H s->RelV v u->t v σ H Q ->
  wpAny (model X.prog X.w) X.A (assign target X.env u) (λ_ s'=>∃σ' H',Inv X pins σ' H' s'/\Q σ' H') X.xe s
def Px(X:Cx)(ts:List Expr)(t:Pw):Prop :=
 ∀(pins:List (Addr×Obj)) (s:Shared) (σ:St) (H:Hp) (vs:List V) (us:List Value) (Q:St->Hp->Prop),Inv X pins σ H s->Vals vs us->t vs σ H Q ->
  wpAny (model X.prog X.w) X.A (assignInOrder ((assignEach ts X.env).map (·.2)) us) (λ_ s'=>∃σ' H',Inv X pins σ' H' s'/\Q σ' H') X.xe s
abbrev LP:=V->V->V->Hp->(Hp->Prop)->Prop
def LQ(X:Cx)(t:LP):Prop :=
 ∀(pins:List (Addr×Obj)) (s:Shared) (σ:St) (H:Hp) (o i v:V) (ov iv u:Value) (Q:Hp->Prop),Inv X pins σ H s->RelV o ov->RelV i iv->RelV v u->t o i v H Q ->
  wpAny (model X.prog X.w) X.A (setItem ov iv u) (λ_ s'=>∃H',Inv X pins σ H' s'/\Q H') X.xe s
section
variable {X:Cx} {pos:Pos}
def pP(i:Nat):TG:=λv σ H Q=>Q (σ.set i (some v)) H
theorem qz{i:Nat}(hN:X.N.Nodup)(hi:X.N[i]?=some x)(hx:Loc X.env.scope x)(hf:X.fn x=true\/X.env.scope.names.lookup x=some .local):PG X (.Name x pos) (pP i):=by
 intro pins s σ H v u Q I r h;exact wpAny_assign_Name (xj I hN hi hx r (λs' I'=>⟨_,H,I',h⟩) hf)
def Qn:Pw:=λvs σ H Q=>vs=[]/\Q σ H
def KU(t:TG)(u:Pw):Pw:=λvs σ H Q=>∃v r,vs=v::r/\t v σ H λσ' H'=>u r σ' H' Q
theorem AB:Px X [] Qn:=by
 intro pins s σ H vs us Q I r h;obtain⟨e,h⟩:=h;subst e;cases r;exact assignInOrder_nil ⟨σ,H,I,h⟩
theorem xu(h1:PG X e t)(h2:Px X es u)
  (hs:(assignEach (e::es) X.env).map (·.2)=assign e X.env::(assignEach es X.env).map (·.2):=by rfl):Px X (e::es) (KU t u):=by
 intro pins s σ H vs us Q I r h;obtain⟨v,vr,e1,h⟩:=h;subst e1;cases r with
 |cons r rr=>rw[hs];refine assignInOrder_cons (cg (h1 pins s σ H _ _ _ I r h) λ_ s1 aO=>?_);obtain⟨σ1,H1,I1,q1⟩:=aO;exact h2 pins s1 σ1 H1 _ _ Q I1 rr q1
def Qo(K:Frag)(n:Nat)(t:Pw):TG:=λv σ H Q=>∃a xs,v=.ref a/\j8 K H a xs/\xs.length=n/\t xs σ H Q
theorem Dz{k:Nat}{n:Nat}(hc:X.calm=true)(h:Px X es t)
  (hn:(assignEach es X.env).length=n) (hst:(assignEach es X.env).findIdx? (·.1)=none):PG X (.Tuple es k pos) (Qo X.K n t):=by
 intro pins s σ H v u Q I r hw;obtain⟨a,xs,e1,hq,hl,hw⟩:=hw;subst e1;cases r;obtain⟨its,rv,ht,hz⟩:=I.tuple hq;refine assign_Tuple_tuple (I.ok.hd hc) ht (by simp[hn,<-hl,rv.length]) hst λh' hx=>?_;have I1:Inv X pins σ H { s with heap:=h' }:=I.kept (t':=s.toks) λb o e=>hx b o (aax (aal e)) e;exact h pins _ σ H xs _ Q I1 (by simpa using rv) hw
def Qp(to ti:TE)(t:LP):TG:=λv σ H Q=>to σ H λo H1=>ti σ H1 λi H2=>t o i v H2 λH3=>Q σ H3
theorem LR(ho:PE X o to)(hi:PE X i ti)(hs:LQ X t)
  (ha:∀v,assign (.Subscript o i pos) X.env v=(do
   let ov <-holding [v] (eval o X.env)
   let iv <-holding [v,ov] (eval i X.env)
   standAt pos
   holding [v,ov,iv] (setItem ov iv v)
   release [v,ov,iv] [])):PG X (.Subscript o i pos) (Qp to ti t):=by
 intro pins s σ H v u Q I r h;rw[ha];refine Z2 (wpAny_holding (cg (ho pins s σ H _ I h) λov s1 aO=>?_));obtain⟨x,H1,I1,r1,q1⟩:=aO;refine Z2 (wpAny_holding (cg (hi pins s1 σ H1 _ I1 q1) λiv s2 aO=>?_));obtain⟨y,H2,I2,r2,q2⟩:=aO;refine Z2 (wpAny_standAt (Z2 (wpAny_holding (cg (hs pins s2 σ H2 x y v ov iv u _ I2 r1 r2 r q2) λ_ s3 aO=>?_))));obtain⟨H3,I3,q3⟩:=aO;exact wpAny_release ⟨σ,H3,I3,q3⟩
def Il(te:TE)(g:TG):TS:=λD σ H=>te σ H λx H1=>g x σ H1 D.nx
theorem DA(he:PE X e te)(hg:PG X tg g)(hs:swapsWithSole [tg] e pos.line X.env=pure false)(hw:swappedStores [tg] e X.env=pure none)
  (h1:(assignEach [tg] X.env).map (·.2)=[assign tg X.env]):PS X (.Assign [tg] e pos) (Il te g):=by
 intro pins s σ H D I h;refine wpAny_Assign_stores (cg (he pins s σ H _ I h) λv s1 ⟨x,H1,I1,r1,q1⟩=>?_) hs hw;rw[h1];exact cg (hg pins s1 σ H1 x v _ I1 r1 q1) λ_ s2 q=>q
theorem DC{i:Nat}(hN:X.N.Nodup)(hi:X.N[i]?=some x)(hx:Loc X.env.scope x)(he:PE X e te)(hs:swapsWith e (some (.Name x pos')) pos.line X.env=pure false)(hf:X.fn x=true\/X.env.scope.names.lookup x=some .local) :
  PS X (.Assign [.Name x pos'] e pos) (Il te (pP i)):=by
 intro pins s σ H D I h;refine wpAny_Assign_Name (cg (he pins s σ H _ I h) λv s1 ⟨y,H1,I1,r1,q1⟩=>?_) hs;exact xj I1 hN hi hx r1 (λs2 I2=>⟨_,H1,I2,q1⟩) hf
end
section
variable {X:Cx} {pos:Pos}
def LS(c:TT)(tb:TS):TS:=λD σ H=>∃W:Nat->St->Hp->Prop,(∃m,W m σ H)/\∀m σ H,W m σ H ->
 c σ H λb H1=>if b=true then ∃N:St->Hp->Prop,(∀σ' H',N σ' H'->∃m',m'<m/\W m' σ' H')/\tb { D with nx:=N,ct:=N,bk:=D.nx } σ H1 else D.nx σ H1
theorem DE(hp:PassesOwn (model X.prog X.w) X.A X.env X.xe)(hc:PT X c tc)(hb:zq X body tb):PS X (.While c body [] pos) (LS tc tb):=by
 intro pins s σ H D I h;obtain⟨W,⟨m0,w0⟩,turn⟩:=h;refine wpAny_While (codeAny_whileLoop (λn s'=>∃σ' H',Inv X pins σ' H' s'/\W n σ' H') ?_ m0 ⟨σ,H,I,w0⟩);rintro n s1 ⟨σ1,H1,I1,w1⟩;refine wpAny_passesOwn hp (cg (hc pins s1 σ1 H1 _ I1 (turn n σ1 H1 w1)) λb s2 aO=>?_);obtain⟨H2,I2,q2⟩:=aO;cases b with
 |true=>
  obtain⟨N,hN,q2⟩:=q2;rw[aab rfl];refine wpAny_passesOwn hp (cg (hb pins s2 σ1 H2 _ I2 q2) λf s3 q3=>?_);cases f with
  |next=>obtain⟨σ3,H3,I3,n3⟩:=q3;obtain⟨m',hm,w3⟩:=hN σ3 H3 n3;exact⟨m',hm,σ3,H3,I3,w3⟩
  |cont=>obtain⟨σ3,H3,I3,n3⟩:=q3;obtain⟨m',hm,w3⟩:=hN σ3 H3 n3;exact⟨m',hm,σ3,H3,I3,w3⟩
  |brk=>exact q3
  |ret v=>exact q3
 |false=>rw[aad Z3];exact wpAny_execs_nil ⟨σ1,H2,I2,q2⟩
end
structure It where
 go:Nat->Hp->Prop
 zA:Nat->Hp->V->Hp->Prop
 stop:Nat->Hp->Prop
def ql(X:Cx)(pins:List (Addr×Obj))(H:Hp)(b:Addr):Prop :=
 H b=none/\b≠X.env.locals/\b∉X.fs/\(b∈X.ex\/X.s₀.heap.objs.size<=b)/\(∀x c,X.env.cells.lookup x=some c->c≠b)/\∀p∈X.pn++pins,p.1≠b
theorem Inv.DF(I:Inv X pins σ H s)(hb:s.heap.objs.size<=b)(hn:H' b=none):ql X pins H' b:=by
 refine⟨hn,ne_of_gt (aan I.lt hb),I.Ub hb,.inr (aaD I.sz hb),λx c e z=>?_,λp hp z=>?_⟩
 ·obtain⟨v,q⟩:=I.cell x c e;exact absurd (aan q.lt (by rw[z];exact hb)) (aaX _)
 ·exact absurd (aan (aal (I.pin p hp).1) (by rw[z];exact hb)) (aaX _)
structure Turn (P:Program) (w:World) (K:Frag) (tg:Expr) (J:It) (fp:List Addr) (it:Addr) (tn:Nat->Heap->Prop):Prop where
 mem:it∈fp
 obj:∀i h,tn i h->∀b∈fp,∃o,h.get? b=some o/\∀v,o.data≠.cell v
 keep:∀i h h',tn i h->(∀b∈fp,∀o,h.get? b=some o->h'.get? b=some o)->tn i h'
 item:∀(X:Cx),X.prog=P->X.w=w->X.K=K->X.calm=true->∀(i:Nat) (pins:List (Addr×Obj)) (s:Shared) (σ:St) (H:Hp) (E:Value->Shared->Prop),Inv X pins σ H s->(∀b∈fp,ql X pins H b)->tn i s.heap->J.go i H ->
  wpAny (model P w) X.A (pyNext (.ref it)) (λr s1=>∃u,r=some u /\
   wpAny (model P w) X.A (letOwnedTupleGo tg (.ref it) u) (λ_ s2=>∃x H',Inv X pins σ H' s2/\RelV x u/\J.zA i H x H'/\tn (i+1) s2.heap/\∀b∈fp,H' b=none) E s1) E s
 done:∀(X:Cx),X.prog=P->X.w=w->X.K=K->X.calm=true->∀(i:Nat) (pins:List (Addr×Obj)) (s:Shared) (σ:St) (H:Hp) (E:Value->Shared->Prop),Inv X pins σ H s->(∀b∈fp,ql X pins H b)->tn i s.heap->J.stop i H ->
  wpAny (model P w) X.A (pyNext (.ref it)) (λr s1=>r=none/\Inv X pins σ H s1) E s
 self:∀(A:Around) (i:Nat) (s:Shared) (Q:Value->Shared->Prop) (E:Value->Shared->Prop),tn i s.heap->Q (.ref it) s->wpAny (model P w) A (pyIter (.ref it)) Q E s
abbrev TI:=St->Hp->(It->Hp->Prop)->Prop
def VW(X:Cx)(pins:List (Addr×Obj))(σ:St)(tg:Expr)(R:It->Hp->Prop)(itv:Value)(s2:Shared):Prop :=
 ∃(it:Addr) (fp:List Addr) (tn:Nat->Heap->Prop) (J:It) (H':Hp),itv=.ref it/\Inv X pins σ H' s2/\Turn X.prog X.w X.K tg J fp it tn/\tn 0 s2.heap/\(∀b∈fp,ql X pins H' b)/\R J H'
def PI(X:Cx)(tg iter:Expr)(wi:TI):Prop :=
 ∀(pins:List (Addr×Obj)) (s:Shared) (σ:St) (H:Hp) (R:It->Hp->Prop),Inv X pins σ H s->wi σ H R ->
  wpAny (model X.prog X.w) X.A (eval iter X.env) (λv s1=>wpAny (model X.prog X.w) X.A (pyIter v) (VW X pins σ tg R) X.xe s1) X.xe s
theorem AD{n:String}(ho:s.heap.get? it=some o)(hc:o.cls=.type n)(hd:o.data=.fields vs)
  (hn:["enumerate","zip","dict_itemiterator","dict_reverseitemiterator","odict_iterator","itertools.zip_longest","itertools.pairwise"].contains n=false) (hQ:Q () s):wpAny M A (letOwnedTupleGo tg (.ref it) u) Q E s:=by
 unfold letOwnedTupleGo;cases tg<;>first
  |exact aac hQ
  | (cases u<;>first
    |exact aac hQ
    | (refine Z2 (wpAny_load ho ?_)
       rw[hc,hd];show wpAny M A (if (["enumerate","zip","dict_itemiterator","dict_reverseitemiterator","odict_iterator","itertools.zip_longest","itertools.pairwise"].contains n&&vs[0]?==some (rawInt _))=true then _ else _) Q E s;rw[aad (by intro h;rw[hn,Bool.false_and]at h;cases h)];exact aac hQ))
def Tq(K:Frag)(a:Addr):It :=
 ⟨λi H=>∃xs x,gF K H a xs/\xs[i]?=some x,λi H x H'=>H'=H/\∀xs,gF K H a xs->xs[i]?=some x,λi H=>∃xs,gF K H a xs/\xs.length<=i⟩
def Ul(K:Frag)(a:Addr):It :=
 ⟨λi H=>∃xs x,j8 K H a xs/\xs[i]?=some x,λi H x H'=>H'=H/\∀xs,j8 K H a xs->xs[i]?=some x,λi H=>∃xs,j8 K H a xs/\xs.length<=i⟩
def Qq(lo:Int)(n:Nat):It:=⟨λi _=>i<n,λi H x H'=>H'=H/\x=.int (lo+i),λi _=>n<=i⟩
theorem Ca{P:Program}{w:World}{K:Frag}{tg:Expr}(a it:Addr):Turn P w K tg (Tq K a) [it] it (λi h=>h.IsListIter it a i) where
 mem:=by simp
 obj:=λi h st b hb=>by
  have e:b=it:=by simpa using hb
  subst e;obtain⟨o,e,c,d⟩:=st;exact⟨o,e,λv z=>by rw[d]at z;cases z⟩
 keep:=λi h h' st k=>st.at λo e=>k it (by simp) o e
 item:=by intro X hP hw hK hc i pins s σ H E I hf st hg;subst hP hw hK;obtain⟨xs,x,hq,hx⟩:=hg;obtain⟨its,rv,p,hz⟩:=I.list hq;obtain⟨u,hu,ru⟩:=rv.get hx;obtain⟨f0,f1,f2,f3,f4,f5⟩:=hf it (by simp);refine wpAny_pyNext_list_item st p.isList (x:=u) (by simpa using hu) λh' st' sb=>?_;have I1:Inv X pins σ H { s with heap:=h' }:=I.turned (t':=s.toks) (λb o hb e=>(sb.2 b hb).trans e) f0 f1 f3 f4 f5;obtain⟨o,e,c,d⟩:=id st';exact⟨u,rfl,AD (s:={ s with heap:=h' }) e c d (by decide) ⟨x,H,I1,ru,⟨rfl,λys hy=>by rw[I.xm hy hq];exact hx⟩,st',λb hb=>(hf b hb).1⟩⟩
 done:=by intro X hP hw hK hc i pins s σ H E I hf st hg;subst hP hw hK;obtain⟨xs,hq,hx⟩:=hg;obtain⟨its,rv,p,hz⟩:=I.list hq;obtain⟨f0,f1,f2,f3,f4,f5⟩:=hf it (by simp);have hl:=rv.length;exact wpAny_pyNext_list_end (I.ok.hd hc) st p.isList (by simp;omega) λh' eb=>⟨rfl,I.turned (t':=s.toks) (λb o hb e=>eb b o hb e) f0 f1 f3 f4 f5⟩
 self:=λ_ _ _ _ _ st h=>wpAny_pyIter_listiter st h
theorem zB{P:Program}{w:World}{K:Frag}{tg:Expr}(a it:Addr):Turn P w K tg (Ul K a) [it] it (λi h=>h.IsTupleIter it a i) where
 mem:=by simp
 obj:=λi h st b hb=>by
  have e:b=it:=by simpa using hb
  subst e;obtain⟨o,e,c,d⟩:=st;exact⟨o,e,λv z=>by rw[d]at z;cases z⟩
 keep:=λi h h' st k=>st.at λo e=>k it (by simp) o e
 item:=by intro X hP hw hK hc i pins s σ H E I hf st hg;subst hP hw hK;obtain⟨xs,x,hq,hx⟩:=hg;obtain⟨its,rv,p,hz⟩:=I.tuple hq;obtain⟨u,hu,ru⟩:=rv.get hx;obtain⟨f0,f1,f2,f3,f4,f5⟩:=hf it (by simp);refine wpAny_pyNext_tuple_item st (show s.heap.IsTuple a its.toArray from p) (x:=u) (by simpa using hu) λh' st' sb=>?_;have I1:Inv X pins σ H { s with heap:=h' }:=I.turned (t':=s.toks) (λb o hb e=>(sb.2 b hb).trans e) f0 f1 f3 f4 f5;obtain⟨o,e,c,d⟩:=id st';exact⟨u,rfl,AD (s:={ s with heap:=h' }) e c d (by decide) ⟨x,H,I1,ru,⟨rfl,λys hy=>by rw[I.B9 hy hq];exact hx⟩,st',λb hb=>(hf b hb).1⟩⟩
 done:=by intro X hP hw hK hc i pins s σ H E I hf st hg;subst hP hw hK;obtain⟨xs,hq,hx⟩:=hg;obtain⟨its,rv,p,hz⟩:=I.tuple hq;obtain⟨f0,f1,f2,f3,f4,f5⟩:=hf it (by simp);have hl:=rv.length;exact wpAny_pyNext_tuple_end (I.ok.hd hc) st (show s.heap.IsTuple a its.toArray from p) (by simp;omega) λh' eb=>⟨rfl,I.turned (t':=s.toks) (λb o hb e=>eb b o hb e) f0 f1 f3 f4 f5⟩
 self:=λ_ _ _ _ _ st h=>wpAny_pyIter_tupleiter st h
theorem zC{P:Program}{w:World}{K:Frag}{tg:Expr}(it:Addr)(lo:Int)(n:Nat):Turn P w K tg (Qq lo n) [it] it (λi h=>IsRangeIter h it (lo+(i:Nat)*1) ((n:Int)-(i:Nat)) 1) where
 mem:=by simp
 obj:=λi h st b hb=>by
  have e:b=it:=by simpa using hb
  subst e;exact⟨_,st,λv z=>by
   have z':Data.fields _=Data.cell v:=z;cases z'⟩
 keep:=λi h h' st k=>k it (by simp) _ st
 item:=by intro X hP hw hK hc i pins s σ H E I hf st hg;subst hP hw hK;obtain⟨f0,f1,f2,f3,f4,f5⟩:=hf it (by simp);have W:=Walks.range (prog:=X.prog) (w:=X.w) (I.ok.hd hc) it lo 1 n;refine W.item i s _ _ hg st λv h' tk hv st' kk=>?_;obtain⟨t,rfl⟩:=hv;have I1:Inv X pins σ H { s with heap:=h',toks:=tk }:=I.turned (λb o hb e=>kk b o (by simpa using hb) e) f0 f1 f3 f4 f5;refine⟨_,rfl,AD (s:={ s with heap:=h',toks:=tk }) (n:="range_iterator") st' rfl rfl (by decide) ⟨.int (lo+i),H,I1,⟨t,?_⟩,⟨rfl,rfl⟩,st',λb hb=>(hf b hb).1⟩⟩;rw[Int.mul_one]
 done:=by intro X hP hw hK hc i pins s σ H E I hf st hg;subst hP hw hK;obtain⟨f0,f1,f2,f3,f4,f5⟩:=hf it (by simp);exact wpAny_pyNext_range_end (I.ok.hd hc) st (by have:n<=i:=hg;omega) λh' eb=>⟨rfl,I.turned (t':=s.toks) (λb o hb e=>eb b o hb e) f0 f1 f3 f4 f5⟩
 self:=λ_ _ _ _ _ st h=>wpAny_pyIter_rangeiter st h
section
variable {X:Cx} {tg:Expr}
def Qs(K:Frag)(tl:TE):TI:=λσ H R=>tl σ H λx H1=>∃a,x=.ref a/\(∃xs,gF K H1 a xs)/\R (Tq K a) H1
def Um(K:Frag)(tl:TE):TI:=λσ H R=>tl σ H λx H1=>∃a,x=.ref a/\(∃xs,j8 K H1 a xs)/\R (Ul K a) H1
theorem Im(hl:PE X l tl):PI X tg l (Qs X.K tl):=by
 intro pins s σ H R I h;refine cg (hl pins s σ H _ I h) λv s1 aO=>?_;obtain⟨x,H1,I1,r1,q1⟩:=aO;obtain⟨a,e,⟨xs,hq⟩,q⟩:=q1;subst e;cases r1;obtain⟨its,rv,p,hz⟩:=I1.list hq;refine wpAny_pyIter_list p.isList ?_;refine⟨s1.heap.objs.size,[s1.heap.objs.size],_,_,H1,rfl,I1.kept (t':=s1.toks) λb o e=>Z7 _ e,Ca a _,⟨_,aao _ rfl,rfl,rfl⟩,λb hb=>?_,q⟩;have e:b=s1.heap.objs.size:=by simpa using hb
 subst e;exact I1.DF (aae _) (I1.hok.fresh (aae _))
theorem LU(hl:PE X l tl):PI X tg l (Um X.K tl):=by
 intro pins s σ H R I h;refine cg (hl pins s σ H _ I h) λv s1 aO=>?_;obtain⟨x,H1,I1,r1,q1⟩:=aO;obtain⟨a,e,⟨xs,hq⟩,q⟩:=q1;subst e;cases r1;obtain⟨its,rv,p,hz⟩:=I1.tuple hq;refine wpAny_pyIter_tuple (show s1.heap.IsTuple a its.toArray from p) ?_;refine⟨s1.heap.objs.size,[s1.heap.objs.size],_,_,H1,rfl,I1.kept (t':=s1.toks) λb o e=>Z7 _ e,zB a _,⟨_,aao _ rfl,rfl,rfl⟩,λb hb=>?_,q⟩;have e:b=s1.heap.objs.size:=by simpa using hb
 subst e;exact I1.DF (aae _) (I1.hok.fresh (aae _))
theorem xw{lo hi:Int}{tk:Nat}(I:Inv X pins σ H s)(h1:-(2 ^ 62)<=lo)(h2:lo<2 ^ 62)(h3:-(2 ^ 62)<=hi)(h4:hi<2 ^ 62)
  (q:R (Qq lo (hi-lo).toNat) H):wpAny (model X.prog X.w) X.A (pyIter (.ref s.heap.objs.size)) (VW X pins σ tg R) E { s with heap:=s.heap.push { cls:=.type "range",data:=.fields [.int lo t,.int hi u,.int 1 v].toArray },toks:=tk }:=by
 refine wpAny_pyIter_range (IsRange.new ..) (small_one h1 h2 h3 h4) ?_;have I1:Inv X pins σ H { s with heap:=s.heap.push { cls:=.type "range",data:=.fields [.int lo t,.int hi u,.int 1 v].toArray },toks:=tk }:=I.kept λb o e=>Z7 _ e;refine⟨(s.heap.push { cls:=.type "range",data:=.fields [.int lo t,.int hi u,.int 1 v].toArray }).objs.size,[(s.heap.push { cls:=.type "range",data:=.fields [.int lo t,.int hi u,.int 1 v].toArray }).objs.size],_,_,H,rfl,
  I1.kept (t':=tk) λb o e=>Z7 _ e,zC _ lo (hi-lo).toNat,?_,λb hb=>?_,q⟩
 ·have e1:lo+((0:Nat):Int)*1=lo:=by simp
  have e2:(((hi-lo).toNat:Nat):Int)-((0:Nat):Int)=Builtin.Range.rangeSize lo hi 1:=by rw[rangeSize_one];split<;>omega
  show IsRangeIter _ _ (lo+((0:Nat):Int)*1) ((((hi-lo).toNat:Nat):Int)-((0:Nat):Int)) 1;rw[e1,e2];exact aao _ rfl
 ·have e:b=(s.heap.push { cls:=.type "range",data:=.fields [.int lo t,.int hi u,.int 1 v].toArray }).objs.size:=by simpa using hb
  subst e;exact I1.DF (aae _) (I1.hok.fresh (aae _))
def Qt(ta:TA):TI:=λσ H R=>ta σ H λvs H1=>∃j:Int,vs=[.int j] /\ -(2 ^ 62)<=j/\j<2 ^ 62/\R (Qq 0 j.toNat) H1
def Qu(ta:TA):TI:=λσ H R=>ta σ H λvs H1=>∃i j:Int,vs=[.int i,.int j]/\(-(2 ^ 62)<=i/\i<2 ^ 62 /\ -(2 ^ 62)<=j/\j<2 ^ 62)/\R (Qq i (j-i).toNat) H1
theorem Cb(hg:Gl X "range")(hm:X.mg "range" = none)(ha:PA X [a] ta)(hs:starEach [a] X.env=[(false,eval a X.env)]):PI X tg (.Call (.Name "range" p) [a] [] pos) (Qt ta):=by
 intro pins s σ H R I h;refine Call_ (gg I hg hm boot_range (aaS (cg (ha pos pins s σ H _ I h) λus s1 aO=>?_) hs rfl));obtain⟨vs,H1,I1,r1,q1⟩:=aO;obtain⟨j,e,q1,q2,q⟩:=q1;subst e;cases r1 with
 |cons r rr=>cases rr;obtain⟨t,rfl⟩:=r;exact call_range_1 (xw I1 (by omega) (by omega) q1 q2 (by simpa using q))
theorem Cc(hg:Gl X "range")(hm:X.mg "range" = none)(ha:PA X [a,b] ta)(hs:starEach [a,b] X.env=[(false,eval a X.env),(false,eval b X.env)])(hs2:starEach [b] X.env=[(false,eval b X.env)]) :
  PI X tg (.Call (.Name "range" p) [a,b] [] pos) (Qu ta):=by
 intro pins s σ H R I h;refine Call_ (gg I hg hm boot_range (aaS (cg (ha pos pins s σ H _ I h) λus s1 ⟨vs,H1,I1,r1,q1⟩=>?_) (by rw[hs,hs2]) (by rw[hs2];rfl)));obtain⟨i,j,e,⟨q1,q2,q3,q4⟩,q⟩:=q1;subst e;cases r1 with
 |cons r rr=>
  cases rr with
  |cons r' rr=>cases rr;obtain⟨t,rfl⟩:=r;obtain⟨t',rfl⟩:=r';exact call_range_2 (xw I1 q1 q2 q3 q4 q)
def Uo(wi:TI)(g:TG)(tb:TS):TS:=λD σ H=>wi σ H λJ H1=>∃W:Nat->Nat->St->Hp->Prop,(∃m,W 0 m σ H1)/\∀i m σ H,W i m σ H ->
 (J.stop i H/\D.nx σ H)\/(J.go i H/\∃N:St->Hp->Prop,(∀σ' H',N σ' H'->∃m',m'<m/\W (i+1) m' σ' H')/\∀x H',J.zA i H x H'->g x σ H' λσ2 H2=>tb { D with nx:=N,ct:=N,bk:=D.nx } σ2 H2)
def qQ(fp:List Addr)(h:Heap):List (Addr×Obj):=fp.filterMap λb=>(h.get? b).map λo=>(b,o)
theorem jx(hb:b∈fp)(e:h.get? b=some o):(b,o)∈qQ fp h:=List.mem_filterMap.mpr ⟨b,hb,by rw[e];rfl⟩
theorem Cd(hp:p∈qQ fp h):p.1∈fp/\h.get? p.1=some p.2:=by
 obtain⟨b,hb,e⟩:=List.mem_filterMap.mp hp;cases q:h.get? b with
 |none=>rw[q]at e;cases e
 |some o=>rw[q]at e;have e':(b,o)=p:=aav e;subst e';exact⟨hb,q⟩
theorem Inv.pinned(I:Inv X pins σ H s)(hf:∀b∈fp,ql X pins H b)(ho:∀b∈fp,∃o,s.heap.get? b=some o/\∀v,o.data≠.cell v):Inv X (pins++qQ fp s.heap) σ H s :=
 I.AA λp hp=>(aat.mp hp).elim (λz=>I.pin p (aaA _ z)) λz=>by
  obtain⟨hb,e⟩:=Cd z;obtain⟨f0,f1,f2,_⟩:=hf p.1 hb;obtain⟨o,e',d⟩:=ho p.1 hb;rw[e]at e';cases e';exact⟨e,f0,f1,f2,d⟩
theorem Inv.mT(I:Inv X (pins++pl) σ H s):Inv X pins σ H s:=I.AA λp hp=>I.pin p (aaA _ (aas _ hp))
theorem LV(hp:PassesOwn (model X.prog X.w) X.A X.env X.xe)(hc:X.calm=true)(hi:PI X tg iter wi)(hg:PG X tg g)(hb:zq X body tb)
  (hs:∀x,foldedSetIterable iter X.env x=pure x):PS X (.For tg iter body [] pos) (Uo wi g tb):=by
 intro pins s σ H D I h;refine wpAny_For (cg (hi pins s σ H _ I h) λv s1 h1=>cg h1 λitv s2 h2=>?_) hs;obtain⟨it,fp,tn,J,H2,e,I2,T,st2,f2,W,⟨m0,w0⟩,turn⟩:=h2;subst e;have stat:∀{H':Hp},(∀b∈fp,H' b=none)->∀b∈fp,ql X pins H' b:=λhn b hb=>⟨hn b hb,(f2 b hb).2⟩;refine codeAny_forLoop_any (λn s'=>∃i σ' H',Inv X pins σ' H' s'/\tn i s'.heap/\(∀b∈fp,H' b=none)/\W i n σ' H') ?_ m0 ⟨0,σ,H2,I2,st2,λb hb=>(f2 b hb).1,w0⟩;rintro n s3 ⟨i,σ3,H3,I3,st3,VX,w3⟩
 rcases turn i n σ3 H3 w3 with ⟨stop,qn⟩|⟨go,N,hN,step⟩
 ·refine wpAny_passesOwn hp (cg (T.done X rfl rfl rfl hc i pins s3 σ3 H3 X.xe I3 (stat VX) st3 stop) λr s4 aO=>?_);obtain⟨hr,I4⟩:=aO;subst hr;exact wpAny_execs_nil ⟨σ3,H3,I4,qn⟩
 ·refine wpAny_passesOwn hp (cg (T.item X rfl rfl rfl hc i pins s3 σ3 H3 X.xe I3 (stat VX) st3 go) λr s4 aO=>?_)
  obtain⟨u,hr,h4⟩:=aO;subst hr;refine wpAny_passesOwn hp (cg h4 λ_ s5 aO=>?_);obtain⟨x,H5,I5,r5,y5,Py,Tr⟩:=aO;have Xn:=I5.pinned (stat Tr) (T.obj _ _ Py);refine wpAny_passesOwn hp (cg (hg _ s5 σ3 H5 x u _ Xn r5 (step x H5 y5)) λ_ s6 aO=>?_);obtain⟨σ6,H6,I6,q6⟩:=aO;refine wpAny_passesOwn hp (cg (hb _ s6 σ6 H6 _ I6 q6) λf s7 q7=>?_);have again:∀{σ7:St} {H7:Hp},Inv X (pins++qQ fp s5.heap) σ7 H7 s7->N σ7 H7->∃m,m<n/\∃i σ' H',Inv X pins σ' H' s7/\tn i s7.heap/\(∀b∈fp,H' b=none)/\W i m σ' H':=λ{σ7 H7} I7 n7=>by
   obtain⟨m',hm,w7⟩:=hN σ7 H7 n7;refine⟨m',hm,i+1,σ7,H7,I7.mT,T.keep _ _ _ Py λb hb o e=>(I7.pin (b,o) (aaA _ (aaA _ (jx hb e)))).1,λb hb=>?_,w7⟩;obtain⟨o,e,d⟩:=T.obj _ _ Py b hb;exact(I7.pin (b,o) (aaA _ (aaA _ (jx hb e)))).2.1
  cases f with
  |next=>obtain⟨σ7,H7,I7,n7⟩:=q7;exact again I7 n7
  |cont=>obtain⟨σ7,H7,I7,n7⟩:=q7;exact again I7 n7
  |brk=>obtain⟨σ7,H7,I7,q7⟩:=q7;exact⟨σ7,H7,I7.mT,q7⟩
  |ret v=>obtain⟨x7,σ7,H7,I7,r7,q7⟩:=q7;exact⟨x7,σ7,H7,I7.mT,r7,q7⟩
end
abbrev R2:=V->V->Hp->VK->Prop
def l0(X:Cx)(f:Value->Value->Sem Value)(r:R2):Prop :=
 ∀(pins:List (Addr×Obj)) (s:Shared) (σ:St) (H:Hp) (x y:V) (v u:Value) (Q:VK),Inv X pins σ H s->RelV x v->RelV y u->r x y H Q ->
  wpAny (model X.prog X.w) X.A (f v u) (EP X pins σ Q) X.xe s
def Tt(X:Cx)(f:Value->Sem Value)(r:V->Hp->VK->Prop):Prop :=
 ∀(pins:List (Addr×Obj)) (s:Shared) (σ:St) (H:Hp) (x:V) (v:Value) (Q:VK),Inv X pins σ H s->RelV x v->r x H Q ->
  wpAny (model X.prog X.w) X.A (f v) (EP X pins σ Q) X.xe s
def dm(X:Cx)(f:Value)(r:List V->Hp->VK->Prop):Prop :=
 ∀(pins:List (Addr×Obj)) (s:Shared) (σ:St) (H:Hp) (xs:List V) (us:List Value) (Q:VK),Inv X pins σ H s->Vals xs us->r xs H Q ->
  wpAny (model X.prog X.w) X.A (call f us) (EP X pins σ Q) X.xe s
def Uq(X:Cx)(r:V->Hp->(Bool->Hp->Prop)->Prop):Prop :=
 ∀(pins:List (Addr×Obj)) (s:Shared) (σ:St) (H:Hp) (x:V) (v:Value) (Q:Bool->Hp->Prop),Inv X pins σ H s->RelV x v->r x H Q ->
  wpAny (model X.prog X.w) X.A (truthy v) (TP X pins σ Q) X.xe s
def Pz(r:R2)(ta tb:TE):TE:=λσ H Q=>ta σ H λx H1=>tb σ H1 λy H2=>r x y H2 Q
def Xo(r:V->Hp->VK->Prop)(ta:TE):TE:=λσ H Q=>ta σ H λx H1=>r x H1 Q
def rI(C:Int->Int->Prop)(g:Int->Int->V):R2:=λx y H Q=>∃i j,x=.int i/\y=.int j/\C i j/\Q (g i j) H
def KW(g:Int->Int->V):R2:=λx y H Q=>∃i j,x=.int i/\y=.int j/\Q (g i j) H
def rU(g:Int->V):V->Hp->VK->Prop:=λx H Q=>∃i,x=.int i/\Q (g i) H
section
variable {X:Cx} {a b c:Expr} {ta tb tc:TE} {pos:Pos}
theorem LW(ha:PE X a ta)(hb:PE X b tb){pins:List (Addr×Obj)}{s:Shared}{σ:St}{H:Hp}{R:V->V->Hp->Prop}(I:Inv X pins σ H s)
  (h:ta σ H λx H1=>tb σ H1 λy H2=>R x y H2) {Q:Value->Shared->Prop} {f:Value->Value->Sem Value}
  (hf:∀v u s2 x y H2,Inv X pins σ H2 s2->RelV x v->RelV y u->R x y H2->wpAny (model X.prog X.w) X.A (f v u) Q X.xe s2) :
  wpAny (model X.prog X.w) X.A (eval a X.env) (λv s₁=>wpAny (model X.prog X.w) X.A (eval b X.env) (λu s₂=>wpAny (model X.prog X.w) X.A (f v u) Q X.xe s₂) X.xe s₁) X.xe s:=by
 refine cg (ha pins s σ H _ I h) λv s1 aO=>?_;obtain⟨x,H1,I1,r1,q1⟩:=aO;refine cg (hb pins s1 σ H1 _ I1 q1) λu s2 aO=>?_;obtain⟨y,H2,I2,r2,q2⟩:=aO;exact hf v u s2 x y H2 I2 r1 r2 q2
theorem Qv(ho:l0 X (binaryOp op) r)(ha:PE X a ta)(hb:PE X b tb):PE X (.BinOp a op b pos) (Pz r ta tb):=by
 intro pins s σ H Q I h;exact wpAny_BinOp (LW ha hb I h λv u s2 x y H2 I2 rx ry q=>ho pins s2 σ H2 x y v u Q I2 rx ry q)
theorem Qw(ho:Tt X (unaryOp op) r)(ha:PE X a ta):PE X (.UnaryOp op a pos) (Xo r ta):=by
 intro pins s σ H Q I h;exact UnaryOp_ (cg (ha pins s σ H _ I h) λv s1 ⟨x,H1,I1,r1,q1⟩=>ho pins s1 σ H1 x v Q I1 r1 q1)
theorem Tu{f:Value->Value->Sem Value}{C:Int->Int->Prop}{g:Int->Int->Int}
  (rule:∀(i j:Int) (t u:Tok) (s:Shared) (Q:Value->Shared->Prop) (E:Value->Shared->Prop),C i j->Q (.int (g i j) s.toks) { s with toks:=s.toks+1 }->wpAny (model X.prog X.w) X.A (f (.int i t) (.int j u)) Q E s) :
  l0 X f (rI C λi j=>.int (g i j)):=by
 intro pins s σ H x y v u Q I rx ry h;obtain⟨i,j,rfl,rfl,hc,q⟩:=h;obtain⟨t,rfl⟩:=rx;obtain⟨t',rfl⟩:=ry;exact rule i j t t' s _ _ hc ⟨.int (g i j),H,I.tok _,⟨_,rfl⟩,q⟩
theorem Qx{f:Value->Value->Sem Value}{g:Int->Int->Int}
  (rule:∀(i j:Int) (t u:Tok) (s:Shared) (Q:Value->Shared->Prop) (E:Value->Shared->Prop),Q (.int (g i j) s.toks) { s with toks:=s.toks+1 }->wpAny (model X.prog X.w) X.A (f (.int i t) (.int j u)) Q E s) :
  l0 X f (KW λi j=>.int (g i j)):=by
 intro pins s σ H x y v u Q I rx ry h;obtain⟨i,j,rfl,rfl,q⟩:=h;obtain⟨t,rfl⟩:=rx;obtain⟨t',rfl⟩:=ry;exact rule i j t t' s _ _ ⟨.int (g i j),H,I.tok _,⟨_,rfl⟩,q⟩
theorem Io{f:Value->Value->Sem Value}{g:Int->Int->Bool}
  (rule:∀(i j:Int) (t u:Tok) (s:Shared) (Q:Value->Shared->Prop) (E:Value->Shared->Prop),Q (.bool (g i j)) s->wpAny (model X.prog X.w) X.A (f (.int i t) (.int j u)) Q E s) :
  l0 X f (KW λi j=>.bl (g i j)):=by
 intro pins s σ H x y v u Q I rx ry h;obtain⟨i,j,rfl,rfl,q⟩:=h;obtain⟨t,rfl⟩:=rx;obtain⟨t',rfl⟩:=ry;exact rule i j t t' s _ _ ⟨.bl (g i j),H,I,rfl,q⟩
def Ur(i j:Int):Prop:=0<=j/\j<=1000000/\i.natAbs<2 ^ 64
def LX(i j:Int):Prop:=(-(2 ^ 64)<i/\i<2 ^ 64)\/(-(2 ^ 64)<j/\j<2 ^ 64)
theorem LX.ok{i j:Int}(h:LX i j):IntMulOk i j:=by
 rcases h with ⟨h1,h2⟩|⟨h1,h2⟩
 ·exact .of_left (intBits_le_64 h1 h2)
 ·exact .of_right (intBits_le_64 h1 h2)
theorem LY:l0 X (binaryOp .Add) (KW λi j=>.int (i+j)):=Qx λ_ _ _ _ _ _ _ q=>add_int q
theorem LZ:l0 X (binaryOp .Sub) (KW λi j=>.int (i-j)):=Qx λ_ _ _ _ _ _ _ q=>sub_int q
theorem L0:l0 X (binaryOp .Mult) (rI LX λi j=>.int (i*j)):=Tu λ_ _ _ _ _ _ _ hc q=>mul_int q hc.ok
theorem L1:l0 X (binaryOp .Mod) (rI (λ_ j=>0<j) λi j=>.int (i%j)):=Tu λi j _ _ _ _ _ hc q=>by
 have h1:(0:Int)<j:=hc;exact mod_int' (by omega) (by rw[Int.fmod_eq_emod_of_nonneg i (by omega)];exact q)
theorem L3:l0 X (binaryOp .Pow) (rI Ur λi j=>.int (i ^ j.toNat)):=Tu λ_ _ _ _ _ _ _ hc q=>pow_int_small hc.1 hc.2.1 hc.2.2 q
theorem Xp{f:Value->Sem Value}{g:Int->Int}
  (rule:∀(i:Int) (t:Tok) (s:Shared) (Q:Value->Shared->Prop) (E:Value->Shared->Prop),Q (.int (g i) s.toks) { s with toks:=s.toks+1 }->wpAny (model X.prog X.w) X.A (f (.int i t)) Q E s) :
  Tt X f (rU λi=>.int (g i)):=by
 intro pins s σ H x v Q I rx h;obtain⟨i,rfl,q⟩:=h;obtain⟨t,rfl⟩:=rx;exact rule i t s _ _ ⟨.int (g i),H,I.tok _,⟨_,rfl⟩,q⟩
theorem DG:Tt X (unaryOp .USub) (rU λi=>.int (-i)):=Xp λ_ _ _ _ _ q=>neg_int q
end
section
variable {X:Cx} {a b c:Expr} {ta tb tc:TE} {pos:Pos}
theorem om{k k':Bool}(I:Inv X pins σ H s)(q:Q (.bl k) H)(e:k=k'):EP X pins σ Q (.bool k') s:=by
 subst e;exact⟨.bl k,H,I,rfl,q⟩
theorem Qy:l0 X (compareOp .Lt) (KW λi j=>.bl (decide (i<j))):=Io λ_ _ _ _ _ _ _ q=>lt_int q
theorem Qz:l0 X (compareOp .LtE) (KW λi j=>.bl (decide (i<=j))):=Io λ_ _ _ _ _ _ _ q=>le_int q
theorem QA:l0 X (compareOp .Gt) (KW λi j=>.bl (decide (j<i))):=Io λ_ _ _ _ _ _ _ q=>gt_int q
theorem QB:l0 X (compareOp .GtE) (KW λi j=>.bl (decide (j<=i))):=Io λ_ _ _ _ _ _ _ q=>ge_int q
theorem Ce:l0 X (compareOp .In) (λx y H Q=>∃i j,x=.str i/\y=.str j/\Q (.bl (!(Builtin.Str.occurrences j i 0 j.length 1).isEmpty)) H):=by
 intro pins s σ H x y v u Q I rx ry h;obtain⟨i,j,rfl,rfl,q⟩:=h;obtain⟨t,rfl⟩:=rx;obtain⟨t',rfl⟩:=ry;exact in_str (om I q rfl)
theorem L4:l0 X (compareOp .Is) (λx y H Q=>y=.non/\Q (.bl (decide (x=.non))) H):=by
 intro pins s σ H x y v u Q I rx ry h;obtain⟨rfl,q⟩:=h;cases ry;refine is_none_gen (om I q ?_);cases x<;>first
  |(cases rx;rfl)
  |(obtain⟨t,rfl⟩:=rx;rfl)
theorem Ip:l0 X (compareOp .IsNot) (λx y H Q=>y=.non/\Q (.bl (!decide (x=.non))) H):=by
 intro pins s σ H x y v u Q I rx ry h;obtain⟨rfl,q⟩:=h;cases ry;refine isnot_none_gen (om I q ?_);cases x<;>first
  |(cases rx;rfl)
  |(obtain⟨t,rfl⟩:=rx;rfl)
theorem vj:l0 X (compareOp .NotIn) (λx y H Q=>∃i j,x=.str i/\y=.str j/\Q (.bl (!(!(Builtin.Str.occurrences j i 0 j.length 1).isEmpty))) H):=by
 intro pins s σ H x y v u Q I rx ry h;obtain⟨i,j,rfl,rfl,q⟩:=h;obtain⟨t,rfl⟩:=rx;obtain⟨t',rfl⟩:=ry;exact notIn_str (om I q rfl)
theorem Iq(ho:l0 X (compareOp op) r)(ha:PE X a ta)(hb:PE X b tb)(hm:behindInMarks op b=false):PE X (.Compare a [op] [b] pos) (Pz r ta tb):=by
 intro pins s σ H Q I h;exact wpAny_Compare1 (LW ha hb I h λv u s2 x y H2 I2 rx ry q=>ho pins s2 σ H2 x y v u Q I2 rx ry q) hm
def DH(t:TE):TT:=λσ H Q=>t σ H λx H'=>∃k,x=.bl k/\Q k H'
theorem AE(ho:l0 X (compareOp op) r)(ha:PE X a ta)(hb:PE X b tb)(hm:behindInMarks op b=false):PT X (.Compare a [op] [b] pos) (DH (Pz r ta tb)):=by
 intro pins s σ H Q I h;refine wpAny_isTrue_Compare1 (cg (ha pins s σ H _ I h) λv s1 ⟨x,H1,I1,r1,q1⟩=>cg (hb pins s1 σ H1 _ I1 q1) λu s2 ⟨y,H2,I2,r2,q2⟩=>
  cg (ho pins s2 σ H2 x y v u _ I2 r1 r2 q2) λc s3 ⟨z,H3,I3,r3,k,e,q3⟩=>?_) hm
 subst e;cases r3;exact wpAny_truthy_bool ⟨H3,I3,q3⟩
def L5(K:Frag)(x:V)(H:Hp)(k:Bool):Prop :=
 match x with
 |.non=>k=false
 |.bl b=>k=b
 |.int i=>k=(i != 0)
 |.str y=>y.length<=sizeLine/\k=((y.length:Int) != 0)
 |.byt y=>y.size<=sizeLine/\k=((y.size:Int) != 0)
 |.ref p=>(∃xs,gF K H p xs/\k = !xs.isEmpty)\/(∃xs,j8 K H p xs/\k = !xs.isEmpty)\/∃kvs,H p=some (.dK kvs)/\k = !kvs.isEmpty
 |_=>False
theorem zE{κ:Type}{kvs:List (κ × V)}{vs:List (κ × Value)}(r:KV kvs vs):(!vs.isEmpty) = !kvs.isEmpty:=by
 cases r<;>rfl
theorem qR(r:Vals xs its):(!its.toArray.isEmpty) = !xs.isEmpty:=by
 cases r<;>simp
theorem oq:(sizeLine:Nat)<2 ^ 63:=by rw[sizeLine_eq];decide
theorem L6:Uq X (λx H Q=>∃k,L5 X.K x H k/\Q k H):=by
 intro pins s σ H x v Q I rx h;obtain⟨k,e,q⟩:=h;have hl:=oq;have hs:sizeLine=16777216:=sizeLine_eq;cases x with
 |non=>cases rx;have e':k=false:=e;subst e';exact truthy_none ⟨H,I,q⟩
 |bl b=>cases rx;have e':k=b:=e;subst e';exact wpAny_truthy_bool ⟨H,I,q⟩
 |int i=>obtain⟨t,rfl⟩:=rx;have e':k=(i != 0):=e;subst e';exact PySem.P.truthy_int ⟨H,I,q⟩
 |str y=>obtain⟨t,rfl⟩:=rx;obtain⟨hy,e'⟩:y.length<=sizeLine/\k=((y.length:Int) != 0):=e;subst e';exact PySem.P.truthy_str (by omega) ⟨H,I.tok _,q⟩
 |byt y=>obtain⟨t,rfl⟩:=rx;obtain⟨hy,e'⟩:y.size<=sizeLine/\k=((y.size:Int) != 0):=e;subst e';exact PySem.W.truthy_bytes (by omega) ⟨H,I.tok _,q⟩
 |ref p=>
  cases rx;have e':(∃xs,gF X.K H p xs/\k = !xs.isEmpty)\/(∃xs,j8 X.K H p xs/\k = !xs.isEmpty)\/∃kvs,H p=some (.dK kvs)/\k = !kvs.isEmpty:=e
  rcases e' with ⟨xs,hx,e'⟩|⟨xs,hx,e'⟩|⟨kvs,hx,e'⟩
  ·subst e';obtain⟨its,r,pl,hz⟩:=I.list hx;have hlen:=r.length;exact wpAny_truthy_list pl.isList (by simp only[size_toArray];omega) ⟨H,I.tok _,by rw[qR r];exact q⟩
  ·subst e';obtain⟨its,r,pl,hz⟩:=I.tuple hx;have hlen:=r.length;exact truthy_tuple pl (by simp only[size_toArray];omega) ⟨H,I.tok _,by rw[qR r];exact q⟩
  ·subst e';obtain⟨hz,hS,vs,r,m⟩:kvs.length<=sizeLine/\(p==sysModules)=false/\∃vs,KV kvs vs/\s.heap.DictOf (aS X.prog X.w) p vs:=I.hok p _ hx;have hlen:kvs.length=vs.length:=Paired.length r;exact wpAny_truthy_dict hS m (by omega) ⟨H,I.tok _,by rw[zE r];exact q⟩
 |_=>exact(show False from e).elim
theorem DI(ha:PE X a ta)(he:∀whole,isTrue a X.env whole=(do let v <-whole;standAt a.pos;holding [v] (truthy v))) :
  PT X a (λσ H Q=>ta σ H λx H'=>∃k,L5 X.K x H' k/\Q k H'):=by
 intro pins s σ H Q I h;exact isTrue_plain (cg (ha pins s σ H _ I h) λv s1 ⟨x,H1,I1,r1,q1⟩=>L6 pins s1 σ H1 x v Q I1 r1 q1) (he _)
theorem zF:l0 X (binaryOp .Add) (λx y H Q=>∃i j,x=.str i/\y=.str j/\i.length+j.length<=sizeLine/\Q (.str (i++j)) H):=by
 intro pins s σ H x y v u Q I rx ry h;obtain⟨i,j,rfl,rfl,hz,q⟩:=h;obtain⟨t,rfl⟩:=rx;obtain⟨t',rfl⟩:=ry;exact add_str (λt' tk=>⟨.str (i++j),H,I.tok _,⟨_,rfl⟩,q⟩) hz
theorem vals1(r:Vals [x] us):∃u,us=[u]/\RelV x u:=by
 cases r with
 |cons r1 r2=>cases r2;exact⟨_,rfl,r1⟩
theorem vals2(r:Vals [x,y] us):∃u w',us=[u,w']/\RelV x u/\RelV y w':=by
 cases r with
 |cons r1 r2=>
  cases r2 with
  |cons r3 r4=>cases r4;exact⟨_,_,rfl,r1,r3⟩
theorem Cf(hc:X.calm=true):dm X (.builtin "max") (λxs H Q=>∃i j,xs=[.int i,.int j]/\Q (.int (if j>i then j else i)) H):=by
 intro pins s σ H xs us Q I r h;obtain⟨i,j,rfl,q⟩:=h;obtain⟨u,w',rfl,⟨t,rfl⟩,⟨t',rfl⟩⟩:=vals2 r;refine max_two_ints (I.ok.hd hc) λh' tk k=>⟨_,H,I.kept k,?_,q⟩
 by_cases hj:j>i
 ·rw[aab hj,aab hj];exact⟨_,rfl⟩
 ·rw[aad hj,aad hj];exact⟨_,rfl⟩
theorem Cg(hc:X.calm=true):dm X (.builtin "min") (λxs H Q=>∃i j,xs=[.int i,.int j]/\Q (.int (if j<i then j else i)) H):=by
 intro pins s σ H xs us Q I r h;obtain⟨i,j,rfl,q⟩:=h;obtain⟨u,w',rfl,⟨t,rfl⟩,⟨t',rfl⟩⟩:=vals2 r;refine min_two_ints (I.ok.hd hc) λh' tk k=>⟨_,H,I.kept k,?_,q⟩
 by_cases hj:j<i
 ·rw[aab hj,aab hj];exact⟨_,rfl⟩
 ·rw[aad hj,aad hj];exact⟨_,rfl⟩
theorem um:dm X (.type "int") (λxs H Q=>(∃i,xs=[.int i]/\Q (.int i) H)\/∃k,xs=[.bl k]/\Q (.int (if k then 1 else 0)) H):=by
 intro pins s σ H xs us Q I r h
 rcases h with ⟨i,rfl,q⟩|⟨k,rfl,q⟩
 ·obtain⟨u,rfl,t,rfl⟩:=vals1 r;exact call_int_int ⟨.int i,H,I,⟨_,rfl⟩,q⟩
 ·obtain⟨u,rfl,r1⟩:=vals1 r;cases r1;exact call_int_bool ⟨.int (if k then 1 else 0),H,I.tok _,⟨_,rfl⟩,q⟩
def Us(K:Frag)(x:V)(H:Hp)(n:Nat):Prop :=
 match x with
 |.str y=>y.length<=sizeLine/\n=y.length
 |.byt y=>y.size<=sizeLine/\n=y.size
 |.ref p=>(∃xs,gF K H p xs/\n=xs.length)\/∃xs,j8 K H p xs/\n=xs.length
 |_=>False
theorem mU:dm X (.builtin "len") (λxs H Q=>∃x n,xs=[x]/\Us X.K x H n/\Q (.int n) H):=by
 intro pins s σ H xs us Q I r h;obtain⟨x,n,rfl,e,q⟩:=h;obtain⟨u,rfl,rx⟩:=vals1 r;have hl:=oq;have hs:sizeLine=16777216:=sizeLine_eq;cases x with
 |str y=>obtain⟨t,rfl⟩:=rx;obtain⟨hy,e'⟩:y.length<=sizeLine/\n=y.length:=e;subst e';exact len_str (by omega) ⟨.int _,H,I.tok _,⟨_,rfl⟩,q⟩
 |byt y=>obtain⟨t,rfl⟩:=rx;obtain⟨hy,e'⟩:y.size<=sizeLine/\n=y.size:=e;subst e';exact PySem.W.len_bytes (by omega) ⟨.int _,H,I.tok _,⟨_,rfl⟩,q⟩
 |ref p=>
  cases rx;have e':(∃xs,gF X.K H p xs/\n=xs.length)\/∃xs,j8 X.K H p xs/\n=xs.length:=e
  rcases e' with ⟨xs,hx,e'⟩|⟨xs,hx,e'⟩
  ·subst e';obtain⟨its,r',pl,hz⟩:=I.list hx;have hlen:=r'.length;exact Calls.call_len_list pl.isList (by simp only[size_toArray];omega) ⟨.int xs.length,H,I.tok _,⟨_,by simp only[size_toArray];rw[hlen]⟩,q⟩
  ·subst e';obtain⟨its,r',pl,hz⟩:=I.tuple hx;have hlen:=r'.length;exact len_tuple pl (by simp only[size_toArray];omega) ⟨.int xs.length,H,I.tok _,⟨_,by simp only[size_toArray];rw[hlen]⟩,q⟩
 |_=>exact(show False from e).elim
end
structure zG (h:Heap) (x dx C:Addr) (mA:Str->Option Value):Prop where
 obj:h.get? x=some (instObj C dx)
 ns:h.Ns1 dx mA
 ne:dx≠x
theorem Ci{h:Heap}{dx:Addr}{mA:Str->Option Value}(n:h.Ns1 dx mA):∃od,h.get? dx=some od/\∀name,lookIn name od=some (mA name):=by
 obtain⟨o,es,ep,ho,hd,hk,_,hm⟩:=n;refine⟨o,ho,λname=>?_⟩;have e:=hm name;unfold nsFind findBy at e;rw[<-Array.find?_toList]at e;unfold lookIn;rw[hd];dsimp only
 split
 ·rename_i y q;rw[q]at e;exact congrArg some e
 ·rename_i q
  rw[q]at e;have a:es.toList.any (·.refKey)=false:=by rw[List.any_eq_false];intro y hy;obtain⟨z,t,hkey⟩:=hk y (Array.mem_toList_iff.mp hy);simp[DictEntry.refKey,hkey]
  have a':¬ es.toList.any (·.refKey)=true:=by rw[a];exact Z3
  rw[aad a'];exact congrArg some e
theorem zG.look(I:zG h x dx C mA):∃od,PySem.W.InstAt h x (instObj C dx) C (some od)/\∀name,lookIn name od=some (mA name) :=
 let ⟨od,ho,hl⟩:=Ci I.ns
 ⟨od,⟨I.obj,rfl,rfl,ho⟩,hl⟩
section
variable {prog:Program} {w:World} {A:Around} {E:Value->Shared->Prop} {s:Shared} {K:Frag} {x dx C f:Addr} {mA:Str->Option Value} {name:Str} {v:Value}
theorem get_map{expr:Bool}(X:K.In s.heap)(I:zG s.heap x dx C mA)(hg:plainGet K C name=true)(hh:hasDictIn K C=true)
  (ha:findIn K (.ref C) name=some none) (hv:mA name=some v) (hv':handedIn v=true) (h:Q v { s with toks:=s.toks+1 }) :
  wpAny (model prog w) A (getAttr (.ref x) name expr) Q E s:=by
 obtain⟨od,J,hl⟩:=I.look;exact PySem.W.get_value X J (plainGet_of hg).1 (PySem.W.findObj_own hh ha rfl (by rw[hl,hv])) hv' h
theorem DJ(X:K.In s.heap)(I:zG s.heap x dx C mA)(hg:plainGet K C name=true)
  (hf:findIn K (.ref C) name=some (some (.ref f))) (ht:isFn K (.ref f)=true) (hv:mA name=none) (h:Q (.ref f,[.ref x]) s) :
  wpAny (model prog w) A (getMethod (.ref x) name pl) Q E s:=by
 obtain⟨od,J,hl⟩:=I.look;exact PySem.W.method_fn X J (plainGet_of hg).1 (plainGet_of hg).2 hf (beq_iff_eq.mp ht) (by show (lookIn name od).map (·.isSome)=some false;rw[hl,hv];rfl) h
theorem Ir(X:K.In s.heap)(I:zG s.heap x dx C mA)
  (hs:findIn K (.ref C) "__setattr__" = some (some (.builtin "object.__setattr__"))) (hp:plainOver K C=true) (ht:takerIn K C name=some none) (hh:hasDictIn K C=true)
  (hw:PySem.Within mA ns) (hsz:ns.length<=sizeLine)
  (h:∀h',zG h' x dx C (λy=>if y=name then some v else mA y)->Heap.SameBut dx s.heap h'->Q () { s with heap:=h',toks:=s.toks+2 }) :
  wpAny (model prog w) A (setAttr (.ref x) name v) Q E s:=by
 obtain⟨od,J,hl⟩:=I.look;refine PySem.W.set_plain X J hs (PySem.W.osa_open (s:={ s with toks:=s.toks+1 }) (r:=none) X J hp ht λb=>?_);obtain⟨cd,hc,hd'⟩:=PySem.W.any_some hh;have hx:s.heap.get? x=some ⟨.ref C,some dx,.plain,#[]⟩:=I.obj;refine Z2 (aac (Z2 (Z2 (wpAny_loadPart hx (Z2 (PySem.W.Looks.here (s:={ s with toks:=s.toks+1 }) (PySem.W.looks_clsIn X hc) ?_))))));rw[hd'];refine aac (a:=some dx) (Z2 (aac (Z2 ?_)));refine wpAny_nsSet1 (s:={ s with toks:=s.toks+1 }) I.ns λh' hn2 hs2=>?_;obtain⟨oD,esD,ZM,Xq,Xr,Xs⟩:=hn2.count (PySem.Within.cons name v hw);refine Z2 (wpAny_lookBehind Xq (by rw[Xr];exact pastItsLine_dict (aaD Xs (by rw[aaq];omega))) ?_);exact aac (h _ ⟨(hs2.2 _ (Ne.symm I.ne)).trans I.obj,hn2,I.ne⟩ hs2)
theorem DK(X:K.In s.heap)(hm:makesIn K C=true)
  (hi:findIn K (.ref C) "__init__" = some (some (.ref f))) (hf:typeIn K (.ref f)=some (.type "function"))
  (h:codeAny (model prog w) (A.under (.builtin "type.__call__" ⟨.ref C::vs,kw⟩)) (.call (.ref f) ⟨.ref (s.heap.objs.size+1)::vs,kw⟩) (PySem.W.InitBack (s.heap.objs.size+1) R)
   { s with heap:=(s.heap.push emptyDict).push (instObj C s.heap.objs.size) }) :
  codeAny (model prog w) A (.call (.ref C) ⟨vs,kw⟩) R s:=by
 obtain⟨hh,g,d,t,os⟩:=s;exact PySem.W.make_core (PySem.W.makes_of X hm) (PySem.W.looks_findIn X hi) (λself=>PySem.W.bind_fn X self hf) (.inl rfl) h
end
def jy(f:Str)(v:V):List (Str×V)->List (Str×V)
 |[]=>[(f,v)]
 |(g,x)::r=>if g=f then (g,v)::r else (g,x)::jy f v r
theorem pQ(f g:Str)(v:V):∀fs:List (Str×V),(jy f v fs).lookup g=if g=f then some v else fs.lookup g
 | []=>by
  show List.lookup g [(f,v)]=_
  by_cases h:g=f
  ·have hb:(g==f)=true:=beq_iff_eq.mpr h;simp only[List.lookup,hb,if_pos h]
  ·have hb:(g==f)=false:=aaJ.mpr h;simp only[List.lookup,hb,if_neg h]
 | (k,x)::r=>by
  have ih:=pQ f g v r;rw[show jy f v ((k,x)::r)=(if k=f then (k,v)::r else (k,x)::jy f v r) from rfl]
  by_cases hk:k=f
  ·rw[aab hk]
   by_cases h:g=k
   ·have hb:(g==k)=true:=beq_iff_eq.mpr h;simp only[List.lookup,hb,if_pos (h.trans hk)]
   ·have hb:(g==k)=false:=aaJ.mpr h;simp only[List.lookup,hb,if_neg (λe:g=f=>h (e.trans hk.symm))]
  ·rw[aad hk]
   by_cases h:g=k
   ·have hb:(g==k)=true:=beq_iff_eq.mpr h;simp only[List.lookup,hb,if_neg (λe:g=f=>hk (h.symm.trans e))]
   ·have hb:(g==k)=false:=aaJ.mpr h;simp only[List.lookup,hb];exact ih
theorem ou(f:Str)(v:V):∀fs:List (Str×V),f∈(jy f v fs).map (·.1)/\∀g,g∈fs.map (·.1)->g∈(jy f v fs).map (·.1)
 |[]=>⟨by simp[jy],λg h=>by simp at h⟩
 | (k,x)::r=>by
  obtain⟨i1,i2⟩:=ou f v r;rw[show jy f v ((k,x)::r)=(if k=f then (k,v)::r else (k,x)::jy f v r) from rfl]
  by_cases hk:k=f
  ·rw[aab hk];subst hk;exact⟨by simp,λg h=>by simpa using h⟩
  ·rw[aad hk]
   refine⟨?_,λg h=>?_⟩
   ·rw[aaf];exact Z5 _ i1
   ·rw[aaf]at h |-
    rcases aap.mp h with e|e
    ·exact aap.mpr (.inl e)
    ·exact Z5 _ (i2 g e)
theorem pR(f:Str)(v:V):∀fs:List (Str×V),(jy f v fs).length<=fs.length+1
 |[]=>by simp[jy]
 | (k,x)::r=>by
  have ih:=pR f v r;rw[show jy f v ((k,x)::r)=(if k=f then (k,v)::r else (k,x)::jy f v r) from rfl]
  by_cases hk:k=f
  ·rw[aab hk,aaq,aaq];omega
  ·rw[aad hk,aaq,aaq];omega
theorem jZ.some_of(r:jZ (some v) o):∃u,o=some u/\RelV v u:=by
 cases o with
 |none=>exact(show False from r).elim
 |some u=>exact⟨u,rfl,r⟩
theorem jZ.none_of(r:jZ none o):o=none:=by
 cases o with
 |none=>rfl
 |some u=>exact(show False from r).elim
theorem Cj(r:RelV v u):handedIn u=true:=by
 cases v with
 |non=>cases (show u=Value.none from r);rfl
 |bl b=>cases (show u=Value.bool b from r);rfl
 |int i=>obtain⟨t,e⟩:=(show ∃t,u=Value.int i t from r);cases e;rfl
 |str x=>obtain⟨t,e⟩:=(show ∃t,u=Value.str x t from r);cases e;rfl
 |byt b=>obtain⟨t,e⟩:=(show ∃t,u=Value.bytes b t from r);cases e;rfl
 |flt b=>obtain⟨t,e⟩:=(show ∃t,u=Value.float b t from r);cases e;rfl
 |ref a=>cases (show u=Value.ref a from r);rfl
 |ty n=>cases (show u=Value.type n from r);rfl
section
variable {P:Program} {w:World} {H H':Hp} {h h':Heap} {a C dx:Addr} {fs fs':List (Str×V)}
theorem vo(hok:lY P w H h)(e:H a=some (.ins C dx fs)):∃mA,zG h a dx C mA/\(∀f,jZ (fs.lookup f) (mA f))/\PySem.Within mA (fs.map (·.1))/\fs.length<=1000/\H dx=some (.own a):=by
 obtain⟨d,z,ne,ob,mA,n,r,q⟩:=(show bJ P w H h a (.ins C dx fs) from hok a _ e);exact⟨mA,⟨ob,n,ne⟩,r,q,z,d⟩
end
structure Dl (K:Frag) (C:Addr):Prop where
 pg:plainGet K C Str.empty=true
 hd:hasDictIn K C=true
 po:plainOver K C=true
 sa:findIn K (.ref C) "__setattr__" = some (some (.builtin "object.__setattr__"))
theorem Dl.get{K:Frag}{C:Addr}(c:Dl K C)(f:Str):plainGet K C f=true:=c.pg
def kc(K:Frag)(C:Addr)(f:Str):Prop:=findIn K (.ref C) f=some none
theorem kc.QC{K:Frag}{C:Addr}{f:Str}(n:kc K C f):takerIn K C f=some none:=by
 unfold takerIn;rw[show findIn K (.ref C) f=some none from n];rfl
structure Meth (K:Frag) (C:Addr) (m:Str) (f:Addr):Prop where
 at_:findIn K (.ref C) m=some (some (.ref f))
 fn:isFn K (.ref f)=true
 kp:keepIn K (.ref f)=true
section
variable {X:Cx} {pins:List (Addr×Obj)} {σ:St} {H:Hp} {s:Shared} {a C dx:Addr} {fs:List (Str×V)} {f:Str} {v:V} {A:Around} {E:Value->Shared->Prop}
theorem zH{b:Bool}(I:Inv X pins σ H s)(e:H a=some (.ins C dx fs))(c:Dl X.K C)(n:kc X.K C f)(l:fs.lookup f=some v)
  (h:∀u s',Inv X pins σ H s'->RelV v u->Q u s'):wpAny (model X.prog X.w) A (getAttr (.ref a) f b) Q E s:=by
 obtain⟨mA,O,r,_,_,_⟩:=vo I.hok e;obtain⟨u,hu,ru⟩:=jZ.some_of (v:=v) (o:=mA f) (by rw[<-l];exact r f);exact get_map I.oj O (c.get f) c.hd n hu (Cj ru) (h u _ (I.tok _) ru)
theorem qS(I:Inv X pins σ H s)(e:H a=some (.ins C dx fs))(c:Dl X.K C)(k:Meth X.K C m g)(l:fs.lookup m=none)
  (h:Q (.ref g,[.ref a]) s):wpAny (model X.prog X.w) A (getMethod (.ref a) m pl) Q E s:=by
 obtain⟨mA,O,r,_,_,_⟩:=vo I.hok e;have hn:mA m=none:=jZ.none_of (by rw[<-l];exact r m);exact DJ I.oj O (c.get m) k.at_ k.fn hn h
theorem zJ(I:Inv X pins σ H s)(e:H a=some (.ins C dx fs))(c:Dl X.K C)(n:kc X.K C f)(hl:fs.length<1000)(ry:RelV y u)
  (h:∀s',Inv X pins σ (upd H a (.ins C dx (jy f y fs))) s'->Q () s'):wpAny (model X.prog X.w) A (setAttr (.ref a) f u) Q E s:=by
 obtain⟨mA,O,r,wi,_,ho⟩:=vo I.hok e;have hz:(fs.map (·.1)).length<=sizeLine:=by rw[Z9,sizeLine_eq];omega
 refine Ir I.oj O c.sa c.po n.QC c.hd wi hz λh' O' sb=>h _ ?_;have hd:∃o,h'.get? dx=some o:=let ⟨o,_,_,e',_⟩:=O'.ns;⟨o,e'⟩
 refine I.write (x:=a) (e:=dx) (by rw[e];exact True.intro) (.inr ho) (λb q hb z=>(sb.2 b hb).trans z) hd ?_;refine⟨by rw[aq O.ne];exact ho,?_,O.ne,O'.obj,_,O'.ns,λg=>?_,λg hg=>?_⟩
 ·have:=pR f y fs;omega
 ·show jZ ((jy f y fs).lookup g) (if g=f then some u else mA g)
  rw[pQ]
  by_cases q:g=f
  ·rw[aab q,aab q];exact ry
  ·rw[aad q,aad q];exact r g
 ·by_cases q:g=f
  ·rw[q];exact(ou f y fs).1
  ·refine(ou f y fs).2 g (wi g λz=>hg ?_);show (if g=f then some u else mA g)=none;rw[aad q];exact z
theorem Inv.made(I:Inv X pins σ H s):Inv X pins σ (upd (upd H s.heap.objs.size (.own (s.heap.objs.size+1))) (s.heap.objs.size+1) (.ins C s.heap.objs.size []))
  { s with heap:=(s.heap.push emptyDict).push (instObj C s.heap.objs.size) }:=by
 have e1:(s.heap.push emptyDict).get? s.heap.objs.size=some emptyDict:=aao s.heap rfl;have e2:((s.heap.push emptyDict).push (instObj C s.heap.objs.size)).get? (s.heap.objs.size+1)=some (instObj C s.heap.objs.size):=by have:=aao (s.heap.push emptyDict) (o:=instObj C s.heap.objs.size) rfl;rwa [aaV]at this
 have e3:(s.heap.push emptyDict).Ns s.heap.objs.size (λ_=>none):=⟨emptyDict,#[],_,e1,rfl,(λe he=>absurd he (by simp)),λ_=>rfl⟩;have I1:=I.laid (a:=s.heap.objs.size) (o:=.own (s.heap.objs.size+1)) (h':=s.heap.push emptyDict) (t':=s.toks) (λb u q=>Z7 _ q) (aae _) ⟨_,e1⟩;refine I1.laid (a:=s.heap.objs.size+1) (o:=.ins C s.heap.objs.size []) (t':=s.toks) (λb u q=>Z7 _ q) (Nat.le_of_eq (aaV _ _)) ?_;have ne:s.heap.objs.size≠s.heap.objs.size+1:=aax (aaW _);refine⟨by rw[aq ne,aR],zero_le _,ne,e2,λ_=>none,(Heap.Ns1.of_empty e3).at λo q=>Z7 _ q,λ_=>True.intro,λy hy=>absurd rfl hy⟩
theorem attr_of(hb:attributeBase e f env (eval e env)=eval e env)
  (h:wpAny (model prog w) A (eval e env) (λo s₁=>wpAny (model prog w) A (getAttr o f true) Q E s₁) E s):wpAny (model prog w) A (eval (.Attribute e f pos) env) Q E s :=
 Attribute_any_ h (by rw[arm_eval_Attribute,hb])
end
def tFld(K:Frag)(ta:TE)(f:Str):TE:=λσ H Q=>ta σ H λx H1=>∃a C dx fs v,x=.ref a/\H1 a=some (.ins C dx fs)/\Dl K C/\kc K C f/\fs.lookup f=some v/\Q v H1
def Ut(K:Frag)(ta tv:TE)(f:Str):TS:=λD σ H=>tv σ H λy H1=>ta σ H1 λx H2=>∃a C dx fs,x=.ref a/\H2 a=some (.ins C dx fs)/\Dl K C/\kc K C f/\fs.length<1000 /\
 D.nx σ (upd H2 a (.ins C dx (jy f y fs)))
section
variable {X:Cx} {o e value:Expr} {f:Str} {pos pos' tpos:Pos} {ta tv:TE}
theorem pe_fld(he:PE X e ta)(hb:attributeBase e f X.env (eval e X.env)=eval e X.env):PE X (.Attribute e f pos) (tFld X.K ta f):=by
 intro pins s σ H Q I h;refine attr_of hb (cg (he pins s σ H _ I h) λu s1 aO=>?_);obtain⟨x,H1,I1,rx,a,C,dx,fs,v,ex,ea,c,n,l,q⟩:=aO;subst ex;obtain rfl:u=Value.ref a:=rx;exact zH I1 ea c n l λu' s2 I2 ru=>⟨v,H1,I2,ru,q⟩
theorem L7(ha:PE X o ta)(hv:PE X value tv)(hs:swapsWith value (some (.Attribute o f pos')) pos.line X.env=pure false):PS X (.Assign [.Attribute o f pos'] value pos) (Ut X.K ta tv f):=by
 intro pins s σ H D I h;refine plainObj_wpAny_Assign_Attribute (cg (hv pins s σ H _ I h) λu s1 ⟨y,H1,I1,ry,q⟩=>cg (ha pins s1 σ H1 _ I1 q) λov s2 ⟨x,H2,I2,rx,a,C,dx,fs,ex,ea,c,n,l,q2⟩=>?_) hs;subst ex;obtain rfl:ov=Value.ref a:=rx;exact zJ I2 ea c n l ry λs3 I3=>⟨σ,_,I3,q2⟩
end
structure dD (k:Nat) (A:Around):Prop where
 hd:A.handled=none
 dp:A.depth+3*k+5<recursionLimit
 un:A.units+16*k+200<cLine
theorem dD.mono{j k:Nat}(r:dD k A)(h:j<=k):dD j A:=⟨r.hd,by have:=r.dp;omega,by have:=r.un;omega⟩
theorem dD.deeper{k:Nat}(r:dD (k+1) A)(env:Env):dD k (A.deeper env) :=
 ⟨r.hd,by have:=r.dp;show A.depth+1+3*k+5<_;omega,by have:=r.un;show A.units+3+16*k+200<_;omega⟩
theorem zK{A:Around}{C:Addr}{us:List Value}{kw:List (Str×Value)}:(A.under (.builtin "type.__call__" ⟨.ref C::us,kw⟩)).depth=A.depth+1:=by
 first|rfl|simp[Around.under,Code.weight,Code.isCreation,Code.isGuard,Code.isCaller,Code.frames,Code.isFrame,guardIds]
theorem zL{A:Around}{C:Addr}{us:List Value}{kw:List (Str×Value)}:(A.under (.builtin "type.__call__" ⟨.ref C::us,kw⟩)).units=A.units+1:=by
 first|rfl|simp[Around.under,Code.cUnits,Code.frames,Code.isFrame]
theorem dD.make{k:Nat}(r:dD (k+1) A)(C:Addr)(us:List Value)(kw:List (Str×Value)):dD k (A.under (.builtin "type.__call__" ⟨.ref C::us,kw⟩)) :=
 ⟨r.hd,by have:=r.dp;rw[zK];omega,by have:=r.un;rw[zL];omega⟩
theorem dD.depth{k:Nat}(r:dD k A):A.depth<recursionLimit:=by have:=r.dp;omega
theorem dD.units{k:Nat}(r:dD k A):A.units+64<cLine:=by have:=r.un;omega
def L8:TA:=λ_ H Q=>Q [] H
def QD(ta:TE)(tr:TA):TA:=λσ H Q=>ta σ H λx H1=>tr σ H1 λxs H2=>Q (x::xs) H2
section
variable {X:Cx} {e:Expr} {es:List Expr} {te:TE} {t:TA} {pos:Pos}
theorem DL:PA X [] L8:=λ_ _ _ _ H Q I h=>Calls.spliced_nil ⟨[],H,I,.nil,h⟩
theorem vp(ha:PE X e te)(hr:PA X es t)(hs:starEach (e::es) X.env=(false,eval e X.env)::starEach es X.env:=by rfl):PA X (e::es) (QD te t):=by
 intro pos pins s σ H Q I h;rw[hs];show wpAny _ _ (spliced ((false,eval e X.env)::backTo pos (starEach es X.env))) _ _ s;refine Calls.spliced_cons (cg (ha pins s σ H _ I h) λu s1 aO=>?_);obtain⟨x,H1,I1,r1,q1⟩:=aO;exact cg (hr pos pins s1 σ H1 _ I1 q1) λus s2 ⟨xs,H2,I2,r2,q2⟩=>⟨x::xs,H2,I2,.cons r1 r2,q2⟩
def Uu(t:TA):TE:=λσ H Q=>t σ H λxs H1=>xs.length<=sizeLine/\∀p,H1 p=none->Q (.ref p) (upd H1 p (.tup xs))
def Uv(t:TA):TE:=λσ H Q=>t σ H λxs H1=>xs.length<=sizeLine/\∀p,H1 p=none->Q (.ref p) (upd H1 p (.lst xs))
theorem Ma{x1}(h:PA X es t):PE X (.Tuple es x1 pos) (Uu t):=by
 intro pins s σ H Q I hq;refine wpAny_Tuple_spliced (cg (h pos pins s σ H _ I hq) λus s1 ⟨xs,H1,I1,r,z,q⟩=>⟨by rw[<-r.length];exact z,?_⟩);have hf:H1 s1.heap.objs.size=none:=I1.hok.fresh (aae _);refine⟨.ref s1.heap.objs.size,upd H1 s1.heap.objs.size (.tup xs),I1.laid (t':=s1.toks) (λb u e=>Z7 _ e) (aae _) ?_,rfl,q _ hf⟩;exact⟨z,us,r,⟨_,aao _ rfl,rfl,_,rfl⟩⟩
theorem Mb(h:PA X es t):PE X (.List es pos) (Uv t):=by
 intro pins s σ H Q I hq;refine wpAny_List_spliced (cg (h pos pins s σ H _ I hq) λus s1 ⟨xs,H1,I1,r,z,q⟩=>⟨by rw[<-r.length];exact z,?_⟩);have hf:H1 s1.heap.objs.size=none:=I1.hok.fresh (aae _);refine⟨.ref s1.heap.objs.size,upd H1 s1.heap.objs.size (.lst xs),I1.laid (t':=s1.toks) (λb u e=>Z7 _ e) (aae _) ?_,rfl,q _ hf⟩;exact⟨z,us,0,r,aao _ rfl⟩
end
abbrev Sp:=List V->Hp->VK->XK->Prop
abbrev Ck:=List Env->Hp->Shared->XK->Value->Shared->Prop
structure zM (P:Program) (w:World) (K:Frag) (mg:Str->Option Value) (base:Heap) (A:Around) (outer:List Env) (s:Shared) (H:Hp):Prop where
 frames:A.frames=some outer
 mod:Mod K mg base
 bs:∀b o,base.get? b=some o->s.heap.get? b=some o/\H b=none
 KS:base.objs.size<=s.heap.objs.size
 qk:s.heap.FunFrames base outer
 LB:∀b∈frs outer,H b=none
 hok:lY P w H s.heap
 bare:AllBare s.gens
def CE(outer:List Env)(P:Program)(w:World)(H:Hp)(s:Shared)(Q:VK)(u:Value)(s':Shared):Prop :=
 ∃v H',s'.os=s.os/\AllBare s'.gens/\Un (frs outer) [] H H' s.heap s'.heap/\lY P w H' s'.heap/\RelV v u/\Q v H'
def CR(CX:Ck)(outer:List Env)(P:Program)(w:World)(H:Hp)(s:Shared)(Q:VK)(E:XK)(r:Result)(s':Shared):Prop :=
 match r with
 |.ok (.ret u)=>CE outer P w H s Q u s'
 |.ok _=>False
 |.error e=>CX outer H s E e s'
structure fF (P:Program) (w:World) (K:Frag) (mg:Str->Option Value) (base:Heap) (CX:Ck) (k:Nat) (f:Addr) (fd:FuncData) (ps:List Str) (sp:Sp):Prop where
 len:∀vs H Q E,sp vs H Q E->vs.length=ps.length
 run:∀(A:Around) (outer:List Env) (s:Shared) (H:Hp) (args:Args) (us:List Value) (vs:List V) (Q:VK) (E:XK),dD k A->zM P w K mg base A outer s H->BindsTo s fd args (ps.zip us)->Vals vs us->sp vs H Q E ->
  codeAny (model P w) A (.call (.ref f) args) (CR CX outer P w H s Q E) s
theorem fF.mono{P:Program}{w:World}{K:Frag}{mg:Str->Option Value}{base:Heap}{CX:Ck}{j k:Nat}{f:Addr}{fd:FuncData}{ps:List Str}{sp:Sp}(F:fF P w K mg base CX j f fd ps sp)(h:j<=k) :
  fF P w K mg base CX k f fd ps sp:=⟨F.len,λA outer s H args us vs Q E hr=>F.run A outer s H args us vs Q E (hr.mono h)⟩
theorem fF.imp{P:Program}{w:World}{K:Frag}{mg:Str->Option Value}{base:Heap}{CX:Ck}{k:Nat}{f:Addr}{fd:FuncData}{ps:List Str}{sp VY:Sp}(F:fF P w K mg base CX k f fd ps sp)
  (h:∀vs H Q E,VY vs H Q E->sp vs H Q E):fF P w K mg base CX k f fd ps VY :=
 ⟨λvs H Q E q=>F.len vs H Q E (h _ _ _ _ q),λA outer s H args us vs Q E hr he hb hv hs=>F.run A outer s H args us vs Q E hr he hb hv (h _ _ _ _ hs)⟩
theorem zM.make{P:Program}{w:World}{K:Frag}{mg:Str->Option Value}{base:Heap}{A:Around}{outer:List Env}{s:Shared}{H:Hp}(e:zM P w K mg base A outer s H)(C:Addr)(us:List Value)(kw:List (Str×Value)) :
  zM P w K mg base (A.under (.builtin "type.__call__" ⟨.ref C::us,kw⟩)) outer s H:=⟨by first|exact e.frames|(simpa [Around.under,Code.envs,Code.isFrame,pushEnvs] using e.frames),e.mod,e.bs,e.KS,e.qk,e.LB,e.hok,e.bare⟩
section
variable {X:Cx} {pins:List (Addr×Obj)} {σ:St} {H:Hp} {s s':Shared}
theorem Inv.oz(I:Inv X pins σ H s):zM X.prog X.w X.K X.mg X.base X.A X.stack s H :=
 ⟨I.ok.frames,I.ok.mod,I.bs,aaD I.ok.KS I.sz,I.stack,I.Az,I.hok,I.bare⟩
theorem Inv.after(I:Inv X pins σ H s)(h:CE X.stack X.prog X.w H s Q u s'):EP X pins σ Q u s':=by
 obtain⟨v,H',os,bare,un,hok,r,q⟩:=h;obtain⟨hh,g,d,t,os'⟩:=s';obtain rfl:os'=s.os:=os;exact⟨v,H',I.call (h':=hh) (g':=g) (d':=d) (t':=t) (ch:=[]) un hok bare (λb z=>absurd z (by simp)),r,q⟩
end
def KY(sp:Sp)(tR:List V)(E:XK)(t:TA):TE:=λσ H Q=>t σ H λvs H1=>sp (vs++tR) H1 Q E
def KZ(C:Addr)(sp:Sp)(tR:List V)(E:XK)(t:TA):TE:=λσ H Q=>t σ H λvs H1=>∀x dx,H1 x=none->H1 dx=none->dx≠x ->
 sp (.ref x::(vs++tR)) (upd (upd H1 dx (.own x)) x (.ins C dx [])) (λv H2=>v=.non/\Q (.ref x) H2) E
def Binds(K:Frag)(fd:FuncData)(ps:List Str)(ds:List Value):Prop :=
 ∀(s:Shared) (us:List Value),K.In s.heap->(us++ds).length=ps.length->BindsTo s fd ⟨us,[]⟩ (ps.zip (us++ds))
theorem Binds.all{K:Frag}{fd:FuncData}{ps:List Str}(h:∀us:List Value,us.length=ps.length->bindArgs fd ⟨us,[]⟩=pure (ps.zip us)):Binds K fd ps []:=λs us _ hl=>by
 rw[aaU]at hl |-;exact .of_eq (h us hl)
def Passes(CX:Ck)(X:Cx)(E:XK):Prop:=∀(pins:List (Addr×Obj)) (σ:St) (H:Hp) (s:Shared) (e:Value) (s':Shared),Inv X pins σ H s->CX X.stack H s E e s'->X.xe e s'
section
variable {X:Cx} {CX:Ck} {k:Nat} {f C:Addr} {fd:FuncData} {ps:List Str} {sp:Sp} {tR:List V} {ds:List Value} {E:XK} {x m:Str} {p pos apos:Pos} {e o:Expr} {es:List Expr} {ta:TE} {t:TA}
theorem qT(F:fF X.prog X.w X.K X.mg X.base CX k f fd ps sp)(hr:dD k X.A)(hb:Binds X.K fd ps ds)(hd:Vals tR ds)(hx:Passes CX X E)
  (I:Inv X pins σ H s) (r:Vals vs us) (h:sp (vs++tR) H Q E):wpAny (model X.prog X.w) X.A (call (.ref f) us) (EP X pins σ Q) X.xe s:=by
 have r2:Vals (vs++tR) (us++ds):=r.append hd;have hl:(us++ds).length=ps.length:=by rw[<-r2.length];exact F.len _ _ _ _ h
 refine wpAny_call (codeAny_mono (F.run X.A X.stack s H ⟨us,[]⟩ (us++ds) (vs++tR) Q E hr I.oz (hb s us I.oj hl) r2 h) λr s' hq=>?_);cases r with
 |error e=>exact hx pins σ H s e s' I hq
 |ok fl=>
  cases fl with
  |ret u=>exact I.after hq
  |next=>exact False.elim hq
  |brk=>exact False.elim hq
  |cont=>exact False.elim hq
theorem Iu(F:fF X.prog X.w X.K X.mg X.base CX k f fd ps sp)(hr:dD k X.A)(hg:Gl X x)(hm:X.mg x=some (.ref f))(hk:keepIn X.K (.ref f)=true)(hb:Binds X.K fd ps ds)(hd:Vals tR ds)(hx:Passes CX X E)
  (ha:PA X (e::es) t) (hdb:(x==("__debug__":Str))=false) (he:starEach (e::es) X.env=(false,eval e X.env)::starEach es X.env) (hpl:(backTo pos (starEach es X.env)).any (·.1)=false) :
  PE X (.Call (.Name x p) (e::es) [] pos) (KY sp tR E t):=by
 intro pins s σ H Q I h;refine aaR (kW I hg hm ?_ hdb);refine callWith_K (h₀:=X.base) I.ok.mod.Pu hk (cg (ha pos pins s σ H _ I h) λus s1 ⟨vs,H1,I1,r,q⟩=>⟨I1.oj,?_⟩) he hpl;exact qT F hr hb hd hx I1 r q
theorem DM(F:fF X.prog X.w X.K X.mg X.base CX k f fd ps sp)(hr:dD k X.A)(hg:Gl X x)(hm:X.mg x=some (.ref f))(hk:keepIn X.K (.ref f)=true)(hb:Binds X.K fd ps ds)(hd:Vals tR ds)(hx:Passes CX X E)
  (hdb:(x==("__debug__":Str))=false):PE X (.Call (.Name x p) [] [] pos) (KY sp tR E L8):=by
 intro pins s σ H Q I h;refine aaR (kW I hg hm ?_ hdb);exact callWith_K0 I.oj hk (qT (us:=[]) F hr hb hd hx I .nil h)
structure Mk (K:Frag) (C f:Addr):Prop where
 makes:makesIn K C=true
 init:findIn K (.ref C) "__init__" = some (some (.ref f))
 fn:isFn K (.ref f)=true
 kp:keepIn K (.ref C)=true
theorem xy(M:Mk X.K C f)(F:fF X.prog X.w X.K X.mg X.base CX k f fd ps sp)(hr:dD (k+1) X.A)(hb:Binds X.K fd ps ds)(hd:Vals tR ds)
  (hx:Passes CX X E) (I:Inv X pins σ H s) (r:Vals vs us)
  (h:∀x dx,H x=none->H dx=none->dx≠x->sp (.ref x::(vs++tR)) (upd (upd H dx (.own x)) x (.ins C dx [])) (λv H2=>v=.non/\Q (.ref x) H2) E) :
  wpAny (model X.prog X.w) X.A (call (.ref C) us) (EP X pins σ Q) X.xe s:=by
 have hq:=h (s.heap.objs.size+1) s.heap.objs.size (I.hok.fresh (le_succ _)) (I.hok.fresh (aae _)) (aax (aaW _));have I2:=Inv.made (C:=C) I;have r2:Vals (V.ref (s.heap.objs.size+1)::(vs++tR)) (Value.ref (s.heap.objs.size+1)::(us++ds)):=.cons rfl (r.append hd);have hl:(Value.ref (s.heap.objs.size+1)::us++ds).length=ps.length:=by have e:=r2.length;rw[F.len _ _ _ _ hq]at e;exact e.symm
 refine wpAny_call (DK (f:=f) I.oj M.makes M.init (beq_iff_eq.mp M.fn) (codeAny_mono (F.run _ X.stack _ _ ⟨Value.ref (s.heap.objs.size+1)::us,[]⟩ (Value.ref (s.heap.objs.size+1)::(us++ds)) _ _ E (hr.make C us [])
  (I2.oz.make C us []) (hb _ (Value.ref (s.heap.objs.size+1)::us) I2.oj hl) r2 hq) λr s' hq'=>?_))
 cases r with
 |error e=>exact hx pins σ _ _ e s' I2 hq'
 |ok fl=>
  cases fl with
  |ret u=>obtain⟨v,H',I3,rv,ev,q3⟩:=I2.after hq';subst ev;exact⟨rv,⟨V.ref (s.heap.objs.size+1),H',I3,rfl,q3⟩⟩
  |next=>exact False.elim hq'
  |brk=>exact False.elim hq'
  |cont=>exact False.elim hq'
theorem Iv(M:Mk X.K C f)(F:fF X.prog X.w X.K X.mg X.base CX k f fd ps sp)(hr:dD (k+1) X.A)(hg:Gl X x)(hm:X.mg x=some (.ref C))(hb:Binds X.K fd ps ds)(hd:Vals tR ds)(hx:Passes CX X E)
  (ha:PA X (e::es) t) (hdb:(x==("__debug__":Str))=false) (he:starEach (e::es) X.env=(false,eval e X.env)::starEach es X.env) (hpl:(backTo pos (starEach es X.env)).any (·.1)=false) :
  PE X (.Call (.Name x p) (e::es) [] pos) (KZ C sp tR E t):=by
 intro pins s σ H Q I h;refine aaR (kW I hg hm ?_ hdb);refine callWith_K (h₀:=X.base) I.ok.mod.Pu M.kp (cg (ha pos pins s σ H _ I h) λus s1 ⟨vs,H1,I1,r,q⟩=>⟨I1.oj,?_⟩) he hpl;exact xy M F hr hb hd hx I1 r q
theorem DN(M:Mk X.K C f)(F:fF X.prog X.w X.K X.mg X.base CX k f fd ps sp)(hr:dD (k+1) X.A)(hg:Gl X x)(hm:X.mg x=some (.ref C))(hb:Binds X.K fd ps ds)(hd:Vals tR ds)(hx:Passes CX X E)
  (hdb:(x==("__debug__":Str))=false):PE X (.Call (.Name x p) [] [] pos) (KZ C sp tR E L8):=by
 intro pins s σ H Q I h;refine aaR (kW I hg hm ?_ hdb);exact callWith_K0 I.oj M.kp (xy (us:=[]) M F hr hb hd hx I .nil h)
end
structure qA (N P:List Str) (sc:Scope):Prop where
 kind:sc.kind=.function
 co:sc.isCoroutine=false
 gen:sc.isGenerator=false
 nd:N.Nodup
 pre:N.take P.length=P
 par:∀x∈P,sc.names.lookup x=some .local\/sc.names.lookup x=some .cell
 Mc:∀y∈sc.names,y.2≠.free
theorem uo{kindOf:Str->Option NameKind}{x:Str}:∀{binds:List (Str×Value)} {m:Str->Option Value},(∀v,(x,v)∉binds)->bindL kindOf binds m x=m x
 |[],_,_=>rfl
 | (n,v)::r,m,h=>by
  unfold bindL;rw[uo λw hw=>h w (Z5 _ hw)]
  split
  ·have:x≠n:=by rintro rfl;exact h v aaa
   simp[this]
  ·rfl
theorem uq{kindOf:Str->Option NameKind}{x:Str}:∀{binds:List (Str×Value)} {m:Str->Option Value},(∀v,(x,v)∉binds)->bindC kindOf binds m x=m x
 |[],_,_=>rfl
 | (n,v)::r,m,h=>by
  unfold bindC;rw[uq λw hw=>h w (Z5 _ hw)]
  split
  ·rfl
  ·have:x≠n:=by rintro rfl;exact h v aaa
   simp[this]
theorem ur{kindOf:Str->Option NameKind}{x:Str}{v:Value}:∀{P:List Str} {vs:List Value} {i:Nat} {m:Str->Option Value},P.Nodup->P[i]?=some x->vs[i]?=some v->kindOf x=some .local ->
  bindL kindOf (P.zip vs) m x=some v
 |[],_,_,_,_,h,_,_=>by simp at h
 |_::_,[],_,_,_,_,h,_=>by simp at h
 | p::P,w::vs,0,m,nd,h1,h2,hk=>by
  simp at h1 h2;subst h1;subst h2;show bindL kindOf ((p,w)::P.zip vs) m p=_;unfold bindL;rw[uo λv hv=>(aaF.mp nd).1 (of_mem_zip hv).1,aab hk];simp
 | p::P,w::vs,i+1,m,nd,h1,h2,hk=>by
  show bindL kindOf ((p,w)::P.zip vs) m x=_;unfold bindL;exact ur (i:=i) (aaF.mp nd).2 (by simpa using h1) (by simpa using h2) hk
theorem uu{kindOf:Str->Option NameKind}{x:Str}{v:Value}:∀{P:List Str} {vs:List Value} {i:Nat} {m:Str->Option Value},P.Nodup->P[i]?=some x->vs[i]?=some v->kindOf x≠some .local ->
  bindC kindOf (P.zip vs) m x=some v
 |[],_,_,_,_,h,_,_=>by simp at h
 |_::_,[],_,_,_,_,h,_=>by simp at h
 | p::P,w::vs,0,m,nd,h1,h2,hk=>by
  simp at h1 h2;subst h1;subst h2;show bindC kindOf ((p,w)::P.zip vs) m p=_;unfold bindC;rw[uq λv hv=>(aaF.mp nd).1 (of_mem_zip hv).1,aad hk];simp
 | p::P,w::vs,i+1,m,nd,h1,h2,hk=>by
  show bindC kindOf ((p,w)::P.zip vs) m x=_;unfold bindC;exact uu (i:=i) (aaF.mp nd).2 (by simpa using h1) (by simpa using h2) hk
def start(N:List Str)(vs:List V):St:=vs.map some++replicate (N.length-vs.length) none
def zN(CX:Ck)(P:Program)(w:World)(K:Frag)(mg:Str->Option Value)(base:Heap)(N:List Str)(qual:Str)(scope:Scope)(f:Addr)(cd:Value)(A:Around)(outer:List Env)(s:Shared)(H:Hp)(E:XK):Cx where
 prog:=P
 w:=w
 K:=K
 mg:=mg
 base:=base
 A:=A.deeper (envOfC qual scope s.heap.objs.size f cd)
 N:=N
 s₀:=s
 H₀:=H
 env:=envOfC qual scope s.heap.objs.size f cd
 outer:=outer
 stack:=envOfC qual scope s.heap.objs.size f cd::outer
 ex:=[]
 calm:=true
 fn:=λ_=>true
 pn:=[]
 xe:=λe s'=>wpAny (model P w) (A.deeper (envOfC qual scope s.heap.objs.size f cd)) (leaving (envOfC qual scope s.heap.objs.size f cd) e) (λ_ s''=>CX outer H s E e s'') (λe' s''=>CX outer H s E e' s'') s'
theorem xA{sc:Scope}{n:Nat}{x:Str}(h:sc.names.lookup x=some .cell):∃c,(cellsFrom n sc.names []).lookup x=some c:=by
 have q:=cellsFrom_some sc.names n [] (.inl h);exact Option.isSome_iff_exists.mp q
theorem Cm{CX:Ck}{P:Program}{w:World}{K:Frag}{mg:Str->Option Value}{base:Heap}{N ps:List Str}{qual:Str}{scope:Scope}{f:Addr}{cd:Value}{A:Around}{outer:List Env}{s s1:Shared}{H:Hp}{E:XK}{us:List Value}{vs:List V}
  (S:qA N ps scope) (hd:A.handled=none) (e0:zM P w K mg base A outer s H) (hl:vs.length=ps.length) (r:Vals vs us)
  (x:InCallC s s.heap.objs.size (bindL (envOfC qual scope s.heap.objs.size f cd).kindOf (ps.zip us) λ_=>none) (cellsFrom (s.heap.objs.size+1) scope.names []) (bindC (envOfC qual scope s.heap.objs.size f cd).kindOf (ps.zip us) λ_=>none) s1) :
  Inv (zN CX P w K mg base N qual scope f cd A outer s H E) [] (start N vs) H s1:=by
 have hpl:ps.length<=N.length:=by have:=congrArg length S.pre;rw[length_take]at this;omega
 obtain⟨h1,tk,rfl,hk⟩:=x.done;have noA:∀b:Addr,b∉(zN CX P w K mg base N qual scope f cd A outer s H E).ex:=λb z=>absurd (show b∈([]:List Addr) from z) (by simp);refine⟨⟨e0.mod,S.kind,rfl,rfl,aae _,λy z c h1 h2=>?_,λy hy=>?_,λy c _ h=>?_,λ_=>hd,Around.frames_deeper e0.frames,.inr ⟨rfl,rfl⟩,λb z=>absurd z (noA b),e0.bs,e0.KS,λb _ _=>noA b,λb z=>absurd z (noA b),e0.qk,e0.LB⟩,
  rfl,e0.bare,Un.kept hk,⟨_,x.toInCall.ns,λi y v h1 h2 h3=>?_⟩,λy c h=>⟨_,x.cell y c h⟩,e0.hok.fresh (aae _),λy c h=>?_,λp hp=>absurd (show p∈([]:List (Addr×Obj)) from hp) (by simp),e0.hok.kept hk,?_⟩
 ·exact name_of_addr x.apart (PySem.mem_of_lookup h1) (PySem.mem_of_lookup h2)
 ·have hy:scope.names.lookup y=some .cell\/scope.names.lookup y=some .free:=hy
  rcases hy with hy|hy
  ·exact xA hy
  ·exact absurd rfl (S.Mc _ (PySem.mem_of_lookup hy))
 ·exact le_of_lt (x.above y c (PySem.mem_of_lookup h))
 ·have hi:i<vs.length:=by
   unfold start at h2
   by_cases hi:i<vs.length
   ·exact hi
   ·rw[aaw (by simpa using hi)]at h2;rw[List.getElem?_replicate]at h2;split at h2<;>cases h2
  have ha:vs[i]?=some v:=by
   unfold start at h2;rw[aam (by simpa using hi),aaB]at h2;cases e:vs[i]? with
   |none=>rw[e]at h2;cases h2
   |some a=>rw[e]at h2;cases h2;rfl
  obtain⟨u,hu,rv⟩:=r.get ha;have hp:ps[i]?=some y:=by rw[<-S.pre,List.getElem?_take_of_lt (by omega)];exact h1
  have VZ:ps.Nodup:=by rw[<-S.pre];exact S.nd.sublist (take_sublist _ _)
  refine⟨u,rv,?_⟩
  rcases S.par y (aaz hp) with k|k
  ·exact .inl ⟨k,ur VZ hp hu k⟩
  ·obtain⟨c,e⟩:=xA (n:=s.heap.objs.size+1) k;refine .inr ⟨.inl k,c,e,?_⟩;have q:=x.cell y c e;rw[uu VZ hp hu (by show scope.names.lookup y≠_;rw[k];decide)]at q;exact q
 ·exact e0.hok.fresh (le_of_lt (x.above y c (PySem.mem_of_lookup h)))
 ·unfold start;show _=N.length;rw[aag,Z9,List.length_replicate];omega
theorem QE{CX:Ck}{P:Program}{w:World}{K:Frag}{mg:Str->Option Value}{base:Heap}{k:Nat}{f:Addr}{name qual:Str}{params:Arguments}{body:List Stmt}{scope:Scope}{dV kV doc pm cdv ct oc:Value}{an od:Option Addr}
  {osl:Array (Option Value)} {N ps:List Str} {sp:Sp} (lk:K.lookup f=some ⟨oc,od,.func (fnOf name qual params body scope dV kV doc pm an cdv ct),osl⟩) (hcd:codeIn K cdv qual=true) (S:qA N ps scope)
  (len:∀vs H Q E,sp vs H Q E->vs.length=ps.length)
  (hbody:∀(A:Around) (outer:List Env) (s:Shared) (H:Hp) (vs:List V) (Q:VK) (E:XK),dD k (A.deeper (envOfC qual scope s.heap.objs.size f cdv))->sp vs H Q E ->
   ∃t,zq (zN CX P w K mg base N qual scope f cdv A outer s H E) body t/\t { nx:=λ_ H'=>Q .non H',rt:=Q } (start N vs) H) :
  fF P w K mg base CX (k+1) f (fnOf name qual params body scope dV kV doc pm an cdv ct) ps sp:=by
 refine⟨len,λA outer s H args us vs Q E hr e0 hb r hsp=>?_⟩;have hl:=len _ _ _ _ hsp;have KX:K.In s.heap:=e0.mod.Pu.keeps λb o e=>(e0.bs b o e).1;have lim:s.heap.NoLimit:=e0.mod.nolimit.keeps λb o e=>(e0.bs b o e).1;have hkind:∀y∈ps.zip us,scope.names.lookup y.1=some .local\/(scope.names.lookup y.1=some .cell/\((cellsFrom (s.heap.objs.size+1) scope.names []).lookup y.1).isSome=true):=λ⟨n,v⟩ hy=>by
  rcases S.par n (of_mem_zip hy).1 with q|q
  ·exact .inl q
  ·exact .inr ⟨q,cellsFrom_some _ _ _ (.inl q)⟩
 refine codeAny_call_function hr.depth (KX _ _ lk) rfl S.co S.gen rfl (PySem.W.codeRec_of KX hcd) (hb _ _ _ _ ?_);refine wpAny_newFunctionEnv_cells S.kind hkind λenv he s1 x=>?_;subst he;refine⟨lim.keeps x.toInCall.keep,codeAny_func ?_⟩;obtain⟨t,ht,hq⟩:=hbody A outer s H vs Q E (hr.deeper _) hsp;have I:Inv (zN CX P w K mg base N qual scope f cdv A outer s H E) [] (start N vs) H s1:=Cm S hr.hd e0 hl r x;refine wpAny_mono (ht [] s1 (start N vs) H _ I hq) (λfl s' hs=>?_) λe s' hs=>hs;have fin:∀{σ':St} {H':Hp} {v:V} {u:Value},Inv (zN CX P w K mg base N qual scope f cdv A outer s H E) [] σ' H' s'->RelV v u->Q v H'->CE outer P w H s Q u s' :=
  λ{σ' H' v u} J rv q=>⟨v,H',J.os,J.bare,J.base,J.hok,rv,q⟩
 cases fl with
 |ret u=>obtain⟨v,σ',H',J,rv,q⟩:=hs;exact fin J rv q
 |next=>obtain⟨σ',H',J,q⟩:=hs;exact fin (v:=V.non) (u:=Value.none) J rfl q
 |brk=>obtain⟨_,_,_,q⟩:=hs;exact False.elim q
 |cont=>obtain⟨_,_,_,q⟩:=hs;exact False.elim q
section
variable {X:Cx} {x:Str} {p pos:Pos} {e:Expr} {es:List Expr} {t:TA} {id T:String} {r:List V->Hp->VK->Prop}
def V3(r:List V->Hp->VK->Prop)(t:TA):TE:=λσ H Q=>t σ H λvs H1=>r vs H1 Q
theorem gG(hc:dm X (.builtin id) r)(hg:Gl X x)(hm:X.mg x=none)(hv:bootBuiltins x=some (.builtin id))(ha:PA X (e::es) t)(hn:x ≠ "__name__":=by decide)(hdb:(x==("__debug__":Str))=false:=by decide)
  (he:starEach (e::es) X.env=(false,eval e X.env)::starEach es X.env:=by rfl) (hpl:(backTo pos (starEach es X.env)).any (·.1)=false:=by rfl):PE X (.Call (.Name x p) (e::es) [] pos) (V3 r t):=by
 intro pins s σ H Q I h;refine aaR (gg I hg hm hv ?_ hn hdb);exact PyProof.Rows.callWith_builtin1 (cg (ha pos pins s σ H _ I h) λus s1 ⟨vs,H1,I1,r1,q1⟩=>hc pins s1 σ H1 vs us Q I1 r1 q1) he hpl
theorem kX(hc:dm X (.type T) r)(hg:Gl X x)(hm:X.mg x=none)(hv:bootBuiltins x=some (.type T))(ha:PA X (e::es) t)(hn:x ≠ "__name__")(hdb:(x==("__debug__":Str))=false)
  (he:starEach (e::es) X.env=(false,eval e X.env)::starEach es X.env) (hpl:(backTo pos (starEach es X.env)).any (·.1)=false):PE X (.Call (.Name x p) (e::es) [] pos) (V3 r t):=by
 intro pins s σ H Q I h;refine aaR (gg I hg hm hv ?_ hn hdb);exact aaS (cg (ha pos pins s σ H _ I h) λus s1 ⟨vs,H1,I1,r1,q1⟩=>hc pins s1 σ H1 vs us Q I1 r1 q1) he hpl
end
end L2
namespace HT
open PySem PyProof.Rows
def lexLt:List Int->List Int->Bool
 |[],[]=>false
 |[],_::_=>true
 |_::_,[]=>false
 |x::xs,y::ys=>if x=y then lexLt xs ys else decide (x<y)
theorem fG(x y:Int)(xs ys:List Int):lexLt (x::xs) (y::ys)=if x=y then lexLt xs ys else decide (x<y):=rfl
theorem tZ:lexLt [] []=false:=rfl
theorem gH(y:Int)(ys:List Int):lexLt [] (y::ys)=true:=rfl
theorem eV(x:Int)(xs:List Int):lexLt (x::xs) []=false:=rfl
section
variable {prog:Program} {w:World} {A:Around} {E:Value->Shared->Prop} {s:Shared}
theorem Iw(ht:IsTup s.heap t vs.toArray)(hb:IsTup s.heap b ws.toArray)(hv:vs≠[])
  (h1:ws=[]->Q (.ref t) s) (h2:ws≠[]->Q (.ref s.heap.objs.size) { s with heap:=s.heap.push { cls:=.type "tuple",data:=.seq (vs++ws).toArray } })
  (hsz:vs.length+ws.length<=sizeLine):wpAny (model prog w) A (binaryOp .Add (.ref t) (.ref b)) Q E s:=by
 obtain⟨⟨cls,dd,data,sl⟩,ho,hc,n,hd⟩:=id ht;obtain⟨⟨Xu,dd2,data2,sl2⟩,ho2,hc2,n2,hd2⟩:=id hb;simp only at hc hd hc2 hd2;subst hc hd hc2 hd2;have e:vs.toArray++ws.toArray=(vs++ws).toArray:=by simp
 by_cases hw:ws=[]
 ·exact concat_meets ⟨_,ho,rfl⟩ ⟨_,ho2,rfl⟩ noFill_tuple_add seq_tuple_add PySem.F.slot_tuple_add PySem.F.entry_tuple_add (PySem.F.args_tuple_add_2 _ _)
   (tuple_addW1 t b vs.toArray ws.toArray n n2 dd dd2 sl sl2 (by simpa using hv) (by simp[hw])) ⟨ho,ho2,h1 hw⟩
 ·refine concat_meets ⟨_,ho,rfl⟩ ⟨_,ho2,rfl⟩ noFill_tuple_add seq_tuple_add PySem.F.slot_tuple_add PySem.F.entry_tuple_add (PySem.F.args_tuple_add_2 _ _)
   (tuple_addW2 t b vs.toArray ws.toArray n n2 dd dd2 sl sl2 (by simpa using hv) (by simpa using hw) (by rw[aak,aak];exact hsz)) ⟨ho,ho2,?_⟩
  rw[e];exact h2 hw
def eE(n d:Nat):Option Int->Nat
 |none=>d
 |some v=>if v<0 then (v+(n:Int)).toNat else min v.toNat n
theorem qU(n d:Nat):eE n d none=d:=rfl
theorem vq(n d k:Nat):eE n d (some (k:Int))=min k n:=by
 show (if (k:Int)<0 then ((k:Int)+(n:Int)).toNat else min (k:Int).toNat n)=min k n;rw[aad (by omega),Int.toNat_natCast]
theorem Mf(n d:Nat)(hd:d<=n)(o:Option Int):eE n d o<=n:=by
 cases o with
 |none=>exact hd
 |some v=>
  show (if v<0 then (v+(n:Int)).toNat else min v.toNat n)<=n
  by_cases hv:v<0
  ·rw[aab hv];omega
  ·rw[aad hv];exact Nat.min_le_right _ _
theorem AF(v:Int)(n d:Nat):(if v<0 then max (v+(n:Int)) 0 else min v (n:Int))=((eE n d (some v):Nat):Int):=by
 show (if v<0 then max (v+(n:Int)) 0 else min v (n:Int))=(((if v<0 then (v+(n:Int)).toNat else min v.toNat n):Nat):Int)
 by_cases hv:v<0
 ·simp only[if_pos hv];omega
 ·simp only[if_neg hv];omega
theorem zO(lo hi:Option Int)(n:Nat):Builtin.Slice.sliceAdjust lo hi 1 (n:Int)=(((eE n 0 lo:Nat):Int),((eE n n hi:Nat):Int)):=by
 have h1:¬ ((1:Int)<0):=by omega
 unfold Builtin.Slice.sliceAdjust;simp only[h1,if_false];refine Prod.ext ?_ ?_
 ·cases lo with
  |none=>rfl
  |some v=>exact AF v n 0
 ·cases hi with
  |none=>rfl
  |some v=>exact AF v n n
theorem zP(i j:Nat):Builtin.Slice.slicePlaces (i:Int) (j:Int) 1=j-i:=by
 unfold Builtin.Slice.slicePlaces;have h1:(1:Int)>0:=by omega
 simp only[h1,if_true,Int.ediv_one]
 split<;>omega
theorem qV{o:Option Int}(p:IsPart v o)(h:Q o s):wpAny (model prog w) A (Builtin.Slice.slicePartIndex v) Q E s:=by
 cases p with
 |none=>exact slicePart_none h
 |int i t=>exact slicePart_int h
theorem oA{lo hi:Option Int}{n:Nat}(hs:s.heap.IsSliceOf sl vl vu .none)(pl:IsPart vl lo)(pu:IsPart vu hi)
  (h:Q (((eE n 0 lo:Nat):Int),1,eE n n hi-eE n 0 lo) s):wpAny (model prog w) A (Builtin.Slice.sliceApplied (.ref sl) (pure (n:Int))) Q E s:=by
 obtain⟨os,hos,hcs,hds⟩:=id hs;unfold Builtin.Slice.sliceApplied Builtin.Slice.sliceFields;refine Z2 (Z2 (wpAny_field hos hds (x:=vl) rfl (Z2 (wpAny_field hos hds (x:=vu) rfl (Z2 (wpAny_field hos hds (x:=.none) rfl (aac ?_)))))));refine Z2 (slicePart_none ?_);show wpAny _ _ (if ((1:Int)==0)=true then _ else _) _ _ s;rw[aad (by decide)];refine Z2 (qV pl (Z2 (qV pu (Z2 (aac ?_)))));show wpAny _ _ (match Builtin.Slice.sliceAdjust lo hi 1 (n:Int) with|(lo,hi)=>pure (lo,(1:Int),Builtin.Slice.slicePlaces lo hi 1)) _ _ s;rw[zO lo hi n];show wpAny _ _ (pure (((eE n 0 lo:Nat):Int),(1:Int),Builtin.Slice.slicePlaces ((eE n 0 lo:Nat):Int) ((eE n n hi:Nat):Int) 1)) _ _ s;rw[zP];exact aac h
theorem DO(xs:Array Value)(i k:Nat):((List.range k).filterMap λ(m:Nat)=>xs[((i:Int)+(m:Int)*1).toNat]?).toArray=((xs.toList.drop i).take k).toArray:=by
 have e:(λ(m:Nat)=>xs[((i:Int)+(m:Int)*1).toNat]?)=λm=>xs[i+m]?:=by
  funext m;have:((i:Int)+(m:Int)*1).toNat=i+m:=by omega
  rw[this]
 rw[e];have:=pick_run xs i k;rw[List.filterMap_map]at this;have e2:((λx=>xs[x]?)∘λx=>i+x)=λm=>xs[i+m]?:=rfl;rw[e2]at this;rw[this]
theorem mV{lo hi:Option Int}(ht:IsTup s.heap t items)(hs:s.heap.IsSliceOf sl vl vu .none)(pl:IsPart vl lo)(pu:IsPart vu hi)
  (hw:¬ (eE items.size 0 lo=0/\eE items.size items.size hi=items.size))
  (h:Q (.ref s.heap.objs.size) { s with heap:=s.heap.push { cls:=.type "tuple",data:=.seq ((items.toList.drop (eE items.size 0 lo)).take (eE items.size items.size hi-eE items.size 0 lo)).toArray } })
  (hsz:items.size<=sizeLine):wpAny (model prog w) A (getItem (.ref t) (.ref sl)) Q E s:=by
 have AG:sizeOk (.seq ((items.toList.drop (eE items.size 0 lo)).take (eE items.size items.size hi-eE items.size 0 lo)).toArray):=by show ((items.toList.drop (eE items.size 0 lo)).take (eE items.size items.size hi-eE items.size 0 lo)).toArray.size<=sizeLine;rw[aak,length_take,length_drop,aaG];omega
 have hj:eE items.size items.size hi<=items.size:=Mf _ _ (aae _) hi;obtain⟨os,hos,hcs,hds⟩:=id hs;have Uw:s.TypeIs (.ref sl) "slice":=⟨os,hos,hcs⟩;unfold getItem
 try with_reducible refine wpAny_holding ?_
 first|refine Z2 (aac ?_)|skip
 refine Z2 (wpAny_sequenceKey ht.typeIs (by decide) ?_);refine Z2 (wpAny_callSpecial?_slot (name:=Str.ofString "__getitem__") ht.typeIs PyProof.Rows.slot_tuple_getitem
  (wpAny_call_entry PyProof.Rows.slot_tuple_getitem ht.typeIs entry_tuple_getitem ?_ (args_tuple_getitem _ _)))
 show wpAny _ _ (Builtin.Tuple.tupleItemsOf (.ref t) >>= _) _ _ s;refine Z2 (tupleItemsOf_ ht ?_);refine Z2 (wpAny_typeOf Uw ?_);rw[aab (by decide)];refine Z2 (oA hs pl pu ?_);have hno:¬ ((((eE items.size 0 lo:Nat):Int)==0&&(1:Int)==1&&(eE items.size items.size hi-eE items.size 0 lo)==items.size)=true):=by intro q;rw[and_eq_true,and_eq_true]at q;have q1:((eE items.size 0 lo:Nat):Int)=0:=eq_of_beq q.1.1;have q2:eE items.size items.size hi-eE items.size 0 lo=items.size:=eq_of_beq q.2;exact hw ⟨by omega,by omega⟩
 show wpAny _ _ (if (((eE items.size 0 lo:Nat):Int)==0&&(1:Int)==1&&(eE items.size items.size hi-eE items.size 0 lo)==items.size)=true then _ else _) _ _ s;rw[aad hno,DO]
 first
  |exact Z2 (m:=Builtin.Tuple.tupleExact _) (aaQ (aac ⟨_,rfl,aac h⟩) AG)
  |exact Z2 (m:=Builtin.Tuple.tupleExact _) (aaQ (Z2 (aac (aac ⟨_,rfl,aac h⟩))) AG)
  |exact Z2 (Z2 (m:=Builtin.Tuple.tupleExact _) (aaQ (aac (aac ⟨_,rfl,aac h⟩)) AG))
  |exact Z2 (Z2 (m:=Builtin.Tuple.tupleExact _) (aaQ (aac ⟨_,rfl,aac h⟩) AG))
end
end HT
namespace L2
open PySem PySem.Spec PyProof.Rows
abbrev TO:=St->Hp->(Option Int->Hp->Prop)->Prop
def PO(X:Cx)(e:Option Expr)(t:TO):Prop :=
 ∀(pins:List (Addr×Obj)) (s:Shared) (σ:St) (H:Hp) (Q:Option Int->Hp->Prop),Inv X pins σ H s->t σ H Q ->
  wpAny (model X.prog X.w) X.A (evalPart e X.env) (λu s'=>∃o H',Inv X pins σ H' s'/\IsPart u o/\Q o H') X.xe s
def Iz:TO:=λ_ H Q=>Q none H
def QF(t:TE):TO:=λσ H Q=>t σ H λx H1=>∃i,x=.int i/\Q (some i) H1
theorem intsAre_of{ns:List Int}:∀{us:List Value},Vals (ns.map V.int) us->IntsAre us ns:=by
 induction ns with
 |nil=>intro us r;rw[map_nil]at r;cases r;exact .nil
 |cons n ns ih=>
  intro us r;rw[aaf]at r;cases r with
  |cons r1 r2=>obtain⟨t,e⟩:=r1;subst e;exact .cons n t (ih r2)
section
variable {X:Cx} {e:Expr} {te:TE} {lo hi:Option Expr} {tl th:TO} {pos p2:Pos}
theorem ID:PO X none Iz:=by
 intro pins s σ H Q I h;rw[evalPart_none];exact aac ⟨none,H,I,.none,h⟩
theorem IF(h:PE X e te):PO X (some e) (QF te):=by
 intro pins s σ H Q I hw;rw[evalPart_some];refine cg (h pins s σ H _ I hw) λu s1 aO=>?_;obtain⟨x,H1,I1,r1,q1⟩:=aO;obtain⟨i,rfl,q⟩:=q1;obtain⟨t,rfl⟩:=r1;exact⟨some i,H1,I1,.int i t,q⟩
def Tv(X:Cx)(r:V->Option Int->Option Int->Hp->VK->Prop):Prop :=
 ∀(pins:List (Addr×Obj)) (s:Shared) (σ:St) (H:Hp) (x:V) (v vl vu:Value) (lo hi:Option Int) (sl:Addr) (Q:VK),Inv X pins σ H s->RelV x v->s.heap.IsSliceOf sl vl vu .none->IsPart vl lo->IsPart vu hi->r x lo hi H Q ->
  ∃T id,typeLookup (.type T) "__getitem__" = pure (some (.builtin id))/\s.TypeIs v T/\wpAny (model X.prog X.w) X.A (getItem v (.ref sl)) (EP X pins σ Q) X.xe s
def Xv(r:V->Option Int->Option Int->Hp->VK->Prop)(te:TE)(tl th:TO):TE:=λσ H Q=>te σ H λx H1=>tl σ H1 λl H2=>th σ H2 λu H3=>r x l u H3 Q
theorem DP(hr:Tv X r)(he:PE X e te)(hl:PO X lo tl)(hu:PO X hi th):PE X (.Subscript e (.Slice lo hi none p2) pos) (Xv r te tl th):=by
 intro pins s σ H Q I h;refine Subscript_ (cg (he pins s σ H _ I h) λv s1 aO=>?_);obtain⟨x,H1,I1,r1,q1⟩:=aO;refine wpAny_Slice (cg (hl pins s1 σ H1 _ I1 q1) λvl s2 ⟨l,H2,I2,pl,q2⟩=>cg (hu pins s2 σ H2 _ I2 q2) λvu s3 aO=>?_);obtain⟨u,H3,I3,pu,q3⟩:=aO;rw[evalPart_none];refine aac ?_;have I4:Inv X pins σ H3 { s3 with heap:=s3.heap.push { cls:=.type "slice",data:=.fields [vl,vu,.none].toArray } }:=I3.kept (t':=s3.toks) λb ob q=>Z7 _ q;obtain⟨T,id,hT,ht,hg⟩:=hr pins { s3 with heap:=s3.heap.push { cls:=.type "slice",data:=.fields [vl,vu,.none].toArray } } σ H3 x v vl vu l u s3.heap.objs.size Q I4 r1 (Heap.IsSliceOf.new ..) pl pu q3;show wpAny (model X.prog X.w) X.A (subscriptTail e (.Slice lo hi none p2) v (.ref s3.heap.objs.size)) (EP X pins σ Q) X.xe { s3 with heap:=s3.heap.push { cls:=.type "slice",data:=.fields [vl,vu,.none].toArray } };exact tail_any (ops:=[.ref s3.heap.objs.size,v]) ht hT hg (by with_unfolding_all rfl)
def xB(xs:List V)(lo hi:Option Int):List V:=(xs.drop (HT.eE xs.length 0 lo)).take (HT.eE xs.length xs.length hi-HT.eE xs.length 0 lo)
theorem pS(xs:List V)(lo hi:Option Int):(xB xs lo hi).length<=xs.length:=by
 unfold xB;rw[length_take,length_drop];omega
def Ux(K:Frag):V->Option Int->Option Int->Hp->VK->Prop:=λx lo hi H Q=>∃a xs,x=.ref a/\j8 K H a xs /\
 ¬ (HT.eE xs.length 0 lo=0/\HT.eE xs.length xs.length hi=xs.length)/\∀p,H p=none->Q (.ref p) (upd H p (.tup (xB xs lo hi)))
theorem Mg:Tv X (Ux X.K):=by
 intro pins s σ H x v vl vu lo hi sl Q I rx hs pl pu h;obtain⟨a,xs,rfl,hx,hw,q⟩:=h;cases rx;obtain⟨its,r,ht,hz⟩:=I.tuple hx;have hlen:its.toArray.size=xs.length:=by rw[aak];exact r.length.symm
 refine⟨"tuple",_,PyProof.Rows.slot_tuple_getitem.lookup,ht.typeIs,?_⟩;refine HT.mV ht hs pl pu (by rw[hlen];exact hw) ?_ (by rw[hlen];exact hz);rw[hlen];refine⟨.ref s.heap.objs.size,_,I.laid (t':=s.toks) (o:=.tup (xB xs lo hi)) (λb ob q=>Z7 _ q) (aae _) ?_,rfl,q _ (I.hok.fresh (aae _))⟩;exact⟨aaD (pS xs lo hi) hz,_,(r.drop (HT.eE xs.length 0 lo)).take (HT.eE xs.length xs.length hi-HT.eE xs.length 0 lo),IsTup.new _ _⟩
def QG(K:Frag):R2:=λx y H Q=>∃a b xs ys,x=.ref a/\y=.ref b/\j8 K H a xs/\j8 K H b ys/\xs≠[]/\xs.length+ys.length<=sizeLine /\
 (ys=[]->Q (.ref a) H)/\(ys≠[]->∀p,H p=none->Q (.ref p) (upd H p (.tup (xs++ys))))
theorem Vals.vv(r:Vals xs us):us=[]↔xs=[]:=by
 cases r with
 |nil=>simp
 |cons _ _=>simp
theorem IG:l0 X (binaryOp .Add) (QG X.K):=by
 intro pins s σ H x y v u Q I rx ry h;obtain⟨a,b,xs,ys,rfl,rfl,ha,hb,hx,hz,q1,q2⟩:=h;cases rx;cases ry;obtain⟨its,r1,p1,_⟩:=I.tuple ha;obtain⟨its2,r2,p2,_⟩:=I.tuple hb;refine HT.Iw p1 p2 (λz=>hx (r1.vv.mp z)) (λz=>⟨.ref a,H,I,rfl,q1 (r2.vv.mp z)⟩) (λz=>?_) (by rw[<-r1.length,<-r2.length];exact hz);refine⟨.ref s.heap.objs.size,_,I.laid (t':=s.toks) (o:=.tup (xs++ys)) (λb ob q=>Z7 _ q) (aae _) ?_,rfl,q2 (λw=>z (r2.vv.mpr w)) _ (I.hok.fresh (aae _))⟩;exact⟨by rw[aag];exact hz,_,r1.append r2,IsTup.new _ _⟩
end
def Cn(n:Nat)(i:Int):Option Nat:=if 0<=i then (if i<n then some i.toNat else none) else if -(n:Int)<=i then some (i+n).toNat else none
def kg{α:Type}(xs:List α)(i:Int):Option α:=(Cn xs.length i).bind λj=>xs[j]?
theorem AH{n:Nat}{i:Int}{j:Nat}(h:Cn n i=some j):seqIndex? i n=some j/\j<n /\ -(n:Int)<=i/\i<n:=by
 unfold Cn at h
 by_cases h0:0<=i
 ·rw[aab h0]at h
  by_cases h1:i<n
  ·rw[aab h1]at h;have e:i.toNat=j:=aav h;exact⟨by rw[seqIndex_of h0 h1,e],by omega,by omega,h1⟩
  ·rw[aad h1]at h;cases h
 ·rw[aad h0]at h
  by_cases h1:-(n:Int)<=i
  ·rw[aab h1]at h;have e:(i+n).toNat=j:=aav h;exact⟨by rw[seqIndex_neg (by omega) h1,e],by omega,h1,by omega⟩
  ·rw[aad h1]at h;cases h
theorem vz{α:Type}{xs:List α}{i:Int}{v:α}(h:kg xs i=some v):∃j,seqIndex? i xs.length=some j/\xs[j]?=some v/\j<xs.length /\ -(xs.length:Int)<=i/\i<xs.length:=by
 unfold kg at h;cases e:Cn xs.length i with
 |none=>rw[e]at h;cases h
 |some j=>rw[e]at h;obtain⟨h1,h2,h3,h4⟩:=AH e;exact⟨j,h1,h,h2,h3,h4⟩
theorem qB{α:Type}{xs:List α}{j:Nat}{v:α}(h:xs[j]?=some v):kg xs (j:Int)=some v:=by
 have hj:j<xs.length:=(Z8.mp h).1;have e:Cn xs.length (j:Int)=some j:=by unfold Cn;rw[aab (by omega),aab (by omega)];simp
 unfold kg;rw[e];exact h
def AI(b:Expr):Prop:=∀o i,subscripted b false o i=operate [o,i] (getItem o i)
def PB(X:Cx)(r:R2):Prop :=
 ∀(value slice:Expr) (pins:List (Addr×Obj)) (s:Shared) (σ:St) (H:Hp) (x y:V) (v u:Value) (Q:VK),Inv X pins σ H s->RelV x v->RelV y u->r x y H Q ->
  subscripted slice false v u=operate [v,u] (getItem v u)->wpAny (model X.prog X.w) X.A (subscriptTail value slice v u) (EP X pins σ Q) X.xe s
def Mh(X:Cx)(id:String)(r:V->List V->Hp->VK->Prop):Prop :=
 ∀(pins:List (Addr×Obj)) (s:Shared) (σ:St) (H:Hp) (x:V) (xs:List V) (v:Value) (us:List Value) (Q:VK),Inv X pins σ H s->RelV x v->Vals xs us->r x xs H Q ->
  wpAny (model X.prog X.w) X.A (call (.builtin id) (v::us)) (EP X pins σ Q) X.xe s
section
variable {X:Cx} {a b:Expr} {ta tb:TE} {pos:Pos}
theorem QH(hr:PB X r)(ha:PE X a ta)(hb:PE X b tb)(hs:AI b):PE X (.Subscript a b pos) (Pz r ta tb):=by
 intro pins s σ H Q I h;exact Subscript_ (LW ha hb I h λv u s2 x y H2 I2 rx ry q=>hr a b pins s2 σ H2 x y v u Q I2 rx ry q (hs _ _))
def Uy(K:Frag):R2:=λx y H Q=>∃p xs i v,x=.ref p/\y=.int i/\gF K H p xs/\kg xs i=some v/\Q v H
def Uz(K:Frag):R2:=λx y H Q=>∃p xs i v,x=.ref p/\y=.int i/\j8 K H p xs/\kg xs i=some v/\Q v H
def UA:R2:=λx y H Q=>∃z i c,x=.str z/\y=.int i/\z.length<=sizeLine/\kg z.cps.toList i=some c/\Q (.str ⟨[c].toArray⟩) H
theorem AJ:PB X (Uy X.K):=by
 intro value slice pins s σ H x y v u Q I rx ry h hs;obtain⟨p,xs,i,z,rfl,rfl,hq,he,q⟩:=h;cases rx;obtain⟨t,rfl⟩:=ry;obtain⟨its,r,pl,hz⟩:=I.list hq;obtain⟨j,h1,h2,h3,h4,h5⟩:=vz he;obtain⟨w,ew,rw'⟩:=r.get h2;have hl:=r.length;have hn:=oq;have fin:EP X pins σ Q w s:=⟨z,H,I,rw',q⟩
 by_cases h0:0<=i
 ·have hj:i.toNat=j:=by
   rw[seqIndex_of h0 h5]at h1;exact aav h1
  exact item_listR pl.isList h0 (by omega) (by rw[hj];simpa using ew) fin hs
 ·have hj:(i+(its.toArray.size:Int)).toNat=j:=by
   rw[seqIndex_neg (by omega) h4]at h1;rw[aak,<-hl];exact aav h1
  exact subscriptTail_builtinR (x:=w) pl.isList.typeIs slot_list_getitem.lookup
   (wpAny_getItem_list_neg (Q:=λr s'=>r=w/\EP X pins σ Q r s') pl.isList (by omega) (by rw[aak]<;>omega) (by omega) (by rw[hj];simpa using ew) ⟨rfl,fin⟩) hs
theorem Mi:PB X (Uz X.K):=by
 intro value slice pins s σ H x y v u Q I rx ry h hs;obtain⟨p,xs,i,z,rfl,rfl,hq,he,q⟩:=h;cases rx;obtain⟨t,rfl⟩:=ry;obtain⟨its,r,pl,hz⟩:=I.tuple hq;obtain⟨j,h1,h2,h3,h4,h5⟩:=vz he;obtain⟨w,ew,rw'⟩:=r.get h2;have hl:=r.length;have hn:=oq;have fin:EP X pins σ Q w s:=⟨z,H,I,rw',q⟩;exact subscriptTail_builtinR (x:=w) pl.typeIs slot_tuple_getitem.lookup
  (getItem_tuple (j:=j) (Q:=λr s'=>r=w/\EP X pins σ Q r s') pl (by omega) (by omega) (by rw[aak,<-hl];exact h1) (by simpa using ew) ⟨rfl,fin⟩) hs
theorem Mj:PB X UA:=by
 intro value slice pins s σ H x y v u Q I rx ry h hs;obtain⟨z,i,c,rfl,rfl,hz,he,q⟩:=h;obtain⟨t,rfl⟩:=rx;obtain⟨t',rfl⟩:=ry;obtain⟨j,h1,h2,h3,h4,h5⟩:=vz he;have hl:z.cps.toList.length=z.length:=by simp[Str.length]
 rw[hl]at h1 h4 h5;have hn:=oq;exact tail_any (typeIs_str s z t) slot_str_getitem.lookup (getItem_str (c:=c) (by
  have e1:decide (i < -(2 ^ 63:Int))=false:=decide_eq_false (by omega);have e2:decide (i≥2 ^ 63)=false:=decide_eq_false (by omega);rw[e1,e2,Bool.or_false]) (by rw[h1];simpa using h2) ⟨.str ⟨[c].toArray⟩,H,I.tok _,⟨_,rfl⟩,q⟩) hs
theorem zQ(its:List Value)(n j:Nat)(u:Value):Obj.mapSeq (·.setIfInBounds j u) { cls:=.type "list",data:=.seq its.toArray n }={ cls:=.type "list",data:=.seq (its.set j u).toArray n }:=by
 simp[Obj.mapSeq]
theorem Inv.lst(I:Inv X pins σ H s)(h:H p=some (.lst xs)) :
  ∃(its:List Value) (n:Nat),Vals xs its/\s.heap.get? p=some { cls:=.type "list",data:=.seq its.toArray n }/\xs.length<=sizeLine:=by
 obtain⟨z,its,n,r,e⟩:=I.hok p _ h;exact⟨its,n,r,e,z⟩
theorem Inv.Ml{pins:List (Addr×Obj)}{σ:St}{H:Hp}{s:Shared}{p:Addr}{xs ys:List V}{its its':List Value}{n n':Nat}{f:Obj->Obj}(I:Inv X pins σ H s)(h:H p=some (.lst xs))
  (ho:s.heap.get? p=some { cls:=.type "list",data:=.seq its.toArray n }) (hf:f { cls:=.type "list",data:=.seq its.toArray n }={ cls:=.type "list",data:=.seq its'.toArray n' }) (r:Vals ys its') (hz:ys.length<=sizeLine) (t:Nat) :
  Inv X pins σ (upd H p (.lst ys)) { s with heap:=s.heap.update p f,toks:=t }:=by
 have e:(s.heap.update p f).get? p=some { cls:=.type "list",data:=.seq its'.toArray n' }:=by rw[get?_update_self f ho (by rw[hf]<;>rfl),hf]
 refine I.write (x:=p) (e:=p) (by rw[h];trivial) (.inl rfl) (λb u hb q=>(get?_update_other _ _ (Ne.symm hb)).trans q) ⟨_,e⟩ ?_;exact⟨hz,its',n',r,e⟩
def QI:V->V->V->Hp->(Hp->Prop)->Prop:=λo i v H Q=>∃p xs k j,o=.ref p/\i=.int k/\H p=some (.lst xs)/\Cn xs.length k=some j/\Q (upd H p (.lst (xs.set j v)))
theorem set_list:LQ X QI:=by
 intro pins s σ H o i v ov iv u Q I ro ri rv h;obtain⟨p,xs,k,j,rfl,rfl,hp,hj,q⟩:=h;cases ro;obtain⟨t,rfl⟩:=ri;obtain⟨its,n,r,ho,hz⟩:=I.lst hp;obtain⟨h1,h2,h3,h4⟩:=AH hj;have hl:=r.length;have hn:=oq;have I':Inv X pins σ (upd H p (.lst (xs.set j v))) { s with heap:=s.heap.update p (Obj.mapSeq (·.setIfInBounds j u)) } :=
  I.Ml hp ho (zQ its n j u) (r.set rv j) (by rw[length_set];exact hz) s.toks
 by_cases h0:0<=k
 ·have hk:k.toNat=j:=by
   rw[seqIndex_of h0 h4]at h1;exact aav h1
  exact PySem.W.ki_setAt ho h0 (by omega) (by rw[aak,<-hl];exact h4) (by rw[hk];exact⟨_,I',q⟩)
 ·have hk:(k+(its.toArray.size:Int)).toNat=j:=by
   rw[seqIndex_neg (by omega) h3]at h1;rw[aak,<-hl];exact aav h1
  exact PySem.W.ki_setBack ho (by omega) (by rw[aak,<-hl];exact h3) (by omega) (by rw[hk];exact⟨_,I',q⟩)
theorem vA(lo hi:Option Int)(n:Nat):(sliceBounds lo hi none n).1=((HT.eE n 0 lo:Nat):Int)/\(sliceBounds lo hi none n).2.1=((HT.eE n n hi:Nat):Int)/\(sliceBounds lo hi none n).2.2=1:=by
 refine⟨?_,?_,rfl⟩
 ·cases lo with
  |none=>simp[sliceBounds,HT.eE]
  |some i=>
   simp only[sliceBounds,HT.eE,getD_none,show (1:Int)>0 by decide,if_true]
   by_cases h:i<0
   ·simp only[h,if_true]<;>omega
   ·simp only[h,if_false]<;>omega
 ·cases hi with
  |none=>simp[sliceBounds,HT.eE]
  |some i=>
   simp only[sliceBounds,HT.eE,getD_none,show (1:Int)>0 by decide,if_true]
   by_cases h:i<0
   ·simp only[h,if_true]<;>omega
   ·simp only[h,if_false]<;>omega
theorem t6(its:List Value)(lo hi:Option Int):slicePick its.toArray lo hi none=((its.drop (HT.eE its.length 0 lo)).take (HT.eE its.length its.length hi-HT.eE its.length 0 lo)).toArray:=by
 obtain⟨h1,h2,h3⟩:=vA lo hi its.toArray.size;unfold slicePick;rw[h1,h2,h3];simp only[sliceRange_one,pick_run,size_toArray]<;>rfl
def UB(K:Frag):V->Option Int->Option Int->Hp->VK->Prop:=λx lo hi H Q=>∃a xs,x=.ref a/\gF K H a xs/\∀p,H p=none->Q (.ref p) (upd H p (.lst (xB xs lo hi)))
theorem II:Tv X (UB X.K):=by
 intro pins s σ H x v vl vu lo hi sl Q I rx hs pl pu h;obtain⟨a,xs,rfl,hx,q⟩:=h;cases rx;obtain⟨its,r,ht,hz⟩:=I.list hx;have hlen:=r.length;refine⟨"list",_,slot_list_getitem.lookup,ht.isList.typeIs,?_⟩;refine wpAny_getItem_list_slice ht.isList hs pl pu .none (by simp) ?_ (by rw[aak]<;>omega);rw[t6,<-hlen];refine⟨.ref s.heap.objs.size,_,I.laid (t':=s.toks) (o:=.lst (xB xs lo hi)) (λb ob q=>Z7 _ q) (aae _) ?_,rfl,q _ (I.hok.fresh (aae _))⟩;exact⟨aaD (pS xs lo hi) hz,_,0,(r.drop (HT.eE xs.length 0 lo)).take (HT.eE xs.length xs.length hi-HT.eE xs.length 0 lo),aao _ rfl⟩
def lM:V->Bool
 |.non=>true
 |.bl _=>true
 |.int _=>true
 |.str _=>true
 |_=>false
def K0:V->V->Bool
 |.non,.non=>true
 |.bl a,.bl b=>a==b
 |.bl a,.int b=>(if a then 1 else 0)==b
 |.int a,.bl b=>a==(if b then 1 else 0)
 |.int a,.int b=>a==b
 |.str a,.str b=>a==b
 |_,_=>false
theorem Mm(ry:RelV y u)(rx:RelV x v)(fy:lM y=true)(fx:lM x=true):SeqAt.EqAt A s u v (K0 y x):=by
 cases y with
 |non=>
  cases ry;cases x with
  |non=>cases rx;exact SeqAt.EqAt.same _
  |bl b=>cases rx;exact SeqAt.EqAt.none_bool b
  |int b=>obtain⟨t,rfl⟩:=rx;exact SeqAt.EqAt.none_int b t
  |str b=>obtain⟨t,rfl⟩:=rx;exact SeqAt.EqAt.none_str b t
  |_=>exact absurd (show false=true from fx) Z3
 |bl a=>
  cases ry;cases x with
  |non=>cases rx;exact SeqAt.EqAt.bool_none a
  |bl b=>cases rx;exact SeqAt.EqAt.bool_bool a b
  |int b=>obtain⟨t,rfl⟩:=rx;exact SeqAt.EqAt.bool_int a b t
  |str b=>obtain⟨t,rfl⟩:=rx;exact SeqAt.EqAt.bool_str a b t
  |_=>exact absurd (show false=true from fx) Z3
 |int a=>
  obtain⟨t',rfl⟩:=ry;cases x with
  |non=>cases rx;exact SeqAt.EqAt.int_none a t'
  |bl b=>cases rx;exact SeqAt.EqAt.int_bool a t' b
  |int b=>obtain⟨t,rfl⟩:=rx;exact SeqAt.EqAt.int_int a t' b t
  |str b=>obtain⟨t,rfl⟩:=rx;exact SeqAt.EqAt.int_str a t' b t
  |_=>exact absurd (show false=true from fx) Z3
 |str a=>
  obtain⟨t',rfl⟩:=ry;cases x with
  |non=>cases rx;exact SeqAt.EqAt.str_none a t'
  |bl b=>cases rx;exact SeqAt.EqAt.str_bool a t' b
  |int b=>obtain⟨t,rfl⟩:=rx;exact SeqAt.EqAt.str_int a t' b t
  |str b=>obtain⟨t,rfl⟩:=rx;exact SeqAt.EqAt.str_str a t' b t
  |_=>exact absurd (show false=true from fx) Z3
 |_=>exact absurd (show false=true from fy) Z3
def IJ(x:V)(u:Value):Bool:=match u with
 |.none=>K0 .non x
 |.bool b=>K0 (.bl b) x
 |.int i _=>K0 (.int i) x
 |.str z _=>K0 (.str z) x
 |_=>false
theorem DQ(r:RelV y u)(f:lM y=true):IJ x u=K0 y x:=by
 cases y with
 |non=>cases r;rfl
 |bl b=>cases r;rfl
 |int i=>obtain⟨t,rfl⟩:=r;rfl
 |str z=>obtain⟨t,rfl⟩:=r;rfl
 |_=>exact absurd (show false=true from f) Z3
theorem vB:∀{xs:List V} {us:List Value},Vals xs us->xs.all lM=true->us.any (IJ x)=xs.any λy=>K0 y x
 |_,_,.nil,_=>rfl
 | y::xs,u::us,.cons r t,f=>by
  rw[all_cons,and_eq_true]at f;rw[any_cons,any_cons,DQ r f.1,vB t f.2]
theorem qW(rx:RelV x v)(fx:lM x=true):∀{xs:List V} {us:List Value},Vals xs us->xs.all lM=true->∀u∈us,SeqAt.EqAt A s u v (IJ x u)
 |_,_,.nil,_=>λu hu=>by cases hu
 | y::xs,u::us,.cons r t,f=>λu' hu=>by
  rw[all_cons,and_eq_true]at f
  rcases aap.mp hu with rfl|hu
  ·rw[DQ r f.1];exact Mm r rx f.1 fx
  ·exact qW rx fx t f.2 u' hu
def HL(x:V)(xs:List V):Bool:=xs.any λy=>K0 y x
def UC(K:Frag)(neg:Bool):R2:=λx y H Q=>∃p xs,y=.ref p/\(gF K H p xs\/j8 K H p xs)/\lM x=true/\xs.all lM=true/\Q (.bl (if neg then !HL x xs else HL x xs)) H
theorem vC:l0 X (compareOp .NotIn) (UC X.K true):=by
 intro pins s σ H x y v u Q I rx ry h;obtain⟨p,xs,rfl,hq,fx,fs,q⟩:=h;cases ry
 rcases hq with hq|hq
 ·obtain⟨its,r,pl,hz⟩:=I.list hq;refine SeqAt.notIn_listAt (IJ x) pl.isList (λw hw=>qW rx fx r fs w (by simpa using hw)) ⟨.bl _,H,I,rfl,?_⟩;rw[show its.toArray.any (IJ x)=its.any (IJ x) by simp,vB r fs];exact q
 ·obtain⟨its,r,pl,hz⟩:=I.tuple hq;refine SeqAt.notIn_tupleAt (IJ x) pl (λw hw=>qW rx fx r fs w (by simpa using hw)) ⟨.bl _,H,I,rfl,?_⟩;rw[show its.toArray.any (IJ x)=its.any (IJ x) by simp,vB r fs];exact q
theorem vD:dm X (.type "list") (λxs H Q=>∃p ys,xs=[.ref p]/\(gF X.K H p ys\/j8 X.K H p ys)/\∀l,H l=none->Q (.ref l) (upd H l (.lst ys))):=by
 intro pins s σ H xs us Q I r h;obtain⟨p,ys,rfl,hq,q⟩:=h;obtain⟨u,rfl,rx⟩:=vals1 r;cases rx;have fin:∀(its:List Value),Vals ys its->ys.length<=sizeLine->∀(h':Heap) (c':Nat),(∀b o',s.heap.get? b=some o'->h'.get? b=some o') ->
   h'.get? s.heap.objs.size=some { cls:=.type "list",dict:=none,data:=.seq its.toArray c',slots:=#[] }->EP X pins σ Q (.ref s.heap.objs.size) { s with heap:=h' }:=λits r' hz h' c' kp e=>
  ⟨.ref s.heap.objs.size,_,I.laid (t':=s.toks) kp (aae _) (show bJ X.prog X.w _ h' _ (.lst ys) from⟨hz,its,c',r',e⟩),rfl,q _ (I.hok.fresh (aae _))⟩
 rcases hq with hq|hq
 ·obtain⟨its,r',pl,hz⟩:=I.list hq;have hlen:=r'.length;obtain⟨o,ho,hc,n,hd⟩:=pl.isList;exact call_list_seq p (.inl rfl) ho hc hd (λh' c' kp e=>fin its r' hz h' c' kp e) (by simp only[size_toArray]<;>omega)
 ·obtain⟨its,r',pl,hz⟩:=I.tuple hq;have hlen:=r'.length;obtain⟨o,ho,hc,n,hd⟩:=pl;exact call_list_seq p (.inr rfl) ho hc hd (λh' c' kp e=>fin its r' hz h' c' kp e) (by simp only[size_toArray]<;>omega)
def UD(K:Frag)(T:String)(x:V)(H:Hp):Prop:=match x with
 |.str _=>T = "str"
 |.int _=>T = "int"
 | .ref p=>(T = "list" /\ ∃xs,gF K H p xs)\/(T = "tuple" /\ ∃o,K.lookup p=some o/\o.cls=.type "tuple" /\ o.dict=none) \/
   (T = "dict" /\ ((∃kvs,H p=some (.dK kvs))\/∃kvs,H p=some (.dT kvs)))\/(T = "set" /\ ∃S n,H p=some (.set S n))
 |_=>False
theorem Mn{T:String}(I:Inv X pins σ H s)(r:RelV x v)(ty:UD X.K T x H) :
  s.TypeIs v T/\∀a,v=.ref a->∃ob,s.heap.get? a=some ob/\ob.dict=none:=by
 cases x with
 |str z=>obtain⟨t,rfl⟩:=r;cases (show T = "str" from ty);exact⟨typeIs_str s z t,λ_ e=>nomatch e⟩
 |int i=>obtain⟨t,rfl⟩:=r;cases (show T = "int" from ty);exact⟨typeIs_int s i t,λ_ e=>nomatch e⟩
 |ref p=>
  cases r
  rcases ty with ⟨rfl,xs,hq⟩|⟨rfl,o,hk,hc,hd⟩|⟨rfl,hk⟩|⟨rfl,S,n,hk⟩
  ·obtain⟨its,_,pl,_⟩:=I.list hq;refine⟨pl.isList.typeIs,λa e=>?_⟩;cases e;obtain⟨o,n,e,c,hd,_⟩:=pl;exact⟨o,e,hd⟩
  ·refine⟨⟨o,I.oj p o hk,hc⟩,λa e=>?_⟩;cases e;exact⟨o,I.oj _ o hk,hd⟩
  ·have z:∃o,s.heap.get? p=some o/\o.ExactDict:=by
    rcases hk with ⟨kvs,hk⟩|⟨kvs,hk⟩
    ·obtain⟨_,_,_,_,o,_,_,e,ex,_⟩:=I.hok p _ hk;exact⟨o,e,ex⟩
    ·obtain⟨_,_,_,_,o,_,_,e,ex,_⟩:=I.hok p _ hk;exact⟨o,e,ex⟩
   obtain⟨o,e,ex⟩:=z;refine⟨⟨o,e,ex.1⟩,λa e2=>?_⟩;cases e2;exact⟨o,e,ex.2.1⟩
  ·obtain⟨o,_,_,_,e,ex,_⟩:=I.hok p _ hk;refine⟨⟨o,e,ex.1⟩,λa e2=>?_⟩;cases e2;exact⟨o,e,ex.2.1⟩
 |_=>exact False.elim ty
def V4(K:Frag)(T:String)(r:V->List V->Hp->VK->Prop)(to:TE)(t:TA):TE:=λσ H Q=>to σ H λx H1=>UD K T x H1/\t σ H1 λxs H2=>r x xs H2 Q
variable {o e:Expr} {es:List Expr} {to:TE} {t:TA} {name:Str} {apos cpos:Pos} {T id:String} {r:V->List V->Hp->VK->Prop}
theorem xC(pa:PlainAttrs T)(slot:Slot T name id)(hty:typeOf (.builtin id)=pure (.type "method_descriptor"))(hm:Mh X id r)(ho:PE X o to)(ha:PA X (e::es) t)
  (hbase:attributeBase o name X.env (eval o X.env)=eval o X.env)
  (hfew:((backTo cpos (starEach (e::es) X.env)).all (λx=>!x.1)&&(backToKw cpos (keywordEach [] X.env)).all (λx=>x.1.isSome)
   && decide ((e::es).length+([]:List Keyword).length+(if ([]:List Keyword).isEmpty then 0 else 1)<30))=true)
  (hline:(apos.endLine==cpos.line)=true) (hs:starEach (e::es) X.env=(false,eval e X.env)::starEach es X.env) (hplain:(backTo cpos (starEach es X.env)).any (·.1)=false) :
  PE X (.Call (.Attribute o name apos) (e::es) [] cpos) (V4 X.K T r to t):=by
 intro pins s σ H Q I h;refine wpAny_Call_method_late hbase hfew hline rfl (cg (ho pins s σ H _ I h) λv s1 aO=>?_);obtain⟨x,H1,I1,r1,ty,q1⟩:=aO;obtain⟨h1,h2⟩:=Mn I1 r1 ty;refine⟨T,id,pa,slot,hty,h1,h2,?_⟩;have hA:=ha cpos pins s1 σ H1 _ I1 q1;rw[hs]at hA |-;refine Calls.callWith_builtin (by show (false||(backTo cpos (starEach es X.env)).any (·.1))=false;rw[hplain]<;>rfl) (Calls.evalArgs_plain ?_);exact cg hA λus s2 ⟨vs,H2,I2,r2,q2⟩=>hm pins s2 σ H2 x vs v us Q I2 r1 r2 q2
/- xs.append(e),list.index on a QJ tuple .. are Mh facts of 06m -/
end
def QK(X:Cx)(id:String)(r:V->List V->Hp->VK->Prop):Prop :=
 ∀(pins:List (Addr×Obj)) (s:Shared) (σ:St) (H:Hp) (x:V) (xs:List V) (v:Value) (us:List Value) (Q:VK),Inv X pins σ H s->RelV x v->Vals xs us->r x xs H Q ->
  wpAny (model X.prog X.w) X.A (call (.builtin id) (v::us)) (EP X pins σ Q) X.xe s
theorem Vals.one:∀{x:V} {us:List Value},Vals [x] us->∃u,us=[u]/\RelV x u
 |_,_,.cons r .nil=>⟨_,rfl,r⟩
theorem Vals.eraseIdx:∀{xs:List V} {us:List Value} (i:Nat),Vals xs us->Vals (xs.eraseIdx i) (us.eraseIdx i)
 |_,_,_,.nil=>.nil
 |_,_,0,.cons _ t=>t
 |_,_,i+1,.cons r t=>.cons r (Vals.eraseIdx i t)
theorem oB{α:Type}:∀(l:List α) (i:Nat),(l.eraseIdx i).length<=l.length
 |[],_=>aae _
 |_::_,0=>le_succ _
 |_::r,i+1=>Nat.succ_le_succ (oB r i)
section
variable {X:Cx} {pins:List (Addr×Obj)} {σ:St} {H:Hp} {s:Shared} {l b:Addr} {xs ys zs:List V}
theorem Inv.DR{its its':List Value}{n:Nat}{f:Array Value->Array Value}{t':Nat}(I:Inv X pins σ H s)(hH:H l=some (.lst xs))
  (e:s.heap.get? l=some { cls:=.type "list",data:=.seq its.toArray n }) (hf:f its.toArray=its'.toArray) (hv:Vals ys its') (hz:ys.length<=sizeLine) :
  Inv X pins σ (upd H l (.lst ys)) { s with heap:=s.heap.update l (Obj.mapSeq f),toks:=t' }:=by
 have q:=PySem.IsL.update e f;rw[hf]at q;refine I.write (x:=l) (e:=l) (by rw[hH];exact trivial) (.inl rfl) (λb' u hb hu=>(get?_update_other s.heap (Obj.mapSeq f) (Ne.symm hb)).trans hu) ⟨_,q⟩ ?_;exact⟨hz,its',_,hv,q⟩
theorem Inv.UE{t':Nat}(I:Inv X pins σ H s)(hv:Vals ys its)(hz:ys.length<=sizeLine) :
  Inv X pins σ (upd H s.heap.objs.size (.lst ys)) { s with heap:=s.heap.push { cls:=.type "list",data:=.seq its.toArray },toks:=t' } :=
 I.laid (λ_ _ q=>Z7 _ q) (aae _) ⟨hz,its,0,hv,aao _ rfl⟩
theorem Inv.Co(I:Inv X pins σ H s)(hH:H l=some (.lst xs)):xs.length<=sizeLine/\∃(its:List Value) (n:Nat),Vals xs its/\xs.length=its.length/\s.heap.get? l=some { cls:=.type "list",data:=.seq its.toArray n }:=by
 obtain⟨z,its,n,r,e⟩:=I.hok l _ hH;exact⟨z,its,n,r,r.length,e⟩
theorem xD{n:Nat}(h:n<=sizeLine):Builtin.List.listTooLong n=false:=by
 unfold Builtin.List.listTooLong;exact decide_eq_false (by omega)
end
section
variable {X:Cx}
def IK:V->List V->Hp->VK->Prop:=λx vs H Q=>∃l xs y,x=.ref l/\vs=[y]/\H l=some (.lst xs)/\xs.length<sizeLine/\Q .non (upd H l (.lst (xs++[y])))
theorem uv:QK X "list.append" IK:=by
 intro pins s σ H x vs v us Q I rx rv h;obtain⟨l,xs,y,rfl,rfl,hH,hz,q⟩:=h;cases rx;obtain⟨u,rfl,ru⟩:=rv.one;obtain⟨z,its,n,r,hl,e⟩:=I.Co hH;refine call_meets F.slot_list_append ⟨_,e,rfl⟩ F.entry_list_append (F.args_list_append_2 _ _) (PySem.list_append l its.toArray n u (by rw[aak];omega)) ⟨e,?_⟩;refine⟨.non,_,I.DR (its':=its++[u]) hH e (by simp) (r.append #[ru]) ?_,rfl,q⟩;rw[aag,aaT];omega
def IL:V->List V->Hp->VK->Prop:=λx vs H Q=>∃l b xs zs,x=.ref l/\vs=[.ref b]/\H l=some (.lst xs)/\H b=some (.lst zs)/\xs.length+zs.length<=sizeLine/\Q .non (upd H l (.lst (xs++zs)))
theorem Cp:QK X "list.extend" IL:=by
 intro pins s σ H x vs v us Q I rx rv h;obtain⟨l,b,xs,zs,rfl,rfl,hH,hB,hz,q⟩:=h;cases rx;obtain⟨u,rfl,ru⟩:=rv.one;cases ru;obtain⟨z,its,n,r,hl,e⟩:=I.Co hH;obtain⟨z2,its2,n2,r2,hl2,e2⟩:=I.Co hB;have hsz:its.toArray.size+its2.toArray.size<=sizeLine:=by rw[aak,aak];omega
 have DS:¬ (!its.toArray.isEmpty&&Builtin.List.listTooLong (its.toArray.size+its2.toArray.size))=true:=by rw[xD hsz,Bool.and_false];exact Z3
 refine call_meets F.slot_list_extend ⟨_,e,rfl⟩ F.entry_list_extend (F.args_list_extend_2 _ _)
  (AutoSeq1.list_extend_list_list_0 l its.toArray n b its2.toArray n2 DS (by rw[aak];omega) (by omega)) ⟨e,e2,?_⟩
 refine⟨.non,_,I.DR (its':=its++its2) hH e (by simp) (r.append r2) ?_,rfl,q⟩;rw[aag];omega
def Mp:V->List V->Hp->VK->Prop:=λx vs H Q=>∃l xs i k y,x=.ref l/\vs=[.int i]/\H l=some (.lst xs) /\ -(2 ^ 63)<=i/\i<2 ^ 63/\seqIndex? i xs.length=some k/\xs[k]?=some y/\Q y (upd H l (.lst (xs.eraseIdx k)))
theorem DT:QK X "list.pop" Mp:=by
 intro pins s σ H x vs v us Q I rx rv h;obtain⟨l,xs,i,k,y,rfl,rfl,hH,h1,h2,hk,hy,q⟩:=h;cases rx;obtain⟨u,rfl,ru⟩:=rv.one;obtain⟨t,rfl⟩:=ru;obtain⟨z,its,n,r,hl,e⟩:=I.Co hH;obtain⟨w,hw,rw'⟩:=r.get hy;refine call_meets F.slot_list_pop ⟨_,e,rfl⟩ F.entry_list_pop (F.args_list_pop_2 _ _)
  (MeetsSeq.list_pop_at l its.toArray n i t k w (fitsIndex_both h1 h2) (by rw[aak,<-hl];exact hk) (by rw[<-getElem?_toList];exact hw) (by rw[aak];omega)) ⟨e,?_⟩
 refine⟨y,_,I.DR (its':=its.eraseIdx k) hH e ?_ (r.eraseIdx k) ?_,rw',q⟩
 ·show its.toArray.eraseIdxIfInBounds k=(its.eraseIdx k).toArray;rw[List.eraseIdxIfInBounds_toArray]
 ·have:=oB xs k;omega
end
section
variable {κ:Type} [DecidableEq κ]
def iD(kvs:List (κ × V))(k:κ):Option V:=(kvs.find? λkv=>decide (kv.1=k)).map (·.2)
def putK(kvs:List (κ × V))(k:κ)(v:V):List (κ × V) :=
 if (kvs.any λkv=>decide (kv.1=k))=true then kvs.map (λkv=>if kv.1=k then (kv.1,v) else kv) else kvs++[(k,v)]
theorem qX{p:κ × V}{r:List (κ × V)}{k:κ}(e:p.1=k):iD (p::r) k=some p.2:=by simp[iD,find?_cons,e]
theorem qY{p:κ × V}{r:List (κ × V)}{k:κ}(e:¬ p.1=k):iD (p::r) k=iD r k:=by simp[iD,find?_cons,e]
theorem xE(k:κ):∀kvs:List (κ × V),(kvs.any λkv=>decide (kv.1=k))=(iD kvs k).isSome
 |[]=>rfl
 | p::r=>by
  rw[any_cons]
  by_cases e:p.1=k
  ·simp only[qX e,decide_eq_true e,Bool.true_or,isSome_some]
  ·rw[qY e,decide_eq_false e,Bool.false_or];exact xE k r
theorem kh(kvs:List (κ × V))(k:κ)(v:V):(putK kvs k v).length<=kvs.length+1:=by
 unfold putK
 split
 ·rw[Z9];omega
 ·rw[aag,aaq,length_nil];omega
theorem jZ.iT(r:jZ o u):o.isSome=u.isSome:=by
 cases o with
 | none=>cases u with
  |none=>rfl
  |some _=>exact(show False from r).elim
 | some _=>cases u with
  |none=>exact(show False from r).elim
  |some _=>rfl
theorem jZ.getD(r:jZ o u)(rd:RelV d d'):RelV (o.getD d) (u.getD d'):=by
 cases o with
 | none=>cases u with
  |none=>exact rd
  |some _=>exact(show False from r).elim
 | some _=>cases u with
  |none=>exact(show False from r).elim
  |some _=>exact r
theorem KV.val(r:KV kvs vs)(k:κ):jZ (iD kvs k) (valueAt vs k):=by
 unfold KV at r
 induction r with
 |nil=>exact True.intro
 |@cons p q ps qs h t ih=>
  obtain⟨h1,h2⟩:=h
  by_cases e:p.1=k
  ·have e':q.1=k:=h1.symm.trans e
   have b:valueAt (q::qs) k=some q.2:=by simp[valueAt,find?_cons,e']
   rw[qX e,b];exact h2
  ·have e':¬ q.1=k:=λz=>e (h1.trans z)
   have b:valueAt (q::qs) k=valueAt qs k:=by simp[valueAt,find?_cons,e']
   rw[qY e,b];exact ih
theorem KV.any(r:KV kvs vs)(k:κ):(kvs.any λkv=>decide (kv.1=k))=vs.any λkv=>decide (kv.1=k):=by
 unfold KV at r
 induction r with
 |nil=>rfl
 |cons h t ih=>rw[any_cons,any_cons,ih,h.1]
theorem KV.repl(r:KV kvs vs)(k:κ)(ry:RelV y u) :
  KV (kvs.map λkv=>if kv.1=k then (kv.1,y) else kv) (vs.map λkv=>if kv.1=k then (kv.1,u) else kv):=by
 unfold KV at r |-
 induction r with
 |nil=>exact .nil
 |@cons p q ps qs h t ih=>
  rw[aaf,aaf];refine .cons ?_ ih;obtain⟨h1,h2⟩:=h
  by_cases e:p.1=k
  ·rw[aab e,aab (h1.symm.trans e)];exact⟨h1,ry⟩
  ·rw[aad e,aad (λz=>e (h1.trans z))];exact⟨h1,h2⟩
theorem KV.put(r:KV kvs vs)(k:κ)(ry:RelV y u):KV (putK kvs k y) (stored vs k u):=by
 unfold putK stored;rw[r.any k]
 by_cases e:(vs.any λkv=>decide (kv.1=k))=true
 ·rw[aab e,aab e];exact r.repl k ry
 ·rw[aad e,aad e];exact Paired.snoc r ⟨rfl,ry⟩
theorem KV.length(r:KV kvs vs):kvs.length=vs.length:=Paired.length r
end
theorem qZ(r:RelV (kV k) u):(aS P w).is k u=true:=by
 cases k with
 |inl i=>obtain⟨t,e⟩:=(show ∃t,u=Value.int i t from r);subst e;exact wZ P w i t
 |inr x=>obtain⟨t,e⟩:=(show ∃t,u=Value.str x t from r);subst e;exact xg P w x t
theorem uw:∀{ks:List Key} {us:List Value},Vals (ks.map kV) us->ItemsAre (aS P w) ks us
 |[],_,r=>by rw[map_nil]at r;cases r;exact .nil
 | k::ks,_,r=>by
  rw[aaf]at r;cases r with
  |cons h t=>exact .cons (qZ h) (uw t)
abbrev KT(H:Hp):List (List Key×V)->List (List Key×Addr×Value)->Prop:=Paired λp q=>p.1=q.1/\H q.2.1=some (.tup (p.1.map kV))/\RelV p.2 q.2.2
theorem KT.val(r:KT H kvs xs)(k:List Key):jZ (iD kvs k) ((atKey xs k).map (·.2)):=by
 induction r with
 |nil=>exact True.intro
 |@cons p q ps qs h t ih=>
  obtain⟨h1,_,h2⟩:=h
  by_cases e:p.1=k
  ·have e':q.1=k:=h1.symm.trans e
   have b:atKey (q::qs) k=some q.2:=by simp[atKey,find?_cons,e']
   rw[qX e,b];exact h2
  ·have e':¬ q.1=k:=λz=>e (h1.trans z)
   have b:atKey (q::qs) k=atKey qs k:=by simp[atKey,find?_cons,e']
   rw[qY e,b];exact ih
theorem KT.repl(r:KT H kvs xs)(k:List Key)(ry:RelV y u) :
  KT H (kvs.map λkv=>if kv.1=k then (kv.1,y) else kv) (xs.map (putAt k u)):=by
 induction r with
 |nil=>exact .nil
 |@cons p q ps qs h t ih=>
  rw[aaf,aaf];refine .cons ?_ ih;obtain⟨h1,h2,h3⟩:=h;unfold putAt
  by_cases e:p.1=k
  ·rw[aab e,aab (h1.symm.trans e)];exact⟨h1,h2,ry⟩
  ·rw[aad e,aad (λz=>e (h1.trans z))];exact⟨h1,h2,h3⟩
theorem KT.put(r:KT H kvs xs)(k:List Key)(hb:H b=some (.tup (k.map kV)))(ry:RelV y u) :
  KT H (putK kvs k y) (storedH xs k b u):=by
 have e:(kvs.any λkv=>decide (kv.1=k))=(atKey xs k).isSome:=by rw[xE,(r.val k).iT,isSome_map]
 unfold putK storedH;rw[e]
 by_cases q:(atKey xs k).isSome=true
 ·rw[aab q,aab q];exact r.repl k ry
 ·rw[aad q,aad q];exact Paired.snoc r ⟨rfl,hb,ry⟩
theorem KT.keeps(r:KT H kvs xs)(ht:∀b ys,H b=some (.tup ys)->H' b=some (.tup ys)):KT H' kvs xs :=
 Paired.Lz r λ_ _ z=>⟨z.1,ht _ _ z.2.1,z.2.2⟩
section
variable {P:Program} {w:World} {H:Hp} {h:Heap} {a:Addr}
theorem K1(ok:lY P w H h)(e:Rd H a u):bJ P w H h a u:=e.ok ok
theorem pT(ok:lY P w H h)(e:Rd H a (.dK kvs)):kvs.length<=sizeLine/\(a==sysModules)=false/\∃vs,KV kvs vs/\h.DictOf (aS P w) a vs :=
 show bJ P w H h a (.dK kvs) from K1 ok e
theorem rj(ok:lY P w H h)(e:H a=some (.dK kvs)):kvs.length<=sizeLine/\(a==sysModules)=false/\∃vs,KV kvs vs/\h.DictOf (aS P w) a vs:=pT ok (.inl e)
theorem oE(ok:lY P w H h)(e:H a=some (.tup (ks.map kV))):(tupleKind (aS P w)).is h ks a:=by
 obtain⟨_,its,r,o,h1,h2,n,h3⟩:=(show bJ P w H h a (.tup (ks.map kV)) from ok a _ e);exact⟨o,its.toArray,n,h1,h2,h3,by simpa using uw r⟩
theorem rm(ok:lY P w H h)(e:Rd H a (.dT kvs)):kvs.length<=sizeLine/\(a==sysModules)=false /\
  ∃xs,KT H kvs xs/\h.DictOfH (tupleKind (aS P w)) a xs:=by
 obtain⟨z,y,xs,r,o,es,ep,h1,h2,h3,h4,h5⟩:=(show bJ P w H h a (.dT kvs) from K1 ok e);refine⟨z,y,xs,r,o,es,ep,h1,h2,h3,h4,λx hx=>?_,h5⟩;have all:∀{l:List (List Key×V)} {m:List (List Key×Addr×Value)},KT H l m->∀x∈m,(tupleKind (aS P w)).is h x.1 x.2.1:=by
  intro l m q
  induction q with
  |nil=>intro x hx;exact nomatch hx
  |@cons p q ps qs hq t ih=>
   intro x hx
   rcases aap.mp hx with e|hx
   ·subst e;exact oE ok (by rw[<-hq.1];exact hq.2.1)
   ·exact ih x hx
 exact all r x hx
theorem QL(ok:lY P w H h)(e:H a=some (.dT kvs)):kvs.length<=sizeLine/\(a==sysModules)=false /\
  ∃xs,KT H kvs xs/\h.DictOfH (tupleKind (aS P w)) a xs:=rm ok (.inl e)
end
def lD(H:Hp)(a:Addr)(y:V)(r:Option V):Prop :=
 (∃kvs k,Rd H a (.dK kvs)/\y=kV k/\r=iD kvs k)\/∃kvs k b,Rd H a (.dT kvs)/\y=.ref b/\H b=some (.tup (k.map kV))/\r=iD kvs k
def IM(H:Hp)(a:Addr)(y v:V)(H':Hp):Prop :=
 (∃kvs k,H a=some (.dK kvs)/\y=kV k/\kvs.length<sizeLine/\H'=upd H a (.dK (putK kvs k v))) \/
 ∃kvs k b,H a=some (.dT kvs)/\y=.ref b/\H b=some (.tup (k.map kV))/\kvs.length<sizeLine/\H'=upd H a (.dT (putK kvs k v))
theorem lD.k{H:Hp}{a:Addr}{kvs:List (Key×V)}{k:Key}(e:H a=some (.dK kvs)):lD H a (kV k) (iD kvs k):=.inl ⟨kvs,k,.inl e,rfl,rfl⟩
theorem IM.k{H:Hp}{a:Addr}{kvs:List (Key×V)}{k:Key}{v:V}(e:H a=some (.dK kvs))(hl:kvs.length<sizeLine):IM H a (kV k) v (upd H a (.dK (putK kvs k v))):=.inl ⟨kvs,k,e,rfl,hl,rfl⟩
section
variable {X:Cx} {pins:List (Addr×Obj)} {σ:St} {H:Hp} {s:Shared} {a:Addr} {y v:V} {u r:Value} {o:Option V} {A:Around} {E:Value->Shared->Prop}
theorem Inv.big(I:Inv X pins σ H s):sysModules<s.heap.objs.size:=by
 have h:mainGlobals<s.heap.objs.size:=(I.mod.glob.keeps I.bk).lt;exact lt_trans (by decide) h
theorem Cq(hu:A.units+1<cLine)(I:Inv X pins σ H s)(g:lD H a y (some v))(ry:RelV y u)(h:∀w' s',Inv X pins σ H s'->RelV v w'->Q w' s') :
  wpAny (model X.prog X.w) A (getItem (.ref a) u) Q E s:=by
 rcases g with ⟨kvs,k,e,ey,l⟩|⟨kvs,k,b,e,ey,eb,l⟩
 ·subst ey;obtain⟨z,hd,vs,rel,dd⟩:=pT I.hok e;obtain⟨w',hw,rw'⟩:=jZ.some_of (v:=v) (o:=valueAt vs k) (by rw[l];exact rel.val k);exact wpAny_getItem_of (qZ ry) dd.mapOf hw (h w' _ (I.tok _) rw')
 ·subst ey;cases (show u=Value.ref b from ry);obtain⟨z,hd,xs,rel,dd⟩:=rm I.hok e;obtain⟨w',hw,rw'⟩:=jZ.some_of (v:=v) (o:=(atKey xs k).map (·.2)) (by rw[l];exact rel.val k);obtain⟨p,hp,hp2⟩:=aaE.mp hw;refine wpAny_getItem_heap (tupleKind_room_in1 hu) (oE I.hok eb) dd hp ?_;rw[hp2];exact h w' _ (I.tok _) rw'
theorem UG(hu:A.units+1<cLine)(I:Inv X pins σ H s)(g:lD H a y o)(ry:RelV y u)(h:∀s',Inv X pins σ H s'->Q (.bool o.isSome) s') :
  wpAny (model X.prog X.w) A (compareOp .In u (.ref a)) Q E s:=by
 rcases g with ⟨kvs,k,e,ey,l⟩|⟨kvs,k,b,e,ey,eb,l⟩
 ·subst ey;obtain⟨z,hd,vs,rel,dd⟩:=pT I.hok e;refine wpAny_in_of (qZ ry) hd dd.mapOf ?_;rw[<-(rel.val k).iT,<-l];exact h _ (I.tok _)
 ·subst ey;cases (show u=Value.ref b from ry);obtain⟨z,hd,xs,rel,dd⟩:=rm I.hok e;refine wpAny_in_heap (tupleKind_room_in1 hu) (oE I.hok eb) hd dd ?_;have q:=(rel.val k).iT;rw[isSome_map]at q;rw[<-q,<-l];exact h _ (I.tok _)
theorem IP(hu:A.units+1<cLine)(I:Inv X pins σ H s)(g:lD H a y o)(ry:RelV y u)(h:∀s',Inv X pins σ H s'->Q (.bool (!o.isSome)) s') :
  wpAny (model X.prog X.w) A (compareOp .NotIn u (.ref a)) Q E s:=by
 rcases g with ⟨kvs,k,e,ey,l⟩|⟨kvs,k,b,e,ey,eb,l⟩
 ·subst ey;obtain⟨z,hd,vs,rel,dd⟩:=pT I.hok e;refine wpAny_notIn_of (qZ ry) hd dd.mapOf ?_;rw[<-(rel.val k).iT,<-l];exact h _ (I.tok _)
 ·subst ey;cases (show u=Value.ref b from ry);obtain⟨z,hd,xs,rel,dd⟩:=rm I.hok e;refine wpAny_notIn_heap (tupleKind_room_in1 hu) (oE I.hok eb) hd dd ?_;have q:=(rel.val k).iT;rw[isSome_map]at q;rw[<-q,<-l];exact h _ (I.tok _)
theorem vF{t':Nat}(I:Inv X pins σ H s)(mu:P6 (H a))(hs:Heap.SameBut a s.heap h')(he:∃q,h'.get? a=some q)(new:bJ X.prog X.w (upd H a ob) h' a ob) :
  Inv X pins σ (upd H a ob) { s with heap:=h',toks:=t' } :=
 I.write (x:=a) (e:=a) mu (.inl rfl) (λb q hb z=>(hs.2 b hb).trans z) he new
theorem DU(z:kvs.length<=sizeLine)(hd:(a==sysModules)=false)(rel:KV kvs vs)(dd:h'.DictOf (aS P w) a vs) :
  bJ P w H' h' a (.dK kvs):=⟨z,hd,vs,rel,dd⟩
theorem Cr(hu:A.units+1<cLine)(I:Inv X pins σ H s)(g:IM H a y v H')(ry:RelV y u)(rv:RelV v r)(h:∀s',Inv X pins σ H' s'->Q () s') :
  wpAny (model X.prog X.w) A (setItem (.ref a) u r) Q E s:=by
 rcases g with ⟨kvs,k,e,ey,l,eH⟩|⟨kvs,k,b,e,ey,eb,l,eH⟩
 ·subst ey eH
  obtain⟨z,hd,vs,rel,dd⟩:=rj I.hok e;have hz:vs.length<=sizeLine:=by rw[<-rel.length];exact z
  have hl:(putK kvs k v).length<=sizeLine:=by have:=kh kvs k v;omega
  refine wpAny_setItem_pairs (hsz:=hz) (qZ ry) dd λh' Mq hs=>h _ ?_;have he:∃q,h'.get? a=some q:=let ⟨q,_,_,hq,_⟩:=Mq;⟨q,hq⟩
  exact vF I (by rw[e];exact True.intro) hs he (DU hl hd (rel.put k rv) Mq)
 ·subst ey eH
  cases (show u=Value.ref b from ry);obtain⟨z,hd,xs,rel,dd⟩:=QL I.hok e;have hz:xs.length<=sizeLine:=by rw[<-Paired.length rel];exact z
  have hl:(putK kvs k v).length<=sizeLine:=by have:=kh kvs k v;omega
  refine wpAny_setItem_heap (hsz:=hz) (tupleKind_room_in1 hu) (oE I.hok eb) dd λh' Mq hs=>h _ ?_;obtain⟨q,es,ep,hq,h2,h3,h4,_,h5⟩:=Mq;refine vF I (by rw[e];exact True.intro) hs ⟨q,hq⟩ ⟨hl,hd,_,(rel.put k eb rv).keeps λc ys ec=>?_,q,es,ep,hq,h2,h3,h4,h5⟩;rw[aq (P5 ec e (λz=>nomatch z))];exact ec
end
section
variable {X:Cx} {pins:List (Addr×Obj)} {σ:St} {H:Hp} {s:Shared} {a:Addr} {kvs:List (Key×V)} {k:Key} {u:Value} {A:Around} {E:Value->Shared->Prop}
theorem QM(I:Inv X pins σ H s)(e:Rd H a (.dK kvs))(h:∀t s',Inv X pins σ H s'->Q (.int kvs.length t) s'):wpAny (model X.prog X.w) A (call (.builtin "len") [.ref a]) Q E s:=by
 obtain⟨z,hd,vs,rel,dd⟩:=pT I.hok e;refine call_len_dict hd dd (by rw[<-rel.length];rw[sizeLine_eq]at z;omega) ?_;rw[<-rel.length];exact h _ _ (I.tok _)
end
theorem xF(I:Inv X pins σ H s)(g:lD H a y o):s.TypeIs (.ref a) "dict":=by
 rcases g with ⟨kvs,k,e,_,_⟩|⟨kvs,k,b,e,_,_,_⟩
 ·obtain⟨_,_,vs,_,dd⟩:=pT I.hok e;exact dd.typeIs
 ·obtain⟨_,_,xs,_,dd⟩:=rm I.hok e;exact dd.typeIs
theorem xG(h:Heap)(hb:sysModules<h.objs.size):bJ P w H (h.push { cls:=.type "dict",data:=.dict #[] }) h.objs.size (.dK []) :=
 ⟨zero_le _,aaJ.mpr (Ne.symm (aax hb)),[],.nil,Heap.DictOf.new h⟩
def Mr:TE:=λ_ H Q=>∀p,H p=none->Q (.ref p) (upd H p (.dK []))
section
variable {X:Cx} {pos:Pos}
theorem DV:PE X (.Dict [] [] pos) Mr:=λpins s σ H Q I h=>
 wpAny_Dict_empty ⟨.ref s.heap.objs.size,_,I.laid (a:=s.heap.objs.size) (o:=.dK []) (t':=s.toks) (λ_ _ q=>Z7 _ q) (aae _) (xG s.heap I.big),rfl,h _ (I.hok.fresh (aae _))⟩
end
def zR:List (TE×TE)->St->Hp->(List (V×V)->Hp->Prop)->Prop
 |[],_,H,Q=>Q [] H
 |(tk,tv)::r,σ,H,Q=>tk σ H λx H1=>tv σ H1 λy H2=>zR r σ H2 λps H3=>Q ((x,y)::ps) H3
abbrev VV:List (V×V)->List (Value×Value)->Prop:=Paired λp q=>RelV p.1 q.1/\RelV p.2 q.2
def Tw(X:Cx)(pos:Pos)(keys:List (Option Expr))(values:List Expr)(Ms:List (TE×TE)):Prop :=
 ∀(pins:List (Addr×Obj)) (s:Shared) (σ:St) (H:Hp) (Q:List (V×V)->Hp->Prop),Inv X pins σ H s->zR Ms σ H Q ->
  wpAny (model X.prog X.w) X.A (evalPairs (pairTrees keys values X.env pos)) (λvs s'=>∃ps H',Inv X pins σ H' s'/\VV ps vs/\Q ps H') X.xe s
theorem IQ:Tw X pos [] [] []:=λpins s σ H Q I h=>pairTrees_nil_walk ⟨[],H,I,.nil,h⟩
theorem DW(hk:PE X k tk)(hv:PE X v tv)(hr:Tw X pos ks vs Ms) :
  Tw X pos (some k::ks) (v::vs) ((tk,tv)::Ms):=λpins s σ H Q I h=>
 pairTrees_cons_walk (cg (hk pins s σ H _ I h) λu s1 ⟨x,H1,I1,rx,q1⟩=>cg (hv pins s1 σ H1 _ I1 q1) λw2 s2 ⟨y,H2,I2,ry,q2⟩=>
  cg (hr pins s2 σ H2 _ I2 q2) λws s3 ⟨ps,H3,I3,rel,q3⟩=>⟨(x,y)::ps,H3,I3,.cons ⟨rx,ry⟩ rel,q3⟩)
def oF(kvs more:List (Key×V)):List (Key×V):=more.foldl (λacc kv=>putK acc kv.1 kv.2) kvs
theorem KV.merge:∀{more:List (Key×V)} {rs:List (Key×Value)} {kvs:List (Key×V)} {vs:List (Key×Value)},KV more rs->KV kvs vs->KV (oF kvs more) (merged vs rs):=by
 intro more rs kvs vs r;unfold KV at r
 induction r generalizing kvs vs with
 |nil=>intro q;exact q
 |@cons p q ps qs h t ih=>
  intro r0;have e:KV (putK kvs p.1 p.2) (stored vs q.1 q.2):=by have:=r0.put p.1 h.2;rw[<-h.1];exact this
  exact ih e
theorem lO:∀(more kvs:List (Key×V)),(oF kvs more).length<=kvs.length+more.length
 |[],kvs=>by show kvs.length<=kvs.length+0;omega
 | p::r,kvs=>by
  have h1:=lO r (putK kvs p.1 p.2);have h2:=kh kvs p.1 p.2;show (oF (putK kvs p.1 p.2) r).length<=_;rw[aaq];omega
theorem rq:∀{kvs:List (Key×V)} {ws:List (Value×Value)},VV (kvs.map λkv=>(kV kv.1,kv.2)) ws->∃rs,Carries (aS P w) ws rs/\KV kvs rs
 |[],_,r=>by rw[map_nil]at r;cases r;exact⟨[],True.intro,.nil⟩
 | p::kvs,_,r=>by
  rw[aaf]at r;cases r with
  |@cons a b as bs h t=>obtain⟨rs,c,q⟩:=rq (P:=P) (w:=w) t;obtain⟨b1,b2⟩:=b;exact⟨(p.1,b2)::rs,⟨qZ h.1,rfl,c⟩,.cons ⟨rfl,h.2⟩ q⟩
def QN(Ms:List (TE×TE)):TE:=λσ H Q=>∀p,H p=none->zR Ms σ (upd H p (.dK [])) λps H2=>H2 p=some (.dK [])/\∃kvs:List (Key×V),ps=kvs.map (λkv=>(kV kv.1,kv.2))/\kvs.length<=15/\Q (.ref p) (upd H2 p (.dK (oF [] kvs)))
theorem IT(h:Tw X pos keys values Ms)(hall:keys.all (·.isSome)=true)(hl:keys.length=values.length)(h0:keys≠[])
  (Xw:keys.length<=15):PE X (.Dict keys values pos) (QN Ms):=by
 intro pins s σ H Q I q;have hn:=I.hok.fresh (aae s.heap.objs.size);have I1:=I.laid (a:=s.heap.objs.size) (o:=.dK []) (h':=s.heap.push { cls:=.type "dict",data:=.dict #[] }) (t':=s.toks) (λ_ _ q=>Z7 _ q) (aae _) (xG s.heap I.big);refine wpAny_Dict_walk (knd:=aS X.prog X.w) hall hl h0 Xw (cg (h pins _ σ _ _ I1 (q _ hn)) λws s2 aO=>?_);obtain⟨ps,H2,I2,rel,e,kvs,ep,lk,q2⟩:=aO;subst ep;obtain⟨rs,c,rk⟩:=rq (P:=X.prog) (w:=X.w) rel;obtain⟨z,hd,ZN,r0,dd⟩:=rj I2.hok e;cases r0;refine⟨rs,c,dd,λh' Mq hs=>⟨.ref s.heap.objs.size,_,?_,rfl,q2⟩⟩;have hz:(oF [] kvs).length<=sizeLine:=by have h1:=lO kvs [];rw[length_nil]at h1;rw[sizeLine_eq];omega
 have he:∃q,h'.get? s.heap.objs.size=some q:=let ⟨q,_,_,hq,_⟩:=Mq;⟨q,hq⟩
 exact vF I2 (by rw[e];exact True.intro) hs he (DU hz hd (rk.merge .nil) Mq)
structure M2 (X:Cx) (o:Expr) (m:Str) (apos:Pos) (e f:Expr) (cpos:Pos):Prop where
 base:attributeBase o m X.env (eval o X.env)=eval o X.env
 few:((backTo cpos (starEach [e,f] X.env)).all (λx=>!x.1)&&(backToKw cpos (keywordEach [] X.env)).all (λx=>x.1.isSome)
  && decide (([e,f]:List Expr).length+([]:List Keyword).length+(if ([]:List Keyword).isEmpty then 0 else 1)<30))=true
 line:(apos.endLine==cpos.line)=true
 trees:backTo cpos (starEach [e,f] X.env)=[(false,eval e X.env),(false,eval f X.env)]
def V5(H:Hp)(a:Addr):Prop:=(∃kvs,Rd H a (.dK kvs))\/∃kvs,Rd H a (.dT kvs)
theorem rA(I:Inv X pins σ H s)(d:V5 H a) :
  s.TypeIs (.ref a) "dict" /\ (∀b,Value.ref a=.ref b->∃ob,s.heap.get? b=some ob/\ob.dict=none)/\(a==sysModules)=false:=by
 rcases d with ⟨kvs,e⟩|⟨kvs,e⟩
 ·obtain⟨_,hd,vs,_,dd⟩:=pT I.hok e;refine⟨dd.typeIs,λb q=>?_,hd⟩;cases q;obtain⟨ob,_,_,h1,h2,_⟩:=dd;exact⟨ob,h1,h2.2.1⟩
 ·obtain⟨_,hd,xs,_,dd⟩:=rm I.hok e;refine⟨dd.typeIs,λb q=>?_,hd⟩;cases q;obtain⟨ob,_,_,h1,h2,_⟩:=dd;exact⟨ob,h1,h2.2.1⟩
section
variable {X:Cx} {pins:List (Addr×Obj)} {σ:St} {H:Hp} {s:Shared} {a:Addr} {y d:V} {u r:Value} {o:Option V} {A:Around} {E:Value->Shared->Prop}
theorem Mt(hu:A.units+1<cLine)(I:Inv X pins σ H s)(g:lD H a y o)(ry:RelV y u)(rd:RelV d r)(h:∀w' s',Inv X pins σ H s'->RelV (o.getD d) w'->Q w' s') :
  wpAny (model X.prog X.w) A (call (.builtin "dict.get") [.ref a,u,r]) Q E s:=by
 rcases g with ⟨kvs,k,e,ey,l⟩|⟨kvs,k,b,e,ey,eb,l⟩
 ·subst ey;obtain⟨z,hd,vs,rel,dd⟩:=pT I.hok e;refine call_meetsIn PySem.F.slot_dict_get dd.typeIs PySem.F.entry_dict_get (PySem.F.args_dict_get_3 _ _ _) (meets_dict_get_default (aS X.prog X.w) a (qZ ry) hd r) ⟨_,dd.mapOf,h _ _ (I.tok _) ?_⟩;rw[l];exact(rel.val k).getD rd
 ·subst ey;cases (show u=Value.ref b from ry);obtain⟨z,hd,xs,rel,dd⟩:=rm I.hok e;refine call_meetsIn PySem.F.slot_dict_get dd.typeIs PySem.F.entry_dict_get (PySem.F.args_dict_get_3 _ _ _) (meetsH_dict_get_default (tupleKind (aS X.prog X.w)) a b hd r) ⟨tupleKind_room_in1 hu,k,xs,oE I.hok eb,dd,h _ _ (I.tok _) ?_⟩;rw[l];exact(rel.val k).getD rd
end
def Mv(td ty tx:TE):TE:=λσ H Q=>td σ H λx H1=>∃a,x=.ref a/\V5 H1 a/\ty σ H1 λy H2=>tx σ H2 λz H3=>∃o,lD H3 a y o/\Q (o.getD z) H3
section
variable {X:Cx} {o e f:Expr} {apos cpos:Pos} {td ty tx:TE}
theorem DX(hu:X.A.units+1<cLine)(ho:PE X o td)(he:PE X e ty)(hf:PE X f tx)(m:M2 X o "get" apos e f cpos):PE X (.Call (.Attribute o "get" apos) [e,f] [] cpos) (Mv td ty tx):=by
 intro pins s σ H Q I h;refine wpAny_Call_method m.base m.few m.line PySem.F.plainAttrs_dict PySem.F.slot_dict_get PySem.F.type_dict_get (cg (ho pins s σ H _ I h) λu s1 aO=>?_);obtain⟨x,H1,I1,rx,a,ex,d,q1⟩:=aO;subst ex;obtain rfl:u=Value.ref a:=rx;obtain⟨t1,t2,_⟩:=rA I1 d;refine⟨t1,t2,?_⟩;rw[m.trees];refine Calls.callWith_builtin rfl (Calls.evalArgs_plain (Calls.spliced_cons (cg (he pins s1 σ H1 _ I1 q1) λiv s2 ⟨y,H2,I2,ry,q2⟩=>
  Calls.spliced_cons (cg (hf pins s2 σ H2 _ I2 q2) λfv s3 ⟨z,H3,I3,rz,ov,g,q3⟩=>Calls.spliced_nil ?_))))
 exact Mt hu I3 g ry rz λw' s4 I4 rw'=>⟨_,H3,I4,rw',q3⟩
end
end L2
namespace V6
open PySem PySem.W PySem.Calls PyProof.Rows
theorem qm:∀(ns:List Int) (vs:List Value),WellAll P h vs (ns.map WData.int)->IntsAre vs ns:=by
 intro ns
 induction ns with
 |nil=>intro vs w;rw[map_nil]at w;cases w;exact .nil
 |cons n ns ih=>
  intro vs w;rw[aaf]at w;cases w with
  |cons a b=>cases a;exact .cons _ _ (ih _ b)
theorem Cs{l:OpenLaw}{n:Nat}(hn:l.most=some n){P:Params}{h:Heap}{args:List WData}{vals:List Value}
  (hpre:l.row.toRowW.claim.pre args=true) (hwl:WellAll P h vals args) :
  ∃a vs ns,vals=[Value.ref a]/\args=[WData.list (ns.map WData.int)]/\h.get? a=some { cls:=.type "list",data:=.seq vs.toArray }/\IntsAre vs ns/\ns.length<=n:=by
 have hsh:WShape.hasAll [] args [.list .int]=true:=(pre_splitW hpre).1;have hc:l.pre.holds [] { args:=args }=true:=(pre_splitW hpre).2;obtain⟨d,r,rfl,h1,h2⟩:=hasAllW_cons hsh;obtain rfl:=hasAllW_nil h2;obtain⟨xs,rfl,h3⟩:=hasW_list h1;obtain⟨ns,rfl⟩:=items_int h3;have hlen:ns.length<=n:=by
  unfold OpenLaw.pre at hc;have h4:(WTm.not (.lt (.lit (.int (n:Int))) (.len (.arg 0)))).holds [] { args:=[.list (ns.map .int)] }=true:=by have h4:=(holds_andW hc).1;rw[hn]at h4;exact h4
  have h5:=condW_of h4 (w_not (w_lt w_lit (w_len_list (w_arg rfl))));rw[Z9]at h5;refine Nat.le_of_not_lt λq=>?_;have q':(n:Int)<((ns.length:Nat):Int):=by omega
  first
   |(rw[decide_eq_true q']at h5;exact absurd h5 (by decide))
   |(simp at h5;omega)
 cases hwl with
 |cons w1 w2=>
  cases w2;cases w1 with
  |list ho hall=>exact⟨_,_,ns,rfl,rfl,ho,qm ns _ hall,hlen⟩
theorem Ct(l:OpenLaw)(args:List WData):l.row.toRowW.claim.post args (.bool true) args=true :=
 postW_of (r:=l.row.toRowW) (X:=(true==true))
  (show WShape.has [] (.bool true) .bool=true by first|rfl|decide|simp[WShape.has,WShape.arms,WShape.armsAll])
  (show (WTm.eq .res (.lit (.bool true))).value [] { args:=args,res:=some (.bool true),after:=args }=some (.bool (true==true)) from w_eq_bool (w_res rfl) w_lit) rfl
theorem xH{l:OpenLaw}{n:Nat}{q:Program}{loose:List Str}{XP:(Str->Option Value)->Heap->Prop}{YP:World->Heap->Prop}{d:DefRec}
  (hn:l.most=some n) (hdf:d.params.defaults=[])
  (call:∀(w:World) (s₀ s₁:Shared) (mg mb:Str->Option Value) (fa:Addr) (o:Obj) (pm cd doc:Value) (a:Addr) (vs:List Value) (ns:List Int),
   Ground q loose [] XP w s₀ mg mb s₁.heap->YP w s₁.heap ->
   s₁.heap.get? fa=some o->o.data=.func (docDef d.name d.params d.body d.scope pm cd doc)->s₁.heap.CodeRec cd d.name->mg d.name=some (.ref fa) ->
   s₁.heap.get? a=some { cls:=.type "list",data:=.seq vs.toArray }->IntsAre vs ns->ns.length<=n->s₁.gens = #[] ->
   codeAny (model l.prog w) callerA (.call (.ref fa) ⟨[.ref a],[]⟩) (λr s'=>r=.ok (.ret (.bool true))/\OldK s₁.heap s'.heap/\s'.os=s₁.os/\AllBare s'.gens) s₁) :
  WalkO q loose XP YP l.row.toRowW d [] (λf vs=>PySem.call f vs):=by
 intro w s₀ s₁ mg mb G Y fa o pm cd doc dV kV ho hd hcd hD hmg hg args vals as hpre hlay hrd hwl hlo;obtain rfl:dV=.none:=Dflts.none hD hdf;obtain rfl:kV=.none:=Dflts.noKw hD;obtain⟨a,vs,ns,rfl,rfl,hobj,hints,hlen⟩:=Cs hn hpre hwl;refine enter_call (codeAny_mono (call w s₀ s₁ mg mb fa o pm cd doc a vs ns G Y ho (fd_plain hd) hcd hmg hobj hints hlen hg) λr s' hq=>?_);obtain⟨rfl,h2,h3,h4⟩:=hq;exact⟨.inl ⟨.bool true,.bool true,[],rfl,λ_=>rfl,.bool true,Ct l _,λ_=>⟨List.Pairwise.nil,λ_ hm=>(nomatch hm)⟩⟩,h2,h3,h4⟩
end V6
namespace L2
open PySem PySem.Spec PyProof.Rows
theorem gB:∀{vs:List Value} {ns:List Int},IntsAre vs ns->Vals (ns.map V.int) vs
 |_,_,.nil=>.nil
 |_,_,.cons n t h=>.cons ⟨t,rfl⟩ (gB h)
def DY(H:Hp):Prop:=∀b,H b=none\/∃o xs,H b=some (.j3 o (.lst xs))
theorem DZ{P:Program}{w:World}{K:Frag}{mg mb:Str->Option Value}{CX:Ck}{k:Nat}{fa a:Addr}{fd:FuncData}{x:Str}{sp:Sp}{s₁:Shared}{vs:List Value}{ns:List Int}
  (KX:K.In s₁.heap) (hns:s₁.heap.Ns mainGlobals mg) (hb:s₁.heap.Ns builtinsNs mb) (Xx:∀x:Str,x ≠ "__name__" -> mb x=bootBuiltins x) (hlim:s₁.heap.NoLimit) (hg:s₁.gens = #[])
  (ha:s₁.heap.get? a=some { cls:=.type "list",data:=.seq vs.toArray }) (hi:IntsAre vs ns) (hl:ns.length<=sizeLine) (hr:dD k callerA)
  (F:∀base:Heap,K.In base->base.Ns mainGlobals mg->fF P w K mg base CX k fa fd [x] sp) (hbind:∀(s:Shared) (u:Value),BindsTo s fd ⟨[u],[]⟩ [(x,u)])
  (hsp:∀H:Hp,DY H->gF K H a (ns.map V.int)->sp [.ref a] H (λv _=>v=.bl true) λ_ _ _=>False)
  (hCX:∀H e s',CX [] H s₁ (λ_ _ _=>False) e s'->False) :
  codeAny (model P w) callerA (.call (.ref fa) ⟨[.ref a],[]⟩) (λr s'=>r=.ok (.ret (.bool true))/\OldK s₁.heap s'.heap/\s'.os=s₁.os/\AllBare s'.gens) s₁:=by
 have rv:=gB hi;have UH:=hi.length;have core:∀H:Hp,DY H->gF K H a (ns.map V.int)->lY P w H s₁.heap->(∀b,H b≠none->b=a)->(H a≠none->K.lookup a=none) ->
   codeAny (model P w) callerA (.call (.ref fa) ⟨[.ref a],[]⟩) (λr s'=>r=.ok (.ret (.bool true))/\OldK s₁.heap s'.heap/\s'.os=s₁.os/\AllBare s'.gens) s₁:=by
  intro H hO hS hok hA hK;have base_of:∀{b:Addr} {o:Obj},s₁.heap.get? b=some o->H b=none->(vg s₁.heap H).get? b=some o:=λe n=>Dr e n;have noA:∀{b:Addr} {o:Obj} {es:Array DictEntry} {ep:Nat},s₁.heap.get? b=some o->o.data=.dict es ep->H b=none:=λ{b o es ep} e d=>by
   cases q:H b with
   |none=>rfl
   |some u=>have e':b=a:=hA b (by rw[q];simp);subst e';rw[ha]at e;cases e;have d':Data.seq vs.toArray _=Data.dict es ep:=d;cases d'
  have nsK:∀{b:Addr} {m:Str->Option Value},s₁.heap.Ns b m->(vg s₁.heap H).Ns b m:=λ{b m} ⟨o,es,ep,e,d,r⟩=>⟨o,es,ep,base_of e (noA e d),d,r⟩;have V7:K.In (vg s₁.heap H):=λb o e=>base_of (KX b o e) (by
   cases q:H b with
   |none=>rfl
   |some u=>have e':b=a:=hA b (by rw[q];simp);subst e';rw[hK (by rw[q];simp)]at e;cases e)
  have hM:Mod K mg (vg s₁.heap H):=⟨V7,nsK hns,⟨mb,nsK hb,Xx⟩,let ⟨mc,h1,h2⟩:=hlim;⟨mc,nsK h1,h2⟩⟩;have e0:zM P w K mg (vg s₁.heap H) callerA [] s₁ H:=⟨rfl,hM,λb o e=>HZ e,Nat.le_of_eq (B8 _ _),trivial,λb hb=>absurd (show b∈([]:List Addr) from hb) (by simp),hok,.of_eq hg⟩;refine codeAny_mono ((F _ V7 (nsK hns)).run callerA [] s₁ H ⟨[.ref a],[]⟩ [.ref a] [.ref a] _ _ hr e0 (hbind s₁ (.ref a)) #[rfl] (hsp H hO hS)) λr s' h=>?_;cases r with
  |error e=>exact(hCX H e s' h).elim
  |ok fl=>
   cases fl with
   |next=>exact False.elim h
   |brk=>exact False.elim h
   |cont=>exact False.elim h
   |ret u=>
    obtain⟨v,H',os,bare,un,UI,r',q⟩:=h;have q':v=.bl true:=q;subst q';obtain rfl:u=Value.bool true:=r';refine⟨rfl,OldK.of_keep λb o e=>?_,os,bare⟩;cases q:H b with
    |none=>exact un.keep b o e q (by intro z;exact absurd (show b∈([]:List Addr) from z) (by simp)) (by simp)
    |some u=>
     rcases hO b with z|⟨ob,xs,z⟩
     ·rw[q]at z;cases z
     ·have z2:=un.frzs b ob _ z;obtain⟨e1,_⟩:=hok b _ z;obtain⟨e2,_⟩:=UI b _ z2;rw[e]at e1;cases e1;exact e2
 cases hk:K.lookup a with
 |some o=>have e:=KX a o hk;rw[ha]at e;cases e;refine core (λ_=>none) (λ_=>.inl rfl) (.inr ⟨_,vs.toArray,_,hk,rfl,rfl,rfl,by rw[aak,UH];exact hl,by simpa using rv⟩) (λb u z=>by have z':(none:Option HO)=some u:=z;cases z') (λb z=>absurd rfl z) λz=>absurd rfl z
 |none=>
  refine core (λb=>if b=a then some (.j3 { cls:=.type "list",data:=.seq vs.toArray } (.lst (ns.map V.int))) else none) (λb=>?_) (.inl (.inr ⟨{ cls:=.type "list",data:=.seq vs.toArray },aab rfl⟩)) (λb u z=>?_) (λb z=>?_) λ_=>hk
  ·by_cases hb:b=a
   ·exact .inr ⟨_,_,aab hb⟩
   ·exact .inl (aad hb)
  ·by_cases hb:b=a
   ·have z':=(aab hb).symm.trans z;cases z';subst hb;exact⟨ha,by rw[Z9];exact hl,vs,_,rv,ha⟩
   ·have z':=(aad hb).symm.trans z;cases z'
  ·by_cases hb:b=a
   ·exact hb
   ·exact absurd (aad hb) z
theorem IU{l:PySem.W.OpenLaw}{n k:Nat}{q:Program}{loose:List Str}{XP:(Str->Option Value)->Heap->Prop}{YP:World->Heap->Prop}{d:DefRec}{K:Params->Frag}{CX:World->Ck}{sp:World->Sp}{x:Str}
  (hn:l.most=some n) (hn2:n<=sizeLine) (hdf:d.params.defaults=[]) (hr:dD k callerA)
  (hY:∀(w:World) (h:Heap),YP w h->(K w.params).In h)
  (F:∀(w:World) (mg:Str->Option Value) (fa:Addr) (h:Heap),(K w.params).In h->h.Ns mainGlobals mg->mg d.name=some (.ref fa) ->
   ∃fd:FuncData,(∀(s:Shared) (u:Value),BindsTo s fd ⟨[u],[]⟩ [(x,u)]) /\
    ∀base:Heap,(K w.params).In base->base.Ns mainGlobals mg->fF l.prog w (K w.params) mg base (CX w) k fa fd [x] (sp w))
  (hsp:∀(w:World) (H:Hp) (a:Addr) (ns:List Int),ns.length<=n->DY H->gF (K w.params) H a (ns.map V.int)->sp w [.ref a] H (λv _=>v=.bl true) λ_ _ _=>False)
  (hCX:∀(w:World) (H:Hp) (s:Shared) (e:Value) (s':Shared),CX w [] H s (λ_ _ _=>False) e s'->False) :
  PySem.W.WalkO q loose XP YP l.row.toRowW d [] (λf vs=>PySem.call f vs):=by
 refine V6.xH hn hdf λw s₀ s₁ mg mb fa o pm cd doc a vs ns G Y ho hd hcd hmg hobj hints hlen hg=>?_;have KX:=hY w _ Y;obtain⟨fd,hb,hF⟩:=F w mg fa _ KX G.T.g hmg;exact DZ KX G.T.g G.T.b G.T.builtins G.T.nolimit hg hobj hints (aaD hlen hn2) hr hF hb (λH hO hS=>hsp w H a ns hlen hO hS) λH e s'=>hCX w H s₁ e s'
def mW(s:Stmt):Arguments:=match s with
 |.FunctionDef _ a _ _ _ _ _ _ _ _=>a
 |_=>{ posonlyargs:=[],args:=[],vararg:=none,kwonlyargs:=[],kw_defaults:=[],kwarg:=none,defaults:=[] }
def aB(s:Stmt):List Stmt:=match s with
 |.FunctionDef _ _ b _ _ _ _ _ _ _=>b
 |_=>[]
def ai(s:Stmt):Scope:=match s with
 |.FunctionDef _ _ _ _ _ _ sc _ _ _=>sc
 |_=>{ kind:=.function,names:=[],isGenerator:=false,isCoroutine:=false }
abbrev zu:Ck:=λ_ _ _ _ _ _=>False
abbrev E0:XK:=λ_ _ _=>False
theorem rD:Passes zu X E0:=λ_ _ _ _ _ _ _ h=>h.elim
structure HM (K:Frag) (x qual:Str) (st:Stmt) (f:Addr) (fd:FuncData):Prop where
 ex:∃(oc:Value) (od:Option Addr) (kV doc pm:Value) (an:Option Addr) (cdv ct:Value) (osl:Array (Option Value)),
  fd=fnOf x qual (mW st) (aB st) (ai st) .none kV doc pm an cdv ct/\K.lookup f=some ⟨oc,od,.func fd,osl⟩/\codeIn K cdv qual=true
 kp:keepIn K (.ref f)=true
section
variable {P:Program} {w:World} {K:Frag} {mg:Str->Option Value} {base:Heap}
theorem HM.ok{x qual:Str}{st:Stmt}{f:Addr}{fd:FuncData}{N ps:List Str}{k:Nat}{sp:Sp}(F:HM K x qual st f fd)(S:qA N ps (ai st))(len:∀vs H Q E,sp vs H Q E->vs.length=ps.length)
  (hbody:∀(cdv:Value) (A:Around) (outer:List Env) (s:Shared) (H:Hp) (vs:List V) (Q:VK) (E:XK),dD k (A.deeper (envOfC qual (ai st) s.heap.objs.size f cdv))->sp vs H Q E ->
   ∃t,zq (zN zu P w K mg base N qual (ai st) f cdv A outer s H E).Qi (aB st) t/\t { nx:=λ_ H'=>Q .non H',rt:=Q } (start N vs) H):fF P w K mg base zu (k+1) f fd ps sp:=by
 obtain⟨oc,od,kV,doc,pm,an,cdv,ct,osl,rfl,lk,hcd⟩:=F.ex;refine QE lk hcd S len λA outer s H vs Q E hr hsp=>?_;obtain⟨t,h,q⟩:=hbody cdv A outer s H vs Q E hr hsp;exact⟨t,h.Qi,q⟩
theorem HM.binds{x qual:Str}{st:Stmt}{f:Addr}{fd:FuncData}{ps:List Str}(F:HM K x qual st f fd)
  (h:∀(kV doc pm:Value) (an:Option Addr) (cdv ct:Value) (us:List Value),us.length=ps.length->bindArgs (fnOf x qual (mW st) (aB st) (ai st) .none kV doc pm an cdv ct) ⟨us,[]⟩=pure (ps.zip us)):Binds K fd ps []:=by
 obtain⟨oc,od,kV,doc,pm,an,cdv,ct,osl,rfl,lk,hcd⟩:=F.ex;exact .all (h kV doc pm an cdv ct)
theorem fun_mk{x qual:Str}{st:Stmt}{f:Addr}{oc:Value}{od an:Option Addr}{osl:Array (Option Value)}{kV doc pm cdv ct:Value}(l:K.lookup f=some ⟨oc,od,.func (fnOf x qual (mW st) (aB st) (ai st) .none kV doc pm an cdv ct),osl⟩)
  (c:codeIn K cdv qual=true) (k:keepIn K (.ref f)=true):HM K x qual st f (fnOf x qual (mW st) (aB st) (ai st) .none kV doc pm an cdv ct):=⟨⟨oc,od,kV,doc,pm,an,cdv,ct,osl,rfl,l,c⟩,k⟩
end
section
variable {X:Cx}
theorem Cu:dm X (.builtin "len") (λxs H Q=>∃a kvs,xs=[V.ref a]/\H a=some (.dK kvs)/\Q (.int kvs.length) H):=by
 intro pins s σ H xs us Q I r h;obtain⟨a,kvs,rfl,ha,q⟩:=h;obtain⟨u,rfl,ru⟩:=vals1 r;cases ru;exact QM I (.inl ha) λt s' I'=>⟨.int kvs.length,H,I',⟨t,rfl⟩,q⟩
end
def zS(H H':Hp):Prop:=∀b o,H b=some o->H' b=some o
theorem zS.seq{K:Frag}{H H':Hp}{a:Addr}{xs:List V}(e:zS H H')(h:gF K H a xs):gF K H' a xs:=by
 rcases h with (h|⟨o,h⟩)|h
 ·exact .inl (.inl (e _ _ h))
 ·exact .inl (.inr ⟨o,e _ _ h⟩)
 ·exact .inr h
section
variable {κ:Type} [DecidableEq κ]
theorem fT:∀{l:List κ} {k:κ},l.Nodup->¬ k∈l->(l++[k]).Nodup
 |[],k,_,_=>by simp
 | a::r,k,h,hk=>by
  obtain⟨h1,h2⟩:=aaF.mp h;show (a::(r++[k])).Nodup;refine aaF.mpr ⟨λm=>?_,fT h2 λm=>hk (aap.mpr (Or.inr m))⟩
  rcases aat.mp m with q|q
  ·exact h1 q
  ·exact hk (aap.mpr (Or.inl (aaj.mp q).symm))
end
theorem mh(env:Env):∀(names:List (Str×NameKind)) (acc:List (Str×Addr)),(∀y∈names,y.2=.free->∃c,env.cells.lookup y.1=some c) ->
  (∀x c,acc.lookup x=some c->env.cells.lookup x=some c) ->
  ∃cl,(forIn names acc λx r=>if (x.snd==NameKind.free)=true then do let c <-cellOf env x.fst;pure (ForInStep.yield ((x.fst,c)::r)) else pure (ForInStep.yield r))=(pure cl:Sem (List (Str×Addr))) /\
   (∀x c,cl.lookup x=some c->env.cells.lookup x=some c)/\∀x,((x,NameKind.free)∈names\/∃c,acc.lookup x=some c)->∃c,cl.lookup x=some c
 |[],acc,_,ha=>⟨acc,rfl,ha,λx h=>h.elim (λz=>nomatch z) λz=>z⟩
 | (n,k)::r,acc,hn,ha=>by
  have hr:∀y∈r,y.2=NameKind.free->∃c,env.cells.lookup y.1=some c:=λy hy=>hn y (Z5 _ hy)
  by_cases hk:k=.free
  ·subst hk
   obtain⟨c,hc⟩:=hn (n,.free) aaa rfl;have ha':∀x d,((n,c)::acc).lookup x=some d->env.cells.lookup x=some d:=λx d h=>by
    rw[aaK]at h;cases e:x==n with
    |true=>rw[e]at h;have e':x=n:=eq_of_beq e;cases h;rw[e'];exact hc
    |false=>rw[e]at h;exact ha x d h
   obtain⟨cl,e1,e2,e3⟩:=mh env r ((n,c)::acc) hr ha';refine⟨cl,?_,e2,λx h=>?_⟩
   ·rw[List.forIn_cons]
    have hco:cellOf env n=pure c:=by unfold cellOf;rw[hc]
    simp only[beq_self_eq_true,if_true,hco];exact e1
   ·by_cases hx:x=n
    ·subst hx;exact e3 x (.inr ⟨c,by simp[lookup_cons]⟩)
    ·rcases h with h|⟨d,h⟩
     ·rcases aap.mp h with z|z
      ·exact absurd (congrArg Prod.fst z) hx
      ·exact e3 x (.inl z)
     ·refine e3 x (.inr ⟨d,?_⟩);rw[aaK];have:(x==n)=false:=aaJ.mpr hx;rw[this];exact h
  ·have hb:(k==NameKind.free)=false:=aaJ.mpr hk
   obtain⟨cl,e1,e2,e3⟩:=mh env r acc hr ha;refine⟨cl,?_,e2,λx h=>e3 x ?_⟩
   ·rw[List.forIn_cons];simp only[hb,false_eq_true,if_false];exact e1
   ·rcases h with h|h
    ·rcases aap.mp h with z|z
     ·cases z;exact absurd rfl hk
     ·exact .inl z
    ·exact .inr h
theorem rE(h:∀y∈scope.names,y.2=.free->∃c,env.cells.lookup y.1=some c) :
  ∃cl,closureFor scope env=pure cl/\(∀x c,cl.lookup x=some c->env.cells.lookup x=some c)/\∀x,(x,NameKind.free)∈scope.names->∃c,cl.lookup x=some c:=by
 obtain⟨cl,e1,e2,e3⟩:=mh env scope.names [] h (λx c z=>by simp at z);refine⟨cl,?_,e2,λx hx=>e3 x (.inl hx)⟩;unfold closureFor;simp only[bind_pure];exact e1
def bz(X:Cx)(scope:Scope)(N':List Str)(cl:List (Str×Addr))(C:Addr)(s:Shared)(H:Hp)(fp:List Addr):Cx :=
 { prog:=X.prog,w:=X.w,K:=X.K,mg:=X.mg,base:=X.base,A:=X.A,N:=N',s₀:=s,H₀:=H,env:=compEnvC scope cl C X.env,outer:=X.stack,stack:=X.stack,ex:=fp,fn:=λx=>scope.names.lookup x==some .cell,calm:=X.calm,pn:=[],xe:=λ_ _=>False }
def gI(js:List (Option Nat))(σ:St):St:=js.map λo=>match o with
 |none=>none
 | some j=>match σ[j]? with
  |some (some v)=>some v
  |_=>none
def vG(sc:Scope)(x:Str):Bool:=sc.names.lookup x==some .cell||sc.names.lookup x==some .free
def gm(XN:List Str)(xsc scope:Scope)(N':List Str)(js:List (Option Nat)):Bool :=
 scope.kind==.function&&(scope.names.all λy=>y.2 != .local||scope.names.lookup y.1==some .local)&&(scope.names.all λy=>y.2 != .cell||scope.names.lookup y.1==some .cell) &&
 (scope.names.all λy=>y.2 != .free||(vG xsc y.1&&scope.names.lookup y.1==some .free))&&js.length==N'.length &&
 ((N'.zip js).all λp=>match p.2 with|none=>true|some j=>XN[j]?==some p.1&&scope.names.lookup p.1==some .free)
structure vH (X:Cx) (scope:Scope) (N':List Str) (js:List (Option Nat)):Prop where
 kind:scope.kind=.function
 names:∀y∈scope.names,y.2=.local->scope.names.lookup y.1=some .local
 cells:∀y∈scope.names,y.2=.cell->scope.names.lookup y.1=some .cell
 free:∀y∈scope.names,y.2=.free->vG X.env.scope y.1=true/\scope.names.lookup y.1=some .free
 len:js.length=N'.length
 src:∀(i:Nat) (x:Str) (j:Nat),N'[i]?=some x->js[i]?=some (some j)->X.N[j]?=some x/\scope.names.lookup x=some .free
theorem ux(h:gm X.N X.env.scope scope N' js=true):vH X scope N' js:=by
 unfold gm at h;simp only[and_eq_true,all_eq_true]at h;obtain⟨⟨⟨⟨⟨h1,h2⟩,h3⟩,h4⟩,h5⟩,h6⟩:=h;refine⟨eq_of_beq h1,λy hy e=>?_,λy hy e=>?_,λy hy e=>?_,eq_of_beq h5,λi x j e1 e2=>?_⟩
 ·have:=h2 y hy;rw[e]at this;simpa using this
 ·have:=h3 y hy;rw[e]at this;simpa using this
 ·have:=h4 y hy;rw[e]at this;simpa using this
 ·have hm:(x,some j)∈N'.zip js:=by
   refine List.mem_iff_getElem?.mpr ⟨i,?_⟩;rw[List.getElem?_zip_eq_some];exact⟨e1,e2⟩
  have:=h6 _ hm;simpa using this
theorem iE(js:List (Option Nat))(σ:St):(gI js σ).length=js.length:=by unfold gI;rw[Z9]
def HN(X:Cx)(ifs:List Expr)(t:TT):Prop :=
 ∀(pins:List (Addr×Obj)) (s:Shared) (σ:St) (H:Hp) (Q:Bool->Hp->Prop),Inv X pins σ H s->t σ H Q ->
  wpAny (model X.prog X.w) X.A (forIn ifs true λc r=>if r=true then do let ok <-isTrue c X.env (eval c X.env);pure (ForInStep.yield ok) else pure (ForInStep.yield r)) (TP X pins σ Q) X.xe s
def xJ:TT:=λ_ H Q=>Q true H
theorem IV:HN X [] xJ:=λ_ _ _ H _ I h=>wpAny_tests_nil ⟨H,I,h⟩
theorem AK(h:PT X c t):HN X [c] t:=λpins s σ H Q I hw=>wpAny_tests_one (h pins s σ H Q I hw)
def xK(wi:TI)(js:List (Option Nat))(g:TG)(tt:TT)(te:TE):TE:=λσ H Q=>wi σ H λJ H1=>∀D,H1 D=none->∃W:Nat->Nat->St->Hp->Prop,(∃m,W 0 m (gI js σ) (upd H1 D (.lst []))) /\
 ∀i m σ' H,W i m σ' H->(J.stop i H/\Q (.ref D) H)\/(J.go i H/\∃N:St->Hp->Prop,(∀AL H',N AL H'->∃m',m'<m/\W (i+1) m' AL H') /\
  ∀x H',J.zA i H x H'->g x σ' H' λσ2 H2=>tt σ2 H2 λb H3=>if b=true then te σ2 H3 λy H4=>∃ys,H4 D=some (.lst ys)/\ys.length<sizeLine/\N σ2 (upd H4 D (.lst (ys++[y]))) else N σ2 H3)
theorem t7
  (h:(relabel scope env).names.lookup x=some .cell\/(relabel scope env).names.lookup x=some .free):(x,NameKind.free)∈scope.names\/(x,NameKind.cell)∈scope.names:=by
 unfold relabel at h;simp only at h;generalize scope.names=ns at h
 induction ns with
 |nil=>simp at h
 |cons p r ih=>
  obtain⟨n,k⟩:=p;simp only[map_cons]at h;cases hx:x==n with
  |true=>
   have e':x=n:=eq_of_beq hx;subst e'
   by_cases hk:k=.free
   ·subst hk;exact .inl aaa
   ·have hb:(k==NameKind.free)=false:=aaJ.mpr hk
    rw[hb]at h;simp only[Bool.false_and,false_eq_true,if_false,lookup_cons,beq_self_eq_true]at h
    rcases h with h|h
    ·have:=aav h;subst this;exact .inr aaa
    ·exact absurd (aav h) hk
  |false=>
   refine(ih ?_).imp (Z5 _) (Z5 _)
   by_cases hk:(k==NameKind.free&&env.scope.kind==.function&&env.kindOf n==some .cell)=true
   ·rw[aab hk]at h;simp only[lookup_cons,hx]at h;exact h
   ·rw[aad hk]at h;simp only[lookup_cons,hx]at h;exact h
theorem fU:∀(names:List (Str×NameKind)) (n:Nat) (acc:List (Str×Addr)),cellsFrom n names acc=cellsFrom n names []++acc
 |[],n,acc=>rfl
 | (name,kind)::r,n,acc=>by
  unfold cellsFrom
  split
  ·rw[fU r (n+1) ((name,n)::acc),fU r (n+1) [(name,n)],List.append_assoc];rfl
  ·exact fU r n acc
theorem gJ:∀(names:List (Str×NameKind)) (n:Nat) (acc:List (Str×Addr)) (x:Str) (c:Addr),(x,c)∈cellsFrom n names acc->(x,c)∈acc\/(x,NameKind.cell)∈names
 |[],n,acc,x,c,h=>.inl h
 | (name,kind)::r,n,acc,x,c,h=>by
  unfold cellsFrom at h;split at h
  ·rename_i hk
   have hk:kind=.cell:=eq_of_beq hk
   rcases gJ r (n+1) _ x c h with z|z
   ·rcases aap.mp z with z|z
    ·cases z;subst hk;exact .inr aaa
    ·exact .inl z
   ·exact .inr (Z5 _ z)
  ·exact(gJ r n acc x c h).imp id (Z5 _)
theorem xM
  (hq:∀h',h'.Ns s.heap.objs.size (λ_=>none)->(∀b o,s.heap.get? b=some o->h'.get? b=some o)->CellsOk h' (s.heap.objs.size+1) (cellsFrom (s.heap.objs.size+1) scope.names []) ->
   Q (newEnv scope s.heap.objs.size globals (cellsFrom (s.heap.objs.size+1) scope.names []++cl) qual none Value.none (some env) builtinsNs) { s with heap:=h' }) :
  wpAny M A (newFunctionEnv scope globals cl [] qual none .none (some env)) Q E s:=by
 simp only[newFunctionEnv,isSome_some,if_true];refine Z2 (wpAny_alloc ?_);refine Z2 (wpAny_layCells _ (λname kind cells=>by cases hkc:kind==NameKind.cell<;>simp[hkc]) _ _ _ _ ?_);have ok:=cellsFrom_ok scope.names (s.heap.push { cls:=.type "dict",data:=.dict #[] }) (s.heap.objs.size+1) [] ⟨λ_ _ hm=>(nomatch hm),List.Pairwise.nil⟩ (by rw[aaV];exact aae _);rw[aaV]at ok;rw[show ({ s with heap:=s.heap.push { cls:=.type "dict",data:=.dict #[] } }:Shared).heap.objs.size=s.heap.objs.size+1 from aaV ..,fU];have:=hq _ ((Heap.Ns.new s.heap (.type "dict")).keeps (pushCells_keeps scope.names _)) (λb o e=>pushCells_keeps _ _ b o (Z7 _ e)) ok;simp only[List.forIn_nil];exact Z2 (aac (aac this))
theorem vI(h:scope.names.lookup x=some .free) :
  (relabel scope env).names.lookup x=some .cell\/(relabel scope env).names.lookup x=some .free:=by
 unfold relabel;simp only;generalize scope.names=ns at h
 induction ns with
 |nil=>simp at h
 |cons p r ih=>
  obtain⟨n,k⟩:=p;simp only[map_cons];cases hx:x==n with
  |true=>
   simp only[lookup_cons,hx]at h;have hk:=aav h;subst hk
   by_cases hk:(NameKind.free==NameKind.free&&env.scope.kind==.function&&env.kindOf n==some .cell)=true
   ·rw[aab hk];simp[lookup_cons,hx]
   ·rw[aad hk];simp[lookup_cons,hx]
  |false=>
   simp only[lookup_cons,hx]at h
   by_cases hk:(k==NameKind.free&&env.scope.kind==.function&&env.kindOf n==some .cell)=true
   ·rw[aab hk];simp only[lookup_cons,hx];exact ih h
   ·rw[aad hk];simp only[lookup_cons,hx];exact ih h
section
variable {X:Cx} {pins:List (Addr×Obj)} {σ:St} {scope:Scope} {N':List Str} {js:List (Option Nat)}
theorem rF(ok:vH X scope N' js)(xo:X.Ok):∀y∈scope.names,y.2=.free->∃c,X.env.cells.lookup y.1=some c:=λy hy e=>by
 have:=(ok.free y hy e).1;unfold vG at this;rw[or_eq_true]at this;refine xo.has y.1 ?_
 rcases this with z|z
 ·exact .inl (eq_of_beq z)
 ·exact .inr (eq_of_beq z)
theorem zT{tk:Nat}(ok:vH X scope N' js)(I:Inv X pins σ H s)
  (oG:∀x c,cl.lookup x=some c->(X.env.cells.lookup x=some c/\scope.names.lookup x≠some .cell)\/(s.heap.objs.size<c/\h'.IsCell c none/\scope.names.lookup x=some .cell)) (hap:∀x y c,cl.lookup x=some c->cl.lookup y=some c->s.heap.objs.size<c->x=y) (hcl2:∀x,(x,NameKind.free)∈scope.names\/(x,NameKind.cell)∈scope.names->∃c,cl.lookup x=some c)
  (hfp:∀b∈fp,ql X pins H b) (hlt:∀b∈fp,b<s.heap.objs.size)
  (hns:h'.Ns s.heap.objs.size (λ_=>none)) (hk:∀b o,s.heap.get? b=some o->h'.get? b=some o) :
  Inv (bz X scope N' cl s.heap.objs.size s H fp) [] (gI js σ) H { s with heap:=h',toks:=tk }:=by
 have hCf:H s.heap.objs.size=none:=I.hok.fresh (aae _);refine⟨⟨I.ok.mod,ok.kind,I.ok.glob,I.ok.blt,aae _,λx y c e1 e2=>?_,λx hx=>hcl2 x (t7 hx),λx c hf e=>?_,I.ok.hd,I.ok.frames,.inl rfl,
   λb hb=>⟨aax (hlt b hb),λx c e z=>?_⟩,I.bs,aaD I.ok.KS I.sz,λb o e hb=>?_,λb hb hs=>?_,I.stack,I.Az⟩,rfl,I.bare,Un.kept hk,⟨_,hns,λi x v e1 e2 e3=>?_⟩,λx c e=>?_,hCf,λx c e=>?_,
   λp hp=>absurd (show p∈([]:List (Addr×Obj)) from hp) (by simp),I.hok.kept hk,?_⟩
 ·rcases oG x c e1 with z|z
  ·rcases oG y c e2 with w|w
   ·exact I.ok.inj x y c z.1 w.1
   ·obtain⟨v,q⟩:=I.cell x c z.1;exact absurd (lt_trans q.lt w.1) (aaX _)
  ·exact hap x y c e1 e2 z.1
 ·rcases oG x c e with z|z
  ·exact absurd (eq_of_beq hf) z.2
  ·exact le_of_lt z.1
 ·rcases oG x c e with w|w
  ·exact(hfp b hb).2.2.2.2.1 x c w.1 z
  ·have:=hlt b hb;rw[<-z]at this;exact absurd (lt_trans this w.1) (aaX _)
 ·rcases(hfp b hb).2.2.2.1 with z|z
  ·exact I.ok.lZ b o e z
  ·exact absurd (aan (aal (I.ok.bs b o e).1) z) (aaX _)
 ·rcases aap.mp (I.zx b hs) with z|z
  ·exact(hfp b hb).2.1 z
  ·exact(hfp b hb).2.2.1 z
 ·-- a name Xy has a value: one of the def around
  have HP:(gI js σ)[i]?=some (some v):=e2;unfold gI at HP;rw[aaB] at HP;cases hj:js[i]? with
  |none=>rw[hj] at HP;cases HP
  |some o=>
   rw[hj] at HP;cases o with
   |none=>simp at HP
   |some j=>
    obtain⟨hN,hf⟩:=ok.src i x j e1 hj;cases hs:σ[j]? with
    |none=>simp[hs] at HP
    |some ov=>
     cases ov with
     |none=>simp[hs] at HP
     |some v'=>
      simp[hs] at HP;subst HP;have hfr:=(ok.free (x,.free) (PySem.mem_of_lookup hf) rfl).1;unfold vG at hfr;rw[or_eq_true]at hfr;have QO:X.env.scope.names.lookup x=some .cell\/X.env.scope.names.lookup x=some .free:=hfr.imp eq_of_beq eq_of_beq;obtain⟨m,_,hl⟩:=I.loc;obtain⟨u,r,l⟩:=hl j x v' hN hs (.inr QO);refine⟨u,r,.inr ⟨vI hf,?_⟩⟩
      rcases l with ⟨k,_⟩|⟨_,c,e,z⟩
      ·have k':X.env.scope.names.lookup x=some .local:=k
       rcases QO with q|q<;>(rw[q]at k';cases k')
      ·obtain⟨d,hd⟩:=hcl2 x (.inl (PySem.mem_of_lookup hf))
       rcases oG x d hd with e'|e'
       ·have e':=e'.1;rw[e]at e';cases e';obtain⟨oc,hoc,Dt⟩:=z;exact⟨c,hd,oc,hk _ _ hoc,Dt⟩
       ·rw[hf]at e';cases e'.2.2
 ·rcases oG x c e with z|z
  ·obtain⟨v,oc,hoc,Dt⟩:=I.cell x c z.1;exact⟨v,oc,hk _ _ hoc,Dt⟩
  ·exact⟨_,z.2.1⟩
 ·rcases oG x c e with z|z
  ·exact I.iu x c z.1
  ·exact I.hok.fresh (le_of_lt z.1)
 ·rw[iE];exact ok.len
theorem Cv(I:Inv X pins σ H s)(hfp:∀b∈fp,ql X pins H b)
  (J:Inv (bz X scope N' cl C s H fp) [] σ' H' s'):Inv X pins σ H' s' :=
 I.Qc (ch:=fp) J.os J.base J.hok J.bare λb hb=>⟨(hfp b hb).2.2.2.1,(hfp b hb).2.1,(hfp b hb).2.2.2.2.1,(hfp b hb).2.2.2.2.2⟩
end
section
variable {X:Cx} {scope:Scope} {N':List Str} {js:List (Option Nat)} {tg elt iter:Expr} {ifs:List Expr} {pos:Pos} {wi:TI} {g:TG} {tt:TT} {te:TE}
theorem xO{pins:List (Addr×Obj)}{σ:St}{H2:Hp}{s2:Shared}{it:Addr}{fp:List Addr}{tn:Nat->Heap->Prop}{J:It}{cl:List (Str×Addr)}{E:Value->Shared->Prop}{RR:Value->Addr->Result->Shared->Prop}{Q:VK}
  (ok:vH X scope N' js) (hc:X.calm=true) (I2:Inv X pins σ H2 s2) (T:Turn X.prog X.w X.K tg J fp it tn) (st2:tn 0 s2.heap) (f2:∀b∈fp,ql X pins H2 b)
  (oG:∀x c,cl.lookup x=some c->X.env.cells.lookup x=some c) (hcl2:∀x,(x,NameKind.free)∈scope.names->∃c,cl.lookup x=some c)
  (hg:∀cl C s H fp,PG (bz X scope N' cl C s H fp) tg g) (ht:∀cl C s H fp,HN (bz X scope N' cl C s H fp) ifs tt) (he:∀cl C s H fp,PE (bz X scope N' cl C s H fp) elt te)
  (rd:∀D,H2 D=none->∃W:Nat->Nat->St->Hp->Prop,(∃m,W 0 m (gI js σ) (upd H2 D (.lst []))) /\
   ∀i m σ' H,W i m σ' H->(J.stop i H/\Q (.ref D) H)\/(J.go i H/\∃N:St->Hp->Prop,(∀AL H',N AL H'->∃m',m'<m/\W (i+1) m' AL H') /\
    ∀x H',J.zA i H x H'->g x σ' H' λσ2 H2=>tt σ2 H2 λb H3=>if b=true then te σ2 H3 λy H4=>∃ys,H4 D=some (.lst ys)/\ys.length<sizeLine/\N σ2 (upd H4 D (.lst (ys++[y]))) else N σ2 H3))
  (hRR:∀(D C:Addr) (s':Shared) (H':Hp) (m:Str->Option Value),s2.heap.objs.size<=C->Inv X pins σ H' s'->H' C=none->s'.heap.Ns C m->Q (.ref D) H'->RR (.ref D) C (.ok .next) s') :
  wpAny (model X.prog X.w) X.A (newList []) (λacc s₃=>wpAny (model X.prog X.w) X.A (newFunctionEnv scope X.env.globals cl [] X.env.qual none .none (some X.env)) (λcenv s₄=>
   codeAny (model X.prog X.w) X.A (.compStart (.ListComp elt [⟨tg,iter,ifs,0⟩] scope pos) 0 (.ref it) acc { cenv with scope:=relabel scope X.env }) (RR acc cenv.locals) s₄) E s₃) E s2:=by
 have hD:H2 s2.heap.objs.size=none:=I2.hok.fresh (aae _);refine aaQ (xM λh₁ QS V8 IW=>?_);dsimp only at QS V8 IW |-;have I3:Inv X pins σ (upd H2 s2.heap.objs.size (.lst [])) { s2 with heap:=s2.heap.push { cls:=.type "list",dict:=none,data:=.seq ([]:List Value).toArray },toks:=s2.toks } :=
  I2.laid (t':=s2.toks) (λb u e=>Z7 _ e) (aae _) ⟨by simp,[],0,.nil,aao _ rfl⟩
 generalize QT:({ s2 with heap:=s2.heap.push { cls:=.type "list",dict:=none,data:=.seq ([]:List Value).toArray },toks:=s2.toks }:Shared)=s3 at I3;have hsz:s3.heap.objs.size=s2.heap.objs.size+1:=by rw[<-QT];exact aaV ..
 have eC:(s2.heap.push { cls:=.type "list",dict:=none,data:=.seq ([]:List Value).toArray }).objs.size=s3.heap.objs.size:=by rw[<-QT]
 have f3:∀b∈fp,ql X pins (upd H2 s2.heap.objs.size (.lst [])) b:=λb hb=>by
  obtain⟨o,e,_⟩:=T.obj _ _ st2 b hb;refine⟨?_,(f2 b hb).2⟩;rw[aq (aax (aal e))];exact(f2 b hb).1
 have hlt:∀b∈fp,b<s3.heap.objs.size:=λb hb=>by
  obtain⟨o,e,_⟩:=T.obj _ _ st2 b hb;have hb2:b<s2.heap.objs.size:=aal e;rw[hsz];exact lt_succ_of_lt hb2
 have keep:∀b o,s3.heap.get? b=some o->h₁.get? b=some o:=λb o e=>by
  have e':(s2.heap.push { cls:=.type "list",dict:=none,data:=.seq ([]:List Value).toArray }).get? b=some o:=by rw[<-QT]at e;exact e
  exact V8 b o e'
 rw[eC] at IW |-;obtain⟨cc,hcc⟩:∃cc,cc=cellsFrom (s3.heap.objs.size+1) scope.names []++cl:=⟨_,rfl⟩;rw[<-hcc];have lk:∀x c,cc.lookup x=some c->(X.env.cells.lookup x=some c/\scope.names.lookup x≠some .cell)\/(s3.heap.objs.size<c/\h₁.IsCell c none/\scope.names.lookup x=some .cell/\(x,c)∈cellsFrom (s3.heap.objs.size+1) scope.names []):=λx c e=>by
  rw[hcc,List.lookup_append]at e;cases ho:(cellsFrom (s3.heap.objs.size+1) scope.names []).lookup x with
  |some c'=>
   rw[ho]at e;have e:c'=c:=aav e;subst e;have hm:=PySem.mem_of_lookup ho;obtain⟨z1,z2⟩:=IW.empty x c' hm;refine .inr ⟨z2,z1,?_,hm⟩
   rcases gJ _ _ _ x c' hm with z|z
   ·cases z
   ·exact ok.cells _ z rfl
  |none=>rw[ho]at e;refine .inl ⟨oG x c e,λz=>?_⟩;have:=cellsFrom_some scope.names (s3.heap.objs.size+1) [] (.inl z);rw[ho]at this;cases this
 have I4:=zT (tk:=s2.toks) ok I3 (λx c e=>(lk x c e).imp id λz=>⟨z.1,z.2.1,z.2.2.1⟩) (λx y c e1 e2 hlt'=>by
  have own:∀x,cc.lookup x=some c->(x,c)∈cellsFrom (s3.heap.objs.size+1) scope.names []:=λx e=>by
   rcases lk x c e with z|z
   ·obtain⟨v,q⟩:=I3.cell x c z.1;exact absurd (lt_trans q.lt hlt') (aaX _)
   ·exact z.2.2.2
  exact PySem.name_of_addr IW.apart (own x e1) (own y e2)) (λx hx=>by
  rw[hcc,List.lookup_append];cases ho:(cellsFrom (s3.heap.objs.size+1) scope.names []).lookup x with
  |some c'=>exact⟨c',rfl⟩
  |none=>
   rcases hx with hx|hx
   ·exact hcl2 x hx
   ·have:=cellsFrom_some scope.names (s3.heap.objs.size+1) [] (.inl (ok.cells _ hx rfl));rw[ho]at this;cases this) f3 hlt (h':=h₁) (by rw[<-eC];exact QS) keep
 have V9:tn 0 h₁:=T.keep _ _ _ st2 λb hb o e=>keep b o (by rw[<-QT];exact Z7 _ e);obtain⟨W,⟨m0,w0⟩,turn⟩:=rd _ hD;have stat:∀{H':Hp},(∀b∈fp,H' b=none)->∀b∈fp,ql (bz X scope N' cc s3.heap.objs.size s3 (upd H2 s2.heap.objs.size (.lst [])) fp) [] H' b:=λ{H'} hn b hb=>
  ⟨hn b hb,aax (hlt b hb),I4.ok.Ds b hb,.inl hb,(I4.ok.T9 b hb).2,λp hp=>absurd (show p∈([]:List (Addr×Obj)) from hp) (by simp)⟩
 have Xz:∀tk,({ s2 with heap:=h₁,toks:=tk }:Shared)={ s3 with heap:=h₁,toks:=tk }:=λtk=>by rw[<-QT]
 have loop:codeAny (model X.prog X.w) X.A (.compLoop (.ListComp elt [⟨tg,iter,ifs,0⟩] scope pos) 0 (.ref it) (.ref s2.heap.objs.size) (compEnvC scope cc s3.heap.objs.size X.env)) (RR (.ref s2.heap.objs.size) s3.heap.objs.size)
   { s3 with heap:=h₁,toks:=s2.toks }:=by
  refine codeAny_loop rfl (λn s'=>∃i σ' H',Inv (bz X scope N' cc s3.heap.objs.size s3 (upd H2 s2.heap.objs.size (.lst [])) fp) [] σ' H' s'/\tn i s'.heap/\(∀b∈fp,H' b=none)/\W i n σ' H') ?_ m0 ⟨0,_,_,I4,V9,λb hb=>(f3 b hb).1,w0⟩;rintro n s5 ⟨i,σ5,H5,I5,Py,Tr,w5⟩;show wpAny _ X.A ((compTurn (.ListComp elt [⟨tg,iter,ifs,0⟩] scope pos) 0 (.ref it) (.ref s2.heap.objs.size) (compEnvC scope cc s3.heap.objs.size X.env)).onRaise (λx=>do noteFrame x (compEnvC scope cc s3.heap.objs.size X.env);theTreesLotGoes x)) _ _ s5;refine wpAny_noted ?_;rw[compTurn_list];refine Z2 (wpAny_standAt (Z2 ?_))
  rcases turn i n σ5 H5 w5 with ⟨stop,qn⟩|⟨go,N,hN,step⟩
  ·refine wpAny_mono (T.done (bz X scope N' cc s3.heap.objs.size s3 (upd H2 s2.heap.objs.size (.lst [])) fp) rfl rfl rfl hc i [] s5 σ5 H5 (λ_ _=>False) I5 (stat Tr) Py stop) (λr s6 ⟨hr,I6⟩=>?_) λ_ _ z=>z.elim;subst hr;refine aac ?_;obtain⟨m,hm,_⟩:=id I6.loc;exact hRR _ _ s6 H5 m (by rw[hsz];exact le_succ _) (Cv I3 f3 I6) I6.free hm qn
  ·refine wpAny_mono (T.item (bz X scope N' cc s3.heap.objs.size s3 (upd H2 s2.heap.objs.size (.lst [])) fp) rfl rfl rfl hc i [] s5 σ5 H5 (λ_ _=>False) I5 (stat Tr) Py go) (λr s6 ⟨u,hr,h6⟩=>?_) λ_ _ z=>z.elim
   subst hr;refine Z2 (wpAny_mono h6 (λ_ s7 ⟨x,H7,I7,r7,y7,UJ,XA⟩=>?_) λ_ _ z=>z.elim);have XC:=I7.pinned (stat XA) (T.obj _ _ UJ);refine Z2 (wpAny_mono (hg _ _ _ _ _ _ s7 σ5 H7 x u _ XC r7 (step x H7 y7)) (λ_ s8 ⟨σ8,H8,I8,q8⟩=>?_) λ_ _ z=>z.elim);refine Z2 (wpAny_mono (ht _ _ _ _ _ _ s8 σ8 H8 _ I8 q8) (λb s9 ⟨H9,I9,q9⟩=>?_) λ_ _ z=>z.elim);have D3:∀{sA:Shared} {σA:St} {HA:Hp},Inv (bz X scope N' cc s3.heap.objs.size s3 (upd H2 s2.heap.objs.size (.lst [])) fp) ([]++qQ fp s7.heap) σA HA sA->N σA HA ->
     ∃m,m<n/\∃i σ' H',Inv (bz X scope N' cc s3.heap.objs.size s3 (upd H2 s2.heap.objs.size (.lst [])) fp) [] σ' H' sA/\tn i sA.heap/\(∀b∈fp,H' b=none)/\W i m σ' H':=λ{sA σA HA} IA nA=>by
    obtain⟨m',hm,wA⟩:=hN σA HA nA;refine⟨m',hm,i+1,σA,HA,IA.mT,T.keep _ _ _ UJ λb hb o e=>(IA.pin (b,o) (aaA _ (aaA _ (jx hb e)))).1,λb hb=>?_,wA⟩;obtain⟨o,e,d⟩:=T.obj _ _ UJ b hb;exact(IA.pin (b,o) (aaA _ (aaA _ (jx hb e)))).2.1
   cases b with
   |false=>exact aac ⟨rfl,D3 I9 (by simpa using q9)⟩
   |true=>rw[aab rfl]at q9;refine Z2 (Z2 (wpAny_mono (he _ _ _ _ _ _ s9 σ8 H9 _ I9 q9) (λv sB ⟨y,HB,IB,rB,ys,hys,hlen,nB⟩=>?_) λ_ _ z=>z.elim));refine Z2 (wpAny_mono (uv (X:=bz X scope N' cc s3.heap.objs.size s3 (upd H2 s2.heap.objs.size (.lst [])) fp) _ sB σ8 HB (.ref s2.heap.objs.size) [y] _ [v] (λ_ HC=>HC=upd HB s2.heap.objs.size (.lst (ys++[y]))) IB rfl #[rB] ⟨_,ys,y,rfl,rfl,hys,hlen,rfl⟩) (λv' sC ⟨_,HC,IC,_,XD⟩=>?_) λ_ _ z=>z.elim);subst XD;exact aac (aac ⟨rfl,D3 IC nB⟩)
 rw[Xz];have UK:({ newEnv scope s3.heap.objs.size X.env.globals cc X.env.qual none Value.none (some X.env) builtinsNs with scope:=relabel scope X.env }:Env)=compEnvC scope cc s3.heap.objs.size X.env:=by rfl
 have UL:(newEnv scope s3.heap.objs.size X.env.globals cc X.env.qual none Value.none (some X.env) builtinsNs).locals=s3.heap.objs.size:=by rfl
 rw[UK,UL];exact codeAny_compStart_list loop (T.self _ _ _ _ _ V9 loop)
theorem AM(hok:gm X.N X.env.scope scope N' js=true)(hc:X.calm=true)(hi:PI X tg iter wi)(hg:∀cl C s H fp,PG (bz X scope N' cl C s H fp) tg g)
  (ht:∀cl C s H fp,HN (bz X scope N' cl C s H fp) ifs tt) (he:∀cl C s H fp,PE (bz X scope N' cl C s H fp) elt te)
  (hs:∀x,foldedSetIterable iter X.env x=pure x):PE X (.ListComp elt [⟨tg,iter,ifs,0⟩] scope pos) (xK wi js g tt te):=by
 intro pins s σ H Q I h;have ok:=ux hok;obtain⟨cl,UM,oG,hcl2⟩:=rE (rF ok I.ok);rw[eval_ListComp];refine wpAny_comprehension_free (use:=none) rfl hs UM ok.kind ok.names (cg (hi pins s σ H _ I h) λxv s1 h1=>cg h1 λitv s2 h2=>?_);obtain⟨it,fp,tn,J,H2,rfl,I2,T,st2,f2,rd⟩:=h2;refine xO (RR:=λacc C=>compPost (model X.prog X.w) X.A X.xe none (EP X pins σ Q) acc C) ok hc I2 T st2 f2 oG hcl2 hg ht he rd ?_;intro D C s' H' m hC J' fC hm q;refine⟨m,hm,λh' hs'=>⟨.ref D,H',?_,rfl,q⟩⟩;refine J'.turned (t':=s'.toks) (λb o hb e=>hs'.extBut b o hb e) fC (ne_of_gt (aan I2.lt hC)) (.inr (aaD I2.sz hC)) (λx c e z=>?_) λp hp z=>?_
 ·obtain⟨v,q'⟩:=I2.cell x c e;exact absurd (aan q'.lt (by rw[z];exact hC)) (aaX _)
 ·exact absurd (aan (aal (I2.pin p hp).1) (by rw[z];exact hC)) (aaX _)
theorem AN{i:Nat}(hN:X.N.Nodup)(hx:X.N[i]?=some x)(hl:Loc X.env.scope x)(hok:gm X.N X.env.scope scope N' js=true)(hc:X.calm=true)(hi:PI X tg iter wi)(hg:∀cl C s H fp,PG (bz X scope N' cl C s H fp) tg g)
  (ht:∀cl C s H fp,HN (bz X scope N' cl C s H fp) ifs tt) (he:∀cl C s H fp,PE (bz X scope N' cl C s H fp) elt te)
  (hsw:swapsWith (.ListComp elt [⟨tg,iter,ifs,0⟩] scope pos) (some (.Name x pos')) spos.line X.env=pure true)
  (hf:X.fn x=true\/X.env.scope.names.lookup x=some .local)
  (hs:∀x,foldedSetIterable iter X.env x=pure x):PS X (.Assign [.Name x pos'] (.ListComp elt [⟨tg,iter,ifs,0⟩] scope pos) spos) (Il (xK wi js g tt te) (pP i)):=by
 intro pins s σ H D I h;have ok:=ux hok;obtain⟨cl,UM,oG,hcl2⟩:=rE (rF ok I.ok);rw[exec_Assign_Name_used _ _ _ _ hsw];refine Z2 (wpAny_standAt (Z2 ?_));show wpAny _ X.A (do let _ <-comprehension (.ListComp elt [⟨tg,iter,ifs,0⟩] scope pos) scope X.env _ (newList []) false (eval iter X.env) (some (assign (.Name x pos') X.env))) _ _ s;refine Z2 (wpAny_mono (wpAny_comprehension_free (use:=some (assign (.Name x pos') X.env)) (Q:=λ_ s'=>SP X pins D .next s') rfl hs UM ok.kind ok.names
  (cg (hi pins s σ H _ I h) λxv s1 h1=>cg h1 λitv s2 h2=>?_)) (λ_ s' hq=>aac (aac hq)) λ_ _ e=>e)
 obtain⟨it,fp,tn,J,H2,rfl,I2,T,st2,f2,rd⟩:=h2;refine xO (RR:=λacc C=>compPost (model X.prog X.w) X.A X.xe (some (assign (.Name x pos') X.env)) (λ_ s'=>SP X pins D .next s') acc C) (Q:=λx H1=>pP i x σ H1 D.nx) ok hc I2 T st2 f2 oG hcl2 hg ht he rd ?_;intro E C s' H' m hC J' fC hm q;have Wa:C≠X.env.locals:=ne_of_gt (aan I2.lt hC);have hCc:∀x c,X.env.cells.lookup x=some c->c≠C:=λx c e z=>by
  obtain⟨v,q'⟩:=I2.cell x c e;exact absurd (aan q'.lt (by rw[z];exact hC)) (aaX _)
 refine cg (show wpAny _ X.A (assign (.Name x pos') X.env (.ref E)) (λ_ s''=>(∃AL IX,Inv X pins AL IX s''/\D.nx AL IX/\IX C=none)/\∃m,s''.heap.Ns C m) X.xe s' from ?_) λ_ s'' ⟨⟨AL,IX,UN,XE,UO⟩,XF,Mw⟩=>?_
 ·refine wpAny_assign_Name (uh J' hN hx hl (show RelV (.ref E) (.ref E) from rfl) (λs'' UN ⟨a,XG,ha⟩=>⟨⟨_,H',UN,q,fC⟩,m,?_⟩) hf)
  refine hm.sameBut XG ?_
  rcases ha with z|z
  ·rw[z];exact Wa
  ·exact λw=>hCc _ _ z w.symm
 ·refine⟨XF,Mw,λh' hs'=>⟨AL,IX,?_,XE⟩⟩;refine UN.turned (t':=s''.toks) (λb o hb e=>hs'.extBut b o hb e) UO Wa (.inr (aaD I2.sz hC)) hCc λp hp z=>?_;exact absurd (aan (aal (I2.pin p hp).1) (by rw[z];exact hC)) (aaX _)
end
theorem Inv.AO{X:Cx}{pins:List (Addr×Obj)}{σ:St}{H:Hp}{s:Shared}{h':Heap}{t':Nat}{ch:List Addr}(I:Inv X pins σ H s)(hf:∀b∈ch,ql X pins H b)
  (k:∀b o,b∉ch->s.heap.get? b=some o->h'.get? b=some o):Inv X pins σ H { s with heap:=h',toks:=t' }:=by
 have P9:∀b u,H b=some u->b∉ch:=λb u e z=>by rw[(hf b z).1]at e;cases e
 refine I.step (g':=s.gens) (d':=s.drawn) (ch:=ch) (λb hb=>?_) (λb o _ _ hc e _=>k b o hc e) (λb o _ _ hc e _=>⟨o.slots,k b o hc e⟩) (λ_ _ _ _ n=>n)
  (λb o hc e=>⟨o,k b o hc e⟩) (λ_ _ e=>e) (λ_ _ _ e=>e) (λb ps e=>⟨#[],by rw[e];simp⟩) (λm hm=>?_) (λb u e=>?_) I.bare
 ·exact⟨(hf b hb).2.2.2.1,(hf b hb).2.1,(hf b hb).2.2.2.2.1,(hf b hb).2.2.2.2.2⟩
 ·obtain⟨o,es,ep,ho,r⟩:=hm;exact⟨o,es,ep,k _ o (λz=>(hf _ z).2.1 rfl) ho,r⟩
 ·refine(I.hok b u e).stay (λc v hc q=>k c v ?_ q) (λ_ q=>q) λ_ _ q=>q
  rcases hc with z|z
  ·rw[z];exact P9 b u e
  ·exact P9 c _ z
def QU(K:Frag)(a:Addr):It :=
 ⟨λi H=>∃xs x,gF K H a xs/\xs[i]?=some x,λi H x H'=>∃p v,H p=none/\x=.ref p/\H'=upd H p (.tup [.int i,v])/\∀xs,gF K H a xs->xs[i]?=some v,λi H=>∃xs,gF K H a xs/\xs.length<=i⟩
theorem Cw{P:Program}{w:World}{K:Frag}{es:List Expr}{k:Nat}{pos:Pos}(a e it:Addr)(hne:e≠it) :
  Turn P w K (.Tuple es k pos) (QU K a) [e,it] e (λi h=>(∃old,IsEnum h e it i old)/\h.IsListIter it a i) where
 mem:=by simp
 obj:=λi h st b hb=>by
  obtain⟨⟨old,he⟩,⟨o,e2,c,d⟩⟩:=st
  rcases aap.mp hb with z|z
  ·subst z;exact⟨_,he,λv z=>nomatch z⟩
  ·rw[aaj.mp z];exact⟨o,e2,λv z=>by rw[d]at z;cases z⟩
 keep:=λi h h' st k=>⟨let ⟨old,he⟩:=st.1;⟨old,k e (by simp) _ he⟩,st.2.at λo e=>k it (by simp) o e⟩
 item:=by
  intro X hP hw hK hc i pins s σ H E I hf st hg;subst hP hw hK;obtain⟨xs,x,hq,hx⟩:=hg;obtain⟨its,rv,p,hz⟩:=I.list hq;obtain⟨u,hu,ru⟩:=rv.get hx;obtain⟨⟨old,he⟩,hit⟩:=st;have hei:e<s.heap.objs.size:=aal he;have XH:it<s.heap.objs.size:=by obtain⟨_,y,_⟩:=hit;exact aal y
  refine wpAny_pyNext_enum_item he hit p.isList (x:=u) (by simpa using hu) hne λh' ho UP hT hsz hk=>?_;refine⟨_,rfl,?_⟩;refine wpAny_letOwnedTupleGo_enum ho λh2 XI hs2=>?_;have hT2:h2.get? s.heap.objs.size=some { cls:=.type "tuple",data:=.seq [.int i s.toks,u].toArray }:=hs2.extBut _ _ (ne_of_gt hei) hT;have I1:Inv X pins σ H { s with heap:=h2,toks:=s.toks+1 }:=I.AO (ch:=[e,it]) hf λb o hb q=>by
   have h1:b≠e:=λz=>hb (by simp[z]);have h2:b≠it:=λz=>hb (by simp[z]);exact hs2.extBut b o h1 (hk b o h1 h2 q)
  have hn:H s.heap.objs.size=none:=I.hok.fresh (aae _);have I2:Inv X pins σ (upd H s.heap.objs.size (.tup [.int i,x])) { s with heap:=h2,toks:=s.toks+1 }:=by
   have un:Un X.fs [] H (upd H s.heap.objs.size (.tup [.int i,x])) s.heap s.heap:=Un.laid (λb u q=>q) (aae _) hn;refine⟨I1.ok,I1.os,I1.bare,?_,I1.loc,I1.cell,?_,λy c q=>?_,λp hp=>?_,λb o q=>?_,I1.len⟩
   ·refine⟨I1.base.keep,I1.base.slot,λb o q n hx=>?_,I1.base.there,λb ys q=>?_,λb o ys q=>?_,λb ps q=>?_⟩
    ·have hlt:b<s.heap.objs.size:=aan (aal q) I.sz;rw[aq (aax hlt)];exact I1.base.free b o q n hx
    ·rw[aq (aM (I1.base.tups b ys q) hn)];exact I1.base.tups b ys q
    ·rw[aq (aM (I1.base.frzs b o ys q) hn)];exact I1.base.frzs b o ys q
    ·obtain⟨more,z⟩:=I1.base.tW b ps q;exact⟨more,by rw[aq (aM z hn)];exact z⟩
   ·rw[aq (aax I.lt)];exact I1.free
   ·obtain⟨v,z⟩:=I.cell y c q;rw[aq (aax z.lt)];exact I1.iu y c q
   ·obtain⟨q1,q2,q3⟩:=I1.pin p hp;refine⟨q1,?_,q3⟩;rw[aq (aax (aal (I.pin p hp).1))];exact q2
   ·by_cases hb:b=s.heap.objs.size
    ·subst hb;rw[aR]at q;cases q;exact⟨by show 2<=sizeLine;decide,[.int i s.toks,u],.cons ⟨_,rfl⟩ #[ru],_,hT2,rfl,_,rfl⟩
    ·rw[aq hb]at q;exact(I1.hok b o q).stay (λc v _ z=>z) (λc z=>by rw[aq (aM z hn)];exact z) λc ys z=>by rw[aq (aM z hn)];exact z
  refine⟨.ref s.heap.objs.size,_,I2,rfl,⟨s.heap.objs.size,x,hn,rfl,rfl,λys hy=>by rw[I.xm hy hq];exact hx⟩,⟨⟨_,by simpa using XI⟩,?_⟩,λb hb=>?_⟩
  ·exact UP.at λo y=>(hs2.2 it hne.symm).trans y
  ·have hlt:b<s.heap.objs.size:=by
    rcases aap.mp hb with z|z
    ·rw[z];exact hei
    ·rw[aaj.mp z];exact XH
   rw[aq (aax hlt)];exact(hf b hb).1
 done:=by intro X hP hw hK hc i pins s σ H E I hf st hg;subst hP hw hK;obtain⟨xs,hq,hx⟩:=hg;obtain⟨its,rv,p,hz⟩:=I.list hq;obtain⟨⟨old,he⟩,hit⟩:=st;have hl:=rv.length;exact wpAny_pyNext_enum_end (I.ok.hd hc) he hit p.isList (by simp;omega) λh' eb=>⟨rfl,I.AO (t':=s.toks) (ch:=[e,it]) hf λb o hb q=>eb b o (λz=>hb (by simp[z])) q⟩
 self:=λ_ _ _ _ _ st h=>let ⟨_,he⟩:=st.1;wpAny_pyIter_enum he h
def QV(K:Frag)(ta:TA):TI:=λσ H R=>ta σ H λvs H1=>∃a,vs=[.ref a]/\(∃xs,gF K H1 a xs)/\R (QU K a) H1
theorem IY{k:Nat}(hg:Gl X "enumerate")(hm:X.mg "enumerate" = none)(ha:PA X [a] ta)(hs:starEach [a] X.env=[(false,eval a X.env)]) :
  PI X (.Tuple es k tpos) (.Call (.Name "enumerate" p) [a] [] pos) (QV X.K ta):=by
 intro pins s σ H R I h;refine Call_ (gg I hg hm boot_enumerate (aaS (cg (ha pos pins s σ H _ I h) λus s1 aO=>?_) hs rfl));obtain⟨vs,H1,I1,r1,q1⟩:=aO;obtain⟨l,e,⟨xs,hq⟩,q⟩:=q1;subst e;cases r1 with
 |cons r rr=>
  cases rr;cases r;obtain⟨its,rv,pl,hz⟩:=I1.list hq;refine call_enumerate_list pl.isList λh' he hit hsz hk=>?_;have I2:Inv X pins σ H1 { s1 with heap:=h' }:=I1.kept (t':=s1.toks) hk;refine wpAny_pyIter_enum (s:={ s1 with heap:=h' }) he ?_;refine⟨_,[s1.heap.objs.size+1,s1.heap.objs.size],_,_,H1,rfl,I2,Cw l _ _ (ne_of_gt (aaW _)),⟨⟨_,by simpa using he⟩,hit⟩,λb hb=>?_,q⟩;have hb':s1.heap.objs.size<=b:=by
   rcases aap.mp hb with z|z
   ·rw[z];exact le_succ _
   ·rw[aaj.mp z];exact aae _
  exact I1.DF hb' (I1.hok.fresh hb')
end L2
end
section
namespace L2
open PySem PySem.W PyProof.Rows
namespace mX
section
variable {O:KeyOrd} {key:Nat->O.α} {N:Nat} {cmp:Nat->Nat->(Bool->Shared->Prop)->Shared->Prop} {s:Shared}
def K(O:KeyOrd)(key:Nat->O.α)(p:Array Nat)(i:Nat):O.α:=key (p.getD i 0)
def Up(O:KeyOrd)(key:Nat->O.α)(p:Array Nat)(k:Nat):Prop:=∀i j,i<=j->j<k->O.kle (K O key p i) (K O key p j)
def Down(O:KeyOrd)(key:Nat->O.α)(p:Array Nat)(k:Nat):Prop:=∀i j,i<=j->j<k->O.kle (K O key p j) (K O key p i)
def IZ(O:KeyOrd)(key:Nat->O.α)(N:Nat)(cmp:Nat->Nat->(Bool->Shared->Prop)->Shared->Prop)(s:Shared):Prop :=
 ∀i j (C:Bool->Shared->Prop),i<N->j<N->C (O.blt (key i) (key j)) s->cmp i j C s
def Ent(N:Nat)(p:Array Nat):Prop:=p.size=N/\0<N/\∀x∈p.toList,x<N
theorem Ent.at{p:Array Nat}(h:Ent N p)(i:Nat):p.getD i 0<N:=by
 by_cases hi:i<p.size
 ·have e:p.getD i 0=p[i]:=by simp[Array.getD,hi]
  rw[e];exact h.2.2 _ (by simp)
 ·have e:p.getD i 0=0:=by simp[Array.getD,hi]
  rw[e];exact h.2.1
theorem Ent.perm{p q:Array Nat}(h:Ent N p)(e:q.Perm p):Ent N q :=
 ⟨e.size_eq.trans h.1,h.2.1,λx hx=>h.2.2 x ((Array.perm_iff_toList_perm.mp e).mem_iff.mp hx)⟩
theorem K_congr{p q:Array Nat}{i j:Nat}(h:p[i]?=q[j]?):K O key p i=K O key q j:=by
 unfold K;rw[Array.getD_eq_getD_getElem?,Array.getD_eq_getD_getElem?,h]
theorem K_bubble{p:Array Nat}{src d:Nat}(hs:src<p.size)(hd:d<=src)(k:Nat) :
  K O key (bubble p src d) k=if k=src-d then K O key p src else if src-d<k/\k<=src then K O key p (k-1) else K O key p k:=by
 have e:=getElem?_bubble hs d hd k
 by_cases h1:k=src-d
 ·rw[aab h1]at e |-;exact K_congr e
 ·rw[aad h1]at e |-
  by_cases h2:src-d<k/\k<=src
  ·rw[aab h2]at e |-;exact K_congr e
  ·rw[aad h2]at e |-;exact K_congr e
theorem D4{p:Array Nat}{i j:Nat}(hj:j<=p.size)(k:Nat):K O key (kas_rev p i j) k=if i<=k/\k<j then K O key p (i+j-1-k) else K O key p k:=by
 have e:=getElem?_mirror_all (i:=i) hj k
 by_cases h1:i<=k/\k<j
 ·rw[aab h1]at e |-;exact K_congr e
 ·rw[aad h1]at e |-;exact K_congr e
theorem rG{p:Array Nat}{i j:Nat}(hj:j<=p.size)(h:∀k,i<=k->k<j->K O key p k=K O key p (j-1))(k:Nat):K O key (kas_rev p i j) k=K O key p k:=by
 rw[D4 hj]
 split
 ·rw[h _ (by omega) (by omega),h k (by omega) (by omega)]
 ·rfl
theorem xP{p:Array Nat}{m:Nat}(h:∀t,1<=t->t<m->O.kle (K O key p (t-1)) (K O key p t)):Up O key p m:=by
 intro i j hij hj
 induction j with
 |zero=>
  have:i=0:=by omega
  subst this;exact KeyOrd.kle_refl _
 |succ j ih=>
  by_cases e:i=j+1
  ·subst e;exact KeyOrd.kle_refl _
  ·exact KeyOrd.kle_trans (ih (by omega) (by omega)) (h (j+1) (by omega) hj)
theorem My(hA:IZ O key N cmp s){p:Array Nat}(he:Ent N p):∀(f n:Nat) {Q:Nat->Shared->Prop},1<=n ->
  (∀m,n<=m->m<=n+f->(∀t,n<=t->t<m->O.kle (K O key p (t-1)) (K O key p t))->(m<n+f->O.klt (K O key p m) (K O key p (m-1)))->Q m s)->(kas_asc p f n).kasWp cmp Q s
 |0,n,Q,hn,h=>h n (aae _) (aae _) (λt h1 h2=>by omega) λq=>by omega
 | f+1,n,Q,hn,h=>by
  show cmp _ _ _ s;refine hA _ _ _ (he.at _) (he.at _) ?_;cases hb:O.blt (key (p.getD n 0)) (key (p.getD (n-1) 0)) with
  |true=>exact h n (aae _) (by omega) (λt h1 h2=>by omega) λ_=>hb
  |false=>
   show (kas_asc p f (n+1)).kasWp cmp Q s;refine My hA he f (n+1) (by omega) λm h1 h2 h3 h4=>h m (by omega) (by omega) (λt t1 t2=>?_) λq=>h4 (by omega)
   by_cases e:t=n
   ·subst e;exact hb
   ·exact h3 t (by omega) t2
theorem AQ(hA:IZ O key N cmp s):∀(f:Nat) (p:Array Nat) (n q:Nat) {Q:Array Nat×Nat×Nat->Shared->Prop},Ent N p->1<=n->n+f<=N->q+1<=n->Down O key p n->(∀i,n-(q+1)<=i->i<n->K O key p i=K O key p (n-1)) ->
  (∀p' n' q',p'.Perm p->Ent N p'->1<=n'->n<=n'->n'<=n+f->q'+1<=n'->Down O key p' n'->(∀i,n'-(q'+1)<=i->i<n'->K O key p' i=K O key p' (n'-1))->Q (p',n',q') s)->(kas_desc f p n q).kasWp cmp Q s
 |0,p,n,q,Q,he,hn,hN,hq,hd,hl,h=>h p n q (Array.Perm.refl _) he hn (aae _) (aae _) hq hd hl
 | f+1,p,n,q,Q,he,hn,hN,hq,hd,hl,h=>by
  show cmp _ _ _ s;refine hA _ _ _ (he.at _) (he.at _) ?_;cases hb:O.blt (key (p.getD n 0)) (key (p.getD (n-1) 0)) with
  |true=>
   have hlt:O.klt (K O key p n) (K O key p (n-1)):=hb;have hd1:Down O key p (n+1):=λi j hij hj=>by
    by_cases e:j=n
    ·subst e
     by_cases e2:i=j
     ·subst e2;exact KeyOrd.kle_refl _
     ·exact KeyOrd.kle_trans (KeyOrd.kle_of_klt hlt) (hd i (j-1) (by omega) (by omega))
    ·exact hd i j hij (by omega)
   show (if q>0 then kas_desc f (kas_rev p (n-(q+1)) n) (n+1) 0 else kas_desc f p (n+1) 0).kasWp cmp Q s
   by_cases Wb:q>0
   ·rw[aab Wb]
    have ep:(kas_rev p (n-(q+1)) n).Perm p:=mirror_perm _ _ _ _;have eK:∀k,K O key (kas_rev p (n-(q+1)) n) k=K O key p k:=λk=>rG (by rw[he.1];omega) hl k;refine AQ hA f _ (n+1) 0 (he.perm ep) (by omega) (by omega) (by omega) (λi j hij hj=>by rw[eK,eK];exact hd1 i j hij hj) (λi h1 h2=>?_) λp' n' q' g1 g2 g3 g4 g5 g6 g7 g8=>h p' n' q' (g1.trans ep) g2 g3 (by omega) (by omega) g6 g7 g8;have:i=n:=by omega
    subst this;rfl
   ·rw[aad Wb]
    refine AQ hA f p (n+1) 0 he (by omega) (by omega) (by omega) hd1 (λi h1 h2=>?_) λp' n' q' g1 g2 g3 g4 g5 g6 g7 g8=>h p' n' q' g1 g2 g3 (by omega) (by omega) g6 g7 g8;have:i=n:=by omega
    subst this;rfl
  |false=>
   show cmp _ _ _ s;refine hA _ _ _ (he.at _) (he.at _) ?_;cases hc:O.blt (key (p.getD (n-1) 0)) (key (p.getD n 0)) with
   |true=>exact h p n q (Array.Perm.refl _) he hn (aae _) (by omega) hq hd hl
   |false=>
    have heq:K O key p n=K O key p (n-1):=O.total _ _ hb hc;show (kas_desc f p (n+1) (q+1)).kasWp cmp Q s;refine AQ hA f p (n+1) (q+1) he (by omega) (by omega) (by omega) (λi j hij hj=>?_) (λi h1 h2=>?_) λp' n' q' g1 g2 g3 g4 g5 g6 g7 g8=>h p' n' q' g1 g2 g3 (by omega) (by omega) g6 g7 g8
    ·by_cases e:j=n
     ·subst e
      by_cases e2:i=j
      ·subst e2;exact KeyOrd.kle_refl _
      ·rw[heq];exact hd i (j-1) (by omega) (by omega)
     ·exact hd i j hij (by omega)
    ·show K O key p i=K O key p (n+1-1)
     rw[Nat.add_sub_cancel]
     by_cases e:i=n
     ·subst e;rfl
     ·rw[heq];exact hl i (by omega) (by omega)
theorem D5(hA:IZ O key N cmp s){p:Array Nat}{n nrem:Nat}(he:Ent N p)(h1:1<=n)(hn:n<=nrem)(hr:nrem<=N)(hd:Down O key p n)
  (h:∀m p',p'.Perm p->Ent N p'->1<=m->m<=nrem->Up O key p' m->Q (m,p') s):(kas_tail3 n nrem p).kasWp cmp Q s:=by
 unfold kas_tail3;rw[KasT.kasWp_bind];have ep:(kas_rev p 0 n).Perm p:=mirror_perm _ _ _ _;have hz:n<=p.size:=by rw[he.1];omega
 refine My hA (he.perm ep) _ _ h1 λm a1 a2 a3 _=>h m _ ep (he.perm ep) (by omega) (by omega) (xP λt t1 t2=>?_)
 by_cases e:t<n
 ·rw[D4 hz,D4 hz,aab (by omega),aab (by omega)];exact hd _ _ (by omega) (by omega)
 ·exact a3 t (by omega) t2
theorem uy(hA:IZ O key N cmp s){p:Array Nat}{n nrem:Nat}(he:Ent N p)(hn:n+1<=nrem)(hr:nrem<=N)(hd:Down O key p (n+1))
  (h:∀m p',p'.Perm p->Ent N p'->1<=m->m<=nrem->Up O key p' m->Q (m,p') s):(kas_descPart n nrem p).kasWp cmp Q s:=by
 unfold kas_descPart;rw[KasT.kasWp_bind];have QW:∀i,n+1-(0+1)<=i->i<n+1->K O key p i=K O key p (n+1-1):=λi h1 h2=>by
  have e:i=n:=by omega
  subst e;rfl
 refine AQ hA (nrem-(n+1)) p (n+1) 0 he (by omega) (by omega) (by omega) hd QW λp' n' q' g1 g2 g3 g4 g5 g6 g7 g8=>?_;show (if q'>0 then kas_tail3 n' nrem (kas_rev p' (n'-(q'+1)) n') else kas_tail3 n' nrem p').kasWp cmp Q s
 by_cases hq:q'>0
 ·rw[aab hq];have ep:(kas_rev p' (n'-(q'+1)) n').Perm p':=mirror_perm _ _ _ _;have eK:∀k,K O key (kas_rev p' (n'-(q'+1)) n') k=K O key p' k:=λk=>rG (by rw[g2.1];omega) g8 k;exact D5 hA (g2.perm ep) g3 (by omega) hr (λi j hij hj=>by rw[eK,eK];exact g7 i j hij hj) λm p'' a1 a2 a3 a4 a5=>h m p'' ((a1.trans ep).trans g1) a2 a3 a4 a5
 ·rw[aad hq];exact D5 hA g2 g3 (by omega) hr g7 λm p'' a1 a2 a3 a4 a5=>h m p'' (a1.trans g1) a2 a3 a4 a5
theorem Mz(hA:IZ O key N cmp s){p:Array Nat}{nrem:Nat}(he:Ent N p)(h1:1<=nrem)(hr:nrem<=N)
  (h:∀m p',p'.Perm p->Ent N p'->1<=m->m<=nrem->Up O key p' m->Q (m,p') s):(kas_count nrem p).kasWp cmp Q s:=by
 unfold kas_count;rw[KasT.kasWp_bind];refine My hA he _ _ (aae _) λn a1 a2 a3 a4=>?_;have hup:Up O key p n:=xP λt t1 t2=>a3 t t1 t2
 by_cases e1:(n==nrem)=true
 ·rw[aab e1];exact h n p (Array.Perm.refl _) he a1 (by omega) hup
 ·rw[aad e1]
  have Wc:n≠nrem:=λz=>e1 (by simp[z]);have hlt:O.klt (K O key p n) (K O key p (n-1)):=a4 (by omega)
  by_cases e2:n>1
  ·rw[aab e2]
   show cmp _ _ _ s;refine hA _ _ _ (he.at _) (he.at _) ?_;cases hc:O.blt (key (p.getD 0 0)) (key (p.getD (n-1) 0)) with
   |true=>exact h n p (Array.Perm.refl _) he a1 (by omega) hup
   |false=>
    have hle:O.kle (K O key p (n-1)) (K O key p 0):=hc;have ep:(kas_rev p 0 n).Perm p:=mirror_perm _ _ _ _;have hall:∀k,0<=k->k<n->K O key p k=K O key p (n-1):=λk _ hk=>
     KeyOrd.kle_antisymm (hup k (n-1) (by omega) (by omega)) (KeyOrd.kle_trans hle (hup 0 k (by omega) hk))
    have eK:∀k,K O key (kas_rev p 0 n) k=K O key p k:=λk=>rG (by rw[he.1];omega) hall k;show (kas_descPart n nrem (kas_rev p 0 n)).kasWp cmp Q s;refine uy hA (he.perm ep) (by omega) hr (λi j hij hj=>?_) λm p' b1 b2 b3 b4 b5=>h m p' (b1.trans ep) b2 b3 b4 b5;rw[eK,eK]
    by_cases ej:j=n
    ·subst ej
     by_cases ei:i=j
     ·subst ei;exact KeyOrd.kle_refl _
     ·rw[hall i (by omega) (by omega)];exact KeyOrd.kle_of_klt hlt
    ·rw[hall i (by omega) (by omega),hall j (by omega) (by omega)];exact KeyOrd.kle_refl _
  ·rw[aad e2]
   have en:n=1:=by omega
   subst en;refine uy hA he (by omega) hr (λi j hij hj=>?_) λm p' b1 b2 b3 b4 b5=>h m p' b1 b2 b3 b4 b5
   by_cases ei:i=j
   ·subst ei;exact KeyOrd.kle_refl _
   ·have:i=0/\j=1:=by omega
    obtain⟨rfl,rfl⟩:=this;exact KeyOrd.kle_of_klt hlt
theorem zU(hA:IZ O key N cmp s){p:Array Nat}{k:Nat}(he:Ent N p)(hs:Up O key p k):∀(f l r:Nat) {Q:Nat->Shared->Prop},l<=r->r<=k->r-l<=f ->
  (∀i,i<l->O.kle (K O key p i) (K O key p k))->(∀i,r<=i->i<k->O.klt (K O key p k) (K O key p i)) ->
  (∀l',l'<=k->(∀i,i<l'->O.kle (K O key p i) (K O key p k))->(∀i,l'<=i->i<k->O.klt (K O key p k) (K O key p i))->Q l' s)->(kas_place p k f l r).kasWp cmp Q s
 | 0,l,r,Q,hlr,hrk,hf,hlo,hhi,h=>by
  have:l=r:=by omega
  subst this;exact h l hrk hlo hhi
 | f+1,l,r,Q,hlr,hrk,hf,hlo,hhi,h=>by
  show (if l≥r then KasT.ret l else _).kasWp cmp Q s
  by_cases hge:l≥r
  ·rw[aab hge]
   have:l=r:=by omega
   subst this;exact h l hrk hlo hhi
  ·rw[aad hge]
   show cmp _ _ _ s;refine hA _ _ _ (he.at _) (he.at _) ?_;cases hb:O.blt (key (p.getD k 0)) (key (p.getD ((l+r)/2) 0)) with
   |true=>show (kas_place p k f l ((l+r)/2)).kasWp cmp Q s;exact zU hA he hs f l ((l+r)/2) (by omega) (by omega) (by omega) hlo (λi h1 h2=>KeyOrd.klt_of_klt_of_kle hb (hs _ _ h1 h2)) h
   |false=>show (kas_place p k f ((l+r)/2+1) r).kasWp cmp Q s;exact zU hA he hs f ((l+r)/2+1) r (by omega) (by omega) (by omega) (λi h1=>KeyOrd.kle_trans (hs i ((l+r)/2) (by omega) (by omega)) hb) hhi h
theorem QX(hA:IZ O key N cmp s):∀(f:Nat) (p:Array Nat) (k:Nat) {Q:Array Nat->Shared->Prop},Ent N p->k+f<=N->Up O key p k->(∀p',p'.Perm p->Up O key p' (k+f)->Q p' s)->(kas_bin f p k).kasWp cmp Q s
 |0,p,k,Q,he,hk,hs,h=>h p (Array.Perm.refl _) hs
 | f+1,p,k,Q,he,hk,hs,h=>by
  show ((kas_place p k k 0 k).bind λl=>kas_bin f (bubble p k (k-l)) (k+1)).kasWp cmp Q s;rw[KasT.kasWp_bind];refine zU hA he hs k 0 k (by omega) (by omega) (by omega) (λi hi=>by omega) (λi h1 h2=>by omega) λl hl hlo hhi=>?_;have ep:(bubble p k (k-l)).Perm p:=bubble_perm _ _ _;have hks:k<p.size:=by rw[he.1];omega
  refine QX hA f _ (k+1) (he.perm ep) (by omega) (λi j hij hj=>?_) λp' a1 a2=>h p' (a1.trans ep) (by rwa [show k+(f+1)=k+1+f by omega]);rw[K_bubble hks (by omega),K_bubble hks (by omega),show k-(k-l)=l by omega]
  repeat' split
  all_goals first
   |(exfalso;omega)
   |exact KeyOrd.kle_refl _
   |exact hlo _ (by omega)
   |exact KeyOrd.kle_of_klt (hhi _ (by omega) (by omega))
   |exact hs _ _ (by omega) (by omega)
theorem QY(hA:IZ O key N cmp s)(h1:1<=N)(h:∀p,p.Perm (toArray (List.range N))->Up O key p N->Q p s):(kas_sort N).kasWp cmp Q s:=by
 unfold kas_sort;rw[KasT.kasWp_bind];have he:Ent N (toArray (List.range N)):=⟨by simp,h1,λx hx=>by simpa using hx⟩;refine Mz hA he h1 (aae _) λm p a1 a2 a3 a4 a5=>?_;show (if m<N then kas_bin (N-max m 1) p (max m 1) else KasT.ret p).kasWp cmp Q s;have em:max m 1=m:=by omega
 by_cases hlt:m<N
 ·rw[aab hlt,em];exact QX hA _ p m a2 (by omega) a5 λp' b1 b2=>h p' (b1.trans a1) (by rwa [show m+(N-m)=N by omega]at b2)
 ·rw[aad hlt]
  have:m=N:=by omega
  subst this;exact h p a1 a5
end
end mX
namespace mX
theorem cN{α:Type}(l:List α)(d:α):(List.range l.length).map (λi=>l.getD i d)=l:=by
 refine ext_getElem (by simp) λi h1 h2=>?_;simp[h2]
section
variable {prog:Program} {w:World} {A:Around} {E:Value->Shared->Prop} {s:Shared}
def uz(prog:Program)(w:World)(A:Around)(O:KeyOrd)(key:Nat->O.α)(vs:List Value)(s6:Shared):Prop :=
 wpAny (model prog w) A (keyKind' vs.toArray) (λκ s'=>s'=s6/\IZ O key vs.length (kas_ask prog w A κ vs) s6) (λ_ _=>False) s6
structure D6 (O:KeyOrd) (key:Nat->O.α) (n:Nat) (p:List Nat):Prop where
 perm:p.Perm (List.range n)
 up:(p.map key).Pairwise O.kle
theorem Ja{n:Nat}{p:Array Nat}(h1:p.Perm (toArray (List.range n)))(h2:Up O key p n):D6 O key n p.toList:=by
 have hp:p.toList.Perm (List.range n):=by simpa using Array.perm_iff_toList_perm.mp h1
 refine⟨hp,List.pairwise_iff_getElem.mpr λi j hi hj hij=>?_⟩;have hz:p.toList.length=n:=by rw[hp.length_eq,length_range]
 rw[Z9]at hi hj;have q:=h2 i j (le_of_lt hij) (by omega);have ei:p.getD i 0=p.toList[i]:=by simp at hi;simp[Array.getD,hi]
 have ej:p.getD j 0=p.toList[j]:=by simp at hj;simp[Array.getD,hj]
 unfold K at q;rw[ei,ej]at q;rw[getElem_map,getElem_map];exact q
theorem D7{n:Nat}(ho:s.heap.get? a=some (seqObj "list" vs.toArray n))(h64:vs.length<64)
  (hk:2<=vs.length->∀h6:Heap,(∀b o,b≠a->s.heap.get? b=some o->h6.get? b=some o)->uz prog w A O key vs { s with heap:=h6 })
  (h:∀p,D6 O key vs.length p->P (.done (.ret .none)) { s with heap:=sortedHeap s.heap a vs (p.map λi=>vs.getD i Value.none).toArray }) :
  wpAny (model prog w) A (Builtin.«list.sort» ⟨[.ref a],[]⟩) P E s:=by
 have alt:a<s.heap.objs.size:=aal ho;have big:vs.length<=sizeLine:=by rw[sizeLine_eq];omega
 rw[list_sort_plain];apply Z2;apply listItems_at ho rfl;apply Z2;refine listUpdate_at ho rfl ?_ (by rw[aak];exact big) (zero_le _);have q1:=get?_update_seq ho (λ_=>(#[]:Array Value));apply Z2;apply seqEpoch_at q1 rfl;apply Z2;refine wpAny_newTuple ?_ (by show vs.length<=sizeLine;exact big);apply Z2;refine wpAny_newList ?_ (zero_le _);apply wpAny_holding;generalize hN:((s.heap.update a (Obj.mapSeq λ_=>(#[]:Array Value))).push (seqObj "tuple" vs.toArray 0)).push (seqObj "list" #[] 0)=h6;have QZ:∀b o,b≠a->s.heap.get? b=some o->h6.get? b=some o:=λb o hb e=>by
  rw[<-hN];refine Z7 _ (Z7 _ ?_);rw[Heap.get?_update_ne _ _ _ _ hb];exact e
 have q6:h6.get? a=some (seqObj "list" #[] (if (#[]:Array Value).size==vs.toArray.size then n else n+1)):=by rw[<-hN];exact Z7 _ (Z7 _ q1)
 have eS:∀out,h6.update a (Obj.mapSeq λ_=>out)=sortedHeap s.heap a vs out:=λout=>by rw[<-hN];rfl
 show wpAny (model prog w) A _ P E { s with heap:=h6 };dsimp only
 by_cases h2:vs.toArray.size<2
 ·rw[aab h2,aab h2]
  apply Z2;apply aac;rw[StateT.run_pure];apply Z2;apply aac;dsimp only;have eo:(arrOf (SortSt.mk' general' (vs.toArray.zip vs.toArray) #[] 7 none)).map (·.2)=vs.toArray:=by show (vs.toArray.zip vs.toArray).map (·.2)=vs.toArray;apply Array.toList_inj.mp;simp[List.map_snd_zip]
  rw[eo];apply Z2;apply seqEpoch_at q6 rfl;apply Z2;refine listUpdate_at q6 rfl ?_ (zero_le _) (by show vs.toArray.size<=_;rw[aak];omega);have hb:((if (#[]:Array Value).size==vs.toArray.size then n else n+1) != (if (#[]:Array Value).size==vs.toArray.size then n else n+1))=false:=by simp
  rw[eS];simp only[hb,false_eq_true,if_false];apply aac;have g:=h (List.range vs.length) ⟨List.Perm.refl _,?_⟩
  ·rw[cN]at g;exact g
  ·rw[aak]at h2;refine List.pairwise_iff_getElem.mpr λi j hi hj hij=>?_;simp at hi hj;omega
 ·rw[aad h2,aad h2]
  rw[aak]at h2;have ask:=hk (by omega) h6 QZ;apply Z2;refine wpAny_mono ask (λκ s0 hκ=>?_) λ_ _ x=>x.elim;obtain⟨rfl,XJ⟩:=hκ;apply Z2;refine wpAny_mono (kat_run (Q:=λst' s'=>s'={ s with heap:=h6 }/\∃p:Array Nat,D6 O key vs.length p.toList/\p.size=vs.length/\(arrOf st').map (·.2)=(p.toList.map λi=>vs.getD i Value.none).toArray/\failedOf st'=none)
   (G:=λp s'=>s'={ s with heap:=h6 }/\D6 O key vs.length p.toList) rfl (by omega) h64 (λp st' s' a1 a2 a3 a4=>⟨a4.1,p,a4.2,a1,kat_snds rfl a2,a3⟩)
   (QY XJ (by omega) λp b1 b2=>⟨rfl,Ja b1 b2⟩)) ?_ λ_ _ x=>x
  rintro⟨⟨⟩,st'⟩ s' ⟨rfl,p,op,pz,er,ef⟩;dsimp only;rw[er];apply Z2;apply seqEpoch_at q6 rfl;apply Z2;refine listUpdate_at q6 rfl ?_ (zero_le _) (by show (toArray _).size<=_;rw[aak,Z9,aaG,pz];omega);have hb:((if (#[]:Array Value).size==vs.toArray.size then n else n+1) != (if (#[]:Array Value).size==vs.toArray.size then n else n+1))=false:=by simp
  rw[eS,ef];simp only[hb,false_eq_true,if_false];exact aac (h p.toList op)
theorem eW
  (h:wpAny (model prog w) A.in1 (collect x) (λvs s1=>vs.length<64/\∃key:Nat->O.α,(2<=vs.length->∀h6:Heap,(∀b o,s1.heap.get? b=some o->h6.get? b=some o)->uz prog w A.in1.in1 O key vs { s1 with heap:=h6 }) /\
   ∀p h',D6 O key vs.length p->(∀b o,s1.heap.get? b=some o->h'.get? b=some o)->(∃e,h'.get? s1.heap.objs.size=some (seqObj "list" (p.map λi=>vs.getD i Value.none).toArray e))->Q (.ref s1.heap.objs.size) { s1 with heap:=h' }) E s) :
  wpAny (model prog w) A (call (.builtin "sorted") [x]) Q E s:=by
 refine Calls.call_function_entry kind_sorted plain_sorted entry_sorted (args_sorted1 _) ?_;unfold Builtin.«sorted»;refine Z2 (m:=checkCount "sorted" 1 1 _) (aac ?_);apply Z2;refine wpAny_mono h (λvs s1 ⟨h64,key,hk,hq⟩=>?_) λ_ _ z=>z;have big:vs.length<=sizeLine:=by rw[sizeLine_eq];omega
 apply Z2;refine wpAny_newList ?_ big;have q:(s1.heap.push (seqObj "list" vs.toArray 0)).get? s1.heap.objs.size=some (seqObj "list" vs.toArray 0):=aao _ rfl;apply Z2;apply wpAny_holding;refine wpAny_call_entry (s:={ s1 with heap:=s1.heap.push (seqObj "list" vs.toArray 0) }) slot_list_sort ⟨_,q,rfl⟩ entry_list_sort ?_ (args_list_sort _);refine D7 (key:=key) (s:={ s1 with heap:=s1.heap.push (seqObj "list" vs.toArray 0) }) q h64 (λh2 h6 k6=>?_) λp op=>⟨_,rfl,aac ⟨_,rfl,?_⟩⟩
 ·exact hk h2 h6 λb o e=>k6 b o (aax (aal e)) (Z7 _ e)
 ·refine hq p _ op (λb o e=>?_) (sortedHeap_at q);rw[sortedHeap_old (aax (aal e)) (by rw[size_push'];exact lt_succ_of_lt (aal e))];exact Z7 _ e
end
def mj:KeyOrd where
 α:=Int
 blt:=λa b=>decide (a<b)
 irrefl:=λa=>by simp
 trans:=λa b c h1 h2=>by simp at *;omega
 negTrans:=λa b c h=>by simp at *;omega
 total:=λa b h1 h2=>by simp at *;omega
theorem mq{s6:Shared}{ns:List Int}(hI:IntsAre vs ns)(h2:2<=vs.length):uz prog w A mj (λi=>ns.getD i 0) vs s6:=by
 have at_:∀i,i<vs.length->∃t,vs.getD i Value.none=.int (ns.getD i 0) t:=by
  intro i hi
  induction hI generalizing i with
  |nil=>simp at hi
  |cons z t r ih=>
   cases i with
   |zero=>exact⟨t,by simp⟩
   |succ i=>
    by_cases hr:2<=1
    ·omega
    ·simp only[length_cons]at hi
     have aux:∀{vs:List Value} {ns:List Int},IntsAre vs ns->∀i,i<vs.length->∃t,vs.getD i Value.none=.int (ns.getD i 0) t:=by
      intro vs ns q
      induction q with
      |nil=>intro i hi;simp at hi
      |cons z t r ih=>
       intro i hi;cases i with
       |zero=>exact⟨t,by simp⟩
       |succ i=>simp only[length_cons]at hi;obtain⟨u,e⟩:=ih i (by omega);exact⟨u,by simpa using e⟩
     obtain⟨u,e⟩:=aux r i (by omega);exact⟨u,by simpa using e⟩
 obtain⟨v₁,v₂,rest,rfl⟩:∃v₁ v₂ rest,vs=v₁::v₂::rest:=by
  match vs,h2 with
  |v₁::v₂::rest,_=>exact⟨v₁,v₂,rest,rfl⟩
 unfold uz;rw[keyKind_ints hI];refine aac ⟨rfl,λi j C hi hj hc=>?_⟩;obtain⟨t,e1⟩:=at_ i hi;obtain⟨u,e2⟩:=at_ j hj;unfold kas_ask;rw[e1,e2,keyLt'_oneType];exact oneLt_int hc
theorem jz:∀a,HT.lexLt a a=false
 |[]=>rfl
 |x::xs=>by rw[HT.fG,aab rfl];exact jz xs
theorem iw:∀a b,HT.lexLt a b=false->HT.lexLt b a=false->a=b
 |[],[],_,_=>rfl
 |[],_::_,h,_=>by rw[HT.gH]at h;cases h
 |_::_,[],_,h=>by rw[HT.gH]at h;cases h
 | x::xs,y::ys,h1,h2=>by
  rw[HT.fG]at h1 h2
  by_cases e:x=y
  ·subst e;rw[aab rfl]at h1 h2;rw[iw xs ys h1 h2]
  ·rw[aad e]at h1;rw[aad (λz=>e z.symm)]at h2;simp at h1 h2;omega
theorem iy:∀a b c,HT.lexLt a b=true->HT.lexLt b c=true->HT.lexLt a c=true
 |[],[],c,h,_=>by rw[HT.tZ]at h;cases h
 |[],_::_,[],_,h=>by rw[HT.eV]at h;cases h
 |[],_::_,_::_,_,_=>rfl
 |_::_,[],_,h,_=>by rw[HT.eV]at h;cases h
 |_::_,_::_,[],_,h=>by rw[HT.eV]at h;cases h
 | x::xs,y::ys,z::zs,h1,h2=>by
  rw[HT.fG]at h1 h2 |-
  by_cases e1:x=y
  ·subst e1
   rw[aab rfl]at h1
   by_cases e2:x=z
   ·subst e2;rw[aab rfl]at h2 |-;exact iy xs ys zs h1 h2
   ·rw[aad e2]at h2 |-;exact h2
  ·rw[aad e1]at h1
   by_cases e2:y=z
   ·subst e2;rw[aad e1];exact h1
   ·rw[aad e2]at h2;simp at h1 h2;rw[aad (by omega)];simp;omega
theorem uA(a b c:List Int)(h:HT.lexLt a c=true):HT.lexLt a b=true\/HT.lexLt b c=true:=by
 cases h1:HT.lexLt a b with
 |true=>exact .inl rfl
 |false=>
  cases h2:HT.lexLt b c with
  |true=>exact .inr rfl
  |false=>
   cases h3:HT.lexLt b a with
   |true=>have:=iy _ _ _ h3 h;rw[h2]at this;cases this
   |false=>rw[iw _ _ h1 h3]at h;rw[h2]at h;cases h
def lexOrd:KeyOrd where
 α:=List Int
 blt:=HT.lexLt
 irrefl:=jz
 trans:=iy
 negTrans:=uA
 total:=iw
section
variable {prog:Program} {w:World} {A:Around} {s:Shared}
theorem pU{b fin:Bool}:∀{us vs:List Value} {ns ms:List Int} (i:Nat),IntsAre us ns->IntsAre vs ms->(ns.length<ms.length↔fin=true)->us.length=ns.length ->
  Q (HT.lexLt ns ms) s->(ns.length=ms.length\/i=i)->(∀k,k<ns.length->k<ms.length->True)->(ns.length≠ms.length->True)->(fin=decide (ns.length<ms.length))->KatLex prog w A b fin Q (us.zip vs) i s
 | _,_,_,_,i,.nil,.nil,_,_,hq,_,_,_,hf=>by
  refine kat_nil ?_;rw[hf];exact hq
 | _,_,_,_,i,.nil,.cons _ _ _,_,_,hq,_,_,_,hf=>by
  refine kat_nil ?_;rw[hf];simpa [HT.gH] using hq
 | _,_,_,_,i,.cons _ _ _,.nil,_,_,hq,_,_,_,hf=>by
  refine kat_nil ?_;rw[hf];simpa [HT.eV] using hq
 | _,_,_,_,i,.cons x t r,.cons y u r',h1,h2,hq,_,_,_,hf=>by
  refine kat_cons (wpAny_eqBool_int ?_);rw[HT.fG]at hq
  by_cases e:x=y
  ·subst e
   rw[aab rfl]at hq;rw[beq_self_eq_true];refine kat_yes (pU (i+1) r r' ?_ ?_ hq (.inr rfl) (λ_ _ _=>trivial) (λ_=>trivial) ?_)
   ·simpa using h1
   ·simpa using h2
   ·rw[hf];simp
  ·rw[aad e]at hq
   rw[show (x==y)=false from aaJ.mpr e];refine kat_no ?_;cases hb:(b&&i==0) with
   |true=>exact oneLt_int hq
   |false=>exact kat_one _ _ (PyProof.Rows.lt_int hq)
end
end mX
end L2
end
section
namespace L2
open PySem PySem.Spec PyProof.Rows
def UQ:Key->PyData
 |.inl i=>.int i
 |.inr x=>.str x
mutual
noncomputable def Den(K:Frag)(H:Hp):PyData->V->Prop
 |.none,v=>v=.non
 |.bool b,v=>v=.bl b
 |.int i,v=>v=.int i
 |.str x,v=>v=.str x
 |.list ds,v=>∃a xs,v=.ref a/\gF K H a xs/\eF K H ds xs
 |.tuple ds,v=>∃a xs,v=.ref a/\j8 K H a xs/\eF K H ds xs
 |.dict kvs,v=>∃a ks,v=.ref a/\H a=some (.dK ks)/\mY K H kvs ks
noncomputable def eF(K:Frag)(H:Hp):List PyData->List V->Prop
 |[],xs=>xs=[]
 |d::ds,xs=>∃x r,xs=x::r/\Den K H d x/\eF K H ds r
noncomputable def mY(K:Frag)(H:Hp):List (PyData×PyData)->List (Key×V)->Prop
 |[],ks=>ks=[]
 |(k,d)::r,ks=>∃key x rest,ks=(key,x)::rest/\k=UQ key/\Den K H d x/\mY K H r rest
end
theorem zS.tup{K:Frag}{H H':Hp}{a:Addr}{xs:List V}(e:zS H H')(h:j8 K H a xs):j8 K H' a xs:=by
 rcases h with (h|⟨o,h⟩)|h
 ·exact .inl (.inl (e _ _ h))
 ·exact .inl (.inr ⟨o,e _ _ h⟩)
 ·exact .inr h
section
variable {K:Frag} {H H':Hp}
mutual
theorem Den.same(e:zS H H'):∀(d:PyData) (v:V),Den K H d v->Den K H' d v
 |.none,_,h=>by rw[Den]at h |-;exact h
 |.bool _,_,h=>by rw[Den]at h |-;exact h
 |.int _,_,h=>by rw[Den]at h |-;exact h
 |.str _,_,h=>by rw[Den]at h |-;exact h
 | .list ds,v,h=>by
  rw[Den]at h |-;obtain⟨a,xs,q1,q2,q3⟩:=h;exact⟨a,xs,q1,e.seq q2,eF.same e ds xs q3⟩
 | .tuple ds,v,h=>by
  rw[Den]at h |-;obtain⟨a,xs,q1,q2,q3⟩:=h;exact⟨a,xs,q1,e.tup q2,eF.same e ds xs q3⟩
 | .dict kvs,v,h=>by
  rw[Den]at h |-;obtain⟨a,ks,q1,q2,q3⟩:=h;exact⟨a,ks,q1,e _ _ q2,mY.same e kvs ks q3⟩
theorem eF.same(e:zS H H'):∀(ds:List PyData) (xs:List V),eF K H ds xs->eF K H' ds xs
 |[],_,h=>by rw[eF]at h |-;exact h
 | d::ds,xs,h=>by
  rw[eF]at h |-;obtain⟨x,r,q1,q2,q3⟩:=h;exact⟨x,r,q1,Den.same e d x q2,eF.same e ds r q3⟩
theorem mY.same(e:zS H H'):∀(kvs:List (PyData×PyData)) (ks:List (Key×V)),mY K H kvs ks->mY K H' kvs ks
 |[],_,h=>by rw[mY]at h |-;exact h
 | (k,d)::r,ks,h=>by
  rw[mY]at h |-;obtain⟨key,x,rest,q1,q2,q3,q4⟩:=h;exact⟨key,x,rest,q1,q2,Den.same e d x q3,mY.same e r rest q4⟩
end
theorem eF.nil:eF K H [] []:=by rw[eF]
theorem eF.cons{d:PyData}{ds:List PyData}{x:V}{r:List V}(h1:Den K H d x)(h2:eF K H ds r):eF K H (d::ds) (x::r):=by rw[eF];exact⟨x,r,rfl,h1,h2⟩
theorem Den.int{i:Int}:Den K H (.int i) (.int i):=by rw[Den]
theorem Den.str:Den K H (.str x) (.str x):=by rw[Den]
theorem Den.bool{b:Bool}:Den K H (.bool b) (.bl b):=by rw[Den]
theorem Den.none:Den K H .none .non:=by rw[Den]
theorem Den.list(h:gF K H a xs)(q:eF K H ds xs):Den K H (.list ds) (.ref a):=by rw[Den];exact⟨a,xs,rfl,h,q⟩
theorem Den.tuple(h:j8 K H a xs)(q:eF K H ds xs):Den K H (.tuple ds) (.ref a):=by rw[Den];exact⟨a,xs,rfl,h,q⟩
end
section
variable {X:Cx} {pins:List (Addr×Obj)} {σ:St} {H:Hp} {s:Shared}
mutual
theorem Den.reads(I:Inv X pins σ H s):∀(d:PyData) (v:V) (u:Value),d.canLay0=true->Den X.K H d v->RelV v u->∃as,Reads s.heap u d as
 |.none,v,u,_,h,r=>by rw[Den]at h;subst h;cases r;exact⟨_,.none⟩
 |.bool b,v,u,_,h,r=>by rw[Den]at h;subst h;cases r;exact⟨_,.bool b⟩
 |.int i,v,u,_,h,r=>by rw[Den]at h;subst h;obtain⟨t,rfl⟩:=r;exact⟨_,.int i t⟩
 |.str x,v,u,_,h,r=>by rw[Den]at h;subst h;obtain⟨t,rfl⟩:=r;exact⟨_,.str x t⟩
 | .list ds,v,u,c,h,r=>by
  rw[Den]at h;obtain⟨a,xs,rfl,q1,q2⟩:=h;cases r;obtain⟨its,rv,⟨o,n,e1,e2,_,e3⟩,_⟩:=I.list q1;obtain⟨as,ra⟩:=eF.reads I ds xs its (by simpa [PyData.canLay0] using c) q2 rv;exact⟨_,.list e1 e2 e3 (by simpa using ra)⟩
 | .tuple ds,v,u,c,h,r=>by
  rw[Den]at h;obtain⟨a,xs,rfl,q1,q2⟩:=h;cases r;obtain⟨its,rv,⟨o,e1,e2,n,e3⟩,_⟩:=I.tuple q1;obtain⟨as,ra⟩:=eF.reads I ds xs its (by simpa [PyData.canLay0] using c) q2 rv;exact⟨_,.tuple e1 e2 e3 (by simpa using ra)⟩
 |.dict _,_,_,c,_,_=>by simp[PyData.canLay0]at c
theorem eF.reads(I:Inv X pins σ H s):∀(ds:List PyData) (xs:List V) (us:List Value),PyData.canLayAll0 ds=true->eF X.K H ds xs->Vals xs us->∃as,ReadsAll s.heap us ds as
 |[],xs,us,_,h,r=>by rw[eF]at h;subst h;cases r;exact⟨_,.nil⟩
 | d::ds,xs,us,c,h,r=>by
  have c':d.canLay0=true/\PyData.canLayAll0 ds=true:=by simpa [PyData.canLayAll0] using c
  rw[eF]at h;obtain⟨x,rest,rfl,q1,q2⟩:=h;cases r with
  |cons r1 r2=>obtain⟨as,ra⟩:=Den.reads I d x _ c'.1 q1 r1;obtain⟨bs,rb⟩:=eF.reads I ds rest _ c'.2 q2 r2;exact⟨_,.cons ra rb⟩
end
end
section
variable {X:Cx}
def UR(K:Frag):R2:=λx y H Q=>∃d e,Den K H d x/\Den K H e y/\d.canLay0=true/\e.canLay0=true/\d.depth<=60/\Q (.bl (PyData.eqv d e)) H
def US(K:Frag):R2:=λx y H Q=>∃d e,Den K H d x/\Den K H e y/\d.canLay0=true/\e.canLay0=true/\d.depth<=60/\Q (.bl (!PyData.eqv d e)) H
theorem MA(hu:X.A.units+64<cLine):l0 X (compareOp .Eq) (UR X.K):=by
 intro pins s σ H x y v u Q I rx ry h;obtain⟨d,e,hd,he,c1,c2,hz,q⟩:=h;obtain⟨as,ra⟩:=Den.reads I d x v c1 hd rx;obtain⟨bs,rb⟩:=Den.reads I e y u c2 he ry;exact SeqAt.compareEq_reads ra rb c1 c2 (by have:=Nat.min_le_left d.depth e.depth;omega) ⟨.bl _,H,I,rfl,q⟩
theorem MB(hu:X.A.units+64<cLine):l0 X (compareOp .NotEq) (US X.K):=by
 intro pins s σ H x y v u Q I rx ry h;obtain⟨d,e,hd,he,c1,c2,hz,q⟩:=h;obtain⟨as,ra⟩:=Den.reads I d x v c1 hd rx;obtain⟨bs,rb⟩:=Den.reads I e y u c2 he ry;exact SeqAt.compareNe_reads ra rb c1 c2 (by have:=Nat.min_le_left d.depth e.depth;omega) ⟨.bl _,H,I,rfl,q⟩
theorem rH{ns:List Int}(I:Inv X pins σ H s)(hq:gF X.K H p (ns.map V.int))(h64:ns.length<64)
  (q:∀l,H l=none->Q (.ref l) (upd H l (.lst ((sortI ns).map V.int)))):wpAny (model X.prog X.w) X.A (call (.builtin "sorted") [.ref p]) (EP X pins σ Q) X.xe s:=by
 obtain⟨its,rv,pl,hz⟩:=I.list hq;have hi:=intsAre_of rv;have hl:=hi.length;refine sorted_ints pl.isList hi (by omega) λout ns' a1 a2 a3=>?_;obtain⟨e,he⟩:=sortedAll_at s.heap its out;have es:ns'=sortI ns:=eq_sortI a2 a3;subst es;have hn:H (s.heap.objs.size+1)=none:=I.hok.fresh (le_succ _);refine⟨.ref (s.heap.objs.size+1),_,I.laid (t':=s.toks) (λb o z=>sortedAll_old z) (le_succ _) (show bJ X.prog X.w _ _ _ (.lst ((sortI ns).map V.int)) from⟨?_,out.toList,e,gB a1,by simpa using he⟩),rfl,q _ hn⟩;rw[Z9,(aaO ns).length_eq,sizeLine_eq];omega
theorem oH:dm X (.builtin "sorted") (λxs H Q=>∃p ns,xs=[.ref p]/\gF X.K H p (ns.map V.int)/\ns.length<64/\∀l,H l=none->Q (.ref l) (upd H l (.lst ((sortI ns).map V.int)))):=by
 intro pins s σ H xs us Q I r h;obtain⟨p,ns,rfl,hq,h64,q⟩:=h;obtain⟨u,rfl,ru⟩:=vals1 r;cases ru;exact rH I hq h64 q
def Q0(K:Frag)(H:Hp)(r:Addr×List Int):Prop:=j8 K H r.1 (r.2.map V.int)/\r.2≠[]
theorem zV{pins:List (Addr×Obj)}{σ:St}{H:Hp}{s:Shared}{A:Around}{rs:List (Addr×List Int)}{h6:Heap}{s6:Shared}(I:Inv X pins σ H s)(ht:∀r∈rs,Q0 X.K H r)(h2:2<=rs.length)(k:∀b o,s.heap.get? b=some o->s6.heap.get? b=some o) :
  mX.uz X.prog X.w A mX.lexOrd (λi=>(rs.getD i (0,[])).2) (rs.map λr=>Value.ref r.1) s6:=by
 have tup:∀r∈rs,∃its o n,s6.heap.get? r.1=some o/\o.cls=.type "tuple" /\ o.data=.seq (toArray its) n/\IntsAre its r.2:=λr hr=>by
  obtain⟨its,rv,⟨o,e1,e2,n,e3⟩,_⟩:=I.tuple (ht r hr).1;exact⟨its,o,n,k _ _ e1,e2,e3,intsAre_of rv⟩
 have kt:∀rs:List (Addr×List Int),(∀r∈rs,∃its o n,s6.heap.get? r.1=some o/\o.cls=.type "tuple" /\ o.data=.seq (toArray its) n/\IntsAre its r.2)->(∀r∈rs,r.2≠[]) ->
   ∃fs,PySem.W.KatTups s6.heap (rs.map λr=>Value.ref r.1) fs/\fs.length=rs.length/\∀v∈fs,∃i t,v=Value.int i t:=by
  intro rs
  induction rs with
  |nil=>intro _ _;exact⟨[],PySem.W.KatTups.nil,rfl,λv hv=>nomatch hv⟩
  |cons r rs ih=>
   intro g1 g2;obtain⟨fs,q1,q2,q3⟩:=ih (λr' hr'=>g1 r' (Z5 _ hr')) λr' hr'=>g2 r' (Z5 _ hr');obtain⟨its,o,n,e1,e2,e3,hi⟩:=g1 r aaa;have hne:=g2 r aaa;cases hr:r.2 with
   |nil=>exact absurd hr hne
   |cons i is=>
    rw[hr]at hi;cases hi with
    |cons _ t hi'=>
     refine⟨.int i t::fs,PySem.W.KatTups.cons e1 e2 e3 (by simp) q1,by simp[q2],λv hv=>?_⟩
     rcases aap.mp hv with z|z
     ·exact⟨i,t,z⟩
     ·exact q3 v z
 obtain⟨fs,q1,q2,q3⟩:=kt rs tup λr hr=>(ht r hr).2;unfold mX.uz;refine PySem.W.kat_kind q1 (by omega) (T:=Value.type "int") (λv hv=>?_) rfl ⟨rfl,λi j C hi hj hc=>?_⟩
 ·obtain⟨i,t,rfl⟩:=q3 v hv;exact PySem.W.Looks.of_pure rfl
 ·rw[Z9]at hi hj
  unfold PySem.W.kas_ask;have e1:(rs.map λr=>Value.ref r.1).getD i Value.none=Value.ref rs[i].1:=by simp[hi]
  have e2:(rs.map λr=>Value.ref r.1).getD j Value.none=Value.ref rs[j].1:=by simp[hj]
  have e3:rs.getD i (0,[])=rs[i]:=by simp[hi]
  have e4:rs.getD j (0,[])=rs[j]:=by simp[hj]
  rw[e1,e2];simp only[e3,e4]at hc;obtain⟨its,o,n,a1,a2,a3,a4⟩:=tup rs[i] (List.getElem_mem hi);obtain⟨its',o',n',b1,b2,b3,b4⟩:=tup rs[j] (List.getElem_mem hj);have l1:=a4.length;have l2:=b4.length;refine kat_lt a1 a3 b1 b3 (mX.pU 0 a4 b4 ?_ l1 hc (.inr rfl) (λ_ _ _=>trivial) (λ_=>trivial) ?_)
  ·rw[aak,aak,l1,l2];simp
  ·rw[aak,aak,l1,l2]
theorem Cy{rs:List (Addr×List Int)}:∀{us:List Value},Vals (rs.map λr=>V.ref r.1) us->us=rs.map λr=>Value.ref r.1:=by
 induction rs with
 |nil=>intro us r;cases r;rfl
 |cons a rs ih=>
  intro us r;cases r with
  |cons r1 r2=>cases r1;rw[ih r2];rfl
theorem oJ:dm X (.builtin "sorted") (λxs H Q=>∃(p:Addr) (rs:List (Addr×List Int)),xs=[.ref p]/\gF X.K H p (rs.map λr=>V.ref r.1)/\rs.length<64/\(∀r∈rs,Q0 X.K H r) /\
  ∀(l:Addr) (qs:List (Addr×List Int)),H l=none->qs.Perm rs->qs.Pairwise (λa b=>HT.lexLt b.2 a.2=false)->Q (.ref l) (upd H l (.lst (qs.map λr=>V.ref r.1)))):=by
 intro pins s σ H xs us Q I r h;obtain⟨p,rs,rfl,hq,h64,ht,q⟩:=h;obtain⟨u,rfl,ru⟩:=vals1 r;cases ru;obtain⟨its,rv,pl,hz⟩:=I.list hq;have ev:=Cy rv;subst ev;refine mX.eW (O:=mX.lexOrd) (collect_list pl.isList ?_ (by rw[Z9,sizeLine_eq];omega));have k1:∀b o,s.heap.get? b=some o->((s.heap.push (seqObj "list" #[] 0)).update s.heap.objs.size (Obj.mapSeq (· ++ (rs.map λr=>Value.ref r.1).toArray))).get? b=some o:=λb o e=>by
  rw[Heap.get?_update_ne _ _ _ _ (aax (aal e))];exact Z7 _ e
 have XM:((s.heap.push (seqObj "list" #[] 0)).update s.heap.objs.size (Obj.mapSeq (· ++ (rs.map λr=>Value.ref r.1).toArray))).objs.size=s.heap.objs.size+1:=by rw[Heap.size_update,size_push']
 refine⟨by rw[Z9];exact h64,λi=>(rs.getD i (0,[])).2,λh2 h6 k6=>?_,λpp h' op k' he=>?_⟩
 ·rw[Z9]at h2;exact zV (h6:=h6) I ht h2 λb o e=>k6 b o (k1 b o e)
 ·rw[Z9]at op
  dsimp only at k' he |-;rw[XM]at he |-;obtain⟨e,he⟩:=he;have hn:H (s.heap.objs.size+1)=none:=I.hok.fresh (le_succ _);have lp:pp.length=rs.length:=by rw[op.perm.length_eq,length_range]
  have mem:∀i∈pp,i<rs.length:=λi hi=>by simpa using op.perm.mem_iff.mp hi
  have UT:(pp.map λi=>(rs.map λr=>Value.ref r.1).getD i Value.none)=(pp.map λi=>rs.getD i (0,[])).map λr=>Value.ref r.1:=by rw[aaP];refine map_congr_left λi hi=>?_;simp[mem i hi]
  have qp:(pp.map λi=>rs.getD i (0,[])).Perm rs:=by have:=op.perm.map λi=>rs.getD i (0,[]);rwa [mX.cN]at this
  have qs:(pp.map λi=>rs.getD i (0,[])).Pairwise (λa b=>HT.lexLt b.2 a.2=false):=by have up1:=pairwise_map.mp op.up;exact pairwise_map.mpr up1
  refine⟨.ref (s.heap.objs.size+1),_,I.laid (t':=s.toks) (λb o z=>k' b o (k1 b o z)) (le_succ _) (show bJ X.prog X.w _ _ _ (.lst ((pp.map λi=>rs.getD i (0,[])).map λr=>V.ref r.1)) from⟨?_,_,e,?_,he⟩),rfl,q _ _ hn qp qs⟩
  ·rw[Z9,Z9,lp,sizeLine_eq];omega
  ·rw[UT]
   generalize (pp.map λi=>rs.getD i (0,[]))=zs
   induction zs with
   |nil=>exact .nil
   |cons z zs ih=>exact .cons rfl ih
end
section
variable {X:Cx}
section
open PySem.AutoSeq1 (wpAny_loadPart')
theorem vJ(l b:Addr)(items items2:Array Value)(n n2:Nat)(dd2:Option Addr)(sl2:Array (Option Value))(hs0:¬(!items.isEmpty&&Builtin.List.listTooLong (items.size+items2.size))=true)(hs1:items.size<=sizeLine)(hs2:items.size+items2.size<=sizeLine+1) :
  Meets (Builtin.«list.extend» ⟨[.ref l,.ref b],[]⟩) (λ_ R s=>s.heap.get? l=some { cls:=.type "list",data:=.seq items n }/\s.heap.get? b=some { cls:=.type "tuple",dict:=dd2,data:=.seq items2 n2,slots:=sl2 } /\
   R (.ok (.ret Value.none)) { s with heap:=s.heap.update l (Obj.mapSeq λx=>x++items2) }) :=
 .of_wp λprog w A R s h=>by
  obtain⟨hp,g,d,tk,os⟩:=s;obtain⟨hl,hb,h⟩:=h;have f2:=AutoSeq1.sub_tuple_tuple;have f3:=AutoSeq1.sub_list_list;have f4:=AutoSeq1.sub_tuple_list;have f5:=AutoSeq1.sub_list_tuple;have hz':(items++items2).size<=sizeLine+1:=by rw[Array.size_append];exact hs2
  wp_walk using (wpAny_updateSeq hl rfl (hz:=hs1) (_hz':=hz')),wpAny_loadPart' hl,wpAny_loadPart' hb
  exact⟨_,rfl,h⟩
end
def D8(K:Frag):V->List V->Hp->VK->Prop:=λx vs H Q=>∃l b xs zs,x=.ref l/\vs=[.ref b]/\H l=some (.lst xs)/\j8 K H b zs/\xs.length+zs.length<=sizeLine/\Q .non (upd H l (.lst (xs++zs)))
theorem zW:QK X "list.extend" (D8 X.K):=by
 intro pins s σ H x vs v us Q I rx rv h;obtain⟨l,b,xs,zs,rfl,rfl,hH,hB,hz,q⟩:=h;cases rx;obtain⟨u,rfl,ru⟩:=rv.one;cases ru;obtain⟨z,its,n,r,hl,e⟩:=I.Co hH;obtain⟨its2,r2,⟨⟨oc,od,XO,osl⟩,e2,ec,n2,ed⟩,z2⟩:=I.tuple hB;cases ec;cases ed;have l2:=r2.length;have hsz:its.toArray.size+its2.toArray.size<=sizeLine:=by rw[aak,aak];omega
 have DS:¬ (!its.toArray.isEmpty&&Builtin.List.listTooLong (its.toArray.size+its2.toArray.size))=true:=by rw[xD hsz,Bool.and_false];exact Z3
 refine call_meets F.slot_list_extend ⟨_,e,rfl⟩ F.entry_list_extend (F.args_list_extend_2 _ _)
  (vJ l b its.toArray its2.toArray n n2 od osl DS (by rw[aak];omega) (by omega)) ⟨e,e2,?_⟩
 refine⟨.non,_,I.DR (its':=its++its2) hH e (by simp) (r.append r2) ?_,rfl,q⟩;rw[aag];omega
end
end L2
end
section
namespace L2
open PySem
def uB(xs:Array Nat):Prop:=xs.toList.Pairwise (· < ·)
structure Cut (xs:Array Nat) (j p:Nat):Prop where
 le:p<=xs.size
 lo:∀(i:Nat) (hi:i<xs.size),i<p->xs[i]<j
 hi:∀(i:Nat) (hi:i<xs.size),p<=i->j<=xs[i]
theorem Cut.one{xs:Array Nat}{j p q:Nat}(a:Cut xs j p)(b:Cut xs j q):p=q:=by
 rcases Nat.lt_trichotomy p q with h|h|h
 ·have hp:p<xs.size:=aan h b.le;have:=a.hi p hp (aae _);have:=b.lo p hp h;omega
 ·exact h
 ·have hq:q<xs.size:=aan h a.le;have:=b.hi q hq (aae _);have:=a.lo q hq h;omega
theorem uB.get{xs:Array Nat}(r:uB xs){a b:Nat}(ha:a<xs.size)(hb:b<xs.size)(h:a<b):xs[a]<xs[b]:=by
 have:=List.pairwise_iff_getElem.mp r a b (by simpa using ha) (by simpa using hb) h;simpa using this
theorem zX{xs:Array Nat}(r:uB xs)(j:Nat):∀(fuel lo hi:Nat),lo<=hi->hi<=xs.size->hi-lo<=fuel->(∀(i:Nat) (hi:i<xs.size),i<lo->xs[i]<j)->(∀(i:Nat) (h:i<xs.size),hi<=i->j<=xs[i])->Cut xs j (SetTable.below.go xs j fuel lo hi)
 | 0,lo,hi,h1,h2,h3,a,b=>by
  have:lo=hi:=by omega
  subst this;exact⟨h2,a,b⟩
 | fuel+1,lo,hi,h1,h2,h3,a,b=>by
  unfold SetTable.below.go
  by_cases hlt:lo<hi
  ·rw[aab hlt]
   dsimp only;have hm:(lo+hi)/2<xs.size:=by omega
   have eg:xs.getD ((lo+hi)/2) j=xs[(lo+hi)/2]:=by simp[Array.getD,hm]
   rw[eg]
   by_cases hc:xs[(lo+hi)/2]<j
   ·rw[aab hc]
    refine zX r j fuel _ hi (by omega) h2 (by omega) (λi hi' hl=>?_) b
    by_cases e:i=(lo+hi)/2
    ·subst e;exact hc
    ·exact lt_trans (r.get hi' hm (by omega)) hc
   ·rw[aad hc]
    refine zX r j fuel lo _ (by omega) (by omega) (by omega) a (λi hi' hl=>?_)
    by_cases e:i=(lo+hi)/2
    ·subst e;omega
    ·have:=r.get hm hi' (by omega);omega
  ·rw[aad hlt]
   have:lo=hi:=by omega
   subst this;exact⟨h2,a,b⟩
theorem kY{xs:Array Nat}(r:uB xs)(j:Nat):Cut xs j (SetTable.below xs j) :=
 zX r j xs.size 0 xs.size (zero_le _) (aae _) (by omega) (λi _ h=>by omega) (λi h hl=>by omega)
theorem zY{xs:Array Nat}(r:uB xs):SetTable.below xs 0=0:=(kY r 0).one ⟨zero_le _,λi _ h=>by omega,λi _ _=>zero_le _⟩
theorem zZ{xs:Array Nat}(r:uB xs){i:Nat}(hi:i<xs.size):SetTable.below xs (xs[i]+1)=i+1:=by
 refine(kY r _).one ⟨hi,λk hk h=>?_,λk hk h=>?_⟩
 ·by_cases e:k=i
  ·subst e;omega
  ·have:=r.get hk hi (by omega);omega
 ·have:=r.get hi hk (by omega);omega
theorem Cz{xs:Array Nat}(r:uB xs){j:Nat}(h:j∈xs):xs[SetTable.below xs j]?=some j:=by
 obtain⟨k,hk,e⟩:=Array.mem_iff_getElem.mp h;have:SetTable.below xs j=k:=by
  refine(kY r j).one ⟨le_of_lt hk,λi hi h=>?_,λi hi h=>?_⟩
  ·have:=r.get hi hk h;omega
  ·by_cases e':i=k
   ·subst e';omega
   ·have:=r.get hk hi (by omega);omega
 rw[this,Array.getElem?_eq_getElem hk,e]
theorem CA{xs:Array Nat}(r:uB xs){j:Nat}(h:j∉xs):uB (SetTable.insertAt xs (SetTable.below xs j) j):=by
 have c:=kY r j;unfold uB;rw[SetTable.toList_insertAt];have rl:xs.toList.Pairwise (· < ·):=r;have lo:∀a∈xs.toList.take (SetTable.below xs j),a<j:=λa ha=>by
  obtain⟨i,hi,e⟩:=List.mem_iff_getElem.mp ha;rw[length_take,aaG]at hi;rw[List.getElem_take]at e;have:=c.lo i (by omega) (by omega);rw[<-e];simpa using this
 have up:∀a∈xs.toList.drop (SetTable.below xs j),j<a:=λa ha=>by
  obtain⟨i,hi,e⟩:=List.mem_iff_getElem.mp ha;rw[length_drop,aaG]at hi;rw[List.getElem_drop]at e;have h1:=c.hi (SetTable.below xs j+i) (by omega) (by omega);have e':xs[SetTable.below xs j+i]'(by omega)=a:=by rw[<-e];simp
  rw[e']at h1;have:a≠j:=λz=>h (by rw[<-z,<-e'];exact Array.getElem_mem _);omega
 rw[List.pairwise_append];refine⟨rl.sublist (take_sublist _ _),aaI.mpr ⟨up,rl.sublist (List.drop_sublist _ _)⟩,λa ha b hb=>?_⟩
 rcases aap.mp hb with e|hb
 ·rw[e];exact lo a ha
 ·exact lt_trans (lo a ha) (up b hb)
theorem mZ(n:Nat):uB (Array.range n):=by
 unfold uB;rw[Array.toList_range];exact List.pairwise_lt_range
theorem uC{t:SetTable}(r:uB t.place){j:Nat}(h:t.slot j=.empty\/t.slot j=.dummy):j∉t.place:=λhm=>by
 have e:=Cz r hm;unfold SetTable.slot at h;dsimp only at h;rw[e]at h;simp at h
theorem mw{h:Int}:∀(fuel:Nat) (p:SetTable.Probe) (j:Nat) (d:Option Nat),(∀k,p.dummy=some k->t.slot k=.dummy)->SetTable.probe.go t f h fuel p=some (.empty j d)->t.slot j=.empty/\∀k,d=some k->t.slot k=.dummy
 |0,p,j,d,hd,e=>by simp[SetTable.probe.go]at e
 | fuel+1,p,j,d,hd,e=>by
  have ad:∀q:SetTable.Probe,(t.advance q).dummy=q.dummy:=λq=>by unfold SetTable.advance;split<;>rfl
  unfold SetTable.probe.go at e;split at e
  ·rename_i hs;cases e;exact⟨hs,hd⟩
  ·rename_i hs;refine mw fuel _ j d (λk hk=>?_) e;rw[ad]at hk;cases hk;exact hs
  ·split at e
   ·cases e
   ·exact mw fuel _ j d (λk hk=>hd k (by rw[<-ad];exact hk)) e
theorem D9{t:SetTable}(r:uB t.place){h:Int}{s:Nat}{b:Bool}(e:t.freeSlot h=some (s,b)):s∉t.place:=by
 unfold SetTable.freeSlot at e;split at e
 ·rename_i j d hp
  cases e;obtain⟨h1,h2⟩:=mw _ _ _ _ (λk hk=>by simp[SetTable.probeStart]at hk) hp;cases d with
  |none=>exact uC r (.inl h1)
  |some k=>exact uC r (.inr (h2 k rfl))
 ·cases e
theorem CB(r:uB t.place)(es:Array (Int×Value))(h:Int)(x:Value):uB (layNew t es h x).2.1.place/\(layNew t es h x).2.1.led=t.led:=by
 unfold layNew
 split
 ·rename_i s b e
  have fr:=D9 r e;dsimp only;unfold SetTable.orStandIn
  split
  ·exact⟨CA r fr,rfl⟩
  ·exact⟨mZ _,rfl⟩
 ·exact⟨mZ _,rfl⟩
theorem Ea(r:uB t.place)(es:Array (Int×Value))(n:Nat):uB (relayAll t es n).2.1.place/\(relayAll t es n).2.1.led=t.led:=by
 unfold relayAll
 split
 ·rename_i t' order e
  dsimp only
  split
  ·unfold SetTable.relaid SetTable.laid at e;obtain⟨ow,e1,e⟩:=Z4.mp e;cases e;refine⟨?_,rfl⟩;show List.Pairwise _ (List.map _ _).toArray.toList;rw[List.toList_toArray,pairwise_map];refine List.Pairwise.filterMap _ (R:=(· < ·)) (λa a' hl b hb b' hb'=>?_) List.pairwise_lt_range;obtain⟨x,_,rfl⟩:=aaE.mp hb;obtain⟨y,_,rfl⟩:=aaE.mp hb';exact hl
  ·exact⟨mZ _,rfl⟩
 ·exact⟨mZ _,rfl⟩
end L2
end
section
namespace L2
open PySem PyProof.Rows
def t8(w:World):Bool:=w.params.followText "set-order"
structure K2 (w:World) (es:Array (Int×Value)) (t:SetTable):Prop where
 few:es.size<scanBound
 fit:t.fits es.size=true
 rs:uB t.place
 led:t.led = !t8 w
structure eX (prog:Program) (w:World) (h:Heap) (a:Addr) (o:Obj) (es:Array (Int×Value)) (ep:Nat) (t:SetTable) (ks:List Int):Prop where
 at_:h.get? a=some o
 ex:o.ExactSet
 dat:o.data=.set es ep t
 el:ElemsOf (intKind prog w) es.toList
 tab:K2 w es t
 Wd:ks.Nodup
 mem:∀k,k∈ks↔∃e∈es.toList,(intKind prog w).is k e.2=true
 num:es.size=ks.length
def qo(prog:Program)(w:World)(h:Heap)(a:Addr)(ks:List Int):Prop:=∃o es ep t,eX prog w h a o es ep t ks
def rJ(ks:List Int)(k:Int):List Int:=if k∈ks then ks else ks++[k]
section
variable {prog:Program} {w:World} {A:Around} {E:Value->Shared->Prop} {s:Shared}
theorem Eb{h:Heap}{a:Addr}{o:Obj}{es es':Array (Int×Value)}{ep:Nat}{t t':SetTable}(ho:h.get? a=some o)(hd:o.data=.set es ep t):(h.update a (Obj.putSet es' t')).get? a=some { o with data:=.set es' (ep+1) t' }:=by
 have q:=get?_update_self (Obj.putSet es' t') ho (by rw[putSet_of es' t' hd];rfl);rw[putSet_of es' t' hd]at q;exact q
theorem qo.frame{ks:List Int}(S:qo prog w h a ks)(k:∀o,h.get? a=some o->h'.get? a=some o):qo prog w h' a ks:=by
 obtain⟨o,es,ep,t,i⟩:=S;exact⟨o,es,ep,t,{ i with at_:=k o i.at_ }⟩
theorem mem_push{es es1:List (Int×Value)}{ks:List Int}{k:Int}(hx:(intKind prog w).is k x=true)(hm:∀j,j∈ks↔∃e∈es,(intKind prog w).is j e.2=true)(p:es1.Perm (es++[((intKind prog w).hash k,x)]))(j:Int) :
  j∈ks++[k]↔∃e∈es1,(intKind prog w).is j e.2=true:=by
 rw[aat,aaj,hm];constructor
 ·rintro(⟨e,he,q⟩|rfl)
  ·exact⟨e,p.mem_iff.mpr (aas _ he),q⟩
  ·exact⟨_,p.mem_iff.mpr (aaA _ aaa),hx⟩
 ·rintro⟨e,he,q⟩
  rcases aat.mp (p.mem_iff.mp he) with z|z
  ·exact .inl ⟨e,z,q⟩
  ·rw[aaj]at z;subst z;exact .inr ((intKind prog w).inj x j k q hx)
theorem xQ{g:Bool->Sem Unit}(hg:∀(b:Bool) (s₁:Shared) (Q':Unit->Shared->Prop),Q' () s₁->wpAny (model prog w) A (g b) Q' E s₁)
  {a:Addr} {o:Obj} {es es1:Array (Int×Value)} {ep:Nat} {t t2:SetTable} {ks:List Int} (ho:s.heap.get? a=some o) (hex:o.ExactSet) (hd:o.data=.set es ep t)
  (hel:ElemsOf (intKind prog w) es1.toList) (hm:∀k,k∈ks↔∃e∈es1.toList,(intKind prog w).is k e.2=true) (hnd:ks.Nodup) (hn:es1.size=ks.length) (ht:K2 w es1 t2) {b:Bool} {R:Option Bool->Shared->Prop}
  (h:∀h',Heap.SameBut a s.heap h'->qo prog w h' a ks->R (some true) { s with heap:=h' }) :
  wpAny (model prog w) A (do
    storeSet a es1 t2
    if (!b&&t2.tooFull)=true then do
      g (relayAll t2 es1 (SetTable.grown es1.size)).2.2
      storeSet a (relayAll t2 es1 (SetTable.grown es1.size)).1 (relayAll t2 es1 (SetTable.grown es1.size)).2.1
      pure (some true)
     else pure (some true)) R E s:=by
 refine Z2 (wpAny_storeSet_of ho hd ?_ (fits_of_scanBound ht.few));have h1:=Eb (es':=es1) (t':=t2) ho hd;have b1:=Heap.SameBut.update s.heap a (Obj.putSet es1 t2)
 split
 ·have p:=relayAll_perm t2 es1 (SetTable.grown es1.size)
  have f:=relayAll_fits t2 es1 (SetTable.grown es1.size);have rr:=Ea ht.rs es1 (SetTable.grown es1.size);generalize relayAll t2 es1 (SetTable.grown es1.size)=Rl at p f rr |-;obtain⟨UU,t3,gv⟩:=Rl;dsimp only at p f rr |-;have z:UU.size=es1.size:=by rw[<-aaG,p.length_eq,aaG]
  have few:UU.size<scanBound:=by rw[z];exact ht.few
  refine Z2 (hg _ _ _ ?_);refine Z2 (wpAny_storeSet_of h1 rfl ?_ (fits_of_scanBound few));refine aac (h _ (b1.trans (Heap.SameBut.update _ a _)) ⟨_,UU,_,t3,Eb h1 rfl,hex,rfl,hel.perm p,⟨few,f,rr.1,rr.2.trans ht.led⟩,hnd,λk=>(hm k).trans ⟨λ⟨e,he,q⟩=>⟨e,p.mem_iff.mpr he,q⟩,λ⟨e,he,q⟩=>⟨e,p.mem_iff.mp he,q⟩⟩,z.trans hn⟩)
 ·exact aac (h _ b1 ⟨_,es1,_,t2,h1,hex,rfl,hel,ht,hnd,hm,hn⟩)
theorem add_int{ks:List Int}{k:Int}(S:qo prog w s.heap a ks)(room:ks.length+1<scanBound)
  (h:∀h' b,Heap.SameBut a s.heap h'->qo prog w h' a (rJ ks k)->Q b { s with heap:=h' }) :
  wpAny (model prog w) A (setAddHashed a (.int k tk) ((intKind prog w).hash k)) Q E s:=by
 obtain⟨o,es,ep,t,I⟩:=S;have hx:(intKind prog w).is k (.int k tk)=true:=intKind_is _ _ _ _;have sc:(Value.int k tk).scannable=true:=rfl;unfold setAddHashed setAddHashedIn;refine wpAny_holding (Z2 (wpAny_setState_of I.at_ I.dat I.tab.fit ?_));dsimp only;rw[byScan_of sc I.tab.few I.el];simp only[↓reduceIte];unfold setAddByScan;refine Z2 (Z2 (wpAny_rule (Z2 (wpAny_setScan_of hx I.at_ I.dat I.tab.fit I.el ?_))));cases hr:List.findIdx? (λe=>(intKind prog w).is k e.2) es.toList with
 |some j=>
  dsimp only;obtain⟨hj,pj,_⟩:=List.findIdx?_eq_some_iff_getElem.mp hr;have hk:k∈ks:=(I.mem k).mpr ⟨es.toList[j],List.getElem_mem hj,pj⟩;refine aac (aac ?_);have e:s={ s with heap:=s.heap }:=by cases s;rfl
  rw[e];exact h s.heap _ (Heap.SameBut.refl a s.heap) (by unfold rJ;rw[aab hk];exact⟨o,es,ep,t,I⟩)
 |none=>
  dsimp only;have hk:k∉ks:=λz=>by
   obtain⟨e,he,p⟩:=(I.mem k).mp z;have:=List.findIdx?_eq_none_iff.mp hr e he;rw[p]at this;cases this
  have gw:∀(b:Bool) (s₁:Shared) (Q':Unit->Shared->Prop),Q' () s₁->wpAny (model prog w) A (match b with|true=>rule "set.scan.the-table-gave-way" | false=>pure ()) Q' E s₁:=λb s₁ Q' q=>by
   cases b
   ·exact aac q
   ·exact wpAny_rule q
  have p:=layNew_perm t es ((intKind prog w).hash k) (.int k tk);have f:=layNew_fits t es ((intKind prog w).hash k) (.int k tk);have rr:=CB I.tab.rs es ((intKind prog w).hash k) (.int k tk);generalize layNew t es ((intKind prog w).hash k) (.int k tk)=Ln at p f rr |-;obtain⟨es1,t1,wd,gv⟩:=Ln;dsimp only at p f rr |-;rw[Array.toList_push]at p;have z:es1.size=(ks++[k]).length:=by rw[<-aaG,p.length_eq,aag,aag,aaG,I.num];rfl
  have few:es1.size<scanBound:=by rw[z,aag];simpa using room
  have nd:(ks++[k]).Nodup:=by rw[aaH];exact⟨I.Wd,by simp,λx hx' y hy e=>hk (by rw[aaj]at hy;rw[<-hy,<-e];exact hx')⟩
  have We:ElemsOf (intKind prog w) es1.toList:=(I.el.push hx sc).perm p;have m1:=mem_push hx I.mem p;have fin:∀h',Heap.SameBut a s.heap h'->qo prog w h' a (ks++[k])->Q true { s with heap:=h' }:=λh' sb S'=>h h' true sb (by unfold rJ;rw[aad hk];exact S');refine Z2 (gw _ _ _ ?_)
  split
  ·refine Z2 ?_
   rw[hashByValue_scannable 8 sc];refine aac ?_;refine xQ gw I.at_ I.ex I.dat We m1 nd z ⟨few,?_,?_,?_⟩ λh' sb S'=>aac (fin h' sb S')
   ·split
    ·exact f
    ·exact SetTable.fits_plain_off f
   ·split
    ·exact rr.1
    ·exact rr.1
   ·split
    ·exact rr.2.trans I.tab.led
    ·exact rr.2.trans I.tab.led
  ·refine Z2 (aac ?_);simp only[↓reduceIte];exact xQ gw I.at_ I.ex I.dat We m1 nd z ⟨few,f,rr.1,rr.2.trans I.tab.led⟩ λh' sb S'=>aac (fin h' sb S')
end
def eG:List Int->List Int->List Int
 |ks,[]=>ks
 |ks,k::r=>eG (rJ ks k) r
theorem rK(ks:List Int)(k:Int):(rJ ks k).length<=ks.length+1:=by unfold rJ;split<;>simp
section
variable {prog:Program} {w:World} {A:Around} {E:Value->Shared->Prop} {s:Shared}
theorem Ec{R:Result->Shared->Prop}{I:Addr}{fp wr:List Addr}{G:Array GenState->Array GenState->Prop}{n:Nat}{P:Nat->Value->Prop}{St:Nat->Shared->Prop}(W:WalksS prog w A.in1 I fp wr G n P St)(S:Addr)(hSf:S∉fp)(val:Nat->Int)(hval:∀i v,P i v->∃t,v=.int (val i) t) :
  ∀(k i:Nat) (s:Shared) (ks:List Int),n-i=k->i<=n->ks.length+k+1<scanBound->St i s->qo prog w s.heap S ks ->
   (∀s',Moved (S::wr) G s s'->qo prog w s'.heap S (eG ks ((range' i k).map val))->R (.ok (.ret .none)) s') ->
   codeAny (model prog w) A (.builtin "set.update.loop" ⟨[.ref S,.ref I],[]⟩) R s:=by
 have Wf:S∉wr:=λh=>hSf (W.sub _ h);have sub:∀b∈wr,b∈S::wr:=λb hb=>Z5 _ hb;intro k
 induction k with
 |zero=>
  intro i s ks hk hi _ hst hS hR;have:i=n:=by omega
  subst this;refine codeAny_builtin PyProof.Rows.F.entry_set_update_loop ?_;rw[Around.under_plainId PyProof.Rows.F.plain_set_update_loop _];show wpAny _ A.in1 (pyNext (.ref I) >>= _) _ _ s;refine Z2 (W.done s _ _ hst λs' hm=>?_);show wpAny _ A.in1 (ret Value.none) _ _ s';exact aac (hR s' (hm.mono sub) (hS.frame λo e=>hm.heap S _ Wf e))
 |succ k ih=>
  intro i s ks hk hi hl hst hS hR;have hlt:i<n:=by omega
  refine codeAny_builtin PyProof.Rows.F.entry_set_update_loop ?_;rw[Around.under_plainId PyProof.Rows.F.plain_set_update_loop _];show wpAny _ A.in1 (pyNext (.ref I) >>= _) _ _ s;refine Z2 (W.item i s _ _ hlt hst λv s' hP UW hm=>?_);obtain⟨t,rfl⟩:=hval i v hP;have hS':=hS.frame (h':=s'.heap) λo e=>hm.heap S _ Wf e;show wpAny _ A.in1 (holding [Value.int (val i) t] (setAdd S (.int (val i) t)) >>= _) _ _ s';refine Z2 (wpAny_holding ?_);unfold setAdd;refine wpAny_holding (Z2 ((intKind prog w).pyHash (k:=val i) (intKind_is _ _ _ _) ?_));refine add_int (s:={ s' with toks:=s'.toks+1 }) hS' (by omega) λh' b sb S2=>?_;have hl2:=rK ks (val i);refine aac ⟨plainId_quiet PyProof.Rows.F.plain_set_update_loop _,ih (i+1) _ (rJ ks (val i)) (by omega) hlt (by omega) (W.frame _ s' _ _ UW (le_succ _) λb hb o e=>?_) S2 λs'' Mw S3=>?_⟩
  ·rw[sb.2 b λz=>hSf (by rw[<-z];exact hb)];exact e
  ·refine hR s'' (Moved.trans W.gtrans ((hm.mono sub).then_heap (le_succ _) λb o hb e=>?_) Mw) ?_
   ·rw[sb.2 b λz=>hb (by rw[z];exact aaa)];exact e
   ·rw[List.range'_succ,aaf,eG];exact S3
abbrev rL(w:World):Obj:={ cls:=.type "set",dict:=none,data:=.set #[] 0 (.fresh 0 0 (!t8 w)) }
theorem Jb(e:h.get? a=some (rL w)):qo prog w h a [] :=
 ⟨_,#[],0,_,e,⟨rfl,rfl,rfl⟩,rfl,λx hx=>by simp at hx,⟨by show 0<4096;decide,rfl,List.Pairwise.nil,rfl⟩,nodup_nil,λk=>by simp,rfl⟩
theorem Ed(a:Value)(h:Q₁ (.ref s.heap.objs.size) { s with heap:=s.heap.push (rL w) }) :
  codeAny (model prog w) A (.call (.builtin "set.__new__") ⟨[.type "set",a],[]⟩) (wants Q₁ E) s:=by
 refine codeAny_of_tree ?_;show wpAny _ A.in1 (do checkBuiltinCall "set.__new__" ⟨[.type "set",a],[]⟩;again (.builtin "set.__new__" ⟨[.type "set",a],[]⟩)) _ _ s;refine Z2 (wpAny_of_eq (PySem.F.newCall_set_1 a) (aac ⟨plainId_quiet PySem.F.plain_set_new _,codeAny_builtin PySem.F.entry_set_new ?_⟩));rw[Around.under_plainId PySem.F.plain_set_new _];unfold Builtin.«set.__new__» Builtin.Frozenset.newClass;have hsub:=sub_set_self;obtain⟨hp,g,d,tk,os⟩:=s;dsimp only
 wp_walk
 refine wpAny_askSetting (aac ?_);dsimp only;simp only[newObj];refine Z2 (wpAny_alloc (aac ?_));exact aac h
end
section
variable {prog:Program} {w:World} {A:Around} {E:Value->Shared->Prop} {s:Shared}
theorem z4{ns:List Int}(hi:IntsAre vs ns):(range' 0 vs.length).map (λi=>ns.getD i 0)=ns:=by
 have hl:=IntsAre.length hi;apply ext_getElem
 ·rw[Z9,List.length_range',hl]
 ·intro i h1 h2;simp[List.getD,h2]
theorem xR{ns:List Int}(hh:A.handled=none)(hl:s.heap.IsList l items)(hi:IntsAre items.toList ns)(hb:items.size+1<scanBound)
  (h:∀(h':Heap) (tk:Nat),qo prog w h' s.heap.objs.size (eG [] ns)->(∀b o,b<s.heap.objs.size->s.heap.get? b=some o->h'.get? b=some o)->Q (.ref s.heap.objs.size) { s with heap:=h',toks:=tk }) :
  wpAny (model prog w) A (call (.type "set") [.ref l]) Q E s:=by
 obtain⟨c,tl,mro⟩:=PySem.F.called_set.mro;have made:=PySem.F.called_set.made;have sub:=PySem.F.called_set.sub;refine wpAny_call (codeAny_of_tree ?_);show wpAny _ _ (callAny (.type "set") _) _ _ _;refine aac ⟨Code.quiet_builtin _ (by decide +kernel),codeAny_builtin PySem.F.entry_type_call ?_⟩;rw[Around.under_plain (weight_type_call_type "set" [.ref l] []) rfl];have n1:=PySem.F.called_set.notType;have n2:=PySem.F.called_set.canCreate;have n3:=PySem.F.typeCall_set_1 (.ref l)
 repeat (any_goals (first|assumption|wp_step))
 refine codeAny_mono (Ed (.ref l) (E:=E) (Q₁:=λobj s₁=>obj=.ref s.heap.objs.size/\s₁={ s with heap:=s.heap.push (rL w) }) ⟨rfl,rfl⟩) λr s₁ hr=>?_;cases r with
 |error e=>exact hr
 |ok fl=>
  cases fl with
  |ret obj=>
   obtain⟨rfl,rfl⟩:=hr;have Wg:(s.heap.push (rL w)).get? s.heap.objs.size=some (rL w):=aao _ rfl;have hT:Shared.TypeIs { s with heap:=s.heap.push (rL w) } (.ref s.heap.objs.size) "set":=⟨_,Wg,rfl⟩;have look:=PySem.F.called_set.init.lookup;have bind:=PySem.F.called_set.init.bind (.ref s.heap.objs.size)
   repeat (any_goals (first|assumption|wp_step))
   refine codeAny_mono (codeAny_call_builtin (R:=wants (λr s₂=>r=.none/\∃h' tk,s₂={ s with heap:=h',toks:=tk }/\qo prog w h' s.heap.objs.size (eG [] ns) /\
     (∀b o,b<s.heap.objs.size->s.heap.get? b=some o->h'.get? b=some o)) E) PySem.F.called_set.init.plain PySem.F.entry_set_init (check_set_init_1 hT ?_)) λr₂ s₂ UX=>?_
   ·obtain⟨ol,Wh,cl,nl,dl⟩:=hl
    obtain⟨oc,od,ZO,os⟩:=ol;simp only at cl dl;subst cl;subst dl;have UY:(s.heap.push (rL w)).get? l=some { cls:=.type "list",dict:=od,data:=.seq items nl,slots:=os }:=Z7 _ Wh;have q1:=PySem.F.sub_list_set;have q2:=PySem.F.sub_list_frozenset;have q3:(Value.type "list" == Value.type "dict")=false:=by decide
    have hl1:(s.heap.push (rL w)).IsList l items:=⟨_,UY,rfl,nl,rfl⟩;unfold Builtin.«set.__init__» noKeywords Builtin.Frozenset.updateFrom;generalize XQ:pyIter=PI
    wp_walk
    subst XQ;refine wpAny_pyIter_list hl1 (Z2 (wpAny_runValue ?_));have lS:l<s.heap.objs.size:=aal Wh;have h3:A.in1.in1.in1.handled=none:=by simp[hh]
    have XR:l≠(s.heap.push (rL w)).objs.size:=by rw[aaV];exact aax (lt_succ_of_lt lS)
    have sF:s.heap.objs.size∉[(s.heap.push (rL w)).objs.size,l]:=by rw[aaV];simp only[mem_cons,not_mem_nil,or_false,not_or];exact⟨aax (aaW _),ne_of_gt lS⟩
    have val:∀(i:Nat) (v:Value),items[i]?=some v->∃t,v=.int ((λi=>ns.getD i 0) i) t:=λi v hv=>IntsAre.int_at hi i v (by rw[getElem?_toList];exact hv);refine Ec ((Walks.list h3 _ l XR items).toS) s.heap.objs.size sF (λi=>ns.getD i 0) val (items.size-0) 0 _ [] (by omega) (zero_le _) (by simpa using hb) ⟨⟨_,aao _ rfl,rfl,rfl⟩,hl1.push _⟩ ?s0 ?sR
    case s0=>exact Jb (Z7 _ Wg)
    case sR=>
     intro s' hm S';obtain⟨h',g',d',tk',os'⟩:=s';have eg:g'=s.gens:=hm.gens;have ed:d'=s.drawn:=hm.drawn;have eo:os'=s.os:=hm.os;subst eg;subst ed;subst eo;refine aac ?_;show wpAny _ _ (ret Value.none) _ _ _;have e0:(range' 0 (items.size-0)).map (λi=>ns.getD i 0)=ns:=by have:=z4 hi;rw[aaG]at this;exact this
     rw[e0] at S';refine aac ⟨rfl,h',tk',rfl,S',λb o hb e=>?_⟩;have b1:b≠s.heap.objs.size:=aax hb;have b2:b≠(s.heap.push (rL w)).objs.size:=by rw[aaV];exact aax (lt_succ_of_lt hb)
     exact hm.heap b o (by simp only[mem_cons,not_mem_nil,or_false,not_or];exact⟨b1,b2⟩) (Z7 _ (Z7 _ e))
   ·cases r₂ with
    |error e=>exact UX
    |ok XS=>
     cases XS with
     |ret r=>
      obtain⟨rfl,h',tk,rfl,S',hk⟩:=UX
      repeat (any_goals (first|assumption|wp_step))
      exact h _ _ S' hk
     |_=>exact UX.elim
  |_=>exact hr.elim
end
namespace SI
theorem z5:entryFor table "set.__iter__" = some Builtin.«frozenset.__iter__» :=
 entryFor_alias (id':="frozenset.__iter__") (by kernel_rfl) rfl (by decide +kernel) (by kernel_rfl)
theorem owner:Manifest.owners.lookup (String.ofList ['r','o','t','a','r','e','t','i','_','t','e','s'].reverse)=some Manifest.sig_set_iterator:=by kernel_rfl
theorem slot_next:Slot "set_iterator" "__next__" "set_iterator.__next__" :=
 .of (owner:="set_iterator") (n:="__next__") (by rw[typeLookup_type,builtinLookup_eq_fast];kernel_rfl) (by decide +kernel) (by decide +kernel) (by decide +kernel) (by first|exact .inl (by decide +kernel)|exact .inr (by decide +kernel)) (by rw[isSubtype_type];kernel_rfl)
theorem entry_next:entryFor table "set_iterator.__next__" = some Builtin.«set_iterator.__next__»:=entryFor_of_tree (by kernel_rfl)
theorem args_next(a:Value):argsOk "set_iterator.__next__" ⟨[a],[]⟩:=by
 unfold argsOk;rw[signature?_of (id:="set_iterator.__next__") (n:=['_','_','t','x','e','n','_','_']) (o:=['r','o','t','a','r','e','t','i','_','t','e','s']) (by kernel_rfl) owner];kernel_rfl
theorem uD:Slot "set_iterator" "__iter__" "set_iterator.__iter__" :=
 .of (owner:="set_iterator") (n:="__iter__") (by rw[typeLookup_type,builtinLookup_eq_fast];kernel_rfl) (by decide +kernel) (by decide +kernel) (by decide +kernel) (by first|exact .inl (by decide +kernel)|exact .inr (by decide +kernel)) (by rw[isSubtype_type];kernel_rfl)
theorem entry_self:entryFor table "set_iterator.__iter__" = some Builtin.«dict_keyiterator.__iter__» :=
 entryFor_alias (id':="dict_keyiterator.__iter__") (by kernel_rfl) rfl (by decide +kernel) (by kernel_rfl)
theorem CC(a:Value):argsOk "set_iterator.__iter__" ⟨[a],[]⟩:=by
 unfold argsOk;rw[signature?_of (id:="set_iterator.__iter__") (n:=['_','_','r','e','t','i','_','_']) (o:=['r','o','t','a','r','e','t','i','_','t','e','s']) (by kernel_rfl) owner];kernel_rfl
end SI
section
variable {prog:Program} {w:World} {A:Around} {E:Value->Shared->Prop} {s:Shared}
def fH(h:Heap)(it:Addr)(f:Value)(i:Nat)(a:Addr)(n ep:Nat):Prop:=∃o,h.get? it=some o/\o.cls=.type "set_iterator" /\ o.data=.fields [f,.int i 0,.ref a,.int n 0,.int ep 0].toArray
theorem fH.typeIs{i:Nat}{n ep:Nat}(x:fH s.heap it f i a n ep):s.TypeIs (.ref it) "set_iterator":=let ⟨o,ho,hc,_⟩:=x;⟨o,ho,hc⟩
theorem oK{i:Nat}{n ep:Nat}(x:fH s.heap it f i a n ep)(h:Q (.ref it) s):wpAny (model prog w) A (pyIter (.ref it)) Q E s:=by
 refine wpAny_pyIter_slot x.typeIs SI.uD (wpAny_call_entry SI.uD x.typeIs SI.entry_self ?_ (SI.CC _));exact aac ⟨_,rfl,"set_iterator",_,x.typeIs,SI.slot_next.lookup,h⟩
end
section
variable {prog:Program} {w:World} {A:Around} {E:Value->Shared->Prop} {s:Shared}
theorem iF{ep:Nat}(ho:s.heap.get? a=some o)(hd:o.data=.set es ep t)(hf:t.fits es.size=true)(h:Q es s):wpAny (model prog w) A (setEntries a) Q E s:=by
 unfold setEntries;exact Z2 (wpAny_setState_of ho hd hf (aac h))
theorem kZ(h:Q (t8 w) s):wpAny (model prog w) A setsByText Q E s:=by
 unfold setsByText;exact Z2 (wpAny_askSetting (aac h))
theorem uE{ep sl g:Nat}{ks:List Int}(S:eX prog w s.heap a o es ep t ks)(hb:t8 w=false)(hp:(!t.plain&&decide (es.size>1))=false)
  (hQ:Q (match es[SetTable.below t.place sl]?,t.place[SetTable.below t.place sl]? with|some (_,x),some j=>some (x,j+1)|_,_=>none) s):wpAny (model prog w) A (setNext a sl g ep) Q E s:=by
 have led:t.led=true:=by rw[S.tab.led,hb];rfl
 unfold setNext;refine Z2 (wpAny_setState_of S.at_ S.dat S.tab.fit ?_);dsimp only;refine Z2 (kZ ?_);rw[hb];simp only[false_eq_true,↓reduceIte];rw[aad (λz=>by
  have z':(!t.plain&&decide (es.size>1))=true:=z;rw[hp]at z';cases z')]
 refine Z2 ?_;show wpAny _ _ (if (!t.led && !es.isEmpty)=true then Sem.unsupported "set:maker-not-led" else pure ()) _ _ _;rw[aad (by rw[led];simp)];exact aac (aac hQ)
theorem uF{ep sl g:Nat}{ks:List Int}(S:eX prog w s.heap a o es ep t ks)(hb:t8 w=true)
  (hQ:Q (((pickOrder (w.params.setOrder a ep) es)[g]?).map λe=>(e.2,sl)) s):wpAny (model prog w) A (setNext a sl g ep) Q E s:=by
 unfold setNext;refine Z2 (wpAny_setState_of S.at_ S.dat S.tab.fit ?_);dsimp only;refine Z2 (kZ ?_);rw[hb];simp only[bne_self_eq_false,false_eq_true,↓reduceIte];unfold setWalk;refine Z2 (Z2 (wpAny_setState_of S.at_ S.dat S.tab.fit ?_));dsimp only;refine Z2 (kZ ?_);rw[hb];simp only[↓reduceIte];exact Z2 (wpAny_askSetting (aac (aac hQ)))
theorem m9{ep:Nat}{ks:List Int}{i sl:Nat}(hh:A.handled=none)(x:fH s.heap it (.int sl 0) i a es.size ep)(S:eX prog w s.heap a o es ep t ks)
  (hn:∀(A:Around) (E:Value->Shared->Prop) (Q:Option (Value×Nat)->Shared->Prop),Q r s->wpAny (model prog w) A (setNext a sl i ep) Q E s)
  (hQ:∀v nx,r=some (v,nx)->∀h',fH h' it (.int (nx:Nat) 0) (i+1) a es.size ep->Heap.SameBut it s.heap h'->Q (some v) { s with heap:=h' })
  (hE:r=none->∀h',Heap.ExtBut it s.heap h'->Q none { s with heap:=h' }):wpAny (model prog w) A (pyNext (.ref it)) Q E s:=by
 obtain⟨oi,HQ,UZ,hdi⟩:=id x;unfold pyNext;refine Z2 (wpAny_attempt (wpAny_callSpecial?_slot (name:=Str.ofString "__next__") x.typeIs SI.slot_next (wpAny_call_entry SI.slot_next x.typeIs SI.entry_next ?_ (SI.args_next _))));unfold Builtin.«set_iterator.__next__»;refine Z2 (aac ?_);refine Z2 (wpAny_fieldsOf HQ hdi ?_);dsimp only;refine Z2 (iF S.at_ S.dat S.tab.fit ?_);rw[aad (by simp)];refine Z2 (hn _ _ _ ?_);cases r with
 |some p=>
  obtain⟨v,nx⟩:=p;dsimp only;refine Z2 (wpAny_setField HQ hdi (by simp) ?_);have h1:=get?_update_self (Obj.mapFields (·.setIfInBounds 0 (rawInt nx))) HQ (Obj.isFreed_of_fields (Obj.data_mapFields hdi _));have d1:=Obj.data_mapFields hdi (·.setIfInBounds 0 (rawInt nx));refine Z2 (wpAny_setField h1 d1 (by simp) ?_);have h2:=get?_update_self (Obj.mapFields (·.setIfInBounds 1 (rawInt ((i:Int)+1)))) h1 (Obj.isFreed_of_fields (Obj.data_mapFields d1 _));refine aac ⟨_,rfl,aac (hQ v nx rfl _ ⟨_,h2,?_,?_⟩ ((Heap.SameBut.update ..).trans (Heap.SameBut.update ..)))⟩
  ·rw[Obj.cls_mapFields,Obj.cls_mapFields];exact UZ
  ·rw[Obj.data_mapFields d1];simp[rawInt]
 |none=>dsimp only;refine Z2 (wpAny_setField HQ hdi (by simp) ?_);refine Z2 ?_;simp only[newExc,newTuple];refine Z2 (aaQ ?_ (by size_fits));refine Z2 (m:=firstArgMember _ _) (wpAny_of_eq (a:=Value.none) (by first|rfl|(simp only[firstArgMember];rfl)) ?_);refine aaQ ?_ (by size_fits);simp only[raiseNew];refine Z2 (wpAny_handled ?_);rw[show A.in1.handled=none from hh];refine Z2 (aac (wpAny_throw ?_));refine Z2 (wpAny_isInstance (T:="StopIteration") (b:=true) ⟨_,aao _ rfl,rfl⟩ isSubtype_stop ?_);exact aac (hE rfl _ (((Heap.SameBut.update ..).extBut.push _).push _))
end
theorem mz{α:Type}:∀(l:List α) (i:Nat) (h:i<l.length),(l[i]::l.eraseIdx i).Perm l
 |x::l,0,_=>List.Perm.refl _
 | x::l,i+1,h=>by
  simp only[List.getElem_cons_succ,eraseIdx_cons_succ];exact(List.Perm.swap _ _ _).trans (List.Perm.cons x (mz l i (by simpa using h)))
section
variable {prog:Program} {w:World} {A:Around} {E:Value->Shared->Prop} {s:Shared}
theorem CD{n:Nat}(hn:n≠0)(h:∀i d,i<n->Q i { s with drawn:=d }):wpAny (model prog w) A (choose src n) Q E s:=fun Γ p hΓ=>by
 show Sem.wp _ _ (Sem.choose src n Sem.pure) _ _ _ _;rw[Sem.wp];exact⟨hn,h _ _ (mod_lt _ (Nat.pos_of_ne_zero hn))⟩
theorem AR{α:Type}:∀(n:Nat) (xs:List α) (s:Shared) (Q:List α -> Shared->Prop),xs.length=n->(∀ys d,ys.Perm xs->Q ys { s with drawn:=d })->wpAny (model prog w) A (drawOrder n xs) Q E s
 | 0,xs,s,Q,hl,h=>by
  have:xs=[]:=List.eq_nil_of_length_eq_zero hl;subst this;unfold drawOrder;exact aac (h [] s.drawn (List.Perm.refl _))
 |n+1,[],s,Q,hl,h=>by simp at hl
 | n+1,x::xs,s,Q,hl,h=>by
  unfold drawOrder;refine Z2 (CD (by simp) λi d hi=>?_);have hx:(x::xs)[i]?=some ((x::xs)[i]):=aay hi;rw[hx];dsimp only;refine Z2 (AR n ((x::xs).eraseIdx i) _ _ (by rw[List.length_eraseIdx,aab hi];simp at hl |-;omega) λys d' p=>aac ?_);exact h _ d' (((List.Perm.cons _ p).trans (mz _ i hi)))
theorem rM{ep c:Nat}{ks:List Int}{i:Nat}{ps:List Nat}(hh:A.handled=none)(x:fH s.heap it (.ref td) i a es.size ep)(S:eX prog w s.heap a o es ep t ks)
  (hT:s.heap.get? td=some oT) (Tz:oT.data=.seq (ps.map λ(j:Nat)=>rawInt j).toArray c) (hlt:∀j∈ps,j<es.size)
  (hQ:∀j e,ps[i]?=some j->es[j]?=some e->∀h',fH h' it (.ref td) (i+1) a es.size ep->Heap.SameBut it s.heap h'->Q (some e.2) { s with heap:=h' })
  (hE:ps[i]?=none->∀h',Heap.ExtBut it s.heap h'->Q none { s with heap:=h' }):wpAny (model prog w) A (pyNext (.ref it)) Q E s:=by
 obtain⟨oi,HQ,UZ,hdi⟩:=id x;unfold pyNext;refine Z2 (wpAny_attempt (wpAny_callSpecial?_slot (name:=Str.ofString "__next__") x.typeIs SI.slot_next (wpAny_call_entry SI.slot_next x.typeIs SI.entry_next ?_ (SI.args_next _))));unfold Builtin.«set_iterator.__next__»;refine Z2 (aac ?_);refine Z2 (wpAny_fieldsOf HQ hdi ?_);dsimp only;refine Z2 (iF S.at_ S.dat S.tab.fit ?_);rw[aad (by simp)];refine Z2 (wpAny_seqItems hT Tz ?_);dsimp only;have hg:((ps.map λ(j:Nat)=>rawInt j).toArray)[((i:Nat):Int).toNat]?=(ps[i]?).map λ(j:Nat)=>rawInt j:=by simp
 rw[hg];cases hp:ps[i]? with
 |some j=>
  have hj:j<es.size:=hlt j (aaz hp);simp only[map_some,rawInt];refine Z2 ?_;unfold setNextDrawn;refine Z2 (wpAny_setState_of S.at_ S.dat S.tab.fit ?_);dsimp only;rw[aad (by simp)];have XT:es[((j:Nat):Int).toNat]?=some es[j]:=by simp[hj]
  rw[XT];refine aac ?_;refine Z2 (wpAny_setField HQ hdi (by simp) ?_);have h2:=get?_update_self (Obj.mapFields (·.setIfInBounds 1 (.int ((i:Int)+1) 0))) HQ (Obj.isFreed_of_fields (Obj.data_mapFields hdi _));refine aac ⟨_,rfl,aac (hQ j _ hp (Array.getElem?_eq_getElem hj) _ ⟨_,h2,?_,?_⟩ (Heap.SameBut.update ..))⟩
  ·rw[Obj.cls_mapFields];exact UZ
  ·rw[Obj.data_mapFields hdi];simp
 |none=>simp only[Option.map_none];refine Z2 (wpAny_setField HQ hdi (by simp) ?_);have h1:=get?_update_self (Obj.mapFields (·.setIfInBounds 0 (rawInt 0))) HQ (Obj.isFreed_of_fields (Obj.data_mapFields hdi _));have d1:=Obj.data_mapFields hdi (·.setIfInBounds 0 (rawInt 0));refine Z2 (wpAny_setField h1 d1 (by simp) ?_);refine Z2 ?_;simp only[newExc,newTuple];refine Z2 (aaQ ?_ (by size_fits));refine Z2 (m:=firstArgMember _ _) (wpAny_of_eq (a:=Value.none) (by first|rfl|(simp only[firstArgMember];rfl)) ?_);refine aaQ ?_ (by size_fits);simp only[raiseNew];refine Z2 (wpAny_handled ?_);rw[show A.in1.handled=none from hh];refine Z2 (aac (wpAny_throw ?_));refine Z2 (wpAny_isInstance (T:="StopIteration") (b:=true) ⟨_,aao _ rfl,rfl⟩ isSubtype_stop ?_);exact aac (hE hp _ ((((Heap.SameBut.update ..).trans (Heap.SameBut.update ..)).extBut.push _).push _))
end
theorem uG{α:Type}(f:Nat->Nat):∀(n k:Nat) (l:List α) (out:Array α),l.length=n->(pickOrder.go f n k l out).toList.Perm (out.toList++l)
 | 0,k,l,out,h=>by
  have:l=[]:=List.eq_nil_of_length_eq_zero h;subst this;unfold pickOrder.go;simp
 | n+1,k,l,out,h=>by
  unfold pickOrder.go;have hl:0<l.length:=by omega
  have hi:f k%l.length<l.length:=mod_lt _ hl;rw[aay hi];dsimp only;refine(uG f n (k+1) _ _ (by rw[List.length_eraseIdx,aab hi];omega)).trans ?_;rw[Array.toList_push,List.append_assoc];exact List.Perm.append_left _ (mz l _ hi)
theorem uH{t:SetTable}{n:Nat}(h:t.fits n=true):t.place.size=n:=by
 simp only[SetTable.fits,and_eq_true,beq_iff_eq]at h;exact h.1
def TF(t:SetTable):Nat->Nat
 |0=>0
 |i+1=>t.place.getD i 0+1
theorem uI(r:uB t.place):∀i,i<=t.place.size->SetTable.below t.place (TF t i)=i
 |0,_=>zY r
 | i+1,h=>by
  have hi:i<t.place.size:=h;have e:TF t (i+1)=t.place[i]+1:=by simp[TF,Array.getD,hi]
  rw[e];exact zZ r hi
section
variable {prog:Program} {w:World} {A:Around} {E:Value->Shared->Prop} {s:Shared}
theorem eX.keep{ep:Nat}{ks:List Int}(S:eX prog w h a o es ep t ks)(k:∀o,h.get? a=some o->h'.get? a=some o):eX prog w h' a o es ep t ks:={ S with at_:=k o S.at_ }
theorem fH.keep{i:Nat}{n ep:Nat}(x:fH h it f i a n ep)(k:∀o,h.get? it=some o->h'.get? it=some o):fH h' it f i a n ep:=by
 obtain⟨o,ho,r⟩:=x;exact⟨o,k o ho,r⟩
def PL(L:List (Int×Value))(i:Nat)(v:Value):Prop:=∃e,L[i]?=some e/\v=e.2
theorem CF(hh:A.handled=none){ep:Nat}{ks:List Int}(hne:a≠I)(hb:t8 w=false)(hp:(!t.plain&&decide (es.size>1))=false) :
  Walks prog w A I [I,a] [I] es.toList.length (PL es.toList) (λi h=>eX prog w h a o es ep t ks/\fH h I (.int (TF t i) 0) i a es.size ep) where
 sub:=λb hb=>by simp at hb;simp[hb]
 frame:=λ_ _ _ st hk=>⟨st.1.keep λo e=>hk a (by simp) o e,st.2.keep λo e=>hk I (by simp) o e⟩
 item:=λi s Q E hi st hQ=>by
  have hi:i<es.size:=by simpa using hi
  have hz:=uH st.1.tab.fit;have hb':=uI st.1.tab.rs i (by rw[hz];exact le_of_lt hi);refine m9 (r:=some (es[i].2,t.place.getD i 0+1)) hh st.2 st.1 (λA E Q q=>uE st.1 hb hp ?_) (λv nx e h' x' sb=>?_) (λe=>nomatch e)
  ·rw[hb',Array.getElem?_eq_getElem hi,Array.getElem?_eq_getElem (by rw[hz];exact hi)]
   have e1:t.place[i]'(by rw[hz];exact hi)=t.place.getD i 0:=by simp[Array.getD,hz,hi]
   dsimp only;rw[e1];exact q
  ·cases e;exact hQ _ h' s.toks ⟨es[i],by simp[hi],rfl⟩ ⟨st.1.keep λo e=>sb.extBut a o hne e,x'⟩ λb o hb e=>sb.extBut b o (λz=>hb (by simp[z])) e
 done:=λs Q E st hQ=>by
  have hz:=uH st.1.tab.fit;have hb':=uI st.1.tab.rs es.toList.length (by rw[hz];simp);refine m9 (r:=none) hh st.2 st.1 (λA E Q q=>uE st.1 hb hp ?_) (λv nx e=>nomatch e) (λ_ h' sb=>hQ h' s.toks λb o hb e=>sb b o (λz=>hb (by simp[z])) e);rw[hb',Array.getElem?_eq_none (by simp)];exact q
 self:=λ_ _ _ _ st hQ=>oK st.2 hQ
theorem CG(hh:A.handled=none){ep:Nat}{ks:List Int}(hne:a≠I)(hb:t8 w=true) :
  Walks prog w A I [I,a] [I] (pickOrder (w.params.setOrder a ep) es).toList.length (PL (pickOrder (w.params.setOrder a ep) es).toList) (λi h=>eX prog w h a o es ep t ks/\fH h I (.int (0:Nat) 0) i a es.size ep) where
 sub:=λb hb=>by simp at hb;simp[hb]
 frame:=λ_ _ _ st hk=>⟨st.1.keep λo e=>hk a (by simp) o e,st.2.keep λo e=>hk I (by simp) o e⟩
 item:=λi s Q E hi st hQ=>by
  have hi:i<(pickOrder (w.params.setOrder a ep) es).size:=by simpa using hi
  refine m9 (r:=some ((pickOrder (w.params.setOrder a ep) es)[i].2,0)) hh st.2 st.1 (λA E Q q=>uF st.1 hb ?_) (λv nx e h' x' sb=>?_) (λe=>nomatch e)
  ·rw[Array.getElem?_eq_getElem hi];exact q
  ·cases e;exact hQ _ h' s.toks ⟨(pickOrder (w.params.setOrder a ep) es)[i],by simp[hi],rfl⟩ ⟨st.1.keep λo e=>sb.extBut a o hne e,x'⟩ λb o hb e=>sb.extBut b o (λz=>hb (by simp[z])) e
 done:=λs Q E st hQ=>by
  refine m9 (r:=none) hh st.2 st.1 (λA E Q q=>uF st.1 hb ?_) (λv nx e=>nomatch e) (λ_ h' sb=>hQ h' s.toks λb o hb e=>sb b o (λz=>hb (by simp[z])) e);rw[Array.getElem?_eq_none (by simp)];exact q
 self:=λ_ _ _ _ st hQ=>oK st.2 hQ
theorem z6(hh:A.handled=none){ep c:Nat}{ks:List Int}{ps:List Nat}(hne:a≠I)(hnt:td≠I)(hlt:∀j∈ps,j<es.size)(Tz:oT.data=.seq (ps.map λ(j:Nat)=>rawInt j).toArray c) :
  Walks prog w A I [I,a,td] [I] ps.length (PL (ps.map λj=>es.getD j (0,.none))) (λi h=>eX prog w h a o es ep t ks/\fH h I (.ref td) i a es.size ep/\h.get? td=some oT) where
 sub:=λb hb=>by simp at hb;simp[hb]
 frame:=λ_ _ _ st hk=>⟨st.1.keep λo e=>hk a (by simp) o e,st.2.1.keep λo e=>hk I (by simp) o e,hk td (by simp) _ st.2.2⟩
 item:=λi s Q E hi st hQ=>by
  refine rM hh st.2.1 st.1 st.2.2 Tz hlt (λj e hj he h' x' sb=>?_) (λhn=>absurd hn (by rw[aay hi];simp));refine hQ _ h' s.toks ⟨e,?_,rfl⟩ ⟨st.1.keep λo e=>sb.extBut a o hne e,x',sb.extBut td _ hnt st.2.2⟩ λb o hb e=>sb.extBut b o (λz=>hb (by simp[z])) e;rw[aaB,hj];have hjl:j<es.size:=(Array.getElem?_eq_some_iff.mp he).1;have:=(Array.getElem?_eq_some_iff.mp he).2;simp[Array.getD,hjl,this]
 done:=λs Q E st hQ=>rM hh st.2.1 st.1 st.2.2 Tz hlt (λj e hj=>absurd hj (by simp)) (λ_ h' sb=>hQ h' s.toks λb o hb e=>sb b o (λz=>hb (by simp[z])) e)
 self:=λ_ _ _ _ st hQ=>oK st.2.1 hQ
end
section
variable {prog:Program} {w:World} {A:Around} {E:Value->Shared->Prop} {s:Shared}
theorem Ef{ep:Nat}{ks:List Int}(S:eX prog w s.heap a o es ep t ks)(h:Q (!t8 w&&(!t.plain&&decide (es.size>1))) s):wpAny (model prog w) A (setDrawn a) Q E s:=by
 unfold setDrawn;refine Z2 (wpAny_setState_of S.at_ S.dat S.tab.fit ?_);dsimp only;exact Z2 (kZ (aac h))
theorem xS{ep:Nat}{ks:List Int}(S:eX prog w s.heap a o es ep t ks)(h:Q ep s):wpAny (model prog w) A (setEpoch a) Q E s:=wpAny_setEpoch_of S.at_ S.dat S.tab.fit h
theorem Eg(hh:A.handled=none){ep:Nat}{ks:List Int}(S:eX prog w s.heap a o es ep t ks)
  (hQ:∀(h':Heap) d (I:Addr) (fp:List Addr) (L:List (Int×Value)) (St:Nat->Heap->Prop),L.Perm es.toList->Walks prog w A I fp [I] L.length (PL L) St->St 0 h'->s.heap.objs.size<=I->I<h'.objs.size->(∀b∈fp,b=a\/s.heap.objs.size<=b)->(∀b o,s.heap.get? b=some o->h'.get? b=some o)->Q (.ref I) { s with heap:=h',drawn:=d }) :
  wpAny (model prog w) A (pyIter (.ref a)) Q E s:=by
 have hT:s.TypeIs (.ref a) "set":=⟨o,S.at_,S.ex.1⟩;have hlt:a<s.heap.objs.size:=aal S.at_;refine wpAny_pyIter_slot hT PySem.F.slot_set_iter (wpAny_call_entry PySem.F.slot_set_iter hT SI.z5 ?_ (PySem.F.args_set_iter_1 _));unfold Builtin.«frozenset.__iter__» Builtin.Frozenset.slot0 Builtin.Frozenset.sizeOf;refine Z2 (Z2 (aac (aac ?_)));refine Z2 (Z2 (iF S.at_ S.dat S.tab.fit (aac ?_)));refine Z2 (Ef S ?_);cases hd:(!t8 w&&(!t.plain&&decide (es.size>1))) with
 |false=>
  simp only[false_eq_true,↓reduceIte];refine Z2 (aac ?_);refine Z2 (xS S ?_);refine Z2 (aaQ (aac ⟨_,rfl,"set_iterator",_,⟨_,aao _ rfl,rfl⟩,SI.slot_next.lookup,?_⟩));have e:s={ s with drawn:=s.drawn }:=by cases s;rfl
  have Wi:∀b∈[s.heap.objs.size,a],b=a\/s.heap.objs.size<=b:=λb hb=>by
   simp only[mem_cons,not_mem_nil,or_false]at hb
   rcases hb with rfl|rfl
   ·exact .inr (aae _)
   ·exact .inl rfl
  have sz:s.heap.objs.size<(s.heap.push { cls:=.type "set_iterator",data:=.fields ([rawInt 0,rawInt 0,.ref a,rawInt es.size,rawInt ep]:List Value).toArray }).objs.size:=by rw[aaV];exact aaW _
  cases hb:t8 w with
  |true=>exact hQ _ s.drawn _ _ _ _ (uG _ _ 0 es.toList #[] (by simp)) (CG hh (aax hlt) hb) ⟨S.keep λo e=>Z7 _ e,⟨_,aao _ rfl,rfl,rfl⟩⟩ (aae _) sz Wi λb o e=>Z7 _ e
  |false=>rw[hb]at hd;exact hQ _ s.drawn _ _ _ _ (List.Perm.refl _) (CF hh (aax hlt) hb (by simpa using hd)) ⟨S.keep λo e=>Z7 _ e,⟨_,aao _ rfl,rfl,rfl⟩⟩ (aae _) sz Wi λb o e=>Z7 _ e
 |true=>
  simp only[↓reduceIte];refine Z2 (AR es.size (List.range es.size) s _ (by simp) λps d pp=>?_);refine Z2 ?_;simp only[newTuple];refine aaQ ?_ (by show (toArray _).size<=sizeLine;rw[aak,Z9,pp.length_eq,length_range];exact fits_of_scanBound S.tab.few);have S1:eX prog w (s.heap.push { cls:=.type "tuple",data:=.seq (ps.map λ(i:Nat)=>rawInt i).toArray }) a o es ep t ks:=S.keep λo e=>Z7 _ e;refine Z2 (xS S1 ?_);refine Z2 (aaQ (aac ⟨_,rfl,"set_iterator",_,⟨_,aao _ rfl,rfl⟩,SI.slot_next.lookup,?_⟩));have hpl:∀j∈ps,j<es.size:=λj hj=>by simpa using pp.mem_iff.mp hj
  have perm:(ps.map λj=>es.getD j (0,Value.none)).Perm es.toList:=by
   have e2:(List.range es.size).map (λj=>es.getD j (0,Value.none))=es.toList:=by
    apply ext_getElem
    ·simp
    ·intro i h1 h2
     have hi:i<es.size:=by simpa using h2
     simp[Array.getD,hi]
   rw[<-e2];exact pp.map _
  have z1:(s.heap.push { cls:=.type "tuple",data:=.seq (ps.map λ(i:Nat)=>rawInt i).toArray }).objs.size=s.heap.objs.size+1:=aaV _ _;have W:=z6 (prog:=prog) (w:=w) (A:=A) (o:=o) (ep:=ep) (t:=t) (ks:=ks) hh (I:=s.heap.objs.size+1) (a:=a) (td:=s.heap.objs.size) (oT:={ cls:=.type "tuple",data:=.seq (ps.map λ(i:Nat)=>rawInt i).toArray }) (es:=es) (c:=0) (ps:=ps) (aax (lt_succ_of_lt hlt)) (aax (aaW _)) hpl rfl;rw[show ps.length=(ps.map λj=>es.getD j (0,Value.none)).length by simp] at W;rw[z1];refine hQ _ d _ _ _ _ perm W ⟨S1.keep λo e=>Z7 _ e,⟨{ cls:=.type "set_iterator",data:=.fields ([.ref s.heap.objs.size,rawInt 0,.ref a,rawInt es.size,rawInt ep]:List Value).toArray },?_,rfl,rfl⟩,Z7 _ (aao _ rfl)⟩ (le_succ _) ?_ ?_ λb o e=>Z7 _ (Z7 _ e)
  ·rw[<-z1];exact aao _ rfl
  ·rw[aaV,z1];exact aaW _
  ·intro b hb
   simp only[mem_cons,not_mem_nil,or_false]at hb
   rcases hb with rfl|rfl|rfl
   ·exact .inr (le_succ _)
   ·exact .inl rfl
   ·exact .inr (aae _)
end
section
variable {prog:Program} {w:World} {A:Around} {E:Value->Shared->Prop} {s:Shared}
theorem Eh(hT:s.TypeIs (.ref r) "set")(h:Q false s):wpAny (model prog w) A (Builtin.List.listLengthHint (.ref r)) Q E s:=by
 unfold Builtin.List.listLengthHint;refine Z2 (wpAny_specialOf hT PySem.F.slot_set_len.lookup ?_);generalize hid:("set.__len__":String)=XU
 wp_delta
 rw[show splitId XU=some ("set","__len__") from by subst hid;decide +kernel];subst hid;refine Z2 (wpAny_isInstance (T:="set") (b:=true) hT sub_set_self ?_);refine wpAny_ite_split (λz=>absurd z (by decide)) (λ_=>?_);refine wpAny_ite_split (λ_=>?_) (λz=>absurd (by decide +kernel) z);exact Z2 (wpAny_typeOf hT (aac h))
theorem xT(hh:A.handled=none){ep:Nat}{ks:List Int}(S:eX prog w s.heap a o es ep t ks)
  (h:∀(h':Heap) (tk:Nat) d (L:List (Int×Value)),(∀b o,s.heap.get? b=some o->h'.get? b=some o)->s.heap.objs.size<h'.objs.size->L.Perm es.toList->R (L.map (·.2)) { s with heap:=h',toks:=tk,drawn:=d }) :
  wpAny (model prog w) A (collect (.ref a)) R E s:=by
 have hlt:a<s.heap.objs.size:=aal S.at_;unfold collect;refine Z2 (wpAny_runValue (codeAny_builtin entry_proto_collect' ?_));rw[Around.under_plainId PySem.F.plain_proto_collect _];show wpAny _ A.in1 (newList [] >>= λl=>again (.builtin "list.__iadd__" ⟨[l,.ref a],[]⟩)) _ _ s;refine Z2 (aaQ ?_);refine aac ⟨plainId_quiet PySem.F.plain_list_iadd _,codeAny_builtin entry_list_iadd' ?_⟩;rw[Around.under_plainId PySem.F.plain_list_iadd _]
 let s1:Shared:={ s with heap:=s.heap.push { cls:=.type "list",data:=.seq ([]:List Value).toArray } }
 have l1:s1.heap.get? s.heap.objs.size=some { cls:=.type "list",data:=.seq #[] }:=aao _ rfl;have S1:eX prog w s1.heap a o es ep t ks:=S.keep λo e=>Z7 _ e;have z1:s1.heap.objs.size=s.heap.objs.size+1:=aaV _ _;have hT:s1.TypeIs (.ref a) "set":=⟨o,S1.at_,S1.ex.1⟩;show wpAny _ A.in1 (Builtin.List.listExtendWith (.ref s.heap.objs.size) (.ref a) (.ref s.heap.objs.size)) _ _ s1;unfold Builtin.List.listExtendWith;refine Z2 (wpAny_typeOf hT ?_);have n1:Builtin.List.listSameRef (.ref s.heap.objs.size) (.ref a)=false:=by simp[Builtin.List.listSameRef,ne_of_gt hlt]
 simp only[n1,show (Value.type "set" == Value.type "list")=false by decide,show (Value.type "set" == Value.type "tuple")=false by decide,Bool.or_false,false_eq_true,if_false];refine Z2 (Eg (A:=A.in1) (by simp[hh]) S1 λh2 d I fp L St perm W st zI ZP hfp k2=>?_);have l2:h2.get? s.heap.objs.size=some { cls:=.type "list",data:=.seq #[] }:=k2 _ _ l1;have nfp:s.heap.objs.size∉fp:=λz=>by
  rcases hfp _ z with e|e
  ·exact absurd e (ne_of_gt hlt)
  ·rw[z1]at e;exact absurd e (Nat.not_succ_le_self _)
 have hl:L.length<=sizeLine:=by rw[perm.length_eq,aaG];exact fits_of_scanBound S.tab.few
 have key:∀(hp:Heap) (c₁:Nat) (Rr:Result->Shared->Prop),St 0 hp->(∀b o,b≠s.heap.objs.size->h2.get? b=some o->hp.get? b=some o)->hp.get? s.heap.objs.size=some { cls:=.type "list",data:=.seq #[] c₁ } ->
   (∀(s':Shared) (acc:Array Value) (c:Nat),s'.heap.get? s.heap.objs.size=some { cls:=.type "list",dict:=none,data:=.seq acc c,slots:=#[] }->R acc.toList s'->Rr (.ok (.ret (.ref s.heap.objs.size))) s') ->
   codeAny (model prog w) A (.builtin "list.extend.loop" ⟨[.ref s.heap.objs.size,.ref I,.ref s.heap.objs.size],[]⟩) Rr { s1 with heap:=hp,drawn:=d }:=by
  intro hp c₁ Rr hst hk hS hR;refine codeAny_extend_loopS W.toS hl s.heap.objs.size nfp (.ref s.heap.objs.size) L.length 0 _ #[] c₁ rfl (zero_le _) hst hS (ItemsOf.nil _) λs' acc c hm hS' hacc=>?_;refine hR s' acc c hS' ?_;have ea:acc.toList=L.map (·.2):=by
   apply ext_getElem
   ·rw[aaG,hacc.1,Z9]
   ·intro j h1 h2
    have hj:j<acc.size:=by simpa using h1
    obtain⟨e,he,hv⟩:=hacc.2 j acc[j] (Array.getElem?_eq_getElem hj);rw[Array.getElem_toList,hv,getElem_map];obtain⟨hj2,e2⟩:=Z8.mp he;rw[e2]
  rw[ea,Moved.eq_with hm];refine h s'.heap s'.toks d L (λb o e=>?_) (aal hS') perm;have hb:b<s.heap.objs.size:=aal e;refine hm.heap b o (λz=>?_) (hk b o (aax hb) (k2 b o (Z7 _ e)))
  rcases aap.mp z with z|z
  ·exact absurd z (aax hb)
  ·rw[aaj]at z;rw[z]at hb;rw[z1]at zI;exact absurd (aan hb (Nat.le_of_succ_le zI)) (aaX _)
 have fin:∀(s':Shared) (acc:Array Value) (c:Nat),s'.heap.get? s.heap.objs.size=some { cls:=.type "list",dict:=none,data:=.seq acc c,slots:=#[] }->R acc.toList s'->wpAny (model prog w) A (load s.heap.objs.size >>= λob=>(match ob.data with|.seq xs _=>pure xs.toList|_=>unsupported "internal:collect")) R E s':=λs' acc c e q=>Z2 (wpAny_load e (aac q));refine Z2 (wpAny_holding (Eh ⟨o,k2 _ _ S1.at_,S1.ex.1⟩ ?_));refine wpAny_ite_split (λ_=>?_) (λ_=>aac ⟨plainId_quiet PySem.F.plain_extend_loop _,key _ 0 _ st (λb o _ e=>e) l2 fin⟩);refine Z2 (wpAny_rule ?_);refine Z2 ?_;show wpAny _ _ (updateSeq s.heap.objs.size (·.push .none) >>= λ_=>updateSeq s.heap.objs.size (·.pop)) _ _ _;refine Z2 (wpAny_updateSeq l2 rfl ?_);have l3:=get?_update_self (Obj.mapSeq (·.push Value.none)) l2 rfl;refine wpAny_updateSeq (hz:=by seq_fits) l3 rfl ?_;have l4:=get?_update_self (Obj.mapSeq (·.pop)) l3 rfl;have oth:∀b o,b≠s.heap.objs.size->h2.get? b=some o->((h2.update s.heap.objs.size (Obj.mapSeq (·.push Value.none))).update s.heap.objs.size (Obj.mapSeq (·.pop))).get? b=some o:=λb o hb e=>(get?_update_other _ _ (Ne.symm hb)).trans ((get?_update_other _ _ (Ne.symm hb)).trans e);exact aac ⟨plainId_quiet PySem.F.plain_extend_loop _,key _ _ _ (W.frame 0 _ _ st λb hb o e=>oth b o (λz=>nfp (z▸hb)) e) oth l4 fin⟩
end
theorem xU:∀(ks ns:List Int),ks.Nodup->(∀k∈ks,k∈ns)->ks.length=ns.length->ks.Perm ns
 | [],ns,_,_,h=>by
  have:ns=[]:=List.eq_nil_of_length_eq_zero h.symm;subst this;exact List.Perm.refl _
 | k::ks,ns,nd,hs,hl=>by
  have hk:=hs k aaa;have Q2:=aaF.mp nd;have p:=List.perm_cons_erase hk;refine(List.Perm.cons k (xU ks (ns.erase k) Q2.2 (λx hx=>?_) ?_)).trans p.symm
  ·exact(List.mem_erase_of_ne λz=>Q2.1 (by rw[<-z];exact hx)).mpr (hs x (Z5 _ hx))
  ·rw[List.length_erase_of_mem hk];simp only[length_cons]at hl;omega
def xV:Value->Int
 |.int i _=>i
 |_=>0
section
variable {prog:Program} {w:World} {A:Around} {E:Value->Shared->Prop} {s:Shared}
theorem rO:∀{L:List (Int×Value)},ElemsOf (intKind prog w) L->IntsAre (L.map (·.2)) (L.map λe=>xV e.2)
 |[],_=>.nil
 | (h,v)::L,el=>by
  obtain⟨⟨k,hk,_⟩,_⟩:=el _ aaa;obtain⟨t,e⟩:=Value.isInt_shape (k:=k) (v:=v) hk;subst e;exact .cons k t (rO λx hx=>el x (Z5 _ hx))
theorem Ei{h:Heap}{a:Addr}{o:Obj}{es:Array (Int×Value)}{ep:Nat}{t:SetTable}{ks:List Int}(S:eX prog w h a o es ep t ks){L:List (Int×Value)}(p:L.Perm es.toList):(L.map λe=>xV e.2).Perm ks:=by
 refine(xU ks _ S.Wd (λk hk=>?_) ?_).symm
 ·obtain⟨e,he,q⟩:=(S.mem k).mp hk;obtain⟨t',ev⟩:=Value.isInt_shape (k:=k) (v:=e.2) q;exact aaN.mpr ⟨e,p.mem_iff.mpr he,by rw[ev];rfl⟩
 ·have:=S.num;rw[Z9,p.length_eq,aaG];exact this.symm
theorem z7(hh:A.handled=none){ep:Nat}{ks:List Int}(S:eX prog w s.heap a o es ep t ks)(h64:ks.length<64)
  (hQ:∀(h':Heap) (tk:Nat) d (D:Addr) (out:List Value) (e:Nat),(∀b o,s.heap.get? b=some o->h'.get? b=some o)->s.heap.objs.size<=D->h'.get? D=some (seqObj "list" out.toArray e)->IntsAre out (sortI ks)->Q (.ref D) { s with heap:=h',toks:=tk,drawn:=d }) :
  wpAny (model prog w) A (call (.builtin "sorted") [.ref a]) Q E s:=by
 refine mX.eW (O:=mX.mj) (xT (A:=A.in1) (by simp[hh]) S λh' tk d L hk hz perm=>?_);have el:ElemsOf (intKind prog w) L:=S.el.perm perm;have hI:=rO el;have pk:=Ei S perm;have hl:(L.map (·.2)).length<64:=by rw[Z9];have:=pk.length_eq;rw[Z9]at this;omega
 refine⟨hl,λi=>(L.map λe=>xV e.2).getD i 0,λh2 h6 _=>mX.mq hI h2,λp h'' outs k2 he=>?_⟩;obtain⟨e,he⟩:=he;have lv:(L.map (·.2)).length=(L.map λe=>xV e.2).length:=by rw[Z9,Z9]
 have mem:∀i∈p,i<L.length:=λi hi=>by have:=outs.perm.mem_iff.mp hi;simpa using this
 have pn:(p.map λi=>(L.map λe=>xV e.2).getD i 0).Perm ks:=by have:=outs.perm.map λi=>(L.map λe=>xV e.2).getD i 0;rw[lv,mX.cN]at this;exact this.trans pk
 have up:(p.map λi=>(L.map λe=>xV e.2).getD i 0).Pairwise (· <= ·):=by refine List.Pairwise.imp (R:=mX.mj.kle) (λ{x y:Int} hxy=>?_) outs.up;have hxy:(decide (y<x):Bool)=false:=hxy;exact not_lt.mp (of_decide_eq_false hxy)
 have es:=eq_sortI pn up;refine hQ h'' tk d h'.objs.size _ e (λb o z=>k2 b o (hk b o z)) (le_of_lt hz) he ?_;rw[<-es];clear he es up pn outs
 induction p with
 |nil=>exact .nil
 |cons i r ih=>
  have hi:=mem i aaa;have hi2:i<(L.map (·.2)).length:=by simpa using hi
  obtain⟨t',ev⟩:=IntsAre.int_at hI i _ (aay hi2);rw[aaf,aaf];have e1:(L.map (·.2)).getD i Value.none=.int ((L.map λe=>xV e.2).getD i 0) t':=by rw[<-ev];simp[List.getD,List.getElem?_eq_getElem hi]
  rw[e1];exact .cons _ t' (ih λj hj=>mem j (Z5 _ hj))
end
end L2
end
section
namespace L2
open PySem PySem.Spec PyProof.Rows
section
variable {X:Cx}
theorem Inv.draws(I:Inv X pins σ H s)(d:Drawn):Inv X pins σ H { s with drawn:=d }:=⟨I.ok,I.os,I.bare,I.base,I.loc,I.cell,I.free,I.iu,I.pin,I.hok,I.len⟩
def XW(K:Frag)(te:TE):TE:=λσ H Q=>te σ H λx H1=>∃p ns,x=.ref p/\gF K H1 p (ns.map V.int)/\ns.length<64/\∀l,H1 l=none->Q (.ref l) (upd H1 l (.lst ((sortI (eG [] ns)).map V.int)))
theorem xW:∀(ns ks:List Int),(eG ks ns).length<=ks.length+ns.length
 |[],ks=>by simp[eG]
 | n::ns,ks=>by
  rw[eG,aaq];have:=xW ns (rJ ks n);have:=rK ks n;omega
theorem Jc{p1 p2 pos1 pos2:Pos}(hh:X.A.handled=none)(hg:Gl X "sorted")(hm:X.mg "sorted" = none)(XX:Gl X "set")(hm2:X.mg "set" = none)(hv:bootBuiltins "sorted" = some (.builtin "sorted"))(hv2:bootBuiltins "set" = some (.type "set"))(he:PE X e te)
  (hs:starEach [e] X.env=[(false,eval e X.env)]):PE X (.Call (.Name "sorted" p1) [.Call (.Name "set" p2) [e] [] pos2] [] pos1) (XW X.K te):=by
 intro pins s σ H Q I h;refine aaR (gg I hg hm hv ?_ (by decide) (by decide));refine PyProof.Rows.callWith_builtin1 ?_ rfl rfl;show wpAny _ _ (spliced [(false,eval (.Call (.Name "set" p2) [e] [] pos2) X.env)]) _ _ s;refine Calls.spliced_cons ?_;refine aaR (gg I XX hm2 hv2 ?_ (by decide) (by decide));refine aaS ?_ hs rfl;show wpAny _ _ (spliced (backTo pos2 (starEach [e] X.env))) _ _ s;rw[hs];show wpAny _ _ (spliced [(false,eval e X.env)]) _ _ s;refine Calls.spliced_cons (cg (he pins s σ H _ I h) λu s1 ⟨x,H1,I1,r1,p,ns,ex,hq,h64,q⟩=>Calls.spliced_nil ?_);subst ex;cases r1;obtain⟨its,rv,pl,hz⟩:=I1.list hq;have hi:=intsAre_of rv;have hl:=hi.length;refine xR hh pl.isList (by simpa using hi) (by show its.toArray.size+1<4096;rw[aak,hl];omega) λh2 tk S k2=>?_;obtain⟨o,es,ep,t,S⟩:=S;refine Calls.spliced_nil ?_;have hk:=xW ns [];have U0:(eG [] ns).length<64:=by simp at hk;omega
 refine z7 (s:={ s1 with heap:=h2,toks:=tk }) hh S U0 λh3 XY d D out e k3 zD eD hout=>?_;have hD:s1.heap.objs.size<=D:=aaD (le_of_lt (aal S.at_)) zD;have hn:H1 D=none:=I1.hok.fresh hD;refine⟨.ref D,_,(I1.draws d).laid (t':=XY) (λb o z=>k3 b o (k2 b o (aal z) z)) hD (show bJ X.prog X.w _ _ _ (.lst ((sortI (eG [] ns)).map V.int)) from⟨?_,out,e,gB hout,eD⟩),rfl,q _ hn⟩;rw[Z9,(aaO _).length_eq,sizeLine_eq];omega
end
end L2
end
section
namespace L2
open PySem PySem.Spec PyProof.Rows PySem.W
section
variable {X:Cx}
def tLK(to:TE):TE:=λσ H Q=>to σ H λx H1=>∃a kvs,x=.ref a/\H1 a=some (.dK kvs)/\∀l,H1 l=none->Q (.ref l) (upd H1 l (.lst (kvs.map λkv=>kV kv.1)))
theorem Ej(e:(aS P w).is k u=true):RelV (kV k) u:=by
 rw[zv]at e
 rcases bP e with ⟨i,t,rfl,rfl⟩|⟨x,t,rfl,rfl⟩
 ·exact⟨t,rfl⟩
 ·exact⟨t,rfl⟩
theorem iU:∀{kvs:List (Key×V)} {vs:List (Key×Value)} {out:List Value},KV kvs vs->out.length=vs.length->(∀(j:Nat) (v:Value),out[j]?=some v->∃(k:Key) (x:Value),vs[j]?=some (k,x)/\(aS P w).is k v=true)->Vals (kvs.map λkv=>kV kv.1) out
 | [],vs,out,r,hl,h=>by
  cases r;cases out with
  |nil=>exact .nil
  |cons _ _=>simp at hl
 | p::kvs,vs,out,r,hl,h=>by
  cases r with
  |@cons _ q _ qs hq t=>
   cases out with
   |nil=>simp at hl
   |cons v out=>
    obtain⟨k,x,e1,e2⟩:=h 0 v rfl;simp at e1;refine .cons ?_ (iU t (by simpa using hl) λj u hu=>h (j+1) u hu);have:p.1=k:=by rw[hq.1,e1]
    show RelV (kV p.1) v;rw[this];exact Ej e2
theorem Ek(hh:X.A.handled=none)(hg:Gl X "list")(hm:X.mg "list" = none)(hv:bootBuiltins "list" = some (.type "list"))(ho:PE X o to)
  (hbase:attributeBase o "keys" X.env (eval o X.env)=eval o X.env) (hline:(ap.endLine==cp.line)=true):PE X (.Call (.Name "list" p) [.Call (.Attribute o "keys" ap) [] [] cp] [] pos) (tLK to):=by
 intro pins s σ H Q I h;refine aaR (gg I hg hm hv ?_ (by decide) (by decide));refine aaS ?_ rfl rfl;show wpAny _ _ (spliced [(false,eval (.Call (.Attribute o "keys" ap) [] [] cp) X.env)]) _ _ s;refine Calls.spliced_cons ?_;refine wpAny_Call_method0_late hbase hline (cg (ho pins s σ H _ I h) λu s1 aO=>?_);obtain⟨x,H1,I1,r1,a,kvs,ex,ea,q⟩:=aO;subst ex;cases r1;obtain⟨t1,t2,hd⟩:=rA I1 (.inl ⟨kvs,.inl ea⟩);obtain⟨hz,_,vs,rel,dd⟩:=rj I1.hok ea;refine⟨"dict","dict.keys",PySem.F.plainAttrs_dict,PySem.F.slot_dict_keys,PySem.F.type_dict_keys,t1,t2,Calls.callWith_builtin rfl (PySem.evalArgs_none ?_)⟩;refine call_meetsIn PySem.F.slot_dict_keys dd.typeIs PySem.F.entry_dict_keys (PySem.F.args_dict_keys_1 _) (kdl_meets_keys (aS X.prog X.w) a hd) ⟨⟨vs,dd⟩,?_⟩;refine Calls.spliced_nil ?_;obtain⟨ep,da⟩:=dd.dictAt;have hlen:=rel.length;refine kdl_call (kdl_keys (knd:=aS X.prog X.w) (kvs:=vs) (ep:=ep) (d:=a) (r:=s1.heap.objs.size)) hh ⟨⟨_,aao _ rfl,rfl,rfl⟩,da.push _⟩ (by rw[<-hlen];exact hz) λh' tk acc c k2 eD hacc=>?_;have hD:s1.heap.objs.size<=(s1.heap.push { cls:=.type "dict_keys",data:=.fields [.ref a].toArray }).objs.size:=by rw[aaV];exact le_succ _
 have hn:H1 (s1.heap.push { cls:=.type "dict_keys",data:=.fields [.ref a].toArray }).objs.size=none:=I1.hok.fresh hD;refine⟨.ref _,_,I1.laid (t':=tk) (λb o z=>k2 b o (Z7 _ z)) hD (show bJ X.prog X.w _ _ _ (.lst (kvs.map λkv=>kV kv.1)) from⟨?_,acc.toList,c,?_,?_⟩),rfl,q _ hn⟩
 ·rw[Z9];exact hz
 ·exact iU (P:=X.prog) (w:=X.w) rel (by rw[aaG];exact hacc.1) λj v e=>hacc.2 j v (by rw[<-getElem?_toList];exact e)
 ·first|(rw[Array.toArray_toList];exact eD)|simpa using eD
end
end L2
end
section
namespace L2
open PySem PySem.Spec PyProof.Rows
end L2
end
section
namespace L2
open PySem PySem.Spec PyProof.Rows PySem.W
section
variable {X:Cx}
def tSK(to:TE):TE:=λσ H Q=>to σ H λx H1=>∃(a:Addr) (kvs:List (Key×V)) (ns:List Int),x=.ref a/\H1 a=some (.dK kvs)/\kvs.map (·.1)=ns.map Sum.inl/\ns.length<64/\∀l,H1 l=none->Q (.ref l) (upd H1 l (.lst ((sortI ns).map V.int)))
theorem oM{ns:List Int}(hI:IntsAre vs ns):∀(p:List Nat),(∀i∈p,i<ns.length)->IntsAre (p.map λi=>vs.getD i Value.none) (p.map λi=>ns.getD i 0)
 |[],_=>.nil
 | i::r,mem=>by
  have hi:=mem i aaa;have hi2:i<vs.length:=by rw[hI.length];exact hi
  obtain⟨t',ev⟩:=IntsAre.int_at hI i _ (aay hi2);rw[aaf,aaf];have e1:vs.getD i Value.none=.int (ns.getD i 0) t':=by rw[<-ev];simp[List.getD,List.getElem?_eq_getElem hi2]
  rw[e1];exact .cons _ t' (oM hI r λj hj=>mem j (Z5 _ hj))
theorem El(hh:X.A.handled=none)(hg:Gl X "sorted")(hm:X.mg "sorted" = none)(hv:bootBuiltins "sorted" = some (.builtin "sorted"))(ho:PE X o to)
  (hbase:attributeBase o "keys" X.env (eval o X.env)=eval o X.env) (hline:(ap.endLine==cp.line)=true):PE X (.Call (.Name "sorted" p) [.Call (.Attribute o "keys" ap) [] [] cp] [] pos) (tSK to):=by
 intro pins s σ H Q I h;refine aaR (gg I hg hm hv ?_ (by decide) (by decide));refine PyProof.Rows.callWith_builtin1 ?_ rfl rfl;show wpAny _ _ (spliced [(false,eval (.Call (.Attribute o "keys" ap) [] [] cp) X.env)]) _ _ s;refine Calls.spliced_cons ?_;refine wpAny_Call_method0_late hbase hline (cg (ho pins s σ H _ I h) λu s1 aO=>?_);obtain⟨x,H1,I1,r1,a,kvs,ns,ex,ea,ens,h64,q⟩:=aO;subst ex;cases r1;obtain⟨t1,t2,hd⟩:=rA I1 (.inl ⟨kvs,.inl ea⟩);obtain⟨hz,_,vs,rel,dd⟩:=rj I1.hok ea;refine⟨"dict","dict.keys",PySem.F.plainAttrs_dict,PySem.F.slot_dict_keys,PySem.F.type_dict_keys,t1,t2,Calls.callWith_builtin rfl (PySem.evalArgs_none ?_)⟩;refine call_meetsIn PySem.F.slot_dict_keys dd.typeIs PySem.F.entry_dict_keys (PySem.F.args_dict_keys_1 _) (kdl_meets_keys (aS X.prog X.w) a hd) ⟨⟨vs,dd⟩,?_⟩;refine Calls.spliced_nil ?_;obtain⟨ep,da⟩:=dd.dictAt;have hlen:=rel.length;have view:(s1.heap.push { cls:=.type "dict_keys",data:=.fields [.ref a].toArray }).get? s1.heap.objs.size=some { cls:=.type "dict_keys",data:=.fields [.ref a].toArray }:=aao _ rfl;refine mX.eW (O:=mX.mj) (kdu_collect (A:=X.A.in1) (kdl_keys (knd:=aS X.prog X.w) (kvs:=vs) (ep:=ep) (d:=a) (r:=s1.heap.objs.size)) (by simp[hh]) ⟨⟨_,view,rfl,rfl⟩,da.push _⟩ (by rw[<-hlen];exact hz) λh' tk acc k2 hacc=>?_);have hV:Vals (kvs.map λkv=>kV kv.1) acc.toList:=iU (P:=X.prog) (w:=X.w) rel (by rw[aaG];exact hacc.1) λj v e=>hacc.2 j v (by rw[<-getElem?_toList];exact e);have hk:(kvs.map λkv=>kV kv.1)=ns.map V.int:=by have:=congrArg (List.map kV) ens;rw[aaP,aaP]at this;exact this
 rw[hk]at hV;have hI:=intsAre_of hV;have lv:=hI.length;have k1:∀b o,s1.heap.get? b=some o->h'.get? b=some o:=λb o e=>k2 b o (Z7 _ e);have hD:s1.heap.objs.size<=h'.objs.size:=le_of_lt (aal (k2 _ _ view));refine⟨by rw[lv];exact h64,λi=>ns.getD i 0,λh2 h6 _=>mX.mq hI h2,λpp h'' outs k' he=>?_⟩;obtain⟨e,he⟩:=he;have mem:∀i∈pp,i<ns.length:=λi hi=>by have:=outs.perm.mem_iff.mp hi;rw[lv]at this;simpa using this
 have pn:(pp.map λi=>ns.getD i 0).Perm ns:=by have:=outs.perm.map λi=>ns.getD i 0;rw[lv,mX.cN]at this;exact this
 have up:(pp.map λi=>ns.getD i 0).Pairwise (· <= ·):=by refine List.Pairwise.imp (R:=mX.mj.kle) (λ{x y:Int} hxy=>?_) outs.up;have hxy:(decide (y<x):Bool)=false:=hxy;exact not_lt.mp (of_decide_eq_false hxy)
 have es:=eq_sortI pn up;have hout:=oM hI pp mem;rw[es]at hout;dsimp only at k' he |-;have hn:H1 h'.objs.size=none:=I1.hok.fresh hD;refine⟨.ref h'.objs.size,_,I1.laid (t':=tk) (λb o z=>k' b o (k1 b o z)) hD (show bJ X.prog X.w _ _ _ (.lst ((sortI ns).map V.int)) from⟨?_,_,e,gB hout,he⟩),rfl,q _ hn⟩;rw[Z9,(aaO _).length_eq,sizeLine_eq];omega
end
end L2
end
section
namespace L2
open PySem PySem.Spec PyProof.Rows
section
variable {X:Cx}
theorem oN
  (hbase:attributeBase o m env (eval o env)=eval o env)
  (hfew:((backTo cp (starEach args env)).all (λx=>!x.1)&&(backToKw cp (keywordEach [] env)).all (λx=>x.1.isSome)
   && decide (args.length+([]:List Keyword).length+(if ([]:List Keyword).isEmpty then 0 else 1)<30))=true) (hline:(ap.endLine==cp.line)=true)
  (h:wpAny M A (eval o env) (λov s₁=>∀pl,wpAny M A (getMethod ov m pl) (λfx s₂=>wpAny M A (callWith cp fx.1 fx.2 (backTo cp (starEach args env)) (backToKw cp (keywordEach [] env))) Q E s₂) E s₁) E s) :
  wpAny M A (eval (.Call (.Attribute o m ap) args [] cp) env) Q E s:=by
 rw[arm_eval_Call,hbase];refine Z2 (wpAny_mono h (λov s₁ h₁=>?_) λ_ _ e=>e);refine Z2 (wpAny_standAt ?_);have Q3:methodCallForm (args.length+([]:List Keyword).length) (backTo cp (starEach args env)) (backToKw cp (keywordEach [] env))=true:=hfew;have hpos:methodCallPos true o env ap cp=pure cp:=by unfold methodCallPos;simp[hline]
 unfold methodCall;rw[Q3];refine Z2 (wpAny_holding (wpAny_mono (h₁ _) (λfx s₂ h₂=>?_) λ_ _ e=>e));exact Z2 (wpAny_of_eq hpos h₂)
theorem pe_mthD{k:Nat}(he:PE X o ta)(ha:PA X (l::ls) t)(hbase:attributeBase o m X.env (eval o X.env)=eval o X.env)
  (hfew:((backTo cp (starEach (l::ls) X.env)).all (λx=>!x.1)&&(backToKw cp (keywordEach [] X.env)).all (λx=>x.1.isSome)
   && decide ((l::ls).length+([]:List Keyword).length+(if ([]:List Keyword).isEmpty then 0 else 1)<30))=true) (hline:(ap.endLine==cp.line)=true) (hr:dD k X.A)
  (st:starEach (l::ls) X.env=(false,eval l X.env)::starEach ls X.env) (an:(backTo cp (starEach ls X.env)).any (·.1)=false) :
  PE X (.Call (.Attribute o m ap) (l::ls) [] cp) (λσ H Q=>ta σ H λx H1=>∃a C dx fs f fd ps sp,x=.ref a/\H1 a=some (.ins C dx fs)/\Dl X.K C/\Meth X.K C m f/\fs.lookup m=none/\Binds X.K fd ps [] /\
   fF X.prog X.w X.K X.mg X.base zu k f fd ps sp/\t σ H1 λvs H2=>sp (x::vs) H2 Q E0):=by
 intro pins s σ H Q I h;refine oN hbase hfew hline (cg (he pins s σ H _ I h) λu s1 aO pl=>?_);obtain⟨x,H1,I1,rx,a,C,dx,fs,f,fd,ps,sp,ex,ea,c,hm,ln,hb,F,q⟩:=aO;subst ex;obtain rfl:u=Value.ref a:=rx;refine qS I1 ea c hm ln ?_;refine callWith_K (first:=[.ref a]) (h₀:=X.base) I.ok.mod.Pu hm.kp (cg (ha cp pins s1 σ H1 _ I1 q) λus s2 ⟨vs,H2,I2,r,q2⟩=>⟨I2.oj,?_⟩) st an;exact qT (us:=.ref a::us) (vs:=.ref a::vs) (tR:=[]) (ds:=[]) F hr hb .nil rD I2 (.cons rfl r) (by rw[aaU];exact q2)
theorem pe_mth0{k:Nat}(he:PE X o ta)(hbase:attributeBase o m X.env (eval o X.env)=eval o X.env)
  (hline:(ap.endLine==cp.line)=true) (hr:dD k X.A) :
  PE X (.Call (.Attribute o m ap) [] [] cp) (λσ H Q=>ta σ H λx H1=>∃a C dx fs f fd ps sp,x=.ref a/\H1 a=some (.ins C dx fs)/\Dl X.K C/\Meth X.K C m f/\fs.lookup m=none/\Binds X.K fd ps [] /\
   fF X.prog X.w X.K X.mg X.base zu k f fd ps sp/\sp [x] H1 Q E0):=by
 intro pins s σ H Q I h;refine oN hbase rfl hline (cg (he pins s σ H _ I h) λu s1 aO pl=>?_);obtain⟨x,H1,I1,rx,a,C,dx,fs,f,fd,ps,sp,ex,ea,c,hm,ln,hb,F,q⟩:=aO;subst ex;obtain rfl:u=Value.ref a:=rx;refine qS I1 ea c hm ln ?_;exact callWith_K0 (first:=[.ref a]) I1.oj hm.kp (qT (us:=[.ref a]) (vs:=[.ref a]) (tR:=[]) (ds:=[]) F hr hb .nil rD I1 #[rfl] q)
theorem MC:l0 X (compareOp .Is) (λx y H Q=>∃b c,x=.bl b/\y=.bl c/\Q (.bl (b==c)) H):=by
 intro pins s σ H x y v u Q I rx ry h;obtain⟨b,c,rfl,rfl,q⟩:=h;cases rx;cases ry;refine wpAny_is_plain rfl (om I q ?_);cases b<;>cases c<;>rfl
theorem Jd:l0 X (compareOp .IsNot) (λx y H Q=>∃b c,x=.bl b/\y=.bl c/\Q (.bl (!(b==c))) H):=by
 intro pins s σ H x y v u Q I rx ry h;obtain⟨b,c,rfl,rfl,q⟩:=h;cases rx;cases ry;refine wpAny_isNot_plain rfl (om I q ?_);cases b<;>cases c<;>rfl
end
end L2
end
section
namespace L2
open PySem PySem.Spec PyProof.Rows PySem.W
section
variable {X:Cx}
theorem Q4{t':Nat}(I:Inv X pins σ H s)(k:∀b u,s.heap.get? b=some u->h'.get? b=some u)(hp:s.heap.get? a=none)(hn:H a=none)(new:bJ X.prog X.w (upd H a o) h' a o) :
  Inv X pins σ (upd H a o) { s with heap:=h',toks:=t' }:=by
 refine I.un ⟨λb u q _ _ _=>k b u q,λb u q _ _ _=>⟨u.slots,k b u q⟩,λb u q n _=>?_,λb u q _=>⟨u,k b u q⟩,λb xs q=>by rw[aq (aM q hn)];exact q,λb u xs q=>by rw[aq (aM q hn)];exact q,λb ps q=>⟨#[],by rw[aq (aM q hn),q];simp⟩⟩ λb u e=>?_
 ·rw[aq λz=>by rw[z,hp]at q;cases q];exact n
 ·by_cases hb:b=a
  ·subst hb;rw[aR]at e;cases e;exact new
  ·rw[aq hb]at e;exact(I.hok b u e).stay (λc v _ q=>k c v q) (λc q=>by rw[aq (aM q hn)];exact q) λc xs q=>by rw[aq (aM q hn)];exact q
def XZ(K:Frag)(te:TE)(ts:TO):TE:=λσ H Q=>te σ H λx H1=>ts σ H1 λi H2=>i=some (-1)/\∃a xs,x=.ref a/\gF K H2 a xs/\∀p,H2 p=none->Q (.ref p) (upd H2 p (.lst xs.reverse))
theorem xX:∀{xs:List V} {its:List Value},Vals xs its->Vals xs.reverse its.reverse
 |[],_,h=>by cases h;exact .nil
 | x::r,_,h=>by
  cases h with
  |cons a t=>rw[reverse_cons,reverse_cons];exact Vals.append (xX t) #[a]
theorem MD{e st:Expr}{te:TE}{ts:TO}{p2 pos:Pos}(he:PE X e te)(hs:PO X (some st) ts):PE X (.Subscript e (.Slice none none (some st) p2) pos) (XZ X.K te ts):=by
 intro pins s σ H Q I h;refine Subscript_ (cg (he pins s σ H _ I h) λv s1 aO=>?_);obtain⟨x,H1,I1,r1,q1⟩:=aO;refine wpAny_Slice ?_;rw[evalPart_none];refine aac ?_;refine aac ?_;refine cg (hs pins s1 σ H1 _ I1 q1) λvk s3 aO=>?_;obtain⟨k,H3,I3,pk,q3⟩:=aO;obtain⟨rfl,a,xs,rfl,hx,q⟩:=q3;cases r1;have I4:Inv X pins σ H3 { s3 with heap:=s3.heap.push { cls:=.type "slice",data:=.fields [.none,.none,vk].toArray } }:=I3.kept (t':=s3.toks) λb ob q=>Z7 _ q;obtain⟨its,r,ht,hz⟩:=I4.list hx;have hlen:=r.length;show wpAny (model X.prog X.w) X.A (subscriptTail e (.Slice none none (some st) p2) (.ref a) (.ref s3.heap.objs.size)) (EP X pins σ Q) X.xe { s3 with heap:=s3.heap.push { cls:=.type "slice",data:=.fields [.none,.none,vk].toArray } };refine tail_any (ops:=[.ref a,.ref s3.heap.objs.size]) ht.isList.typeIs slot_list_getitem.lookup ?_ (by with_unfolding_all rfl);refine wpAny_getItem_list_slice ht.isList (Heap.IsSliceOf.new ..) .none .none pk (by decide) ?_ (by rw[aak]<;>omega);rw[PySem.W.krv_pick];refine⟨.ref _,_,I4.laid (t':=s3.toks) (o:=.lst xs.reverse) (λb ob q=>Z7 _ q) (aae _) ?_,rfl,q _ (I4.hok.fresh (aae _))⟩;exact⟨by rw[List.length_reverse];exact hz,_,0,xX r,aao _ rfl⟩
theorem CH(hh:X.A.handled=none)(hst:starEach [o] X.env=[(false,eval o X.env)])(hg:Gl X "list")(hm:X.mg "list" = none)(hv:bootBuiltins "list" = some (.type "list"))(ho:PE X o to):PE X (.Call (.Name "list" p) [o] [] pos) (tLK to):=by
 intro pins s σ H Q I h;refine aaR (gg I hg hm hv ?_ (by decide) (by decide));refine aaS ?_ hst rfl;rw[hst];show wpAny _ _ (spliced [(false,eval o X.env)]) _ _ s;refine Calls.spliced_cons ?_;refine cg (ho pins s σ H _ I h) λu s1 aO=>?_;obtain⟨x,H1,I1,r1,a,kvs,ex,ea,q⟩:=aO;subst ex;cases r1;obtain⟨t1,t2,hd⟩:=rA I1 (.inl ⟨kvs,.inl ea⟩);obtain⟨hz,_,vs,rel,dd⟩:=rj I1.hok ea;refine Calls.spliced_nil ?_;obtain⟨ep,da⟩:=dd.dictAt;have hlen:=rel.length;refine kdl_call (kdl_dict (knd:=aS X.prog X.w) (kvs:=vs) (ep:=ep) (d:=a) hd) hh da (by rw[<-hlen];exact hz) λh' tk acc c k2 eD hacc=>?_;have hn:H1 s1.heap.objs.size=none:=I1.hok.fresh (aae _);refine⟨.ref _,_,I1.laid (t':=tk) (λb o z=>k2 b o z) (aae _) (show bJ X.prog X.w _ _ _ (.lst (kvs.map λkv=>kV kv.1)) from⟨?_,acc.toList,c,?_,?_⟩),rfl,q _ hn⟩
 ·rw[Z9];exact hz
 ·exact iU (P:=X.prog) (w:=X.w) rel (by rw[aaG];exact hacc.1) λj v e=>hacc.2 j v (by rw[<-getElem?_toList];exact e)
 ·first|(rw[Array.toArray_toList];exact eD)|simpa using eD
theorem uJ(hh:X.A.handled=none)(hst:starEach [o] X.env=[(false,eval o X.env)])(hg:Gl X "sorted")(hm:X.mg "sorted" = none)(hv:bootBuiltins "sorted" = some (.builtin "sorted"))(ho:PE X o to):PE X (.Call (.Name "sorted" p) [o] [] pos) (tSK to):=by
 intro pins s σ H Q I h;refine aaR (gg I hg hm hv ?_ (by decide) (by decide));refine PyProof.Rows.callWith_builtin1 ?_ hst rfl;rw[hst];show wpAny _ _ (spliced [(false,eval o X.env)]) _ _ s;refine Calls.spliced_cons ?_;refine cg (ho pins s σ H _ I h) λu s1 aO=>?_;obtain⟨x,H1,I1,r1,a,kvs,ns,ex,ea,ens,h64,q⟩:=aO;subst ex;cases r1;obtain⟨t1,t2,hd⟩:=rA I1 (.inl ⟨kvs,.inl ea⟩);obtain⟨hz,_,vs,rel,dd⟩:=rj I1.hok ea;refine Calls.spliced_nil ?_;obtain⟨ep,da⟩:=dd.dictAt;have hlen:=rel.length;refine mX.eW (O:=mX.mj) (kdu_collect (A:=X.A.in1) (kdl_dict (knd:=aS X.prog X.w) (kvs:=vs) (ep:=ep) (d:=a) hd) (by simp[hh]) da (by rw[<-hlen];exact hz) λh' tk acc k1 hacc=>?_);have hV:Vals (kvs.map λkv=>kV kv.1) acc.toList:=iU (P:=X.prog) (w:=X.w) rel (by rw[aaG];exact hacc.1) λj v e=>hacc.2 j v (by rw[<-getElem?_toList];exact e);have hk:(kvs.map λkv=>kV kv.1)=ns.map V.int:=by have:=congrArg (List.map kV) ens;rw[aaP,aaP]at this;exact this
 rw[hk]at hV;have hI:=intsAre_of hV;have lv:=hI.length;have hN:∀b o,s1.heap.get? b=some o->b≠h'.objs.size:=λb o e z=>by
  have q:=aal (k1 b o e);rw[z]at q;exact aaX _ q
 refine⟨by rw[lv];exact h64,λi=>ns.getD i 0,λh2 h6 _=>mX.mq hI h2,λpp h'' outs k' he=>?_⟩;obtain⟨e,he⟩:=he;have mem:∀i∈pp,i<ns.length:=λi hi=>by have:=outs.perm.mem_iff.mp hi;rw[lv]at this;simpa using this
 have pn:(pp.map λi=>ns.getD i 0).Perm ns:=by have:=outs.perm.map λi=>ns.getD i 0;rw[lv,mX.cN]at this;exact this
 have up:(pp.map λi=>ns.getD i 0).Pairwise (· <= ·):=by refine List.Pairwise.imp (R:=mX.mj.kle) (λ{x y:Int} hxy=>?_) outs.up;have hxy:(decide (y<x):Bool)=false:=hxy;exact not_lt.mp (of_decide_eq_false hxy)
 have es:=eq_sortI pn up;have hout:=oM hI pp mem;rw[es]at hout;dsimp only at k' he |-;have hl:s1.heap.get? h'.objs.size=none:=by
  cases e:s1.heap.get? h'.objs.size with
  |none=>rfl
  |some o=>exact absurd rfl (hN _ o e)
 have hn:H1 h'.objs.size=none:=(lY.kept I1.hok k1).fresh (aae _);refine⟨.ref h'.objs.size,_,Q4 I1 (t':=tk) (λb o z=>k' b o (k1 b o z)) hl hn (show bJ X.prog X.w _ _ _ (.lst ((sortI ns).map V.int)) from⟨?_,_,e,gB hout,he⟩),rfl,q _ hn⟩;rw[Z9,(aaO _).length_eq,sizeLine_eq];omega
end
section
variable {X:Cx}
theorem Inv.freeze(I:Inv X pins σ H s)(e:H a=some (.dK kvs))(ho:s.heap.get? a=some o):Inv X pins σ (upd H a (.j3 o (.dK kvs))) s :=
 I.write (x:=a) (e:=a) (o:=.j3 o (.dK kvs)) (h':=s.heap) (t':=s.toks) (by rw[e];trivial) (.inl rfl) (λb u _ q=>q) ⟨o,ho⟩ ⟨ho,I.hok a _ e⟩
theorem Inv.Q5{pins Q6:List (Addr×Obj)}{σ σ0:St}{H H0:Hp}{s s0:Shared}{kvs k0:List (Key×V)}(I0:Inv X Q6 σ0 H0 s0)(e0:H0 a=some (.dK k0))(I:Inv X pins σ H s)(e:H a=some (.j3 o (.dK kvs))):Inv X pins σ (upd H a (.dK kvs)) s:=by
 have nf:∀b,H b=none->b≠a:=λb z y=>by rw[y,e]at z;cases z
 refine⟨I.ok,I.os,I.bare,⟨I.base.keep,I.base.slot,λb ob q n hx=>?_,I.base.there,λb xs q=>?_,λb ob u q=>?_,λb ps q=>?_⟩,I.loc,I.cell,?_,λx c q=>?_,λp hp=>?_,λb u q=>?_,I.len⟩
 ·have z:=I.base.free b ob q n hx;rw[aq (nf b z)];exact z
 ·have z:=I.base.tups b xs q;rw[aq (λy=>by rw[y,e]at z;cases z)];exact z
 ·have z:=I.base.frzs b ob u q;have z0:=I0.base.frzs b ob u q;rw[aq (λy=>by rw[y,e0]at z0;cases z0)];exact z
 ·obtain⟨more,z⟩:=I.base.tW b ps q;exact⟨more,by rw[aq (λy=>by rw[y,e]at z;cases z)];exact z⟩
 ·rw[aq (nf _ I.free)];exact I.free
 ·rw[aq (nf _ (I.iu x c q))];exact I.iu x c q
 ·obtain⟨q1,q2,q3⟩:=I.pin p hp;exact⟨q1,by rw[aq (nf _ q2)];exact q2,q3⟩
 ·by_cases hb:b=a
  ·subst hb;rw[aR]at q;cases q;obtain⟨_,z⟩:=(show bJ X.prog X.w H s.heap b (.j3 o (.dK kvs)) from I.hok b _ e);exact z
  ·rw[aq hb]at q;exact(I.hok b u q).stay (λc v _ z=>z) (λc z=>by rw[aq (λy=>by rw[y,e]at z;cases z)];exact z) λc xs z=>by rw[aq (λy=>by rw[y,e]at z;cases z)];exact z
def Em(t:TE):TE:=λσ H Q=>∃a kvs,H a=some (.dK kvs)/\t σ H λv H'=>∃o,H' a=some (.j3 o (.dK kvs))/\Q v (upd H' a (.dK kvs))
theorem Je(h:PE X e t):PE X e (Em t):=by
 intro pins s σ H Q I hh;obtain⟨a,kvs,ea,ht⟩:=hh;exact cg (h pins s σ H _ I ht) λv s1 ⟨x,H1,I1,r1,o,e1,q⟩=>⟨x,_,Inv.Q5 I ea I1 e1,r1,q⟩
def Q7(t:TS):TS:=λD σ H=>∃a kvs,H a=some (.dK kvs)/\t { D with nx:=λσ' H'=>∃o,H' a=some (.j3 o (.dK kvs))/\D.nx σ' (upd H' a (.dK kvs)) } σ H
theorem Jf{st:Stmt}{t:TS}(h:PS X st t):PS X st (Q7 t):=by
 intro pins s σ H D I hh;obtain⟨a,kvs,ea,ht⟩:=hh;refine cg (h pins s σ H _ I ht) λf s1 q=>?_;cases f with
 |next=>obtain⟨σ1,H1,I1,o,e1,q⟩:=q;exact⟨σ1,_,Inv.Q5 I ea I1 e1,q⟩
 |brk=>exact q
 |cont=>exact q
 |ret u=>exact q
def Wj(a:Addr)(o:Obj)(kvs:List (Key×V)):It :=
 ⟨λi H=>H a=some (.j3 o (.dK kvs))/\i<kvs.length,λi H x H'=>H'=H/\∃kv,kvs[i]?=some kv/\x=kV kv.1,λi H=>H a=some (.j3 o (.dK kvs))/\kvs.length<=i⟩
theorem En:∀{kvs:List (Key×V)} {vs:List (Key×Value)} {i:Nat} {kv:Key×V},KV kvs vs->kvs[i]?=some kv->∃v,vs[i]?=some (kv.1,v)
 |[],_,_,_,_,e=>by simp at e
 | p::kvs,_,0,kv,r,e=>by
  cases r with
  |@cons _ q _ qs hq t=>simp at e;subst e;exact⟨q.2,by rw[hq.1];rfl⟩
 | p::kvs,_,i+1,kv,r,e=>by
  cases r with
  |@cons _ q _ qs hq t=>obtain⟨v,hv⟩:=En t (by simpa using e);exact⟨v,by simpa using hv⟩
theorem CI{P:Program}{w:World}{K:Frag}{tg:Expr}(a it:Addr){o:Obj}{es:Array DictEntry}{ep:Nat}{kvs:List (Key×V)}{vs:List (Key×Value)}(rel:KV kvs vs)
  (hd:o.ExactDict/\o.data=.dict es ep/\KeysOf (aS P w) es/\Pairs (aS P w) es.toList vs/\(vs.map (·.1)).Nodup) :
  Turn P w K tg (Wj a o kvs) [it] it (λi h=>h.IsKeyIter it a i vs.length ep) where
 mem:=by simp
 obj:=λi h st b hb=>by
  have e:b=it:=by simpa using hb
  subst e;obtain⟨o,e,c,d⟩:=st;exact⟨o,e,λv z=>by rw[d]at z;cases z⟩
 keep:=λi h h' st k=>st.at λo e=>k it (by simp) o e
 item:=by intro X hP hw hK hc i pins s σ H E I hf st hg;subst hP hw hK;obtain⟨ha,hi⟩:=hg;obtain⟨hob,_⟩:=(show bJ X.prog X.w H s.heap a (.j3 o (.dK kvs)) from I.hok a _ ha);have hm:s.heap.DictAt (aS X.prog X.w) a vs ep:=⟨o,es,hob,hd⟩;obtain⟨v,hv⟩:=En rel (aay hi);obtain⟨f0,f1,f2,f3,f4,f5⟩:=hf it (by simp);refine wpAny_pyNext_dict_item st hm hv λkey h' hkey st' sb=>?_;have I1:Inv X pins σ H { s with heap:=h' }:=I.turned (t':=s.toks) (λb o hb e=>(sb.2 b hb).trans e) f0 f1 f3 f4 f5;obtain⟨o',e,c,d⟩:=id st';exact⟨key,rfl,AD (s:={ s with heap:=h' }) e c d (by decide) ⟨kV kvs[i].1,H,I1,Ej hkey,⟨rfl,kvs[i],aay hi,rfl⟩,st',λb hb=>(hf b hb).1⟩⟩
 done:=by intro X hP hw hK hc i pins s σ H E I hf st hg;subst hP hw hK;obtain⟨ha,hi⟩:=hg;obtain⟨hob,_⟩:=(show bJ X.prog X.w H s.heap a (.j3 o (.dK kvs)) from I.hok a _ ha);have hm:s.heap.DictAt (aS X.prog X.w) a vs ep:=⟨o,es,hob,hd⟩;obtain⟨f0,f1,f2,f3,f4,f5⟩:=hf it (by simp);exact wpAny_pyNext_dict_end (I.ok.hd hc) st hm (List.getElem?_eq_none (by rw[<-rel.length];exact hi)) λh' eb=>⟨rfl,I.turned (t':=s.toks) (λb o hb e=>eb b o hb e) f0 f1 f3 f4 f5⟩
 self:=λ_ _ _ _ _ st h=>wpAny_pyIter_keyiter st h
def Eo(tl:TE):TI:=λσ H R=>tl σ H λx H1=>∃a kvs,x=.ref a/\H1 a=some (.dK kvs)/\∀o,R (Wj a o kvs) (upd H1 a (.j3 o (.dK kvs)))
theorem Jg(hl:PE X l tl):PI X tg l (Eo tl):=by
 intro pins s σ H R I h;refine cg (hl pins s σ H _ I h) λv s1 aO=>?_;obtain⟨x,H1,I1,r1,q1⟩:=aO;obtain⟨a,kvs,e,ea,q⟩:=q1;subst e;cases r1;obtain⟨hz,hsm,vs,rel,dd⟩:=rj I1.hok ea;obtain⟨ep,da⟩:=dd.dictAt;obtain⟨o,es,ho,r⟩:=id da;have I2:=I1.freeze ea ho;refine wpAny_pyIter_dict hsm da ?_;refine⟨s1.heap.objs.size,[s1.heap.objs.size],_,_,_,rfl,I2.kept (t':=s1.toks) λb o e=>Z7 _ e,CI a _ rel r,⟨_,aao _ rfl,rfl,rfl⟩,λb hb=>?_,q o⟩;have e:b=s1.heap.objs.size:=by simpa using hb
 subst e;exact I2.DF (aae _) (I2.hok.fresh (aae _))
def X0(K:Frag)(js:List (Option Nat))(d q:Nat):TE:=λσ H Q=>∃a kvs b ys,σ[d]?=some (some (.ref a))/\H a=some (.dK kvs)/\kvs.length<=sizeLine/\(gI js σ)[q]?=some (some (.ref b))/\gF K H b ys/\ys.all lM=true /\
 ∀D,H D=none->Q (.ref D) (upd H D (.lst ((kvs.map λkv=>kV kv.1).filter λk=>!HL k ys)))
theorem Ep{K:Frag}{H:Hp}{a b:Addr}{ys:List V}{u:HO}(q:gF K H b ys)(h:∀v,H a=some v->(∀xs,v≠.lst xs)/\∀o xs,v≠.j3 o (.lst xs)):gF K (upd H a u) b ys:=by
 rcases q with (q|⟨o,q⟩)|q
 ·exact .inl (.inl (by rw[aq (λy=>by subst y;exact(h _ q).1 _ rfl)];exact q))
 ·exact .inl (.inr ⟨o,by rw[aq (λy=>by subst y;exact(h _ q).2 _ _ rfl)];exact q⟩)
 ·exact .inr q
theorem ME{K:Frag}{js:List (Option Nat)}{d p q:Nat}(hpq:p≠q)(hp:p<js.length){σ:St}{H:Hp}{Q:VK}(h:X0 K js d q σ H Q):Em (xK (Eo (tX d)) js (pP p) (DH (Pz (UC K true) (tX p) (tX q))) (tX p)) σ H Q:=by
 obtain⟨a,kvs,b,ys,hd,ha,hz,hb,hs,hf,hQ⟩:=h;refine⟨a,kvs,ha,.ref a,hd,a,kvs,rfl,ha,λo D hD=>?_⟩;have U1:D≠a:=λz=>by rw[z,aR]at hD;cases hD
 have X3:H D=none:=by rw[aq U1]at hD;exact hD
 have hs1:gF K (upd H a (.j3 o (.dK kvs))) b ys:=Ep hs λv hv=>by rw[ha]at hv;cases hv;exact⟨λ_ z=>(nomatch z),λ_ _ z=>(nomatch z)⟩
 let L:Nat->List V:=λi=>((kvs.take i).map λkv=>kV kv.1).filter λk=>!HL k ys
 have hlL:∀i,(L i).length<=i:=λi=>by
  refine aaD (length_filter_le _ _) ?_;rw[Z9,length_take];omega
 refine⟨λi m σ' H'=>i+m=kvs.length/\H'=upd (upd H a (.j3 o (.dK kvs))) D (.lst (L i)) /\ σ'.length=js.length /\ σ'[q]?=some (some (.ref b)),⟨kvs.length,by omega,rfl,iE js σ,hb⟩,?_⟩;rintro i m σ' H' ⟨e1,rfl,e3,e4⟩;have Q8:upd (upd H a (.j3 o (.dK kvs))) D (.lst (L i)) a=some (.j3 o (.dK kvs)):=by rw[aq U1.symm,aR]
 cases m with
 |zero=>
  refine .inl ⟨⟨Q8,by omega⟩,o,Q8,?_⟩;have:upd (upd (upd H a (.j3 o (.dK kvs))) D (.lst (L i))) a (.dK kvs)=upd H D (.lst (L i)):=by
   funext c;unfold upd
   by_cases c1:c=a
   ·rw[aab c1,aad (by rw[c1];exact U1.symm),c1];exact ha.symm
   ·rw[aad c1]
    by_cases c2:c=D
    ·rw[aab c2,aab c2]
    ·rw[aad c2,aad c2,aad c1]
  rw[this];have:=hQ D X3;show Q _ (upd H D (.lst (((kvs.take i).map λkv=>kV kv.1).filter λk=>!HL k ys)));rw[List.take_of_length_le (by omega)];exact this
 |succ m=>
  have hi:i<kvs.length:=by omega
  refine .inr ⟨⟨Q8,hi⟩,_,λAL IX w=>⟨m,aaW _,w⟩,λx H2 hy=>?_⟩;obtain⟨rfl,kv,hkv,rfl⟩:=hy;have fx:lM (kV kv.1)=true:=by cases kv.1<;>rfl
  have g1:(σ'.set p (some (kV kv.1)))[p]?=some (some (kV kv.1)):=aah (by omega);have g2:(σ'.set p (some (kV kv.1)))[q]?=some (some (.ref b)):=by rw[Z6 hpq];exact e4
  have hs2:gF K (upd (upd H a (.j3 o (.dK kvs))) D (.lst (L i))) b ys:=Ep hs1 λv hv=>by rw[hD]at hv;cases hv
  have hL:L (i+1)=if (!HL (kV kv.1) ys)=true then L i++[kV kv.1] else L i:=by
   show ((kvs.take (i+1)).map λkv=>kV kv.1).filter _=_;rw[List.take_succ,hkv];simp only[Option.toList,map_append,filter_append,map_cons,map_nil,List.filter_cons,List.filter_nil]
   split<;>simp[L]
  refine⟨kV kv.1,g1,.ref b,g2,b,ys,rfl,.inl hs2,fx,hf,_,rfl,?_⟩;simp only[if_true]
  by_cases hin:(!HL (kV kv.1) ys)=true
  ·rw[aab hin];refine⟨kV kv.1,g1,L i,aR,by have:=hlL i;omega,by omega,?_,by rw[length_set];exact e3,g2⟩;rw[HY,hL,aab hin]
  ·rw[aad hin];exact⟨by omega,by rw[hL,aad hin],by rw[length_set];exact e3,g2⟩
structure MF (K:Frag) (C:Addr) (m:Str) (f:Addr):Prop where
 ga:specialIn K (.ref C) "__getattribute__" = some (some (.builtin "type.__getattribute__"))
 rd:readsIn K C (.type "type")=true
 at_:findCls K (.ref C) (.type "type") m=some (.val (.ref f))
 kp:keepIn K (.ref f)=true
theorem MG{k:Nat}(F:fF X.prog X.w X.K X.mg X.base zu k f fd ps sp)(hr:dD k X.A)(hg:Gl X x)(hm:X.mg x=some (.ref C))(c:MF X.K C m f)(hb:Binds X.K fd ps [])
  (ha:PA X (l::ls) t) (hd:(x==("__debug__":Str))=false)
  (hfew:((backTo cp (starEach (l::ls) X.env)).all (λx=>!x.1)&&(backToKw cp (keywordEach [] X.env)).all (λx=>x.1.isSome)
   && decide ((l::ls).length+([]:List Keyword).length+(if ([]:List Keyword).isEmpty then 0 else 1)<30))=true) (hline:(ap.endLine==cp.line)=true)
  (st:starEach (l::ls) X.env=(false,eval l X.env)::starEach ls X.env) (an:(backTo cp (starEach ls X.env)).any (·.1)=false) :
  PE X (.Call (.Attribute (.Name x np) m ap) (l::ls) [] cp) (λσ H Q=>t σ H λvs H1=>sp vs H1 Q E0):=by
 intro pins s σ H Q I h;refine oN rfl hfew hline (kW I hg hm (λpl=>?_) hd);refine PySem.W.method_cls I.oj c.ga (PySem.W.cls_value I.oj c.rd c.at_ rfl ?_);refine callWith_K (first:=[]) (h₀:=X.base) I.ok.mod.Pu c.kp (cg (ha cp pins _ σ H _ (I.tok _) h) λus s2 ⟨vs,H2,I2,r,q2⟩=>⟨I2.oj,?_⟩) st an;exact qT (us:=us) (vs:=vs) (tR:=[]) (ds:=[]) F hr hb .nil rD I2 r (by rw[aaU];exact q2)
structure Wk (K:Frag) (C:Addr):Prop where
 ha:findIn K (.ref C) "__class__" = some (some (.builtin "object.__class__"))
 hn:specialIn K (.builtin "object.__class__") "__get__" = some (some (.builtin "getset_descriptor.__get__"))
 htk:PySem.W.takesIn K (.builtin "object.__class__")=some true
 hm:PySem.W.mroIn K C (.type "object")=some true
end
end L2
end
section
namespace L2
open PySem PySem.Spec PyProof.Rows
section
variable {X:Cx}
def Wl(k:Int):Value->Bool
 |.int a _=>a==k
 |_=>false
def Jh:V->List V->Hp->VK->Prop:=λx vs H Q=>∃(l:Addr) (ks:List Int) (i:Int),x=.ref l/\vs=[.int i]/\H l=some (.lst (ks.map V.int))/\i∈ks/\Q .non (upd H l (.lst ((ks.map V.int).eraseIdx (ks.idxOf i))))
theorem CJ:QK X "list.remove" Jh:=by
 intro pins s σ H x vs v us Q I rx rv h;obtain⟨l,ks,i,rfl,rfl,hH,hi,q⟩:=h;cases rx;obtain⟨u,rfl,ru⟩:=rv.one;obtain⟨t,rfl⟩:=ru;obtain⟨z,its,n,r,hl,e⟩:=I.Co hH;have hk:ks.length=its.length:=by rw[<-hl,Z9]
 have at':∀m (hm:m<ks.length),∃t,its[m]?=some (.int ks[m] t):=λm hm=>by
  obtain⟨w,hw,t,rfl⟩:=r.get (i:=m) (x:=V.int ks[m]) (by rw[aaB,aay hm];rfl);exact⟨t,hw⟩
 have hj:ks.idxOf i<ks.length:=List.idxOf_lt_length_of_mem hi;have sz:its.toArray.size=ks.length:=by rw[aak,hk]
 have val:∀m (hm:m<its.toArray.size),Wl i its.toArray[m]=(ks[m]'(sz▸hm)==i):=λm hm=>by
  obtain⟨t,q⟩:=at' m (sz▸hm);have q2:its.toArray[m]=.int (ks[m]'(sz▸hm)) t:=by have:=Array.getElem?_eq_getElem hm;rw[List.getElem?_toArray,q]at this;exact(aav this).symm
  rw[q2];rfl
 refine call_meets F.slot_list_remove ⟨_,e,rfl⟩ F.entry_list_remove (F.args_list_remove_2 _ _)
  (MeetsSeq.list_remove l its.toArray n (.int i t) (Wl i) (λy hy=>?_) (ks.idxOf i) (by rw[sz];exact hj) ?_ ?_ (by rw[aak];omega)) ⟨e,?_⟩
 ·obtain⟨m,hm,rfl⟩:=List.mem_iff_getElem.mp (List.mem_toArray.mp hy);obtain⟨t',q⟩:=at' m (by omega);rw[aay hm]at q;rw[aav q];exact MeetsSeq.EqGives.int _ _ _ _
 ·rw[val];exact beq_iff_eq.mpr (List.getElem_idxOf hj)
 ·intro m hm h2
  rw[val];exact aaJ.mpr λe=>by
   have:=List.not_of_lt_findIdx (p:=(· == i)) (xs:=ks) (i:=m) h2;exact nomatch this.symm.trans (beq_iff_eq.mpr e)
 refine⟨.non,_,I.DR (its':=its.eraseIdx (ks.idxOf i)) hH e ?_ (r.eraseIdx _) ?_,rfl,q⟩
 ·show its.toArray.eraseIdxIfInBounds _=(its.eraseIdx _).toArray;rw[List.eraseIdxIfInBounds_toArray]
 ·have:=oB (ks.map V.int) (ks.idxOf i);omega
end
end L2
end
section
namespace Hv
open PySem L2 PyProof.Rows
inductive Val
 |non|bl (b:Bool)|int (i:Int)|str (x:Str)|tup (vs:List Val)|rl (vs:List Val)|dc (ks:List Key) (vs:List Val)|ob (c:Nat) (xs:List Str) (vs:List Val)|ref (i:Nat)
inductive Ob
 |lst (xs:List Val)|dct (kvs:List (Key×Val))|ins (c:Nat) (fs:List (Str×Val))
abbrev Hs:=List Ob
inductive Out (α:Type)
 |ok (a:α) (h:Hs)|exc (c:Nat) (vs:List Val) (h:Hs)|no
abbrev M(α:Type):=Hs->Out α
def ret{α:Type}(a:α):M α:=λh=>.ok a h
def bnd{α β:Type}(m:M α)(f:α -> M β):M β:=λh=>match m h with
 |.ok a h'=>f a h'
 |.exc c vs h'=>.exc c vs h'
 |.no=>.no
def bI{α:Type}(o:Option α):M α:=λh=>match o with
 |some a=>.ok a h
 |none=>.no
def ask{α:Type}(f:Hs->Option α):M α:=λh=>bI (f h) h
def new(o:Ob):M Val:=λh=>.ok (.ref h.length) (h++[o])
def put(i:Nat)(o:Ob):M Unit:=λh=>.ok () (h.set i o)
def cO{α β:Type}(f:α -> Option β):List α -> Option (List β)
 |[]=>some []
 |a::r=>(f a).bind λb=>(cO f r).bind λbs=>some (b::bs)
inductive K3|add|sub|mul|fdiv|mod|pow
 deriving DecidableEq
inductive MH|eq|ne|lt|le|gt|ge|isn|ntn|wX|nin
 deriving DecidableEq
inductive Bl|len|min|max|sorted|list|tuple|str|int|all|any|isin (T:String)
 deriving DecidableEq
inductive Me|join|append|extend|remove|pop
 deriving DecidableEq
inductive AS|one (i:Nat)|tup (is:List Nat)
 deriving DecidableEq
inductive Ik|seq|range|enum|zip
 deriving DecidableEq
mutual
inductive IE
 |var (i:Nat)|cst (d:Val)|con (x:Str) (d:Val)|no
 |bin (o:K3) (a b:IE)|neg (a:IE)|cmp (o:MH) (a b:IE)|chn (o p:MH) (a b c:IE)
 |and (a b:IE)|or (a b:IE)|not (a:IE)|ite (c a b:IE)
 |tup (es:ng)|lst (es:ng)|idx (a b:IE)|slc (a lo hi:IE)
 |call (j:Nat) (es:ng)|blt (b:Bl) (es:ng)|met (m:Me) (a:IE) (es:ng)
 |comp (N:List Str) (js:List (Option Nat)) (pat:AS) (k:Ik) (it:ng) (c elt:IE)
 |dct0
 |sset (a:IE)
 |dget (d k x:IE)
 |dct1 (k v:IE)
 |lkeys (d:IE)
 |sdef (d k x:IE)
 |svals (d:IE)
 |skeys (d:IE)
 |fld (n:Nat) (a:IE) (x:Str)
 |mth (a:IE) (m:Str) (js:List (Nat×Nat)) (es:ng)
 |rev (a s:IE)
 |dflt (N:List Str) (js:List (Option Nat)) (p q:Nat) (d w:IE)
 |isc (a:IE) (x:Str) (bs:List Bool)
inductive ng|nil|cons (e:IE) (es:ng)
end
abbrev Env:=List (Option Val)
mutual
inductive IS
 |expr (e:IE)|asg (p:AS) (e:IE)|aug (i:Nat) (o:K3) (e:IE)|fD (o i v:IE)
 |iff (c:IE) (a b:dP)|for (p:AS) (k:Ik) (it:ng) (body:dP)|whl (n:Nat) (c:IE) (body:dP)
 |ret (e:IE)|Ji|brk|cnt|pass|never|setF (n:Nat) (a:IE) (x:Str) (v:IE)
inductive dP|nil|cons (s:IS) (r:dP)
end
def aG(h:Hs):Val->Option (List Val)
 |.rl vs=>some vs
 | .ref i=>match h[i]? with
  |some (.lst xs)=>some xs
  |_=>none
 |_=>none
def lP(h:Hs):Val->Option (List Val)
 |.tup vs=>some vs
 |v=>aG h v
def xY(h:Hs):Val->Option (List Val)
 |.tup vs=>some vs
 |.ref i=>aG h (.ref i)
 |_=>none
def cC:List Val->Option (List Int):=cO λv=>match v with
 |.int i=>some i
 |_=>none
def lQ:List Val->Option (List (List Int)):=cO λv=>match v with
 |.tup vs=>if vs.isEmpty then none else cC vs
 |_=>none
def toD:Nat->Hs->Val->Option PyData
 |0,_,_=>none
 |_+1,_,.non=>some .none
 |_+1,_,.bl b=>some (.bool b)
 |_+1,_,.int i=>some (.int i)
 |_+1,_,.str x=>if PyData.strOk x=true then some (.str x) else none
 |n+1,h,.tup vs=>(cO (toD n h) vs).bind λds=>some (.tuple ds)
 |n+1,h,.rl vs=>(cO (toD n h) vs).bind λds=>some (.list ds)
 |_+1,_,.dc _ _=>none
 |_+1,_,.ob _ _ _=>none
 |n+1,h,.ref i=>(aG h (.ref i)).bind λxs=>(cO (toD n h) xs).bind λds=>some (.list ds)
def Er(h:Hs)(v w:Val):Option Bool:=(toD 16 h v).bind λd=>(toD 16 h w).bind λe=>some (PyData.eqv d e)
def vK(x:List Int):List (List Int)->List (List Int)
 |[]=>[x]
 |y::r=>if HT.lexLt y x=true then y::vK x r else x::y::r
def nh:List (List Int)->List (List Int)
 |[]=>[]
 |x::r=>vK x (nh r)
def ni(ks:List Int):Val:=.tup (ks.map .int)
def dQ(xs:List Val):Option (List Val) :=
 if xs.length<64 then
  match cC xs with
  |some ns=>some ((sortI ns).map .int)
  |none=>(lQ xs).bind λqC=>some ((nh qC).map ni)
 else none
def lR(i j:Int):Bool:=(decide (-(2 ^ 64)<i)&&decide (i<2 ^ 64))||(decide (-(2 ^ 64)<j)&&decide (j<2 ^ 64))
def aC{α:Type}(c:Bool)(m:M α):M α:=λh=>if c=true then m h else .no
def mC(b:Int):Bool:=decide (0<b/\b<1606938044258990275541962092341162602522202993782792835301376)
def PC:K3->Val->Val->M Val
 |.add,.int a,.int b=>ret (.int (a+b))
 |.add,.str a,.str b=>aC (decide (a.length+b.length<=sizeLine)) (ret (.str (a++b)))
 |.add,.tup a,.tup b=>aC (!a.isEmpty&&decide (a.length+b.length<=sizeLine)) (ret (.tup (a++b)))
 |.add,v,w=>bnd (ask λh=>aG h v) λa=>bnd (ask λh=>aG h w) λb=>aC (decide (a.length+b.length<=sizeLine)) (new (.lst (a++b)))
 |.sub,.int a,.int b=>ret (.int (a-b))
 |.mul,.int a,.int b=>aC (lR a b) (ret (.int (a*b)))
 |.fdiv,.int a,.int b=>aC (mC b) (ret (.int (a/b)))
 |.mod,.int a,.int b=>aC (decide (0<b)) (ret (.int (a%b)))
 |.pow,.int a,.int b=>aC (decide (0<=b/\b<=1000000/\a.natAbs<2 ^ 64)) (ret (.int (a ^ b.toNat)))
 |_,_,_=>bI none
def nj:Val->Bool
 |.non=>true
 |_=>false
def bV(kvs:List (Key×Val))(k:Key):Option Val:=(kvs.find? λkv=>decide (kv.1=k)).map (·.2)
def ie(kvs:List (Key×Val))(k:Key)(v:Val):List (Key×Val) :=
 if (kvs.any λkv=>decide (kv.1=k))=true then kvs.map (λkv=>if kv.1=k then (kv.1,v) else kv) else kvs++[(k,v)]
def keyOf:Val->Option Key
 |.int i=>some (.inl i)
 |.str x=>some (.inr x)
 |_=>none
def MI(f d:PyData):Option Bool:=match f with
 |.list ds=>some (ds.any λy=>PyData.eqv y d)
 |.tuple ds=>some (ds.any λy=>PyData.eqv y d)
 |_=>none
def memD(h:Hs)(v w:Val):Option Bool:=(toD 16 h w).bind λf=>(toD 16 h v).bind λd=>MI f d
def Jj(h:Hs)(v:Val)(i:Nat):Ob->Option Bool
 |.dct kvs=>(keyOf v).bind λk=>some (bV kvs k).isSome
 |_=>memD h v (.ref i)
def vL(h:Hs):Val->Val->Option Bool
 |.str a,.str b=>some (!(Builtin.Str.occurrences b a 0 b.length 1).isEmpty)
 |v,.ref i=>(h[i]?).bind (Jj h v i)
 |v,.dc ks _=>(keyOf v).bind λk=>some (ks.any λj=>decide (j=k))
 |v,w=>memD h v w
def K4(v w:Val):Option Bool:=match w with
 |.non=>some (nj v)
 | .bl b=>(match v with
  |.bl a=>some (a==b)
  |_=>none)
 |_=>none
def cop(h:Hs):MH->Val->Val->Option Bool
 |.eq,v,w=>Er h v w
 |.ne,v,w=>(Er h v w).map (!·)
 |.lt,.int a,.int b=>some (decide (a<b))
 |.le,.int a,.int b=>some (decide (a<=b))
 |.gt,.int a,.int b=>some (decide (b<a))
 |.ge,.int a,.int b=>some (decide (b<=a))
 |.isn,v,w=>K4 v w
 |.ntn,v,w=>(K4 v w).map (!·)
 |.wX,v,w=>vL h v w
 |.nin,v,w=>(vL h v w).map (!·)
 |_,_,_=>none
def bW(h:Hs):Val->Option Bool
 |.non=>some false
 |.bl b=>some b
 |.int i=>some (i != 0)
 |.str x=>if x.length<=sizeLine then some ((x.length:Int) != 0) else none
 |.tup vs=>some (!vs.isEmpty)
 |.rl vs=>some (!vs.isEmpty)
 |.dc ks _=>some (!ks.isEmpty)
 |.ob _ _ _=>none
 | .ref i=>match h[i]? with
  |some (.lst xs)=>some (!xs.isEmpty)
  |some (.dct xs)=>some (!xs.isEmpty)
  |_=>none
def mD(h:Hs):Val->Val->Option Val
 |.str x,.int i=>if x.length<=sizeLine then (kg x.cps.toList i).map λc=>.str ⟨[c].toArray⟩ else none
 |.tup vs,.int i=>kg vs i
 |.rl vs,.int i=>kg vs i
 | .ref j,.int i=>match h[j]? with
  |some (.dct kvs)=>bV kvs (.inl i)
  |_=>(aG h (.ref j)).bind λxs=>kg xs i
 | .ref j,.str x=>match h[j]? with
  |some (.dct kvs)=>bV kvs (.inr x)
  |_=>none
 |.dc ks vs,.int i=>bV (ks.zip vs) (.inl i)
 |.dc ks vs,.str x=>bV (ks.zip vs) (.inr x)
 |_,_=>none
def Jk(h:Hs)(o:Val):Option Unit:=match o with
 | .ref i=>(match h[i]? with
  |some (.dct _)=>some ()
  |_=>none)
 |.dc _ _=>some ()
 |_=>none
def Es(h:Hs)(o:Val)(k:Key):Option (Option Val):=match o with
 | .ref i=>(match h[i]? with
  |some (.dct kvs)=>some (bV kvs k)
  |_=>none)
 |.dc ks vs=>some (bV (ks.zip vs) k)
 |_=>none
def pV(h:Hs)(o:Val):Option (List Key):=match o with
 | .ref i=>(match h[i]? with
  |some (.dct kvs)=>some (kvs.map (·.1))
  |_=>none)
 |.dc ks _=>some ks
 |_=>none
def Et:Key->Val
 |.inl i=>.int i
 |.inr x=>.str x
def rP:List Key->Option (List Int):=cO λk=>match k with
 |.inl i=>some i
 |.inr _=>none
def mE(h:Hs)(o:Val):Option (List Int):=(pV h o).bind λks=>(rP ks).bind λns=>if ns.length<64 then some (sortI ns) else none
def AU(h:Hs)(ks:List Key)(w:Val):Option (List Int):=(rP ks).bind λns=>(aG h w).bind λxs=>(cC xs).bind λms=>if ns.length<=100000 then some (ns.filter λn=>!(ms.any λm=>m==n)) else none
def cz{α:Type}(ds:List α)(lo hi:Option Int):List α:=(ds.drop (HT.eE ds.length 0 lo)).take (HT.eE ds.length ds.length hi-HT.eE ds.length 0 lo)
def t9(v:Val)(lo hi:Option Int):M Val:=match v with
 |.tup vs=>aC (!(decide (HT.eE vs.length 0 lo=0)&&decide (HT.eE vs.length vs.length hi=vs.length))) (ret (.tup (cz vs lo hi)))
 |v=>bnd (ask λh=>aG h v) λxs=>new (.lst (cz xs lo hi))
def CK(h:Hs):Val->Option String
 |.non=>some "NoneType" | .bl _=>some "bool" | .int _=>some "int" | .str _=>some "str" | .tup _=>some "tuple" | .rl _=>some "list" | .dc _ _=>some "dict" | .ob _ _ _=>none
 | .ref i=>match h[i]? with
  |some (.lst _)=>some "list"
  |some (.dct _)=>some "dict"
  |_=>none
def Eu(T:String)(t:String):Option Bool :=
 if ["list","tuple","str","bool","int","dict"].contains T=true then some (decide (T=t\/(T = "int" /\ t = "bool"))) else none
def nk(h:Hs):Val->Option Nat
 |.str x=>if x.length<=sizeLine then some x.length else none
 |.tup vs=>some vs.length
 |.rl vs=>some vs.length
 |.dc ks _=>some ks.length
 | .ref i=>match h[i]? with
  |some (.lst xs)=>some xs.length
  |some (.dct xs)=>some xs.length
  |_=>none
 |_=>none
def blt:Bl->List Val->M Val
 |.len,[v]=>bnd (ask λh=>nk h v) λn=>ret (.int n)
 |.min,[.int a,.int b]=>ret (.int (if b<a then b else a))
 |.max,[.int a,.int b]=>ret (.int (if b>a then b else a))
 |.sorted,[v]=>bnd (ask λh=>aG h v) λxs=>bnd (bI (dQ xs)) λys=>new (.lst ys)
 |.list,[v]=>bnd (ask λh=>lP h v) λxs=>new (.lst xs)
 |.int,[.bl b]=>ret (.int (if b=true then 1 else 0))
 |.int,[.int i]=>ret (.int i)
 |.isin T,[v]=>bnd (ask λh=>CK h v) λt=>bnd (bI (Eu T t)) λb=>ret (.bl b)
 |_,_=>bI none
def met:Me->Val->List Val->M Val
 |.append,.ref i,[v]=>bnd (ask λh=>match h[i]? with|some (.lst xs)=>some xs|_=>none) λxs=>aC (decide (xs.length<sizeLine)) (bnd (put i (.lst (xs++[v]))) λ_=>ret .non)
 |.extend,.ref i,[v]=>bnd (ask λh=>match h[i]? with|some (.lst xs)=>some xs|_=>none) λxs=>bnd (ask λh=>xY h v) λys=>aC (decide (xs.length+ys.length<=sizeLine)) (bnd (put i (.lst (xs++ys))) λ_=>ret .non)
 |.remove,.ref i,[.int k]=>bnd (ask λh=>match h[i]? with|some (.lst xs)=>some xs|_=>none) λxs=>bnd (bI (cC xs)) λks=>aC (decide (k∈ks)) (bnd (put i (.lst (xs.eraseIdx (ks.idxOf k)))) λ_=>ret .non)
 |.pop,.ref i,[.int k]=>bnd (ask λh=>match h[i]? with|some (.lst xs)=>some xs|_=>none) λxs=>aC (decide (k=0)) (bnd (bI xs[0]?) λv=>bnd (put i (.lst (xs.eraseIdx 0))) λ_=>ret v)
 |_,_,_=>bI none
def recv(h:Hs):Me->Val->Option Unit
 |.join,.str _=>some ()
 |.append,.ref i=>match h[i]? with|some (.lst _)=>some ()|_=>none
 |.extend,.ref i=>match h[i]? with|some (.lst _)=>some ()|_=>none
 |.remove,.ref i=>match h[i]? with|some (.lst _)=>some ()|_=>none
 |.pop,.ref i=>match h[i]? with|some (.lst _)=>some ()|_=>none
 |_,_=>none
inductive Src
 |fix (xs:List Val)|live (i:Nat)|enum (i:Nat)|zip (v w:Val)
def cL:Nat->List Val->List Val
 |_,[]=>[]
 |i,d::r=>.tup [.int i,d]::cL (i+1) r
def Q9:List Val->List Val->List Val
 |a::r,b::t=>.tup [a,b]::Q9 r t
 |_,_=>[]
def cj(lo:Int)(n:Nat):List Val:=(List.range n).map λ(i:Nat)=>Val.int (lo+(i:Int))
def inR(i:Int):Bool:=decide (-(2 ^ 62)<=i)&&decide (i<2 ^ 62)
def srcOf:Ik->List Val->Option Src
 |.seq,[.tup vs]=>some (.fix vs)
 |.seq,[.rl vs]=>some (.fix vs)
 |.seq,[.ref i]=>some (.live i)
 |.range,[.int n]=>if inR n then some (.fix (cj 0 n.toNat)) else none
 |.range,[.int a,.int b]=>if inR a&&inR b then some (.fix (cj a (b-a).toNat)) else none
 |.enum,[.rl vs]=>some (.fix (cL 0 vs))
 |.enum,[.ref i]=>some (.enum i)
 |.zip,[v,w]=>some (.zip v w)
 |_,_=>none
def Src.items(h:Hs):Src->Option (List Val)
 |.fix xs=>some xs
 |.live i=>aG h (.ref i)
 |.enum i=>(aG h (.ref i)).map (cL 0)
 |.zip v w=>(aG h v).bind λxs=>(aG h w).map λys=>Q9 xs ys
def bindAll:List Nat->List Val->Env->Option Env
 |[],[],env=>some env
 |i::is,d::ds,env=>bindAll is ds (env.set i (some d))
 |_,_,_=>none
def fX:AS->Val->Env->Option Env
 |.one i,d,env=>some (env.set i (some d))
 |.tup is,.tup ds,env=>bindAll is ds env
 |_,_,_=>none
def ki(js:List (Option Nat))(env:Env):Env:=js.map λo=>match o with
 |none=>none
 | some j=>match env[j]? with
  |some (some d)=>some d
  |_=>none
def fY(src:Src)(f:Val->M (Option Val)):Nat->Nat->List Val->M (List Val)
 |0,i,acc=>bnd (ask λh=>src.items h) λxs=>aC (decide (xs.length<=i)) (ret acc)
 | n+1,i,acc=>bnd (ask λh=>src.items h) λxs=>match xs[i]? with
  |none=>ret acc
  |some x=>bnd (f x) λo=>fY src f n (i+1) (match o with|some e=>acc++[e]|none=>acc)
def cM:IE->Bool
 |.no=>true
 |_=>false
def jO:Val->Option Int
 |.int i=>some i
 |_=>none
def rQ:Val->M Bool
 |.bl b=>ret b
 |_=>bI none
def iG(n:Nat)(h:Hs)(o:Val)(x:Str):Option Val:=match o with
 | .ref i=>(match h[i]? with
  |some (.ins c fs)=>if c<n then fs.lookup x else none
  |_=>none)
 |.ob c xs vs=>if c<n then (xs.zip vs).lookup x else none
 |_=>none
def lE(h:Hs)(o:Val)(m:Str)(js:List (Nat×Nat)):Option Nat:=match o with
 | .ref i=>(match h[i]? with
  |some (.ins c fs)=>if (fs.lookup m).isNone=true then js.lookup c else none
  |_=>none)
 |.ob c xs vs=>if ((xs.zip vs).lookup m).isNone=true then js.lookup c else none
 |_=>none
def rR(f:Str)(v:Val):List (Str×Val)->List (Str×Val)
 |[]=>[(f,v)]
 |(g,x)::r=>if g=f then (g,v)::r else (g,x)::rR f v r
def AV(n:Nat)(o:Val)(x:Str)(v:Val):M Unit:=match o with
 |.ref i=>bnd (ask λh=>match h[i]? with|some (.ins c fs)=>if c<n then some (c,fs) else none|_=>none) λp=>aC (decide (p.2.length<1000)) (put i (.ins p.1 (rR x v p.2)))
 |_=>bI none
def Dm(c:Nat)(φ:List Val->M Val)(vs:List Val):M Val:=bnd (new (.ins c [])) λo=>bnd (φ (o::vs)) λr=>match r with
 |.non=>ret o
 |_=>bI none
mutual
noncomputable def az(Φ:Nat->List Val->M Val):IE->Env->M Val
 | .var i,env=>bI (match env[i]? with
  |some (some d)=>some d
  |_=>none)
 |.cst d,_=>ret d
 |.con _ d,_=>ret d
 |.no,_=>bI none
 |.bin o a b,env=>bnd (az Φ a env) λx=>bnd (az Φ b env) λy=>PC o x y
 | .neg a,env=>bnd (az Φ a env) λx=>match x with
  |.int i=>ret (.int (-i))
  |_=>bI none
 |.cmp o a b,env=>bnd (az Φ a env) λx=>bnd (az Φ b env) λy=>bnd (ask λh=>cop h o x y) λt=>ret (.bl t)
 |.chn _ _ _ _ _,_=>bI none
 |.and a b,env=>bnd (az Φ a env) λx=>bnd (rQ x) λt=>if t=true then bnd (az Φ b env) λy=>bnd (rQ y) λu=>ret (.bl u) else ret (.bl false)
 |.or a b,env=>bnd (az Φ a env) λx=>bnd (rQ x) λt=>if t=true then ret (.bl true) else bnd (az Φ b env) λy=>bnd (rQ y) λu=>ret (.bl u)
 |.not a,env=>bnd (az Φ a env) λx=>bnd (rQ x) λt=>ret (.bl (!t))
 |.ite _ _ _,_=>bI none
 |.tup es,env=>bnd (aK Φ es env) λds=>aC (decide (ds.length<=sizeLine)) (ret (.tup ds))
 |.lst es,env=>bnd (aK Φ es env) λds=>aC (decide (ds.length<=sizeLine)) (new (.lst ds))
 |.idx a b,env=>bnd (az Φ a env) λx=>bnd (az Φ b env) λy=>ask λh=>mD h x y
 |.slc a lo hi,env=>bnd (az Φ a env) λx=>bnd (if cM lo=true then ret none else bnd (az Φ lo env) λv=>bnd (bI (jO v)) λi=>ret (some i)) λl=>
   bnd (if cM hi=true then ret none else bnd (az Φ hi env) λv=>bnd (bI (jO v)) λi=>ret (some i)) λu=>t9 x l u
 |.call j es,env=>bnd (aK Φ es env) λds=>Φ j ds
 |.blt b es,env=>bnd (aK Φ es env) λds=>blt b ds
 |.met m a es,env=>bnd (az Φ a env) λx=>bnd (ask λh=>recv h m x) λ_=>bnd (aK Φ es env) λds=>met m x ds
 | .comp _ js pat k it c elt,env=>bnd (aK Φ it env) λits=>bnd (bI (srcOf k its)) λsrc=>bnd (ask λh=>src.items h) λxs=>aC (decide (xs.length<=100000))
   (bnd (fY src (λd=>bnd (bI (fX pat d (ki js env))) λenv'=>bnd (if cM c=true then ret true else bnd (az Φ c env') λv=>ask λh=>bW h v) λt=>
    if t=true then bnd (az Φ elt env') λe=>ret (some e) else ret none) xs.length 0 []) λys=>new (.lst ys))
 |.dct0,_=>new (.dct [])
 |.sset a,env=>bnd (az Φ a env) λv=>bnd (ask λh=>aG h v) λxs=>bnd (bI (cC xs)) λns=>aC (decide (ns.length<64)) (new (.lst ((sortI (L2.eG [] ns)).map .int)))
 |.dget d k x,env=>bnd (az Φ d env) λo=>bnd (ask λh=>Jk h o) λ_=>bnd (az Φ k env) λi=>bnd (bI (keyOf i)) λkk=>bnd (az Φ x env) λz=>bnd (ask λh=>Es h o kk) λr=>ret (r.getD z)
 |.dct1 k v,env=>bnd (az Φ k env) λx=>bnd (bI (keyOf x)) λkk=>bnd (az Φ v env) λy=>new (.dct [(kk,y)])
 |.lkeys d,env=>bnd (az Φ d env) λo=>bnd (ask λh=>pV h o) λks=>new (.lst (ks.map Et))
 |.sdef _ _ _,_=>bI none
 |.svals _,_=>bI none
 |.skeys d,env=>bnd (az Φ d env) λo=>bnd (ask λh=>mE h o) λns=>new (.lst (ns.map .int))
 |.fld n a x,env=>bnd (az Φ a env) λo=>ask λh=>iG n h o x
 |.mth a m js es,env=>bnd (az Φ a env) λo=>bnd (ask λh=>lE h o m js) λj=>bnd (aK Φ es env) λds=>Φ j (o::ds)
 |.rev a s,env=>bnd (az Φ a env) λx=>bnd (if cM s=true then ret none else bnd (az Φ s env) λv=>bnd (bI (jO v)) λi=>ret (some i)) λk=>
   aC (decide (k=some (-1))) (bnd (ask λh=>aG h x) λxs=>new (.lst xs.reverse))
 |.dflt _ _ _ _ d w,env=>bnd (az Φ d env) λo=>bnd (ask λh=>pV h o) λks=>bnd (az Φ w env) λv=>bnd (ask λh=>AU h ks v) λns=>new (.lst (ns.map .int))
 |.isc _ _ _,_=>bI none
noncomputable def aK(Φ:Nat->List Val->M Val):ng->Env->M (List Val)
 |.nil,_=>ret []
 |.cons e es,env=>bnd (az Φ e env) λd=>bnd (aK Φ es env) λds=>ret (d::ds)
end
inductive Fl
 |nx (env:Env)|rt (v:Val)|bk (env:Env)|ct (env:Env)
def forM(src:Src)(body:Val->Env->M Fl):Nat->Nat->Env->M Fl
 |0,i,env=>bnd (ask λh=>src.items h) λxs=>aC (decide (xs.length<=i)) (ret (.nx env))
 | n+1,i,env=>bnd (ask λh=>src.items h) λxs=>match xs[i]? with
  |none=>ret (.nx env)
  | some x=>bnd (body x env) λf=>match f with
   |.nx env'=>forM src body n (i+1) env'
   |.ct env'=>forM src body n (i+1) env'
   |.bk env'=>ret (.nx env')
   |.rt v=>ret (.rt v)
def oO(c:Env->M Bool)(body:Env->M Fl):Nat->Env->M Fl
 |0,_=>bI none
 | n+1,env=>bnd (c env) λt=>if t=true then bnd (body env) λf=>(match f with
   |.nx env'=>oO c body n env'
   |.ct env'=>oO c body n env'
   |.bk env'=>ret (.nx env')
   |.rt v=>ret (.rt v)) else ret (.nx env)
def uK(o i v:Val):M Unit:=match o with
 | .ref j=>bnd (ask λh=>h[j]?) λob=>match ob,i with
  |.lst xs,.int k=>bnd (bI (Cn xs.length k)) λn=>put j (.lst (xs.set n v))
  |.dct kvs,i=>bnd (bI (keyOf i)) λk=>aC (decide (kvs.length<sizeLine)) (put j (.dct (ie kvs k v)))
  |_,_=>bI none
 |_=>bI none
mutual
noncomputable def dH(Φ:Nat->List Val->M Val):IS->Env->M Fl
 |.expr e,env=>bnd (az Φ e env) λ_=>ret (.nx env)
 |.asg p e,env=>bnd (az Φ e env) λv=>bnd (bI (fX p v env)) λenv'=>ret (.nx env')
 |.aug _ _ _,_=>bI none
 |.fD o i v,env=>bnd (az Φ v env) λx=>bnd (az Φ o env) λy=>bnd (az Φ i env) λz=>bnd (uK y z x) λ_=>ret (.nx env)
 |.iff c a b,env=>bnd (az Φ c env) λx=>bnd (ask λh=>bW h x) λt=>if t=true then bR Φ a env else bR Φ b env
 |.for p k it body,env=>bnd (aK Φ it env) λits=>bnd (bI (srcOf k its)) λsrc=>bnd (ask λh=>src.items h) λxs=>
   forM src (λx env=>bnd (bI (fX p x env)) λenv'=>bR Φ body env') xs.length 0 env
 |.whl n c body,env=>oO (λenv=>bnd (az Φ c env) λx=>ask λh=>bW h x) (bR Φ body) n env
 |.ret e,env=>bnd (az Φ e env) λv=>ret (.rt v)
 |.Ji,_=>ret (.rt .non)
 |.brk,env=>ret (.bk env)
 |.cnt,env=>ret (.ct env)
 |.pass,env=>ret (.nx env)
 |.never,_=>bI none
 |.setF n a x v,env=>bnd (az Φ v env) λy=>bnd (az Φ a env) λo=>bnd (AV n o x y) λ_=>ret (.nx env)
noncomputable def bR(Φ:Nat->List Val->M Val):dP->Env->M Fl
 |.nil,env=>ret (.nx env)
 | .cons s r,env=>bnd (dH Φ s env) λf=>match f with
  |.nx env'=>bR Φ r env'
  |f=>ret f
end
def fJ(Φ:Nat->List Val->M Val)(n:Nat)(body:dP)(vs:List Val):M Val :=
 bnd (bR Φ body (vs.map some++replicate (n-vs.length) none)) λf=>match f with
  |.nx _=>ret .non
  |.rt v=>ret v
  |_=>bI none
theorem kj{b:Bool}(ho:o=.lt\/o=.le\/o=.gt\/o=.ge)(e:cop h o v w=some b):∃i j,v=.int i/\w=.int j:=by
 cases v with
 |int i=>
  cases w with
  |int j=>exact⟨i,j,rfl,rfl⟩
  |_=>rcases ho with rfl|rfl|rfl|rfl<;>cases e
 |_=>rcases ho with rfl|rfl|rfl|rfl<;>cases e
structure Bd where
 K:Frag
 cl:Nat->Addr
def K5(K:Frag)(H:Hp)(a:Addr)(xs:List V):Prop :=
 (∃o,H a=some (.j3 o (.lst xs)))\/gF K (λ_=>none) a xs
theorem K5.sq{K:Frag}{H:Hp}{a:Addr}{xs:List V}(h:K5 K H a xs):gF K H a xs:=by
 rcases h with ⟨o,h⟩|(h|⟨o,h⟩)|h
 ·exact .inl (.inr ⟨o,h⟩)
 ·cases h
 ·cases h
 ·exact .inr h
mutual
noncomputable def VR(K:Frag)(ρ:List Addr)(H:Hp):Val->V->Prop
 |.non,x=>x=.non
 |.bl b,x=>x=.bl b
 |.int i,x=>x=.int i
 |.str s,x=>x=.str s
 |.tup vs,x=>∃a xs,x=.ref a/\j8 K H a xs/\ay K ρ H vs xs
 |.rl vs,x=>∃a xs,x=.ref a/\K5 K H a xs/\ay K ρ H vs xs
 |.dc _ _,_=>False
 |.ob _ _ _,_=>False
 |.ref i,x=>∃a,x=.ref a /\ ρ[i]?=some a
noncomputable def ay(K:Frag)(ρ:List Addr)(H:Hp):List Val->List V->Prop
 |[],xs=>xs=[]
 |v::vs,xs=>∃x r,xs=x::r/\VR K ρ H v x/\ay K ρ H vs r
end
def gn(K:Frag)(ρ:List Addr)(H:Hp):List (Key×Val)->List (Key×V)->Prop
 |[],xs=>xs=[]
 |(k,v)::vs,xs=>∃x r,xs=(k,x)::r/\VR K ρ H v x/\gn K ρ H vs r
def nq(K:Frag)(ρ:List Addr)(H:Hp):List (Str×Val)->List (Str×V)->Prop
 |[],xs=>xs=[]
 |(k,v)::vs,xs=>∃x r,xs=(k,x)::r/\VR K ρ H v x/\nq K ρ H vs r
def OR(B:Bd)(ρ:List Addr)(H:Hp)(a:Addr):Ob->Prop
 |.lst xs=>∃ys,H a=some (.lst ys)/\ay B.K ρ H xs ys
 |.dct kvs=>∃ks,H a=some (.dK ks)/\gn B.K ρ H kvs ks
 |.ins c fs=>∃dx gs,H a=some (.ins (B.cl c) dx gs)/\nq B.K ρ H fs gs
structure HR (B:Bd) (ρ:List Addr) (h:Hs) (H:Hp):Prop where
 len:ρ.length=h.length
 nd:ρ.Nodup
 ob:∀(i:Nat) (o:Ob) (a:Addr),h[i]?=some o -> ρ[i]?=some a->OR B ρ H a o
def Mu:HO->Bool
 |.lst _=>true|.dK _=>true|.ins ..=>true
 |_=>false
structure Gw (ρ:List Addr) (H:Hp) (ρ':List Addr) (H':Hp):Prop where
 pre:ρ <+: ρ'
 firm:∀a o,H a=some o->Mu o=false->H' a=some o
structure Gr (ρ:List Addr) (H:Hp) (ρ':List Addr) (H':Hp):Prop where
 pre:ρ <+: ρ'
 keep:∀a o,H a=some o->a ∉ ρ -> H' a=some o
 firm:∀a o,H a=some o->Mu o=false->H' a=some o
 fresh:∀a,a ∈ ρ'->a ∉ ρ -> H a=none
section
variable {K:Frag} {B:Bd} {ρ ρ' ρ1 ρ2:List Addr} {H H' H1 H2:Hp} {h h':Hs}
theorem Gr.w(g:Gr ρ H ρ' H'):Gw ρ H ρ' H':=⟨g.pre,g.firm⟩
theorem Gr.refl:Gr ρ H ρ H:=⟨aaC _,λ_ _ e _=>e,λ_ _ e _=>e,λ_ e n=>absurd e n⟩
theorem Gr.trans(g:Gr ρ H ρ1 H1)(k:Gr ρ1 H1 ρ2 H2):Gr ρ H ρ2 H2 where
 pre:=g.pre.trans k.pre
 keep a o e n:=k.keep a o (g.keep a o e n) λz=>by rw[g.fresh a z n]at e;cases e
 firm a o e n:=k.firm a o (g.firm a o e n) n
 fresh a z n:=by
  by_cases hb:a ∈ ρ1
  ·exact g.fresh a hb n
  ·cases e:H a with
   |none=>rfl
   |some o=>have e1:=g.keep a o e n;rw[k.fresh a z hb]at e1;cases e1
theorem qD{i:Nat}(p:ρ <+: ρ')(e:ρ[i]?=some a):ρ'[i]?=some a:=by
 obtain⟨t,rfl⟩:=p;have hi:i < ρ.length:=(Z8.mp e).1;rw[aam hi];exact e
theorem Gw.TH(g:Gw ρ H ρ' H')(e:j8 K H a xs):j8 K H' a xs:=by
 rcases e with (e|⟨o,e⟩)|e
 ·exact .inl (.inl (g.firm _ _ e rfl))
 ·exact .inl (.inr ⟨o,g.firm _ _ e rfl⟩)
 ·exact .inr e
theorem Gw.MJ(g:Gw ρ H ρ' H')(e:K5 K H a xs):K5 K H' a xs:=by
 rcases e with ⟨o,e⟩|e
 ·exact .inl ⟨o,g.firm _ _ e rfl⟩
 ·exact .inr e
mutual
theorem VR.lF(g:Gw ρ H ρ' H'):∀(v:Val) (x:V),VR K ρ H v x->VR K ρ' H' v x
 |.non,x,e=>by rw[VR]at e |-;exact e
 |.bl b,x,e=>by rw[VR]at e |-;exact e
 |.int b,x,e=>by rw[VR]at e |-;exact e
 |.str b,x,e=>by rw[VR]at e |-;exact e
 | .tup vs,x,e=>by
  rw[VR]at e |-;obtain⟨a,xs,rfl,q1,q2⟩:=e;exact⟨a,xs,rfl,g.TH q1,ay.lF g vs xs q2⟩
 | .rl vs,x,e=>by
  rw[VR]at e |-;obtain⟨a,xs,rfl,q1,q2⟩:=e;exact⟨a,xs,rfl,g.MJ q1,ay.lF g vs xs q2⟩
 |.dc _ _,x,e=>by rw[VR]at e;exact e.elim
 |.ob _ _ _,x,e=>by rw[VR]at e;exact e.elim
 | .ref i,x,e=>by
  rw[VR]at e |-;obtain⟨a,rfl,q⟩:=e;exact⟨a,rfl,qD g.pre q⟩
theorem ay.lF(g:Gw ρ H ρ' H'):∀(vs:List Val) (xs:List V),ay K ρ H vs xs->ay K ρ' H' vs xs
 |[],xs,e=>by rw[ay]at e |-;exact e
 | v::vs,xs,e=>by
  rw[ay]at e |-;obtain⟨x,r,rfl,q1,q2⟩:=e;exact⟨x,r,rfl,VR.lF g v x q1,ay.lF g vs r q2⟩
end
theorem gn.lF(g:Gw ρ H ρ' H'):∀(vs:List (Key×Val)) (xs:List (Key×V)),gn K ρ H vs xs->gn K ρ' H' vs xs
 |[],xs,e=>e
 |(k,v)::vs,xs,⟨x,r,e,q1,q2⟩=>⟨x,r,e,VR.lF g v x q1,gn.lF g vs r q2⟩
theorem nq.lF(g:Gw ρ H ρ' H'):∀(vs:List (Str×Val)) (xs:List (Str×V)),nq K ρ H vs xs->nq K ρ' H' vs xs
 |[],xs,e=>e
 |(k,v)::vs,xs,⟨x,r,e,q1,q2⟩=>⟨x,r,e,VR.lF g v x q1,nq.lF g vs r q2⟩
theorem nq.look:∀{vs:List (Str×Val)} {xs:List (Str×V)},nq K ρ H vs xs->(vs.lookup x=none->xs.lookup x=none)/\∀v,vs.lookup x=some v->∃y,xs.lookup x=some y/\VR K ρ H v y
 |[],xs,e=>by rw[nq]at e;subst e;exact⟨λ_=>rfl,λv z=>by cases z⟩
 | (k,v)::vs,xs,e=>by
  rw[nq]at e;obtain⟨y,r,rfl,q1,q2⟩:=e;rw[aaK,aaK];cases hb:x==k with
  |true=>exact⟨λz=>(by cases z),λw z=>by cases z;exact⟨y,rfl,q1⟩⟩
  |false=>exact nq.look q2
theorem nq.length:∀{vs:List (Str×Val)} {xs:List (Str×V)},nq K ρ H vs xs->vs.length=xs.length
 |[],xs,e=>by rw[nq]at e;subst e;rfl
 |(k,v)::vs,xs,e=>by rw[nq]at e;obtain⟨y,r,rfl,_,q⟩:=e;simp[nq.length q]
theorem nq.put(hw:VR K ρ H w y):∀{vs:List (Str×Val)} {xs:List (Str×V)},nq K ρ H vs xs->nq K ρ H (rR x w vs) (jy x y xs)
 |[],xs,e=>by rw[nq]at e;subst e;exact⟨y,[],rfl,hw,rfl⟩
 | (k,v)::vs,xs,e=>by
  rw[nq]at e;obtain⟨z,r,rfl,q1,q2⟩:=e;rw[rR,jy]
  by_cases hk:k=x
  ·rw[aab hk,aab hk];exact⟨y,r,rfl,hw,q2⟩
  ·rw[aad hk,aad hk];exact⟨z,_,rfl,q1,nq.put hw q2⟩
theorem VR.up(g:Gr ρ H ρ' H')(v:Val)(x:V)(e:VR K ρ H v x):VR K ρ' H' v x:=VR.lF g.w v x e
theorem ay.up(g:Gr ρ H ρ' H')(v:List Val)(x:List V)(e:ay K ρ H v x):ay K ρ' H' v x:=ay.lF g.w v x e
theorem gn.up(g:Gr ρ H ρ' H')(v:List (Key×Val))(x:List (Key×V))(e:gn K ρ H v x):gn K ρ' H' v x:=gn.lF g.w v x e
theorem nq.up(g:Gr ρ H ρ' H')(v:List (Str×Val))(x:List (Str×V))(e:nq K ρ H v x):nq K ρ' H' v x:=nq.lF g.w v x e
theorem ay.nil:ay K ρ H [] []:=by rw[ay]
theorem ay.cons{v:Val}{vs:List Val}{x:V}{xs:List V}(a:VR K ρ H v x)(b:ay K ρ H vs xs):ay K ρ H (v::vs) (x::xs):=by rw[ay];exact⟨x,xs,rfl,a,b⟩
theorem ay.length:∀{vs:List Val} {xs:List V},ay K ρ H vs xs->vs.length=xs.length
 |[],xs,e=>by rw[ay]at e;subst e;rfl
 |v::vs,xs,e=>by rw[ay]at e;obtain⟨x,r,rfl,_,q⟩:=e;simp[ay.length q]
theorem ay.get:∀{vs:List Val} {xs:List V} {i:Nat} {v:Val},ay K ρ H vs xs->vs[i]?=some v->∃x,xs[i]?=some x/\VR K ρ H v x
 |[],xs,i,v,e,q=>by simp at q
 | w::vs,xs,0,v,e,q=>by
  rw[ay]at e;obtain⟨x,r,rfl,a,_⟩:=e;simp at q;subst q;exact⟨x,rfl,a⟩
 | w::vs,xs,i+1,v,e,q=>by
  rw[ay]at e;obtain⟨x,r,rfl,_,b⟩:=e;simp at q;obtain⟨y,q1,q2⟩:=ay.get b q;exact⟨y,by simpa using q1,q2⟩
theorem ay.append:∀{vs ws:List Val} {xs ys:List V},ay K ρ H vs xs->ay K ρ H ws ys->ay K ρ H (vs++ws) (xs++ys)
 |[],ws,xs,ys,e,q=>by rw[ay]at e;subst e;exact q
 | w::vs,ws,xs,ys,e,q=>by
  rw[ay]at e;obtain⟨x,r,rfl,a,b⟩:=e;exact ay.cons a (ay.append b q)
theorem ay.take:∀{vs:List Val} {xs:List V} (n:Nat),ay K ρ H vs xs->ay K ρ H (vs.take n) (xs.take n)
 |_,_,0,_=>by simp;exact ay.nil
 |[],xs,n+1,e=>by rw[ay]at e;subst e;simp;exact ay.nil
 | w::vs,xs,n+1,e=>by
  rw[ay]at e;obtain⟨x,r,rfl,a,b⟩:=e;exact ay.cons a (ay.take n b)
theorem ay.drop:∀{vs:List Val} {xs:List V} (n:Nat),ay K ρ H vs xs->ay K ρ H (vs.drop n) (xs.drop n)
 |_,_,0,e=>by simpa using e
 |[],xs,n+1,e=>by rw[ay]at e;subst e;simp;exact ay.nil
 | w::vs,xs,n+1,e=>by
  rw[ay]at e;obtain⟨x,r,rfl,a,b⟩:=e;exact ay.drop n b
theorem ay.cut(lo hi:Option Int)(e:ay K ρ H vs xs):ay K ρ H (cz vs lo hi) (xB xs lo hi):=by
 unfold cz xB;rw[e.length];exact ay.take _ (ay.drop _ e)
theorem ay.app:∀{vs ws:List Val} {xs ys:List V},ay K ρ H vs xs->ay K ρ H ws ys->ay K ρ H (vs++ws) (xs++ys)
 |[],_,xs,_,e,q=>by rw[ay]at e;subst e;exact q
 | v::vs,_,xs,_,e,q=>by
  rw[ay]at e;obtain⟨x,r,rfl,a,b⟩:=e;rw[cons_append,cons_append,ay];exact⟨x,_,rfl,a,ay.app b q⟩
theorem ay.rev:∀{vs:List Val} {xs:List V},ay K ρ H vs xs->ay K ρ H vs.reverse xs.reverse
 |[],xs,e=>by rw[ay]at e;subst e;rw[List.reverse_nil,List.reverse_nil,ay]
 | v::vs,xs,e=>by
  rw[ay]at e;obtain⟨x,r,rfl,a,b⟩:=e;rw[reverse_cons,reverse_cons];refine ay.app (ay.rev b) ?_;rw[ay];exact⟨x,[],rfl,a,by rw[ay]⟩
theorem ay.kg{i:Int}(e:ay K ρ H vs xs)(q:L2.kg vs i=some v):∃x,L2.kg xs i=some x/\VR K ρ H v x:=by
 unfold L2.kg at q |-;rw[e.length]at q;cases hi:L2.Cn xs.length i with
 |none=>rw[hi]at q;cases q
 |some n=>rw[hi]at q;exact ay.get e q
theorem ay.set:∀{vs:List Val} {xs:List V} (n:Nat) {v:Val} {x:V},ay K ρ H vs xs->VR K ρ H v x->ay K ρ H (vs.set n v) (xs.set n x)
 |[],xs,n,v,x,e,q=>by rw[ay]at e;subst e;simp;exact ay.nil
 | w::vs,xs,0,v,x,e,q=>by
  rw[ay]at e;obtain⟨y,r,rfl,a,b⟩:=e;exact ay.cons q b
 | w::vs,xs,n+1,v,x,e,q=>by
  rw[ay]at e;obtain⟨y,r,rfl,a,b⟩:=e;exact ay.cons a (ay.set n b q)
theorem ay.one(e:ay K ρ H [v] xs):∃x,xs=[x]/\VR K ρ H v x:=by
 rw[ay]at e;obtain⟨x,r,rfl,a,b⟩:=e;rw[ay]at b;subst b;exact⟨x,rfl,a⟩
theorem ay.two(e:ay K ρ H [v,w] xs):∃x y,xs=[x,y]/\VR K ρ H v x/\VR K ρ H w y:=by
 rw[ay]at e;obtain⟨x,r,rfl,a,b⟩:=e;obtain⟨y,rfl,c⟩:=ay.one b;exact⟨x,y,rfl,a,c⟩
theorem VR.int{i:Int}:VR K ρ H (.int i) (.int i):=by rw[VR]
theorem VR.str:VR K ρ H (.str i) (.str i):=by rw[VR]
theorem VR.bl{i:Bool}:VR K ρ H (.bl i) (.bl i):=by rw[VR]
theorem VR.non:VR K ρ H .non .non:=by rw[VR]
theorem VR.tup(q:j8 K H a xs)(e:ay K ρ H vs xs):VR K ρ H (.tup vs) (.ref a):=by rw[VR];exact⟨a,xs,rfl,q,e⟩
theorem VR.ref{i:Nat}(q:ρ[i]?=some a):VR K ρ H (.ref i) (.ref a):=by rw[VR];exact⟨a,rfl,q⟩
theorem ay.ints:∀{ns:List Int} {xs:List V},ay K ρ H (ns.map Val.int) xs↔xs=ns.map V.int
 |[],xs=>by simp[ay]
 | n::ns,xs=>by
  simp only[map_cons];rw[ay];constructor
  ·rintro⟨x,r,rfl,a,b⟩;rw[VR]at a;subst a;rw[(ay.ints (ns:=ns)).mp b]
  ·rintro rfl;exact⟨_,_,rfl,VR.int,(ay.ints (ns:=ns)).mpr rfl⟩
theorem ay.tups:∀{qC:List (List Int)} {xs:List V},ay K ρ H (qC.map ni) xs->∃rs:List (Addr×List Int),xs=rs.map (λr=>V.ref r.1)/\qC=rs.map (·.2)/\∀r∈rs,j8 K H r.1 (r.2.map V.int)
 |[],xs,e=>by simp only[map_nil]at e;rw[ay]at e;exact⟨[],e,rfl,λ_ z=>nomatch z⟩
 | ks::qC,xs,e=>by
  simp only[map_cons]at e;rw[ay]at e;obtain⟨x,r,rfl,a,b⟩:=e;obtain⟨rs,e1,e2,e3⟩:=ay.tups b;unfold ni at a;rw[VR]at a;obtain⟨p,ys,rfl,g1,g2⟩:=a;rw[ay.ints.mp g2]at g1;refine⟨(p,ks)::rs,by rw[e1];rfl,by rw[e2];rfl,λr hr=>?_⟩
  rcases aap.mp hr with z|z
  ·rw[z];exact g1
  ·exact e3 r z
theorem ay.AW:∀{rs:List (Addr×List Int)},(∀r∈rs,j8 K H r.1 (r.2.map V.int))->ay K ρ H ((rs.map (·.2)).map ni) (rs.map λr=>V.ref r.1)
 |[],_=>ay.nil
 |r::rs,e=>ay.cons (VR.tup (e r aaa) (ay.ints.mpr rfl)) (ay.AW λq hq=>e q (Z5 _ hq))
theorem OR.mu(q:OR B ρ H a o):∃u,H a=some u/\Mu u=true:=by
 cases o with
 |lst xs=>obtain⟨ys,e,_⟩:=q;exact⟨_,e,rfl⟩
 |dct xs=>obtain⟨ys,e,_⟩:=q;exact⟨_,e,rfl⟩
 |ins c fs=>obtain⟨dx,ys,e,_⟩:=q;exact⟨_,e,rfl⟩
theorem HR.mu(r:HR B ρ h H)(e:a ∈ ρ):∃u,H a=some u/\Mu u=true:=by
 obtain⟨i,hi,rfl⟩:=getElem_of_mem e;have hi':i<h.length:=by rw[<-r.len];exact hi
 exact(r.ob i _ _ (aay hi') (aay hi)).mu
theorem HR.out(r:HR B ρ h H)(e:H p=none):p ∉ ρ:=λz=>by
 obtain⟨u,q,_⟩:=r.mu z;rw[e]at q;cases q
theorem OR.lF(g:Gw ρ H ρ' H')(e:H' a=H a)(q:OR B ρ H a o):OR B ρ' H' a o:=by
 cases o with
 |lst xs=>obtain⟨ys,e1,e2⟩:=q;exact⟨ys,e.trans e1,ay.lF g _ _ e2⟩
 |dct xs=>obtain⟨ys,e1,e2⟩:=q;exact⟨ys,e.trans e1,gn.lF g _ _ e2⟩
 |ins c fs=>obtain⟨dx,ys,e1,e2⟩:=q;exact⟨dx,ys,e.trans e1,nq.lF g _ _ e2⟩
theorem OR.up(g:Gr ρ H ρ' H')(e:H' a=H a)(q:OR B ρ H a o):OR B ρ' H' a o:=OR.lF g.w e q
theorem Gr.side(e:H p=none):Gr ρ H ρ (upd H p o) where
 pre:=aaC _
 keep a u q _:=by rw[aq (aM q e)];exact q
 firm a u q _:=by rw[aq (aM q e)];exact q
 fresh a z n:=absurd z n
theorem HR.side(r:HR B ρ h H)(e:H p=none):HR B ρ h (upd H p o) where
 len:=r.len
 nd:=r.nd
 ob i u a q1 q2:=by refine OR.up (Gr.side e) ?_ (r.ob i u a q1 q2);refine aq λz=>?_;subst z;exact r.out e (aaz q2)
theorem Gw.other(e:H p=some u)(hm:Mu u=true):Gw ρ H ρ (upd H p o) where
 pre:=aaC _
 firm a w q n:=by
  have:a≠p:=λz=>by subst z;rw[e]at q;cases q;rw[hm]at n;cases n
  rw[aq this];exact q
theorem HR.other(r:HR B ρ h H)(hp:p ∉ ρ)(e:H p=some u)(hm:Mu u=true):HR B ρ h (upd H p o) where
 len:=r.len
 nd:=r.nd
 ob i w a q1 q2:=OR.lF (Gw.other e hm) (aq λz=>by subst z;exact hp (aaz q2)) (r.ob i w a q1 q2)
theorem Gr.new(e:H p=none):Gr ρ H (ρ ++ [p]) (upd H p o) where
 pre:=aa0 _ _
 keep a u q _:=by rw[aq (aM q e)];exact q
 firm a u q _:=by rw[aq (aM q e)];exact q
 fresh a z n:=by
  rcases aat.mp z with z|z
  ·exact absurd z n
  ·rw[aaj.mp z];exact e
theorem HR.new(r:HR B ρ h H)(e:H p=none)(q:OR B (ρ ++ [p]) (upd H p o) p u):HR B (ρ ++ [p]) (h++[u]) (upd H p o) where
 len:=by simp[r.len]
 nd:=by rw[aaH];refine⟨r.nd,by simp,λa ha b hb=>?_⟩;rw[aaj.mp hb];rintro rfl;exact r.out e ha
 ob i v a q1 q2:=by
  by_cases hi:i<h.length
  ·rw[aam hi]at q1;rw[aam (by rw[r.len];exact hi)]at q2;refine OR.up (Gr.new e) (aq λz=>?_) (r.ob i v a q1 q2);subst z;exact r.out e (aaz q2)
  ·rw[aaw (by omega)]at q1
   rw[aaw (by rw[r.len];omega)]at q2;have hi0:i-h.length=0:=by have:=(Z8.mp q1).1;simp at this;omega
   rw[hi0]at q1;rw[r.len,hi0]at q2;simp at q1 q2;subst q1;subst q2;exact q
theorem AX(r:HR B ρ h H):VR K (ρ ++ [p]) H' (.ref h.length) (.ref p):=VR.ref (by rw[<-r.len];simp)
theorem K6{α:Type}:∀{l:List α} {i j:Nat} {a:α},l.Nodup->l[i]?=some a->l[j]?=some a->i=j
 |[],i,j,a,_,e,_=>by simp at e
 |b::l,0,0,a,_,_,_=>rfl
 | b::l,0,j+1,a,n,e,f=>by
  simp at e f;subst e;exact absurd (aaz f) (aaF.mp n).1
 | b::l,i+1,0,a,n,e,f=>by
  simp at e f;subst f;exact absurd (aaz e) (aaF.mp n).1
 | b::l,i+1,j+1,a,n,e,f=>by
  simp at e f;rw[K6 (aaF.mp n).2 e f]
theorem Gr.put(hp:p ∈ ρ)(e:H p=some u)(hm:Mu u=true):Gr ρ H ρ (upd H p o) where
 pre:=aaC _
 keep a w q n:=by rw[aq λz=>n (by rw[z];exact hp)];exact q
 firm a w q n:=by
  have:a≠p:=λz=>by subst z;rw[e]at q;cases q;rw[hm]at n;cases n
  rw[aq this];exact q
 fresh a z n:=absurd z n
theorem HR.put{i:Nat}(r:HR B ρ h H)(hi:ρ[i]?=some p)(e:h[i]?=some w)(q:OR B ρ (upd H p o) p u):HR B ρ (h.set i u) (upd H p o) where
 len:=by simp[r.len]
 nd:=r.nd
 ob j v a q1 q2:=by
  obtain⟨z,k1,k2⟩:=(r.ob i w p e hi).mu
  by_cases hj:j=i
  ·subst hj;rw[hi]at q2;cases q2;have hlt:j<h.length:=(Z8.mp e).1;rw[aah hlt]at q1;cases q1;exact q
  ·rw[Z6 (λz=>hj z.symm)]at q1;refine OR.up (Gr.put (aaz hi) k1 k2) (aq λz=>?_) (r.ob j v a q1 q2);subst z;exact hj (K6 r.nd q2 hi)
theorem eY(r:HR B ρ h H)(q:VR B.K ρ H v x)(e:aG h v=some xs):∃a ys,x=.ref a/\gF B.K H a ys/\ay B.K ρ H xs ys:=by
 cases v with
 |rl vs=>simp only[aG]at e;cases e;rw[VR]at q;obtain⟨a,ys,rfl,k1,k2⟩:=q;exact⟨a,ys,rfl,k1.sq,k2⟩
 |ref i=>
  simp only[aG]at e;split at e
  ·rename_i zs e1;cases e;rw[VR]at q;obtain⟨a,rfl,k1⟩:=q;obtain⟨ys,k2,k3⟩:=r.ob i _ a e1 k1;exact⟨a,ys,rfl,.inl (.inl k2),k3⟩
  ·cases e
 |_=>cases e
theorem jA{i:Nat}(r:HR B ρ h H)(q:VR B.K ρ H (.ref i) x)(e:h[i]?=some (.lst xs)):∃a ys,x=.ref a /\ ρ[i]?=some a/\H a=some (.lst ys)/\ay B.K ρ H xs ys:=by
 rw[VR]at q;obtain⟨a,rfl,k1⟩:=q;obtain⟨ys,k2,k3⟩:=r.ob i _ a e k1;exact⟨a,ys,rfl,k1,k2,k3⟩
theorem MK(r:HR B ρ h H)(q:VR B.K ρ H v x)(e:lP h v=some xs):∃a ys,x=.ref a/\(gF B.K H a ys\/j8 B.K H a ys)/\ay B.K ρ H xs ys:=by
 cases v with
 |tup vs=>simp only[lP]at e;cases e;rw[VR]at q;obtain⟨a,ys,rfl,k1,k2⟩:=q;exact⟨a,ys,rfl,.inr k1,k2⟩
 |rl vs=>obtain⟨a,ys,e1,k1,k2⟩:=eY r q (show aG h (.rl vs)=some xs from e);exact⟨a,ys,e1,.inl k1,k2⟩
 |ref vs=>obtain⟨a,ys,e1,k1,k2⟩:=eY r q (show aG h (.ref vs)=some xs from e);exact⟨a,ys,e1,.inl k1,k2⟩
 |_=>cases e
theorem oR(r:HR B ρ h H):∀(n:Nat) (v:Val) (x:V) (d:PyData),VR B.K ρ H v x->toD n h v=some d->Den B.K H d x/\d.canLay0=true/\d.depth<=n:=by
 intro n
 induction n with
 |zero=>intro v x d _ e;simp only[toD]at e;cases e
 |succ n ih=>
  have all:∀(vs:List Val) (xs:List V) (ds:List PyData),ay B.K ρ H vs xs->cO (toD n h) vs=some ds->eF B.K H ds xs/\PyData.canLayAll0 ds=true/\PyData.depthAll ds<=n:=by
   intro vs
   induction vs with
   |nil=>intro xs ds q e;simp only[cO]at e;cases e;rw[ay]at q;subst q;exact⟨eF.nil,rfl,by simp[PyData.depthAll]⟩
   |cons v vs X4=>intro xs ds q e;simp only[cO]at e;obtain⟨d,e1,e⟩:=Z4.mp e;obtain⟨ds',e2,e⟩:=Z4.mp e;cases e;rw[ay]at q;obtain⟨x,r,rfl,q1,q2⟩:=q;obtain⟨a1,a2,a3⟩:=ih v x d q1 e1;obtain⟨b1,b2,b3⟩:=X4 r ds' q2 e2;refine⟨eF.cons a1 b1,by simp[PyData.canLayAll0,a2,b2],?_⟩;simp only[PyData.depthAll];omega
  intro v x d q e;cases v with
  |non=>simp only[toD]at e;cases e;rw[VR]at q;subst q;exact⟨Den.none,rfl,by simp[PyData.depth]⟩
  |bl b=>simp only[toD]at e;cases e;rw[VR]at q;subst q;exact⟨Den.bool,rfl,by simp[PyData.depth]⟩
  |int b=>simp only[toD]at e;cases e;rw[VR]at q;subst q;exact⟨Den.int,rfl,by simp[PyData.depth]⟩
  |str b=>
   simp only[toD]at e;split at e
   ·rename_i hs;cases e;rw[VR]at q;subst q;exact⟨Den.str,by simp[PyData.canLay0,hs],by simp[PyData.depth]⟩
   ·cases e
  |tup vs=>simp only[toD]at e;obtain⟨ds,e1,e⟩:=Z4.mp e;cases e;rw[VR]at q;obtain⟨a,xs,rfl,q1,q2⟩:=q;obtain⟨b1,b2,b3⟩:=all vs xs ds q2 e1;exact⟨Den.tuple q1 b1,by simp[PyData.canLay0,b2],by simp only[PyData.depth];omega⟩
  |rl vs=>simp only[toD]at e;obtain⟨ds,e1,e⟩:=Z4.mp e;cases e;rw[VR]at q;obtain⟨a,xs,rfl,q1,q2⟩:=q;obtain⟨b1,b2,b3⟩:=all vs xs ds q2 e1;exact⟨Den.list q1.sq b1,by simp[PyData.canLay0,b2],by simp only[PyData.depth];omega⟩
  |dc _ _=>rw[VR]at q;exact q.elim
  |ob _ _ _=>rw[VR]at q;exact q.elim
  |ref i=>simp only[toD]at e;obtain⟨vs,e0,e⟩:=Z4.mp e;obtain⟨ds,e1,e⟩:=Z4.mp e;cases e;obtain⟨a,xs,rfl,q1,q2⟩:=eY r q e0;obtain⟨b1,b2,b3⟩:=all vs xs ds q2 e1;exact⟨Den.list q1 b1,by simp[PyData.canLay0,b2],by simp only[PyData.depth];omega⟩
end
theorem oS(x:List Int):∀l,(vK x l).Perm (x::l)
 |[]=>.refl _
 | y::r=>by
  unfold vK;split
  ·exact((oS x r).cons y).trans (.swap _ _ _)
  ·exact .refl _
theorem rS:∀l,(nh l).Perm l
 |[]=>.refl _
 |x::r=>(oS x _).trans ((rS r).cons x)
theorem xZ{a b c:List Int}(h1:HT.lexLt b a=false)(h2:HT.lexLt c b=false):HT.lexLt c a=false:=by
 cases e:HT.lexLt c a with
 |false=>rfl
 |true=>
  rcases mX.uA c b a e with z|z
  ·rw[h2]at z;cases z
  ·rw[h1]at z;cases z
theorem x6{a b:List Int}(h:HT.lexLt a b=true):HT.lexLt b a=false:=by
 cases e:HT.lexLt b a with
 |false=>rfl
 |true=>have:=mX.iy _ _ _ h e;rw[mX.jz]at this;cases this
theorem AY(x:List Int):∀l:List (List Int),l.Pairwise (λa b=>HT.lexLt b a=false)->(vK x l).Pairwise (λa b=>HT.lexLt b a=false)
 |[],_=>by simp[vK]
 | y::r,h=>by
  obtain⟨h1,h2⟩:=aaI.mp h;unfold vK
  split
  ·rename_i hlt
   refine aaI.mpr ⟨λz hz=>?_,AY x r h2⟩
   rcases aap.mp ((oS x r).mem_iff.mp hz) with rfl|hz
   ·exact x6 hlt
   ·exact h1 z hz
  ·rename_i hlt
   refine aaI.mpr ⟨λz hz=>?_,h⟩;have hxy:HT.lexLt y x=false:=by simpa using hlt
   rcases aap.mp hz with rfl|hz
   ·exact hxy
   ·exact xZ hxy (h1 z hz)
theorem x8:∀l,(nh l).Pairwise (λa b=>HT.lexLt b a=false)
 |[]=>.nil
 |x::r=>AY x _ (x8 r)
theorem Ew(hp:l.Perm qC)(hs:l.Pairwise (λa b=>HT.lexLt b a=false)):l=nh qC :=
 List.Perm.eq_of_pairwise (λa b _ _ h1 h2=>mX.iw a b h2 h1) hs (x8 qC) (hp.trans (rS qC).symm)
def Post(B:Bd)(EX:Nat->List V->Hp->Prop)(ρ:List Addr)(H:Hp){α:Type}(W:α -> Hs->List Addr->Hp->Prop):Out α -> Prop
 |.ok a h'=>∀ρ' H',Gr ρ H ρ' H'->HR B ρ' h' H'->W a h' ρ' H'
 |.exc c vs h'=>∀ρ' H' xs,Gr ρ H ρ' H'->HR B ρ' h' H'->ay B.K ρ' H' vs xs->EX c xs H'
 |.no=>False
def WV(K:Frag)(Q:VK):Val->Hs->List Addr->Hp->Prop:=λv _ ρ' H'=>∀x,VR K ρ' H' v x->Q x H'
section
variable {B:Bd} {EX:Nat->List V->Hp->Prop} {ρ ρ':List Addr} {H H':Hp} {α β:Type} {W:β -> Hs->List Addr->Hp->Prop} {h h':Hs} {Q:VK}
theorem Post.up(g:Gr ρ H ρ' H')(p:Post B EX ρ H W o):Post B EX ρ' H' W o:=by
 cases o with
 |ok a h'=>exact λρ2 H2 g2 r=>p ρ2 H2 (g.trans g2) r
 |exc c vs h'=>exact λρ2 H2 xs g2 r=>p ρ2 H2 xs (g.trans g2) r
 |no=>exact p
theorem aP{c:Bool}(p:Post B EX ρ H W (aC c m h)):c=true/\Post B EX ρ H W (m h):=by
 unfold aC at p;split at p
 ·rename_i e;exact⟨e,p⟩
 ·exact p.elim
theorem aD(p:Post B EX ρ H W (bnd (ask f) g h)):∃a,f h=some a/\Post B EX ρ H W (g a h):=by
 unfold bnd ask bI at p;cases e:f h with
 |none=>rw[e]at p;exact p.elim
 |some a=>rw[e]at p;exact⟨a,rfl,p⟩
theorem cZ(r:HR B ρ h H)(p:Post B EX ρ H W (ask f h)):∃a,f h=some a/\W a h ρ H:=by
 unfold ask bI at p;cases e:f h with
 |none=>rw[e]at p;exact p.elim
 |some a=>rw[e]at p;exact⟨a,rfl,p ρ H Gr.refl r⟩
theorem bS(p:Post B EX ρ H W (bnd (bI o) g h)):∃a,o=some a/\Post B EX ρ H W (g a h):=by
 unfold bnd bI at p;cases e:o with
 |none=>rw[e]at p;exact p.elim
 |some a=>rw[e]at p;exact⟨a,rfl,p⟩
theorem dR(r:HR B ρ h H)(p:Post B EX ρ H W (bI o h)):∃a,o=some a/\W a h ρ H:=by
 unfold bI at p;cases e:o with
 |none=>rw[e]at p;exact p.elim
 |some a=>rw[e]at p;exact⟨a,rfl,p ρ H Gr.refl r⟩
theorem aj(r:HR B ρ h H)(p:Post B EX ρ H W (ret a h)):W a h ρ H:=p ρ H Gr.refl r
theorem x9(r:HR B ρ h H)(hp:H p=none)(q:OR B (ρ ++ [p]) (upd H p O) p o)(w:Post B EX ρ H (WV B.K Q) (new o h)):Q (.ref p) (upd H p O) :=
 w (ρ ++ [p]) (upd H p O) (Gr.new hp) (r.new hp q) _ (AX r)
theorem ck(r:HR B ρ h H)(hp:H p=none)(q:ay B.K ρ H xs ys)(w:Post B EX ρ H (WV B.K Q) (new (.lst xs) h)):Q (.ref p) (upd H p (.lst ys)) :=
 x9 (o:=.lst xs) (O:=.lst ys) r hp ⟨ys,aR,ay.up (Gr.new hp) _ _ q⟩ w
theorem rT(r:HR B ρ h H)(hp:H p=none)(q:ay B.K ρ H xs ys)(w:Post B EX ρ H (WV B.K Q) (ret (Val.tup xs) h)):Q (.ref p) (upd H p (.tup ys)) :=
 w ρ (upd H p (.tup ys)) (Gr.side hp) (r.side hp) _ (VR.tup (j8.of aR) (ay.up (Gr.side hp) _ _ q))
theorem av(p:Post B EX ρ H W (bnd m f h))(k:∀v h1 ρ1 x H1,Gr ρ H ρ1 H1->HR B ρ1 h1 H1->VR B.K ρ1 H1 v x->Post B EX ρ1 H1 W (f v h1)->Q x H1):Post B EX ρ H (WV B.K Q) (m h):=by
 unfold bnd at p;cases e:m h with
 |ok v h1=>rw[e]at p;exact λρ1 H1 g r x q=>k v h1 ρ1 x H1 g r q (Post.up g p)
 |exc c vs h1=>rw[e]at p;exact p
 |no=>rw[e]at p;exact p
theorem bf(p:Post B EX ρ H W (bnd m f h))(k:∀v h1 ρ1 H1,Gr ρ H ρ1 H1->HR B ρ1 h1 H1->Post B EX ρ1 H1 W (f v h1)->W' v h1 ρ1 H1):Post B EX ρ H W' (m h):=by
 unfold bnd at p;cases e:m h with
 |ok v h1=>rw[e]at p;exact λρ1 H1 g r=>k v h1 ρ1 H1 g r (Post.up g p)
 |exc c vs h1=>rw[e]at p;exact p
 |no=>rw[e]at p;exact p
end
theorem gC:∀{ds:List Val} {ns:List Int},cC ds=some ns->ds=ns.map .int
 |[],ns,e=>by simp only[cC,cO]at e;cases e;rfl
 | v::r,ns,e=>by
  simp only[cC,cO]at e;obtain⟨i,e1,e⟩:=Z4.mp e;obtain⟨is,e2,e⟩:=Z4.mp e;cases e;cases v<;>first|cases e1|skip
  rw[gC (show cC r=some is from e2)];rfl
theorem uL:∀{ds:List Val} {qC:List (List Int)},lQ ds=some qC->ds=qC.map ni/\∀ks∈qC,ks≠[]
 |[],ns,e=>by simp only[lQ,cO]at e;cases e;exact⟨rfl,λ_ z=>nomatch z⟩
 | v::r,ns,e=>by
  simp only[lQ,cO]at e;obtain⟨i,e1,e⟩:=Z4.mp e;obtain⟨is,e2,e⟩:=Z4.mp e;cases e;cases v<;>first|cases e1|skip
  rename_i vs;dsimp only at e1;split at e1
  ·cases e1
  ·rename_i hne
   obtain⟨q1,q2⟩:=uL (show lQ r=some is from e2);have e3:=gC e1;subst e3;refine⟨by rw[q1];rfl,λks hk=>?_⟩
   rcases aap.mp hk with z|z
   ·subst z;intro z;subst z;exact hne rfl
   ·exact q2 ks z
section
variable {X:Cx} {cl:Nat->Addr} {EX:Nat->List V->Hp->Prop}
abbrev bd(X:Cx)(cl:Nat->Addr):Bd:=⟨X.K,cl⟩
theorem Jl:l0 X (binaryOp .Add) (λx y H Q=>∃a b xs ys,x=.ref a/\y=.ref b/\gF X.K H a xs/\gF X.K H b ys/\xs.length+ys.length<=sizeLine/\∀p,H p=none->Q (.ref p) (upd H p (.lst (xs++ys)))):=by
 intro pins s σ H x y v u Q I rx ry h;obtain⟨l,l',xs,ys,rfl,rfl,q1,q3,hl,q⟩:=h;cases rx;cases ry;obtain⟨its,r1,X5,z1⟩:=I.list q1;obtain⟨its',r2,X6,z2⟩:=I.list q3;have l1:=r1.length;have l2:=r2.length;obtain⟨⟨oc,od,XO,osl⟩,n1,e1,e2,_,e4⟩:=X5;obtain⟨⟨ZQ,od',X7,U3⟩,n2,f1,f2,_,f4⟩:=X6;cases e2;cases e4;cases f2;cases f4;refine concat_meets ⟨_,e1,rfl⟩ ⟨_,f1,rfl⟩ noFill_list_add seq_list_add PySem.F.slot_list_add PySem.F.entry_list_add (PySem.F.args_list_add_2 _ _) (list_addW l l' its.toArray its'.toArray n1 n2 od od' osl U3 (by simp only[size_toArray];omega)) ⟨e1,f1,?_⟩;have ea:its.toArray++its'.toArray=(its++its').toArray:=by simp
 rw[ea];have hn:H s.heap.objs.size=none:=I.hok.fresh (aae _);exact⟨.ref s.heap.objs.size,_,I.UE (t':=s.toks) (its:=its++its') (r1.append r2) (by rw[aag];omega),rfl,q _ hn⟩
def Ex:K3->Operator
 |.add=>.Add|.sub=>.Sub|.mul=>.Mult|.fdiv=>.FloorDiv|.mod=>.Mod|.pow=>.Pow
def AZ:MH->CmpOp
 |.eq=>.Eq|.ne=>.NotEq|.lt=>.Lt|.le=>.LtE|.gt=>.Gt|.ge=>.GtE|.isn=>.Is|.ntn=>.IsNot|.wX=>.In|.nin=>.NotIn
def rB(B:Bd)(EX:Nat->List V->Hp->Prop)(o:K3):R2:=λx y H Q=>∃ρ h v w,HR B ρ h H/\VR B.K ρ H v x/\VR B.K ρ H w y/\Post B EX ρ H (WV B.K Q) (PC o v w h)
theorem mC.log{j:Int}(h:mC j=true):0<j/\j.natAbs.log2<9000:=by
 have h:=aar h;refine⟨h.1,(Nat.log2_lt (by omega)).mpr ?_⟩;have e:j.natAbs<2 ^ 200:=by
  have:(2:Nat) ^ 200=1606938044258990275541962092341162602522202993782792835301376:=by decide
  omega
 exact aan e (Nat.pow_le_pow_right (by decide) (by decide))
theorem Ey:l0 X (binaryOp .FloorDiv) (rI (λ_ j=>mC j=true) λi j=>.int (i/j)):=Tu λi j _ _ _ _ _ hc q=>by
 obtain⟨h1,h2⟩:=mC.log hc;exact PyProof.Rows.floordiv_int (by omega) (by rw[Int.fdiv_eq_ediv_of_nonneg i (by omega)];exact q) (.inl (PyProof.noPylong_of_log2 h2))
theorem rV(ho:o≠.add)(v w:Val)(h:Hs):(∃i j,v=.int i/\w=.int j)\/PC o v w h=.no:=by
 cases v with
 |int i=>
  cases w with
  |int j=>exact .inl ⟨i,j,rfl,rfl⟩
  |_=>right;cases o<;>first|rfl|exact absurd rfl ho
 |_=>right;cases o<;>first|rfl|exact absurd rfl ho
theorem ML(o:K3):l0 X (binaryOp (Ex o)) (rB (bd X cl) EX o):=by
 intro pins s σ H x y v' u' Q I rx ry hh;obtain⟨ρ,h,v,w,r,hv,hw,p⟩:=hh;have lists:Post (bd X cl) EX ρ H (WV X.K Q) (bnd (ask λh=>aG h v) (λa=>bnd (ask λh=>aG h w) λb=>aC (decide (a.length+b.length<=sizeLine)) (new (.lst (a++b)))) h)->wpAny (model X.prog X.w) X.A (binaryOp .Add v' u') (EP X pins σ Q) X.xe s:=by intro p;obtain⟨a,e1,p⟩:=aD p;obtain⟨b,e2,p⟩:=aD p;obtain⟨e3,p⟩:=aP p;have e3:=aar e3;obtain⟨a1,Ra,rfl,k1,k2⟩:=eY r hv e1;obtain⟨a2,U4,rfl,k3,k4⟩:=eY r hw e2;exact Jl pins s σ H _ _ v' u' Q I rx ry ⟨a1,a2,Ra,U4,rfl,rfl,k1,k3,by rw[<-k2.length,<-k4.length];exact e3,λq hq=>ck r hq (ay.append k2 k4) p⟩
 cases o with
 |add=>
  cases v<;>cases w<;>first
   |exact lists p
   |skip
  ·rename_i a b;rw[VR]at hv hw;subst hv;subst hw;exact LY pins s σ H _ _ _ _ Q I rx ry ⟨a,b,rfl,rfl,aj r p _ VR.int⟩
  ·rename_i a b;rw[VR]at hv hw;subst hv;subst hw;obtain⟨e,p⟩:=aP p;exact zF pins s σ H _ _ _ _ Q I rx ry ⟨a,b,rfl,rfl,aar e,aj r p _ VR.str⟩
  ·rename_i a b
   rw[VR]at hv hw;obtain⟨a1,Ra,rfl,k1,k2⟩:=hv;obtain⟨a2,U4,rfl,k3,k4⟩:=hw;obtain⟨e,p⟩:=aP p;simp only[and_eq_true,not_eq_true',decide_eq_true_eq]at e;refine IG pins s σ H _ _ _ _ Q I rx ry ⟨a1,a2,Ra,U4,rfl,rfl,k1,k3,?_,by rw[<-k2.length,<-k4.length];exact e.2,λz=>?_,λ_ q hq=>rT r hq (ay.append k2 k4) p⟩
   ·intro z;subst z
    have:=k2.length;cases a with
    |nil=>simp at e
    |cons _ _=>simp at this
   ·subst z
    have hb:b=[]:=by cases b with|nil=>rfl|cons _ _=>have:=k4.length;simp at this
    subst hb;rw[aaU]at p;exact aj r p _ (VR.tup k1 k2)
 |sub=>
  rcases rV (o:=.sub) (by intro z;cases z) v w h with ⟨i,j,rfl,rfl⟩|z
  case inr=>rw[z]at p;exact p.elim
  rw[VR]at hv hw;subst hv;subst hw;exact LZ pins s σ H _ _ _ _ Q I rx ry ⟨_,_,rfl,rfl,aj r p _ VR.int⟩
 |mul=>
  rcases rV (o:=.mul) (by intro z;cases z) v w h with ⟨i,j,rfl,rfl⟩|z
  case inr=>rw[z]at p;exact p.elim
  rw[VR]at hv hw;subst hv;subst hw;obtain⟨hm,p⟩:=aP p;refine L0 pins s σ H _ _ _ _ Q I rx ry ⟨_,_,rfl,rfl,?_,aj r p _ VR.int⟩;unfold lR at hm;simp only[or_eq_true,and_eq_true,decide_eq_true_eq]at hm;exact hm
 |fdiv=>
  rcases rV (o:=.fdiv) (by intro z;cases z) v w h with ⟨i,j,rfl,rfl⟩|z
  case inr=>rw[z]at p;exact p.elim
  rw[VR]at hv hw;subst hv;subst hw;obtain⟨hm,p⟩:=aP p;exact Ey pins s σ H _ _ _ _ Q I rx ry ⟨_,_,rfl,rfl,hm,aj r p _ VR.int⟩
 |mod=>
  rcases rV (o:=.mod) (by intro z;cases z) v w h with ⟨i,j,rfl,rfl⟩|z
  case inr=>rw[z]at p;exact p.elim
  rw[VR]at hv hw;subst hv;subst hw;obtain⟨hm,p⟩:=aP p;exact L1 pins s σ H _ _ _ _ Q I rx ry ⟨_,_,rfl,rfl,aar hm,aj r p _ VR.int⟩
 |pow=>
  rcases rV (o:=.pow) (by intro z;cases z) v w h with ⟨i,j,rfl,rfl⟩|z
  case inr=>rw[z]at p;exact p.elim
  rw[VR]at hv hw;subst hv;subst hw;obtain⟨hm,p⟩:=aP p;have hm:=aar hm;exact L3 pins s σ H _ _ _ _ Q I rx ry ⟨_,_,rfl,rfl,hm,aj r p _ VR.int⟩
end
section
variable {X:Cx} {cl:Nat->Addr} {EX:Nat->List V->Hp->Prop}
theorem ya{b:Bool}(e:Er h v w=some b):∃d f,toD 16 h v=some d/\toD 16 h w=some f/\b=PyData.eqv d f:=by
 unfold Er at e;obtain⟨d,e1,e⟩:=Z4.mp e;obtain⟨f,e2,e⟩:=Z4.mp e;exact⟨d,f,e1,e2,(aav e).symm⟩
theorem A8{K:Frag}{ρ:List Addr}{H:Hp}{v:Val}{x:V}(q:VR K ρ H v x):decide (x=.non)=nj v:=by
 cases v<;>rw[VR]at q
 ·subst q;rfl
 ·subst q;rfl
 ·subst q;rfl
 ·subst q;rfl
 ·obtain⟨a,xs,rfl,_⟩:=q;rfl
 ·obtain⟨a,xs,rfl,_⟩:=q;rfl
 ·exact q.elim
 ·exact q.elim
 ·obtain⟨a,rfl,_⟩:=q;rfl
theorem MM(hu:X.A.units+64<cLine)(neg:Bool):l0 X (compareOp (if neg=true then .NotIn else .In)) (λx y H Q=>∃d f ds,Den X.K H d x/\Den X.K H f y/\d.canLay0=true/\f.canLay0=true/\d.depth<=16/\(f=.list ds\/f=.tuple ds)/\Q (.bl (if neg=true then !(ds.any λy=>PyData.eqv y d) else ds.any λy=>PyData.eqv y d)) H):=by
 intro pins s σ H x y v u Q I rx ry hh;obtain⟨d,f,ds,hd,hf,c1,c2,hz,e,q⟩:=hh;obtain⟨as,ra⟩:=Den.reads I d x v c1 hd rx;obtain⟨bs,rb⟩:=Den.reads I f y u c2 hf ry;have K7:X.A.units+1+min (PyData.depthAll ds) d.depth<cLine:=by have:=Nat.min_le_right (PyData.depthAll ds) d.depth;omega
 rcases e with rfl|rfl
 ·have c3:PyData.canLayAll0 ds=true:=by simpa [PyData.canLay0] using c2
  cases neg with
  |true=>exact SeqAt.notIn_list_reads rb ra c3 c1 K7 ⟨.bl _,H,I,rfl,q⟩
  |false=>exact SeqAt.in_list_reads rb ra c3 c1 K7 ⟨.bl _,H,I,rfl,q⟩
 ·have c3:PyData.canLayAll0 ds=true:=by simpa [PyData.canLay0] using c2
  cases neg with
  |true=>exact SeqAt.notIn_tuple_reads rb ra c3 c1 K7 ⟨.bl _,H,I,rfl,q⟩
  |false=>exact SeqAt.in_tuple_reads rb ra c3 c1 K7 ⟨.bl _,H,I,rfl,q⟩
theorem gn.val{K:Frag}{ρ:List Addr}{H:Hp}(k:Key):∀{kvs:List (Key×Val)} {ks:List (Key×V)},gn K ρ H kvs ks->(bV kvs k=none->iD ks k=none)/\∀v,bV kvs k=some v->∃x,iD ks k=some x/\VR K ρ H v x
 | [],ks,e=>by
  have:ks=[]:=e;subst this;exact⟨λ_=>rfl,λv z=>by simp[bV]at z⟩
 | (k',v')::kvs,ks,⟨x,r,e,q1,q2⟩=>by
  subst e;obtain⟨a,b⟩:=gn.val k q2
  by_cases hk:k'=k
  ·subst hk;refine⟨λz=>by simp[bV]at z,λv z=>⟨x,by simp[iD],?_⟩⟩;simp[bV]at z;subst z;exact q1
  ·have e1:bV ((k',v')::kvs) k=bV kvs k:=by simp[bV,hk]
   have e2:iD ((k',x)::r) k=iD r k:=by simp[iD,hk]
   rw[e1,e2];exact⟨a,b⟩
theorem gn.length{K:Frag}{ρ:List Addr}{H:Hp}:∀{kvs:List (Key×Val)} {ks:List (Key×V)},gn K ρ H kvs ks->kvs.length=ks.length
 |[],ks,e=>by have:ks=[]:=e;subst this;rfl
 |(k',v')::kvs,ks,⟨x,r,e,q1,q2⟩=>by subst e;simp[gn.length q2]
theorem gn.any{K:Frag}{ρ:List Addr}{H:Hp}(k:Key):∀{kvs:List (Key×Val)} {ks:List (Key×V)},gn K ρ H kvs ks->(kvs.any λkv=>decide (kv.1=k))=(ks.any λkv=>decide (kv.1=k))
 |[],ks,e=>by have:ks=[]:=e;subst this;rfl
 |(k',v')::kvs,ks,⟨x,r,e,q1,q2⟩=>by subst e;simp only[any_cons];rw[gn.any k q2]
theorem gn.repl{K:Frag}{ρ:List Addr}{H:Hp}(k:Key){v:Val}{y:V}(q:VR K ρ H v y):∀{kvs:List (Key×Val)} {ks:List (Key×V)},gn K ρ H kvs ks->gn K ρ H (kvs.map λkv=>if kv.1=k then (kv.1,v) else kv) (ks.map λkv=>if kv.1=k then (kv.1,y) else kv)
 |[],ks,e=>by have:ks=[]:=e;subst this;rfl
 | (k',v')::kvs,ks,⟨x,r,e,q1,q2⟩=>by
  subst e;simp only[map_cons]
  by_cases hk:k'=k
  ·rw[aab hk,aab hk];exact⟨y,_,rfl,q,gn.repl k q q2⟩
  ·rw[aad hk,aad hk];exact⟨x,_,rfl,q1,gn.repl k q q2⟩
theorem gn.snoc{K:Frag}{ρ:List Addr}{H:Hp}(k:Key){v:Val}{y:V}(q:VR K ρ H v y):∀{kvs:List (Key×Val)} {ks:List (Key×V)},gn K ρ H kvs ks->gn K ρ H (kvs++[(k,v)]) (ks++[(k,y)])
 |[],ks,e=>by have:ks=[]:=e;subst this;exact⟨y,[],rfl,q,rfl⟩
 |(k',v')::kvs,ks,⟨x,r,e,q1,q2⟩=>by subst e;exact⟨x,_,rfl,q1,gn.snoc k q q2⟩
theorem gn.put{K:Frag}{ρ:List Addr}{H:Hp}(k:Key){v:Val}{y:V}(q:VR K ρ H v y){kvs:List (Key×Val)}{ks:List (Key×V)}(e:gn K ρ H kvs ks):gn K ρ H (ie kvs k v) (putK ks k y):=by
 unfold ie putK;rw[gn.any k e]
 split
 ·exact gn.repl k q e
 ·exact gn.snoc k q e
theorem Ez{K:Frag}{ρ:List Addr}{H:Hp}{v:Val}{x:V}{k:Key}(q:VR K ρ H v x)(e:keyOf v=some k):x=kV k:=by
 cases v<;>simp only[keyOf]at e<;>first|cases e|skip
 ·rw[VR]at q;exact q
 ·rw[VR]at q;exact q
theorem Ba(hu:X.A.units+64<cLine):PB X (λx y H Q=>∃a v,x=.ref a/\lD H a y (some v)/\Q v H):=by
 intro value slice pins s σ H x y v u Q I rx ry h hs;obtain⟨a,z,rfl,g,q⟩:=h;cases rx;have hT:=xF I g;unfold subscriptTail;refine Z2 ?_;rw[getitemInPython_of_ne hT.not_modules];refine Z2 (wpAny_specialOf hT PySem.F.slot_dict_getitem.lookup ?_);have fin:wpAny (model X.prog X.w) X.A (subscripted slice false (.ref a) u) (λr s₃=>wpAny (model X.prog X.w) X.A (letTemporaryGo value (.ref a) r >>= λ_=>pure r) (EP X pins σ Q) X.xe s₃) X.xe s:=by rw[hs];exact wpAny_operating (Cq (by omega) I g ry λw' s' I' r'=>Z2 (wpAny_letTemporaryGo (aac ⟨z,H,I',r',q⟩)))
 first
  |exact aac (Z2 fin)
  |exact Z2 (aac (Z2 fin))
  |exact Z2 fin
def rC(B:Bd)(o:MH):R2:=λx y H Q=>∃ρ h v w b,HR B ρ h H/\VR B.K ρ H v x/\VR B.K ρ H w y/\cop h o v w=some b/\Q (.bl b) H
theorem nt{b:Bool}(e:memD h v w=some b):∃d f ds,toD 16 h v=some d/\toD 16 h w=some f/\(f=.list ds\/f=.tuple ds)/\b=ds.any λy=>PyData.eqv y d:=by
 unfold memD at e;obtain⟨f,e1,e⟩:=Z4.mp e;obtain⟨d,e2,e⟩:=Z4.mp e;cases f<;>simp only[MI]at e<;>first|cases e|skip
 ·exact⟨d,_,_,e2,e1,.inl rfl,rfl⟩
 ·exact⟨d,_,_,e2,e1,.inr rfl,rfl⟩
theorem CL{b:Bool}(hw:∀ks vs,w≠.dc ks vs)(e:vL h v w=some b):(∃x y,v=.str x/\w=.str y/\b = !(Builtin.Str.occurrences y x 0 y.length 1).isEmpty)\/(∃i kvs k,w=.ref i/\h[i]?=some (.dct kvs)/\keyOf v=some k/\b=(bV kvs k).isSome) \/
  ∃d f ds,toD 16 h v=some d/\toD 16 h w=some f/\(f=.list ds\/f=.tuple ds)/\b=ds.any λy=>PyData.eqv y d:=by
 cases w with
 |ref i=>
  have e':(h[i]?).bind (Jj h v i)=some b:=by cases v<;>exact e
  obtain⟨ob,e1,e2⟩:=Z4.mp e';cases ob with
  |dct kvs=>obtain⟨k,e3,e4⟩:=Z4.mp (show (keyOf v).bind _=some b from e2);exact .inr (.inl ⟨i,kvs,k,rfl,e1,e3,(aav e4).symm⟩)
  |lst xs=>exact .inr (.inr (nt e2))
  |ins c fs=>exact .inr (.inr (nt e2))
 |dc ks vs=>exact absurd rfl (hw ks vs)
 |str y=>
  cases v with
  |str x=>exact .inl ⟨x,y,rfl,rfl,(aav e).symm⟩
  |_=>exact .inr (.inr (nt e))
 |_=>exact .inr (.inr (nt (by cases v<;>exact e)))
theorem EA(hu:X.A.units+64<cLine)(o:MH):l0 X (compareOp (AZ o)) (rC (bd X cl) o):=by
 intro pins s σ H x y v' u' Q I rx ry hh;obtain⟨ρ,h,v,w,b,r,hv,hw,e,q⟩:=hh;have mem:∀(neg:Bool),vL h v w=some (if neg=true then !b else b)->wpAny (model X.prog X.w) X.A (compareOp (if neg=true then .NotIn else .In) v' u') (EP X pins σ Q) X.xe s:=by
  intro neg e;have nd:∀ks vs,w≠.dc ks vs:=λks vs z=>by subst z;rw[VR]at hw;exact hw.elim
  rcases CL nd e with ⟨a,c,rfl,rfl,eb⟩|⟨i,kvs,k,rfl,e1,e2,eb⟩|⟨d,f,ds,e1,e2,e3,eb⟩
  ·rw[VR]at hv;rw[VR]at hw;subst hv;subst hw
   cases neg with
   |true=>refine vj pins s σ H _ _ v' u' Q I rx ry ⟨a,c,rfl,rfl,?_⟩;rw[aab rfl]at eb;rw[<-eb,Bool.not_not];exact q
   |false=>refine Ce pins s σ H _ _ v' u' Q I rx ry ⟨a,c,rfl,rfl,?_⟩;rw[aad Z3]at eb;rw[<-eb];exact q
  ·rw[VR]at hw
   obtain⟨a,rfl,k1⟩:=hw;obtain⟨ks,k2,k3⟩:=r.ob i _ a e1 k1;have ex:=Ez hv e2;subst ex;have es:(iD ks k).isSome=(bV kvs k).isSome:=by
    obtain⟨z1,z2⟩:=gn.val k k3;cases e4:bV kvs k with
    |none=>rw[z1 e4];rfl
    |some z=>obtain⟨x,z3,_⟩:=z2 z e4;rw[z3];rfl
   cases ry;cases neg with
   |true=>refine IP (by omega) I (lD.k (k:=k) k2) rx λs' I'=>⟨.bl _,H,I',rfl,?_⟩;rw[aab rfl]at eb;rw[es,<-eb,Bool.not_not];exact q
   |false=>refine UG (by omega) I (lD.k (k:=k) k2) rx λs' I'=>⟨.bl _,H,I',rfl,?_⟩;rw[aad Z3]at eb;rw[es,<-eb];exact q
  ·obtain⟨a1,a2,a3⟩:=oR r 16 v x d hv e1
   obtain⟨b1,b2,b3⟩:=oR r 16 w y f hw e2;refine MM hu neg pins s σ H x y v' u' Q I rx ry ⟨d,f,ds,a1,b1,a2,b2,a3,e3,?_⟩;cases neg with
   |true=>rw[aab rfl]at eb |-;rw[<-eb,Bool.not_not];exact q
   |false=>rw[aad Z3]at eb |-;rw[<-eb];exact q
 cases o with
 |eq=>obtain⟨d,f,e1,e2,rfl⟩:=ya (show Er h v w=some b by exact e);obtain⟨a1,a2,a3⟩:=oR r 16 v x d hv e1;obtain⟨b1,b2,b3⟩:=oR r 16 w y f hw e2;exact MA hu pins s σ H x y v' u' Q I rx ry ⟨d,f,a1,b1,a2,b2,by omega,q⟩
 |ne=>have e':(Er h v w).map (!·)=some b:=e;obtain⟨c,e3,rfl⟩:=aaE.mp e';obtain⟨d,f,e1,e2,rfl⟩:=ya e3;obtain⟨a1,a2,a3⟩:=oR r 16 v x d hv e1;obtain⟨b1,b2,b3⟩:=oR r 16 w y f hw e2;exact MB hu pins s σ H x y v' u' Q I rx ry ⟨d,f,a1,b1,a2,b2,by omega,q⟩
 |lt=>obtain⟨i,j,rfl,rfl⟩:=kj (.inl rfl) e;cases e;rw[VR]at hv;rw[VR]at hw;subst hv;subst hw;exact Qy pins s σ H _ _ v' u' Q I rx ry ⟨_,_,rfl,rfl,q⟩
 |le=>obtain⟨i,j,rfl,rfl⟩:=kj (.inr (.inl rfl)) e;cases e;rw[VR]at hv;rw[VR]at hw;subst hv;subst hw;exact Qz pins s σ H _ _ v' u' Q I rx ry ⟨_,_,rfl,rfl,q⟩
 |gt=>obtain⟨i,j,rfl,rfl⟩:=kj (.inr (.inr (.inl rfl))) e;cases e;rw[VR]at hv;rw[VR]at hw;subst hv;subst hw;exact QA pins s σ H _ _ v' u' Q I rx ry ⟨_,_,rfl,rfl,q⟩
 |ge=>obtain⟨i,j,rfl,rfl⟩:=kj (.inr (.inr (.inr rfl))) e;cases e;rw[VR]at hv;rw[VR]at hw;subst hv;subst hw;exact QB pins s σ H _ _ v' u' Q I rx ry ⟨_,_,rfl,rfl,q⟩
 |isn=>
  have e:K4 v w=some b:=e;cases w<;>first|(cases e;done)|skip
  ·cases e;rw[VR]at hw;subst hw;refine L4 pins s σ H x _ v' u' Q I rx ry ⟨rfl,?_⟩;rw[A8 hv];exact q
  ·cases v<;>first|(cases e;done)|skip
   cases e;rw[VR]at hv;rw[VR]at hw;subst hv;subst hw;exact MC pins s σ H _ _ v' u' Q I rx ry ⟨_,_,rfl,rfl,q⟩
 |ntn=>
  have e:(K4 v w).map (!·)=some b:=e;cases w<;>first|(cases e;done)|skip
  ·cases e;rw[VR]at hw;subst hw;refine Ip pins s σ H x _ v' u' Q I rx ry ⟨rfl,?_⟩;rw[A8 hv];exact q
  ·cases v<;>first|(cases e;done)|skip
   cases e;rw[VR]at hv;rw[VR]at hw;subst hv;subst hw;exact Jd pins s σ H _ _ v' u' Q I rx ry ⟨_,_,rfl,rfl,q⟩
 |wX=>exact mem false (by rw[aad Z3];exact e)
 |nin=>have e':(vL h v w).map (!·)=some b:=e;obtain⟨c,e3,rfl⟩:=aaE.mp e';exact mem true (by rw[e3];simp)
theorem MN{b:Bool}(r:HR B ρ h H)(q:VR B.K ρ H v x)(e:bW h v=some b):L5 B.K x H b:=by
 cases v with
 |non=>rw[VR]at q;subst q;exact(aav e).symm
 |bl c=>rw[VR]at q;subst q;exact(aav e).symm
 |int i=>rw[VR]at q;subst q;exact(aav e).symm
 |str z=>
  rw[VR]at q;subst q;simp only[bW]at e;split at e
  ·rename_i hl;exact⟨hl,(aav e).symm⟩
  ·cases e
 |tup vs=>rw[VR]at q;obtain⟨a,xs,rfl,q1,q2⟩:=q;refine .inr (.inl ⟨xs,q1,?_⟩);rw[<-aav e];have:=q2.length;cases vs<;>cases xs<;>simp_all
 |rl vs=>rw[VR]at q;obtain⟨a,xs,rfl,q1,q2⟩:=q;refine .inl ⟨xs,q1.sq,?_⟩;rw[<-aav e];have:=q2.length;cases vs<;>cases xs<;>simp_all
 |dc _ _=>rw[VR]at q;exact q.elim
 |ob _ _ _=>rw[VR]at q;exact q.elim
 |ref i=>
  rw[VR]at q;obtain⟨a,rfl,q1⟩:=q;simp only[bW]at e;split at e
  ·rename_i vs e1;obtain⟨xs,k1,k2⟩:=r.ob i _ a e1 q1;refine .inl ⟨xs,.inl (.inl k1),?_⟩;rw[<-aav e];have:=k2.length;cases vs<;>cases xs<;>simp_all
  ·rename_i vs e1;obtain⟨xs,k1,k2⟩:=r.ob i _ a e1 q1;refine .inr (.inr ⟨xs,k1,?_⟩);rw[<-aav e];have:=k2.length;cases vs<;>cases xs<;>simp_all
  ·cases e
def U5(B:Bd):R2:=λx y H Q=>∃ρ h v w z,HR B ρ h H/\VR B.K ρ H v x/\VR B.K ρ H w y/\mD h v w=some z/\∀u,VR B.K ρ H z u->Q u H
theorem MO(hu:X.A.units+64<cLine):PB X (U5 (bd X cl)):=by
 intro value slice pins s σ H x y v' u' Q I rx ry hh hs;obtain⟨ρ,h,v,w,z,r,hv,hw,e,q⟩:=hh;cases v with
 |str t=>
  cases w<;>first|cases e|skip
  rename_i i;change (if t.length<=sizeLine then (kg t.cps.toList i).map (λc=>Val.str ⟨[c].toArray⟩) else none)=some z at e;split at e
  ·rename_i hl;obtain⟨c,e1,rfl⟩:=aaE.mp e;rw[VR]at hv;rw[VR]at hw;subst hv;subst hw;exact Mj value slice pins s σ H _ _ v' u' Q I rx ry ⟨t,i,c,rfl,rfl,hl,e1,q _ VR.str⟩ hs
  ·cases e
 |tup vs=>
  cases w<;>first|cases e|skip
  rename_i i;rw[VR]at hv;rw[VR]at hw;subst hw;obtain⟨a,xs,rfl,q1,q2⟩:=hv;obtain⟨t,e2,q3⟩:=ay.kg q2 e;exact Mi value slice pins s σ H _ _ v' u' Q I rx ry ⟨a,xs,i,t,rfl,rfl,q1,e2,q _ q3⟩ hs
 |rl vs=>
  cases w<;>first|cases e|skip
  rename_i i;rw[VR]at hv;rw[VR]at hw;subst hw;obtain⟨a,xs,rfl,q1,q2⟩:=hv;obtain⟨t,e2,q3⟩:=ay.kg q2 e;exact AJ value slice pins s σ H _ _ v' u' Q I rx ry ⟨a,xs,i,t,rfl,rfl,q1.sq,e2,q _ q3⟩ hs
 |ref j=>
  cases w with
  |int i=>
   change (match h[j]? with|some (.dct kvs)=>bV kvs (.inl i)|_=>(aG h (.ref j)).bind λxs=>kg xs i)=some z at e;split at e
   ·rename_i kvs e1;rw[VR]at hv;obtain⟨a,rfl,q1⟩:=hv;obtain⟨ks,k1,k2⟩:=r.ob j _ a e1 q1;obtain⟨t,e2,q3⟩:=(gn.val (.inl i) k2).2 z e;have g:lD H a (kV (.inl i)) (iD ks (.inl i)):=lD.k k1;rw[e2]at g;rw[VR]at hw;subst hw;exact Ba hu value slice pins s σ H _ _ v' u' Q I rx ry ⟨a,t,rfl,g,q _ q3⟩ hs
   ·obtain⟨vs,e1,e⟩:=Z4.mp e;obtain⟨a,xs,rfl,q1,q2⟩:=eY r hv e1;rw[VR]at hw;subst hw;obtain⟨t,e2,q3⟩:=ay.kg q2 e;exact AJ value slice pins s σ H _ _ v' u' Q I rx ry ⟨a,xs,i,t,rfl,rfl,q1,e2,q _ q3⟩ hs
  |str y=>
   change (match h[j]? with|some (.dct kvs)=>bV kvs (.inr y)|_=>none)=some z at e;split at e
   ·rename_i kvs e1;rw[VR]at hv;obtain⟨a,rfl,q1⟩:=hv;obtain⟨ks,k1,k2⟩:=r.ob j _ a e1 q1;obtain⟨t,e2,q3⟩:=(gn.val (.inr y) k2).2 z e;have g:lD H a (kV (.inr y)) (iD ks (.inr y)):=lD.k k1;rw[e2]at g;rw[VR]at hw;subst hw;exact Ba hu value slice pins s σ H _ _ v' u' Q I rx ry ⟨a,t,rfl,g,q _ q3⟩ hs
   ·cases e
  |_=>cases e
 |dc _ _=>rw[VR]at hv;exact hv.elim
 |_=>cases w<;>cases e
def X8(B:Bd)(EX:Nat->List V->Hp->Prop):V->Option Int->Option Int->Hp->VK->Prop:=λx lo hi H Q=>∃ρ h v,HR B ρ h H/\VR B.K ρ H v x/\Post B EX ρ H (WV B.K Q) (t9 v lo hi h)
theorem MP:Tv X (X8 (bd X cl) EX):=by
 intro pins s σ H x v' vl vu lo hi sl Q I rx hs pl pu hh;obtain⟨ρ,h,v,r,hv,p⟩:=hh;have lists:Post (bd X cl) EX ρ H (WV X.K Q) (bnd (ask λh=>aG h v) (λxs=>new (.lst (cz xs lo hi))) h)->∃T id,typeLookup (.type T) "__getitem__" = pure (some (.builtin id))/\s.TypeIs v' T/\wpAny (model X.prog X.w) X.A (getItem v' (.ref sl)) (EP X pins σ Q) X.xe s:=by intro p;obtain⟨a,e1,p⟩:=aD p;obtain⟨a1,Ra,rfl,k1,k2⟩:=eY r hv e1;exact II pins s σ H _ v' vl vu lo hi sl Q I rx hs pl pu ⟨a1,Ra,rfl,k1,λq hq=>ck r hq (ay.cut lo hi k2) p⟩
 cases v with
 |tup vs=>simp only[t9]at p;rw[VR]at hv;obtain⟨a,xs,rfl,q1,q2⟩:=hv;obtain⟨e,p⟩:=aP p;refine Mg pins s σ H _ v' vl vu lo hi sl Q I rx hs pl pu ⟨a,xs,rfl,q1,?_,λq hq=>rT r hq (ay.cut lo hi q2) p⟩;rw[<-q2.length];simp only[not_eq_true',Bool.and_eq_false_iff,decide_eq_false_iff_not]at e;rintro⟨z1,z2⟩;exact e.elim (λk=>k z1) λk=>k z2
 |_=>exact lists p
end
end Hv
end
section
set_option backward.match.sparseCases false
namespace Hv
open PySem L2 PyProof.Rows
section
variable {X:Cx} {cl:Nat->Addr} {EX:Nat->List V->Hp->Prop}
def HS(B:Bd)(EX:Nat->List V->Hp->Prop)(b:Bl):List V->Hp->VK->Prop:=λxs H Q=>∃ρ h vs,HR B ρ h H/\ay B.K ρ H vs xs/\Post B EX ρ H (WV B.K Q) (blt b vs h)
theorem MQ:dm X (.builtin "len") (HS (bd X cl) EX .len):=by
 intro pins s σ H xs us Q I rr hh;obtain⟨ρ,h,vs,r,hv,p⟩:=hh
 match vs,p with
 |[v],p=>
  obtain⟨n,e,p⟩:=aD p;obtain⟨x,rfl,hx⟩:=ay.one hv;have fin:=aj r p _ VR.int;cases v with
  |str z=>
   simp only[nk]at e;split at e
   ·rename_i hl;cases e;rw[VR]at hx;subst hx;exact L2.mU pins s σ H _ us Q I rr ⟨_,z.length,rfl,⟨hl,rfl⟩,fin⟩
   ·cases e
  |tup vs=>simp only[nk]at e;cases e;rw[VR]at hx;obtain⟨a,ys,rfl,q1,q2⟩:=hx;refine L2.mU pins s σ H _ us Q I rr ⟨_,ys.length,rfl,.inr ⟨ys,q1,rfl⟩,?_⟩;rw[<-q2.length];exact fin
  |rl vs=>simp only[nk]at e;cases e;rw[VR]at hx;obtain⟨a,ys,rfl,q1,q2⟩:=hx;refine L2.mU pins s σ H _ us Q I rr ⟨_,ys.length,rfl,.inl ⟨ys,q1.sq,rfl⟩,?_⟩;rw[<-q2.length];exact fin
  |dc _ _=>rw[VR]at hx;exact hx.elim
  |ob _ _ _=>rw[VR]at hx;exact hx.elim
  |ref i=>
   rw[VR]at hx;obtain⟨a,rfl,q1⟩:=hx;simp only[nk]at e;split at e
   ·rename_i vs e1;cases e;obtain⟨ys,k1,k2⟩:=r.ob i _ a e1 q1;refine L2.mU pins s σ H _ us Q I rr ⟨_,ys.length,rfl,.inl ⟨ys,.inl (.inl k1),rfl⟩,?_⟩;rw[<-k2.length];exact fin
   ·rename_i vs e1;cases e;obtain⟨ks,k1,k2⟩:=r.ob i _ a e1 q1;refine Cu pins s σ H _ us Q I rr ⟨a,ks,rfl,k1,?_⟩;rw[<-k2.length];exact fin
   ·cases e
  |_=>simp only[nk]at e;cases e
theorem MR(hc:X.calm=true):dm X (.builtin "min") (HS (bd X cl) EX .min):=by
 intro pins s σ H xs us Q I rr hh;obtain⟨ρ,h,vs,r,hv,p⟩:=hh
 match vs,p with
 |[.int a,.int b],p=>obtain⟨x,y,rfl,hx,hy⟩:=ay.two hv;rw[VR]at hx;rw[VR]at hy;subst hx;subst hy;exact Cg hc pins s σ H _ us Q I rr ⟨a,b,rfl,aj r p _ VR.int⟩
theorem MT(hc:X.calm=true):dm X (.builtin "max") (HS (bd X cl) EX .max):=by
 intro pins s σ H xs us Q I rr hh;obtain⟨ρ,h,vs,r,hv,p⟩:=hh
 match vs,p with
 |[.int a,.int b],p=>obtain⟨x,y,rfl,hx,hy⟩:=ay.two hv;rw[VR]at hx;rw[VR]at hy;subst hx;subst hy;exact Cf hc pins s σ H _ us Q I rr ⟨a,b,rfl,aj r p _ VR.int⟩
theorem CM:dm X (.builtin "sorted") (HS (bd X cl) EX .sorted):=by
 intro pins s σ H xs us Q I rr hh;obtain⟨ρ,h,vs,r,hv,p⟩:=hh
 match vs,p with
 |[v],p=>
  obtain⟨zs,e,p⟩:=aD p;obtain⟨out,e1,p⟩:=bS p;obtain⟨x,rfl,hx⟩:=ay.one hv;obtain⟨a,ys,rfl,q1,q2⟩:=eY r hx e;unfold dQ at e1;split at e1
  ·rename_i h64
   cases e2:cC zs with
   |some ns=>rw[e2]at e1;cases e1;rw[gC e2]at q2 h64;rw[ay.ints.mp q2]at q1;rw[Z9]at h64;exact oH pins s σ H _ us Q I rr ⟨a,ns,rfl,q1,h64,λl hl=>ck r hl (ay.ints.mpr rfl) p⟩
   |none=>rw[e2]at e1;obtain⟨qC,e3,e4⟩:=Z4.mp e1;cases e4;obtain⟨g1,g2⟩:=uL e3;rw[g1]at q2 h64;obtain⟨rs,r1,r2,r3⟩:=ay.tups q2;rw[r1]at q1;rw[Z9,r2,Z9]at h64;refine oJ pins s σ H _ us Q I rr ⟨a,rs,rfl,q1,h64,λp hp=>⟨r3 p hp,g2 _ (by rw[r2];exact mem_map_of_mem hp)⟩,λl qs hl hp hs=>?_⟩;have e4:qs.map (·.2)=nh qC:=Ew (by rw[r2];exact hp.map _) (pairwise_map.mpr hs);rw[<-e4]at p;exact ck r hl (ay.AW λz hz=>r3 z (hp.mem_iff.mp hz)) p
  ·cases e1
theorem Jm:dm X (.type "list") (HS (bd X cl) EX .list):=by
 intro pins s σ H xs us Q I rr hh;obtain⟨ρ,h,vs,r,hv,p⟩:=hh
 match vs,p with
 |[v],p=>obtain⟨zs,e,p⟩:=aD p;obtain⟨x,rfl,hx⟩:=ay.one hv;obtain⟨a,ys,rfl,q1,q2⟩:=MK r hx e;exact vD pins s σ H _ us Q I rr ⟨a,ys,rfl,q1,λl hl=>ck r hl q2 p⟩
theorem EB:dm X (.type "tuple") (HS (bd X cl) EX .tuple):=by
 intro pins s σ H xs us Q I rr hh;obtain⟨ρ,h,vs,r,hv,p⟩:=hh;exact(show False from p).elim
theorem MU:dm X (.type "str") (HS (bd X cl) EX .str):=by
 intro pins s σ H xs us Q I rr hh;obtain⟨ρ,h,vs,r,hv,p⟩:=hh;exact(show False from p).elim
theorem MV:dm X (.type "int") (HS (bd X cl) EX .int):=by
 intro pins s σ H xs us Q I rr hh;obtain⟨ρ,h,vs,r,hv,p⟩:=hh
 match vs,p with
 |[.int i],p=>obtain⟨x,rfl,hx⟩:=ay.one hv;rw[VR]at hx;subst hx;exact um pins s σ H _ us Q I rr (.inl ⟨i,rfl,aj r p _ VR.int⟩)
 |[.bl i],p=>obtain⟨x,rfl,hx⟩:=ay.one hv;rw[VR]at hx;subst hx;exact um pins s σ H _ us Q I rr (.inr ⟨i,rfl,aj r p _ VR.int⟩)
theorem MW(hc:X.calm=true):dm X (.builtin "all") (HS (bd X cl) EX .all):=by
 intro pins s σ H xs us Q I rr hh;obtain⟨ρ,h,vs,r,hv,p⟩:=hh;exact(show False from p).elim
theorem MX(hc:X.calm=true):dm X (.builtin "any") (HS (bd X cl) EX .any):=by
 intro pins s σ H xs us Q I rr hh;obtain⟨ρ,h,vs,r,hv,p⟩:=hh;exact(show False from p).elim
def Yb(B:Bd)(EX:Nat->List V->Hp->Prop)(T:String):List V->Hp->VK->Prop:=λxs H Q=>∃ρ h v x,xs=[x,.ty T]/\HR B ρ h H/\VR B.K ρ H v x/\Post B EX ρ H (WV B.K Q) (blt (.isin T) [v] h)
theorem Jo(K:Frag)(t T:String)(ht:t∈["NoneType","bool","int","str","list","tuple","dict"])(hT:T∈["list","tuple","str","bool","int","dict"]) :
  kitOne K (.type t) (.type T)=some (decide (T=t\/(T = "int" /\ t = "bool"))):=by
 simp only[mem_cons,not_mem_nil,or_false]at ht hT
 rcases ht with rfl|rfl|rfl|rfl|rfl|rfl|rfl<;>rcases hT with rfl|rfl|rfl|rfl|rfl|rfl<;>rfl
theorem Jp{T:String}:dm X (.builtin "isinstance") (Yb (bd X cl) EX T):=by
 intro pins s σ H xs us Q I rr hh;obtain⟨ρ,h,v,x,rfl,r,hx,p⟩:=hh;obtain⟨u,w',rfl,r1,r2⟩:=vals2 rr;cases r2;obtain⟨t,e,p⟩:=aD p;obtain⟨b,e1,p⟩:=bS p;have q:=aj r p _ VR.bl;unfold Eu at e1;split at e1
 ·rename_i Yc
  have hT:T∈["list","tuple","str","bool","int","dict"]:=by simpa using Yc
  cases e1;have fin:∀tk,EP X pins σ Q (.bool (decide (T=t\/(T = "int" /\ t = "bool")))) { s with toks:=tk }:=λtk=>⟨.bl _,H,I.tok _,rfl,q⟩;have tab:=λht=>Jo X.K t T ht hT;cases v with
  |non=>rw[VR]at hx;subst hx;cases r1;simp only[CK]at e;cases e;exact kia_one PySem.W.kitx_none I.oj True.intro (tab (by simp)) (λz=>nomatch z) fin
  |bl c=>rw[VR]at hx;subst hx;cases r1;simp only[CK]at e;cases e;exact kia_one PySem.W.kitx_bool I.oj True.intro (tab (by simp)) (λz=>nomatch z) fin
  |int i=>rw[VR]at hx;subst hx;obtain⟨t',rfl⟩:=r1;simp only[CK]at e;cases e;exact kia_one PySem.W.kitx_int I.oj True.intro (tab (by simp)) (λz=>nomatch z) fin
  |str i=>rw[VR]at hx;subst hx;obtain⟨t',rfl⟩:=r1;simp only[CK]at e;cases e;exact kia_one PySem.W.kitx_str I.oj True.intro (tab (by simp)) (λz=>nomatch z) fin
  |tup vs=>rw[VR]at hx;obtain⟨a,ys,rfl,q1,_⟩:=hx;cases r1;simp only[CK]at e;cases e;obtain⟨_,_,⟨o,e1,e2,_⟩,_⟩:=I.tuple q1;exact kia_one PySem.W.kitx_tuple I.oj ⟨o,e1,e2⟩ (tab (by simp)) (λz=>nomatch z) fin
  |rl vs=>rw[VR]at hx;obtain⟨a,ys,rfl,q1,_⟩:=hx;cases r1;simp only[CK]at e;cases e;obtain⟨_,_,⟨o,n,e1,e2,_⟩,_⟩:=I.list q1.sq;exact kia_one kitx_list I.oj ⟨o,e1,e2⟩ (tab (by simp)) (λz=>nomatch z) fin
  |dc _ _=>rw[VR]at hx;exact hx.elim
  |ob _ _ _=>rw[VR]at hx;exact hx.elim
  |ref i=>
   rw[VR]at hx;obtain⟨a,rfl,q1⟩:=hx;cases r1;simp only[CK]at e;split at e
   ·rename_i vs e1;cases e;obtain⟨ys,k1,k2⟩:=r.ob i _ a e1 q1;obtain⟨_,_,⟨o,n,e1,e2,_⟩,_⟩:=I.list (xs:=ys) (.inl (.inl k1));exact kia_one kitx_list I.oj ⟨o,e1,e2⟩ (tab (by simp)) (λz=>nomatch z) fin
   ·rename_i vs e1;cases e;obtain⟨ks,k1,k2⟩:=r.ob i _ a e1 q1;obtain⟨_,_,vs,_,p⟩:=(show bJ X.prog X.w H s.heap a (.dK ks) from I.hok a _ k1);obtain⟨o,es,ep,h1,h2,_⟩:=p;exact kia_one PySem.W.kitx_dict I.oj ⟨o,h1,h2.1⟩ (tab (by simp)) (λz=>nomatch z) fin
   ·cases e
 ·cases e1
def PD(B:Bd)(EX:Nat->List V->Hp->Prop)(m:Me):V->List V->Hp->VK->Prop:=λx xs H Q=>∃ρ h v vs,HR B ρ h H/\VR B.K ρ H v x/\ay B.K ρ H vs xs/\Post B EX ρ H (WV B.K Q) (met m v vs h)
theorem Jq:Mh X "str.join" (PD (bd X cl) EX .join):=by
 intro pins s σ H x xs u us Q I ru rr hh;obtain⟨ρ,h,v,vs,r,hv,hvs,p⟩:=hh;exact(show False from p).elim
theorem rW{i:Nat}(r:HR B ρ h H)(hi:ρ[i]?=some a)(e:h[i]?=some u)(eU:H a=some U)(hm:Mu U=true)(q:OR B ρ (upd H a O) a o)
  (p:Post B EX ρ H (WV B.K Q) (bnd (put i o) (λ_=>ret Val.non) h)):Q .non (upd H a O) :=
 p ρ (upd H a O) (Gr.put (aaz hi) eU hm) (r.put hi e q) _ VR.non
theorem CN:Mh X "list.append" (PD (bd X cl) EX .append):=by
 intro pins s σ H x xs v' us Q I rx rv hh;obtain⟨ρ,h,v,vs,r,hv,hvs,p⟩:=hh
 match v,vs,p with
 |.ref i,[w],p=>
  obtain⟨zs,e,p⟩:=aD p;split at e
  ·rename_i zs' e1;cases e;obtain⟨e2,p⟩:=aP p;obtain⟨a,ys,rfl,q0,q1,q2⟩:=jA r hv e1;obtain⟨y,rfl,hy⟩:=ay.one hvs;refine uv pins s σ H _ _ v' us Q I rx rv ⟨a,ys,y,rfl,rfl,q1,by rw[<-q2.length];exact aar e2,?_⟩;have g:Gr ρ H ρ (upd H a (.lst (ys++[y]))):=Gr.put (aaz q0) q1 rfl;exact rW (o:=.lst (zs++[w])) r q0 e1 q1 rfl ⟨_,aR,ay.append (ay.up g _ _ q2) (ay.up g _ _ (ay.cons hy ay.nil))⟩ p
  ·cases e
theorem CO:Mh X "list.extend" (PD (bd X cl) EX .extend):=by
 intro pins s σ H x xs v' us Q I rx rv hh;obtain⟨ρ,h,v,vs,r,hv,hvs,p⟩:=hh
 match v,vs,p with
 |.ref i,[w],p=>
  obtain⟨zs,e,p⟩:=aD p;split at e
  ·rename_i zs' e1;cases e
   obtain⟨ws,e3,p⟩:=aD p;obtain⟨e2,p⟩:=aP p;have e2:=aar e2;obtain⟨a,ys,rfl,q0,q1,q2⟩:=jA r hv e1;obtain⟨y,rfl,hy⟩:=ay.one hvs;have fin:∀(bs:List V),ay X.K ρ H ws bs->Q .non (upd H a (.lst (ys++bs))):=λbs hb=>by
    have g:Gr ρ H ρ (upd H a (.lst (ys++bs))):=Gr.put (aaz q0) q1 rfl;exact rW (o:=.lst (zs++ws)) r q0 e1 q1 rfl ⟨_,aR,ay.append (ay.up g _ _ q2) (ay.up g _ _ hb)⟩ p
   cases w with
   |tup ts=>simp only[xY]at e3;cases e3;rw[VR]at hy;obtain⟨b,bs,rfl,k1,k2⟩:=hy;exact zW pins s σ H _ _ v' us Q I rx rv ⟨a,b,ys,bs,rfl,rfl,q1,k1,by rw[<-q2.length,<-k2.length];exact e2,fin bs k2⟩
   |ref j=>
    simp only[xY,aG]at e3;split at e3
    ·rename_i ts e4;cases e3;obtain⟨b,bs,rfl,k0,k1,k2⟩:=jA r hy e4;exact Cp pins s σ H _ _ v' us Q I rx rv ⟨a,b,ys,bs,rfl,rfl,q1,k1,by rw[<-q2.length,<-k2.length];exact e2,fin bs k2⟩
    ·cases e3
   |_=>simp only[xY]at e3;cases e3
  ·cases e
theorem ay.era{K:Frag}{ρ:List Addr}{H:Hp}:∀{vs:List Val} {xs:List V} (n:Nat),ay K ρ H vs xs->ay K ρ H (vs.eraseIdx n) (xs.eraseIdx n)
 |[],_,n,e=>by rw[ay]at e;subst e;exact ay.nil
 | _::_,_,n,e=>by
  rw[ay]at e;obtain⟨x,r,rfl,e1,e2⟩:=e;cases n with
  |zero=>exact e2
  |succ n=>exact ay.cons e1 (ay.era n e2)
theorem CP:Mh X "list.remove" (PD (bd X cl) EX .remove):=by
 intro pins s σ H x xs v' us Q I rx rv hh;obtain⟨ρ,h,v,vs,r,hv,hvs,p⟩:=hh
 match v,vs,p with
 |.ref i,[.int k],p=>
  obtain⟨zs,e,p⟩:=aD p;split at e
  ·rename_i zs' e1;cases e;obtain⟨ks,e3,p⟩:=bS p;obtain⟨e2,p⟩:=aP p;have e3:=gC e3;subst e3;obtain⟨a,ys,rfl,q0,q1,q2⟩:=jA r hv e1;have hys:=ay.ints.mp q2;subst hys;obtain⟨y,rfl,hy⟩:=ay.one hvs;rw[VR]at hy;subst hy;refine CJ pins s σ H _ _ v' us Q I rx rv ⟨a,ks,k,rfl,rfl,q1,aar e2,?_⟩;have g:Gr ρ H ρ (upd H a (.lst ((ks.map V.int).eraseIdx (ks.idxOf k)))):=Gr.put (aaz q0) q1 rfl;exact rW (o:=.lst ((ks.map Val.int).eraseIdx (ks.idxOf k))) r q0 e1 q1 rfl ⟨_,aR,ay.era _ (ay.up g _ _ q2)⟩ p
  ·cases e
theorem MY:Mh X "list.pop" (PD (bd X cl) EX .pop):=by
 intro pins s σ H x xs v' us Q I rx rv hh;obtain⟨ρ,h,v,vs,r,hv,hvs,p⟩:=hh
 match v,vs,p with
 |.ref i,[.int k],p=>
  obtain⟨zs,e,p⟩:=aD p;split at e
  ·rename_i zs' e1;cases e
   obtain⟨e2,p⟩:=aP p;have e2:=aar e2;subst e2;obtain⟨w,e3,p⟩:=bS p;obtain⟨a,ys,rfl,q0,q1,q2⟩:=jA r hv e1;obtain⟨y,rfl,hy⟩:=ay.one hvs;rw[VR]at hy;subst hy;obtain⟨y,hy,ry⟩:=q2.get e3;refine DT pins s σ H _ _ v' us Q I rx rv ⟨a,ys,0,0,y,rfl,rfl,q1,by decide,by decide,?_,hy,?_⟩
   ·have:0<ys.length:=(Z8.mp hy).1;show (if (decide ((0:Int)<=0)&&decide ((0:Int)<(ys.length:Int)))=true then some (Int.toNat 0) else none)=some 0;rw[aab (by simp;omega)];rfl
   have g:Gr ρ H ρ (upd H a (.lst (ys.eraseIdx 0))):=Gr.put (aaz q0) q1 rfl;exact p ρ _ g (r.put q0 e1 ⟨_,aR,ay.era _ (ay.up g _ _ q2)⟩) _ (VR.up g _ _ ry)
  ·cases e
end
def iV(f:Str->Pos->Bool):Expr->Bool
 |.Name a b=>f a b
 |_=>false
theorem eZ{f:Str->Pos->Bool}{P:Expr->Prop}{e:Expr}(h:iV f e=true)(H:∀a b,f a b=true->P (.Name a b)):P e:=by
 cases e<;>first|exact H _ _ h|exact(Z3 h).elim
def z8(f:Const->Nat->Pos->Bool):Expr->Bool
 |.Constant a b c=>f a b c
 |_=>false
theorem yb{f:Const->Nat->Pos->Bool}{P:Expr->Prop}{e:Expr}(h:z8 f e=true)(H:∀a b c,f a b c=true->P (.Constant a b c)):P e:=by
 cases e<;>first|exact H _ _ _ h|exact(Z3 h).elim
def Rb(f:Expr->Operator->Expr->Pos->Bool):Expr->Bool
 |.BinOp a b c d=>f a b c d
 |_=>false
theorem MZ{f:Expr->Operator->Expr->Pos->Bool}{P:Expr->Prop}{e:Expr}(h:Rb f e=true)(H:∀a b c d,f a b c d=true->P (.BinOp a b c d)):P e:=by
 cases e<;>first|exact H _ _ _ _ h|exact(Z3 h).elim
def U6(f:UnaryOp->Expr->Pos->Bool):Expr->Bool
 |.UnaryOp a b c=>f a b c
 |_=>false
theorem K8{f:UnaryOp->Expr->Pos->Bool}{P:Expr->Prop}{e:Expr}(h:U6 f e=true)(H:∀a b c,f a b c=true->P (.UnaryOp a b c)):P e:=by
 cases e<;>first|exact H _ _ _ h|exact(Z3 h).elim
def M0(f:Expr->List CmpOp->List Expr->Pos->Bool):Expr->Bool
 |.Compare a b c d=>f a b c d
 |_=>false
theorem EC{f:Expr->List CmpOp->List Expr->Pos->Bool}{P:Expr->Prop}{e:Expr}(h:M0 f e=true)(H:∀a b c d,f a b c d=true->P (.Compare a b c d)):P e:=by
 cases e<;>first|exact H _ _ _ _ h|exact(Z3 h).elim
def vM(f:BoolOp->List Expr->Pos->Bool):Expr->Bool
 |.BoolOp a b c=>f a b c
 |_=>false
theorem uM{f:BoolOp->List Expr->Pos->Bool}{P:Expr->Prop}{e:Expr}(h:vM f e=true)(H:∀a b c,f a b c=true->P (.BoolOp a b c)):P e:=by
 cases e<;>first|exact H _ _ _ h|exact(Z3 h).elim
def Rc(f:List Expr->Nat->Pos->Bool):Expr->Bool
 |.Tuple a b c=>f a b c
 |_=>false
theorem M1{f:List Expr->Nat->Pos->Bool}{P:Expr->Prop}{e:Expr}(h:Rc f e=true)(H:∀a b c,f a b c=true->P (.Tuple a b c)):P e:=by
 cases e<;>first|exact H _ _ _ h|exact(Z3 h).elim
def Rf(f:List Expr->Pos->Bool):Expr->Bool
 |.List a b=>f a b
 |_=>false
theorem M3{f:List Expr->Pos->Bool}{P:Expr->Prop}{e:Expr}(h:Rf f e=true)(H:∀a b,f a b=true->P (.List a b)):P e:=by
 cases e<;>first|exact H _ _ h|exact(Z3 h).elim
def CQ(f:Expr->Expr->Pos->Bool):Expr->Bool
 |.Subscript a b c=>f a b c
 |_=>false
theorem rX{f:Expr->Expr->Pos->Bool}{P:Expr->Prop}{e:Expr}(h:CQ f e=true)(H:∀a b c,f a b c=true->P (.Subscript a b c)):P e:=by
 cases e<;>first|exact H _ _ _ h|exact(Z3 h).elim
def M4(f:Option Expr->Option Expr->Option Expr->Pos->Bool):Expr->Bool
 |.Slice a b c d=>f a b c d
 |_=>false
theorem ED{f:Option Expr->Option Expr->Option Expr->Pos->Bool}{P:Expr->Prop}{e:Expr}(h:M4 f e=true)(H:∀a b c d,f a b c d=true->P (.Slice a b c d)):P e:=by
 cases e<;>first|exact H _ _ _ _ h|exact(Z3 h).elim
def EE(f:Expr->List Expr->List Keyword->Pos->Bool):Expr->Bool
 |.Call a b c d=>f a b c d
 |_=>false
theorem Bb{f:Expr->List Expr->List Keyword->Pos->Bool}{P:Expr->Prop}{e:Expr}(h:EE f e=true)(H:∀a b c d,f a b c d=true->P (.Call a b c d)):P e:=by
 cases e<;>first|exact H _ _ _ _ h|exact(Z3 h).elim
def Bc(f:Expr->Str->Pos->Bool):Expr->Bool
 |.Attribute a b c=>f a b c
 |_=>false
theorem vN{f:Expr->Str->Pos->Bool}{P:Expr->Prop}{e:Expr}(h:Bc f e=true)(H:∀a b c,f a b c=true->P (.Attribute a b c)):P e:=by
 cases e<;>first|exact H _ _ _ h|exact(Z3 h).elim
def EF(f:Expr->List Comprehension->Scope->Pos->Bool):Expr->Bool
 |.ListComp a b c d=>f a b c d
 |_=>false
theorem Be{f:Expr->List Comprehension->Scope->Pos->Bool}{P:Expr->Prop}{e:Expr}(h:EF f e=true)(H:∀a b c d,f a b c d=true->P (.ListComp a b c d)):P e:=by
 cases e<;>first|exact H _ _ _ _ h|exact(Z3 h).elim
def EG(f:List (Option Expr)->List Expr->Pos->Bool):Expr->Bool
 |.Dict a b c=>f a b c
 |_=>false
theorem Bf{f:List (Option Expr)->List Expr->Pos->Bool}{P:Expr->Prop}{e:Expr}(h:EG f e=true)(H:∀a b c,f a b c=true->P (.Dict a b c)):P e:=by
 cases e<;>first|exact H _ _ _ h|exact(Z3 h).elim
section
variable {α:Type} {f:α -> Bool} {g:α -> List α -> Bool} {P:List α -> Prop} {Q:Option α -> Prop} {l:List α} {b:Bool} {o:Option α}
def ua(l:List α)(b:Bool):Bool:=l.isEmpty&&b
theorem jB(h:ua l b=true)(H:b=true->P []):P l:=by
 cases l with
 |nil=>exact H h
 |cons _ _=>cases h
def kC(f:α -> List α -> Bool):List α -> Bool
 |a::r=>f a r
 |[]=>false
theorem z9(h:kC g l=true)(H:∀a r,g a r=true->P (a::r)):P l:=by
 cases l with
 |nil=>cases h
 |cons a r=>exact H a r h
def k1(f:α -> Bool):List α -> Bool:=kC λa r=>ua r (f a)
theorem iH(h:k1 f l=true)(H:∀a,f a=true->P [a]):P l:=by
 apply z9 h;intro a r h;apply jB h;intro h;exact H a h
def k2(f:α -> α -> Bool):List α -> Bool:=kC λa r=>k1 (f a) r
theorem U7{f:α -> α -> Bool}(h:k2 f l=true)(H:∀a b,f a b=true->P [a,b]):P l:=by
 apply z9 h;intro a r h;apply iH h;intro b h;exact H a b h
def yc(l:Option α)(b:Bool):Bool:=l.isNone&&b
theorem qE(h:yc o b=true)(H:b=true->Q none):Q o:=by
 cases o with
 |none=>exact H h
 |some _=>cases h
def EH(f:α -> Bool)(l:Option α):Bool:=l.any f
theorem Bg(h:EH f o=true)(H:∀a,f a=true->Q (some a)):Q o:=by
 cases o with
 |none=>cases h
 |some a=>exact H a h
def K9[DecidableEq α](a b:α)(c:Bool):Bool:=decide (a=b)&&c
theorem uN[DecidableEq α]{P:α -> Prop}{a d:α}(h:K9 a d b=true)(H:b=true->P d):P a:=by
 rw[K9,and_eq_true,aaM]at h;rw[h.1];exact H h.2
end
def Dp(f:Str->Pos->List Expr->Pos->Bool):Expr->Bool:=EE λg l k p=>iV (λx q=>ua k (f x q l p)) g
theorem jP{f:Str->Pos->List Expr->Pos->Bool}{P:Expr->Prop}{e:Expr}(h:Dp f e=true)(H:∀x q l p,f x q l p=true->P (.Call (.Name x q) l [] p)):P e:=by
 apply Bb h;intro g l k p h;apply eZ h;intro x q h;apply jB h;intro h;exact H x q l p h
def M5(f:Expr->Str->Pos->List Expr->Pos->Bool):Expr->Bool:=EE λg l k p=>Bc (λo x q=>ua k (f o x q l p)) g
theorem uO{f:Expr->Str->Pos->List Expr->Pos->Bool}{P:Expr->Prop}{e:Expr}(h:M5 f e=true)(H:∀o x q l p,f o x q l p=true->P (.Call (.Attribute o x q) l [] p)):P e:=by
 apply Bb h;intro g l k p h;apply vN h;intro o x q h;apply jB h;intro h;exact H o x q l p h
def M6(f:Expr->Expr->List Expr->Int->Bool)(c:Comprehension):Bool:=f c.target c.iter c.ifs c.is_async
theorem EI{f:Expr->Expr->List Expr->Int->Bool}{P:Comprehension->Prop}{c:Comprehension}(h:M6 f c=true)(H:∀a b d i,f a b d i=true->P ⟨a,b,d,i⟩):P c:=by
 cases c;exact H _ _ _ _ h
def Rg(f:Str->Bool):Const->Bool
 |.str s=>f s
 |_=>false
theorem M7{f:Str->Bool}{P:Const->Prop}{e:Const}(h:Rg f e=true)(H:∀s,f s=true->P (.str s)):P e:=by
 cases e<;>first|exact H _ h|exact(Z3 h).elim
theorem Rh{a b:Bool}(h:(a||b)=true):a=true\/b=true:=by
 cases a with
 |true=>exact .inl rfl
 |false=>exact .inr h
def EJ(f:Expr->Pos->Bool):Stmt->Bool
 |.Expr a b=>f a b
 |_=>false
theorem Bh{f:Expr->Pos->Bool}{P:Stmt->Prop}{e:Stmt}(h:EJ f e=true)(H:∀a b,f a b=true->P (.Expr a b)):P e:=by
 cases e<;>first|exact H _ _ h|exact(Z3 h).elim
def Jr(f:List Expr->Expr->Pos->Bool):Stmt->Bool
 |.Assign a b c=>f a b c
 |_=>false
theorem Aa{f:List Expr->Expr->Pos->Bool}{P:Stmt->Prop}{e:Stmt}(h:Jr f e=true)(H:∀a b c,f a b c=true->P (.Assign a b c)):P e:=by
 cases e<;>first|exact H _ _ _ h|exact(Z3 h).elim
def U8(f:Expr->Operator->Expr->Pos->Bool):Stmt->Bool
 |.AugAssign a b c d=>f a b c d
 |_=>false
def Wm(f:Expr->List Stmt->List Stmt->Pos->Bool):Stmt->Bool
 |.If a b c d=>f a b c d
 |_=>false
theorem Ri{f:Expr->List Stmt->List Stmt->Pos->Bool}{P:Stmt->Prop}{e:Stmt}(h:Wm f e=true)(H:∀a b c d,f a b c d=true->P (.If a b c d)):P e:=by
 cases e<;>first|exact H _ _ _ _ h|exact(Z3 h).elim
def Rj(f:Expr->Expr->List Stmt->List Stmt->Pos->Bool):Stmt->Bool
 |.For a b c d i=>f a b c d i
 |_=>false
theorem M8{f:Expr->Expr->List Stmt->List Stmt->Pos->Bool}{P:Stmt->Prop}{e:Stmt}(h:Rj f e=true)(H:∀a b c d i,f a b c d i=true->P (.For a b c d i)):P e:=by
 cases e<;>first|exact H _ _ _ _ _ h|exact(Z3 h).elim
def EK(f:Expr->List Stmt->List Stmt->Pos->Bool):Stmt->Bool
 |.While a b c d=>f a b c d
 |_=>false
theorem EL{f:Expr->List Stmt->List Stmt->Pos->Bool}{P:Stmt->Prop}{e:Stmt}(h:EK f e=true)(H:∀a b c d,f a b c d=true->P (.While a b c d)):P e:=by
 cases e<;>first|exact H _ _ _ _ h|exact(Z3 h).elim
def M9(f:Option Expr->Pos->Bool):Stmt->Bool
 |.Return a b=>f a b
 |_=>false
theorem EM{f:Option Expr->Pos->Bool}{P:Stmt->Prop}{e:Stmt}(h:M9 f e=true)(H:∀a b,f a b=true->P (.Return a b)):P e:=by
 cases e<;>first|exact H _ _ h|exact(Z3 h).elim
def Rk(f:Pos->Bool):Stmt->Bool
 |.Break a=>f a
 |_=>false
theorem Na{f:Pos->Bool}{P:Stmt->Prop}{e:Stmt}(h:Rk f e=true)(H:∀a,f a=true->P (.Break a)):P e:=by
 cases e<;>first|exact H _ h|exact(Z3 h).elim
def Rm(f:Pos->Bool):Stmt->Bool
 |.Continue a=>f a
 |_=>false
theorem Nb{f:Pos->Bool}{P:Stmt->Prop}{e:Stmt}(h:Rm f e=true)(H:∀a,f a=true->P (.Continue a)):P e:=by
 cases e<;>first|exact H _ h|exact(Z3 h).elim
def La(f:Pos->Bool):Stmt->Bool
 |.Pass a=>f a
 |_=>false
theorem Js{f:Pos->Bool}{P:Stmt->Prop}{e:Stmt}(h:La f e=true)(H:∀a,f a=true->P (.Pass a)):P e:=by
 cases e<;>first|exact H _ h|exact(Z3 h).elim
def Nc(f:Nat->Bool):IE->Bool
 |.var i=>f i
 |_=>false
theorem EN{f:Nat->Bool}{P:IE->Prop}{e:IE}(h:Nc f e=true)(H:∀i,f i=true->P (.var i)):P e:=by
 cases e<;>first|exact H _ h|exact(Z3 h).elim
end Hv
end
section
namespace Hv
open PySem L2 PyProof.Rows
structure Tb where
 nc:Nat
 Jt:List Str
 Ju:List (Nat×Str×Nat)
 HU:List (Str×Str×Nat)
 isc:List (Str×List Bool)
structure qF where
 N:List Str
 sc:Scope
 fns:List (Str×Nat)
 cons:List (Str×Val)
 tb:Tb
def qq(sc:Scope)(x:Str):Bool:=(sc.names.lookup x==some .local||sc.names.lookup x==some .cell||sc.names.lookup x==some .free) && !(x==("__debug__":Str)) && !(x==("__classdict__":Str))
def wY(sc:Scope)(x:Str):Bool:=sc.names.lookup x==some .globalImplicit && !(x==("__debug__":Str)) && !(x==("__name__":Str))
def EO:Const->Val->Bool
 |.none,.non=>true
 |.bool a,.bl b=>a==b
 |.int a,.int b=>a==b
 |.str a,.str b=>a==b
 |_,_=>false
def Nd(o:K3)(op:Operator):Bool:=decide (op=Ex o)
def Rn(o:MH)(op:CmpOp):Bool:=decide (op=AZ o)
def Ro:Bl->Str
 |.len=>"len" | .min=>"min" | .max=>"max" | .sorted=>"sorted" | .list=>"list" | .tuple=>"tuple" | .str=>"str" | .int=>"int" | .all=>"all" | .any=>"any" | .isin _=>"isinstance"
def noStar:Expr->Bool
 |.Starred ..=>false
 |_=>true
def qG:Expr->Bool
 |.Slice ..=>false
 |_=>true
def Jv:Expr->Bool
 |.Name ..=>true|.Call ..=>true|.Subscript ..=>true|.List ..=>true|.Tuple ..=>true|.ListComp ..=>true|.Attribute ..=>true|.BinOp ..=>true
 |_=>false
def superB:Expr->Bool
 |.Call (.Name _ _) [] [] _=>false
 |_=>true
def Lb(scope xsc:Scope):Scope :=
 { scope with names:=scope.names.map λ(n,k)=>if (k==.free&&xsc.kind==.function&&xsc.names.lookup n==some .cell) then (n,.cell) else (n,k) }
def qF.vO(Γ:qF)(scope:Scope)(N':List Str):qF:={ Γ with N:=N',sc:=Lb scope Γ.sc }
def yd(Γ:qF):AS->Expr->Bool
 |.one i,.Name x _=>Γ.N[i]?==some x && Γ.sc.names.lookup x==some .local
 | .tup is,.Tuple es _ _=>es.length==is.length&&(is.zip es).all λp=>match p.2 with
  |.Name x _=>Γ.N[p.1]?==some x && Γ.sc.names.lookup x==some .local
  |_=>false
 |_,_=>false
def ye:AS->List Nat
 |.one i=>[i]
 |.tup is=>is
def Yd:Me->Str
 |.join=>"join" | .append=>"append" | .extend=>"extend" | .remove=>"remove" | .pop=>"pop"
def Ac:Val->Val->Bool
 |.non,.non=>true
 |.bl a,.bl b=>a==b
 |.int a,.int b=>a==b
 |.str a,.str b=>a==b
 |_,_=>false
def Lc(Γ:qF)(N':List Str)(js:List (Option Nat))(p q i j:Nat):Expr->Bool:=EF λe1 q1 scope _=>iV (λy1 _=>k1 (M6 λtg iter ifs ia=>iV (λy2 yp=>iV (λdn _=>k1 (M0 λl ops rs _=>iV (λy3 _=>k1 (λop=>K9 op .NotIn (k1 (iV λen ep=>
  ia==0&&gm Γ.N Γ.sc scope N' js&&decide (N'.Nodup)&&yd (Γ.vO scope N') (.one p) (.Name y2 yp)&&js[p]?==some none&&js[q]?==some (some j)&&p != q && !behindInMarks .NotIn (.Name en ep) &&
   (N'[p]?==some y1&&qq (Γ.vO scope N').sc y1)&&(N'[p]?==some y3&&qq (Γ.vO scope N').sc y3)&&(N'[q]?==some en&&qq (Γ.vO scope N').sc en)&&(Γ.N[i]?==some dn&&qq Γ.sc dn)) rs)) ops) l) ifs) iter) tg) q1) e1
def Nf:ng->Bool
 |.nil=>true
 |.cons ..=>false
theorem ES{b:Bool}(h:(Nf es&&b)=true):es=.nil/\b=true:=by
 cases es with
 |nil=>exact⟨rfl,h⟩
 |cons _ _=>cases h
mutual
noncomputable def bA(Γ:qF):IE->Expr->Bool
 |.var i,e=>iV (λx _=>Γ.N[i]?==some x&&qq Γ.sc x) e
 |.cst d,e=>z8 (λc _ _=>EO c d) e
 |.con x d,e=>iV (λy _=>x==y&&wY Γ.sc x && Γ.cons.any λp=>p.1==x&&Ac p.2 d) e
 |.no,_=>false
 |.bin o a b,e=>Rb (λl op r _=>Nd o op&&bA Γ a l&&bA Γ b r) e
 |.neg a,e=>U6 (λq1 l _=>K9 q1 .USub (bA Γ a l)) e
 |.cmp o a b,e=>M0 (λl q1 q2 _=>k1 (λop=>k1 (λr=>Rn o op && !behindInMarks op r&&bA Γ a l&&bA Γ b r) q2) q1) e
 |.chn _ _ _ _ _,_=>false
 |.and a b,e=>vM (λq1 q2 pos=>K9 q1 .And (kC (λl q3=>kC (λm r=>bA Γ a l&&(match r with|[]=>bA Γ b m|n::r'=>bA Γ b (.BoolOp .And (m::n::r') pos))) q3) q2)) e
 |.or a b,e=>vM (λq1 q2 pos=>K9 q1 .Or (kC (λl q3=>kC (λm r=>bA Γ a l&&(match r with|[]=>bA Γ b m|n::r'=>bA Γ b (.BoolOp .Or (m::n::r') pos))) q3) q2)) e
 |.not a,e=>U6 (λq1 l _=>K9 q1 .Not (bA Γ a l)) e
 |.ite _ _ _,_=>false
 |.tup es,e=>Rc (λls _ _=>aU Γ es ls) e
 |.lst es,e=>Rf (λls _=>aU Γ es ls) e
 |.idx a b,e=>CQ (λl r _=>qG r&&bA Γ a l&&bA Γ b r) e
 |.slc a lo hi,e=>CQ (λl q1 _=>M4 (λl' h' q2 _=>yc q2 (bA Γ a l&&(match l' with|none=>cM lo|some e=>!cM lo&&bA Γ lo e)&&(match h' with|none=>cM hi|some e=>!cM hi&&bA Γ hi e))) q1) e
 |.call j es,e=>Dp (λx _ args _=>wY Γ.sc x && Γ.fns[j]?==some (x,args.length)&&decide (args.length<1000)&&aU Γ es args) e||M5 (λq1 m ap args cp=>iV (λx _=>wY Γ.sc x && Γ.tb.HU.contains (x,m,j)&&(match Γ.fns[j]? with|some (_,n)=>n==1000+args.length|none=>false)&&decide (args.length<29)&&ap.endLine==cp.line&&aU Γ es args && !args.isEmpty) q1) e
 | .blt b es,e=>Dp (λx _ args _=>wY Γ.sc x&&x==Ro b&&(match b with
   |.isin T=>(match args with|[a,.Name y _]=>wY Γ.sc y&&y==(T:Str)&&["list","tuple","str","bool","int","dict"].contains T&&aU Γ es [a]|_=>false)
   |_=>!args.isEmpty&&aU Γ es args)) e
 |.met m a es,e=>M5 (λo x ap args cp=>x==Yd m&&superB o && !args.isEmpty&&decide (args.length<29)&&ap.endLine==cp.line&&bA Γ a o&&aU Γ es args) e
 | .comp N' js pat k it c elt,e=>EF (λe q1 scope _=>k1 (λq2=>M6 (λtg iter ifs q3=>K9 q3 0 (gm Γ.N Γ.sc scope N' js&&Bj Γ k it iter&&decide (N'.Nodup)&&yd (Γ.vO scope N') pat tg&&((ye pat).all λi=>js[i]?==some none)&&(match k,pat with|.enum,.one _=>false|.zip,.one _=>false|_,_=>true) &&
   (match ifs with|[]=>cM c|[t]=>!cM c&&bA (Γ.vO scope N') c t|_=>false)&&bA (Γ.vO scope N') elt e)) q2) q1) e
 |.dct0,e=>EG (λq1 q2 _=>ua q1 (ua q2 (true))) e
 |.sset a,e=>Dp (λx _ q1 _=>k1 (λq2=>Dp (λy _ q3 _=>k1 (λl=>x==("sorted":Str)&&y==("set":Str)&&wY Γ.sc x&&wY Γ.sc y&&noStar l&&bA Γ a l) q3) q2) q1) e
 |.dget d k x,e=>M5 (λo m ap q1 cp=>k2 (λa b=>m==("get":Str)&&superB o&&noStar a&&noStar b&&ap.endLine==cp.line&&bA Γ d o&&bA Γ k a&&bA Γ x b) q1) e
 |.dct1 k v,e=>EG (λq1 q2 _=>k1 (λq3=>EH (λa=>k1 (λb=>bA Γ k a&&bA Γ v b) q2) q3) q1) e
 |.lkeys d,e=>Dp (λx _ q1 _=>k1 (λq2=>M5 (λo m ap q3 cp=>ua q3 (x==("list":Str)&&m==("keys":Str)&&wY Γ.sc x&&superB o&&ap.endLine==cp.line&&bA Γ d o)) q2) q1) e||Dp (λx _ q1 _=>k1 (λq2=>iV (λy q=>x==("list":Str)&&wY Γ.sc x&&bA Γ d (.Name y q)) q2) q1) e
 |.sdef _ _ _,_=>false
 |.svals _,_=>false
 |.skeys d,e=>Dp (λx _ q1 _=>k1 (λq2=>M5 (λo m ap q3 cp=>ua q3 (x==("sorted":Str)&&m==("keys":Str)&&wY Γ.sc x&&superB o&&ap.endLine==cp.line&&bA Γ d o)) q2) q1) e||Dp (λx _ q1 _=>k1 (λq2=>iV (λy q=>x==("sorted":Str)&&wY Γ.sc x&&bA Γ d (.Name y q)) q2) q1) e||Dp (λx _ q1 _=>k1 (λq2=>CQ (λa b q=>x==("sorted":Str)&&wY Γ.sc x&&bA Γ d (.Subscript a b q)) q2) q1) e
 |.fld n a x,e=>Bc (λo y _=>x==y&&superB o&&n == Γ.tb.nc && Γ.tb.Jt.contains x&&bA Γ a o) e
 |.rev a s,e=>CQ (λl q1 _=>M4 (λq2 q3 st _=>yc q2 (yc q3 (bA Γ a l&&st.isSome&&(match st with|none=>cM s|some e=>!cM s&&bA Γ s e)))) q1) e
 |.dflt N' js p q d w,e=>Nc (λi=>Nc (λj=>Lc Γ N' js p q i j e) w) d
 |.isc _ _ _,_=>false
 |.mth a m js es,e=>M5 (λo x ap args cp=>x==m&&superB o&&decide (args.length<29)&&ap.endLine==cp.line&&(js.all λp=>decide (p.1 < Γ.tb.nc) && Γ.tb.Ju.contains (p.1,m,p.2)&&(match Γ.fns[p.2]? with|some (_,n)=>n==1001+args.length|none=>false))&&bA Γ a o&&aU Γ es args) e
noncomputable def aU(Γ:qF):ng->List Expr->Bool
 |.nil,ls=>ls.isEmpty
 | .cons e es,ls=>match ls with
  |l::ls=>noStar l&&bA Γ e l&&aU Γ es ls
  |[]=>false
noncomputable def Bj(Γ:qF)(k:Ik):ng->Expr->Bool
 |.nil,_=>false
 | .cons e es,l=>match k with
  |.seq=>Nf es&&(Jv l&&bA Γ e l)
  |.range=>Dp (λx _ as _=>kC (λa args=>x==("range":Str)&&wY Γ.sc x&&noStar a&&bA Γ e a&&aU Γ es args&&decide (args.length<2)) as) l
  |.enum=>Nf es&&Dp (λx _ as _=>k1 (λa=>x==("enumerate":Str)&&wY Γ.sc x&&noStar a&&bA Γ e a) as) l
  |.zip=>false
end
abbrev Fn:=Nat->List Val->M Val
def cP(K:Frag)(ρ:List Addr)(env:Env)(σ:L2.St)(H:Hp):Prop:=∀(i:Nat) (v:Val),env[i]?=some (some v)->∃x,σ[i]?=some (some x)/\VR K ρ H v x
theorem cP.lF{K:Frag}{ρ ρ':List Addr}{env:Env}{σ:L2.St}{H H':Hp}(e:cP K ρ env σ H)(g:Gw ρ H ρ' H'):cP K ρ' env σ H':=λi v q=>by
 obtain⟨x,q1,q2⟩:=e i v q;exact⟨x,q1,VR.lF g v x q2⟩
theorem cP.up{K:Frag}{ρ ρ':List Addr}{env:Env}{σ:L2.St}{H H':Hp}(e:cP K ρ env σ H)(g:Gr ρ H ρ' H'):cP K ρ' env σ H':=e.lF g.w
def Ye(K:Frag)(Q:List V->Hp->Prop):List Val->Hs->List Addr->Hp->Prop:=λvs _ ρ' H'=>∀xs,ay K ρ' H' vs xs->Q xs H'
def WT(Q:Bool->Hp->Prop):Bool->Hs->List Addr->Hp->Prop:=λb _ _ H'=>Q b H'
def Ng(Φ:Fn)(ir:IE)(env:Env):M Bool:=bnd (az Φ ir env) λx=>ask λh=>bW h x
def tV(Φ:Fn)(B:Bd)(EX:Nat->List V->Hp->Prop)(ir:IE):TE:=λσ H Q=>∃ρ env h,cP B.K ρ env σ H/\HR B ρ h H/\Post B EX ρ H (WV B.K Q) (az Φ ir env h)
def Wn(Φ:Fn)(B:Bd)(EX:Nat->List V->Hp->Prop)(eN:ng):TA:=λσ H Q=>∃ρ env h,cP B.K ρ env σ H/\HR B ρ h H/\Post B EX ρ H (Ye B.K Q) (aK Φ eN env h)
def tT(Φ:Fn)(B:Bd)(EX:Nat->List V->Hp->Prop)(ir:IE):TT:=λσ H Q=>∃ρ env h,cP B.K ρ env σ H/\HR B ρ h H/\Post B EX ρ H (WT Q) (Ng Φ ir env h)
theorem _root_.L2.PE.imp(h:PE X e t)(i:∀σ H Q,t' σ H Q->t σ H Q):PE X e t':=λpins s σ H Q I hw=>h pins s σ H Q I (i σ H Q hw)
theorem _root_.L2.PT.imp(h:PT X e t)(i:∀σ H Q,t' σ H Q->t σ H Q):PT X e t':=λpins s σ H Q I hw=>h pins s σ H Q I (i σ H Q hw)
theorem _root_.L2.PA.imp(h:PA X es t)(i:∀σ H Q,t' σ H Q->t σ H Q):PA X es t':=λpos pins s σ H Q I hw=>h pos pins s σ H Q I (i σ H Q hw)
theorem _root_.L2.PO.imp(h:PO X e t)(i:∀σ H Q,t' σ H Q->t σ H Q):PO X e t':=λpins s σ H Q I hw=>h pins s σ H Q I (i σ H Q hw)
theorem _root_.L2.PI.imp(h:PI X tg iter t)(i:∀σ H R,t' σ H R->t σ H R):PI X tg iter t':=λpins s σ H R I hw=>h pins s σ H R I (i σ H R hw)
theorem bg{α β γ:Type}(m:M α)(f:α -> M β)(g:β -> M γ):bnd (bnd m f) g=bnd m λx=>bnd (f x) g:=by
 funext h;show (match (match m h with|.ok a h'=>f a h'|.exc c vs h'=>.exc c vs h'|.no=>.no) with|.ok a h'=>g a h'|.exc c vs h'=>.exc c vs h'|.no=>.no)=(match m h with|.ok a h'=>bnd (f a) g h'|.exc c vs h'=>.exc c vs h'|.no=>.no);cases m h<;>rfl
theorem cQ{α β:Type}(a:α)(f:α -> M β):bnd (ret a) f=f a:=rfl
def vP(B:Bd)(n:Nat)(φ:List Val->M Val):Sp:=λxs H Q _=>∃ρ h vs,vs.length=n/\HR B ρ h H/\ay B.K ρ H vs xs/\Post B (λ_ _ _=>False) ρ H (WV B.K Q) (φ vs h)
def PF(P:Program)(w:World)(B:Bd)(mg:Str->Option Value)(base:Heap)(k:Nat)(j:Nat)(x:Str)(n:Nat)(φ:List Val->M Val):Prop :=
 (n<1000/\((∃(f:Addr) (fd:FuncData) (ps:List Str),ps.length=n/\mg x=some (.ref f)/\keepIn B.K (.ref f)=true/\Binds B.K fd ps []/\fF P w B.K mg base zu k f fd ps (vP B n φ)) \/
  ∃(c:Nat) (f:Addr) (fd:FuncData) (ps:List Str) (φ0:List Val->M Val),φ = Dm c φ0/\ps.length=n+1/\mg x=some (.ref (B.cl c))/\Mk B.K (B.cl c) f/\Binds B.K fd ps []/\fF P w B.K mg base zu k f fd ps (vP B (n+1) φ0))) \/
 (1000<=n/\∃(fd:FuncData) (ps:List Str),ps.length=n-1000/\Binds B.K fd ps []/\fF P w B.K mg base zu k (B.cl (1000+j)) fd ps (vP B (n-1000) φ))
def bltNames:List Str:=["len","min","max","sorted","list","tuple","str","all","any","isinstance","range","enumerate","int","bool","dict","set","zip"]
structure Ctx (Φ:Fn) (Γ:qF) (k:Nat) (X:Cx) (cl:Nat->Addr) (EX:Nat->List V->Hp->Prop):Prop where
 N:X.N = Γ.N
 sc:X.env.scope = Γ.sc
 calm:X.calm=true
 room:dD (k+1) X.A
 lZ:∀c xs H,¬ EX c xs H
 fns:∀j x n,Γ.fns[j]?=some (x,n)->PF X.prog X.w (bd X cl) X.mg X.base k j x n (Φ j)
 cls:∀c,c < Γ.tb.nc->Dl X.K (cl c)/\∀x ∈ Γ.tb.Jt,kc X.K (cl c) x
 Ju:∀p ∈ Γ.tb.Ju,Meth X.K (cl p.1) p.2.1 (cl (1000+p.2.2))
 HU:∀p ∈ Γ.tb.HU,∃C,X.mg p.1=some (.ref C)/\MF X.K C p.2.1 (cl (1000+p.2.2))
 isc:∀p ∈ Γ.tb.isc,∃C,X.mg p.1=some (.ref C)/\∀c b,p.2[c]?=some b->Wk X.K (cl c)/\kitOne X.K (.ref (cl c)) (.ref C)=some b
 cons:∀p ∈ Γ.cons,∃v u,X.mg p.1=some u/\RelV v u/\∀K ρ H,VR K ρ H p.2 v
 blt:∀x∈bltNames,X.mg x=none
section
variable {Φ:Fn} {Γ:qF} {k:Nat} {X:Cx} {cl:Nat->Addr} {EX:Nat->List V->Hp->Prop}
theorem Ctx.units(c:Ctx Φ Γ k X cl EX):X.A.units+64<cLine:=c.room.units
theorem Ctx.vis(c:Ctx Φ Γ k X cl EX)(h:qq Γ.sc x=true):vh X.env.scope x/\(x==("__debug__":Str))=false/\(x==("__classdict__":Str))=false:=by
 unfold qq at h;simp only[and_eq_true,or_eq_true,beq_iff_eq,not_eq_true']at h;obtain⟨⟨h1,h2⟩,h3⟩:=h;refine⟨?_,h2,h3⟩;unfold vh;rw[c.sc]
 rcases h1 with (z|z)|z
 ·exact .inl z
 ·exact .inr (.inl z)
 ·exact .inr (.inr z)
theorem Ctx.gl(c:Ctx Φ Γ k X cl EX)(h:wY Γ.sc x=true):Gl X x/\(x==("__debug__":Str))=false/\x ≠ "__name__":=by
 unfold wY at h;simp only[and_eq_true,beq_iff_eq,not_eq_true']at h;obtain⟨⟨h1,h2⟩,h3⟩:=h;refine⟨?_,h2,λz=>by rw[z]at h3;simp at h3⟩;show X.env.scope.names.lookup x=_;rw[c.sc];exact h1
theorem Ctx.vO(c:Ctx Φ Γ k X cl EX)(scope:Scope)(N':List Str)(cls:List (Str×Addr))(C:Addr)(s:Shared)(H:Hp)(fp:List Addr):Ctx Φ (Γ.vO scope N') k (bz X scope N' cls C s H fp) cl EX:=by
 refine⟨rfl,?_,c.calm,c.room,c.lZ,c.fns,c.cls,c.Ju,c.HU,c.isc,c.cons,c.blt⟩;show relabel scope X.env=Lb scope Γ.sc;rw[<-c.sc];rfl
theorem aZ(h:noStar e=true):starEach (e::es) env=(false,eval e env)::starEach es env:=by
 cases e<;>first|rfl|(simp[noStar]at h)
theorem fZ:∀{es:List Expr} {eN:ng},aU Γ eN es=true->(backTo pos (starEach es env)).any (·.1)=false
 |[],_,_=>rfl
 |e::es,.nil,h=>by simp[aU]at h
 | e::es,.cons i eN,h=>by
  simp only[aU,and_eq_true]at h;rw[aZ h.1.1];show (false||(backTo pos (starEach es env)).any (·.1))=false;rw[fZ (eN:=eN) h.2];rfl
theorem rY(h:aU Γ eN es=true):(backTo pos (starEach es env)).all (λx=>!x.1)=true:=by
 have q:=fZ (pos:=pos) (env:=env) h;rw[all_eq_true];intro x hx;have:=List.any_eq_false.mp q x hx;simpa using this
theorem Ad(h:qG e=true):AI e:=by
 intro o i;cases e<;>first|rfl|(simp[qG]at h)
theorem super_ok(h:superB e=true):attributeBase e x env whole=whole:=by
 cases e<;>first
  |rfl
  |skip
 rename_i f args kws pos;cases f<;>first
  |rfl
  |skip
 cases args with
 |cons a r=>rfl
 |nil=>
  cases kws with
  |cons a r=>rfl
  |nil=>simp[superB]at h
theorem b6(q:PE X e (tV Φ (bd X cl) EX ir))(he:∀whole,isTrue e X.env whole=(do let v <-whole;standAt e.pos;holding [v] (truthy v))):PT X e (tT Φ (bd X cl) EX ir) :=
 (DI q he).imp λσ H Q ⟨ρ,env,h,hE,r,p⟩=>⟨ρ,env,h,hE,r,av p λv h1 ρ1 x H1 g1 r1 q1 p1=>by
  obtain⟨b,e,w⟩:=cZ r1 p1;exact⟨b,MN r1 q1 e,w⟩⟩
theorem DG:Tt X (unaryOp .USub) (λx H Q=>∃i,x=.int i/\Q (.int (-i)) H):=by
 intro pins s σ H x v Q I rx h;obtain⟨i,rfl,q⟩:=h;obtain⟨t,rfl⟩:=rx;exact neg_int ⟨.int (-i),H,I.tok _,⟨_,rfl⟩,q⟩
theorem Ld(h:PT X (.BoolOp op vs pos) t):PW X (.BoolOp op vs pos) t:=λwhole pins s σ H Q I hw=>h pins s σ H Q I hw
def b9(Φ:Fn)(ir:IE):Prop:=∀(Γ:qF) (k:Nat) (X:Cx) (cl:Nat->Addr) (EX:Nat->List V->Hp->Prop) (e:Expr),Ctx Φ Γ k X cl EX->bA Γ ir e=true->PE X e (tV Φ (bd X cl) EX ir)/\PT X e (tT Φ (bd X cl) EX ir)
def ko(Φ:Fn)(eN:ng):Prop:=(∀(Γ:qF) (k:Nat) (X:Cx) (cl:Nat->Addr) (EX:Nat->List V->Hp->Prop) (es:List Expr),Ctx Φ Γ k X cl EX->aU Γ eN es=true->PA X es (Wn Φ (bd X cl) EX eN))/\match eN with
 |.nil=>True
 | .cons e r=>b9 Φ e/\match r with
  |.nil=>True
  |.cons e' _=>b9 Φ e'
theorem Jw(h:Nd o op=true):op=Ex o:=aar h
theorem Jx(h:Rn o op=true):op=AZ o:=aar h
theorem rZ(hs:∀env h,az Φ ir env h=.no):b9 Φ ir:=by
 intro Γ k X cl EX e c h;exact⟨λpins s σ H Q I ⟨ρ,env,h,hE,r,p⟩=>by rw[hs]at p;exact p.elim,λpins s σ H Q I ⟨ρ,env,h,hE,r,p⟩=>by unfold Ng bnd at p;rw[hs]at p;exact p.elim⟩
theorem Nh{i:Nat}:b9 Φ (.var i):=by
 intro Γ k X cl EX e c h;apply eZ h;intro x pos h;simp only[and_eq_true,beq_iff_eq]at h;obtain⟨v1,v2,v3⟩:=c.vis h.2;have q:PE X (.Name x pos) (tV Φ (bd X cl) EX (.var i)):=by refine(zy (by rw[c.N];exact h.1) v1 v2 v3).imp λσ H Q aO=>?_;obtain⟨ρ,env,h,hE,r,p⟩:=aO;rw[az.eq_def]at p;dsimp only at p;obtain⟨d,e1,w⟩:=dR r p;split at e1<;>cases e1;rename_i e1;obtain⟨x,e2,e3⟩:=hE i d e1;exact⟨x,e2,w x e3⟩
 exact⟨q,b6 q λ_=>rfl⟩
theorem Ni:b9 Φ (.cst d):=by
 intro Γ k X cl EX e c h;apply yb h;intro cc j pos h;have q:PE X (.Constant cc j pos) (tV Φ (bd X cl) EX (.cst d)):=by
  unfold EO at h;split at h<;>first|cases h|skip
  ·refine LD.imp λσ H Q aO=>?_;obtain⟨ρ,env,h,hE,r,p⟩:=aO;simp only[az]at p;exact aj r p _ VR.non
  ·cases eq_of_beq h;refine Qd.imp λσ H Q aO=>?_;obtain⟨ρ,env,h,hE,r,p⟩:=aO;simp only[az]at p;exact aj r p _ VR.bl
  ·cases eq_of_beq h;refine LC.imp λσ H Q aO=>?_;obtain⟨ρ,env,h,hE,r,p⟩:=aO;simp only[az]at p;exact aj r p _ VR.int
  ·cases eq_of_beq h;refine LF.imp λσ H Q aO=>?_;obtain⟨ρ,env,h,hE,r,p⟩:=aO;simp only[az]at p;exact aj r p _ VR.str
 exact⟨q,b6 q λ_=>rfl⟩
theorem CS(h:Ac a b=true):a=b:=by
 unfold Ac at h;split at h<;>first|rfl|(cases eq_of_beq h;rfl)|cases h
theorem Nj:b9 Φ (.con x d):=by
 intro Γ k X cl EX e c h;apply eZ h;intro y pos h;simp only[and_eq_true,beq_iff_eq]at h;obtain⟨⟨h1,h2⟩,h3⟩:=h;subst h1;obtain⟨g1,g2,g3⟩:=c.gl h2;obtain⟨p,hp,h4⟩:=List.any_eq_true.mp h3;simp only[and_eq_true,beq_iff_eq]at h4;obtain⟨v,u,m1,m2,m3⟩:=c.cons p hp;rw[h4.1]at m1;have q:PE X (.Name x pos) (tV Φ (bd X cl) EX (.con x d)):=by refine(Ib g1 m1 m2 g2).imp λσ H Q aO=>?_;obtain⟨ρ,env,h,hE,r,p⟩:=aO;simp only[az]at p;exact aj r p _ (by rw[<-CS h4.2];exact m3 _ _ _)
 exact⟨q,b6 q λ_=>rfl⟩
theorem Rp:b9 Φ .no:=by
 intro Γ k X cl EX e c h
 (conv at h=>lhs;whnf);cases h
theorem ET:ko Φ .nil:=by
 refine⟨fun Γ k X cl EX es c h=>?_,trivial⟩;rw[aU]at h;cases es with
 |cons a r=>cases h
 |nil=>refine DL.imp λσ H Q aO=>?_;obtain⟨ρ,env,h,hE,r,p⟩:=aO;simp only[aK]at p;exact aj r p _ ay.nil
theorem Bk(h1:b9 Φ e)(h2:ko Φ es):ko Φ (.cons e es):=by
 refine⟨fun Γ k X cl EX ls c h=>?_,h1,?_⟩
 ·rw[aU.eq_def]at h;dsimp only at h
  cases ls with
  |nil=>cases h
  |cons l ls=>simp only[and_eq_true]at h;refine(vp (h1 Γ k X cl EX l c h.1.2).1 (h2.1 Γ k X cl EX ls c h.2) (aZ h.1.1)).imp λσ H Q aO=>?_;obtain⟨ρ,env,h,hE,r,p⟩:=aO;simp only[aK]at p;refine⟨ρ,env,h,hE,r,av p λv h1 ρ1 x H1 g1 r1 q1 p1=>⟨ρ1,env,h1,hE.up g1,r1,bf p1 λvs h2 ρ2 H2 g2 r2 p2 xs q2=>?_⟩⟩;exact aj r2 p2 _ (ay.cons (VR.up g2 _ _ q1) q2)
 ·cases es with
  |nil=>trivial
  |cons e' r=>exact h2.2.1
theorem Nk(ha:b9 Φ a)(hb:b9 Φ b):b9 Φ (.bin o a b):=by
 intro Γ k X cl EX e c h;apply MZ h;intro l op r pos h;simp only[and_eq_true]at h;obtain⟨⟨h1,h2⟩,h3⟩:=h;have eo:op=Ex o:=Jw h1;subst eo;have q:PE X (.BinOp l (Ex o) r pos) (tV Φ (bd X cl) EX (.bin o a b)):=by refine(Qv (ML (cl:=cl) (EX:=EX) o) (ha Γ k X cl EX l c h2).1 (hb Γ k X cl EX r c h3).1).imp λσ H Q aO=>?_;obtain⟨ρ,env,h,hE,r,p⟩:=aO;simp only[az]at p;exact⟨ρ,env,h,hE,r,av p λv h1 ρ1 x H1 g1 r1 q1 p1=>⟨ρ1,env,h1,hE.up g1,r1,av p1 λw h2 ρ2 y H2 g2 r2 q2 p2=>⟨ρ2,h2,v,w,r2,VR.up g2 _ _ q1,q2,p2⟩⟩⟩
 exact⟨q,b6 q λ_=>rfl⟩
theorem Nl(ha:b9 Φ a):b9 Φ (.neg a):=by
 intro Γ k X cl EX e c h;apply K8 h;intro q1 l pos h;apply uN h;intro h;have q:PE X (.UnaryOp .USub l pos) (tV Φ (bd X cl) EX (.neg a)):=by
  refine(Qw DG (ha Γ k X cl EX l c h).1).imp λσ H Q aO=>?_;obtain⟨ρ,env,h,hE,r,p⟩:=aO;simp only[az]at p;refine⟨ρ,env,h,hE,r,av p λv h1 ρ1 x H1 g1 r1 q1 p1=>?_⟩;cases v<;>first|exact p1.elim|skip
  rw[VR]at q1;exact⟨_,q1,aj r1 p1 _ VR.int⟩
 exact⟨q,b6 q λ_=>rfl⟩
theorem Nm(ha:b9 Φ a)(hb:b9 Φ b):b9 Φ (.cmp o a b):=by
 intro Γ k X cl EX e c h;apply EC h;intro l q1 q2 pos h;apply iH h;intro op h;apply iH h;intro r h;simp only[and_eq_true,not_eq_true']at h;obtain⟨⟨⟨h1,h4⟩,h2⟩,h3⟩:=h;have eo:op=AZ o:=Jx h1;subst eo;refine⟨(Iq (EA (cl:=cl) c.units o) (ha Γ k X cl EX l c h2).1 (hb Γ k X cl EX r c h3).1 h4).imp λσ H Q ⟨ρ,env,h,hE,r,p⟩=>?_,(AE (EA (cl:=cl) c.units o) (ha Γ k X cl EX l c h2).1 (hb Γ k X cl EX r c h3).1 h4).imp λσ H Q ⟨ρ,env,h,hE,r,p⟩=>?_⟩
 ·simp only[az]at p;refine⟨ρ,env,h,hE,r,av p λv h1 ρ1 x H1 g1 r1 q1 p1=>⟨ρ1,env,h1,hE.up g1,r1,av p1 λw h2 ρ2 y H2 g2 r2 q2 p2=>?_⟩⟩;obtain⟨t,e,p3⟩:=aD p2;exact⟨ρ2,h2,v,w,t,r2,VR.up g2 _ _ q1,q2,e,aj r2 p3 _ VR.bl⟩
 ·simp only[Ng,az,bg,cQ]at p;refine⟨ρ,env,h,hE,r,av p λv h1 ρ1 x H1 g1 r1 q1 p1=>⟨ρ1,env,h1,hE.up g1,r1,av p1 λw h2 ρ2 y H2 g2 r2 q2 p2=>?_⟩⟩;obtain⟨t,e,p3⟩:=aD p2;obtain⟨t',e',w'⟩:=cZ r2 p3;cases (show some t=some t' from e');exact⟨ρ2,h2,v,w,t,r2,VR.up g2 _ _ q1,q2,e,t,rfl,w'⟩
theorem Nn(ha:b9 Φ a)(hb:b9 Φ b)(hd:b9 Φ d):b9 Φ (.chn o o' a b d):=rZ λ_ _=>rfl
end
section
variable {B:Bd} {EX:Nat->List V->Hp->Prop} {ρ:List Addr} {H:Hp} {β:Type} {W:β -> Hs->List Addr->Hp->Prop} {h:Hs}
theorem post_bool(p:Post B EX ρ H W (bnd (rQ v) f h)):∃t,v=.bl t/\Post B EX ρ H W (f t h):=by
 cases v with
 |bl t=>exact⟨t,rfl,p⟩
 |_=>exact p.elim
theorem oU(p:Post B EX ρ H W (bnd m F h))(k:∀v h1,Post B EX ρ H W (F v h1)->∃t,bW h1 v=some t/\∀ρ1 H1,Gr ρ H ρ1 H1->HR B ρ1 h1 H1->Q t H1) :
  Post B EX ρ H (WT Q) (bnd m (λx=>ask λh=>bW h x) h):=by
 unfold bnd at p |-;cases e:m h with
 |ok v h1=>
  rw[e]at p;obtain⟨t,e1,q⟩:=k v h1 p;show Post B EX ρ H (WT Q) (ask (λh=>bW h v) h1);have e2:ask (λh=>bW h v) h1=.ok t h1:=by unfold ask bI;dsimp only;rw[e1]
  rw[e2];exact λρ1 H1 g r=>q ρ1 H1 g r
 |exc c vs h1=>rw[e]at p;exact p
 |no=>rw[e]at p;exact p
end
section
variable {Φ:Fn} {Γ:qF} {k:Nat} {X:Cx} {cl:Nat->Addr} {EX:Nat->List V->Hp->Prop}
theorem Np(ha:b9 Φ a)(hb:b9 Φ b):b9 Φ (.and a b):=by
 intro Γ k X cl EX e c h;apply uM h;intro q1 q2 pos h;apply uN h;intro h;apply z9 h;intro l q3 h;apply z9 h;intro m r h;simp only[and_eq_true]at h;obtain⟨h1,h2⟩:=h;have hB:PE X (.BoolOp .And (m::r) pos) (tV Φ (bd X cl) EX b)/\PW X (.BoolOp .And (m::r) pos) (tT Φ (bd X cl) EX b):=by
  cases r with
  |nil=>exact⟨Du (hb Γ k X cl EX m c h2).1,Ie (hb Γ k X cl EX m c h2).2⟩
  |cons n r'=>exact⟨(hb Γ k X cl EX _ c h2).1,Ld (hb Γ k X cl EX _ c h2).2⟩
 refine⟨(LJ (ha Γ k X cl EX l c h1).1 hB.1).imp λσ H Q ⟨ρ,env,h,hE,r,p⟩=>?_,(LH (ha Γ k X cl EX l c h1).2 hB.2).pt.imp λσ H Q ⟨ρ,env,h,hE,r,p⟩=>?_⟩
 ·simp only[az]at p
  refine⟨ρ,env,h,hE,r,av p λv h1 ρ1 x H1 g1 r1 q1 p1=>?_⟩;obtain⟨t,rfl,p2⟩:=post_bool p1;rw[VR]at q1;refine⟨t,q1,?_⟩;cases t with
  |true=>rw[aab rfl]at p2 |-;refine⟨ρ1,env,h1,hE.up g1,r1,av p2 λw h2 ρ2 y H2 g2 r2 q2 p3=>?_⟩;obtain⟨u,rfl,p4⟩:=post_bool p3;exact aj r2 p4 _ q2
  |false=>rw[aad Z3]at p2 |-;exact aj r1 p2 _ VR.bl
 ·simp only[Ng,az,bg]at p
  refine⟨ρ,env,h,hE,r,oU p λv h1 p1=>?_⟩;obtain⟨t,rfl,p2⟩:=post_bool p1;refine⟨t,rfl,λρ1 H1 g1 r1=>?_⟩;have p2:=Post.up g1 p2;cases t with
  |true=>rw[aab rfl]at p2 |-;simp only[bg,cQ]at p2;refine⟨ρ1,env,h1,hE.up g1,r1,oU p2 λw h2 p3=>?_⟩;obtain⟨u,rfl,p4⟩:=post_bool p3;exact⟨u,rfl,λρ2 H2 g2 r2=>by obtain⟨t',e',w'⟩:=cZ r2 (Post.up g2 p4);cases (show some u=some t' from e');exact w'⟩
  |false=>rw[aad Z3]at p2 |-;obtain⟨t',e',w'⟩:=cZ r1 (show Post _ _ ρ1 H1 _ (ask (λh=>bW h (.bl false)) h1) from p2);cases (show some false=some t' from e');exact w'
theorem Rq(ha:b9 Φ a)(hb:b9 Φ b):b9 Φ (.or a b):=by
 intro Γ k X cl EX e c h;apply uM h;intro q1 q2 pos h;apply uN h;intro h;apply z9 h;intro l q3 h;apply z9 h;intro m r h;simp only[and_eq_true]at h;obtain⟨h1,h2⟩:=h;have hB:PE X (.BoolOp .Or (m::r) pos) (tV Φ (bd X cl) EX b)/\PW X (.BoolOp .Or (m::r) pos) (tT Φ (bd X cl) EX b):=by
  cases r with
  |nil=>exact⟨Du (hb Γ k X cl EX m c h2).1,LG (hb Γ k X cl EX m c h2).2⟩
  |cons n r'=>exact⟨(hb Γ k X cl EX _ c h2).1,Ld (hb Γ k X cl EX _ c h2).2⟩
 refine⟨(Qh (ha Γ k X cl EX l c h1).1 hB.1).imp λσ H Q ⟨ρ,env,h,hE,r,p⟩=>?_,(Qe (ha Γ k X cl EX l c h1).2 hB.2).pt.imp λσ H Q ⟨ρ,env,h,hE,r,p⟩=>?_⟩
 ·simp only[az]at p
  refine⟨ρ,env,h,hE,r,av p λv h1 ρ1 x H1 g1 r1 q1 p1=>?_⟩;obtain⟨t,rfl,p2⟩:=post_bool p1;rw[VR]at q1;refine⟨t,q1,?_⟩;cases t with
  |false=>rw[aad Z3]at p2 |-;refine⟨ρ1,env,h1,hE.up g1,r1,av p2 λw h2 ρ2 y H2 g2 r2 q2 p3=>?_⟩;obtain⟨u,rfl,p4⟩:=post_bool p3;exact aj r2 p4 _ q2
  |true=>rw[aab rfl]at p2 |-;exact aj r1 p2 _ VR.bl
 ·simp only[Ng,az,bg]at p
  refine⟨ρ,env,h,hE,r,oU p λv h1 p1=>?_⟩;obtain⟨t,rfl,p2⟩:=post_bool p1;refine⟨t,rfl,λρ1 H1 g1 r1=>?_⟩;have p2:=Post.up g1 p2;cases t with
  |false=>rw[aad Z3]at p2 |-;simp only[bg,cQ]at p2;refine⟨ρ1,env,h1,hE.up g1,r1,oU p2 λw h2 p3=>?_⟩;obtain⟨u,rfl,p4⟩:=post_bool p3;exact⟨u,rfl,λρ2 H2 g2 r2=>by obtain⟨t',e',w'⟩:=cZ r2 (Post.up g2 p4);cases (show some u=some t' from e');exact w'⟩
  |true=>rw[aab rfl]at p2 |-;obtain⟨t',e',w'⟩:=cZ r1 (show Post _ _ ρ1 H1 _ (ask (λh=>bW h (.bl true)) h1) from p2);cases (show some true=some t' from e');exact w'
theorem Nq(ha:b9 Φ a):b9 Φ (.not a):=by
 intro Γ k X cl EX e c h;apply K8 h;intro q1 l pos h;apply uN h;intro h;refine⟨(LK (ha Γ k X cl EX l c h).1).imp λσ H Q ⟨ρ,env,h,hE,r,p⟩=>?_,(LI (ha Γ k X cl EX l c h).2).imp λσ H Q ⟨ρ,env,h,hE,r,p⟩=>?_⟩
 ·simp only[az]at p;refine⟨ρ,env,h,hE,r,av p λv h1 ρ1 x H1 g1 r1 q1 p1=>?_⟩;obtain⟨t,rfl,p2⟩:=post_bool p1;rw[VR]at q1;exact⟨t,q1,aj r1 p2 _ VR.bl⟩
 ·simp only[Ng,az,bg]at p;refine⟨ρ,env,h,hE,r,oU p λv h1 p1=>?_⟩;obtain⟨t,rfl,p2⟩:=post_bool p1;refine⟨t,rfl,λρ1 H1 g1 r1=>?_⟩;obtain⟨t',e',w'⟩:=cZ r1 (show Post _ _ ρ1 H1 _ (ask (λh=>bW h (.bl (!t))) h1) from Post.up g1 p2);cases (show some (!t)=some t' from e');exact w'
theorem Nr(ht:b9 Φ t)(ha:b9 Φ a)(hb:b9 Φ b):b9 Φ (.ite t a b):=rZ λ_ _=>rfl
theorem Nt(hs:ko Φ es):b9 Φ (.tup es):=by
 intro Γ k X cl EX e c h;apply M1 h;intro ls x1 pos h;have q:PE X (.Tuple ls x1 pos) (tV Φ (bd X cl) EX (.tup es)):=by refine(Ma (hs.1 Γ k X cl EX ls c h)).imp λσ H Q aO=>?_;obtain⟨ρ,env,h,hE,r,p⟩:=aO;simp only[az]at p;refine⟨ρ,env,h,hE,r,bf p λvs h1 ρ1 H1 g1 r1 p1 xs q1=>?_⟩;obtain⟨e1,p2⟩:=aP p1;exact⟨by rw[<-q1.length];exact aar e1,λq hq=>rT r1 hq q1 p2⟩
 exact⟨q,b6 q λ_=>rfl⟩
theorem Nu(hs:ko Φ es):b9 Φ (.lst es):=by
 intro Γ k X cl EX e c h;apply M3 h;intro ls pos h;have q:PE X (.List ls pos) (tV Φ (bd X cl) EX (.lst es)):=by refine(Mb (hs.1 Γ k X cl EX ls c h)).imp λσ H Q aO=>?_;obtain⟨ρ,env,h,hE,r,p⟩:=aO;simp only[az]at p;refine⟨ρ,env,h,hE,r,bf p λvs h1 ρ1 H1 g1 r1 p1 xs q1=>?_⟩;obtain⟨e1,p2⟩:=aP p1;exact⟨by rw[<-q1.length];exact aar e1,λq hq=>ck r1 hq q1 p2⟩
 exact⟨q,b6 q λ_=>rfl⟩
theorem Jy:b9 Φ .dct0:=by
 intro Γ k X cl EX e c h;apply Bf h;intro q1 q2 pos h;apply jB h;intro h;apply jB h;intro h;have q:PE X (.Dict [] [] pos) (tV Φ (bd X cl) EX .dct0):=by refine(DV (X:=X) (pos:=pos)).imp λσ H Q aO=>?_;obtain⟨ρ,env,h,hE,r,p⟩:=aO;simp only[az]at p;exact λa ha=>x9 (o:=.dct []) (O:=.dK []) r ha ⟨[],aR,(by rw[gn])⟩ p
 exact⟨q,b6 q λ_=>rfl⟩
theorem Nv(ha:b9 Φ a)(hb:b9 Φ b):b9 Φ (.idx a b):=by
 intro Γ k X cl EX e c h;apply rX h;intro l r pos h;simp only[and_eq_true]at h;have q:PE X (.Subscript l r pos) (tV Φ (bd X cl) EX (.idx a b)):=by refine(QH (MO (cl:=cl) c.units) (ha Γ k X cl EX l c h.1.2).1 (hb Γ k X cl EX r c h.2).1 (Ad h.1.1)).imp λσ H Q aO=>?_;obtain⟨ρ,env,h,hE,r,p⟩:=aO;simp only[az]at p;refine⟨ρ,env,h,hE,r,av p λv h1 ρ1 x H1 g1 r1 q1 p1=>⟨ρ1,env,h1,hE.up g1,r1,av p1 λw h2 ρ2 y H2 g2 r2 q2 p2=>?_⟩⟩;obtain⟨z,e,w'⟩:=cZ r2 p2;exact⟨ρ2,h2,v,w,z,r2,VR.up g2 _ _ q1,q2,e,w'⟩
 exact⟨q,b6 q λ_=>rfl⟩
def PK(Φ:Fn)(ir:IE)(env:Env):M (Option Int):=if cM ir=true then ret none else bnd (az Φ ir env) λv=>bnd (bI (jO v)) λi=>ret (some i)
def tP(Φ:Fn)(B:Bd)(EX:Nat->List V->Hp->Prop)(ir:IE):TO:=λσ H Q=>∃ρ env h,cP B.K ρ env σ H/\HR B ρ h H/\Post B EX ρ H (λo _ _ H'=>Q o H') (PK Φ ir env h)
theorem CT{i:Int}(h:jO d=some i):d=.int i:=by cases d<;>cases h;rfl
theorem vQ(hi:b9 Φ ir)(c:Ctx Φ Γ k X cl EX)(h:(match o with|none=>cM ir|some e=>!cM ir&&bA Γ ir e)=true):PO X o (tP Φ (bd X cl) EX ir):=by
 cases o with
 |none=>refine ID.imp λσ H Q aO=>?_;obtain⟨ρ,env,h',hE,r,p⟩:=aO;unfold PK at p;rw[aab h]at p;exact aj r p
 |some e=>simp only[and_eq_true,not_eq_true']at h;refine(IF (hi Γ k X cl EX e c h.2).1).imp λσ H Q aO=>?_;obtain⟨ρ,env,h',hE,r,p⟩:=aO;unfold PK at p;rw[aad (by rw[h.1];exact Z3)]at p;refine⟨ρ,env,h',hE,r,av p λv h1 ρ1 x H1 g1 r1 q1 p1=>?_⟩;obtain⟨i,e1,p2⟩:=bS p1;cases CT e1;rw[VR]at q1;exact⟨i,q1,aj r1 p2⟩
theorem Nx{a lo hi:IE}(ha:b9 Φ a)(hl:b9 Φ lo)(hh:b9 Φ hi):b9 Φ (.slc a lo hi):=by
 intro Γ k X cl EX e c h;apply rX h;intro l q1 pos h;apply ED h;intro l' h' q2 p2 h;apply qE h;intro h;simp only[and_eq_true]at h;have q:PE X (.Subscript l (.Slice l' h' none p2) pos) (tV Φ (bd X cl) EX (.slc a lo hi)):=by refine(DP (MP (cl:=cl) (EX:=EX)) (ha Γ k X cl EX l c h.1.1).1 (vQ hl c h.1.2) (vQ hh c h.2)).imp λσ H Q aO=>?_;obtain⟨ρ,env,h,hE,r,p⟩:=aO;simp only[az]at p;refine⟨ρ,env,h,hE,r,av p λv h1 ρ1 x H1 g1 r1 q1 p1=>⟨ρ1,env,h1,hE.up g1,r1,bf (m:=PK Φ lo env) p1 λlo' h2 ρ2 H2 g2 r2 p3=>⟨ρ2,env,h2,(hE.up g1).up g2,r2,bf (m:=PK Φ hi env) p3 λhi' h3 ρ3 H3 g3 r3 p4=>?_⟩⟩⟩;exact⟨ρ3,h3,v,r3,VR.up (g2.trans g3) _ _ q1,p4⟩
 exact⟨q,b6 q λ_=>rfl⟩
theorem Ny(ha:b9 Φ a)(hs:b9 Φ sx):b9 Φ (.rev a sx):=by
 intro Γ k X cl EX e c h;apply rX h;intro l q1 pos h;apply ED h;intro q2 q3 st p2 h;apply qE h;intro h;apply qE h;intro h;simp only[and_eq_true]at h;obtain⟨⟨h1,h2⟩,h3⟩:=h;obtain⟨st,rfl⟩:=Option.isSome_iff_exists.mp h2;have q:PE X (.Subscript l (.Slice none none (some st) p2) pos) (tV Φ (bd X cl) EX (.rev a sx)):=by refine(MD (ha Γ k X cl EX l c h1).1 (vQ hs c h3)).imp λσ H Q aO=>?_;obtain⟨ρ,env,h,hE,r,p⟩:=aO;simp only[az]at p;refine⟨ρ,env,h,hE,r,av p λv h1 ρ1 x H1 g1 r1 q1 p1=>⟨ρ1,env,h1,hE.up g1,r1,bf (m:=PK Φ sx env) p1 λlo' h2 ρ2 H2 g2 r2 p3=>?_⟩⟩;obtain⟨e1,p4⟩:=aP p3;obtain⟨xs,e2,p5⟩:=aD p4;obtain⟨ad,ys,rfl,k1,k2⟩:=eY r2 (VR.up g2 _ _ q1) e2;exact⟨aar e1,ad,ys,rfl,k1,λq hq=>ck r2 hq (ay.rev k2) p5⟩
 exact⟨q,b6 q λ_=>rfl⟩
theorem iW:∀{eN:ng} {ls:List Expr} {vs:List Val} {h h':Hs},aU Γ eN ls=true->aK Φ eN env h=.ok vs h'->vs.length=ls.length:=by
 intro eN
 induction eN using ng.rec (motive_1:=λ_=>True) with
 |nil=>
  intro ls ds h h' a b;rw[aU]at a;simp only[aK,ret]at b;cases b;cases ls with
  |nil=>rfl
  |cons _ _=>cases a
 |cons e es _ ih=>
  intro ls ds h h' a b;rw[aU.eq_def]at a;dsimp only at a;cases ls with
  |nil=>cases a
  |cons l ls=>
   simp only[and_eq_true]at a;simp only[aK,bnd]at b;cases e1:az Φ e env h with
   |ok v h1=>
    rw[e1]at b;dsimp only at b;cases e2:aK Φ es env h1 with
    |ok vs h2=>rw[e2]at b;cases b;simp[ih a.2 e2]
    |exc _ _ _=>rw[e2]at b;cases b
    |no=>rw[e2]at b;cases b
   |exc _ _ _=>rw[e1]at b;cases b
   |no=>rw[e1]at b;cases b
 |_=>trivial
theorem dS{α β:Type}{W:β -> Hs->List Addr->Hp->Prop}{W':α -> Hs->List Addr->Hp->Prop}{m:M α}{f:α -> M β}(p:Post B EX ρ H W (bnd m f h))(k:∀v h1 ρ1 H1,m h=.ok v h1->Gr ρ H ρ1 H1->HR B ρ1 h1 H1->Post B EX ρ1 H1 W (f v h1)->W' v h1 ρ1 H1):Post B EX ρ H W' (m h):=by
 unfold bnd at p;cases e:m h with
 |ok v h1=>rw[e]at p;exact λρ1 H1 g r=>k v h1 ρ1 H1 e g r (Post.up g p)
 |exc c vs h1=>rw[e]at p;exact p
 |no=>rw[e]at p;exact p
theorem dJ{α:Type}{h:Hs}{W:α -> Hs->List Addr->Hp->Prop}{o:Out α}(n:∀c xs H,¬ EX c xs H)(p:Post B EX ρ H W o):Post B (λ_ _ _=>False) ρ H W o:=by
 cases o with
 |ok a h'=>exact p
 |exc c vs h'=>exact λρ' H' xs g r q=>n _ _ _ (p ρ' H' xs g r q)
 |no=>exact p
theorem Bm{n c:Nat}{φ0:List Val->M Val}(r:HR B ρ h H)(hv:ay B.K ρ H vs xs)(hl:vs.length=n)(p:Post B (λ_ _ _=>False) ρ H (WV B.K Q) (Dm c φ0 vs h))
  (nx:H x=none) (nd:H dx=none) (ne:dx≠x):vP B (n+1) φ0 (.ref x::xs) (upd (upd H dx (.own x)) x (.ins (B.cl c) dx [])) (λv H2=>v=.non/\Q (.ref x) H2) E:=by
 have r1:HR B ρ h (upd H dx (.own x)):=r.side nd;have Wo:(upd H dx (.own x)) x=none:=by rw[aq λz=>ne z.symm];exact nx
 have g:Gr ρ H (ρ ++ [x]) (upd (upd H dx (.own x)) x (.ins (B.cl c) dx [])):=(Gr.side nd).trans (Gr.new Wo);have r2:HR B (ρ ++ [x]) (h++[.ins c []]) (upd (upd H dx (.own x)) x (.ins (B.cl c) dx [])):=r1.new Wo ⟨dx,[],aR,rfl⟩;have hx:(ρ ++ [x])[h.length]?=some x:=by rw[<-r.len];simp
 refine⟨ρ ++ [x],h++[.ins c []],.ref h.length::vs,by simp[hl],r2,ay.cons (VR.ref hx) (ay.up g _ _ hv),?_⟩;have p2:Post B (λ_ _ _=>False) (ρ ++ [x]) (upd (upd H dx (.own x)) x (.ins (B.cl c) dx [])) (WV B.K Q) (bnd (φ0 (.ref h.length::vs)) (λr=>match r with|.non=>ret (.ref h.length)|_=>bI none) (h++[.ins c []])):=Post.up g p;refine bf p2 λv h1 ρ1 H1 g1 r3 p3 y hy=>?_;cases v<;>first|exact p3.elim|skip
 rw[VR]at hy;exact⟨hy,aj r3 p3 _ (VR.ref (qD g1.pre hx))⟩
theorem Jz{j:Nat}{k:Nat}(hs:ko Φ es)(c:Ctx Φ Γ k X cl EX)
  (h:(wY Γ.sc x && Γ.fns[j]?==some (x,args.length)&&decide (args.length<1000)&&aU Γ es args)=true):PE X (.Call (.Name x p) args [] pos) (tV Φ (bd X cl) EX (.call j es))/\PT X (.Call (.Name x p) args [] pos) (tT Φ (bd X cl) EX (.call j es)):=by
 simp only[and_eq_true,beq_iff_eq,decide_eq_true_eq]at h;obtain⟨⟨⟨h1,h2⟩,h3⟩,h4⟩:=h;obtain⟨g1,g2,g3⟩:=c.gl h1;have room:dD k X.A:=c.room.mono (le_succ k);have q:PE X (.Call (.Name x p) args [] pos) (tV Φ (bd X cl) EX (.call j es)):=by
  rcases c.fns j x _ h2 with ⟨_,⟨f,fd,ps,f1,f2,f3,f4,f5⟩|⟨cc,f,fd,ps,φ0,f0,f1,f2,f3,f4,f5⟩⟩|⟨z,_⟩
  ·cases args with
   |nil=>
    cases es with
    |cons i eN=>rw[aU.eq_def]at h4;cases h4
    |nil=>refine(DM f5 room g1 f2 f3 f4 .nil rD g2).imp λσ H Q aO=>?_;obtain⟨ρ,env,h,hE,r,p⟩:=aO;simp only[az,aK,cQ]at p;exact⟨ρ,h,[],rfl,r,ay.nil,dJ (h:=h) c.lZ p⟩
   |cons l ls=>
    cases es with
    |nil=>rw[aU]at h4;cases h4
    |cons i eN=>have h5:=h4;rw[aU.eq_def]at h5;dsimp only at h5;simp only[and_eq_true]at h5;refine(Iu f5 room g1 f2 f3 f4 .nil rD (hs.1 Γ k X cl EX _ c h4) g2 (aZ h5.1.1) (fZ h5.2)).imp λσ H Q aO=>?_;obtain⟨ρ,env,h,hE,r,p⟩:=aO;simp only[az]at p;refine⟨ρ,env,h,hE,r,dS p λvs h1 ρ1 H1 e1 g1 r1 p1 xs q1=>⟨ρ1,h1,vs,iW h4 e1,r1,by rw[aaU];exact q1,dJ (h:=h1) c.lZ p1⟩⟩
  ·cases args with
   |nil=>
    cases es with
    |cons i eN=>rw[aU.eq_def]at h4;cases h4
    |nil=>refine(DN f3 f5 c.room g1 f2 f4 .nil rD g2).imp λσ H Q aO=>?_;obtain⟨ρ,env,h,hE,r,p⟩:=aO;simp only[az,aK,cQ]at p;intro y dy ny U9 Va;rw[f0]at p;exact Bm (B:=bd X cl) r ay.nil rfl (dJ (h:=h) c.lZ p) ny U9 Va
   |cons l ls=>
    cases es with
    |nil=>rw[aU]at h4;cases h4
    |cons i eN=>have h5:=h4;rw[aU.eq_def]at h5;dsimp only at h5;simp only[and_eq_true]at h5;refine(Iv f3 f5 c.room g1 f2 f4 .nil rD (hs.1 Γ k X cl EX _ c h4) g2 (aZ h5.1.1) (fZ h5.2)).imp λσ H Q aO=>?_;obtain⟨ρ,env,h,hE,r,p⟩:=aO;simp only[az]at p;refine⟨ρ,env,h,hE,r,dS p λvs h1 ρ1 H1 e1 g1 r1 p1 xs q1 y dy ny U9 Va=>?_⟩;rw[f0]at p1;rw[aaU];exact Bm (B:=bd X cl) r1 q1 (iW h4 e1) (dJ (h:=h1) c.lZ p1) ny U9 Va
  ·omega
 exact⟨q,b6 q λ_=>rfl⟩
theorem JA{j:Nat}{k:Nat}(hs:ko Φ es)(c:Ctx Φ Γ k X cl EX)
  (h:(wY Γ.sc x && Γ.tb.HU.contains (x,m,j)&&(match Γ.fns[j]? with|some (_,n)=>n==1000+args.length|none=>false)&&decide (args.length<29)&&ap.endLine==cp.line&&aU Γ es args && !args.isEmpty)=true) :
  PE X (.Call (.Attribute (.Name x p) m ap) args [] cp) (tV Φ (bd X cl) EX (.call j es))/\PT X (.Call (.Attribute (.Name x p) m ap) args [] cp) (tT Φ (bd X cl) EX (.call j es)):=by
 simp only[and_eq_true,beq_iff_eq,decide_eq_true_eq,contains_iff_mem]at h;obtain⟨⟨⟨⟨⟨⟨h1,h2⟩,h3⟩,h4⟩,h5⟩,h6⟩,h7⟩:=h;obtain⟨g1,g2,g3⟩:=c.gl h1;obtain⟨C,hm,cm⟩:=c.HU _ h2;have hf:∃xx,Γ.fns[j]?=some (xx,1000+args.length):=by
  cases ef:Γ.fns[j]? with
  |none=>rw[ef]at h3;cases h3
  |some q=>rw[ef]at h3;obtain⟨q1,q2⟩:=q;exact⟨q1,by rw[show q2=_ from eq_of_beq h3]⟩
 obtain⟨xx,hf⟩:=hf;have room:dD k X.A:=c.room.mono (le_succ k)
 rcases c.fns j xx _ hf with ⟨z,_⟩|⟨_,fd,ps,f1,f4,f5⟩
 ·omega
 rw[show 1000+args.length-1000=args.length by omega]at f5;have few:((backTo cp (starEach args X.env)).all (λx=>!x.1)&&(backToKw cp (keywordEach [] X.env)).all (λx=>x.1.isSome)
   && decide (args.length+([]:List Keyword).length+(if ([]:List Keyword).isEmpty then 0 else 1)<30))=true:=by
  rw[rY h6];simp only[Bool.true_and,and_eq_true];exact⟨rfl,decide_eq_true (by simp;omega)⟩
 have hl:(ap.endLine==cp.line)=true:=by rw[h5];exact beq_self_eq_true _
 have q:PE X (.Call (.Attribute (.Name x p) m ap) args [] cp) (tV Φ (bd X cl) EX (.call j es)):=by
  cases args with
  |nil=>exact absurd h7 (by simp)
  |cons l ls=>
   cases es with
   |nil=>rw[aU]at h6;cases h6
   |cons i eN=>have h8:=h6;rw[aU.eq_def]at h8;dsimp only at h8;simp only[and_eq_true]at h8;refine(MG (k:=k) f5 room g1 hm cm f4 (hs.1 Γ k X cl EX _ c h6) g2 few hl (aZ h8.1.1) (fZ h8.2)).imp λσ H Q aO=>?_;obtain⟨ρ,env,h,hE,r,p⟩:=aO;simp only[az]at p;refine⟨ρ,env,h,hE,r,dS p λvs h1 ρ1 H1 e1 g1 r1 p1 xs q1=>⟨ρ1,h1,vs,iW h6 e1,r1,q1,dJ (h:=h1) c.lZ p1⟩⟩
 exact⟨q,b6 q λ_=>rfl⟩
theorem JB{j:Nat}(hs:ko Φ es):b9 Φ (.call j es):=by
 intro Γ k X cl EX e c h
 rcases Rh h with h|h
 ·apply jP h;intro x _ args _ h;exact Jz hs c h
 ·apply uO h;intro q1 m ap args cp h;apply eZ h;intro x _ h;exact JA hs c h
theorem Nz{n:Nat}(ha:b9 Φ a):b9 Φ (.fld n a x):=by
 intro Γ k X cl EX e c h;apply vN h;intro o y pos h;simp only[and_eq_true,beq_iff_eq,contains_iff_mem]at h;obtain⟨⟨⟨⟨h1,h2⟩,h3⟩,h4⟩,h5⟩:=h;subst h1;have q:PE X (.Attribute o x pos) (tV Φ (bd X cl) EX (.fld n a x)):=by
  refine(pe_fld (ha Γ k X cl EX o c h5).1 (super_ok h2)).imp λσ H Q aO=>?_;obtain⟨ρ,env,h,hE,r,p⟩:=aO;simp only[az]at p;refine⟨ρ,env,h,hE,r,av p λv h1 ρ1 y H1 g1 r1 q1 p1=>?_⟩;obtain⟨z,e1,w⟩:=cZ r1 p1;cases v<;>first|(cases e1;done)|(rw[VR]at q1;exact q1.elim)|skip
  rename_i i;rw[VR]at q1;obtain⟨ad,rfl,q1⟩:=q1;have hx:∃c0 fs,h1[i]?=some (.ins c0 fs)/\c0<n/\fs.lookup x=some z:=by
   change (match h1[i]? with|some (.ins c fs)=>if c<n then fs.lookup x else none|_=>none)=some z at e1;split at e1
   ·rename_i c0 fs e2
    split at e1
    ·rename_i hc;exact⟨c0,fs,e2,hc,e1⟩
    ·cases e1
   ·cases e1
  obtain⟨c0,fs,e2,hc,e3⟩:=hx;obtain⟨dx,gs,k1,k2⟩:=r1.ob i _ ad e2 q1;obtain⟨y,l1,l2⟩:=k2.look.2 z e3;obtain⟨cc,nn⟩:=c.cls c0 (by omega);exact⟨ad,cl c0,dx,gs,y,rfl,k1,cc,nn x h4,l1,w y l2⟩
 exact⟨q,b6 q λ_=>rfl⟩
theorem yf:∀{js:List (Nat×Nat)} {c j:Nat},js.lookup c=some j->(c,j)∈js
 | (a,b)::r,c,j,e=>by
  rw[aaK]at e;cases hb:c==a with
  |true=>rw[hb]at e;cases e;rw[eq_of_beq hb];exact aaa
  |false=>rw[hb]at e;exact Z5 _ (yf e)
theorem NB(ha:b9 Φ a)(hs:ko Φ es):b9 Φ (.mth a m js es):=by
 intro Γ k X cl EX e c h;apply uO h;intro o x ap args cp h;simp only[and_eq_true,beq_iff_eq,all_eq_true,decide_eq_true_eq,contains_iff_mem]at h;obtain⟨⟨⟨⟨⟨⟨h1,h2⟩,h3⟩,h4⟩,h5⟩,h6⟩,h7⟩:=h;subst h1;have few:((backTo cp (starEach args X.env)).all (λx=>!x.1)&&(backToKw cp (keywordEach [] X.env)).all (λx=>x.1.isSome)
   && decide (args.length+([]:List Keyword).length+(if ([]:List Keyword).isEmpty then 0 else 1)<30))=true:=by
  rw[rY h7];simp only[Bool.true_and,and_eq_true];exact⟨rfl,decide_eq_true (by simp;omega)⟩
 have hl:(ap.endLine==cp.line)=true:=by rw[h4];exact beq_self_eq_true _
 have room:dD k X.A:=c.room.mono (le_succ k);have main:∀(σ:L2.St) (H:Hp) (Q:VK) (v:Val) (h1:Hs) (ρ1:List Addr) (y:V) (H1:Hp) (F:Nat->M Val),HR (bd X cl) ρ1 h1 H1->VR X.K ρ1 H1 v y->Post (bd X cl) EX ρ1 H1 (WV X.K Q) (bnd (ask λh=>lE h v x js) F h1) ->
   ∃j i ad c0 dx gs fd ps,v=.ref i/\y=.ref ad/\H1 ad=some (.ins (cl c0) dx gs)/\Dl X.K (cl c0)/\Meth X.K (cl c0) x (cl (1000+j))/\gs.lookup x=none/\Binds X.K fd ps [] /\
    fF X.prog X.w X.K X.mg X.base zu k (cl (1000+j)) fd ps (vP (bd X cl) (1+args.length) (Φ j))/\Post (bd X cl) EX ρ1 H1 (WV X.K Q) (F j h1):=by
  intro σ H Q v h1 ρ1 y H1 F r1 q1 p1;obtain⟨j,e1,p2⟩:=aD p1;cases v<;>first|(cases e1;done)|(rw[VR]at q1;exact q1.elim)|skip
  rename_i i;rw[VR]at q1;obtain⟨ad,rfl,q1⟩:=q1;have hx:∃c0 fs,h1[i]?=some (.ins c0 fs)/\fs.lookup x=none/\js.lookup c0=some j:=by
   change (match h1[i]? with|some (.ins c fs)=>if (fs.lookup x).isNone=true then js.lookup c else none|_=>none)=some j at e1;split at e1
   ·rename_i c0 fs e2
    split at e1
    ·rename_i hc;exact⟨c0,fs,e2,by simpa using hc,e1⟩
    ·cases e1
   ·cases e1
  obtain⟨c0,fs,e2,hn,e3⟩:=hx;obtain⟨dx,gs,k1,k2⟩:=r1.ob i _ ad e2 q1;obtain⟨⟨m1,m2⟩,m3⟩:=h5 _ (yf e3);dsimp only at m1 m2 m3;have cc:=(c.cls c0 m1).1;have mm:=c.Ju _ m2;dsimp only at mm;have hf:∃xx,Γ.fns[j]?=some (xx,1001+args.length):=by
   cases ef:Γ.fns[j]? with
   |none=>rw[ef]at m3;cases m3
   |some q=>rw[ef]at m3;obtain⟨q1,q2⟩:=q;exact⟨q1,by rw[show q2=_ from eq_of_beq m3]⟩
  obtain⟨xx,hf⟩:=hf
  rcases c.fns j xx _ hf with ⟨z,_⟩|⟨_,fd,ps,f1,f4,f5⟩
  ·omega
  ·rw[show 1001+args.length-1000=1+args.length by omega]at f5;exact⟨j,i,ad,c0,dx,gs,fd,ps,rfl,rfl,k1,cc,mm,k2.look.1 hn,f4,f5,p2⟩
 have q:PE X (.Call (.Attribute o x ap) args [] cp) (tV Φ (bd X cl) EX (.mth a x js es)):=by
  cases args with
  |nil=>
   cases es with
   |cons i eN=>rw[aU.eq_def]at h7;cases h7
   |nil=>refine(pe_mth0 (k:=k) (ha Γ k X cl EX o c h6).1 (super_ok h2) hl room).imp λσ H Q aO=>?_;obtain⟨ρ,env,h,hE,r,p⟩:=aO;simp only[az,aK,cQ]at p;refine⟨ρ,env,h,hE,r,av p λv h1 ρ1 y H1 g1 r1 q1 p1=>?_⟩;obtain⟨j,i,ad,c0,dx,gs,fd,ps,rfl,rfl,k1,cc,mm,k2,f4,f5,p2⟩:=main σ H Q v h1 ρ1 y H1 _ r1 q1 p1;exact⟨ad,cl c0,dx,gs,cl (1000+j),fd,ps,_,rfl,k1,cc,mm,k2,f4,f5,ρ1,h1,[.ref i],rfl,r1,ay.cons q1 ay.nil,dJ (h:=h1) c.lZ p2⟩
  |cons l ls=>
   cases es with
   |nil=>rw[aU]at h7;cases h7
   |cons i eN=>have h8:=h7;rw[aU.eq_def]at h8;dsimp only at h8;simp only[and_eq_true]at h8;refine(pe_mthD (k:=k) (ha Γ k X cl EX o c h6).1 (hs.1 Γ k X cl EX _ c h7) (super_ok h2) few hl room (aZ h8.1.1) (fZ h8.2)).imp λσ H Q aO=>?_;obtain⟨ρ,env,h,hE,r,p⟩:=aO;simp only[az]at p;refine⟨ρ,env,h,hE,r,av p λv h1 ρ1 y H1 g1 r1 q1 p1=>?_⟩;obtain⟨j,i,ad,c0,dx,gs,fd,ps,rfl,rfl,k1,cc,mm,k2,f4,f5,p2⟩:=main σ H Q v h1 ρ1 y H1 _ r1 q1 p1;refine⟨ad,cl c0,dx,gs,cl (1000+j),fd,ps,_,rfl,k1,cc,mm,k2,f4,f5,ρ1,env,h1,hE.up g1,r1,dS p2 λvs h2 ρ2 H2 e4 g2 r2 p3 xs q2=>?_⟩;refine⟨ρ2,h2,.ref i::vs,?_,r2,ay.cons (VR.up g2 _ _ q1) q2,dJ (h:=h2) c.lZ p3⟩;rw[aaq,iW h7 e4];omega
 exact⟨q,b6 q λ_=>rfl⟩
end
section
variable {Φ:Fn} {Γ:qF} {k:Nat} {X:Cx} {cl:Nat->Addr} {EX:Nat->List V->Hp->Prop}
theorem NC:bootBuiltins "all" = some (.builtin "all"):=by decide +kernel
theorem ND:bootBuiltins "any" = some (.builtin "any"):=by decide +kernel
theorem iX:bootBuiltins "sorted" = some (.builtin "sorted"):=by decide +kernel
theorem NG:bootBuiltins "min" = some (.builtin "min"):=by decide +kernel
theorem NH:bootBuiltins "max" = some (.builtin "max"):=by decide +kernel
theorem qH:bootBuiltins "list" = some (.type "list"):=by decide +kernel
theorem yg:bootBuiltins "tuple" = some (.type "tuple"):=by decide +kernel
theorem EU:bootBuiltins "str" = some (.type "str"):=by decide +kernel
theorem EW:bootBuiltins "int" = some (.type "int"):=by decide +kernel
theorem JC:bootBuiltins "bool" = some (.type "bool"):=by decide +kernel
theorem JD:bootBuiltins "dict" = some (.type "dict"):=by decide +kernel
theorem JE:bootBuiltins "isinstance" = some (.builtin "isinstance"):=by decide +kernel
theorem yh:aK Φ #[e] env=bnd (az Φ e env) λd=>ret [d]:=by
 simp only[aK,cQ]
theorem six{T:String}(h:["list","tuple","str","bool","int","dict"].contains T=true):T = "list" \/ T = "tuple" \/ T = "str" \/ T = "bool" \/ T = "int" \/ T = "dict":=by simpa using h
theorem JF{T:String}(h:["list","tuple","str","bool","int","dict"].contains T=true):(T:Str)∈bltNames/\bootBuiltins (T:Str)=some (.type T)/\(T:Str) ≠ "__name__" /\ ((T:Str)==("__debug__":Str))=false:=by
 rcases six h with rfl|rfl|rfl|rfl|rfl|rfl
 ·exact⟨by decide,qH,by decide,by decide⟩
 ·exact⟨by decide,yg,by decide,by decide⟩
 ·exact⟨by decide,EU,by decide,by decide⟩
 ·exact⟨by decide,JC,by decide,by decide⟩
 ·exact⟨by decide,EW,by decide,by decide⟩
 ·exact⟨by decide,JD,by decide,by decide⟩
theorem JG{T:String}(hs:ko Φ es):b9 Φ (.blt (.isin T) es):=by
 intro Γ k X cl EX e c h;apply jP h;intro x p args pos h;simp only[and_eq_true,beq_iff_eq]at h;obtain⟨⟨h1,h2⟩,h3⟩:=h;subst h2;obtain⟨g1,g2,g3⟩:=c.gl h1;split at h3<;>first|cases h3|skip
 rename_i a y yp;simp only[and_eq_true,beq_iff_eq]at h3;obtain⟨⟨⟨k1,k2⟩,k3⟩,k4⟩:=h3;obtain⟨b1,b2,b3,b4⟩:=JF k3;obtain⟨y1,y2,y3⟩:=c.gl k1;subst k2;cases es with
 |nil=>rw[aU]at k4;cases k4
 |cons i eN=>
  rw[aU.eq_def]at k4;dsimp only at k4;simp only[and_eq_true]at k4;cases eN with
  |cons j eN=>have:=k4.2;rw[aU.eq_def]at this;cases this
  |nil=>
   have q:PE X (.Call (.Name (Ro (.isin T)) p) [a,.Name (T:Str) yp] [] pos) (tV Φ (bd X cl) EX (.blt (.isin T) #[i])):=by refine(gG (Jp (cl:=cl) (EX:=EX) (T:=T)) g1 (c.blt _ (show ("isinstance":Str)∈bltNames by decide)) JE (vp (hs.2.1 Γ k X cl EX a c k4.1.2).1 (vp (Ic (v:=.ty T) y1 (c.blt _ b1) b2 rfl b3 b4) DL) (aZ k4.1.1)) g3 g2 (aZ k4.1.1)).imp λσ H Q aO=>?_;obtain⟨ρ,env,h,hE,r,p⟩:=aO;simp only[az,yh,bg,cQ]at p;exact⟨ρ,env,h,hE,r,av p λv h1 ρ1 x H1 g1 r1 q1 p1=>⟨ρ1,h1,v,x,rfl,r1,q1,p1⟩⟩
   exact⟨q,b6 q λ_=>rfl⟩
theorem NI:bootBuiltins "set" = some (.type "set"):=by decide +kernel
theorem JH(ha:b9 Φ a):b9 Φ (.sset a):=by
 intro Γ k X cl EX e c h;apply jP h;intro x p1 q1 pos1 h;apply iH h;intro q2 h;apply jP h;intro y p2 q3 pos2 h;apply iH h;intro l h;simp only[and_eq_true,beq_iff_eq]at h;obtain⟨⟨⟨⟨⟨h1,h2⟩,h3⟩,h4⟩,h5⟩,h6⟩:=h;subst h1;subst h2;have q:PE X (.Call (.Name "sorted" p1) [.Call (.Name "set" p2) [l] [] pos2] [] pos1) (tV Φ (bd X cl) EX (.sset a)):=by have qe:=(ha Γ k X cl EX l c h6).1;intro pins s σ H Q I hh;have hd:X.A.handled=none:=I.ok.hd c.calm;refine((Jc hd (c.gl h3).1 (c.blt _ (by decide)) (c.gl h4).1 (c.blt _ (by decide)) iX NI qe (aZ (env:=X.env) (es:=[]) h5)).imp λσ H Q ⟨ρ,env,h,hE,r,p⟩=>?_) pins s σ H Q I hh;simp only[az]at p;refine⟨ρ,env,h,hE,r,av p λv h1 ρ1 x H1 g1 r1 q1 p1=>?_⟩;obtain⟨zs,e,p1⟩:=aD p1;obtain⟨ns,e1,p1⟩:=bS p1;obtain⟨e2,p1⟩:=aP p1;obtain⟨b,ys,rfl,q2,q3⟩:=eY r1 q1 e;rw[gC e1]at q3;rw[ay.ints.mp q3]at q2;exact⟨b,ns,rfl,q2,aar e2,λl hl=>ck r1 hl (ay.ints.mpr rfl) p1⟩
 exact⟨q,b6 q λ_=>rfl⟩
theorem JI{d k x:IE}(hd:b9 Φ d)(hk:b9 Φ k)(hx:b9 Φ x):b9 Φ (.dget d k x):=by
 intro Γ n X cl EX e c h;apply uO h;intro o m ap q1 cp h;apply U7 h;intro a b h;simp only[and_eq_true,beq_iff_eq]at h;obtain⟨⟨⟨⟨⟨⟨⟨h1,h2⟩,h3⟩,h4⟩,h5⟩,h6⟩,h7⟩,h8⟩:=h;subst h1;have st:starEach [a,b] X.env=[(false,eval a X.env),(false,eval b X.env)]:=by rw[aZ h3,aZ h4];rfl
 have m2:M2 X o "get" ap a b cp:=⟨super_ok h2,by rw[st];rfl,by rw[h5];exact beq_self_eq_true _,by rw[st];rfl⟩;have q:PE X (.Call (.Attribute o "get" ap) [a,b] [] cp) (tV Φ (bd X cl) EX (.dget d k x)):=by
  refine(DX (by have:=c.units;omega) (hd Γ n X cl EX o c h6).1 (hk Γ n X cl EX a c h7).1 (hx Γ n X cl EX b c h8).1 m2).imp λσ H Q aO=>?_;obtain⟨ρ,env,h,hE,r,p⟩:=aO;simp only[az]at p;refine⟨ρ,env,h,hE,r,av p λv h1 ρ1 y H1 g1 r1 q1 p1=>?_⟩;obtain⟨u0,e1,pA⟩:=aD p1;clear p1;cases v<;>first|(cases e1;done)|(rw[VR]at q1;exact q1.elim)|skip
  rename_i i;rw[VR]at q1;obtain⟨ad,rfl,q1⟩:=q1;have hdc:∃kvs,h1[i]?=some (.dct kvs):=by
   change (match h1[i]? with|some (.dct _)=>some ()|_=>none)=some _ at e1;split at e1
   ·rename_i kvs e2;exact⟨kvs,e2⟩
   ·cases e1
  obtain⟨kvs,e2⟩:=hdc;obtain⟨ks,k1,k2⟩:=r1.ob i _ ad e2 q1;refine⟨ad,rfl,.inl ⟨ks,.inl k1⟩,ρ1,env,h1,hE.up g1,r1,av pA λw h2 ρ2 y2 H2 g2 r2 q2 p2=>?_⟩;obtain⟨kk,e3,p2⟩:=bS p2;refine⟨ρ2,env,h2,(hE.up g1).up g2,r2,av p2 λz h3 ρ3 y3 H3 g3 r3 q3 p3=>?_⟩;obtain⟨rr,e4,p3⟩:=aD p3;have q4:ρ3[i]?=some ad:=qD (g2.trans g3).pre q1;have Yg:∃kvs,h3[i]?=some (.dct kvs)/\rr=bV kvs kk:=by
   change (match h3[i]? with|some (.dct kvs)=>some (bV kvs kk)|_=>none)=some rr at e4;split at e4
   ·rename_i kvs e2;cases e4;exact⟨kvs,e2,rfl⟩
   ·cases e4
  obtain⟨Vb,e5,rfl⟩:=Yg;obtain⟨Yh,k3,k4⟩:=r3.ob i _ ad e5 q4;have ek:y2=kV kk:=by
   cases w<;>first|(cases e3;done)|skip
   ·cases e3;rw[VR]at q2;exact q2
   ·cases e3;rw[VR]at q2;exact q2
  refine⟨iD Yh kk,by rw[ek];exact lD.k k3,?_⟩;cases ev:bV Vb kk with
  |none=>rw[ev]at p3;rw[(gn.val kk k4).1 ev];exact aj r3 p3 _ q3
  |some z'=>obtain⟨t,e6,q6⟩:=(gn.val kk k4).2 z' ev;rw[ev]at p3;rw[e6];exact aj r3 p3 _ q6
 exact⟨q,b6 q λ_=>rfl⟩
theorem Bo{K:Frag}{ρ:List Addr}{H:Hp}:∀{kvs:List (Key×Val)} {ks:List (Key×V)},gn K ρ H kvs ks->ay K ρ H ((kvs.map (·.1)).map Et) (ks.map λkv=>kV kv.1)
 |[],ks,q=>by rw[gn]at q;subst q;exact rfl
 | (k,v)::kvs,ks,q=>by
  rw[gn]at q;obtain⟨x,r,rfl,_,q⟩:=q;refine⟨kV k,_,rfl,?_,Bo q⟩;cases k with
  |inl i=>exact VR.int
  |inr s=>exact VR.str
theorem uP{oz:Unit}:∀(σ:L2.St) (H:Hp) (Q:VK),tV Φ (bd X cl) EX (.lkeys d) σ H Q->tLK (tV Φ (bd X cl) EX d) σ H Q:=λσ H Q ⟨ρ,env,h,hE,r,p⟩=>by
 simp only[az]at p;refine⟨ρ,env,h,hE,r,av p λv h1 ρ1 y H1 g1 r1 q1 p1=>?_⟩;obtain⟨Vc,e1,pA⟩:=aD p1;clear p1;cases v<;>first|(cases e1;done)|(rw[VR]at q1;exact q1.elim)|skip
 rename_i i;rw[VR]at q1;obtain⟨ad,rfl,q1⟩:=q1;have hdc:∃kvs,h1[i]?=some (.dct kvs)/\Vc=kvs.map (·.1):=by
  change (match h1[i]? with|some (.dct kvs)=>some (kvs.map (·.1))|_=>none)=some _ at e1;split at e1
  ·rename_i kvs e2;cases e1;exact⟨kvs,e2,rfl⟩
  ·cases e1
 obtain⟨kvs,e2,rfl⟩:=hdc;obtain⟨ks,k1,k2⟩:=r1.ob i _ ad e2 q1;exact⟨ad,ks,rfl,k1,λl hl=>ck r1 hl (Bo k2) pA⟩
theorem EY(hd:b9 Φ d):b9 Φ (.lkeys d):=by
 intro Γ n X cl EX e c h
 rcases Rh h with h|h
 ·apply jP h;intro x p q1 pos h
  apply iH h;intro q2 h;apply uO h;intro o m ap q3 cp h;apply jB h;intro h;simp only[and_eq_true,beq_iff_eq]at h;obtain⟨⟨⟨⟨⟨h1,h2⟩,h3⟩,h4⟩,h5⟩,h6⟩:=h;subst h1;subst h2;have q:PE X (.Call (.Name "list" p) [.Call (.Attribute o "keys" ap) [] [] cp] [] pos) (tV Φ (bd X cl) EX (.lkeys d)):=by have qe:=(hd Γ n X cl EX o c h6).1;intro pins s σ H Q I hh;have hdl:X.A.handled=none:=I.ok.hd c.calm;exact((Ek hdl (c.gl h3).1 (c.blt _ (by decide)) qH qe (super_ok h4) (by rw[h5];exact beq_self_eq_true _)).imp (uP (oz:=()))) pins s σ H Q I hh
  exact⟨q,b6 q λ_=>rfl⟩
 ·apply jP h;intro x p q1 pos h
  apply iH h;intro q2 h;apply eZ h;intro y qp h;simp only[and_eq_true,beq_iff_eq]at h;obtain⟨⟨h1,h3⟩,h6⟩:=h;subst h1;have q:PE X (.Call (.Name "list" p) [.Name y qp] [] pos) (tV Φ (bd X cl) EX (.lkeys d)):=by have qe:=(hd Γ n X cl EX _ c h6).1;intro pins s σ H Q I hh;have hdl:X.A.handled=none:=I.ok.hd c.calm;exact((CH hdl (aZ rfl) (c.gl h3).1 (c.blt _ (by decide)) qH qe).imp (uP (oz:=()))) pins s σ H Q I hh
  exact⟨q,b6 q λ_=>rfl⟩
theorem JJ{d k x:IE}(hd:b9 Φ d)(hk:b9 Φ k)(hx:b9 Φ x):b9 Φ (.sdef d k x):=rZ λ_ _=>rfl
theorem vR{K:Frag}{ρ:List Addr}{H:Hp}:∀{kvs:List (Key×Val)} {ks:List (Key×V)},gn K ρ H kvs ks->ks.map (·.1)=kvs.map (·.1)
 |[],ks,q=>by rw[gn]at q;subst q;rfl
 | (k,v)::kvs,ks,q=>by
  rw[gn]at q;obtain⟨x,r,rfl,_,q⟩:=q;rw[aaf,aaf,vR q]
theorem vS:∀{ks:List Key} {ns:List Int},rP ks=some ns->ks=ns.map Sum.inl
 |[],ns,e=>by cases e;rfl
 | k::ks,ns,e=>by
  unfold rP at e;rw[cO]at e;obtain⟨i,e1,e⟩:=Z4.mp e;obtain⟨r,e2,e⟩:=Z4.mp e;cases e;cases k with
  |inl j=>cases e1;rw[vS e2];rfl
  |inr _=>cases e1
theorem oV{oz:Unit}:∀(σ:L2.St) (H:Hp) (Q:VK),tV Φ (bd X cl) EX (.skeys d) σ H Q->tSK (tV Φ (bd X cl) EX d) σ H Q:=λσ H Q ⟨ρ,env,h,hE,r,p⟩=>by
 simp only[az]at p;refine⟨ρ,env,h,hE,r,av p λv h1 ρ1 y H1 g1 r1 q1 p1=>?_⟩;obtain⟨ZR,e1,pA⟩:=aD p1;clear p1;unfold mE at e1;obtain⟨Vc,e5,e6⟩:=Z4.mp e1;clear e1;obtain⟨ns,e3,e4⟩:=Z4.mp e6;clear e6;have e1:=e5;clear e5;cases v<;>first|(cases e1;done)|(rw[VR]at q1;exact q1.elim)|skip
 rename_i i;rw[VR]at q1;obtain⟨ad,rfl,q1⟩:=q1;have hdc:∃kvs,h1[i]?=some (.dct kvs)/\Vc=kvs.map (·.1):=by
  change (match h1[i]? with|some (.dct kvs)=>some (kvs.map (·.1))|_=>none)=some _ at e1;split at e1
  ·rename_i kvs e2;cases e1;exact⟨kvs,e2,rfl⟩
  ·cases e1
 obtain⟨kvs,e2,rfl⟩:=hdc;obtain⟨ks,k1,k2⟩:=r1.ob i _ ad e2 q1
 by_cases hl:ns.length<64
 ·rw[aab hl]at e4;cases e4;exact⟨ad,ks,ns,rfl,k1,(vR k2).trans (vS e3),hl,λl hl=>ck r1 hl (ay.ints.mpr rfl) pA⟩
 ·rw[aad hl]at e4;cases e4
theorem EZ(hd:b9 Φ d):b9 Φ (.skeys d):=by
 intro Γ n X cl EX e c h
 rcases Rh h with h|h
 rcases Rh h with h|h
 ·apply jP h;intro x p q1 pos h
  apply iH h;intro q2 h;apply uO h;intro o m ap q3 cp h;apply jB h;intro h;simp only[and_eq_true,beq_iff_eq]at h;obtain⟨⟨⟨⟨⟨h1,h2⟩,h3⟩,h4⟩,h5⟩,h6⟩:=h;subst h1;subst h2;have q:PE X (.Call (.Name "sorted" p) [.Call (.Attribute o "keys" ap) [] [] cp] [] pos) (tV Φ (bd X cl) EX (.skeys d)):=by have qe:=(hd Γ n X cl EX o c h6).1;intro pins s σ H Q I hh;have hdl:X.A.handled=none:=I.ok.hd c.calm;exact((El hdl (c.gl h3).1 (c.blt _ (by decide)) iX qe (super_ok h4) (by rw[h5];exact beq_self_eq_true _)).imp (oV (oz:=()))) pins s σ H Q I hh
  exact⟨q,b6 q λ_=>rfl⟩
 ·apply jP h;intro x p q1 pos h
  apply iH h;intro q2 h;apply eZ h;intro y qp h;simp only[and_eq_true,beq_iff_eq]at h;obtain⟨⟨h1,h3⟩,h6⟩:=h;subst h1;have q:PE X (.Call (.Name "sorted" p) [.Name y qp] [] pos) (tV Φ (bd X cl) EX (.skeys d)):=by have qe:=(hd Γ n X cl EX _ c h6).1;intro pins s σ H Q I hh;have hdl:X.A.handled=none:=I.ok.hd c.calm;exact((uJ hdl (aZ rfl) (c.gl h3).1 (c.blt _ (by decide)) iX qe).imp (oV (oz:=()))) pins s σ H Q I hh
  exact⟨q,b6 q λ_=>rfl⟩
 ·apply jP h;intro x p q1 pos h
  apply iH h;intro q2 h;apply rX h;intro y y2 qp h;simp only[and_eq_true,beq_iff_eq]at h;obtain⟨⟨h1,h3⟩,h6⟩:=h;subst h1;have q:PE X (.Call (.Name "sorted" p) [.Subscript y y2 qp] [] pos) (tV Φ (bd X cl) EX (.skeys d)):=by have qe:=(hd Γ n X cl EX _ c h6).1;intro pins s σ H Q I hh;have hdl:X.A.handled=none:=I.ok.hd c.calm;exact((uJ hdl (aZ rfl) (c.gl h3).1 (c.blt _ (by decide)) iX qe).imp (oV (oz:=()))) pins s σ H Q I hh
  exact⟨q,b6 q λ_=>rfl⟩
theorem E1(hd:b9 Φ d):b9 Φ (.svals d):=rZ λ_ _=>rfl
theorem NJ(hs:ko Φ es):b9 Φ (.blt b es):=by
 cases b with
 |isin T=>exact JG hs
 |_=>
  intro Γ k X cl EX e c h;apply jP h;intro x p args pos h;simp only[and_eq_true,beq_iff_eq]at h;obtain⟨⟨h1,h2⟩,h3⟩:=h;subst h2;obtain⟨g1,g2,g3⟩:=c.gl h1;cases args with
  |nil=>cases h3.1
  |cons l ls=>
   cases es with
   |nil=>have:=h3.2;rw[aU]at this;cases this
   |cons i eN=>
    have h5:=h3.2;rw[aU.eq_def]at h5;dsimp only at h5;simp only[and_eq_true]at h5;have hA:=hs.1 Γ k X cl EX _ c h3.2;have st:=aZ (env:=X.env) (es:=ls) h5.1.1;have an:=fZ (pos:=pos) (env:=X.env) h5.2;refine(λq=>⟨q,b6 q λ_=>rfl⟩) ?_
    first
     |refine(gG (MQ (cl:=cl) (EX:=EX)) g1 (c.blt _ (by decide)) PySem.boot_len hA g3 g2 st an).imp λσ H Q ⟨ρ,env,h,hE,r,p⟩=>?_
     |refine(gG (MR (cl:=cl) (EX:=EX) c.calm) g1 (c.blt _ (by decide)) NG hA g3 g2 st an).imp λσ H Q ⟨ρ,env,h,hE,r,p⟩=>?_
     |refine(gG (MT (cl:=cl) (EX:=EX) c.calm) g1 (c.blt _ (by decide)) NH hA g3 g2 st an).imp λσ H Q ⟨ρ,env,h,hE,r,p⟩=>?_
     |refine(gG (CM (cl:=cl) (EX:=EX)) g1 (c.blt _ (by decide)) iX hA g3 g2 st an).imp λσ H Q ⟨ρ,env,h,hE,r,p⟩=>?_
     |refine(gG (MW (cl:=cl) (EX:=EX) c.calm) g1 (c.blt _ (by decide)) NC hA g3 g2 st an).imp λσ H Q ⟨ρ,env,h,hE,r,p⟩=>?_
     |refine(gG (MX (cl:=cl) (EX:=EX) c.calm) g1 (c.blt _ (by decide)) ND hA g3 g2 st an).imp λσ H Q ⟨ρ,env,h,hE,r,p⟩=>?_
     |refine(kX (Jm (cl:=cl) (EX:=EX)) g1 (c.blt _ (by decide)) qH hA g3 g2 st an).imp λσ H Q ⟨ρ,env,h,hE,r,p⟩=>?_
     |refine(kX (EB (cl:=cl) (EX:=EX)) g1 (c.blt _ (by decide)) yg hA g3 g2 st an).imp λσ H Q ⟨ρ,env,h,hE,r,p⟩=>?_
     |refine(kX (MU (cl:=cl) (EX:=EX)) g1 (c.blt _ (by decide)) EU hA g3 g2 st an).imp λσ H Q ⟨ρ,env,h,hE,r,p⟩=>?_
     |refine(kX (MV (cl:=cl) (EX:=EX)) g1 (c.blt _ (by decide)) EW hA g3 g2 st an).imp λσ H Q ⟨ρ,env,h,hE,r,p⟩=>?_
    simp only[az]at p;exact⟨ρ,env,h,hE,r,bf p λvs h1 ρ1 H1 g1 r1 p1 xs q1=>⟨ρ1,h1,vs,r1,q1,p1⟩⟩
def Wq:Me->String
 |.join=>"str" | .append=>"list" | .extend=>"list" | .remove=>"list" | .pop=>"list"
theorem JK(r:HR B ρ h H)(q:VR B.K ρ H v x)(e:recv h m v=some ()):UD B.K (Wq m) x H:=by
 cases m<;>cases v<;>simp only[recv]at e<;>first|cases e|skip
 ·rw[VR]at q;subst q;rfl
 all_goals
  split at e
  ·rename_i xs e1;obtain⟨a,ys,rfl,q0,q1,q2⟩:=jA r q e1;exact .inl ⟨rfl,ys,.inl (.inl q1)⟩
  ·cases e
theorem NK(ha:b9 Φ a)(hs:ko Φ es):b9 Φ (.met m a es):=by
 intro Γ k X cl EX e c h;apply uO h;intro o x ap args cp h;simp only[and_eq_true,beq_iff_eq]at h;obtain⟨⟨⟨⟨⟨⟨h1,h2⟩,h3⟩,h4⟩,h5⟩,h6⟩,h7⟩:=h;subst h1;cases args with
 |nil=>cases h3
 |cons l ls=>
  have hA:=hs.1 Γ k X cl EX _ c h7;have h8:noStar l=true/\∃eN,aU Γ eN ls=true:=by
   cases es with
   |nil=>rw[aU]at h7;cases h7
   |cons i eN=>rw[aU.eq_def]at h7;dsimp only at h7;simp only[and_eq_true]at h7;exact⟨h7.1.1,eN,h7.2⟩
  obtain⟨n1,eN,n2⟩:=h8;have st:=aZ (env:=X.env) (es:=ls) n1;have an:=fZ (pos:=cp) (env:=X.env) n2;have few:((backTo cp (starEach (l::ls) X.env)).all (λx=>!x.1)&&(backToKw cp (keywordEach [] X.env)).all (λx=>x.1.isSome)
   && decide ((l::ls).length+([]:List Keyword).length+(if ([]:List Keyword).isEmpty then 0 else 1)<30))=true:=by
   rw[rY h7];have:(l::ls).length<29:=aar h4;simp only[Bool.true_and,and_eq_true];exact⟨rfl,decide_eq_true (by simp at this |-;omega)⟩
  have hl:(ap.endLine==cp.line)=true:=by rw[h5];exact beq_self_eq_true _
  refine(λq=>⟨q,b6 q λ_=>rfl⟩) ?_;have fin:∀(T:String) (r:V->List V->Hp->VK->Prop),(∀x xs H Q,PD (bd X cl) EX m x xs H Q->r x xs H Q)->T=Wq m->∀σ H Q,tV Φ (bd X cl) EX (.met m a es) σ H Q->V4 X.K T r (tV Φ (bd X cl) EX a) (Wn Φ (bd X cl) EX es) σ H Q:=by rintro T rr hr rfl σ H Q ⟨ρ,env,h,hE,r,p⟩;simp only[az]at p;refine⟨ρ,env,h,hE,r,av p λv h1 ρ1 x H1 g1 r1 q1 p1=>?_⟩;obtain⟨_,e1,p2⟩:=aD p1;refine⟨JK r1 q1 e1,ρ1,env,h1,hE.up g1,r1,bf p2 λvs h2 ρ2 H2 g2 r2 p3 xs q2=>hr _ _ _ _ ⟨ρ2,h2,v,vs,r2,VR.up g2 _ _ q1,q2,p3⟩⟩
  cases m with
  |join=>exact(xC PySem.F.plainAttrs_str PySem.F.slot_str_join PySem.F.type_str_join (Jq (cl:=cl) (EX:=EX)) (ha Γ k X cl EX o c h6).1 hA (super_ok h2) few hl st an).imp (fin _ _ (λ_ _ _ _ z=>z) rfl)
  |append=>exact(xC PySem.F.plainAttrs_list PySem.F.slot_list_append PySem.F.type_list_append (CN (cl:=cl) (EX:=EX)) (ha Γ k X cl EX o c h6).1 hA (super_ok h2) few hl st an).imp (fin _ _ (λ_ _ _ _ z=>z) rfl)
  |extend=>exact(xC PySem.F.plainAttrs_list PySem.F.slot_list_extend PySem.F.type_list_extend (CO (cl:=cl) (EX:=EX)) (ha Γ k X cl EX o c h6).1 hA (super_ok h2) few hl st an).imp (fin _ _ (λ_ _ _ _ z=>z) rfl)
  |remove=>exact(xC PySem.F.plainAttrs_list PySem.F.slot_list_remove PySem.F.type_list_remove (CP (cl:=cl) (EX:=EX)) (ha Γ k X cl EX o c h6).1 hA (super_ok h2) few hl st an).imp (fin _ _ (λ_ _ _ _ z=>z) rfl)
  |pop=>exact(xC PySem.F.plainAttrs_list PySem.F.slot_list_pop PySem.F.type_list_pop (MY (cl:=cl) (EX:=EX)) (ha Γ k X cl EX o c h6).1 hA (super_ok h2) few hl st an).imp (fin _ _ (λ_ _ _ _ z=>z) rfl)
end
theorem _root_.L2.PI.or(h:PI X tg iter t)(h':PI X tg iter t'):PI X tg iter (λσ H R=>t σ H R\/t' σ H R):=λpins s σ H R I hw=>hw.elim (h pins s σ H R I) (h' pins s σ H R I)
structure Walks (B:Bd) (src:Src) (J:It) (ρ1:List Addr) (H1:Hp):Prop where
 stop:∀{ρ h H i xs},Gw ρ1 H1 ρ H->HR B ρ h H->src.items h=some xs->xs.length<=i->J.stop i H
 go:∀{ρ h H i xs v},Gw ρ1 H1 ρ H->HR B ρ h H->src.items h=some xs->xs[i]?=some v->J.go i H
 zA:∀{ρ h H i xs v y H'},Gw ρ1 H1 ρ H->HR B ρ h H->src.items h=some xs->xs[i]?=some v->J.zA i H y H'->Gr ρ H ρ H'/\HR B ρ h H'/\VR B.K ρ H' v y
section
variable {B:Bd} {ρ1:List Addr} {H1:Hp} {a:Addr}
theorem CU(q:j8 B.K H1 a xs)(e:ay B.K ρ1 H1 vs xs):Walks B (.fix vs) (Ul B.K a) ρ1 H1 where
 stop:=λg r hi hl=>by
  cases hi;exact⟨xs,g.TH q,by rw[<-e.length];exact hl⟩
 go:=λg r hi hv=>by
  cases hi;obtain⟨x,k1,_⟩:=e.get hv;exact⟨xs,x,g.TH q,k1⟩
 zA:=λg r hi hv y=>by
  cases hi;obtain⟨rfl,y⟩:=y;obtain⟨x,k1,k2⟩:=e.get hv;have:=y xs (g.TH q);rw[k1]at this;cases this;exact⟨Gr.refl,r,VR.lF g _ _ k2⟩
theorem E4(q:K5 B.K H1 a xs)(e:ay B.K ρ1 H1 vs xs):Walks B (.fix vs) (Tq B.K a) ρ1 H1 where
 stop:=λg r hi hl=>by
  cases hi;exact⟨xs,(g.MJ q).sq,by rw[<-e.length];exact hl⟩
 go:=λg r hi hv=>by
  cases hi;obtain⟨x,k1,_⟩:=e.get hv;exact⟨xs,x,(g.MJ q).sq,k1⟩
 zA:=λg r hi hv y=>by
  cases hi;obtain⟨rfl,y⟩:=y;obtain⟨x,k1,k2⟩:=e.get hv;have:=y xs (g.MJ q).sq;rw[k1]at this;cases this;exact⟨Gr.refl,r,VR.lF g _ _ k2⟩
theorem k9{i:Nat}(q:ρ1[i]?=some a)(g:Gw ρ1 H1 ρ H)(r:HR B ρ h H)(hi:(Src.live i).items h=some xs):∃ys,gF B.K H a ys/\ay B.K ρ H xs ys:=by
 obtain⟨b,ys,e,k1,k2⟩:=eY r (VR.ref (qD g.pre q)) (show aG h (.ref i)=some xs from hi);cases e;exact⟨ys,k1,k2⟩
theorem Ae{i:Nat}(q:ρ1[i]?=some a):Walks B (.live i) (Tq B.K a) ρ1 H1 where
 stop:=λg r hi hl=>by
  obtain⟨ys,k1,k2⟩:=k9 q g r hi;exact⟨ys,k1,by rw[<-k2.length];exact hl⟩
 go:=λg r hi hv=>by
  obtain⟨ys,k1,k2⟩:=k9 q g r hi;obtain⟨x,k3,_⟩:=k2.get hv;exact⟨ys,x,k1,k3⟩
 zA:=λg r hi hv y=>by
  obtain⟨ys,k1,k2⟩:=k9 q g r hi;obtain⟨rfl,y⟩:=y;obtain⟨x,k3,k4⟩:=k2.get hv;have:=y ys k1;rw[k3]at this;cases this;exact⟨Gr.refl,r,k4⟩
theorem iI(lo:Int)(n:Nat):(cj lo n).length=n:=by unfold cj;simp
theorem pW{lo:Int}{n:Nat}:Walks B (.fix (cj lo n)) (Qq lo n) ρ1 H1 where
 stop:=λg r hi hl=>by
  cases hi;rw[iI]at hl;exact hl
 go:=λg r hi hv=>by
  cases hi;have:=(Z8.mp hv).1;rw[iI]at this;exact this
 zA:=λ{ρ h H i xs v y H'} g r hi hv y'=>by
  cases hi;obtain⟨rfl,rfl⟩:=y';have hl:=(Z8.mp hv).1;rw[iI]at hl;have e:(cj lo n)[i]?=some (.int (lo+i)):=by unfold cj;simp[hl]
  rw[e]at hv;cases hv;exact⟨Gr.refl,r,VR.int⟩
theorem gp:∀(i:Nat) (ds:List Val),(cL i ds).length=ds.length
 |_,[]=>rfl
 |i,d::r=>by simp[cL,gp (i+1) r]
theorem uQ:∀(k:Nat) (ds:List Val) (i:Nat) (d:Val),ds[i]?=some d->(cL k ds)[i]?=some (.tup [.int ((k+i:Nat):Int),d])
 |_,[],_,_,h=>by simp at h
 |k,e::r,0,d,h=>by simp at h;subst h;simp[cL]
 | k,e::r,i+1,d,h=>by
  have:=uQ (k+1) r i d (by simpa using h);simp only[cL,List.getElem?_cons_succ];rw[this];have e1:k+1+i=k+(i+1):=by omega
  rw[e1]
theorem oW{i:Nat}(e:(cL 0 ds)[i]?=some v):∃d,ds[i]?=some d/\v=.tup [.int (i:Int),d]:=by
 have hl:=(Z8.mp e).1;rw[gp]at hl;have e1:=uQ 0 ds i ds[i] (aay hl);rw[e]at e1;cases e1;exact⟨ds[i],aay hl,by rw[Nat.zero_add]⟩
theorem yi{i:Nat}(r:HR B ρ h H)(k1:gF B.K H a ys)(k2:ay B.K ρ H xs ys)(hv:(cL 0 xs)[i]?=some v)(hy:(QU B.K a).zA i H y H'):Gr ρ H ρ H'/\HR B ρ h H'/\VR B.K ρ H' v y:=by
 obtain⟨p,w,hn,rfl,rfl,hy⟩:=hy;obtain⟨d,e1,rfl⟩:=oW hv;obtain⟨x,k3,k4⟩:=k2.get e1;have:=hy ys k1;rw[k3]at this;cases this;exact⟨Gr.side hn,r.side hn,VR.tup (j8.of aR) (ay.cons VR.int (ay.cons (VR.up (Gr.side hn) _ _ k4) ay.nil))⟩
theorem yj(q:K5 B.K H1 a xs)(e:ay B.K ρ1 H1 vs xs):Walks B (.fix (cL 0 vs)) (QU B.K a) ρ1 H1 where
 stop:=λg r hi hl=>by
  cases hi;rw[gp]at hl;exact⟨xs,(g.MJ q).sq,by rw[<-e.length];exact hl⟩
 go:=λg r hi hv=>by
  cases hi;obtain⟨d,e1,_⟩:=oW hv;obtain⟨x,k1,_⟩:=e.get e1;exact⟨xs,x,(g.MJ q).sq,k1⟩
 zA:=λg r hi hv y=>by
  cases hi;exact yi r (g.MJ q).sq (ay.lF g _ _ e) hv y
theorem yk{i:Nat}(q:ρ1[i]?=some a):Walks B (.enum i) (QU B.K a) ρ1 H1 where
 stop:=λg r hi hl=>by
  obtain⟨zs,e1,rfl⟩:=aaE.mp hi;obtain⟨ys,k1,k2⟩:=k9 q g r e1;rw[gp]at hl;exact⟨ys,k1,by rw[<-k2.length];exact hl⟩
 go:=λg r hi hv=>by
  obtain⟨zs,e1,rfl⟩:=aaE.mp hi;obtain⟨ys,k1,k2⟩:=k9 q g r e1;obtain⟨d,e2,_⟩:=oW hv;obtain⟨x,k3,_⟩:=k2.get e2;exact⟨ys,x,k1,k3⟩
 zA:=λg r hi hv y=>by
  obtain⟨zs,e1,rfl⟩:=aaE.mp hi;obtain⟨ys,k1,k2⟩:=k9 q g r e1;exact yi r k1 k2 hv y
end
section
variable {Φ:Fn} {Γ:qF} {k:Nat} {X:Cx} {cl:Nat->Addr} {EX:Nat->List V->Hp->Prop}
def PM(Φ:Fn)(ik:Ik)(it:ng)(env:Env):M Src:=bnd (aK Φ it env) λits=>bI (srcOf ik its)
def tI(Φ:Fn)(B:Bd)(EX:Nat->List V->Hp->Prop)(ik:Ik)(it:ng):TI:=λσ H R=>∃ρ env h,cP B.K ρ env σ H/\HR B ρ h H /\
 Post B EX ρ H (λsrc h' ρ' H'=>(∃xs,src.items h'=some xs)/\∀J,Walks B src J ρ' H'->R J H') (PM Φ ik it env h)
theorem Le(hs:ko Φ it)(c:Ctx Φ Γ k X cl EX)(h:Bj Γ ik it iter=true)(ht:ik=.enum\/ik=.zip->∃es kk pos,tg=.Tuple es kk pos):PI X tg iter (tI Φ (bd X cl) EX ik it)/\∀x,foldedSetIterable iter X.env x=pure x:=by
 cases it with
 |nil=>rw[Bj]at h;cases h
 |cons e es=>
  cases ik with
  |seq=>
   replace h:=ES h;obtain⟨rfl,h⟩:=h;simp only[and_eq_true]at h;have q:=(hs.2.1 Γ k X cl EX iter c h.2).1;refine⟨((Im q).or (LU q)).imp λσ H R ⟨ρ,env,h,hE,r,p⟩=>?_,λx=>?_⟩
   ·simp only[PM,yh,bg,cQ]at p
    have key:∀(Q:VK),(∀v h1 ρ1 x H1,az Φ e env h=.ok v h1->Gr ρ H ρ1 H1->HR (bd X cl) ρ1 h1 H1->VR X.K ρ1 H1 v x->Post (bd X cl) EX ρ1 H1 (λsrc h' ρ' H'=>(∃xs,src.items h'=some xs)/\∀J,Walks (bd X cl) src J ρ' H'->R J H') (bI (srcOf .seq [v]) h1)->Q x H1)->tV Φ (bd X cl) EX e σ H Q:=λQ kk=>
     ⟨ρ,env,h,hE,r,dS p λv h1 ρ1 H1 e1 g1 r1 p1 x q1=>kk v h1 ρ1 x H1 e1 g1 r1 q1 p1⟩
    cases ev:az Φ e env h with
    |ok v h1=>
     cases v with
     |tup vs=>refine .inr (key _ λv h1 ρ1 x H1 e1 g1 r1 q1 p1=>?_);rw[ev]at e1;cases e1;obtain⟨src,e2,w1,w2⟩:=dR r1 p1;cases e2;rw[VR]at q1;obtain⟨a,xs,rfl,k1,k2⟩:=q1;exact⟨a,rfl,⟨xs,k1⟩,w2 _ (CU k1 k2)⟩
     |rl vs=>refine .inl (key _ λv h1 ρ1 x H1 e1 g1 r1 q1 p1=>?_);rw[ev]at e1;cases e1;obtain⟨src,e2,w1,w2⟩:=dR r1 p1;cases e2;rw[VR]at q1;obtain⟨a,xs,rfl,k1,k2⟩:=q1;exact⟨a,rfl,⟨xs,k1.sq⟩,w2 _ (E4 k1 k2)⟩
     |ref i=>refine .inl (key _ λv h1 ρ1 x H1 e1 g1 r1 q1 p1=>?_);rw[ev]at e1;cases e1;obtain⟨src,e2,⟨zs,w1⟩,w2⟩:=dR r1 p1;cases e2;have q0:=q1;rw[VR]at q1;obtain⟨a,rfl,k1⟩:=q1;obtain⟨b,ys,e3,k2,k3⟩:=eY r1 q0 (show aG h1 (.ref i)=some zs from w1);cases e3;exact⟨a,rfl,⟨ys,k2⟩,w2 _ (Ae k1)⟩
     |_=>refine .inl (key _ λv h1 ρ1 x H1 e1 g1 r1 q1 p1=>?_);rw[ev]at e1;cases e1;obtain⟨src,e2,_⟩:=dR r1 p1;cases e2
    |exc _ _ _=>exact .inl (key _ λv h1 ρ1 x H1 e1=>by rw[ev]at e1;cases e1)
    |no=>exact .inl (key _ λv h1 ρ1 x H1 e1=>by rw[ev]at e1;cases e1)
   ·cases iter<;>first|rfl|(exact absurd h.1 Z3)
  |range=>
   apply jP h;intro x xp q1 pos h;apply z9 h;intro a args h;simp only[and_eq_true,beq_iff_eq]at h;obtain⟨⟨⟨⟨⟨h1,h2⟩,h3⟩,h4⟩,h5⟩,h6⟩:=h;subst h1;obtain⟨g1,g2,g3⟩:=c.gl h2;have hm:=c.blt _ (show ("range":Str)∈bltNames by decide);refine⟨?_,λx=>rfl⟩;have hA:=hs.1 Γ k X cl EX (a::args) c (by rw[aU.eq_def];simp[h3,h4,h5]);cases args with
   |nil=>
    cases es with
    |cons i eN=>rw[aU.eq_def]at h5;cases h5
    |nil=>
     refine(Cb g1 hm hA (aZ h3)).imp λσ H R aO=>?_;obtain⟨ρ,env,h,hE,r,p⟩:=aO;refine⟨ρ,env,h,hE,r,dS p λvs h1 ρ1 H1 e1 Wr r1 p1 xs q1=>?_⟩;obtain⟨src,e2,w1,w2⟩:=dR r1 p1
     match vs,e2 with
     |[.int n],e2=>
      change (if inR n=true then some (Src.fix (cj 0 n.toNat)) else none)=some src at e2;split at e2
      ·rename_i hn;cases e2;simp only[inR,and_eq_true,decide_eq_true_eq]at hn;obtain⟨x,rfl,hx⟩:=ay.one q1;rw[VR]at hx;subst hx;exact⟨n,rfl,hn.1,hn.2,w2 _ pW⟩
      ·cases e2
     |[.int _,.int _],e2=>have:=iW (Γ:=Γ) (ls:=[a]) (by rw[aU.eq_def];simp[h3,h4,aU]) e1;simp at this
   |cons b args=>
    cases args with
    |cons _ _=>have:=aar h6;simp only[length_cons]at this;omega
    |nil=>
     have hb:noStar b=true:=by
      cases es with
      |nil=>rw[aU]at h5;cases h5
      |cons i eN=>rw[aU.eq_def]at h5;dsimp only at h5;simp only[and_eq_true]at h5;exact h5.1.1
     refine(Cc g1 hm hA (by rw[aZ h3,aZ hb];rfl) (by rw[aZ hb];rfl)).imp λσ H R aO=>?_;obtain⟨ρ,env,h,hE,r,p⟩:=aO;refine⟨ρ,env,h,hE,r,dS p λvs h1 ρ1 H1 e1 Wr r1 p1 xs q1=>?_⟩;obtain⟨src,e2,w1,w2⟩:=dR r1 p1
     match vs,e2 with
     |[.int _],e2=>have:=iW (Γ:=Γ) (ls:=[a,b]) (by rw[aU.eq_def];simp[h3,h4,h5]) e1;simp at this
     |[.int lo,.int hi],e2=>
      change (if (inR lo&&inR hi)=true then some (Src.fix (cj lo (hi-lo).toNat)) else none)=some src at e2;split at e2
      ·rename_i hn;cases e2;simp only[inR,and_eq_true,decide_eq_true_eq]at hn;obtain⟨x,y,rfl,hx,hy⟩:=ay.two q1;rw[VR]at hx;rw[VR]at hy;subst hx;subst hy;exact⟨lo,hi,rfl,⟨hn.1.1,hn.1.2,hn.2.1,hn.2.2⟩,w2 _ pW⟩
      ·cases e2
  |enum=>
   replace h:=ES h;obtain⟨rfl,h⟩:=h;apply jP h;intro x xp q1 pos h;apply iH h;intro a h;simp only[and_eq_true,beq_iff_eq]at h;obtain⟨⟨⟨h1,h2⟩,h3⟩,h4⟩:=h;subst h1;obtain⟨g1,g2,g3⟩:=c.gl h2;have hm:=c.blt _ (show ("enumerate":Str)∈bltNames by decide);obtain⟨ZS,tk,tp,rfl⟩:=ht (.inl rfl);refine⟨?_,λx=>rfl⟩;have hA:=hs.1 Γ k X cl EX [a] c (by rw[aU.eq_def];simp[h3,h4,aU]);refine(IY g1 hm hA (aZ h3)).imp λσ H R aO=>?_;obtain⟨ρ,env,h,hE,r,p⟩:=aO;refine⟨ρ,env,h,hE,r,dS p λvs h1 ρ1 H1 e1 Wr r1 p1 xs q1=>?_⟩;obtain⟨src,e2,⟨zs,w1⟩,w2⟩:=dR r1 p1
   match vs,e2 with
   |[.rl ws],e2=>cases e2;obtain⟨x,rfl,hx⟩:=ay.one q1;rw[VR]at hx;obtain⟨b,ys,rfl,k1,k2⟩:=hx;exact⟨b,rfl,⟨ys,k1.sq⟩,w2 _ (yj k1 k2)⟩
   |[.ref i],e2=>cases e2;obtain⟨x,rfl,hx⟩:=ay.one q1;obtain⟨us,w3,_⟩:=aaE.mp w1;obtain⟨b,ys,rfl,k2,k3⟩:=eY r1 hx w3;rw[VR]at hx;obtain⟨b',e3,k1⟩:=hx;cases e3;exact⟨b,rfl,⟨ys,k2⟩,w2 _ (yk k1)⟩
  |zip=>cases h
end
section
variable {Φ:Fn} {Γ:qF} {k:Nat} {X:Cx} {cl:Nat->Addr} {EX:Nat->List V->Hp->Prop}
def r6:List Nat->Pw
 |[]=>Qn
 |i::is=>KU (pP i) (r6 is)
def CV(K:Frag):AS->TG
 |.one i=>pP i
 |.tup is=>Qo K is.length (r6 is)
def iJ:List Nat->List V->L2.St->L2.St
 |i::is,v::vs,σ=>iJ is vs (σ.set i (some v))
 |_,_,σ=>σ
theorem oX:∀{is:List Nat} {vs:List V} {σ:L2.St} {H:Hp} {Q:L2.St->Hp->Prop},vs.length=is.length->Q (iJ is vs σ) H->r6 is vs σ H Q
 |[],[],_,_,_,_,h=>⟨rfl,h⟩
 |i::is,v::vs,σ,H,Q,hl,h=>⟨v,vs,rfl,oX (by simpa using hl) h⟩
theorem uR(hnd:X.N.Nodup):∀{is:List Nat} {es:List Expr},es.length=is.length->(∀p∈is.zip es,∃x pos,p.2=.Name x pos/\X.N[p.1]?=some x/\X.env.scope.names.lookup x=some .local)->Px X es (r6 is)
 |[],[],_,_=>AB
 | i::is,e::es,hl,h=>by
  obtain⟨x,pos,rfl,h1,h2⟩:=h (i,e) (by simp);exact xu (qz hnd h1 (.inl h2) (.inr h2)) (uR hnd (by simpa using hl) λp hp=>h p (by simp[hp]))
theorem gK:∀{es:List Expr},(∀e∈es,∃x pos,e=.Name x pos)->(assignEach es env).length=es.length/\(assignEach es env).findIdx? (·.1)=none
 |[],_=>⟨rfl,rfl⟩
 | e::es,h=>by
  obtain⟨x,pos,rfl⟩:=h e aaa;obtain⟨h1,h2⟩:=gK (env:=env) (es:=es) λe he=>h e (Z5 _ he);have e1:assignEach (Expr.Name x pos::es) env=(false,assign (Expr.Name x pos) env)::assignEach es env:=rfl;rw[e1];refine⟨by simp[h1],?_⟩;rw[List.findIdx?_cons,h2];rfl
theorem E5{i:Nat}(h:yd Γ (.one i) tg=true):∃x p,tg=.Name x p:=by
 cases tg<;>first|exact⟨_,_,rfl⟩|exact absurd h Z3
theorem yl{is:List Nat}(h:yd Γ (.tup is) tg=true):∃es k p,tg=.Tuple es k p:=by
 cases tg<;>first|exact⟨_,_,_,rfl⟩|exact absurd h Z3
theorem E6(c:Ctx Φ Γ k X cl EX)(hnd:X.N.Nodup)(h:yd Γ pat tg=true):PG X tg (CV X.K pat):=by
 cases pat with
 |one i=>obtain⟨x,xp,rfl⟩:=E5 h;simp only[yd,and_eq_true,beq_iff_eq]at h;obtain⟨h1,h2⟩:=h;exact qz hnd (by rw[c.N];exact h1) (.inl (by rw[c.sc];exact h2)) (.inr (by rw[c.sc];exact h2))
 |tup is=>
  obtain⟨es,kk,pos,rfl⟩:=yl h
  ·
   simp only[yd,and_eq_true,beq_iff_eq,all_eq_true]at h;obtain⟨h1,h2⟩:=h;have names:∀p∈is.zip es,∃x pos,p.2=.Name x pos/\X.N[p.1]?=some x/\X.env.scope.names.lookup x=some .local:=λp hp=>by
    have q:=h2 p hp;cases ep:p.2<;>rw[ep]at q<;>simp at q;rename_i x pos';exact⟨x,pos',rfl,by rw[c.N];exact q.1,by rw[c.sc];exact q.2⟩
   have all:∀e∈es,∃x pos,e=.Name x pos:=λe he=>by
    obtain⟨n,hn,rfl⟩:=getElem_of_mem he;have hm:(is[n]'(by omega),es[n])∈is.zip es:=List.mem_iff_getElem?.mpr ⟨n,by rw[List.getElem?_zip_eq_some];simp[hn]⟩;obtain⟨x,pos,q,_⟩:=names _ hm;exact⟨x,pos,q⟩
   obtain⟨l1,l2⟩:=gK (env:=X.env) all;exact Dz c.calm (uR hnd h1 names) (by rw[l1,h1]) l2
def ym(Γ:qF):AS->Expr->Bool
 |.one i,.Name x _=>Γ.N[i]?==some x&&(Γ.sc.names.lookup x==some .local || Γ.sc.names.lookup x==some .cell)
 | .tup is,.Tuple es _ _=>es.length==is.length&&(is.zip es).all λp=>match p.2 with
  |.Name x _=>Γ.N[p.1]?==some x&&(Γ.sc.names.lookup x==some .local || Γ.sc.names.lookup x==some .cell)
  |_=>false
 |_,_=>false
theorem r8(hfn:∀x,X.fn x=true)(hnd:X.N.Nodup):∀{is:List Nat} {es:List Expr},es.length=is.length->(∀p∈is.zip es,∃x pos,p.2=.Name x pos/\X.N[p.1]?=some x/\Loc X.env.scope x)->Px X es (r6 is)
 |[],[],_,_=>AB
 | i::is,e::es,hl,h=>by
  obtain⟨x,pos,rfl,h1,h2⟩:=h (i,e) (by simp);exact xu (qz hnd h1 h2 (.inl (hfn x))) (r8 hfn hnd (by simpa using hl) λp hp=>h p (by simp[hp]))
theorem r9{i:Nat}(h:ym Γ (.one i) tg=true):∃x p,tg=.Name x p:=by
 cases tg<;>first|exact⟨_,_,rfl⟩|exact absurd h Z3
theorem nu{is:List Nat}(h:ym Γ (.tup is) tg=true):∃es k p,tg=.Tuple es k p:=by
 cases tg<;>first|exact⟨_,_,_,rfl⟩|exact absurd h Z3
theorem Bp(c:Ctx Φ Γ k X cl EX)(hfn:∀x,X.fn x=true)(hnd:X.N.Nodup)(h:ym Γ pat tg=true):PG X tg (CV X.K pat):=by
 have loc:∀x,(Γ.sc.names.lookup x==some .local || Γ.sc.names.lookup x==some .cell)=true->Loc X.env.scope x:=λx e=>by
  unfold L2.Loc;rw[c.sc];simpa using e
 cases pat with
 |one i=>obtain⟨x,pos,rfl⟩:=r9 h;simp only[ym,and_eq_true,beq_iff_eq]at h;obtain⟨h1,h2⟩:=h;exact qz hnd (by rw[c.N];exact h1) (loc _ h2) (.inl (hfn _))
 |tup is=>
  obtain⟨es,kk,pos,rfl⟩:=nu h
  ·
   simp only[ym,and_eq_true,beq_iff_eq,all_eq_true]at h;obtain⟨h1,h2⟩:=h;have names:∀p∈is.zip es,∃x pos,p.2=.Name x pos/\X.N[p.1]?=some x/\Loc X.env.scope x:=λp hp=>by
    have q:=h2 p hp;cases ep:p.2<;>rw[ep]at q<;>first|cases q|skip
    rename_i x pos';simp only[and_eq_true,beq_iff_eq]at q;exact⟨x,pos',rfl,by rw[c.N];exact q.1,loc _ q.2⟩
   have all:∀e∈es,∃x pos,e=.Name x pos:=λe he=>by
    obtain⟨n,hn,rfl⟩:=getElem_of_mem he;have hm:(is[n]'(by omega),es[n])∈is.zip es:=List.mem_iff_getElem?.mpr ⟨n,by rw[List.getElem?_zip_eq_some];simp[hn]⟩;obtain⟨x,pos,q,_⟩:=names _ hm;exact⟨x,pos,q⟩
   obtain⟨l1,l2⟩:=gK (env:=X.env) all;exact Dz c.calm (r8 hfn hnd h1 names) (by rw[l1,h1]) l2
theorem cP.set{K:Frag}{ρ:List Addr}{env:Env}{σ:L2.St}{H:Hp}{i:Nat}{v:Val}{x:V}(e:cP K ρ env σ H)(hl:env.length = σ.length)(q:VR K ρ H v x):cP K ρ (env.set i (some v)) (σ.set i (some x)) H:=λj w hj=>by
 by_cases hij:i=j
 ·subst hij
  have hi:i<env.length:=by have:=(Z8.mp hj).1;simpa using this
  rw[aah hi]at hj;cases hj;exact⟨x,by rw[aah (by rw[<-hl];exact hi)],q⟩
 ·rw[Z6 hij]at hj;rw[Z6 hij];exact e j w hj
theorem mF{K:Frag}{ρ:List Addr}{H:Hp}:∀{is:List Nat} {ds:List Val} {xs:List V} {env env':Env} {σ:L2.St},bindAll is ds env=some env'->ay K ρ H ds xs->cP K ρ env σ H->env.length = σ.length->cP K ρ env' (iJ is xs σ) H/\env'.length=(iJ is xs σ).length/\(iJ is xs σ).length = σ.length/\xs.length=is.length
 | [],[],xs,env,env',σ,e,q,hE,hl=>by
  rw[ay]at q;subst q;simp only[bindAll]at e;cases e;exact⟨hE,hl,rfl,rfl⟩
 | i::is,d::ds,xs,env,env',σ,e,q,hE,hl=>by
  rw[ay]at q;obtain⟨x,r,rfl,q1,q2⟩:=q;simp only[bindAll]at e;obtain⟨a1,a2,a3,a4⟩:=mF e q2 (hE.set hl q1) (by simp[hl]);exact⟨a1,a2,by rw[show iJ (i::is) (x::r) σ = iJ is r (σ.set i (some x)) from rfl,a3];simp,by simp[a4]⟩
 |[],_::_,_,_,_,_,e,_,_,_=>by simp[bindAll]at e
 |_::_,[],_,_,_,_,e,_,_,_=>by simp[bindAll]at e
theorem Bq{K:Frag}{ρ:List Addr}{H:Hp}{pat:AS}{v:Val}{x:V}{env env':Env}{σ:L2.St}{Q:L2.St->Hp->Prop}(e:fX pat v env=some env')(q:VR K ρ H v x)(hE:cP K ρ env σ H)(hl:env.length = σ.length)
  (kk:∀σ',cP K ρ env' σ' H->env'.length = σ'.length -> σ'.length = σ.length->Q σ' H):CV K pat x σ H Q:=by
 cases pat with
 |one i=>simp only[fX]at e;cases e;exact kk _ (hE.set hl q) (by simp[hl]) (by simp)
 |tup is=>
  cases v<;>simp only[fX]at e<;>first|cases e|skip
  rw[VR]at q;obtain⟨a,xs,rfl,q1,q2⟩:=q;obtain⟨a1,a2,a3,a4⟩:=mF e q2 hE hl;exact⟨a,xs,rfl,q1,a4,oX a4 (kk _ a1 a2 a3)⟩
theorem lg{α β:Type}{W:β -> Hs->List Addr->Hp->Prop}{W':α -> Hs->List Addr->Hp->Prop}{m:M α}{f:α -> M β}(g:Gr ρ H ρ' H')(p:Post B EX ρ H W (bnd m f h))
  (kk:∀v h1 ρ2 H2,m h=.ok v h1->Post B EX ρ H W (f v h1)->Gr ρ' H' ρ2 H2->HR B ρ2 h1 H2->W' v h1 ρ2 H2):Post B EX ρ' H' W' (m h):=by
 unfold bnd at p;cases e:m h with
 |ok v h1=>rw[e]at p;exact λρ2 H2 g2 r2=>kk v h1 ρ2 H2 e p g2 r2
 |exc c vs h1=>rw[e]at p;exact λρ2 H2 xs g2 r2 q=>p ρ2 H2 xs (g.trans g2) r2 q
 |no=>rw[e]at p;exact p
theorem HR.adopt(r:HR B ρ h H)(hD:D ∉ ρ)(q:OR B (ρ ++ [D]) H D u):HR B (ρ ++ [D]) (h++[u]) H where
 len:=by simp[r.len]
 nd:=by rw[aaH];refine⟨r.nd,by simp,λa ha b hb=>?_⟩;rw[aaj.mp hb];rintro rfl;exact hD ha
 ob i v a q1 q2:=by
  by_cases hi:i<h.length
  ·rw[aam hi]at q1;rw[aam (by rw[r.len];exact hi)]at q2;exact OR.lF ⟨aa0 _ _,λ_ _ e _=>e⟩ rfl (r.ob i v a q1 q2)
  ·rw[aaw (by omega)]at q1
   rw[aaw (by rw[r.len];omega)]at q2;have hi0:i-h.length=0:=by have:=(Z8.mp q1).1;simp at this;omega
   rw[hi0]at q1;rw[r.len,hi0]at q2;simp at q1 q2;subst q1;subst q2;exact q
theorem Gr.over(g:Gr ρ H ρ' H')(hD:H D=none):Gr ρ H ρ' (upd H' D o) where
 pre:=g.pre
 keep a u e n:=by rw[aq (aM e hD)];exact g.keep a u e n
 firm a u e n:=by rw[aq (aM e hD)];exact g.firm a u e n
 fresh:=g.fresh
theorem Gr.adopt(g:Gr ρ H ρ' H')(hD:H D=none):Gr ρ H (ρ'++[D]) H' where
 pre:=g.pre.trans (aa0 _ _)
 keep:=g.keep
 firm:=g.firm
 fresh a z n:=by
  rcases aat.mp z with z|z
  ·exact g.fresh a z n
  ·rw[aaj.mp z];exact hD
theorem JL{K:Frag}{ρ:List Addr}{env:Env}{σ:L2.St}{H:Hp}{js:List (Option Nat)}(e:cP K ρ env σ H):cP K ρ (ki js env) (gI js σ) H:=λi v q=>by
 unfold ki at q;rw[aaB]at q;cases hj:js[i]? with
 |none=>rw[hj]at q;cases q
 |some o=>
  rw[hj]at q;simp only[map_some]at q;cases o with
  |none=>cases q
  |some j=>
   dsimp only at q;cases ej:env[j]? with
   |none=>rw[ej]at q;cases q
   |some w=>
    cases w with
    |none=>rw[ej]at q;cases q
    |some d=>rw[ej]at q;cases q;obtain⟨x,q1,q2⟩:=e j _ ej;refine⟨x,?_,q2⟩;unfold gI;rw[aaB,hj];simp only[map_some];rw[q1]
theorem E7{K:Frag}{ρ:List Addr}{env:Env}{σ σ':L2.St}{H:Hp}{js:List (Option Nat)}{pat:AS}(hp:(ye pat).all (λi=>js[i]?==some none)=true)(e:cP K ρ (ki js env) σ H)(hs:∀i,i∉ye pat -> σ'[i]? = σ[i]?):cP K ρ (ki js env) σ' H:=λi v q=>by
 have hi:i∉ye pat:=λz=>by
  have h1:=all_eq_true.mp hp i z;have h2:js[i]?=some none:=eq_of_beq h1;unfold ki at q;rw[aaB,h2]at q;cases q
 obtain⟨x,q1,q2⟩:=e i v q;exact⟨x,(hs i hi).trans q1,q2⟩
theorem sd:∀{is:List Nat} {xs:List V} {σ:L2.St} {i:Nat},i∉is->(iJ is xs σ)[i]? = σ[i]?
 |[],xs,σ,i,_=>by cases xs<;>rfl
 |j::is,[],σ,i,_=>rfl
 | j::is,x::xs,σ,i,h=>by
  rw[show iJ (j::is) (x::xs) σ = iJ is xs (σ.set j (some x)) from rfl,sd λz=>h (Z5 _ z),Z6 λz=>h (by rw[z];exact aaa)]
theorem E8{K:Frag}{ρ:List Addr}{H:Hp}{pat:AS}{v:Val}{x:V}{env env':Env}{σ:L2.St}{Q:L2.St->Hp->Prop}(e:fX pat v env=some env')(q:VR K ρ H v x)(hE:cP K ρ env σ H)(hl:env.length = σ.length)
  (kk:∀σ',cP K ρ env' σ' H -> σ'.length = σ.length->(∀i,i∉ye pat -> σ'[i]? = σ[i]?)->Q σ' H):CV K pat x σ H Q:=by
 cases pat with
 |one i=>simp only[fX]at e;cases e;exact kk _ (hE.set hl q) (by simp) λj hj=>Z6 λz=>hj (by rw[z];exact aaj.mpr rfl)
 |tup is=>
  cases v<;>simp only[fX]at e<;>first|cases e|skip
  rw[VR]at q;obtain⟨a,xs,rfl,q1,q2⟩:=q;obtain⟨a1,a2,a3,a4⟩:=mF e q2 hE hl;exact⟨a,xs,rfl,q1,a4,oX a4 (kk _ a1 a3 λj hj=>sd hj)⟩
theorem se(hs:ko Φ it)(hc:b9 Φ t)(he:b9 Φ elt)(c:Ctx Φ Γ k X cl EX)(h:bA Γ (.comp N' js pat ik it t elt) e=true) :
  ∃e' tg iter ifs scope pos wi g tt te,e=.ListComp e' [⟨tg,iter,ifs,0⟩] scope pos/\gm X.N X.env.scope scope N' js=true/\PI X tg iter wi/\(∀cls C s H fp,PG (bz X scope N' cls C s H fp) tg g)/\(∀cls C s H fp,HN (bz X scope N' cls C s H fp) ifs tt) /\
   (∀cls C s H fp,PE (bz X scope N' cls C s H fp) e' te)/\(∀x,foldedSetIterable iter X.env x=pure x)/\∀σ H Q,tV Φ (bd X cl) EX (.comp N' js pat ik it t elt) σ H Q->xK wi js g tt te σ H Q:=by
 apply Be h;intro e' q1 scope pos h;apply iH h;intro q2 h;apply EI h;intro tg iter ifs q3 h;apply uN h;intro h;simp only[and_eq_true]at h;obtain⟨⟨⟨⟨⟨⟨⟨h1,h2⟩,h3⟩,h4⟩,h5⟩,h6⟩,h7⟩,h8⟩:=h;have hnd:N'.Nodup:=aar h3;have hen:ik=.enum\/ik=.zip->∃es kk pos,tg=.Tuple es kk pos:=by
  intro hz;cases pat with
  |one i=>rcases hz with rfl|rfl<;>cases h6
  |tup is=>exact yl h4
 obtain⟨hi,hf⟩:=Le hs c h2 hen
 let tt:TT:=if cM t=true then xJ else tT Φ (bd X cl) EX t
 have Uw:∀cls C s H fp,HN (bz X scope N' cls C s H fp) ifs tt:=λcls C s H fp=>by
  have c':=c.vO scope N' cls C s H fp;cases ifs with
  |nil=>have:cM t=true:=h7;show HN _ [] (if cM t=true then xJ else tT Φ (bd X cl) EX t);rw[aab this];exact IV
  |cons a r=>
   cases r with
   |cons _ _=>cases h7
   |nil=>simp only[and_eq_true,not_eq_true']at h7;show HN _ [a] (if cM t=true then xJ else tT Φ (bd X cl) EX t);rw[aad (by rw[h7.1];exact Z3)];exact AK (hc _ _ _ _ _ _ c' h7.2).2
 refine⟨e',tg,iter,ifs,scope,pos,_,CV X.K pat,tt,tV Φ (bd X cl) EX elt,rfl,by rw[c.N,c.sc];exact h1,hi,λcls C s H fp=>E6 (c.vO scope N' cls C s H fp) hnd h4,Uw,λcls C s H fp=>(he _ _ _ _ _ _ (c.vO scope N' cls C s H fp) h8).1,hf,λσ H Q ⟨ρ,env,h,hE,r,p⟩=>?_⟩
 ·skip
  simp only[az]at p
  let f:Val->M (Option Val):=λd=>bnd (bI (fX pat d (ki js env))) λenv'=>bnd (if cM t=true then ret true else bnd (az Φ t env') λv=>ask λh=>bW h v) λt=>
    if t=true then bnd (az Φ elt env') λe=>ret (some e) else ret none
  have p':Post (bd X cl) EX ρ H (WV X.K Q) (bnd (PM Φ ik it env) (λsrc=>bnd (ask λh=>src.items h) λxs=>aC (decide (xs.length<=100000)) (bnd (fY src f xs.length 0 []) λys=>new (.lst ys))) h):=by unfold PM;rw[bg];exact p
  refine⟨ρ,env,h,hE,r,bf p' λsrc h1 ρ1 H1 g1 r1 p1=>?_⟩;obtain⟨xs,e1,p2⟩:=aD p1;obtain⟨e2,p3⟩:=aP p2;have e2:=aar e2;refine⟨⟨xs,e1⟩,λJ wk D hD=>?_⟩;have ZT:(100000:Nat)<sizeLine:=by rw[sizeLine_eq];decide
  refine⟨λi m σ' H'=>∃ρ' h' acc ys,Gr ρ1 H1 ρ' H'/\HR (bd X cl) ρ' h' H'/\D ∉ ρ'/\H' D=some (.lst ys)/\ay X.K ρ' H' acc ys/\cP X.K ρ' (ki js env) σ' H' /\ σ'.length=js.length/\acc.length<=i/\i+m=xs.length /\
   Post (bd X cl) EX ρ1 H1 (WV X.K Q) (bnd (fY src f m i acc) (λys=>new (.lst ys)) h'),⟨xs.length,ρ1,h1,[],[],Gr.side hD,r1.side hD,r1.out hD,aR,ay.nil,(JL (hE.up g1)).up (Gr.side hD),iE js σ,aae _,by omega,p3⟩,?_⟩
  rintro i m σ' H' ⟨ρ',h',acc,ys,w1,w2,w3,w4,w5,w6,w7,w8,w9,vU⟩;have fin:∀p:Post (bd X cl) EX ρ1 H1 (WV X.K Q) (new (.lst acc) h'),Q (.ref D) H':=λp=>by
   refine p (ρ'++[D]) H' (w1.adopt hD) (w2.adopt w3 ⟨ys,w4,ay.lF ⟨aa0 _ _,λ_ _ e _=>e⟩ _ _ w5⟩) _ (VR.ref (by rw[<-w2.len];simp))
  cases m with
  |zero=>
   simp only[fY,bg]at vU;obtain⟨xs',k1,vU⟩:=aD vU;have Rt:Post (bd X cl) EX ρ1 H1 (WV X.K Q) (bnd (aC (decide (xs'.length<=i)) (ret acc)) (λys=>new (.lst ys)) h'):=vU;unfold aC at Rt
   by_cases hl:xs'.length<=i
   ·have:bnd (λh=>if decide (xs'.length<=i)=true then ret acc h else Out.no) (λys=>new (.lst ys)) h'=new (.lst acc) h':=by
     unfold bnd;dsimp only;rw[aab (decide_eq_true hl)];rfl
    rw[this] at Rt;exact .inl ⟨wk.stop w1.w w2 k1 hl,fin Rt⟩
   ·have:bnd (λh=>if decide (xs'.length<=i)=true then ret acc h else Out.no) (λys=>new (.lst ys)) h'=Out.no:=by
     unfold bnd;dsimp only;rw[aad (by rw[decide_eq_false hl];exact Z3)]
    rw[this] at Rt;exact Rt.elim
  |succ m=>
   simp only[fY,bg]at vU;obtain⟨xs',k1,vU⟩:=aD vU;cases hx:xs'[i]? with
   |none=>rw[hx]at vU;exact .inl ⟨wk.stop w1.w w2 k1 (List.getElem?_eq_none_iff.mp hx),fin vU⟩
   |some v=>
    rw[hx]at vU;dsimp only at vU;refine .inr ⟨wk.go w1.w w2 k1 hx,_,λAL IX w=>⟨m,aaW _,w⟩,λy H2 hy=>?_⟩;obtain⟨z1,z2,z3⟩:=wk.zA w1.w w2 k1 hx hy;simp only[bg]at vU;simp only[f,bg]at vU;obtain⟨env',k2,vU⟩:=bS vU;refine E8 k2 z3 (w6.up z1) (by rw[w7];simp[ki]) λσ2 TJ hl2 hout=>?_;have NL:H2 D=some (.lst ys):=z1.keep _ _ w4 w3;have G2:Gr ρ1 H1 ρ' H2:=w1.trans z1;have body:∀(b:Bool) (h3:Hs) (ρ3:List Addr) (H3:Hp),Gr ρ' H2 ρ3 H3->HR (bd X cl) ρ3 h3 H3->Post (bd X cl) EX ρ1 H1 (WV X.K Q) (bnd (if b=true then bnd (az Φ elt env') λe=>ret (some e) else ret none) (λo=>bnd (fY src f m (i+1) (match o with|some e=>acc++[e]|none=>acc)) λys=>new (.lst ys)) h3) ->
      (if b=true then tV Φ (bd X cl) EX elt σ2 H3 (λy H4=>∃ys,H4 D=some (.lst ys)/\ys.length<sizeLine/\(λσ' H'=>∃ρ' h' acc ys,Gr ρ1 H1 ρ' H'/\HR (bd X cl) ρ' h' H'/\D ∉ ρ'/\H' D=some (.lst ys)/\ay X.K ρ' H' acc ys/\cP X.K ρ' (ki js env) σ' H' /\ σ'.length=js.length/\acc.length<=i+1/\i+1+m=xs.length /\
       Post (bd X cl) EX ρ1 H1 (WV X.K Q) (bnd (fY src f m (i+1) acc) (λys=>new (.lst ys)) h')) σ2 (upd H4 D (.lst (ys++[y]))))
      else (λσ' H'=>∃ρ' h' acc ys,Gr ρ1 H1 ρ' H'/\HR (bd X cl) ρ' h' H'/\D ∉ ρ'/\H' D=some (.lst ys)/\ay X.K ρ' H' acc ys/\cP X.K ρ' (ki js env) σ' H' /\ σ'.length=js.length/\acc.length<=i+1/\i+1+m=xs.length /\
       Post (bd X cl) EX ρ1 H1 (WV X.K Q) (bnd (fY src f m (i+1) acc) (λys=>new (.lst ys)) h')) σ2 H3):=by
     intro b h3 ρ3 H3 g3 r3 p5;have Vd:D ∉ ρ3:=λz=>by have:=g3.fresh D z w3;rw[NL]at this;cases this
     have PN:H3 D=some (.lst ys):=g3.keep _ _ NL w3;have E3:cP X.K ρ3 (ki js env) σ2 H3:=(E7 h5 (w6.up z1) hout).up g3;cases b with
     |true=>
      rw[aab rfl]at p5 |-;simp only[bg,cQ]at p5;refine⟨ρ3,env',h3,TJ.up g3,r3,lg (G2.trans g3) p5 λv4 h4 ρ4 H4 _ p6 g4 r4 y4 q4=>?_⟩;have Ws:D ∉ ρ4:=λz=>by have:=g4.fresh D z Vd;rw[PN]at this;cases this
      have Ru:H4 D=some (.lst ys):=g4.keep _ _ PN Vd;have gw:Gw ρ4 H4 ρ4 (upd H4 D (.lst (ys++[y4]))):=Gw.other Ru rfl;have la:=w5.length;refine⟨ys,Ru,by omega,ρ4,h4,acc++[v4],ys++[y4],((G2.trans g3).trans g4).over hD,r4.other Ws Ru rfl,Ws,aR,ay.append (ay.lF gw _ _ (ay.up ((z1.trans g3).trans g4) _ _ w5)) (ay.lF gw _ _ (ay.cons q4 ay.nil)),(E3.up g4).lF gw,by rw[hl2,w7],by simp;omega,by omega,p6⟩
     |false=>rw[aad Z3]at p5 |-;exact⟨ρ3,h3,acc,ys,G2.trans g3,r3,Vd,PN,ay.up (z1.trans g3) _ _ w5,E3,by rw[hl2,w7],by omega,by omega,p5⟩
    show (if cM t=true then xJ else tT Φ (bd X cl) EX t) σ2 H2 _
    by_cases hn:cM t=true
    ·rw[aab hn];rw[aab hn,cQ]at vU;exact body true h' ρ' H2 Gr.refl z2 vU
    ·rw[aad hn];rw[aad hn]at vU;exact⟨ρ',env',h',TJ,z2,lg G2 vU λb h3 ρ3 H3 _ p5 g3 r3=>body b h3 ρ3 H3 g3 r3 p5⟩
theorem JM(hs:ko Φ it)(hc:b9 Φ t)(he:b9 Φ elt):b9 Φ (.comp N' js pat ik it t elt):=by
 intro Γ k X cl EX e c h;obtain⟨e',tg,iter,ifs,scope,pos,wi,g,tt,te,rfl,h1,h2,h3,h4,h5,h6,h7⟩:=se hs hc he c h;have q:=(AM (pos:=pos) h1 c.calm h2 h3 h4 h5 h6).imp h7;exact⟨q,b6 q λ_=>rfl⟩
theorem JN{k v:IE}(hk:b9 Φ k)(hv:b9 Φ v):b9 Φ (.dct1 k v):=by
 intro Γ n X cl EX e c h;apply Bf h;intro q1 q2 pos h;apply iH h;intro q3 h;apply Bg h;intro a h;apply iH h;intro b h;simp only[and_eq_true]at h;have q:PE X (.Dict [some a] [b] pos) (tV Φ (bd X cl) EX (.dct1 k v)):=by
  refine(IT (DW (hk Γ n X cl EX a c h.1).1 (hv Γ n X cl EX b c h.2).1 IQ) rfl rfl (by simp) (by simp)).imp λσ H Q aO=>?_;obtain⟨ρ,env,h,hE,r,p⟩:=aO;intro D hD;have g0:Gr ρ H ρ (upd H D (.dK [])):=Gr.side hD;simp only[az]at p;refine⟨ρ,env,h,hE.up g0,r.side hD,lg g0 p λx h1 ρ1 H1 _ p1 g1 r1 y1 q1=>?_⟩;obtain⟨kk,e1,p1⟩:=bS p1;refine⟨ρ1,env,h1,(hE.up g0).up g1,r1,lg (g0.trans g1) p1 λy h2 ρ2 H2 _ p2 g2 r2 y2 q2=>?_⟩;have Wt:D ∉ ρ:=r.out hD;have NL:D ∉ ρ2:=λz=>by have:=(g1.trans g2).fresh D z Wt;rw[aR]at this;cases this
  have e2:H2 D=some (.dK []):=(g1.trans g2).keep D _ aR Wt;have ek:y1=kV kk:=by
   cases x<;>first|(cases e1;done)|skip
   ·cases e1;rw[VR]at q1;exact q1
   ·cases e1;rw[VR]at q1;exact q1
  refine⟨e2,[(kk,y2)],by rw[ek];rfl,by simp,?_⟩;have gw:Gw ρ2 H2 (ρ2++[D]) (upd H2 D (.dK (oF [] [(kk,y2)]))):=⟨aa0 _ _,(Gw.other (ρ:=ρ2) e2 rfl).firm⟩;exact p2 (ρ2++[D]) _ ((((g0.trans g1).trans g2).over hD).adopt hD) ((r2.other NL e2 rfl).adopt NL ⟨[(kk,y2)],aR,y2,[],rfl,VR.lF gw _ _ q2,rfl⟩) _ (AX r2)
 exact⟨q,b6 q λ_=>rfl⟩
theorem E9{ns ms:List Int}{kvs:List (Key×V)}(e:kvs.map (·.1)=ns.map Sum.inl):((kvs.map λkv=>kV kv.1).filter λk=>!HL k (ms.map V.int))=(ns.filter λn=>!(ms.any λm=>m==n)).map V.int:=by
 have hk:(kvs.map λkv=>kV kv.1)=ns.map V.int:=by have:=congrArg (List.map kV) e;rw[aaP,aaP]at this;exact this
 rw[hk,List.filter_map]
 congr 1
 refine filter_congr λn _=>?_;show (!HL (V.int n) (ms.map V.int))=_;unfold HL;rw[any_map];rfl
def Yi(Γ:qF)(N':List Str)(js:List (Option Nat))(p q i j:Nat)(e:Expr):Prop:=∃y1 p1 y2 yp dn dp y3 p3 en ep cp ia scope pos,e=.ListComp (.Name y1 p1) [⟨.Name y2 yp,.Name dn dp,[.Compare (.Name y3 p3) [.NotIn] [.Name en ep] cp],ia⟩] scope pos/\(ia==0&&gm Γ.N Γ.sc scope N' js&&decide (N'.Nodup)&&yd (Γ.vO scope N') (.one p) (.Name y2 yp)&&js[p]?==some none&&js[q]?==some (some j)&&p != q && !behindInMarks .NotIn (.Name en ep) &&
   (N'[p]?==some y1&&qq (Γ.vO scope N').sc y1)&&(N'[p]?==some y3&&qq (Γ.vO scope N').sc y3)&&(N'[q]?==some en&&qq (Γ.vO scope N').sc en)&&(Γ.N[i]?==some dn&&qq Γ.sc dn))=true
theorem CW{p q i j:Nat}(h:Lc Γ N' js p q i j e=true):Yi Γ N' js p q i j e:=by
 apply Be h;intro e1 q1 scope pos h;apply eZ h;intro y1 p1 h;apply iH h;intro g h;apply EI h;intro tg iter ifs ia h;apply eZ h;intro y2 yp h;apply eZ h;intro dn dp h;apply iH h;intro c0 h;apply EC h;intro l ops rs cp h;apply eZ h;intro y3 p3 h;apply iH h;intro op h;apply uN h;intro h;apply iH h;intro r h;apply eZ h;intro en ep h;exact⟨_,_,_,_,_,_,_,_,_,_,_,_,_,_,rfl,h⟩
theorem sf{p q:Nat}(c:Ctx Φ Γ k X cl EX)(h:bA Γ (.dflt N' js p q d w) e=true) :
  ∃e' tg iter ifs scope pos wi g tt te,e=.ListComp e' [⟨tg,iter,ifs,0⟩] scope pos/\gm X.N X.env.scope scope N' js=true/\PI X tg iter wi/\(∀cls C s H fp,PG (bz X scope N' cls C s H fp) tg g)/\(∀cls C s H fp,HN (bz X scope N' cls C s H fp) ifs tt) /\
   (∀cls C s H fp,PE (bz X scope N' cls C s H fp) e' te)/\(∀x,foldedSetIterable iter X.env x=pure x)/\∀σ H Q,tV Φ (bd X cl) EX (.dflt N' js p q d w) σ H Q->Em (xK wi js g tt te) σ H Q:=by
 apply EN h;intro i h;apply EN h;intro j h;obtain⟨y1,p1,y2,yp,dn,dp,y3,p3,en,ep,cp,ia,scope,pos,e0,hh⟩:=CW h;clear h;subst e0;have h:=hh;simp only[and_eq_true,beq_iff_eq,bne_iff_ne,ne_eq,not_eq_true']at h;obtain⟨⟨⟨⟨⟨⟨⟨⟨⟨⟨⟨h0,h1⟩,h2⟩,h3⟩,h4⟩,h5⟩,h6⟩,h7⟩,h8⟩,h9⟩,NN⟩,h11⟩:=h;subst h0;have hnd:N'.Nodup:=aar h2;have nm:∀{x:Str} {i:Nat} {pos:Pos} (_:N'[i]?=some x/\qq (Γ.vO scope N').sc x=true) cls C s H fp,PE (bz X scope N' cls C s H fp) (.Name x pos) (tX i):=λhx cls C s H fp=>by
  obtain⟨v1,v2,v3⟩:=(c.vO scope N' cls C s H fp).vis hx.2;exact zy hx.1 v1 v2 v3
 obtain⟨v1,v2,v3⟩:=c.vis h11.2;have hpl:p<js.length:=(Z8.mp h4).1;refine⟨_,_,_,_,_,_,Eo (tX i),pP p,DH (Pz (UC X.K true) (tX p) (tX q)),tX p,rfl,by rw[c.N,c.sc];exact h1,Jg (zy (by rw[c.N];exact h11.1) v1 v2 v3),λcls C s H fp=>E6 (c.vO scope N' cls C s H fp) hnd h3,
  λcls C s H fp=>AK (AE (X:=bz X scope N' cls C s H fp) vC (nm h9 cls C s H fp) (nm NN cls C s H fp) h7),nm h8,λx=>rfl,λσ H Q ⟨ρ,env,h,hE,r,pp⟩=>?_⟩
 simp only[az]at pp;obtain⟨o,e1,pp⟩:=bS pp;obtain⟨ks,e2,pp⟩:=aD pp;obtain⟨u,e3,pp⟩:=bS pp;obtain⟨zs,e4,pp⟩:=aD pp;split at e1<;>cases e1;rename_i e1;split at e3<;>cases e3;rename_i e3;obtain⟨x,s1,q1⟩:=hE i o e1;obtain⟨y,s2,q2⟩:=hE j u e3;cases o<;>first|(cases e2;done)|(rw[VR]at q1;exact q1.elim)|skip
 rename_i n;rw[VR]at q1;obtain⟨ad,rfl,q1⟩:=q1;have hdc:∃kvs,h[n]?=some (.dct kvs)/\ks=kvs.map (·.1):=by
  change (match h[n]? with|some (.dct kvs)=>some (kvs.map (·.1))|_=>none)=some _ at e2;split at e2
  ·rename_i kvs e5;cases e2;exact⟨kvs,e5,rfl⟩
  ·cases e2
 obtain⟨kvs,e5,rfl⟩:=hdc;obtain⟨Wu,k1,k2⟩:=r.ob n _ ad e5 q1;unfold AU at e4;obtain⟨ns,e6,e4⟩:=Z4.mp e4;obtain⟨xs,e7,e4⟩:=Z4.mp e4;obtain⟨ms,e8,e4⟩:=Z4.mp e4;obtain⟨b,ys,rfl,sq,vr⟩:=eY r q2 e7
 by_cases hl:ns.length<=100000
 ·rw[aab hl]at e4
  cases e4;rw[gC e8]at vr;have ey:=ay.ints.mp vr;subst ey;have ek:=(vR k2).trans (vS e6);have el:Wu.length=ns.length:=by have:=congrArg length ek;simpa using this
  refine ME h6 hpl ⟨ad,Wu,b,_,s1,k1,by rw[el,sizeLine_eq];omega,?_,sq,?_,λD hD=>?_⟩
  ·unfold gI;rw[aaB,h5];show some (match σ[j]? with|some (some v)=>some v|_=>none)=_;rw[s2]
  ·rw[List.all_map];exact all_eq_true.mpr λ_ _=>rfl
  ·rw[E9 ek];exact ck r hD (ay.ints.mpr rfl) pp
 ·rw[aad hl]at e4;cases e4
theorem JO{p q:Nat}:b9 Φ (.dflt N' js p q d w):=by
 intro Γ k X cl EX e c h;obtain⟨e2,Ve,iter,ifs,Af,pos2,wi,g,tt,te,rfl,q1,q2,q3,q4,q5,q6,q7⟩:=sf c h;have q:PE X (.ListComp e2 [⟨Ve,iter,ifs,0⟩] Af pos2) (tV Φ (bd X cl) EX (.dflt N' js p q d w)):=(Je (AM q1 c.calm q2 q3 q4 q5 q6)).imp q7;exact⟨q,b6 q λ_=>rfl⟩
theorem NO(ha:b9 Φ a):b9 Φ (.isc a x bs):=rZ λ_ _=>rfl
theorem oY:(∀ir,b9 Φ ir)/\∀eN,ko Φ eN:=by
 have one:∀ir,b9 Φ ir:=by
  intro ir;exact IE.rec (motive_1:=λir=>b9 Φ ir) (motive_2:=λeN=>ko Φ eN) (λ_=>Nh) (λ_=>Ni) (λ_ _=>Nj) Rp (λ_ _ _ a b=>Nk a b) (λ_ a=>Nl a) (λ_ _ _ a b=>Nm a b) (λ_ _ _ _ _ a b c=>Nn a b c)
   (λ_ _ a b=>Np a b) (λ_ _ a b=>Rq a b) (λ_ a=>Nq a) (λ_ _ _ a b c=>Nr a b c) (λ_ a=>Nt a) (λ_ a=>Nu a) (λ_ _ a b=>Nv a b) (λ_ _ _ a b c=>Nx a b c) (λ_ _ a=>JB a) (λ_ _ a=>NJ a)
   (λ_ _ _ a b=>NK a b) (λ_ _ _ _ _ _ _ a b c=>JM a b c) Jy (λ_ a=>JH a) (λ_ _ _ a b c=>JI a b c) (λ_ _ a b=>JN a b) (λ_ a=>EY a) (λ_ _ _ a b c=>JJ a b c) (λ_ a=>E1 a) (λ_ a=>EZ a) (λ_ _ _ a=>Nz a) (λ_ _ _ _ a b=>NB a b) (λ_ _ a b=>Ny a b) (λ_ _ _ _ _ _ _ _=>JO) (λ_ _ _ a=>NO a) ET (λ_ _ a b=>Bk a b) ir
 refine⟨one,λeN=>?_⟩
 induction eN using ng.rec (motive_1:=λ_=>True) with
 |nil=>exact ET
 |cons e es _ ih=>exact Bk (one e) ih
 |_=>trivial
end
def oZ:Expr->Bool
 |.ListComp ..=>false|.SetComp ..=>false|.DictComp ..=>false
 |_=>true
def Rv:Expr->Bool
 |.Tuple ..=>false
 |_=>true
def Vf:Expr->Bool
 |.SetComp ..=>false|.DictComp ..=>false
 |_=>true
mutual
noncomputable def Rw(Γ:qF):IS->Stmt->Bool
 |.expr e,s=>EJ (λx _=>oZ x&&bA Γ e x) s
 |.asg p e,s=>Jr (λq1 x _=>k1 (λtg=>ym Γ p tg&&bA Γ e x&&(match p with|.one _=>Vf x|.tup _=>oZ x&&Rv x)) q1) s
 |.aug i o e,s=>U8 (λq1 op v _=>iV (λx _=>Γ.N[i]?==some x&&(Γ.sc.names.lookup x==some .local || Γ.sc.names.lookup x==some .cell)&&Nd o op&&(match o with|.pow=>false|_=>true)&&bA Γ e v) q1) s
 |.fD o i v,s=>Jr (λq1 x _=>k1 (λq2=>CQ (λa b _=>qG b&&oZ x&&bA Γ o a&&bA Γ i b&&bA Γ v x) q2) q1) s
 |.iff c a b,s=>Wm (λt x y _=>bA Γ c t&&bh Γ a x&&bh Γ b y) s
 |.for p k it body,s=>Rj (λtg iter x q1 _=>ua q1 (ym Γ p tg&&Bj Γ k it iter&&(match k,p with|.enum,.one _=>false|.zip,.one _=>false|_,_=>true)&&bh Γ body x)) s
 |.whl _ c body,s=>EK (λt x q1 _=>ua q1 (bA Γ c t&&bh Γ body x)) s
 |.ret e,s=>M9 (λq1 _=>EH (λx=>bA Γ e x) q1) s
 |.Ji,s=>M9 (λq1 _=>yc q1 (true)) s
 |.brk,s=>Rk (λ_=>true) s
 |.cnt,s=>Rm (λ_=>true) s
 |.pass,s=>La (λ_=>true) s||EJ (λq1 _=>z8 (λq2 _ _=>Rg (λ_=>true) q2) q1) s
 |.never,_=>true
 |.setF n a x v,s=>Jr (λq1 e _=>k1 (λq2=>Bc (λo y _=>x==y&&oZ e&&n == Γ.tb.nc && Γ.tb.Jt.contains x&&bA Γ a o&&bA Γ v e) q2) q1) s
noncomputable def bh(Γ:qF):dP->List Stmt->Bool
 |.nil,ls=>ls.isEmpty
 | .cons s r,ls=>match ls with
  |l::ls=>Rw Γ s l&&bh Γ r ls
  |[]=>false
end
structure NP (Φ:Fn) (Γ:qF) (k:Nat) (X:Cx) (cl:Nat->Addr) (EX:Nat->List V->Hp->Prop):Prop extends Ctx Φ Γ k X cl EX where
 fn:∀x,X.fn x=true
 nd:X.N.Nodup
 kind:X.env.scope.kind=.function
 xe:PassesOwn (model X.prog X.w) X.A X.env X.xe
def WF(K:Frag)(D:Ends):Fl->Hs->List Addr->Hp->Prop
 |.nx env',_,ρ',H'=>∀σ',cP K ρ' env' σ' H'->env'.length = σ'.length->D.nx σ' H'
 |.rt v,_,ρ',H'=>∀x,VR K ρ' H' v x->D.rt x H'
 |.bk env',_,ρ',H'=>∀σ',cP K ρ' env' σ' H'->env'.length = σ'.length->D.bk σ' H'
 |.ct env',_,ρ',H'=>∀σ',cP K ρ' env' σ' H'->env'.length = σ'.length->D.ct σ' H'
def tS(Φ:Fn)(B:Bd)(EX:Nat->List V->Hp->Prop)(ir:IS):TS:=λD σ H=>∃ρ env h,cP B.K ρ env σ H/\env.length = σ.length/\HR B ρ h H/\Post B EX ρ H (WF B.K D) (dH Φ ir env h)
def Yj(Φ:Fn)(B:Bd)(EX:Nat->List V->Hp->Prop)(ir:dP):TS:=λD σ H=>∃ρ env h,cP B.K ρ env σ H/\env.length = σ.length/\HR B ρ h H/\Post B EX ρ H (WF B.K D) (bR Φ ir env h)
theorem _root_.L2.PS.imp(h:PS X e t)(i:∀D σ H,t' D σ H->t D σ H):PS X e t':=λpins s σ H D I hw=>h pins s σ H D I (i D σ H hw)
theorem _root_.L2.zq.imp(h:zq X e t)(i:∀D σ H,t' D σ H->t D σ H):zq X e t':=λpins s σ H D I hw=>h pins s σ H D I (i D σ H hw)
section
variable {Φ:Fn} {Γ:qF} {k:Nat} {X:Cx} {cl:Nat->Addr} {EX:Nat->List V->Hp->Prop}
def yo(Φ:Fn)(ir:IS):Prop:=∀(Γ:qF) (k:Nat) (X:Cx) (cl:Nat->Addr) (EX:Nat->List V->Hp->Prop) (st:Stmt),NP Φ Γ k X cl EX->Rw Γ ir st=true->PS X st (tS Φ (bd X cl) EX ir)
def vV(Φ:Fn)(eN:dP):Prop:=∀(Γ:qF) (k:Nat) (X:Cx) (cl:Nat->Addr) (EX:Nat->List V->Hp->Prop) (st:List Stmt),NP Φ Γ k X cl EX->bh Γ eN st=true->zq X st (Yj Φ (bd X cl) EX eN)
theorem kq{n:Nat}(h:oZ e=true):swapsWith e t n env=pure false:=by
 cases e<;>first|rfl|(exact absurd h Z3)
theorem Lf(ir:IE)(c:Ctx Φ Γ k X cl EX)(h:bA Γ ir e=true):PE X e (tV Φ (bd X cl) EX ir):=(oY.1 ir Γ k X cl EX e c h).1
theorem Wv(ir:IE)(c:Ctx Φ Γ k X cl EX)(h:bA Γ ir e=true):PT X e (tT Φ (bd X cl) EX ir):=(oY.1 ir Γ k X cl EX e c h).2
theorem Rx(hs:∀env h,dH Φ ir env h=.no):yo Φ ir:=by
 intro Γ k X cl EX st c h;refine xr.imp λD σ H ⟨ρ,env,h,hE,hl,r,p⟩=>?_;rw[hs]at p;exact p.elim
theorem NQ:yo Φ (.expr e):=by
 intro Γ k X cl EX st c h;apply Bh h;intro x _ h;simp only[and_eq_true]at h;refine(Ii (Lf e c.toCtx h.2) (kq h.1)).imp λD σ H aO=>?_;obtain⟨ρ,env,h,hE,hl,r,p⟩:=aO;simp only[dH]at p;exact⟨ρ,env,h,hE,r,av p λv h1 ρ1 x H1 g1 r1 q1 p1=>aj r1 p1 σ (hE.up g1) hl⟩
theorem Ry:yo Φ (.asg p e):=by
 intro Γ k X cl EX st c h;apply Aa h;intro q1 x pos h;apply iH h;intro tg h;simp only[and_eq_true]at h;obtain⟨⟨h1,h2⟩,h3⟩:=h;have hg:=Bp c.toCtx c.fn c.nd h1;have he:=Lf e c.toCtx h2;have fin:∀D σ H,tS Φ (bd X cl) EX (.asg p e) D σ H->Il (tV Φ (bd X cl) EX e) (CV X.K p) D σ H:=λD σ H ⟨ρ,env,h,hE,hl,r,pp⟩=>by
  simp only[dH]at pp;refine⟨ρ,env,h,hE,r,av pp λv h1 ρ1 x H1 g1 r1 q1 p1=>?_⟩;obtain⟨env',e1,p2⟩:=bS p1;exact Bq e1 q1 (hE.up g1) hl λσ' Vg hl' _=>aj r1 p2 σ' Vg hl'
 have Yk:(assignEach [tg] X.env).map (·.2)=[assign tg X.env]:=by
  cases p with
  |one i=>obtain⟨t,tp,rfl⟩:=r9 h1;rfl
  |tup is=>obtain⟨es,kk,tp,rfl⟩:=nu h1;rfl
 cases p with
 |tup is=>
  simp only[and_eq_true]at h3;refine(DA he hg ?_ ?_ Yk).imp fin
  ·show swapsWith x (some tg) _ _=_;exact kq h3.1
  ·obtain⟨es,kk,tp,rfl⟩:=nu h1;cases x<;>first|rfl|(exact absurd h3.2 Z3)
 |one i=>
  obtain⟨t,tp,rfl⟩:=r9 h1
  ·
   simp only[ym,and_eq_true,beq_iff_eq]at h1;have loc:L2.Loc X.env.scope t:=by unfold L2.Loc;rw[c.sc];simpa using h1.2
   have pl:oZ x=true->PS X (.Assign [.Name t tp] x pos) (tS Φ (bd X cl) EX (.asg (.one i) e)):=λhx=>(DC c.nd (by rw[c.N];exact h1.1) loc he (kq hx) (.inl (c.fn t))).imp fin;cases x with
   |ListComp e' gens scope p2=>
    cases hb:(X.env.kindOf t==some .local&&tp.line==p2.line && !(scope.names.any λ(n,k)=>n==t&&(k==.local||k==.cell))) with
    |false=>
     refine(DC c.nd (by rw[c.N];exact h1.1) loc he ?_ (.inl (c.fn t))).imp fin;have bk:(X.env.blockKind==.function)=true:=by unfold Env.blockKind;rw[c.kind];rfl
     show (pure (X.env.blockKind==.function&&X.env.kindOf t==some .local&&tp.line==p2.line && !(scope.names.any λ(n,k)=>n==t&&(k==.local||k==.cell))):Sem Bool)=pure false;rw[bk,Bool.true_and,hb]
    |true=>
     have bk:(X.env.blockKind==.function)=true:=by unfold Env.blockKind;rw[c.kind];rfl
     have hsw:swapsWith (.ListComp e' gens scope p2) (some (.Name t tp)) pos.line X.env=pure true:=by show (pure (X.env.blockKind==.function&&X.env.kindOf t==some .local&&tp.line==p2.line && !(scope.names.any λ(n,k)=>n==t&&(k==.local||k==.cell))):Sem Bool)=pure true;rw[bk,Bool.true_and,hb]
     cases e with
     |comp N' js pat ik it Rz elt=>obtain⟨e2,Ve,iter,ifs,Af,pos2,wi,g,tt,te,q0,q1,q2,q3,q4,q5,q6,q7⟩:=se (oY.2 it) (oY.1 Rz) (oY.1 elt) c.toCtx h2;cases q0;refine(AN c.nd (by rw[c.N];exact h1.1) loc q1 c.calm q2 q3 q4 q5 hsw (.inl (c.fn t)) q6).imp λD σ H hh=>?_;exact q7 σ H _ (fin D σ H hh)
     |dflt N' js p q d w=>obtain⟨e2,Ve,iter,ifs,Af,pos2,wi,g,tt,te,q0,q1,q2,q3,q4,q5,q6,q7⟩:=sf c.toCtx h2;cases q0;refine(Jf (AN c.nd (by rw[c.N];exact h1.1) loc q1 c.calm q2 q3 q4 q5 hsw (.inl (c.fn t)) q6)).imp λD σ H hh=>?_;exact q7 σ H _ (fin D σ H hh)
     |_=>first|exact absurd h2 Z3|(rw[bA.eq_def]at h2;cases h2)
   |SetComp _ _ _ _=>exact absurd h3 Z3
   |DictComp _ _ _ _ _=>exact absurd h3 Z3
   |_=>exact pl rfl
theorem RA{i:Nat}:yo Φ (.aug i o e):=Rx λ_ _=>rfl
def RB(B:Bd)(EX:Nat->List V->Hp->Prop):LP:=λo i v H Q=>∃ρ h a b w,HR B ρ h H/\VR B.K ρ H a o/\VR B.K ρ H b i/\VR B.K ρ H w v/\Post B EX ρ H (λ_ _ _ H'=>Q H') (uK a b w h)
theorem NR(hu:X.A.units+64<cLine):LQ X (RB (bd X cl) EX):=by
 intro pins s σ H o i v ov iv u Q I ro ri rv hh;obtain⟨ρ,h,a,b,w,r,ha,hb,hw,p⟩:=hh;cases a with
 |ref j=>
  simp only[uK]at p;obtain⟨ob,e1,p⟩:=aD p;have dict:∀kvs,ob=.dct kvs->Post (bd X cl) EX ρ H (λ_ _ _ H'=>Q H') (bnd (bI (keyOf b)) (λk=>aC (decide (kvs.length<sizeLine)) (put j (.dct (ie kvs k w)))) h)->wpAny (model X.prog X.w) X.A (setItem ov iv u) (λ_ s'=>∃H',L2.Inv X pins σ H' s'/\Q H') X.xe s:=by rintro kvs rfl p;obtain⟨kk,e2,p⟩:=bS p;obtain⟨e3,p⟩:=aP p;have e3:=aar e3;rw[VR]at ha;obtain⟨A,rfl,k1⟩:=ha;obtain⟨ks,k2,k3⟩:=r.ob j _ A e1 k1;cases ro;have ek:=Ez hb e2;subst ek;refine Cr (by omega) I (IM.k (v:=v) k2 (by rw[<-k3.length];exact e3)) ri rv λs' I'=>⟨_,I',?_⟩;have g:Gr ρ H ρ (upd H A (.dK (putK ks kk v))):=Gr.put (aaz k1) k2 rfl;exact p ρ _ g (r.put k1 e1 (u:=.dct (ie kvs kk w)) ⟨_,aR,gn.put kk (VR.up g _ _ hw) (gn.up g _ _ k3)⟩)
  cases ob with
  |lst xs=>
   cases b<;>first|(exact p.elim)|skip
   rename_i n _;obtain⟨jj,e2,p⟩:=bS p;obtain⟨A,ys,rfl,k1,k2,k3⟩:=jA r ha e1;rw[VR]at hb;subst hb;refine set_list pins s σ H _ _ v ov iv u Q I ro ri rv ⟨A,ys,n,jj,rfl,rfl,k2,by rw[<-k3.length];exact e2,?_⟩;have g:Gr ρ H ρ (upd H A (.lst (ys.set jj v))):=Gr.put (aaz k1) k2 rfl;exact p ρ _ g (r.put k1 e1 (u:=.lst (xs.set jj w)) ⟨_,aR,ay.set jj (ay.up g _ _ k3) (VR.up g _ _ hw)⟩)
  |dct kvs=>exact dict kvs rfl (by cases b<;>exact p)
  |ins c fs=>cases b<;>exact p.elim
 |_=>exact p.elim
theorem NS:yo Φ (.fD o i v):=by
 intro Γ k X cl EX st c h;apply Aa h;intro q1 x pos h;apply iH h;intro q2 h;apply rX h;intro a b sp h;simp only[and_eq_true]at h;obtain⟨⟨⟨⟨h1,h2⟩,h3⟩,h4⟩,h5⟩:=h;have Yl:PG X (.Subscript a b sp) (Qp (tV Φ (bd X cl) EX o) (tV Φ (bd X cl) EX i) (RB (bd X cl) EX)):=LR (Lf o c.toCtx h3) (Lf i c.toCtx h4) (NR c.units) (by
  intro v;cases b<;>first|rfl|(exact absurd h1 Z3))
 refine(DA (Lf v c.toCtx h5) Yl (kq (t:=some (.Subscript a b sp)) (n:=pos.line) (env:=X.env) h2) (by cases x<;>rfl) rfl).imp λD σ H aO=>?_;obtain⟨ρ,env,h,hE,hl,r,p⟩:=aO;simp only[dH]at p;refine⟨ρ,env,h,hE,r,av p λw h1 ρ1 x1 H1 g1 r1 q1 p1=>⟨ρ1,env,h1,hE.up g1,r1,av p1 λw2 h2 ρ2 x2 H2 g2 r2 q2 p2=>⟨ρ2,env,h2,(hE.up g1).up g2,r2,av p2 λw3 h3 ρ3 x3 H3 g3 r3 q3 p3=>?_⟩⟩⟩;refine⟨ρ3,h3,w2,w3,w,r3,VR.up g3 _ _ q2,q3,VR.up (g2.trans g3) _ _ q1,bf p3 λ_ h4 ρ4 H4 g4 r4 p4=>?_⟩;exact aj r4 p4 σ (((hE.up g1).up g2).up g3 |>.up g4) hl
theorem RC(ha:vV Φ a)(hb:vV Φ b):yo Φ (.iff t a b):=by
 intro Γ k X cl EX st c h;apply Ri h;intro tt x y pos h;simp only[and_eq_true]at h;refine(Qm (Wv t c.toCtx h.1.1) (ha Γ k X cl EX x c h.1.2) (hb Γ k X cl EX y c h.2)).imp λD σ H aO=>?_;obtain⟨ρ,env,h,hE,hl,r,p⟩:=aO;simp only[dH]at p;refine⟨ρ,env,h,hE,r,oU p λv h1 p1=>?_⟩;obtain⟨s,e1,p2⟩:=aD p1;refine⟨s,e1,λρ1 H1 g1 r1=>?_⟩;have p2:=Post.up g1 p2;cases s with
 |true=>rw[aab rfl]at p2 |-;exact⟨ρ1,env,h1,hE.up g1,hl,r1,p2⟩
 |false=>rw[aad Z3]at p2 |-;exact⟨ρ1,env,h1,hE.up g1,hl,r1,p2⟩
theorem RD(hb:vV Φ body):yo Φ (.for p ik it body):=by
 intro Γ k X cl EX st c h;apply M8 h;intro tg iter x q1 pos h;apply jB h;intro h;simp only[and_eq_true]at h;obtain⟨⟨⟨h1,h2⟩,h3⟩,h4⟩:=h;have hen:ik=.enum\/ik=.zip->∃es kk pos,tg=.Tuple es kk pos:=by
  intro hz;cases p with
  |one i=>rcases hz with rfl|rfl<;>cases h3
  |tup is=>exact nu h1
 obtain⟨hi,hf⟩:=Le (oY.2 it) c.toCtx h2 hen;refine(LV c.xe c.calm hi (Bp c.toCtx c.fn c.nd h1) (hb Γ k X cl EX x c h4) hf).imp λD σ H aO=>?_;obtain⟨ρ,env,h,hE,hl,r,pp⟩:=aO;simp only[dH]at pp;have p':Post (bd X cl) EX ρ H (WF X.K D) (bnd (PM Φ ik it env) (λsrc=>bnd (ask λh=>src.items h) λxs=>forM src (λx env=>bnd (bI (fX p x env)) λenv'=>bR Φ body env') xs.length 0 env) h):=by unfold PM;rw[bg];exact pp
 refine⟨ρ,env,h,hE,r,bf p' λsrc h1 ρ1 H1 g1 r1 p1=>?_⟩;obtain⟨xs,e1,p2⟩:=aD p1;refine⟨⟨xs,e1⟩,λJ wk=>?_⟩;refine⟨λi m σ' H'=>∃ρ' env' h',Gr ρ1 H1 ρ' H'/\cP X.K ρ' env' σ' H'/\env'.length = σ'.length/\HR (bd X cl) ρ' h' H'/\Post (bd X cl) EX ρ' H' (WF X.K D) (forM src (λx env=>bnd (bI (fX p x env)) λenv'=>bR Φ body env') m i env' h'),
  ⟨xs.length,ρ1,env,h1,Gr.refl,hE.up g1,hl,r1,p2⟩,?_⟩
 rintro i m σ' H' ⟨ρ',env',h',w1,w2,w3,w4,w5⟩;cases m with
 |zero=>simp only[forM]at w5;obtain⟨xs',k1,w5⟩:=aD w5;obtain⟨k2,w5⟩:=aP w5;exact .inl ⟨wk.stop w1.w w4 k1 (aar k2),aj w4 w5 σ' w2 w3⟩
 |succ m=>
  simp only[forM]at w5;obtain⟨xs',k1,w5⟩:=aD w5;cases hx:xs'[i]? with
  |none=>rw[hx]at w5;exact .inl ⟨wk.stop w1.w w4 k1 (List.getElem?_eq_none_iff.mp hx),aj w4 w5 σ' w2 w3⟩
  |some v=>
   rw[hx]at w5;dsimp only at w5;refine .inr ⟨wk.go w1.w w4 k1 hx,_,λAL IX w=>⟨m,aaW _,w⟩,λy H2 hy=>?_⟩;obtain⟨z1,z2,z3⟩:=wk.zA w1.w w4 k1 hx hy;rw[bg]at w5;obtain⟨mG,k2,w5⟩:=bS w5;refine Bq k2 z3 (w2.up z1) w3 λσ2 TJ hl2 _=>⟨ρ',mG,h',TJ,hl2,z2,bf (Post.up z1 w5) λf h3 ρ3 H3 g3 r3 p3=>?_⟩;cases f with
   |nx vW=>exact λσ3 Fb hl3=>⟨ρ3,vW,h3,(w1.trans z1).trans g3,Fb,hl3,r3,p3⟩
   |ct vW=>exact λσ3 Fb hl3=>⟨ρ3,vW,h3,(w1.trans z1).trans g3,Fb,hl3,r3,p3⟩
   |bk vW=>exact λσ3 Fb hl3=>aj r3 p3 σ3 Fb hl3
   |rt v=>exact(aj r3 p3:WF X.K D (.rt v) h3 ρ3 H3)
theorem RE{n:Nat}(hb:vV Φ body):yo Φ (.whl n t body):=by
 intro Γ k X cl EX st c h;apply EL h;intro tt x q1 pos h;apply jB h;intro h;simp only[and_eq_true]at h;refine(DE c.xe (Wv t c.toCtx h.1) (hb Γ k X cl EX x c h.2)).imp λD σ H aO=>?_;obtain⟨ρ,env,h,hE,hl,r,p⟩:=aO;simp only[dH]at p;refine⟨λm σ H=>∃ρ env h,cP X.K ρ env σ H/\env.length = σ.length/\HR (bd X cl) ρ h H/\Post (bd X cl) EX ρ H (WF X.K D) (oO (λenv=>bnd (az Φ t env) λx=>ask λh=>bW h x) (bR Φ body) m env h),⟨n,ρ,env,h,hE,hl,r,p⟩,?_⟩;rintro m σ' H' ⟨ρ',env',h',w1,w2,w3,w4⟩;cases m with
 |zero=>exact w4.elim
 |succ m=>
  simp only[oO]at w4;refine⟨ρ',env',h',w1,w3,bf (m:=Ng Φ t env') w4 λb h1 ρ1 H1 g1 r1 p1=>?_⟩;show if b=true then _ else _
  cases b with
  |true=>
   rw[aab rfl]at p1 |-;refine⟨_,λAL IX w=>⟨m,aaW _,w⟩,ρ1,env',h1,w1.up g1,w2,r1,bf p1 λf h3 ρ3 H3 g3 r3 p3=>?_⟩;cases f with
   |nx vW=>exact λσ3 Fb hl3=>⟨ρ3,vW,h3,Fb,hl3,r3,p3⟩
   |ct vW=>exact λσ3 Fb hl3=>⟨ρ3,vW,h3,Fb,hl3,r3,p3⟩
   |bk vW=>exact λσ3 Fb hl3=>aj r3 p3 σ3 Fb hl3
   |rt v=>exact(aj r3 p3:WF X.K D (.rt v) h3 ρ3 H3)
  |false=>rw[aad Z3]at p1 |-;exact aj r1 p1 σ' (w1.up g1) w2
theorem RG:yo Φ (.ret e):=by
 intro Γ k X cl EX st c h;apply EM h;intro q1 _ h;apply Bg h;intro x h;refine(LN (Lf e c.toCtx h)).imp λD σ H aO=>?_;obtain⟨ρ,env,h,hE,hl,r,p⟩:=aO;simp only[dH]at p;exact⟨ρ,env,h,hE,r,av p λv h1 ρ1 x H1 g1 r1 q1 p1=>aj r1 p1 x q1⟩
theorem NT:yo Φ .Ji:=by
 intro Γ k X cl EX st c h;apply EM h;intro q1 _ h;apply qE h;intro h;refine Ij.imp λD σ H aO=>?_;obtain⟨ρ,env,h,hE,hl,r,p⟩:=aO;simp only[dH]at p;exact aj r p _ VR.non
theorem RH:yo Φ .brk:=by
 intro Γ k X cl EX st c h;apply Na h;intro _ h;refine Dy.imp λD σ H aO=>?_;obtain⟨ρ,env,h,hE,hl,r,p⟩:=aO;simp only[dH]at p;exact aj r p σ hE hl
theorem RI:yo Φ .cnt:=by
 intro Γ k X cl EX st c h;apply Nb h;intro _ h;refine xq.imp λD σ H aO=>?_;obtain⟨ρ,env,h,hE,hl,r,p⟩:=aO;simp only[dH]at p;exact aj r p σ hE hl
theorem NU:yo Φ .pass:=by
 intro Γ k X cl EX st c h
 rcases Rh h with h|h
 ·apply Js h;intro _ h;refine Ih.imp λD σ H aO=>?_;obtain⟨ρ,env,h,hE,hl,r,p⟩:=aO;simp only[dH]at p;exact aj r p σ hE hl
 ·apply Bh h;intro q1 _ h;apply yb h;intro q2 _ _ h;apply M7 h;intro _ h;refine LM.imp λD σ H aO=>?_;obtain⟨ρ,env,h,hE,hl,r,p⟩:=aO;simp only[dH]at p;exact aj r p σ hE hl
theorem JP:yo Φ .never:=by
 intro Γ k X cl EX st c h;refine xr.imp λD σ H aO=>?_;obtain⟨ρ,env,h,hE,hl,r,p⟩:=aO;simp only[dH]at p;exact p.elim
theorem CY{α β:Type}(c:Bool)(m:M α)(f:α -> M β):bnd (aC c m) f=aC c (bnd m f):=by
 funext h;unfold bnd aC;cases c<;>rfl
theorem NV{n:Nat}:yo Φ (.setF n a x v):=by
 intro Γ k X cl EX st c h;apply Aa h;intro q1 e pos h;apply iH h;intro q2 h;apply vN h;intro o y ap h;simp only[and_eq_true,beq_iff_eq,contains_iff_mem]at h;obtain⟨⟨⟨⟨⟨h1,h2⟩,h3⟩,h4⟩,h5⟩,h6⟩:=h;subst h1;refine(L7 (Lf a c.toCtx h5) (Lf v c.toCtx h6) (kq (t:=some (.Attribute o x ap)) (n:=pos.line) (env:=X.env) h2)).imp λD σ H aO=>?_;obtain⟨ρ,env,h,hE,hl,r,p⟩:=aO;simp only[dH]at p;refine⟨ρ,env,h,hE,r,av p λw h1 ρ1 x1 H1 g1 r1 q1 p1=>⟨ρ1,env,h1,hE.up g1,r1,av p1 λw2 h2 ρ2 x2 H2 g2 r2 q2 p2=>?_⟩⟩;cases w2<;>first|exact p2.elim|skip
 rename_i i;rw[VR]at q2;obtain⟨ad,rfl,q2⟩:=q2;unfold AV at p2;dsimp only at p2;rw[bg]at p2;obtain⟨pr,e1,p3⟩:=aD p2;have hx:h2[i]?=some (.ins pr.1 pr.2)/\pr.1<n:=by
  split at e1
  ·rename_i c0 fs e2
   split at e1
   ·rename_i hc;cases e1;exact⟨e2,hc⟩
   ·cases e1
  ·cases e1
 obtain⟨dx,gs,k1,k2⟩:=r2.ob i _ ad hx.1 q2;obtain⟨cc,nn⟩:=c.cls pr.1 (by omega);have p4:Post (bd X cl) EX ρ2 H2 (WF X.K D) (aC (decide (pr.2.length<1000)) (bnd (put i (.ins pr.1 (rR x w pr.2))) λ_=>ret (.nx env)) h2):=by rw[<-CY];exact p3
 obtain⟨el,p5⟩:=aP p4;refine⟨ad,cl pr.1,dx,gs,rfl,k1,cc,nn x h4,by rw[<-k2.length];exact aar el,?_⟩;have g:Gr ρ2 H2 ρ2 (upd H2 ad (.ins (cl pr.1) dx (jy x x1 gs))):=Gr.put (aaz q2) k1 rfl;exact p5 ρ2 _ g (r2.put q2 hx.1 (u:=.ins pr.1 (rR x w pr.2)) ⟨dx,_,aR,nq.put (VR.up (g2.trans g) _ _ q1) (nq.up g _ _ k2)⟩) σ (((hE.up g1).up g2).up g) hl
theorem NW:vV Φ .nil:=by
 intro Γ k X cl EX st c h;rw[bh]at h;cases st with
 |cons _ _=>cases h
 |nil=>refine Ig.imp λD σ H aO=>?_;obtain⟨ρ,env,h,hE,hl,r,p⟩:=aO;simp only[bR]at p;exact aj r p σ hE hl
theorem JQ(h1:yo Φ s)(h2:vV Φ ss):vV Φ (.cons s ss):=by
 intro Γ k X cl EX st c h;rw[bh.eq_def]at h;dsimp only at h;cases st with
 |nil=>cases h
 |cons l ls=>
  simp only[and_eq_true]at h;refine(Dw (h1 Γ k X cl EX l c h.1) (h2 Γ k X cl EX ls c h.2)).imp λD σ H aO=>?_;obtain⟨ρ,env,h,hE,hl,r,p⟩:=aO;simp only[bR]at p;refine⟨ρ,env,h,hE,hl,r,bf p λf h1 ρ1 H1 g1 r1 p1=>?_⟩;cases f with
  |nx env'=>exact λσ' Vg hl'=>⟨ρ1,env',h1,Vg,hl',r1,p1⟩
  |rt v=>exact(aj r1 p1:WF X.K D (.rt v) h1 ρ1 H1)
  |bk env'=>exact(aj r1 p1:WF X.K D (.bk env') h1 ρ1 H1)
  |ct env'=>exact(aj r1 p1:WF X.K D (.ct env') h1 ρ1 H1)
theorem Fc:∀eN,vV Φ eN:=by
 intro eN;exact dP.rec (motive_1:=λs=>yo Φ s) (motive_2:=λss=>vV Φ ss) (λ_=>NQ) (λ_ _=>Ry) (λ_ _ _=>RA) (λ_ _ _=>NS) (λ_ _ _ a b=>RC a b) (λ_ _ _ _ a=>RD a) (λ_ _ _ a=>RE a) (λ_=>RG) NT RH RI NU JP (λ_ _ _ _=>NV)
  NW (λ_ _ a b=>JQ a b) eN
end
abbrev Row:=Str×Nat×(List Val->M Val)
def look(fs:List Row)(j:Nat):List Val->M Val:=match fs[j]? with
 |some r=>r.2.2
 |none=>λ_=>bI none
def cA(P:Program)(w:World)(B:Bd)(mg:Str->Option Value)(base:Heap)(k:Nat)(fs:List Row):Prop:=∀(j:Nat) (r:Row),fs[j]?=some r->PF P w B mg base k j r.1 r.2.1 r.2.2
def aW(N P:List Str)(sc:Scope):Bool :=
 sc.kind==.function && !sc.isCoroutine && !sc.isGenerator&&decide N.Nodup&&N.take P.length==P&&(P.all λx=>sc.names.lookup x==some .local||sc.names.lookup x==some .cell)&&(sc.names.all λy=>y.2 != .free)
theorem Fd(h:aW N P sc=true):qA N P sc:=by
 unfold aW at h;simp only[and_eq_true,beq_iff_eq,not_eq_true',decide_eq_true_eq,all_eq_true,or_eq_true,bne_iff_ne]at h;obtain⟨⟨⟨⟨⟨⟨h1,h2⟩,h3⟩,h4⟩,h5⟩,h6⟩,h7⟩:=h;exact⟨h1,h2,h3,h4,h5,h6,h7⟩
structure Base (K:Frag) (cl:Nat->Addr) (mg:Str->Option Value) (cons:List (Str×Val)) (tb:Tb):Prop where
 blt:∀x∈bltNames,mg x=none
 cons:∀p∈cons,∃v u,mg p.1=some u/\RelV v u/\∀K ρ H,VR K ρ H p.2 v
 cls:∀c,c<tb.nc->Dl K (cl c)/\∀x∈tb.Jt,kc K (cl c) x
 Ju:∀p∈tb.Ju,Meth K (cl p.1) p.2.1 (cl (1000+p.2.2))
 HU:∀p∈tb.HU,∃C,mg p.1=some (.ref C)/\MF K C p.2.1 (cl (1000+p.2.2))
 isc:∀p∈tb.isc,∃C,mg p.1=some (.ref C)/\∀c b,p.2[c]?=some b->Wk K (cl c)/\kitOne K (.ref (cl c)) (.ref C)=some b
section
variable {P:Program} {w:World} {K:Frag} {cl:Nat->Addr} {mg:Str->Option Value} {base:Heap} {k:Nat} {fs:List Row} {cons:List (Str×Val)} {tb:Tb}
theorem Br{x qual:Str}{st:Stmt}{f:Addr}{fd:FuncData}{N ps:List Str}{body:dP}(T:Base K cl mg cons tb)(A:cA P w ⟨K,cl⟩ mg base k fs)(F:HM K x qual st f fd)(hS:aW N ps (ai st)=true)
  (hc:bh ⟨N,ai st,fs.map (λr=>(r.1,r.2.1)),cons,tb⟩ body (aB st)=true):fF P w K mg base zu (k+2) f fd ps (vP ⟨K,cl⟩ ps.length (fJ (look fs) N.length body)):=by
 have S:=Fd hS;refine F.ok S (λvs H Q E h=>?_) (λcdv A' outer s H vs Q E hr h=>?_)
 ·obtain⟨ρ,h,ws,h1,_,h2,_⟩:=h;rw[<-h2.length,h1]
 ·obtain⟨ρ,h,ws,hl,r,hv,p⟩:=h
  have lv:=hv.length
  let X:Cx:=(zN zu P w K mg base N qual (ai st) f cdv A' outer s H E).Qi
  have c:NP (look fs) ⟨N,ai st,fs.map (λr=>(r.1,r.2.1)),cons,tb⟩ k X cl (λ_ _ _=>False):=by
   refine { N:=rfl,sc:=rfl,calm:=rfl,room:=hr,lZ:=λ_ _ _ z=>z,fns:=λj x n e=>?_,cls:=T.cls,Ju:=T.Ju,HU:=T.HU,isc:=T.isc,cons:=T.cons,blt:=T.blt,fn:=λ_=>rfl,nd:=S.nd,kind:=S.kind,xe:=PassesOwn.never };have e':(fs.map (λr=>(r.1,r.2.1)))[j]?=some (x,n):=e;rw[aaB]at e';cases er:fs[j]? with
   |none=>rw[er]at e';cases e'
   |some r=>rw[er]at e';cases e';have:=A j r er;unfold look;rw[er];exact this
  refine⟨_,Fc body _ k X cl _ (aB st) c hc,ρ,ws.map some++replicate (N.length-ws.length) none,h,λi v e=>?_,?_,r,bf p λfl h1 ρ1 H1 g1 r1 p1=>?_⟩
  ·by_cases hi:i<ws.length
   ·rw[aam (by simpa using hi)]at e
    rw[aaB]at e;cases ei:ws[i]? with
    |none=>rw[ei]at e;cases e
    |some w'=>rw[ei]at e;cases e;obtain⟨y,q1,q2⟩:=hv.get ei;refine⟨y,?_,q2⟩;show (vs.map some++_)[i]?=_;rw[aam (by rw[Z9,<-lv];exact hi),aaB,q1];rfl
   ·rw[aaw (by simp;omega)]at e;have:=aaz e;rw[List.mem_replicate]at this;exact absurd this.2 (by simp)
  ·show _=(vs.map some++_).length;simp[lv]
  ·cases fl with
   |nx env'=>exact λσ' _ _=>aj r1 p1 _ VR.non
   |rt v=>exact(aj r1 p1:WV K Q v h1 ρ1 H1)
   |bk env'=>exact p1.elim
   |ct env'=>exact p1.elim
theorem _root_.Hv.PF.mono{j:Nat}{n:Nat}(g:PF P w B mg base k j x n φ):PF P w B mg base (k+2) j x n φ:=by
 have le:k<=k+2:=Nat.le_add_right _ _
 rcases g with ⟨h,⟨f,fd,ps,q1,q2,q3,q4,q5⟩|⟨c,f,fd,ps,φ0,q0,q1,q2,q3,q4,q5⟩⟩|⟨h,fd,ps,q1,q4,q5⟩
 ·exact .inl ⟨h,.inl ⟨f,fd,ps,q1,q2,q3,q4,q5.mono le⟩⟩
 ·exact .inl ⟨h,.inr ⟨c,f,fd,ps,φ0,q0,q1,q2,q3,q4,q5.mono le⟩⟩
 ·exact .inr ⟨h,fd,ps,q1,q4,q5.mono le⟩
theorem all_nil:cA P w ⟨K,cl⟩ mg base k []:=λj r e=>by simp at e
theorem vX{r0:Row}(A:cA P w ⟨K,cl⟩ mg base k fs)(g:PF P w ⟨K,cl⟩ mg base (k+2) fs.length r0.1 r0.2.1 r0.2.2):cA P w ⟨K,cl⟩ mg base (k+2) (fs++[r0]):=λj r e=>by
 by_cases hj:j<fs.length
 ·rw[aam hj]at e;exact(A j r e).mono
 ·rw[aaw (by omega)]at e
  have hj0:j-fs.length=0:=by have:=(Z8.mp e).1;simp at this;omega
  rw[hj0]at e;simp at e;subst e;rw[show j=fs.length by omega];exact g
theorem Fe{x qual:Str}{st:Stmt}{f:Addr}{fd:FuncData}{N ps:List Str}{body:dP}(T:Base K cl mg cons tb)(A:cA P w ⟨K,cl⟩ mg base k fs)(F:HM K x qual st f fd)(hm:mg x=some (.ref f))(hb:Binds K fd ps [])(sj:ps.length<1000)(hS:aW N ps (ai st)=true)
  (hc:bh ⟨N,ai st,fs.map (λr=>(r.1,r.2.1)),cons,tb⟩ body (aB st)=true):cA P w ⟨K,cl⟩ mg base (k+2) (fs++[(x,ps.length,fJ (look fs) N.length body)]) :=
 vX (r0:=(x,ps.length,fJ (look fs) N.length body)) A (.inl ⟨sj,.inl ⟨f,fd,ps,rfl,hm,F.kp,hb,Br T A F hS hc⟩⟩)
theorem Ff{x qual y:Str}{st:Stmt}{f:Addr}{fd:FuncData}{N ps:List Str}{body:dP}(T:Base K cl mg cons tb)(A:cA P w ⟨K,cl⟩ mg base k fs)(F:HM K x qual st f fd)(hf:cl (1000+fs.length)=f)(hb:Binds K fd ps [])(hS:aW N ps (ai st)=true)
  (hc:bh ⟨N,ai st,fs.map (λr=>(r.1,r.2.1)),cons,tb⟩ body (aB st)=true):cA P w ⟨K,cl⟩ mg base (k+2) (fs++[(y,1000+ps.length,fJ (look fs) N.length body)]):=by
 refine vX (r0:=(y,1000+ps.length,fJ (look fs) N.length body)) A (.inr ⟨Nat.le_add_right _ _,fd,ps,?_,hb,?_⟩)
 ·show ps.length=1000+ps.length-1000;omega
 ·show fF P w K mg base zu (k+2) (cl (1000+fs.length)) fd ps (vP ⟨K,cl⟩ (1000+ps.length-1000) _);rw[hf,show 1000+ps.length-1000=ps.length by omega];exact Br T A F hS hc
theorem all_class{x i qual:Str}{st:Stmt}{f:Addr}{fd:FuncData}{N ps:List Str}{n c:Nat}{body:dP}(T:Base K cl mg cons tb)(A:cA P w ⟨K,cl⟩ mg base k fs)(F:HM K i qual st f fd)(hm:mg x=some (.ref (cl c)))(M:Mk K (cl c) f)(hb:Binds K fd ps [])(hn:ps.length=n+1)(sj:n<1000)(hS:aW N ps (ai st)=true)
  (hc:bh ⟨N,ai st,fs.map (λr=>(r.1,r.2.1)),cons,tb⟩ body (aB st)=true):cA P w ⟨K,cl⟩ mg base (k+2) (fs++[(x,n,Dm c (fJ (look fs) N.length body))]):=by
 refine vX (r0:=(x,n,Dm c (fJ (look fs) N.length body))) A (.inl ⟨sj,.inr ⟨c,f,fd,ps,_,rfl,hn,hm,M,hb,?_⟩⟩);rw[<-hn];exact Br T A F hS hc
end
def mH(K:Frag)(x qual:Str)(st:Stmt)(f:Addr):Prop:=∃fd,HM K x qual st f fd
theorem mH.kp{K:Frag}{x qual:Str}{st:Stmt}{f:Addr}(F:mH K x qual st f):keepIn K (.ref f)=true:=F.elim λ_ F=>F.kp
section
variable {α:Type} {p:List α -> Prop}
theorem TL:∀{us:List α},us.length=1->(∀a,p [a])->p us
 |[a],_,h=>h a
theorem ln2:∀{us:List α},us.length=2->(∀a b,p [a,b])->p us
 |[a,b],_,h=>h a b
theorem Vh:∀{us:List α},us.length=3->(∀a b c,p [a,b,c])->p us
 |[a,b,c],_,h=>h a b c
end
def Vi(x qual:Str)(st:Stmt)(ps:List Str):Prop:=∀(kV doc pm:Value) (an:Option Addr) (cdv ct:Value) (us:List Value),us.length=ps.length->bindArgs (fnOf x qual (mW st) (aB st) (ai st) .none kV doc pm an cdv ct) ⟨us,[]⟩=pure (ps.zip us)
section
variable {P:Program} {w:World} {K:Frag} {cl:Nat->Addr} {mg:Str->Option Value} {base:Heap} {k:Nat} {fs:List Row} {cons:List (Str×Val)} {tb:Tb} {x i y qual:Str} {st:Stmt} {f:Addr} {N ps:List Str} {body:dP} (T:Base K cl mg cons tb) (A:cA P w ⟨K,cl⟩ mg base k fs)
include T A
theorem gM(F:mH K x qual st f)(hm:mg x=some (.ref f))(hS:aW N ps (ai st)=true)
  (hc:bh ⟨N,ai st,fs.map (λr=>(r.1,r.2.1)),cons,tb⟩ body (aB st)=true) (sj:ps.length<1000) (hb:Vi x qual st ps):cA P w ⟨K,cl⟩ mg base (k+2) (fs++[(x,ps.length,fJ (look fs) N.length body)]):=F.elim λ_ F=>Fe T A F hm (F.binds hb) sj hS hc
theorem su(F:mH K x qual st f)(hf:cl (1000+fs.length)=f)(hS:aW N ps (ai st)=true)
  (hc:bh ⟨N,ai st,fs.map (λr=>(r.1,r.2.1)),cons,tb⟩ body (aB st)=true) (hb:Vi x qual st ps):cA P w ⟨K,cl⟩ mg base (k+2) (fs++[(y,1000+ps.length,fJ (look fs) N.length body)]):=F.elim λ_ F=>Ff T A F hf (F.binds hb) hS hc
theorem Ag{n c:Nat}(F:mH K i qual st f)(hm:mg x=some (.ref (cl c)))(M:Mk K (cl c) f)(hS:aW N ps (ai st)=true)
  (hc:bh ⟨N,ai st,fs.map (λr=>(r.1,r.2.1)),cons,tb⟩ body (aB st)=true) (hn:ps.length=n+1) (sj:n<1000) (hb:Vi i qual st ps):cA P w ⟨K,cl⟩ mg base (k+2) (fs++[(x,n,Dm c (fJ (look fs) N.length body))]):=F.elim λ_ F=>all_class T A F hm M (F.binds hb) hn sj hS hc
end
theorem NX{K:Frag}{cl:Nat->Addr}{φ:List Val->M Val}{H:Hp}{a:Addr}{ns:List Int}(hO:DY H)(hS:gF K H a (ns.map V.int))(h:∃h',φ [.rl (ns.map .int)] []=.ok (.bl true) h') :
  vP ⟨K,cl⟩ 1 φ [.ref a] H (λv _=>v=.bl true) λ_ _ _=>False:=by
 obtain⟨h',e⟩:=h;have sr:K5 K H a (ns.map V.int):=by
  rcases hS with (z|z)|z
  ·rcases hO a with y|⟨o,xs,y⟩
   ·rw[y]at z;cases z
   ·rw[y]at z;cases z
  ·exact .inl z
  ·exact .inr (.inr z)
 refine⟨[],[],[.rl (ns.map .int)],rfl,⟨rfl,nodup_nil,λi o a e=>by simp at e⟩,ay.cons (by rw[VR];exact⟨a,_,rfl,sr,ay.ints.mpr rfl⟩) ay.nil,?_⟩;rw[e];intro ρ' H' g r x q;rw[VR]at q;exact q
def TM(K:Frag):Sp:=λvs H Q _=>∃(a:Addr) (ns:List Int),vs=[.ref a]/\DY H/\gF K H a (ns.map V.int)/\ns.length<=63/\∀H',Q (.bl true) H'
theorem NY{K:Frag}{cl:Nat->Addr}{φ:List Val->M Val}(hφ:∀ns:List Int,ns.length<=63->∃h',φ [.rl (ns.map .int)] []=.ok (.bl true) h')(vs:List V)(H:Hp)(Q:VK)(E:XK)(h:TM K vs H Q E):vP ⟨K,cl⟩ 1 φ vs H Q E:=by
 obtain⟨a,ns,rfl,hO,hS,hl,hq⟩:=h;obtain⟨ρ,h,vs,q1,q2,q3,q4⟩:=NX (cl:=cl) hO hS (hφ ns hl);refine⟨ρ,h,vs,q1,q2,q3,?_⟩;revert q4;cases φ vs h with
 |ok v h'=>exact λq4 ρ' H' g r x hx=>by rw[show x=_ from q4 ρ' H' g r x hx];exact hq H'
 |exc c ws h'=>exact λq4=>q4
 |no=>exact λq4=>q4
theorem walk{l:PySem.W.OpenLaw}{q:Program}{loose:List Str}{XP:(Str->Option Value)->Heap->Prop}{YP:World->Heap->Prop}{d:DefRec}{K:Params->Frag}{k:Nat}{x:Str}(hn:l.most=some 63)(hdf:d.params.defaults=[])(hr:dD k callerA)
  (hY:∀(w:World) (h:Heap),YP w h->(K w.params).In h)
  (F:∀(w:World) (mg:Str->Option Value) (fa:Addr) (h:Heap),(K w.params).In h->h.Ns mainGlobals mg->mg d.name=some (.ref fa) ->
   ∃fd:FuncData,(∀(s:Shared) (u:Value),BindsTo s fd ⟨[u],[]⟩ [(x,u)])/\∀base:Heap,(K w.params).In base->base.Ns mainGlobals mg->fF l.prog w (K w.params) mg base zu k fa fd [x] (TM (K w.params))) :
  PySem.W.WalkO q loose XP YP l.row.toRowW d [] (λf vs=>PySem.call f vs) :=
 L2.IU (n:=63) (k:=k) (x:=x) (CX:=λ_=>zu) (sp:=λw=>TM (K w.params)) hn (by decide) hdf hr hY F (λ_ _ a ns hl hO hS=>⟨a,ns,rfl,hO,hS,hl,λ_=>rfl⟩) λ_ _ _ _ _ z=>z
end Hv
end
section
namespace Hv
open PySem L2
inductive Pr (α:Type)
 |ok (a:α)|exc (c:Nat) (ds:List Val)|no
def pb{α β:Type}(m:Pr α)(f:α -> Pr β):Pr β:=match m with
 |.ok a=>f a
 |.exc c ds=>.exc c ds
 |.no=>.no
def pl{α:Type}(o:Option α):Pr α:=match o with
 |some a=>.ok a
 |none=>.no
def pg{α:Type}(c:Bool)(m:Pr α):Pr α:=if c=true then m else .no
inductive Mk
 |sh|nw|ow
def kr:Mk->Bool
 |.ow=>false
 |_=>true
def PR:Mk->Bool
 |.nw=>true
 |_=>false
abbrev bB:=List (Option (Mk×Val))
abbrev FV:=Bool×Val
mutual
noncomputable def iS:Val->Bool
 |.rl _=>false
 |.dc _ _=>false
 |.ob _ _ _=>false
 |.ref _=>false
 |.tup vs=>bH vs
 |.non=>true
 |.bl _=>true
 |.int _=>true
 |.str _=>true
noncomputable def bH:List Val->Bool
 |[]=>true
 |v::vs=>iS v&&bH vs
end
def gh(f:Bool)(d:Val):Mk:=if (f && !iS d)=true then .nw else .sh
def putD(ks:List Key)(ds:List Val)(k:Key)(d:Val):Val:=.dc ((ie (ks.zip ds) k d).map (·.1)) ((ie (ks.zip ds) k d).map (·.2))
def j4:K3->Val->Val->Pr FV
 |.add,.int a,.int b=>.ok (true,.int (a+b))
 |.add,.str a,.str b=>pg (decide (a.length+b.length<=sizeLine)) (.ok (true,.str (a++b)))
 |.add,.tup a,.tup b=>pg (!a.isEmpty&&decide (a.length+b.length<=sizeLine)) (.ok (bH (a++b),.tup (a++b)))
 |.add,.rl a,.rl b=>pg (decide (a.length+b.length<=sizeLine)) (.ok (bH (a++b),.rl (a++b)))
 |.sub,.int a,.int b=>.ok (true,.int (a-b))
 |.mul,.int a,.int b=>pg (lR a b) (.ok (true,.int (a*b)))
 |.fdiv,.int a,.int b=>pg (mC b) (.ok (true,.int (a/b)))
 |.mod,.int a,.int b=>pg (decide (0<b)) (.ok (true,.int (a%b)))
 |.pow,.int a,.int b=>pg (decide (0<=b/\b<=1000000/\a.natAbs<2 ^ 64)) (.ok (true,.int (a ^ b.toNat)))
 |_,_,_=>.no
def CZ(v:Val)(lo hi:Option Int):Pr FV:=match v with
 |.tup vs=>pg (!(decide (HT.eE vs.length 0 lo=0)&&decide (HT.eE vs.length vs.length hi=vs.length))) (.ok (bH (cz vs lo hi),.tup (cz vs lo hi)))
 |.rl vs=>.ok (bH (cz vs lo hi),.rl (cz vs lo hi))
 |_=>.no
def nC:Bl->List Val->Pr FV
 |.len,[v]=>pb (pl (nk [] v)) λn=>.ok (true,.int n)
 |.min,[.int a,.int b]=>.ok (true,.int (if b<a then b else a))
 |.max,[.int a,.int b]=>.ok (true,.int (if b>a then b else a))
 |.sorted,[.rl xs]=>pb (pl (dQ xs)) λys=>.ok (true,.rl ys)
 |.list,[v]=>pb (pl (lP [] v)) λxs=>.ok (bH xs,.rl xs)
 |.int,[.bl b]=>.ok (true,.int (if b=true then 1 else 0))
 |.int,[.int i]=>.ok (true,.int i)
 |.isin T,[v]=>pb (pl (CK [] v)) λt=>pb (pl (Eu T t)) λb=>.ok (true,.bl b)
 |_,_=>.no
def ku:Ik->List Val->Option (List Val)
 |.seq,[.tup vs]=>some vs
 |.seq,[.rl vs]=>some vs
 |.range,[.int n]=>if inR n then some (cj 0 n.toNat) else none
 |.range,[.int a,.int b]=>if inR a&&inR b then some (cj a (b-a).toNat) else none
 |.enum,[.rl vs]=>some (cL 0 vs)
 |_,_=>none
def Fg(k:Ik)(ds:List Val):Option (List Val):=match k with
 |.zip=>none
 |k=>ku k ds
def cD:List Nat->List Val->bB->Option bB
 |[],[],env=>some env
 |i::is,d::ds,env=>cD is ds (env.set i (some (.sh,d)))
 |_,_,_=>none
def dU:AS->Val->bB->Option bB
 |.one i,d,env=>some (env.set i (some (.sh,d)))
 |.tup is,.tup ds,env=>cD is ds env
 |_,_,_=>none
def jQ(js:List (Option Nat))(env:bB):bB:=js.map λo=>match o with
 |none=>none
 | some j=>match env[j]? with
  |some (some d)=>some d
  |_=>none
def jR(f:Val->Pr (Option FV)):List Val->Pr (Bool×List Val)
 |[]=>.ok (true,[])
 |x::r=>pb (f x) λo=>pb (jR f r) λp=>.ok (match o with|some e=>(e.1&&p.1,e.2::p.2)|none=>p)
def sy:Val->Pr Bool
 |.bl b=>.ok b
 |_=>.no
def gO(env:bB):IE->Option FV
 | .var i=>match env[i]? with
  |some (some (_,d))=>some (iS d,d)
  |_=>none
 |_=>none
def isVar:IE->Bool
 |.var _=>true
 |_=>false
mutual
noncomputable def bF(Ψ:Nat->List Val->Pr FV):IE->bB->Pr FV
 | .var i,env=>match env[i]? with
  |some (some (m,d))=>pg (kr m) (.ok (iS d,d))
  |_=>.no
 |.cst d,_=>.ok (iS d,d)
 |.con _ d,_=>.ok (iS d,d)
 |.no,_=>.no
 |.bin o a b,env=>pb (if isVar a=true then pl (gO env a) else bF Ψ a env) λx=>pb (if isVar b=true then pl (gO env b) else bF Ψ b env) λy=>j4 o x.2 y.2
 | .neg a,env=>pb (bF Ψ a env) λx=>match x.2 with
  |.int i=>.ok (true,.int (-i))
  |_=>.no
 |.cmp o a b,env=>pb (if isVar a=true then pl (gO env a) else bF Ψ a env) λx=>pb (if isVar b=true then pl (gO env b) else bF Ψ b env) λy=>pb (pl (cop [] o x.2 y.2)) λt=>.ok (true,.bl t)
 |.chn _ _ _ _ _,_=>.no
 |.and a b,env=>pb (bF Ψ a env) λx=>pb (sy x.2) λt=>if t=true then pb (bF Ψ b env) λy=>pb (sy y.2) λu=>.ok (true,.bl u) else .ok (true,.bl false)
 |.or a b,env=>pb (bF Ψ a env) λx=>pb (sy x.2) λt=>if t=true then .ok (true,.bl true) else pb (bF Ψ b env) λy=>pb (sy y.2) λu=>.ok (true,.bl u)
 |.not a,env=>pb (bF Ψ a env) λx=>pb (sy x.2) λt=>.ok (true,.bl (!t))
 |.ite _ _ _,_=>.no
 |.tup es,env=>pb (vY Ψ es env) λp=>pg (decide (p.2.length<=sizeLine)) (.ok (p.1,.tup p.2))
 |.lst es,env=>pb (vY Ψ es env) λp=>pg (decide (p.2.length<=sizeLine)) (.ok (p.1,.rl p.2))
 |.idx a b,env=>pb (if isVar a=true then pl (gO env a) else bF Ψ a env) λx=>pb (bF Ψ b env) λy=>pb (pl (mD [] x.2 y.2)) λz=>.ok (iS z,z)
 |.slc a lo hi,env=>pb (if isVar a=true then pl (gO env a) else bF Ψ a env) λx=>pb (if cM lo=true then .ok none else pb (bF Ψ lo env) λv=>pb (pl (jO v.2)) λi=>.ok (some i)) λl=>
   pb (if cM hi=true then .ok none else pb (bF Ψ hi env) λv=>pb (pl (jO v.2)) λi=>.ok (some i)) λu=>CZ x.2 l u
 |.call j es,env=>pb (vY Ψ es env) λp=>Ψ j p.2
 |.blt b es,env=>pb (gP Ψ es env) λds=>nC b ds
 | .met m a es,env=>match m with
  |.join=>.no
  |_=>.no
 | .comp _ js pat k it c elt,env=>pb (gP Ψ it env) λits=>pb (pl (Fg k its)) λxs=>pg (decide (xs.length<=100000))
   (pb (jR (λd=>pb (pl (dU pat d (jQ js env))) λenv'=>pb (if cM c=true then .ok true else pb (bF Ψ c env') λv=>pl (bW [] v.2)) λt=>
    if t=true then pb (bF Ψ elt env') λe=>.ok (some e) else .ok none) xs) λp=>.ok (p.1,.rl p.2))
 |.dct0,_=>.ok (true,.dc [] [])
 | .sset a,env=>pb (if isVar a=true then pl (gO env a) else bF Ψ a env) λx=>match x.2 with
  |.rl xs=>pb (pl (cC xs)) λns=>pg (decide (ns.length<64)) (.ok (true,.rl ((sortI (L2.eG [] ns)).map .int)))
  |_=>.no
 |.dget d k x,env=>pb (if isVar d=true then pl (gO env d) else bF Ψ d env) λo=>pb (pl (Jk [] o.2)) λ_=>pb (bF Ψ k env) λi=>pb (pl (keyOf i.2)) λkk=>pb (bF Ψ x env) λz=>pb (pl (Es [] o.2 kk)) λr=>.ok (iS (r.getD z.2),r.getD z.2)
 |.dct1 k v,env=>pb (bF Ψ k env) λx=>pb (pl (keyOf x.2)) λkk=>pb (bF Ψ v env) λy=>.ok (y.1,.dc [kk] [y.2])
 |.lkeys d,env=>pb (if isVar d=true then pl (gO env d) else bF Ψ d env) λo=>pb (pl (pV [] o.2)) λks=>.ok (true,.rl (ks.map Et))
 |.sdef ..,_=>.no
 |.svals _,_=>.no
 |.skeys d,env=>pb (if isVar d=true then pl (gO env d) else bF Ψ d env) λo=>pb (pl (mE [] o.2)) λns=>.ok (true,.rl (ns.map .int))
 |.fld n a x,env=>pb (if isVar a=true then pl (gO env a) else bF Ψ a env) λo=>pb (pl (iG n [] o.2 x)) λz=>.ok (iS z,z)
 |.mth a m js es,env=>pb (bF Ψ a env) λo=>pb (pl (lE [] o.2 m js)) λj=>pb (vY Ψ es env) λp=>Ψ j (o.2::p.2)
 |.rev a s,env=>pb (if isVar a=true then pl (gO env a) else bF Ψ a env) λx=>pb (if cM s=true then .ok none else pb (bF Ψ s env) λv=>pb (pl (jO v.2)) λi=>.ok (some i)) λk=>
   pg (decide (k=some (-1))) (match x.2 with
    |.rl vs=>.ok (bH vs.reverse,.rl vs.reverse)
    |_=>.no)
 |.dflt _ _ _ _ d w,env=>pb (if isVar d=true then pl (gO env d) else bF Ψ d env) λo=>pb (pl (pV [] o.2)) λks=>pb (if isVar w=true then pl (gO env w) else bF Ψ w env) λv=>pb (pl (AU [] ks v.2)) λns=>.ok (true,.rl (ns.map .int))
 |.isc _ _ _,_=>.no
noncomputable def vY(Ψ:Nat->List Val->Pr FV):ng->bB->Pr (Bool×List Val)
 |.nil,_=>.ok (true,[])
 |.cons e es,env=>pb (bF Ψ e env) λd=>pb (vY Ψ es env) λp=>.ok (d.1&&p.1,d.2::p.2)
noncomputable def gP(Ψ:Nat->List Val->Pr FV):ng->bB->Pr (List Val)
 |.nil,_=>.ok []
 |.cons e es,env=>pb (if isVar e=true then pl (gO env e) else bF Ψ e env) λd=>pb (gP Ψ es env) λp=>.ok (d.2::p)
end
def Ah(Ψ:Nat->List Val->Pr FV)(e:IE)(env:bB):Pr FV:=if isVar e=true then pl (gO env e) else bF Ψ e env
inductive Fi
 |nx (env:bB)|rt (p:FV)|bk (env:bB)|ct (env:bB)
mutual
noncomputable def sD:IS->List Nat
 |.expr (.met .append (.var i) _)=>[i]
 |.expr (.met .extend (.var i) _)=>[i]
 |.fD (.var i) _ _=>[i]
 |.asg _ (.met .pop (.var j) _)=>[j]
 |.iff _ a b=>iY a++iY b
 |.for _ _ _ b=>iY b
 |.whl _ _ b=>iY b
 |_=>[]
noncomputable def iY:dP->List Nat
 |.nil=>[]
 |.cons s r=>sD s++iY r
end
def stored:AS->List Nat
 |.one i=>[i]
 |.tup is=>is
mutual
noncomputable def o6:IS->List Nat
 |.asg p _=>stored p
 |.aug i _ _=>[i]
 |.iff _ a b=>lT a++lT b
 |.for p _ _ b=>stored p++lT b
 |.whl _ _ b=>lT b
 |_=>[]
noncomputable def lT:dP->List Nat
 |.nil=>[]
 |.cons s r=>o6 s++lT r
end
def Vj:IE->Bool
 |.lst _=>true
 |.comp ..=>true
 |.slc ..=>true
 |.blt .list _=>true
 |.blt .sorted _=>true
 |.lkeys _=>true
 |.dct0=>true
 |.dct1 ..=>true
 |_=>false
def gu(body:Val->bB->Pr Fi):List Val->bB->Pr Fi
 |[],env=>.ok (.nx env)
 | x::r,env=>pb (body x env) λf=>match f with
  |.nx env'=>gu body r env'
  |.ct env'=>gu body r env'
  |.bk env'=>.ok (.nx env')
  |.rt p=>.ok (.rt p)
def mJ(c:bB->Pr Bool)(body:bB->Pr Fi):Nat->bB->Pr Fi
 |0,_=>.no
 | n+1,env=>pb (c env) λt=>if t=true then pb (body env) λf=>(match f with
   |.nx env'=>mJ c body n env'
   |.ct env'=>mJ c body n env'
   |.bk env'=>.ok (.nx env')
   |.rt p=>.ok (.rt p)) else .ok (.nx env)
def Ww:Mk->Mk
 |.ow=>.sh
 |m=>m
def Wx:Option (Mk×Val)->Option (Mk×Val)
 |none=>none
 |some (m,d)=>some (Ww m,d)
def j3(env:bB):bB:=env.map Wx
def JR(env:bB):ng->Option (Val×Val)
 | .cons (.var i) #[.var j]=>match env[i]?,env[j]? with
  |some (some (.nw,d)),some (some (.nw,e))=>some (d,e)
  |_,_=>none
 |_=>none
def JS(Ψ:Nat->List Val->Pr FV)(es:ng)(env:bB):Pr FV:=match JR env es with
 |some p=>.ok (true,.tup [p.1,p.2])
 |none=>bF Ψ (.tup es) (j3 env)
def TN(Ψ:Nat->List Val->Pr FV)(e:IE)(env:bB):Pr FV:=match e with
 | .var i=>match env[i]? with
  | some (some (m,d))=>if kr m=true then .ok (iS d||PR m,d) else match d with
   |.rl ds=>.ok (bH ds,.rl ds)
   |.dc ks ds=>.ok (bH ds,.dc ks ds)
   |_=>.no
  |_=>.no
 |.call j es=>bF Ψ (.call j es) (j3 env)
 |.tup es=>JS Ψ es env
 |e=>bF Ψ e env
def yq(p:AS)(it:ng)(body:dP):Bool:=match it with
 |.cons (.var i) .nil=>!(iY body).contains i && !(lT body).contains i && !(stored p).contains i
 |_=>true
def yr:IE->Option Nat
 |.met .pop (.var j) #[¬0]=>some j
 |_=>none
def NZ(ms:List Nat)(i:Nat)(o:Option Nat)(env:bB):Pr Fi:=match o with
 | some j=>pg (!ms.contains i&&decide (i≠j)) (match env[j]? with
  |some (some (.ow,.rl (d::ds)))=>pg (iS d) (.ok (.nx ((env.set j (some (.ow,.rl ds))).set i (some (.sh,d)))))
  |_=>.no)
 |none=>.no
mutual
noncomputable def bx(Ψ:Nat->List Val->Pr FV)(ms:List Nat):IS->bB->Pr Fi
 | .expr e,env=>match e with
  | .met .append (.var i) #[a]=>match env[i]? with
   |some (some (.ow,.rl ds))=>pb (bF Ψ a env) λx=>pg (decide (ds.length<sizeLine)) (.ok (.nx (env.set i (some (.ow,.rl (ds++[x.2]))))))
   |_=>.no
  | .met .extend (.var i) #[a]=>match env[i]? with
   | some (some (.ow,.rl ds))=>pb (bF Ψ a env) λx=>match x.2 with
    |.tup vs=>pg (decide (ds.length+vs.length<=sizeLine)) (.ok (.nx (env.set i (some (.ow,.rl (ds++vs))))))
    |_=>.no
   |_=>.no
  |e=>pb (bF Ψ e env) λ_=>.ok (.nx env)
 | .asg p e,env=>match p with
  | .one i=>if (yr e).isSome=true then NZ ms i (yr e) env else if ms.contains i=true then pg (Vj e) (pb (bF Ψ e env) λx=>match x.2 with
    |.rl ds=>.ok (.nx (env.set i (some (.ow,.rl ds))))
    |.dc ks ds=>.ok (.nx (env.set i (some (.ow,.dc ks ds))))
    |_=>.no) else pb (bF Ψ e env) λx=>.ok (.nx (env.set i (some (gh x.1 x.2,x.2))))
  |.tup is=>pg (is.all λi=>!ms.contains i) (pb (bF Ψ e env) λx=>pb (pl (dU (.tup is) x.2 env)) λenv'=>.ok (.nx env'))
 |.aug _ _ _,_=>.no
 | .fD o i v,env=>match o with
  | .var j=>pb (bF Ψ v env) λx=>match env[j]? with
   |some (some (.ow,.rl ds))=>pb (bF Ψ i env) λz=>pb (pl (jO z.2)) λk=>pb (pl (Cn ds.length k)) λn=>.ok (.nx (env.set j (some (.ow,.rl (ds.set n x.2)))))
   |some (some (.ow,.dc ks ds))=>pb (bF Ψ i env) λz=>pb (pl (keyOf z.2)) λk=>pg (decide (ks.length<sizeLine)) (.ok (.nx (env.set j (some (.ow,putD ks ds k x.2)))))
   |_=>.no
  |_=>.no
 |.iff c a b,env=>pb (Ah Ψ c env) λx=>pb (pl (bW [] x.2)) λt=>if t=true then aF Ψ ms a env else aF Ψ ms b env
 |.for p k it body,env=>pg (yq p it body&&(stored p).all λi=>!ms.contains i) (pb (gP Ψ it env) λits=>pb (pl (ku k its)) λxs=>
   gu (λx env=>pb (pl (dU p x env)) λenv'=>aF Ψ ms body env') xs env)
 |.whl n c body,env=>mJ (λenv=>pb (Ah Ψ c env) λx=>pl (bW [] x.2)) (aF Ψ ms body) n env
 |.ret e,env=>pb (TN Ψ e env) λp=>.ok (.rt p)
 |.Ji,_=>.ok (.rt (true,.non))
 |.brk,env=>.ok (.bk env)
 |.cnt,env=>.ok (.ct env)
 |.pass,env=>.ok (.nx env)
 |.never,_=>.no
 |.setF _ _ _ _,_=>.no
noncomputable def aF(Ψ:Nat->List Val->Pr FV)(ms:List Nat):dP->bB->Pr Fi
 |.nil,env=>.ok (.nx env)
 | .cons s r,env=>pb (bx Ψ ms s env) λf=>match f with
  |.nx env'=>aF Ψ ms r env'
  |f=>.ok f
end
def gQ(Ψ:Nat->List Val->Pr FV)(n:Nat)(body:dP)(ds:List Val):Pr FV :=
 pb (aF Ψ (iY body) body (ds.map (λd=>some (.sh,d))++replicate (n-ds.length) none)) λf=>match f with
  |.nx _=>.ok (true,.non)
  |.rt p=>.ok p
  |_=>.no
abbrev AP:=Option Nat->Prop
def Fr(n:Nat):AP:=λo=>match o with
 |none=>False
 |some k=>n<=k
theorem Fr.le{n m:Nat}(h:n<=m):∀o,Fr m o->Fr n o
 |none,e=>e
 |some k,e=>aaD h e
mutual
noncomputable def Dn(A:AP)(h:Hs):Val->Val->Prop
 |.non,v=>v=.non
 |.bl b,v=>v=.bl b
 |.int i,v=>v=.int i
 |.str x,v=>v=.str x
 |.tup ds,v=>∃vs,v=.tup vs/\ao A h ds vs
 |.rl ds,v=>(∃vs,v=.rl vs/\A none/\ao A h ds vs)\/∃i vs,v=.ref i/\A (some i)/\h[i]?=some (.lst vs)/\ao A h ds vs
 |.dc ks ds,v=>∃i kvs,v=.ref i/\A (some i)/\h[i]?=some (.dct kvs)/\kvs.map (·.1)=ks/\ao A h ds (kvs.map (·.2))
 |.ob c xs ds,v=>∃i fs,v=.ref i/\A (some i)/\h[i]?=some (.ins c fs)/\fs.map (·.1)=xs/\ao A h ds (fs.map (·.2))
 |.ref _,_=>False
noncomputable def ao(A:AP)(h:Hs):List Val->List Val->Prop
 |[],vs=>vs=[]
 |d::ds,vs=>∃v r,vs=v::r/\Dn A h d v/\ao A h ds r
end
section
variable {A A':AP} {h h' h1:Hs}
mutual
theorem Dn.mono(hA:∀i,A i->A' i)(hh:∀(i:Nat) (o:Ob),A (some i)->h[i]?=some o->h'[i]?=some o):∀(d v:Val),Dn A h d v->Dn A' h' d v
 |.non,v,e=>by rw[Dn]at e |-;exact e
 |.bl _,v,e=>by rw[Dn]at e |-;exact e
 |.int _,v,e=>by rw[Dn]at e |-;exact e
 |.str _,v,e=>by rw[Dn]at e |-;exact e
 | .tup ds,v,e=>by
  rw[Dn]at e |-;obtain⟨vs,rfl,q⟩:=e;exact⟨vs,rfl,ao.mono hA hh ds vs q⟩
 | .rl ds,v,e=>by
  rw[Dn]at e |-
  rcases e with ⟨vs,rfl,n,q⟩|⟨i,vs,rfl,a,g,q⟩
  ·exact .inl ⟨vs,rfl,hA _ n,ao.mono hA hh ds vs q⟩
  ·exact .inr ⟨i,vs,rfl,hA _ a,hh i _ a g,ao.mono hA hh ds vs q⟩
 | .dc ks ds,v,e=>by
  rw[Dn]at e |-;obtain⟨i,kvs,rfl,a,g,k,q⟩:=e;exact⟨i,kvs,rfl,hA _ a,hh i _ a g,k,ao.mono hA hh ds _ q⟩
 | .ob c xs ds,v,e=>by
  rw[Dn]at e |-;obtain⟨i,kvs,rfl,a,g,k,q⟩:=e;exact⟨i,kvs,rfl,hA _ a,hh i _ a g,k,ao.mono hA hh ds _ q⟩
 |.ref _,v,e=>by rw[Dn]at e;exact e.elim
theorem ao.mono(hA:∀i,A i->A' i)(hh:∀(i:Nat) (o:Ob),A (some i)->h[i]?=some o->h'[i]?=some o):∀(ds vs:List Val),ao A h ds vs->ao A' h' ds vs
 |[],vs,e=>by rw[ao]at e |-;exact e
 | d::ds,vs,e=>by
  rw[ao]at e |-;obtain⟨v,r,rfl,q1,q2⟩:=e;exact⟨v,r,rfl,Dn.mono hA hh d v q1,ao.mono hA hh ds r q2⟩
end
theorem bL{i:Nat}(p:h<+:h')(e:h[i]?=some o):h'[i]?=some o:=by
 obtain⟨t,rfl⟩:=p;have hi:i<h.length:=(Z8.mp e).1;rw[aam hi];exact e
theorem Dn.ext(p:h<+:h')(e:Dn A h d v):Dn A h' d v:=Dn.mono (λ_ a=>a) (λ_ _ _ q=>bL p q) d v e
theorem ao.ext(p:h<+:h')(e:ao A h d v):ao A h' d v:=ao.mono (λ_ a=>a) (λ_ _ _ q=>bL p q) d v e
theorem Dn.wid(hA:∀i,A i->A' i)(e:Dn A h d v):Dn A' h d v:=Dn.mono hA (λ_ _ _ q=>q) d v e
theorem ao.wid(hA:∀i,A i->A' i)(e:ao A h d v):ao A' h d v:=ao.mono hA (λ_ _ _ q=>q) d v e
mutual
theorem dM:∀(d v:Val),iS d=true->(Dn A h d v↔v=d)
 |.non,v,_=>by rw[Dn]
 |.bl _,v,_=>by rw[Dn]
 |.int _,v,_=>by rw[Dn]
 |.str _,v,_=>by rw[Dn]
 | .tup ds,v,e=>by
  rw[iS]at e;rw[Dn];constructor
  ·rintro⟨vs,rfl,q⟩;rw[(aT ds vs e).mp q]
  ·rintro rfl;exact⟨ds,rfl,(aT ds ds e).mpr rfl⟩
 |.rl _,v,e=>by rw[iS]at e;cases e
 |.dc _ _,v,e=>by rw[iS]at e;cases e
 |.ob _ _ _,v,e=>by rw[iS]at e;cases e
 |.ref _,v,e=>by rw[iS]at e;cases e
theorem aT:∀(ds vs:List Val),bH ds=true->(ao A h ds vs↔vs=ds)
 |[],vs,_=>by rw[ao]
 | d::ds,vs,e=>by
  rw[bH,and_eq_true]at e;rw[ao];constructor
  ·rintro⟨v,r,rfl,q1,q2⟩;rw[(dM d v e.1).mp q1,(aT ds r e.2).mp q2]
  ·rintro rfl;exact⟨d,ds,rfl,(dM d d e.1).mpr rfl,(aT ds ds e.2).mpr rfl⟩
end
theorem ao.nil:ao A h [] []:=by rw[ao]
theorem ao.cons{d v:Val}{ds vs:List Val}(a:Dn A h d v)(b:ao A h ds vs):ao A h (d::ds) (v::vs):=by rw[ao];exact⟨v,vs,rfl,a,b⟩
theorem ao.length:∀{ds vs:List Val},ao A h ds vs->ds.length=vs.length
 |[],vs,e=>by rw[ao]at e;subst e;rfl
 |d::ds,vs,e=>by rw[ao]at e;obtain⟨v,r,rfl,_,q⟩:=e;simp[ao.length q]
theorem ao.get:∀{ds vs:List Val} {i:Nat} {d:Val},ao A h ds vs->ds[i]?=some d->∃v,vs[i]?=some v/\Dn A h d v
 |[],vs,i,d,e,q=>by simp at q
 | c::ds,vs,0,d,e,q=>by
  rw[ao]at e;obtain⟨v,r,rfl,a,_⟩:=e;simp at q;subst q;exact⟨v,rfl,a⟩
 | c::ds,vs,i+1,d,e,q=>by
  rw[ao]at e;obtain⟨v,r,rfl,_,b⟩:=e;simp at q;obtain⟨w,q1,q2⟩:=ao.get b q;exact⟨w,by simpa using q1,q2⟩
theorem ao.append:∀{ds es vs ws:List Val},ao A h ds vs->ao A h es ws->ao A h (ds++es) (vs++ws)
 |[],es,vs,ws,e,q=>by rw[ao]at e;subst e;exact q
 | d::ds,es,vs,ws,e,q=>by
  rw[ao]at e;obtain⟨v,r,rfl,a,b⟩:=e;exact ao.cons a (ao.append b q)
theorem ao.take:∀{ds vs:List Val} (n:Nat),ao A h ds vs->ao A h (ds.take n) (vs.take n)
 |_,_,0,_=>by simp;exact ao.nil
 |[],vs,n+1,e=>by rw[ao]at e;subst e;simp;exact ao.nil
 | d::ds,vs,n+1,e=>by
  rw[ao]at e;obtain⟨v,r,rfl,a,b⟩:=e;exact ao.cons a (ao.take n b)
theorem ao.drop:∀{ds vs:List Val} (n:Nat),ao A h ds vs->ao A h (ds.drop n) (vs.drop n)
 |_,_,0,e=>by simpa using e
 |[],vs,n+1,e=>by rw[ao]at e;subst e;simp;exact ao.nil
 | d::ds,vs,n+1,e=>by
  rw[ao]at e;obtain⟨v,r,rfl,a,b⟩:=e;exact ao.drop n b
theorem ao.cut(lo hi:Option Int)(e:ao A h ds vs):ao A h (cz ds lo hi) (cz vs lo hi):=by
 unfold cz;rw[e.length];exact ao.take _ (ao.drop _ e)
theorem ao.app:∀{ds es vs ws:List Val},ao A h ds vs->ao A h es ws->ao A h (ds++es) (vs++ws)
 |[],_,vs,_,e,q=>by rw[ao]at e;subst e;exact q
 | d::ds,_,vs,_,e,q=>by
  rw[ao]at e;obtain⟨v,r,rfl,a,b⟩:=e;rw[cons_append,cons_append,ao];exact⟨v,_,rfl,a,ao.app b q⟩
theorem ao.rev:∀{ds vs:List Val},ao A h ds vs->ao A h ds.reverse vs.reverse
 |[],vs,e=>by rw[ao]at e;subst e;exact ao.nil
 | d::ds,vs,e=>by
  rw[ao]at e;obtain⟨v,r,rfl,a,b⟩:=e;rw[reverse_cons,reverse_cons];refine ao.app (ao.rev b) ?_;rw[ao];exact⟨v,[],rfl,a,by rw[ao]⟩
theorem ao.set:∀{ds vs:List Val} (n:Nat) {d v:Val},ao A h ds vs->Dn A h d v->ao A h (ds.set n d) (vs.set n v)
 |[],vs,n,d,v,e,q=>by rw[ao]at e;subst e;simp;exact ao.nil
 | c::ds,vs,0,d,v,e,q=>by
  rw[ao]at e;obtain⟨w,r,rfl,a,b⟩:=e;exact ao.cons q b
 | c::ds,vs,n+1,d,v,e,q=>by
  rw[ao]at e;obtain⟨w,r,rfl,a,b⟩:=e;exact ao.cons a (ao.set n b q)
theorem ao.kg{i:Int}(e:ao A h ds vs)(q:L2.kg ds i=some d):∃v,L2.kg vs i=some v/\Dn A h d v:=by
 unfold L2.kg at q |-;rw[e.length]at q;cases hi:L2.Cn vs.length i with
 |none=>rw[hi]at q;cases q
 |some n=>rw[hi]at q;exact ao.get e q
theorem ao.one(e:ao A h [d] vs):∃v,vs=[v]/\Dn A h d v:=by
 rw[ao]at e;obtain⟨v,r,rfl,a,b⟩:=e;rw[ao]at b;subst b;exact⟨v,rfl,a⟩
def OD(A:AP)(h:Hs)(d:Val)(a:Nat):Prop:=match d with
 |.rl ds=>∃vs,h[a]?=some (.lst vs)/\ao A h ds vs
 |.dc ks ds=>∃kvs,h[a]?=some (.dct kvs)/\kvs.map (·.1)=ks/\ao A h ds (kvs.map (·.2))
 |_=>False
theorem OD.mono{a:Nat}(e:OD A h d a)(ho:∀o,h[a]?=some o->h'[a]?=some o)(hq:∀ds vs,ao A h ds vs->ao A' h' ds vs):OD A' h' d a:=by
 cases d with
 |rl ds=>obtain⟨vs,g,q⟩:=e;exact⟨vs,ho _ g,hq _ _ q⟩
 |dc ks ds=>obtain⟨kvs,g,k,q⟩:=e;exact⟨kvs,ho _ g,k,hq _ _ q⟩
 |_=>exact False.elim e
theorem OD.ext{a:Nat}(p:h<+:h')(e:OD A h d a):OD A h' d a:=e.mono (λ_ g=>bL p g) λ_ _ q=>q.ext p
theorem OD.lt{a:Nat}(e:OD A h d a):a<h.length:=by
 cases d with
 |rl ds=>obtain⟨vs,g,q⟩:=e;exact(Z8.mp g).1
 |dc ks ds=>obtain⟨kvs,g,k,q⟩:=e;exact(Z8.mp g).1
 |_=>exact False.elim e
theorem OD.dn{a:Nat}(e:OD A h d a)(ha:A (.some a)):Dn A h d (.ref a):=by
 cases d with
 |rl ds=>obtain⟨vs,g,q⟩:=e;rw[Dn];exact .inr ⟨a,vs,rfl,ha,g,q⟩
 |dc ks ds=>obtain⟨kvs,g,k,q⟩:=e;rw[Dn];exact⟨a,kvs,rfl,ha,g,k,q⟩
 |_=>exact False.elim e
def OB(A:AP)(h:Hs)(d:Val)(o:Ob):Prop:=match d with
 |.rl ds=>∃vs,o=.lst vs/\ao A h ds vs
 |.dc ks ds=>∃kvs,o=.dct kvs/\kvs.map (·.1)=ks/\ao A h ds (kvs.map (·.2))
 |_=>False
theorem OB.od{a:Nat}(e:OB A h d o)(g:h'[a]?=.some o)(hq:∀ds vs,ao A h ds vs->ao A' h' ds vs):OD A' h' d a:=by
 cases d with
 |rl ds=>obtain⟨vs,rfl,q⟩:=e;exact⟨vs,g,hq _ _ q⟩
 |dc ks ds=>obtain⟨kvs,rfl,k,q⟩:=e;exact⟨kvs,g,k,hq _ _ q⟩
 |_=>exact False.elim e
def DB(A:AP)(h:Hs)(d v:Val):Prop:=Dn A h d v\/∃i,v=.ref i/\OD A h d i
theorem DB.all(e:DB A h d v):Dn (λ_=>True) h d v:=by
 rcases e with e|⟨i,rfl,q⟩
 ·exact e.wid λ_ _=>trivial
 ·exact(q.mono (A':=λ_=>True) (λ_ g=>g) λ_ _ z=>z.wid λ_ _=>trivial).dn trivial
theorem DB.ext(p:h<+:h')(e:DB A h d v):DB A h' d v:=by
 rcases e with e|⟨i,rfl,q⟩
 ·exact .inl (e.ext p)
 ·exact .inr ⟨i,rfl,q.ext p⟩
theorem DB.dc(e:DB A h (.dc ks ds) v):∃i kvs,v=.ref i/\h[i]?=some (.dct kvs)/\kvs.map (·.1)=ks/\ao A h ds (kvs.map (·.2)):=by
 rcases e with e|⟨i,rfl,kvs,g,k,q⟩
 ·rw[Dn]at e;obtain⟨i,kvs,rfl,_,g,k,q⟩:=e;exact⟨i,kvs,rfl,g,k,q⟩
 ·exact⟨i,kvs,rfl,g,k,q⟩
theorem DB.lst(e:DB A h (.rl ds) v):∃vs,aG h v=some vs/\ao A h ds vs:=by
 rcases e with e|⟨i,rfl,vs,g,q⟩
 ·rw[Dn]at e
  rcases e with ⟨vs,rfl,_,q⟩|⟨i,vs,rfl,_,g,q⟩
  ·exact⟨vs,rfl,q⟩
  ·exact⟨vs,by simp[aG,g],q⟩
 ·exact⟨vs,by simp[aG,g],q⟩
theorem DB.seq(e:DB A h d v)(q:lP [] d=some ds):∃vs,lP h v=some vs/\ao A h ds vs:=by
 cases d with
 |tup es=>
  simp only[lP]at q;cases q
  rcases e with e|⟨_,_,e1⟩
  ·rw[Dn]at e;obtain⟨vs,rfl,q⟩:=e;exact⟨vs,rfl,q⟩
  ·exact False.elim e1
 |rl es=>simp only[lP,aG]at q;cases q;obtain⟨vs,q1,q2⟩:=e.lst;refine⟨vs,?_,q2⟩;cases v<;>first|(simp[aG]at q1;done)|exact q1
 |ref i=>simp[lP,aG]at q
 |_=>simp[lP,aG]at q
theorem DB.int{i:Int}(e:DB A h (.int i) v):v=.int i:=by
 rcases e with e|⟨_,_,e1⟩
 ·rw[Dn]at e;exact e
 ·exact False.elim e1
theorem DB.str(e:DB A h (.str i) v):v=.str i:=by
 rcases e with e|⟨_,_,e1⟩
 ·rw[Dn]at e;exact e
 ·exact False.elim e1
theorem DB.bl{i:Bool}(e:DB A h (.bl i) v):v=.bl i:=by
 rcases e with e|⟨_,_,e1⟩
 ·rw[Dn]at e;exact e
 ·exact False.elim e1
theorem DB.tup(e:DB A h (.tup ds) v):∃vs,v=.tup vs/\ao A h ds vs:=by
 rcases e with e|⟨_,_,e1⟩
 ·rw[Dn]at e;exact e
 ·exact False.elim e1
theorem vZ:∀(n:Nat) (d v:Val) (p:PyData),Dn (λ_=>True) h d v->toD n [] d=some p->toD n h v=some p:=by
 intro n
 induction n with
 |zero=>intro d v p _ e;simp[toD]at e
 |succ n ih=>
  have all:∀(ds vs:List Val) (ps:List PyData),ao (λ_=>True) h ds vs->cO (toD n []) ds=some ps->cO (toD n h) vs=some ps:=by
   intro ds
   induction ds with
   |nil=>intro vs ps q e;rw[ao]at q;subst q;exact e
   |cons d ds Ym=>intro vs ps q e;rw[ao]at q;obtain⟨v,r,rfl,q1,q2⟩:=q;simp only[cO]at e |-;obtain⟨x,e1,e⟩:=Z4.mp e;obtain⟨xs,e2,e⟩:=Z4.mp e;rw[ih d v x q1 e1,Ym r xs q2 e2];exact e
  intro d v p q e;cases d with
  |non=>rw[Dn]at q;subst q;exact e
  |bl b=>rw[Dn]at q;subst q;exact e
  |int b=>rw[Dn]at q;subst q;exact e
  |str b=>rw[Dn]at q;subst q;exact e
  |tup ds=>rw[Dn]at q;obtain⟨vs,rfl,q⟩:=q;simp only[toD]at e |-;obtain⟨ps,e1,e⟩:=Z4.mp e;rw[all ds vs ps q e1];exact e
  |rl ds=>
   rw[Dn]at q;simp only[toD]at e;obtain⟨ps,e1,e⟩:=Z4.mp e
   rcases q with ⟨vs,rfl,_,q⟩|⟨i,vs,rfl,_,g,q⟩
   ·simp only[toD];rw[all ds vs ps q e1];exact e
   ·simp only[toD,aG,g,bind_some];rw[all ds vs ps q e1];exact e
  |dc ks ds=>simp[toD]at e
  |ob c xs ds=>simp[toD]at e
  |ref i=>rw[Dn]at q;exact q.elim
theorem Lg{b:Bool}(a:DB A h d v)(c:DB A h e w)(q:Er [] d e=some b):Er h v w=some b:=by
 unfold Er at q |-;obtain⟨x,e1,q⟩:=Z4.mp q;obtain⟨y,e2,q⟩:=Z4.mp q;rw[vZ 16 d v x a.all e1,vZ 16 e w y c.all e2];exact q
theorem Fj(a:DB A h d v):nj v=nj d:=by
 rcases a with a|⟨i,rfl,q⟩
 ·cases d<;>rw[Dn]at a
  ·subst a;rfl
  ·subst a;rfl
  ·subst a;rfl
  ·subst a;rfl
  ·obtain⟨vs,rfl,_⟩:=a;rfl
  ·rcases a with ⟨vs,rfl,_⟩|⟨i,vs,rfl,_⟩<;>rfl
  ·obtain⟨i,kvs,rfl,_⟩:=a;rfl
  ·obtain⟨i,kvs,rfl,_⟩:=a;rfl
  ·exact a.elim
 ·cases d<;>first|exact False.elim q|rfl
theorem Fo{b:Bool}(q:memD h v (.str y)=some b):False:=by
 unfold memD at q;obtain⟨x,e1,q⟩:=Z4.mp q;obtain⟨z,e2,q⟩:=Z4.mp q;simp only[toD]at e1;split at e1<;>cases e1;simp[MI]at q
theorem Fp{b:Bool}(a:DB A h d v)(c:DB A h e w)(q:vL [] d e=some b):vL h v w=some b:=by
 have data:memD [] d e=some b->memD h v w=some b:=λq=>by
  unfold memD at q |-;obtain⟨x,e1,q⟩:=Z4.mp q;obtain⟨y,e2,q⟩:=Z4.mp q;rw[vZ 16 e w x c.all e1,vZ 16 d v y a.all e2];exact q
 cases e with
 |str y=>
  have:=c.str;subst this;cases d with
  |str x=>have:=a.str;subst this;exact q
  |_=>exact(Fo (data q)).elim
 |tup es=>obtain⟨ws,rfl,_⟩:=c.tup;have q':=data (by cases d<;>exact q);cases v<;>exact q'
 |rl es=>
  have q':=data (by cases d<;>exact q)
  rcases c with c|⟨i,rfl,vs,g,q2⟩
  ·rw[Dn]at c
   rcases c with ⟨ws,rfl,_⟩|⟨i,ws,rfl,_,g,_⟩
   ·cases v<;>exact q'
   ·cases v<;>(show (h[i]?).bind _=_;rw[g];exact q')
  ·cases v<;>(show (h[i]?).bind _=_;rw[g];exact q')
 |dc ks es=>
  obtain⟨i,kvs,rfl,g,hk,_⟩:=c.dc
  ·skip
   have q':(keyOf d).bind (λk=>some (ks.any λj=>decide (j=k)))=some b:=by cases d<;>exact q
   obtain⟨kk,e1,q'⟩:=Z4.mp q';have ev:keyOf v=some kk:=by
    cases d<;>simp only[keyOf]at e1<;>first|(cases e1;done)|skip
    ·have:=a.int;subst this;exact e1
    ·have:=a.str;subst this;exact e1
   have:(bV kvs kk).isSome=(ks.any λj=>decide (j=kk)):=by
    subst hk;unfold bV;rw[isSome_map,any_map];have key:∀l:List (Key×Val),(List.find? (λkv=>decide (kv.fst=kk)) l).isSome=l.any ((λj=>decide (j=kk))∘λx=>x.fst):=by
     intro l
     induction l with
     |nil=>rfl
     |cons x l ih=>
      rw[find?_cons,any_cons]
      by_cases hx:x.1=kk
      ·simp[hx]
      ·simp[hx];simpa using ih
    exact key kvs
   have fin:Jj h v i (.dct kvs)=some b:=by simp only[Jj,ev,bind_some,this];exact q'
   cases v<;>(show (h[i]?).bind _=_;rw[g];exact fin)
 |ref i=>
  rcases c with c|⟨_,_,e1⟩
  ·rw[Dn]at c;exact c.elim
  ·exact False.elim e1
 |ob cc xs es=>
  have q':memD [] d (.ob cc xs es)=some b:=by cases d<;>exact q
  unfold memD at q';obtain⟨x,e1,q'⟩:=Z4.mp q';simp[toD]at e1
 |non=>
  have q':=data (by cases d<;>exact q);have:w=.non:=by
   rcases c with c|⟨_,_,e1⟩
   ·rw[Dn]at c;exact c
   ·exact False.elim e1
  subst this;cases v<;>exact q'
 |bl x=>
  have q':=data (by cases d<;>exact q);have:w=.bl x:=by
   rcases c with c|⟨_,_,e1⟩
   ·rw[Dn]at c;exact c
   ·exact False.elim e1
  subst this;cases v<;>exact q'
 |int x=>
  have q':=data (by cases d<;>exact q);have:w=.int x:=by
   rcases c with c|⟨_,_,e1⟩
   ·rw[Dn]at c;exact c
   ·exact False.elim e1
  subst this;cases v<;>exact q'
theorem Fq{b:Bool}(a:DB A h d v)(c:DB A h e w)(q:K4 d e=some b):K4 v w=some b:=by
 cases e<;>first|(cases q;done)|skip
 ·have:w=.non:=by
   rcases c with c|⟨_,_,e1⟩
   ·rw[Dn]at c;exact c
   ·exact False.elim e1
  subst this;show some (nj v)=_;rw[Fj a];exact q
 ·have:=c.bl;subst this
  cases d<;>first|(cases q;done)|skip
  have:=a.bl;subst this;exact q
theorem N1{b:Bool}(a:DB A h d v)(c:DB A h e w)(q:cop [] o d e=some b):cop h o v w=some b:=by
 cases o with
 |eq=>exact Lg a c q
 |ne=>obtain⟨x,e1,e2⟩:=aaE.mp (show (Er [] d e).map _=some b from q);show (Er h v w).map _=_;rw[Lg a c e1];exact congrArg some e2
 |isn=>exact Fq a c q
 |ntn=>obtain⟨x,e1,e2⟩:=aaE.mp (show (K4 d e).map _=some b from q);show (K4 v w).map _=_;rw[Fq a c e1];exact congrArg some e2
 |wX=>exact Fp a c q
 |nin=>obtain⟨x,e1,e2⟩:=aaE.mp (show (vL [] d e).map _=some b from q);show (vL h v w).map _=_;rw[Fp a c e1];exact congrArg some e2
 |lt=>obtain⟨i,j,rfl,rfl⟩:=kj (.inl rfl) q;have:=a.int;subst this;have:=c.int;subst this;exact q
 |le=>obtain⟨i,j,rfl,rfl⟩:=kj (.inr (.inl rfl)) q;have:=a.int;subst this;have:=c.int;subst this;exact q
 |gt=>obtain⟨i,j,rfl,rfl⟩:=kj (.inr (.inr (.inl rfl))) q;have:=a.int;subst this;have:=c.int;subst this;exact q
 |ge=>obtain⟨i,j,rfl,rfl⟩:=kj (.inr (.inr (.inr rfl))) q;have:=a.int;subst this;have:=c.int;subst this;exact q
theorem v5{b:Bool}(a:DB A h d v)(q:bW [] d=some b):bW h v=some b:=by
 cases d with
 |rl ds=>
  obtain⟨vs,q1,q2⟩:=a.lst;have l:=q2.length;have e:(!ds.isEmpty) = !vs.isEmpty:=by cases ds<;>cases vs<;>simp_all
  simp only[bW]at q;rw[e]at q;cases v<;>simp only[aG]at q1<;>first|(cases q1;done)|skip
  ·cases q1;exact q
  ·split at q1<;>cases q1;rename_i g;simp only[bW,g];exact q
 |tup ds=>
  obtain⟨vs,rfl,q2⟩:=a.tup;have l:=q2.length;have e:(!ds.isEmpty) = !vs.isEmpty:=by cases ds<;>cases vs<;>simp_all
  simp only[bW]at q |-;rw[<-e];exact q
 |dc ks ds=>obtain⟨i,kvs,rfl,g,hk,_⟩:=a.dc;subst hk;simp only[bW,g]at q |-;rw[<-q];cases kvs<;>rfl
 |ob c xs ds=>cases q
 |ref i=>
  rcases a with a|⟨_,_,e1⟩
  ·rw[Dn]at a;exact a.elim
  ·exact False.elim e1
 |non=>
  rcases a with a|⟨_,_,e1⟩
  ·rw[Dn]at a;subst a;exact q
  ·exact False.elim e1
 |bl b=>have:=a.bl;subst this;exact q
 |int b=>have:=a.int;subst this;exact q
 |str b=>have:=a.str;subst this;exact q
theorem N2{n:Nat}(a:DB A h d v)(q:nk [] d=some n):nk h v=some n:=by
 cases d with
 |rl ds=>
  obtain⟨vs,q1,q2⟩:=a.lst;have l:=q2.length;simp only[nk]at q;rw[l]at q;cases v<;>simp only[aG]at q1<;>first|(cases q1;done)|skip
  ·cases q1;exact q
  ·split at q1<;>cases q1;rename_i g;simp only[nk,g];exact q
 |tup ds=>obtain⟨vs,rfl,q2⟩:=a.tup;simp only[nk]at q |-;rw[<-q2.length];exact q
 |dc ks ds=>obtain⟨i,kvs,rfl,g,hk,_⟩:=a.dc;subst hk;simp only[nk,g]at q |-;rw[<-q];simp
 |str b=>have:=a.str;subst this;exact q
 |_=>simp[nk]at q
theorem RJ{t:String}(a:DB A h d v)(q:CK [] d=some t):CK h v=some t:=by
 cases d with
 |rl ds=>
  obtain⟨vs,q1,q2⟩:=a.lst;cases v<;>simp only[aG]at q1<;>first|(cases q1;done)|skip
  ·exact q
  ·split at q1<;>cases q1;rename_i g;simp only[CK,g];exact q
 |tup ds=>obtain⟨vs,rfl,q2⟩:=a.tup;exact q
 |dc ks ds=>obtain⟨i,kvs,rfl,g,hk,_⟩:=a.dc;simp only[CK,g]at q |-;exact q
 |ob c xs ds=>cases q
 |ref i=>
  rcases a with a|⟨_,_,e1⟩
  ·rw[Dn]at a;exact a.elim
  ·exact False.elim e1
 |non=>
  rcases a with a|⟨_,_,e1⟩
  ·rw[Dn]at a;subst a;exact q
  ·exact False.elim e1
 |bl b=>have:=a.bl;subst this;exact q
 |int b=>have:=a.int;subst this;exact q
 |str b=>have:=a.str;subst this;exact q
theorem qI:∀{kvs:List (Key×Val)} {ks:List Key} {ds:List Val} {z:Val},kvs.map (·.1)=ks->ao A h ds (kvs.map (·.2))->bV (ks.zip ds) k=some z->∃v,bV kvs k=some v/\Dn A h z v
 |[],ks,ds,z,hk,q,e=>by subst hk;simp[bV]at e
 | (k',v')::kvs,ks,ds,z,hk,q,e=>by
  subst hk;have l:=q.length;cases ds with
  |nil=>simp at l
  |cons d ds=>
   simp only[map_cons]at q;rw[ao]at q;obtain⟨v,r,e1,q1,q2⟩:=q;cases e1
   by_cases hkk:k'=k
   ·subst hkk;simp[bV]at e |-;subst e;exact q1
   ·have e':bV ((kvs.map (·.1)).zip ds) k=some z:=by simpa [bV,hkk] using e
    obtain⟨w,a1,a2⟩:=qI rfl q2 e';exact⟨w,by simpa [bV,hkk] using a1,a2⟩
theorem DB.pX{j:Nat}(c:DB A h (.ref j) v):False:=by
 rcases c with c|⟨_,_,e1⟩
 ·rw[Dn]at c;exact c
 ·exact e1
theorem Bs:∀{kvs:List (Key×Val)} {ds:List Val},ao A h ds (kvs.map (·.2))->bV ((kvs.map (·.1)).zip ds) k=none->bV kvs k=none
 |[],ds,q,e=>rfl
 | (k',v')::kvs,ds,q,e=>by
  cases ds with
  |nil=>rw[ao]at q;cases q
  |cons d ds=>
   rw[aaf,ao]at q;obtain⟨v,r,eq,q1,q2⟩:=q;cases eq;unfold bV at e |-;rw[aaf,aa1,find?_cons]at e;rw[find?_cons]
   by_cases hk:k'=k
   ·simp[hk]at e
   ·simp only[hk,decide_false]at e |-;exact Bs q2 e
theorem Ai(a:Dn A h d v)(e:keyOf d=some kk):keyOf v=some kk:=by
 cases d<;>first|(cases e;done)|skip
 ·rw[Dn]at a;subst a;exact e
 ·rw[Dn]at a;subst a;exact e
theorem N3(a:DB A h o v)(e:Es [] o k=some r):∃r',Es h v k=some r'/\∀z z',Dn A h z z'->Dn A h (r.getD z) (r'.getD z'):=by
 cases o<;>first|(cases e;done)|(exact(DB.pX a).elim)|skip
 rename_i ks ds;obtain⟨i,kvs,rfl,g,hk,q⟩:=a.dc;cases e;have eg:Es h (.ref i) k=some (bV kvs k):=by show (match h[i]? with|some (.dct kvs)=>some (bV kvs k)|_=>none)=_;rw[g]
 refine⟨_,eg,λz z' hz=>?_⟩;cases ev:bV (ks.zip ds) k with
 |none=>subst hk;rw[Bs q ev];exact hz
 |some d=>obtain⟨u,e1,e2⟩:=qI hk q ev;rw[e1];exact e2
theorem nD(a:DB A h o v)(e:pV [] o=some ks):pV h v=some ks:=by
 cases o<;>first|(cases e;done)|(exact(DB.pX a).elim)|skip
 obtain⟨i,kvs,rfl,g,hk,q⟩:=a.dc;cases e;show (match h[i]? with|some (.dct kvs)=>some (kvs.map (λkv:Key×Val=>kv.1))|_=>none)=_;rw[g];exact congrArg some hk
theorem kB:∀ks:List Key,bH (ks.map Et)=true
 |[]=>rfl
 |.inl _::ks=>by rw[aaf,bH,kB ks];rfl
 |.inr _::ks=>by rw[aaf,bH,kB ks];rfl
theorem JT{u:Unit}(a:DB A h o v)(e:Jk [] o=some u):Jk h v=some u:=by
 cases o<;>first|(cases e;done)|(exact(DB.pX a).elim)|skip
 obtain⟨i,kvs,rfl,g,hk,q⟩:=a.dc;show (match h[i]? with|some (.dct _)=>some ()|_=>none)=_;rw[g]
theorem N4(a:DB A h d v)(c:Dn A h e w)(q:mD [] d e=some z):∃u,mD h v w=some u/\Dn A h z u:=by
 cases e with
 |int i=>
  rw[Dn]at c;subst c;cases d with
  |str x=>
   have:=a.str;subst this;refine⟨z,q,?_⟩;change (if x.length<=sizeLine then (kg x.cps.toList i).map (λc=>Val.str ⟨[c].toArray⟩) else none)=some z at q;split at q
   ·obtain⟨c,_,rfl⟩:=aaE.mp q;rw[Dn]
   ·cases q
  |tup ds=>obtain⟨vs,rfl,q2⟩:=a.tup;exact q2.kg q
  |rl ds=>
   obtain⟨vs,q1,q2⟩:=a.lst;obtain⟨u,q3,q4⟩:=q2.kg q;refine⟨u,?_,q4⟩;cases v<;>simp only[aG]at q1<;>first|(cases q1;done)|skip
   ·cases q1;exact q3
   ·split at q1<;>cases q1;rename_i g;unfold mD;simp only[aG,g,bind_some];exact q3
  |dc ks ds=>obtain⟨i',kvs,rfl,g,hk,q2⟩:=a.dc;obtain⟨u,q3,q4⟩:=qI hk q2 q;refine⟨u,?_,q4⟩;show (match h[i']? with|some (.dct kvs)=>bV kvs (.inl i)|_=>(aG h (.ref i')).bind λxs=>kg xs i)=_;rw[g];exact q3
  |ref j=>exact(DB.pX a).elim
  |_=>cases q
 |str x=>
  rw[Dn]at c;subst c;cases d with
  |dc ks ds=>obtain⟨i',kvs,rfl,g,hk,q2⟩:=a.dc;obtain⟨u,q3,q4⟩:=qI hk q2 q;refine⟨u,?_,q4⟩;show (match h[i']? with|some (.dct kvs)=>bV kvs (.inr x)|_=>none)=_;rw[g];exact q3
  |ref j=>exact(DB.pX a).elim
  |_=>cases q
 |_=>cases d<;>first|(cases q;done)|exact(DB.pX a).elim
theorem v7:∀{fs:List (Str×Val)} {ds:List Val},ao A h ds (fs.map (·.2))->(((fs.map (·.1)).zip ds).lookup x=none->fs.lookup x=none)/\∀z,((fs.map (·.1)).zip ds).lookup x=some z->∃u,fs.lookup x=some u/\Dn A h z u
 |[],ds,q=>⟨λ_=>rfl,λz e=>by simp at e⟩
 | (k,v)::fs,ds,q=>by
  cases ds with
  |nil=>rw[ao]at q;cases q
  |cons d ds=>
   rw[aaf,ao]at q;obtain⟨w,r,eq,q1,q2⟩:=q;cases eq;rw[aaf,aa1,aaK,aaK];cases hb:x==k with
   |true=>exact⟨λz=>(by cases z),λz e=>(by cases e;exact⟨v,rfl,q1⟩)⟩
   |false=>exact v7 q2
theorem DB.ob{c:Nat}(e:DB A h (.ob c xs ds) v):∃i fs,v=.ref i/\h[i]?=some (.ins c fs)/\fs.map (·.1)=xs/\ao A h ds (fs.map (·.2)):=by
 rcases e with e|⟨_,_,e1⟩
 ·rw[Dn]at e;obtain⟨i,fs,rfl,_,g,k,q⟩:=e;exact⟨i,fs,rfl,g,k,q⟩
 ·exact False.elim e1
theorem N5{n:Nat}(a:DB A h o v)(e:iG n [] o x=some z):∃u,iG n h v x=some u/\Dn A h z u:=by
 cases o<;>first|(cases e;done)|(exact(DB.pX a).elim)|skip
 obtain⟨i,fs,rfl,g,hk,q⟩:=a.ob;subst hk;unfold iG at e;dsimp only at e;split at e
 ·rename_i hc;obtain⟨u,e1,e2⟩:=(v7 q).2 z e;refine⟨u,?_,e2⟩;unfold iG;dsimp only;rw[g];dsimp only;rw[aab hc];exact e1
 ·cases e
theorem N6{j:Nat}(a:DB A h o v)(e:lE [] o m js=some j):lE h v m js=some j:=by
 cases o<;>first|(cases e;done)|(exact(DB.pX a).elim)|skip
 obtain⟨i,fs,rfl,g,hk,q⟩:=a.ob;subst hk;unfold lE at e;dsimp only at e;split at e
 ·rename_i hc;have e1:=(v7 q).1 (by simpa using hc);unfold lE;dsimp only;rw[g];dsimp only;rw[aab (by rw[e1];rfl)];exact e
 ·cases e
end
def Up(A:AP)(h:Hs):Prop:=∀k,h.length<=k->A (some k)
def Rel(A:AP)(h:Hs){α β:Type}(R:α -> Hs -> β -> Prop)(o:Out β):Pr α -> Prop
 |.ok a=>∃b h',o=.ok b h'/\h<+:h'/\R a h' b
 |.exc c es=>∃ws h',o=.exc c ws h'/\h<+:h'/\ao A h' es ws
 |.no=>True
def RV(A:AP)(h:Hs):FV->Hs->Val->Prop:=λx h' v=>Dn A h' x.2 v/\(x.1=true->Dn (Fr h.length) h' x.2 v)
def Yn(A:AP)(h:Hs):Bool×List Val->Hs->List Val->Prop:=λx h' v=>ao A h' x.2 v/\(x.1=true->ao (Fr h.length) h' x.2 v)
def Vk(A:AP):FV->Hs->Val->Prop:=λx h' v=>DB A h' x.2 v
def JU(A:AP)(h:Hs):List Val->List Val->Prop
 |[],vs=>vs=[]
 |d::ds,vs=>∃v r,vs=v::r/\DB A h d v/\JU A h ds r
def ER(A:AP)(aa:bB)(env:Env)(h:Hs):Prop:=∀(i:Nat) (f:Mk) (d:Val),aa[i]?=some (some (f,d)) ->
 if kr f=false then ∃a,env[i]?=some (some (.ref a))/\OD A h d a else ∃v,env[i]?=some (some v)/\Dn A h d v
section
variable {A:AP} {h h1:Hs} {α β γ δ:Type}
theorem Up.ext(u:Up A h)(p:h<+:h1):Up A h1:=λk hk=>u k (aaD p.length_le hk)
theorem ER.ext(e:ER A aa env h)(p:h<+:h1):ER A aa env h1:=λi f d q=>by
 have:=e i f d q;revert this;generalize kr f=t;intro this;cases t with
 |false=>rw[aab rfl]at this |-;obtain⟨a,k2,k3⟩:=this;exact⟨a,k2,k3.ext p⟩
 |true=>rw[aad (by decide)]at this |-;obtain⟨v,k1,k2⟩:=this;exact⟨v,k1,k2.ext p⟩
theorem ah(r:Rel A h R (m h) p)(k:∀a h1 b,h<+:h1->R a h1 b->Rel A h1 R' (f b h1) (F a)):Rel A h R' (bnd m f h) (pb p F):=by
 unfold bnd;cases p with
 |ok a=>
  obtain⟨b,h1,e,q,r⟩:=r;rw[e];show Rel A h R' (f b h1) (F a);have:=k a h1 b q r;cases e2:F a with
  |ok c=>rw[e2]at this;obtain⟨d,h2,e3,q2,r2⟩:=this;exact⟨d,h2,e3,q.trans q2,r2⟩
  |exc c es=>rw[e2]at this;obtain⟨d,h2,e3,q2,r2⟩:=this;exact⟨d,h2,e3,q.trans q2,r2⟩
  |no=>trivial
 |exc c es=>obtain⟨ws,h1,e,q,r⟩:=r;rw[e];exact⟨ws,h1,rfl,q,r⟩
 |no=>trivial
theorem aE(r:R a h b):Rel A h R (ret b h) (.ok a):=⟨b,h,rfl,aaC _,r⟩
theorem bM(r:∀a,o=some a->∃b,o'=some b/\R a h b):Rel A h R (bI o' h) (pl o):=by
 cases o with
 |none=>trivial
 |some a=>obtain⟨b,rfl,q⟩:=r a rfl;exact⟨b,h,rfl,aaC _,q⟩
theorem bN(r:∀a,o=some a->∃b,f h=some b/\R a h b):Rel A h R (ask f h) (pl o):=bM r
theorem bQ{c c':Bool}(e:c=true->c'=true)(r:c=true->Rel A h R (m h) p):Rel A h R (aC c' m h) (pg c p):=by
 unfold aC pg;cases c with
 |true=>rw[aab (e rfl),aab rfl];exact r rfl
 |false=>rw[aad Z3];trivial
theorem yt(r:Rel A h R o p)(k:∀a h' b,h<+:h'->R a h' b->R' a h' b):Rel A h R' o p:=by
 cases p with
 |ok a=>obtain⟨b,h',e,q,r⟩:=r;exact⟨b,h',e,q,k a h' b q r⟩
 |exc c es=>exact r
 |no=>trivial
theorem bT(o:Ob):h<+:h++[o]:=aa0 _ _
theorem iZ(o:Ob):(h++[o])[h.length]?=some o:=by simp
theorem e9{f:Bool}{h0:Hs}(u:Up A h)(p:h0<+:h)(q:ao A h xs vs)(g:f=true->ao (Fr h0.length) h xs vs):Rel A h (RV A h0) (new (.lst vs) h) (.ok (f,.rl xs)):=by
 refine⟨_,_,rfl,bT _,?_,λhf=>?_⟩
 ·show Dn A _ (.rl xs) _;rw[Dn];exact .inr ⟨_,vs,rfl,u _ (aae _),iZ _,q.ext (bT _)⟩
 ·show Dn _ _ (.rl xs) _;rw[Dn];exact .inr ⟨_,vs,rfl,p.length_le,iZ _,(g hf).ext (bT _)⟩
theorem o7{h0:Hs}(q:Dn A h d v):RV A h0 (iS d,d) h v:=⟨q,λhi=>(dM d v hi).mpr ((dM d v hi).mp q)⟩
theorem f6(q:ao A h ds vs)(hi:bH ds=true):ao A' h' ds vs:=(aT ds vs hi).mpr ((aT ds vs hi).mp q)
theorem jC{i:Int}{h0:Hs}{f:Bool}:RV A h0 (f,.int i) h (.int i):=⟨by rw[Dn],λ_=>by rw[Dn]⟩
theorem sE{i:Bool}{h0:Hs}{f:Bool}:RV A h0 (f,.bl i) h (.bl i):=⟨by rw[Dn],λ_=>by rw[Dn]⟩
theorem N7{h0:Hs}{f:Bool}:RV A h0 (f,.str i) h (.str i):=⟨by rw[Dn],λ_=>by rw[Dn]⟩
theorem RV.br{h0:Hs}(r:RV A h0 x h v):Vk A x h v:=.inl r.1
theorem JV(ho:o≠.add)(v w:Val):(∃i j,v=.int i/\w=.int j)\/j4 o v w=.no:=by
 cases v with
 |int i=>
  cases w with
  |int j=>exact .inl ⟨i,j,rfl,rfl⟩
  |_=>right;cases o<;>first|rfl|exact absurd rfl ho
 |_=>right;cases o<;>first|rfl|exact absurd rfl ho
theorem JW{h0:Hs}(u:Up A h)(p:h0<+:h)(a:DB A h d v)(c:DB A h e w):Rel A h (RV A h0) (PC o v w h) (j4 o d e):=by
 have ii:o≠.add->(∃i j,d=.int i/\e=.int j)\/j4 o d e=.no:=λho=>JV ho d e;cases o with
 |add=>
  cases d<;>cases e<;>first|trivial|skip
  ·have:=a.int;subst this;have:=c.int;subst this;exact aE jC
  ·have:=a.str;subst this;have:=c.str;subst this;exact bQ (λz=>z) λ_=>aE N7
  ·rename_i xs ys
   obtain⟨vs,rfl,q1⟩:=a.tup;obtain⟨ws,rfl,q2⟩:=c.tup;have l1:=q1.length;have l2:=q2.length;refine bQ (λz=>?_) λ_=>aE ⟨?_,λhi=>?_⟩
   ·rw[l1,l2]at z
    have:xs.isEmpty=vs.isEmpty:=by cases xs<;>cases vs<;>simp_all
    rw[<-this];exact z
   ·show Dn A h (.tup _) _;rw[Dn];exact⟨_,rfl,q1.append q2⟩
   ·show Dn _ h (.tup _) _;rw[Dn];exact⟨_,rfl,f6 (q1.append q2) hi⟩
  ·rename_i xs ys
   obtain⟨vs,e1,q1⟩:=a.lst;obtain⟨ws,e2,q2⟩:=c.lst;have eb:PC .add v w=bnd (ask λh=>aG h v) λa=>bnd (ask λh=>aG h w) λb=>aC (decide (a.length+b.length<=sizeLine)) (new (.lst (a++b))):=by
    cases v<;>simp only[aG]at e1<;>first|(cases e1;done)|skip
    all_goals cases w<;>simp only[aG]at e2<;>first|(cases e2;done)|rfl
   have ev:PC .add v w h=aC (decide (vs.length+ws.length<=sizeLine)) (new (.lst (vs++ws))) h:=by rw[eb];unfold bnd ask bI;dsimp only;rw[e1];dsimp only;rw[e2]
   rw[ev];refine bQ (λz=>?_) λ_=>e9 u p (q1.append q2) λhi=>f6 (q1.append q2) hi;rw[<-q1.length,<-q2.length];exact z
 |_=>
  rcases ii (by intro z;cases z) with ⟨i,j,rfl,rfl⟩|z
  case inr=>rw[z];trivial
  have:=a.int;subst this;have:=c.int;subst this
  first
   |exact aE jC
   |exact bQ (λz=>z) λ_=>aE jC
theorem JX{lo hi:Option Int}{h0:Hs}(u:Up A h)(p:h0<+:h)(a:DB A h d v):Rel A h (RV A h0) (t9 v lo hi h) (CZ d lo hi):=by
 cases d with
 |tup ds=>
  obtain⟨vs,rfl,q⟩:=a.tup;have l:=q.length;simp only[CZ,t9];refine bQ (λz=>?_) λ_=>aE ⟨?_,λhi=>?_⟩
  ·rw[l]at z;exact z
  ·show Dn A h (.tup _) _;rw[Dn];exact⟨_,rfl,q.cut lo hi⟩
  ·show Dn _ h (.tup _) _;rw[Dn];exact⟨_,rfl,f6 (q.cut _ _) hi⟩
 |rl ds=>
  obtain⟨vs,e1,q⟩:=a.lst;have ev:t9 v lo hi h=new (.lst (cz vs lo hi)) h:=by
   have:t9 v lo hi=bnd (ask λh=>aG h v) λxs=>new (.lst (cz xs lo hi)):=by cases v<;>simp only[aG]at e1<;>first|(cases e1;done)|rfl
   rw[this];unfold bnd ask bI;dsimp only;rw[e1]
  rw[ev];exact e9 u p (q.cut lo hi) λhh=>f6 (q.cut lo hi) hh
 |_=>trivial
theorem JU.one(e:JU A h [d] vs):∃v,vs=[v]/\DB A h d v:=by
 obtain⟨v,r,rfl,a,b⟩:=e;cases (show r=[] from b);exact⟨v,rfl,a⟩
theorem sG:∀{ds:List Val} {ns:List Int},cC ds=some ns->bH ds=true
 |[],_,_=>rfl
 | d::ds,ns,e=>by
  simp only[cC,cO]at e;obtain⟨i,e1,e⟩:=Z4.mp e;obtain⟨is,e2,e⟩:=Z4.mp e;cases d<;>first|(cases e1;done)|skip
  rw[bH,iS,Bool.true_and];exact sG (show cC ds=some is from e2)
theorem yu:∀{ds:List Val} {ns:List (List Int)},lQ ds=some ns->bH ds=true
 |[],_,_=>rfl
 | d::ds,ns,e=>by
  simp only[lQ,cO]at e;obtain⟨i,e1,e⟩:=Z4.mp e;obtain⟨is,e2,e⟩:=Z4.mp e;cases d<;>first|(cases e1;done)|skip
  rename_i vs;dsimp only at e1;split at e1
  ·cases e1
  ·rw[bH,iS,sG e1,Bool.true_and];exact yu (show lQ ds=some is from e2)
theorem aV:∀ns:List Int,bH (ns.map .int)=true
 |[]=>rfl
 |n::ns=>by rw[aaf,bH,iS,Bool.true_and];exact aV ns
theorem nE:∀qC:List (List Int),bH (qC.map ni)=true
 |[]=>rfl
 |n::ns=>by rw[aaf,bH,ni,iS,aV,Bool.true_and];exact nE ns
theorem uS(e:dQ xs=some ys):bH xs=true/\bH ys=true:=by
 unfold dQ at e;split at e
 ·cases e2:cC xs with
  |some ns=>rw[e2]at e;cases e;exact⟨sG e2,aV _⟩
  |none=>rw[e2]at e;obtain⟨qC,e3,e4⟩:=Z4.mp e;cases e4;exact⟨yu e3,nE _⟩
 ·cases e
theorem JY{h0:Hs}(u:Up A h)(p:h0<+:h)(a:JU A h ds vs):Rel A h (RV A h0) (blt b vs h) (nC b ds):=by
 match ds,a with
 |[],a=>cases b<;>trivial
 |[d],a=>
  obtain⟨v,rfl,hv⟩:=a.one;cases b with
  |len=>exact ah (R:=λn _ m=>m=n) (bN λn e=>⟨n,N2 hv e,rfl⟩) λn h1 m _ e=>by subst e;exact aE jC
  |min=>cases d<;>trivial
  |max=>cases d<;>trivial
  |sorted=>
   cases d<;>first|trivial|skip
   rename_i xs;obtain⟨ws,e1,q⟩:=hv.lst;have ev:bnd (ask λh=>aG h v) (λxs=>bnd (bI (dQ xs)) λys=>new (.lst ys)) h=bnd (bI (dQ ws)) (λys=>new (.lst ys)) h:=by unfold bnd ask bI;dsimp only;rw[e1]
   show Rel A h (RV A h0) (bnd (ask λh=>aG h v) (λxs=>bnd (bI (dQ xs)) λys=>new (.lst ys)) h) _;rw[ev];refine ah (R:=λys _ zs=>zs=ys/\bH ys=true) (bM λys e=>?_) λys h1 zs q1 hz=>?_
   ·obtain⟨i1,i2⟩:=uS e;rw[(aT xs ws i1).mp q];exact⟨ys,e,rfl,i2⟩
   ·obtain⟨rfl,hi⟩:=hz;exact e9 (u.ext q1) (p.trans q1) ((aT _ _ hi).mpr rfl) λ_=>(aT _ _ hi).mpr rfl
  |list=>refine ah (R:=λxs h' ws=>ao A h' xs ws) (bN λxs e=>hv.seq e) λxs h1 ws q1 q=>?_;exact e9 (u.ext q1) (p.trans q1) q λhi=>f6 q hi
  |tuple=>trivial
  |str=>trivial
  |int=>
   cases d<;>first|trivial|skip
   ·have:=hv.bl;subst this;exact aE jC
   ·have:=hv.int;subst this;exact aE jC
  |all=>trivial
  |any=>trivial
  |isin T=>refine ah (R:=λn _ m=>m=n) (bN λn e=>⟨n,RJ hv e,rfl⟩) λn h1 m _ e=>?_;subst e;exact ah (R:=λn _ m=>m=n) (bM λn e=>⟨n,e,rfl⟩) λn h1 m _ e=>by subst e;exact aE sE
 |[d,e],a=>
  obtain⟨v,r,rfl,hv,hr⟩:=a;obtain⟨w,rfl,hw⟩:=JU.one hr;cases b<;>first|trivial|(cases d<;>trivial)|skip
  ·cases d<;>cases e<;>first|trivial|skip
   have:=hv.int;subst this;have:=hw.int;subst this;exact aE jC
  ·cases d<;>cases e<;>first|trivial|skip
   have:=hv.int;subst this;have:=hw.int;subst this;exact aE jC
 |x::y::z::t,a=>cases b<;>first|trivial|(cases x<;>trivial)|(cases x<;>cases y<;>trivial)
end
def Imp(φ:List Val->M Val)(ψ:List Val->Pr FV):Prop:=∀(A:AP) (h:Hs) (ds vs:List Val),Up A h->ao A h ds vs->Rel A h (RV A h) (φ vs h) (ψ ds)
section
variable {Φ:Nat->List Val->M Val} {Ψ:Nat->List Val->Pr FV} {A:AP} {h h1:Hs}
theorem gx{x y:Bool}(f:(x&&y)=true):x=true/\y=true:=Bool.and_eq_true_iff.mp f
theorem v8{x y z:Bool}(f:(x&&y&&z)=true):(x=true/\y=true)/\z=true:=⟨gx (gx f).1,(gx f).2⟩
def bZ(Φ:Nat->List Val->M Val)(Ψ:Nat->List Val->Pr FV)(ir:IE):Prop:=∀(aa:bB) (env:Env) (A:AP) (h:Hs),Up A h->ER A aa env h->Rel A h (RV A h) (az Φ ir env h) (bF Ψ ir aa)
def lG(Φ:Nat->List Val->M Val)(Ψ:Nat->List Val->Pr FV)(eN:ng):Prop:=(∀(aa:bB) (env:Env) (A:AP) (h:Hs),Up A h->ER A aa env h->Rel A h (Yn A h) (aK Φ eN env h) (vY Ψ eN aa)) /\
 ∀(aa:bB) (env:Env) (A:AP) (h:Hs),Up A h->ER A aa env h->Rel A h (λds h' vs=>JU A h' ds vs) (aK Φ eN env h) (gP Ψ eN aa)
theorem RV.up{h0 h':Hs}(p:h0<+:h)(r:RV A h x h' v):RV A h0 x h' v:=⟨r.1,λf=>(r.2 f).wid (Fr.le p.length_le)⟩
theorem Ft{h0:Hs}(p:h0<+:h)(r:Rel A h (RV A h) o x):Rel A h (RV A h0) o x:=yt r λ_ _ _ _ q=>q.up p
theorem RK{i:Nat}(e:ER A aa env h):Rel A h (Vk A) (az Φ (.var i) env h) (pl (gO aa (.var i))):=by
 rw[az];refine bM λx hx=>?_;simp only[gO]at hx;split at hx
 ·rename_i f d hd
  cases hx;have:=e i f d hd;revert this;generalize kr f=t;intro this;cases t with
  |false=>rw[aab rfl]at this;obtain⟨a,k2,k3⟩:=this;exact⟨.ref a,by rw[k2],.inr ⟨a,rfl,k3⟩⟩
  |true=>rw[aad (by decide)]at this;obtain⟨v,k1,k2⟩:=this;exact⟨v,by rw[k1],.inl k2⟩
 ·cases hx
theorem jD(o:bZ Φ Ψ ir)(u:Up A h)(e:ER A aa env h):Rel A h (Vk A) (az Φ ir env h) (if isVar ir=true then pl (gO aa ir) else bF Ψ ir aa):=by
 by_cases hv:isVar ir=true
 ·rw[aab hv];cases ir<;>first|(cases hv;done)|exact RK e
 ·rw[aad hv];exact yt (o aa env A h u e) λ_ _ _ _ q=>q.br
theorem JZ{α β:Type}{R:α -> Hs -> β -> Prop}{c:Bool}{o:Out β}{p:Pr α}(r:c=true->Rel A h R o p):Rel A h R o (pg c p):=by
 unfold pg;cases c with
 |true=>rw[aab rfl];exact r rfl
 |false=>rw[aad Z3];trivial
theorem v_var{i:Nat}:bZ Φ Ψ (.var i):=λaa env A h u e=>by
 rw[az,bF];cases hv:aa[i]? with
 |none=>trivial
 |some o=>
  cases o with
  |none=>trivial
  |some fd=>
   obtain⟨f,d⟩:=fd;refine JZ λhf=>?_
   ·have:=e i f d hv;rw[aad (by simp[hf])]at this;obtain⟨v,k1,k2⟩:=this;rw[k1];exact⟨v,h,rfl,aaC _,o7 k2⟩
theorem Bt{α:Type}{f:Hs->Option α}:ask f h=bnd (ask f) (λz=>ret z) h:=by unfold bnd ask bI;cases f h<;>rfl
theorem Bu(f:iS d=true):Dn A h d d:=(dM d d f).mpr rfl
theorem RL(f:iS d=true):bZ Φ Ψ (.cst d):=λaa env A h u e=>by rw[az,bF];exact aE (o7 (Bu f))
theorem RM(f:iS d=true):bZ Φ Ψ (.con x d):=λaa env A h u e=>by rw[az,bF];exact aE (o7 (Bu f))
theorem Vl:bZ Φ Ψ .no:=λaa env A h u e=>by rw[bF];trivial
theorem RP(ha:bZ Φ Ψ a)(hb:bZ Φ Ψ b):bZ Φ Ψ (.bin o a b):=λaa env A h u e=>by
 rw[az,bF];exact ah (jD ha u e) λx h1 v p1 q1=>ah (jD hb (u.ext p1) (e.ext p1)) λy h2 w p2 q2=>JW ((u.ext p1).ext p2) (p1.trans p2) (DB.ext p2 q1) q2
theorem RQ(ha:bZ Φ Ψ a):bZ Φ Ψ (.neg a):=λaa env A h u e=>by
 rw[az,bF];refine ah (ha aa env A h u e) λx h1 v p1 q1=>?_;obtain⟨f,d⟩:=x;have q:=q1.1;cases d<;>dsimp only<;>first|trivial|skip
 dsimp only at q;rw[Dn]at q;subst q;exact aE jC
theorem RS(ha:bZ Φ Ψ a)(hb:bZ Φ Ψ b):bZ Φ Ψ (.cmp o a b):=λaa env A h u e=>by
 rw[az,bF];exact ah (jD ha u e) λx h1 v p1 q1=>ah (jD hb (u.ext p1) (e.ext p1)) λy h2 w p2 q2=>
  ah (R:=λt _ t'=>t'=t) (bN λt et=>⟨t,N1 (DB.ext p2 q1) q2 et,rfl⟩) λt h3 t' p3 et=>by subst et;exact aE sE
theorem RT(ha:bZ Φ Ψ a)(hb:bZ Φ Ψ b)(hc:bZ Φ Ψ c):bZ Φ Ψ (.chn o o' a b c):=λaa env A h u e=>by rw[bF];trivial
theorem kD(q:Dn A h d v):Rel A h (λt _ t'=>t'=t) (rQ v h) (sy d):=by
 cases d<;>first|trivial|skip
 rw[Dn]at q;subst q;exact aE rfl
theorem v_and(ha:bZ Φ Ψ a)(hb:bZ Φ Ψ b):bZ Φ Ψ (.and a b):=λaa env A h u e=>by
 rw[az,bF];refine ah (ha aa env A h u e) λx h1 v p1 q1=>ah (kD q1.1) λt h2 t' p2 et=>?_;subst et;cases t' with
 |true=>rw[aab rfl,aab rfl];exact ah (hb aa env A h2 ((u.ext p1).ext p2) ((e.ext p1).ext p2)) λy h3 w p3 q3=>ah (kD q3.1) λt h2 t' p2 et=>by subst et;exact aE sE
 |false=>rw[aad Z3,aad Z3];exact aE sE
theorem v_or(ha:bZ Φ Ψ a)(hb:bZ Φ Ψ b):bZ Φ Ψ (.or a b):=λaa env A h u e=>by
 rw[az,bF];refine ah (ha aa env A h u e) λx h1 v p1 q1=>ah (kD q1.1) λt h2 t' p2 et=>?_;subst et;cases t' with
 |false=>rw[aad Z3,aad Z3];exact ah (hb aa env A h2 ((u.ext p1).ext p2) ((e.ext p1).ext p2)) λy h3 w p3 q3=>ah (kD q3.1) λt h2 t' p2 et=>by subst et;exact aE sE
 |true=>rw[aab rfl,aab rfl];exact aE sE
theorem v_not(ha:bZ Φ Ψ a):bZ Φ Ψ (.not a):=λaa env A h u e=>by
 rw[az,bF];exact ah (ha aa env A h u e) λx h1 v p1 q1=>ah (kD q1.1) λt h2 t' p2 et=>by subst et;exact aE sE
theorem v_ite(hc:bZ Φ Ψ c)(ha:bZ Φ Ψ a)(hb:bZ Φ Ψ b):bZ Φ Ψ (.ite c a b):=λaa env A h u e=>by rw[bF];trivial
theorem Lh:lG Φ Ψ .nil:=⟨λaa env A h u e=>by rw[aK,vY];exact aE ⟨ao.nil,λ_=>ao.nil⟩,λaa env A h u e=>by rw[aK,gP];exact aE rfl⟩
theorem Fv(he:bZ Φ Ψ e)(hs:lG Φ Ψ es):lG Φ Ψ (.cons e es):=by
 refine⟨λaa env A h u er=>?_,λaa env A h u er=>?_⟩
 ·rw[aK,vY]
  refine ah (he aa env A h u er) λx h1 v p1 q1=>ah (hs.1 aa env A h1 (u.ext p1) (er.ext p1)) λy h2 vs p2 q2=>?_;refine aE ⟨ao.cons (q1.1.ext p2) q2.1,λhf=>?_⟩;have hf':x.1=true/\y.1=true:=by simpa using hf
  exact ao.cons ((q1.2 hf'.1).ext p2) ((q2.2 hf'.2).wid (Fr.le p1.length_le))
 ·rw[aK,gP];refine ah (jD he u er) λx h1 v p1 q1=>ah (hs.2 aa env A h1 (u.ext p1) (er.ext p1)) λy h2 vs p2 q2=>?_;exact aE ⟨v,vs,rfl,DB.ext p2 q1,q2⟩
theorem RU(hs:lG Φ Ψ es):bZ Φ Ψ (.tup es):=λaa env A h u e=>by
 rw[az,bF];refine ah (hs.1 aa env A h u e) λx h1 vs p1 q1=>bQ (λz=>by rw[<-q1.1.length];exact z) λ_=>aE ⟨?_,λhf=>?_⟩
 ·show Dn A h1 (.tup _) _;rw[Dn];exact⟨vs,rfl,q1.1⟩
 ·show Dn _ h1 (.tup _) _;rw[Dn];exact⟨vs,rfl,q1.2 hf⟩
theorem N8:bZ Φ Ψ .dct0:=λaa env A h u e=>by
 rw[az,bF];refine⟨_,_,rfl,bT _,?_,λhf=>?_⟩
 ·show Dn A _ (.dc [] []) _;rw[Dn];exact⟨_,[],rfl,u _ (aae _),iZ _,rfl,ao.nil⟩
 ·show Dn _ _ (.dc [] []) _;rw[Dn];exact⟨_,[],rfl,aae _,iZ _,rfl,ao.nil⟩
theorem N9(hk:bZ Φ Ψ k)(hv:bZ Φ Ψ v):bZ Φ Ψ (.dct1 k v):=λaa env A h u e=>by
 rw[az,bF];refine ah (hk aa env A h u e) λx h1 w p1 q1=>ah (R:=λkk _ kk'=>kk'=kk) (bM λkk ek=>⟨kk,Ai q1.1 ek,rfl⟩) λkk h2 kk' p2 hkk=>?_;subst hkk;refine ah (hv aa env A h2 ((u.ext p1).ext p2) ((e.ext p1).ext p2)) λy h3 z p3 q3=>?_;have p:=(p1.trans p2).trans p3;refine⟨_,_,rfl,bT _,?_,λhf=>?_⟩
 ·show Dn A _ (.dc [kk'] [y.2]) _;rw[Dn];exact⟨_,[(kk',z)],rfl,u _ p.length_le,iZ _,rfl,ao.cons (q3.1.ext (bT _)) ao.nil⟩
 ·show Dn _ _ (.dc [kk'] [y.2]) _;rw[Dn];exact⟨_,[(kk',z)],rfl,p.length_le,iZ _,rfl,ao.cons (((q3.2 hf).wid (Fr.le (p1.trans p2).length_le)).ext (bT _)) ao.nil⟩
theorem Oa(hd:bZ Φ Ψ d)(hk:bZ Φ Ψ k)(hx:bZ Φ Ψ x):bZ Φ Ψ (.dget d k x):=λaa env A h u e=>by
 rw[az,bF];refine ah (jD hd u e) λo h1 v p1 q1=>ah (R:=λ_ _ _=>True) (bN λt et=>⟨t,JT q1 et,trivial⟩) λ_ h2 _ p2 _=>?_;refine ah (hk aa env A h2 ((u.ext p1).ext p2) ((e.ext p1).ext p2)) λi h3 w p3 q3=>ah (R:=λkk _ kk'=>kk'=kk) (bM λkk ek=>⟨kk,Ai q3.1 ek,rfl⟩) λkk h4 kk' p4 hkk=>?_;subst hkk;have Wz:=((p1.trans p2).trans p3).trans p4;refine ah (hx aa env A h4 (u.ext Wz) (e.ext Wz)) λz h5 z' p5 q5=>?_;refine ah (R:=λr h' r'=>∀a b,Dn A h5 a b->Dn A h' (r.getD a) (r'.getD b)) (bN λr er=>?_) λr h6 r' p6 hr=>aE (o7 (hr _ _ q5.1));obtain⟨r',e1,e2⟩:=N3 (DB.ext ((p2.trans p3).trans (p4.trans p5)) q1) er;exact⟨r',e1,e2⟩
theorem J0(hd:bZ Φ Ψ d):bZ Φ Ψ (.lkeys d):=λaa env A h u e=>by
 rw[az,bF];refine ah (jD hd u e) λo h1 v p1 q1=>ah (R:=λks _ ks'=>ks'=ks) (bN λks ek=>⟨ks,nD q1 ek,rfl⟩) λks h2 ks' p2 hk=>?_;subst hk;exact e9 ((u.ext p1).ext p2) (p1.trans p2) ((aT _ _ (kB ks')).mpr rfl) λ_=>(aT _ _ (kB ks')).mpr rfl
theorem J1(hd:bZ Φ Ψ d):bZ Φ Ψ (.skeys d):=λaa env A h u e=>by
 rw[az,bF];refine ah (jD hd u e) λo h1 v p1 q1=>ah (R:=λns _ ns'=>ns'=ns) (bN λns en=>⟨ns,?_,rfl⟩) λns h2 ns' p2 hk=>?_
 ·unfold mE at en |-;obtain⟨ks,e1,e2⟩:=Z4.mp en;rw[nD q1 e1];exact e2
 ·subst hk;exact e9 ((u.ext p1).ext p2) (p1.trans p2) ((aT _ _ (aV ns')).mpr rfl) λ_=>(aT _ _ (aV ns')).mpr rfl
theorem kE:∀{xs:List Val} {ns:List Int},cC xs=some ns->xs=ns.map .int
 |[],ns,e=>by cases e;rfl
 | x::xs,ns,e=>by
  unfold cC at e;rw[cO]at e;obtain⟨i,e1,e⟩:=Z4.mp e;obtain⟨r,e2,e⟩:=Z4.mp e;cases e;cases x<;>simp at e1;subst e1;rw[kE e2];rfl
theorem Oc{p q:Nat}(hd:bZ Φ Ψ d)(hw:bZ Φ Ψ w):bZ Φ Ψ (.dflt N' js p q d w):=λaa env A h u e=>by
 rw[az,bF];refine ah (jD hd u e) λo h1 v p1 q1=>ah (R:=λks _ ks'=>ks'=ks) (bN λks ek=>⟨ks,nD q1 ek,rfl⟩) λks h2 ks' p2 hk=>?_;subst hk;refine ah (jD hw ((u.ext p1).ext p2) ((e.ext p1).ext p2)) λx h3 z p3 q3=>ah (R:=λns _ ns'=>ns'=ns) (bN λns en=>⟨ns,?_,rfl⟩) λns h4 ns' p4 hk=>?_
 ·unfold AU at en |-
  obtain⟨Yo,e1,WA⟩:=Z4.mp en;obtain⟨xs,e2,WB⟩:=Z4.mp WA;obtain⟨ms,e3,Yp⟩:=Z4.mp WB;clear en WA WB;obtain⟨f,d⟩:=x;cases d<;>first|(cases e2;done)|skip
  cases e2;obtain⟨vs,e4,e5⟩:=DB.lst q3;rw[kE e3]at e5;rw[e1,e4,(aT _ _ (aV ms)).mp e5,<-kE e3];show ((cC _).bind _)=_;rw[e3];exact Yp
 ·subst hk;exact e9 ((((u.ext p1).ext p2).ext p3).ext p4) (((p1.trans p2).trans p3).trans p4) ((aT _ _ (aV ns')).mpr rfl) λ_=>(aT _ _ (aV ns')).mpr rfl
theorem RW(ha:bZ Φ Ψ a):bZ Φ Ψ (.isc a x bs):=λaa env A h u e=>by rw[bF];trivial
theorem Od(ha:bZ Φ Ψ a):bZ Φ Ψ (.sset a):=λaa env A h u e=>by
 rw[az,bF];refine ah (jD ha u e) λx h1 v p1 q1=>?_;obtain⟨f,d⟩:=x;cases d<;>first|trivial|skip
 rename_i xs;obtain⟨vs,e1,e2⟩:=DB.lst q1;have ea:∀(F:List Val->M Val),bnd (ask λh=>aG h v) F h1=F vs h1:=λF=>by unfold bnd ask bI;dsimp only;rw[e1]
 rw[ea];show Rel A h1 _ _ (pb (pl (cC xs)) _);refine ah (R:=λns h' ns'=>ns'=ns) (bM λns en=>⟨ns,?_,rfl⟩) λns h2 ns' p2 en=>?_
 ·have ei:=kE en;subst ei;rw[(aT _ _ (aV ns)).mp e2];exact en
 ·subst en;refine bQ (λz=>z) λ_=>?_;have hi:∀ms:List Int,ao A h2 (ms.map Val.int) (ms.map Val.int):=λms=>(aT _ _ (aV ms)).mpr rfl;exact e9 ((u.ext p1).ext p2) (p1.trans p2) (hi _) λ_=>(aT _ _ (aV _)).mpr rfl
theorem RX(hs:lG Φ Ψ es):bZ Φ Ψ (.lst es):=λaa env A h u e=>by
 rw[az,bF];exact ah (hs.1 aa env A h u e) λx h1 vs p1 q1=>bQ (λz=>by rw[<-q1.1.length];exact z) λ_=>e9 (u.ext p1) p1 q1.1 q1.2
theorem RY(ha:bZ Φ Ψ a)(hb:bZ Φ Ψ b):bZ Φ Ψ (.idx a b):=λaa env A h u e=>by
 rw[az,bF];refine ah (jD ha u e) λx h1 v p1 q1=>ah (hb aa env A h1 (u.ext p1) (e.ext p1)) λy h2 w p2 q2=>?_;rw[Bt];exact ah (R:=λz h' z'=>Dn A h' z z') (bN λz ez=>N4 (DB.ext p2 q1) q2.1 ez) λz h3 z' p3 q3=>aE (o7 q3)
theorem kF(o:bZ Φ Ψ ir)(u:Up A h)(e:ER A aa env h) :
  Rel A h (λ(t:Option Int) _ t'=>t'=t) ((if cM ir=true then ret none else bnd (az Φ ir env) λv=>bnd (bI (jO v)) λi=>ret (some i)) h) (if cM ir=true then .ok none else pb (bF Ψ ir aa) λv=>pb (pl (jO v.2)) λi=>.ok (some i)):=by
 by_cases hn:cM ir=true
 ·rw[aab hn,aab hn];exact aE rfl
 ·rw[aad hn,aad hn]
  refine ah (o aa env A h u e) λx h1 v p1 q1=>ah (R:=λt _ t'=>t'=t) (bM λi ei=>?_) λt h2 t' p2 et=>by subst et;exact aE rfl
  obtain⟨f,d⟩:=x;have q:=q1.1;cases d<;>first|(cases ei;done)|skip
  dsimp only at q;rw[Dn]at q;subst q;exact⟨i,ei,rfl⟩
theorem RZ(ha:bZ Φ Ψ a)(hl:bZ Φ Ψ lo)(hh:bZ Φ Ψ hi):bZ Φ Ψ (.slc a lo hi):=λaa env A h u e=>by
 rw[az,bF];refine ah (jD ha u e) λx h1 v p1 q1=>ah (kF hl (u.ext p1) (e.ext p1)) λl h2 l' p2 el=>ah (kF hh ((u.ext p1).ext p2) ((e.ext p1).ext p2)) λr h3 r' p3 er=>?_;subst el;subst er;exact JX (((u.ext p1).ext p2).ext p3) ((p1.trans p2).trans p3) (DB.ext (p2.trans p3) q1)
theorem R0(ha:bZ Φ Ψ a)(hs:bZ Φ Ψ sx):bZ Φ Ψ (.rev a sx):=λaa env A h u e=>by
 rw[az,bF];refine ah (jD ha u e) λx h1 v p1 q1=>ah (kF hs (u.ext p1) (e.ext p1)) λl h2 l' p2 el=>?_;subst el;refine bQ (λz=>z) λ_=>?_;obtain⟨f,d⟩:=x;cases d with
 |rl ds=>
  obtain⟨vs,e1,q⟩:=DB.lst (DB.ext p2 q1);have ev:bnd (ask λh=>aG h v) (λxs=>new (.lst xs.reverse)) h2=new (.lst vs.reverse) h2:=by unfold bnd ask bI;dsimp only;rw[e1]
  rw[ev];exact e9 ((u.ext p1).ext p2) (p1.trans p2) (ao.rev q) λhh=>f6 (ao.rev q) hh
 |_=>trivial
theorem Oe{j:Nat}(hΦ:∀j,Imp (Φ j) (Ψ j))(hs:lG Φ Ψ es):bZ Φ Ψ (.call j es):=λaa env A h u e=>by
 rw[az,bF];exact ah (hs.1 aa env A h u e) λx h1 vs p1 q1=>Ft p1 (hΦ j A h1 x.2 vs (u.ext p1) q1.1)
theorem R3{n:Nat}(ha:bZ Φ Ψ a):bZ Φ Ψ (.fld n a x):=λaa env A h u e=>by
 rw[az,bF];refine ah (jD ha u e) λo h1 v p1 q1=>?_;rw[Bt];exact ah (R:=λz h' z'=>Dn A h' z z') (bN λz ez=>N5 q1 ez) λz h3 z' p3 q3=>aE (o7 q3)
theorem R4(hΦ:∀j,Imp (Φ j) (Ψ j))(ha:bZ Φ Ψ a)(hs:lG Φ Ψ es):bZ Φ Ψ (.mth a m js es):=λaa env A h u e=>by
 rw[az,bF];refine ah (ha aa env A h u e) λo h1 v p1 q1=>ah (R:=λj _ j'=>j'=j) (bN λj ej=>⟨j,N6 (.inl q1.1) ej,rfl⟩) λj h2 j' p2 hj=>?_;subst hj;exact ah (hs.1 aa env A h2 ((u.ext p1).ext p2) ((e.ext p1).ext p2)) λx h3 vs p3 q3=>Ft ((p1.trans p2).trans p3) (hΦ j' A h3 (o.2::x.2) (v::vs) (((u.ext p1).ext p2).ext p3) (ao.cons (q1.1.ext (p2.trans p3)) q3.1))
theorem R5(hs:lG Φ Ψ es):bZ Φ Ψ (.blt b es):=λaa env A h u e=>by
 rw[az,bF];exact ah (hs.2 aa env A h u e) λx h1 vs p1 q1=>JY (u.ext p1) p1 q1
theorem R6(ha:bZ Φ Ψ a)(hs:lG Φ Ψ es):bZ Φ Ψ (.met m a es):=λaa env A h u e=>by
 cases m with
 |join=>rw[bF];trivial
 |_=>rw[bF]<;>first|trivial|(intro z;cases z)
def SrcR(A:AP)(h:Hs)(xs:List Val)(src:Src):Prop:=∃ws,ao A h xs ws/\∀h',h<+:h'->src.items h'=some ws
theorem lq{lo:Int}{n:Nat}:ao A h (cj lo n) (cj lo n):=by
 unfold cj;generalize List.range n=l
 induction l with
 |nil=>exact ao.nil
 |cons a l ih=>exact ao.cons (by rw[Dn]) ih
theorem ja:∀{xs ws:List Val} (i:Nat),ao A h xs ws->ao A h (cL i xs) (cL i ws)
 |[],ws,i,q=>by rw[ao]at q;subst q;exact ao.nil
 | x::xs,ws,i,q=>by
  rw[ao]at q;obtain⟨w,r,rfl,a,b⟩:=q;exact ao.cons (by rw[Dn];exact⟨_,rfl,ao.cons (by rw[Dn]) (ao.cons a ao.nil)⟩) (ja (i+1) b)
theorem Bv{ds vs:List Val}(a:DB A h (.rl ds) v):∃ws,ao A h ds ws/\((v=.rl ws)\/∃i,v=.ref i/\∀h',h<+:h'->aG h' (.ref i)=some ws):=by
 rcases a with a|⟨i,rfl,vs,g,q⟩
 ·rw[Dn]at a
  rcases a with ⟨vs,rfl,_,q⟩|⟨i,vs,rfl,_,g,q⟩
  ·exact⟨vs,q,.inl rfl⟩
  ·exact⟨vs,q,.inr ⟨i,rfl,λh' p=>by simp[aG,bL p g]⟩⟩
 ·exact⟨vs,q,.inr ⟨i,rfl,λh' p=>by simp[aG,bL p g]⟩⟩
theorem Bw(a:JU A h ds vs):Rel A h (λxs h' src=>SrcR A h' xs src) (bI (srcOf k vs) h) (pl (Fg k ds)):=by
 refine bM λxs e=>?_;cases k with
 |seq=>
  match ds,e with
  |[.tup es],e=>cases e;obtain⟨v,rfl,hv⟩:=a.one;obtain⟨ws,rfl,q⟩:=hv.tup;exact⟨.fix ws,rfl,ws,q,λ_ _=>rfl⟩
  |[.rl es],e=>
   cases e;obtain⟨v,rfl,hv⟩:=a.one;obtain⟨ws,q,rfl|⟨i,rfl,g⟩⟩:=Bv (vs:=[]) hv
   ·exact⟨.fix ws,rfl,ws,q,λ_ _=>rfl⟩
   ·exact⟨.live i,rfl,ws,q,λh' p=>g h' p⟩
 |range=>
  match ds,e with
  |[.int n],e=>
   obtain⟨v,rfl,hv⟩:=a.one;have:=hv.int;subst this;change (if inR n=true then some (cj 0 n.toNat) else none)=some _ at e;split at e
   ·rename_i hn;cases e;exact⟨.fix _,aab hn,_,lq,λ_ _=>rfl⟩
   ·cases e
  |[.int n,.int m],e=>
   obtain⟨v,r,rfl,hv,hr⟩:=a;obtain⟨w,rfl,hw⟩:=JU.one hr;have:=hv.int;subst this;have:=hw.int;subst this;change (if (inR n&&inR m)=true then some (cj n (m-n).toNat) else none)=some _ at e;split at e
   ·rename_i hn;cases e;exact⟨.fix _,aab hn,_,lq,λ_ _=>rfl⟩
   ·cases e
 |enum=>
  match ds,e with
  |[.rl es],e=>
   cases e;obtain⟨v,rfl,hv⟩:=a.one;obtain⟨ws,q,rfl|⟨i,rfl,g⟩⟩:=Bv (vs:=[]) hv
   ·exact⟨.fix _,rfl,_,ja 0 q,λ_ _=>rfl⟩
   ·exact⟨.enum i,rfl,_,ja 0 q,λh' p=>by simp[Src.items,g h' p]⟩
 |zip=>cases e
theorem Bx:∀{is:List Nat} {ds vs:List Val} {aa aQ:bB} {env:Env},cD is ds aa=some aQ->ao A h ds vs->ER A aa env h->(∀i∈is,i<aa.length->i<env.length)->∃env',bindAll is vs env=some env'/\ER A aQ env' h
 | [],[],vs,aa,aQ,env,e,q,er,_=>by
  rw[ao]at q;subst q;simp only[cD]at e;cases e;exact⟨env,rfl,er⟩
 | i::is,d::ds,vs,aa,aQ,env,e,q,er,hl=>by
  rw[ao]at q;obtain⟨v,r,rfl,q1,q2⟩:=q;simp only[cD]at e;have Yq:ER A (aa.set i (some (.sh,d))) (env.set i (some v)) h:=λj f d' hj=>by
   by_cases hij:i=j
   ·subst hij
    have hi:i<aa.length:=by have:=(Z8.mp hj).1;simpa using this
    rw[aah hi]at hj;cases hj;rw[aad (by decide)];exact⟨v,by rw[aah (hl i aaa hi)],q1⟩
   ·rw[Z6 hij]at hj;rw[Z6 hij];exact er j f d' hj
  simp only[bindAll];exact Bx e q2 Yq λj hj hl'=>by simpa using hl j (Z5 _ hj) (by simpa using hl')
 |[],_::_,_,_,_,_,e,_,_,_=>by simp[cD]at e
 |_::_,[],_,_,_,_,e,_,_,_=>by simp[cD]at e
theorem yv(e:dU p d aa=some aQ)(q:Dn A h d v)(er:ER A aa env h)(hl:aa.length<=env.length):∃env',fX p v env=some env'/\ER A aQ env' h:=by
 cases p with
 |one i=>
  simp only[dU]at e;cases e;refine⟨_,rfl,λj f d' hj=>?_⟩
  by_cases hij:i=j
  ·subst hij
   have hi:i<aa.length:=by have:=(Z8.mp hj).1;simpa using this
   rw[aah hi]at hj;cases hj;rw[aad (by decide)];exact⟨v,by rw[aah (by omega)],q⟩
  ·rw[Z6 hij]at hj;rw[Z6 hij];exact er j f d' hj
 |tup is=>
  cases d<;>simp only[dU]at e<;>first|(cases e;done)|skip
  rw[Dn]at q;obtain⟨vs,rfl,q⟩:=q;exact Bx e q er λi _ hi=>by omega
theorem By(e:ER A aa env h):ER A (jQ js aa) (ki js env) h:=λi f d q=>by
 unfold jQ at q;rw[aaB]at q;cases hj:js[i]? with
 |none=>rw[hj]at q;cases q
 |some o=>
  rw[hj]at q;simp only[map_some]at q;cases o with
  |none=>cases q
  |some j=>
   dsimp only at q;cases ej:aa[j]? with
   |none=>rw[ej]at q;cases q
   |some w=>
    cases w with
    |none=>rw[ej]at q;cases q
    |some fd=>
     rw[ej]at q;cases q;have:=e j f d ej;revert this;generalize kr f=t;intro this;cases t with
     |false=>rw[aab rfl]at this |-;obtain⟨a,k2,k3⟩:=this;refine⟨a,?_,k3⟩;unfold ki;rw[aaB,hj];simp only[map_some];rw[k2]
     |true=>rw[aad (by decide)]at this |-;obtain⟨v,k1,k2⟩:=this;refine⟨v,?_,k2⟩;unfold ki;rw[aaB,hj];simp only[map_some];rw[k1]
theorem sH :
  ∀(xs:List Val) (vs:List Val) (i:Nat) (acc:List Val) (h:Hs),hb<+:h->Up A h->(∀h',h<+:h'->src.items h'=some ws)->ws.drop i=vs->ao A h xs vs ->
   (∀x v h',h<+:h'->Dn A h' x v->Rel A h' (λo h'' o'=>match o,o' with|some e,some e'=>RV A hb e h'' e'|none,none=>True|_,_=>False) (f v h') (g x)) ->
   Rel A h (λp h' ys=>∃zs,ys=acc++zs/\ao A h' p.2 zs/\(p.1=true->ao (Fr hb.length) h' p.2 zs)) (fY src f vs.length i acc h) (jR g xs)
 | [],vs,i,acc,h,WC,u,hi,hd,q,hf=>by
  rw[ao]at q;subst q;have hl:ws.length<=i:=List.drop_eq_nil_iff.mp hd;have ev:fY src f ([]:List Val).length i acc h=.ok acc h:=by show fY src f 0 i acc h=_;simp only[fY];unfold bnd ask bI aC;dsimp only;rw[hi h (aaC _)];dsimp only;rw[aab (decide_eq_true hl)];rfl
  rw[ev,jR];exact⟨acc,h,rfl,aaC _,[],by simp,ao.nil,λ_=>ao.nil⟩
 | x::xs,vs,i,acc,h,WC,u,hi,hd,q,hf=>by
  rw[ao]at q;obtain⟨v,r,rfl,q1,q2⟩:=q;have hv:ws[i]?=some v:=by have:=congrArg (λl=>l[0]?) hd;simpa using this
  have hr:ws.drop (i+1)=r:=by
   have:ws.drop (i+1)=(ws.drop i).drop 1:=by rw[List.drop_drop]
   rw[this,hd];rfl
  have ev:fY src f (v::r).length i acc h=bnd (f v) (λo=>fY src f r.length (i+1) (match o with|some e=>acc++[e]|none=>acc)) h:=by show fY src f (r.length+1) i acc h=_;simp only[fY];unfold bnd ask bI;dsimp only;rw[hi h (aaC _)];dsimp only;rw[hv];try rfl
  rw[ev,jR];refine ah (hf x v h (aaC _) q1) λo h1 o' p1 ho=>?_;have ih:=λacc'=>sH xs r (i+1) acc' h1 (WC.trans p1) (u.ext p1) (λh' p=>hi h' (p1.trans p)) hr (q2.ext p1) λx v h' p=>hf x v h' (p1.trans p);cases o' with
  |some e'=>
   cases o with
   |none=>exact ho.elim
   |some e=>
    have ih:=ih (acc++[e']);cases e2:jR g xs with
    |ok p=>
     rw[e2]at ih;obtain⟨ys,h2,e3,p2,zs,rfl,z1,z2⟩:=ih;refine⟨_,h2,e3,p2,e'::zs,by simp,ao.cons (ho.1.ext p2) z1,λhp=>?_⟩;have WD:e.1=true/\p.1=true:=by simpa using hp
     exact ao.cons ((ho.2 WD.1).ext p2) (z2 WD.2)
    |exc c es=>rw[e2]at ih;exact ih
    |no=>trivial
  |none=>
   cases o with
   |some e'=>exact ho.elim
   |none=>
    have ih:=ih acc;cases e2:jR g xs with
    |ok p=>rw[e2]at ih;obtain⟨ys,h2,e3,p2,zs,rfl,z1,z2⟩:=ih;exact⟨_,h2,e3,p2,zs,rfl,z1,z2⟩
    |exc c es=>rw[e2]at ih;exact ih
    |no=>trivial
theorem Of(hs:lG Φ Ψ it)(hc:bZ Φ Ψ c)(he:bZ Φ Ψ elt):bZ Φ Ψ (.comp N js pat k it c elt):=λaa env A h u e=>by
 rw[az,bF];refine ah (hs.2 aa env A h u e) λds h1 vs p1 q1=>ah (Bw q1) λxs h2 src p2 q2=>?_;obtain⟨ws,q3,q4⟩:=q2;have l:=q3.length;have ev:∀(F:List Val->M Val),bnd (ask λh=>src.items h) F h2=F ws h2:=λF=>by unfold bnd ask bI;dsimp only;rw[q4 h2 (aaC _)]
 rw[ev];refine bQ (λz=>by rw[<-l];exact z) λ_=>?_;have u2:=(u.ext p1).ext p2;have e2:=(e.ext p1).ext p2;refine ah (sH (hb:=h) xs ws 0 [] h2 (p1.trans p2) u2 q4 rfl q3 λx v h' p' qx=>?_) λp h3 ys p3 hp=>?_
 ·refine ah (R:=λaQ _ env'=>∃_:ER A aQ env' h',True) (bM λaQ ev'=>?_) λaQ h4 env' p4 he'=>?_
  ·obtain⟨env',a1,a2⟩:=yv ev' qx (By (e2.ext p')) (by simp[jQ,ki]);exact⟨env',a1,a2,trivial⟩
  ·obtain⟨er,_⟩:=he'
   have er:=er.ext p4;have u4:=(u2.ext p').ext p4;have Rz:Rel A h4 (λt _ t'=>t'=t) ((if cM c=true then ret true else bnd (az Φ c env') λv=>ask λh=>bW h v) h4) (if cM c=true then .ok true else pb (bF Ψ c aQ) λv=>pl (bW [] v.2)):=by
    by_cases hn:cM c=true
    ·rw[aab hn,aab hn];exact aE rfl
    ·rw[aad hn,aad hn];exact ah (hc aQ env' A h4 u4 er) λy h5 w p5 q5=>bN λt et=>⟨t,v5 q5.br et,rfl⟩
   refine ah Rz λt h5 t' p5 et=>?_;subst et;cases t' with
   |true=>rw[aab rfl,aab rfl];exact ah (he aQ env' A h5 (u4.ext p5) (er.ext p5)) λy h6 w p6 q6=>aE (q6.up ((p1.trans p2).trans (p'.trans (p4.trans p5))))
   |false=>rw[aad Z3,aad Z3];exact aE trivial
 ·obtain⟨zs,rfl,z1,z2⟩:=hp;exact e9 (u2.ext p3) ((p1.trans p2).trans p3) z1 z2
mutual
noncomputable def dW:IE->Bool
 |.cst d=>iS d
 |.con _ d=>iS d
 |.bin _ a b=>dW a&&dW b
 |.neg a=>dW a
 |.cmp _ a b=>dW a&&dW b
 |.chn _ _ a b c=>dW a&&dW b&&dW c
 |.and a b=>dW a&&dW b
 |.or a b=>dW a&&dW b
 |.not a=>dW a
 |.ite a b c=>dW a&&dW b&&dW c
 |.tup es=>nF es
 |.lst es=>nF es
 |.idx a b=>dW a&&dW b
 |.slc a b c=>dW a&&dW b&&dW c
 |.call _ es=>nF es
 |.blt _ es=>nF es
 |.met _ a es=>dW a&&nF es
 |.comp _ _ _ _ es a b=>nF es&&dW a&&dW b
 |.var _=>true
 |.no=>true
 |.dct0=>true
 |.sset a=>dW a
 |.dget a b c=>dW a&&dW b&&dW c
 |.dct1 a b=>dW a&&dW b
 |.lkeys a=>dW a
 |.sdef ..=>false
 |.svals _=>false
 |.skeys a=>dW a
 |.fld _ a _=>dW a
 |.mth a _ _ es=>dW a&&nF es
 |.rev a b=>dW a&&dW b
 |.dflt _ _ _ _ a b=>dW a&&dW b
 |.isc a _ _=>dW a
noncomputable def nF:ng->Bool
 |.nil=>true
 |.cons e es=>dW e&&nF es
end
theorem v_all(hΦ:∀j,Imp (Φ j) (Ψ j)):(∀ir,dW ir=true->bZ Φ Ψ ir)/\∀eN,nF eN=true->lG Φ Ψ eN:=by
 have one:∀ir,dW ir=true->bZ Φ Ψ ir:=by
  intro ir;refine IE.rec (motive_1:=λir=>dW ir=true->bZ Φ Ψ ir) (motive_2:=λeN=>nF eN=true->lG Φ Ψ eN) ?_ ?_ ?_ ?_ ?_ ?_ ?_ ?_ ?_ ?_ ?_ ?_ ?_ ?_ ?_ ?_ ?_ ?_ ?_ ?_ ?_ ?_ ?_ ?_ ?_ ?_ ?_ ?_ ?_ ?_ ?_ ?_ ?_ ?_ ?_ ir
  ·exact λ_ _=>v_var
  ·exact λ_ f=>RL f
  ·exact λ_ _ f=>RM f
  ·exact λ_=>Vl
  ·intro _ _ _ a b f;have f:=gx f;exact RP (a f.1) (b f.2)
  ·intro _ a f;exact RQ (a f)
  ·intro _ _ _ a b f;have f:=gx f;exact RS (a f.1) (b f.2)
  ·intro _ _ _ _ _ a b c f;have f:=v8 f;exact RT (a f.1.1) (b f.1.2) (c f.2)
  ·intro _ _ a b f;have f:=gx f;exact v_and (a f.1) (b f.2)
  ·intro _ _ a b f;have f:=gx f;exact v_or (a f.1) (b f.2)
  ·intro _ a f;exact v_not (a f)
  ·intro _ _ _ a b c f;have f:=v8 f;exact v_ite (a f.1.1) (b f.1.2) (c f.2)
  ·intro _ a f;exact RU (a f)
  ·intro _ a f;exact RX (a f)
  ·intro _ _ a b f;have f:=gx f;exact RY (a f.1) (b f.2)
  ·intro _ _ _ a b c f;have f:=v8 f;exact RZ (a f.1.1) (b f.1.2) (c f.2)
  ·intro _ _ a f;exact Oe hΦ (a f)
  ·intro _ _ a f;exact R5 (a f)
  ·intro _ _ _ a b f;have f:=gx f;exact R6 (a f.1) (b f.2)
  ·intro _ _ _ _ _ _ _ a b c f;have f:=v8 f;exact Of (a f.1.1) (b f.1.2) (c f.2)
  ·exact λ_=>N8
  ·intro _ a f;exact Od (a f)
  ·intro _ _ _ a b c f;have f:=v8 f;exact Oa (a f.1.1) (b f.1.2) (c f.2)
  ·intro _ _ a b f;have f:=gx f;exact N9 (a f.1) (b f.2)
  ·intro _ a f;exact J0 (a f)
  ·intro _ _ _ _ _ _ f;exact nomatch (show false=true from f)
  ·intro _ _ f;exact nomatch (show false=true from f)
  ·intro _ a f;exact J1 (a f)
  ·intro _ _ _ a f;exact R3 (a f)
  ·intro _ _ _ _ a b f;have f:=gx f;exact R4 hΦ (a f.1) (b f.2)
  ·intro _ _ a b f;have f:=gx f;exact R0 (a f.1) (b f.2)
  ·intro _ _ _ _ _ _ a b f;have f:=gx f;exact Oc (a f.1) (b f.2)
  ·intro _ _ _ a f;exact RW (a f)
  ·exact λ_=>Lh
  ·intro _ _ a b f;have f:=gx f;exact Fv (a f.1) (b f.2)
 refine⟨one,λeN=>?_⟩
 induction eN using ng.rec (motive_1:=λ_=>True) with
 |nil=>exact λ_=>Lh
 |cons e es _ ih=>exact λf=>by have f:=gx f;exact Fv (one e f.1) (ih f.2)
 |_=>trivial
end
section
variable {A A':AP} {h h':Hs}
mutual
theorem Dn.move(hn:A none->A' none)(hh:∀(i:Nat) (o:Ob),A (some i)->h[i]?=some o->A' (some i)/\h'[i]?=some o):∀(d v:Val),Dn A h d v->Dn A' h' d v
 |.non,v,e=>by rw[Dn]at e |-;exact e
 |.bl _,v,e=>by rw[Dn]at e |-;exact e
 |.int _,v,e=>by rw[Dn]at e |-;exact e
 |.str _,v,e=>by rw[Dn]at e |-;exact e
 | .tup ds,v,e=>by
  rw[Dn]at e |-;obtain⟨vs,rfl,q⟩:=e;exact⟨vs,rfl,ao.move hn hh ds vs q⟩
 | .rl ds,v,e=>by
  rw[Dn]at e |-
  rcases e with ⟨vs,rfl,n,q⟩|⟨i,vs,rfl,a,g,q⟩
  ·exact .inl ⟨vs,rfl,hn n,ao.move hn hh ds vs q⟩
  ·exact .inr ⟨i,vs,rfl,(hh i _ a g).1,(hh i _ a g).2,ao.move hn hh ds vs q⟩
 | .dc ks ds,v,e=>by
  rw[Dn]at e |-;obtain⟨i,kvs,rfl,a,g,k,q⟩:=e;exact⟨i,kvs,rfl,(hh i _ a g).1,(hh i _ a g).2,k,ao.move hn hh ds _ q⟩
 | .ob c xs ds,v,e=>by
  rw[Dn]at e |-;obtain⟨i,kvs,rfl,a,g,k,q⟩:=e;exact⟨i,kvs,rfl,(hh i _ a g).1,(hh i _ a g).2,k,ao.move hn hh ds _ q⟩
 |.ref _,v,e=>by rw[Dn]at e;exact e.elim
theorem ao.move(hn:A none->A' none)(hh:∀(i:Nat) (o:Ob),A (some i)->h[i]?=some o->A' (some i)/\h'[i]?=some o):∀(ds vs:List Val),ao A h ds vs->ao A' h' ds vs
 |[],vs,e=>by rw[ao]at e |-;exact e
 | d::ds,vs,e=>by
  rw[ao]at e |-;obtain⟨v,r,rfl,q1,q2⟩:=e;exact⟨v,r,rfl,Dn.move hn hh d v q1,ao.move hn hh ds r q2⟩
end
end
def Al(A0:AP)(O:Nat->Option Nat):AP:=λo=>A0 o/\∀i,o.isSome=true->O i≠o
structure SR (A0:AP) (h0:Hs) (aa:bB) (env:Env) (h:Hs) (O:Nat->Option Nat):Prop where
 len:aa.length=env.length
 sh:∀(i:Nat) (m:Mk) (d:Val),aa[i]?=some (some (m,d))->kr m=true->∃v,env[i]?=some (some v)/\Dn (Al A0 O) h d v/\(PR m=true->Dn (Al (Fr h0.length) O) h d v)
 ow:∀(i:Nat) (d:Val),aa[i]?=some (some (.ow,d))->∃a,env[i]?=some (some (.ref a))/\O i=some a/\OD (Al A0 O) h d a
 own:∀i a,O i=some a->h0.length<=a/\a<h.length/\∃d,aa[i]?=some (some (.ow,d))
 inj:∀i j a,O i=some a->O j=some a->i=j
 pre:h0<+:h
 up:Up A0 h0
structure Fm (m:List Nat) (aa:bB) (env:Env) (h:Hs) (O:Nat->Option Nat) (aQ:bB) (env':Env) (h':Hs) (O':Nat->Option Nat):Prop where
 le:h.length<=h'.length
 keep:∀k,k<h.length->(∀i,O i≠some k)->h'[k]?=h[k]?/\∀i,O' i≠some k
 stay:∀i,i∉m->O' i=O i/\aQ[i]?=aa[i]?/\env'[i]?=env[i]?/\∀a,O i=some a->h'[a]?=h[a]?
def RF(A0:AP)(h0:Hs)(m:List Nat)(aa:bB)(env:Env)(h:Hs)(O:Nat->Option Nat):Fi->Hs->Fl->Prop
 |.nx aQ,h',.nx env'=>∃O',SR A0 h0 aQ env' h' O'/\Fm m aa env h O aQ env' h' O'
 |.bk aQ,h',.bk env'=>∃O',SR A0 h0 aQ env' h' O'/\Fm m aa env h O aQ env' h' O'
 |.ct aQ,h',.ct env'=>∃O',SR A0 h0 aQ env' h' O'/\Fm m aa env h O aQ env' h' O'
 |.rt p,h',.rt v=>Dn A0 h' p.2 v/\(p.1=true->Dn (Fr h0.length) h' p.2 v)/\h0<+:h'
 |_,_,_=>False
def gR(A0:AP)(h0:Hs){α β:Type}(R:α -> Hs -> β -> Prop)(o:Out β):Pr α -> Prop
 |.ok f=>∃g h',o=.ok g h'/\R f h' g
 |.exc c es=>∃ws h',o=.exc c ws h'/\h0<+:h'/\ao A0 h' es ws
 |.no=>True
section
variable {A0:AP} {h0:Hs} {aa:bB} {env:Env} {h h1:Hs} {O:Nat->Option Nat} {m:List Nat}
theorem SR.er(s:SR A0 h0 aa env h O):ER (Al A0 O) aa env h:=λi f d e=>by
 cases f with
 |ow=>rw[aab (show kr .ow=false by decide)];obtain⟨a,k2,_,k3⟩:=s.ow i d e;exact⟨a,k2,k3⟩
 |sh=>rw[aad (by decide)];obtain⟨v,k1,k2,_⟩:=s.sh i _ d e rfl;exact⟨v,k1,k2⟩
 |nw=>rw[aad (by decide)];obtain⟨v,k1,k2,_⟩:=s.sh i _ d e rfl;exact⟨v,k1,k2⟩
theorem SR.BA(s:SR A0 h0 aa env h O):Up (Al A0 O) h:=λk hk=>⟨s.up k (aaD s.pre.length_le hk),λi _ e=>by have:=(s.own i k e).2.1;omega⟩
theorem SR.ext(s:SR A0 h0 aa env h O)(p:h<+:h1):SR A0 h0 aa env h1 O where
 len:=s.len
 sh i m d e hm:=by obtain⟨v,k1,k2,k3⟩:=s.sh i m d e hm;exact⟨v,k1,k2.ext p,λz=>(k3 z).ext p⟩
 ow i d e:=by obtain⟨a,k2,k3,k4⟩:=s.ow i d e;exact⟨a,k2,k3,k4.ext p⟩
 own i a e:=by obtain⟨k1,k2,k3⟩:=s.own i a e;exact⟨k1,aan k2 p.length_le,k3⟩
 inj:=s.inj
 pre:=s.pre.trans p
 up:=s.up
theorem jb(p:h<+:h1){k:Nat}(hk:k<h.length):h1[k]?=h[k]?:=by
 obtain⟨t,rfl⟩:=p;rw[aam hk]
theorem Fm.refl(s:SR A0 h0 aa env h O)(p:h<+:h1):Fm m aa env h O aa env h1 O where
 le:=p.length_le
 keep k hk n:=⟨jb p hk,n⟩
 stay i _:=⟨rfl,rfl,rfl,λa e=>jb p (s.own i a e).2.1⟩
theorem Fm.trans{nG pY:bB}{gy mG:Env}{h2:Hs}{O1 O2:Nat->Option Nat}(a:Fm m aa env h O nG gy h1 O1)(b:Fm m nG gy h1 O1 pY mG h2 O2):Fm m aa env h O pY mG h2 O2 where
 le:=aaD a.le b.le
 keep k hk n:=by obtain⟨a1,a2⟩:=a.keep k hk n;obtain⟨b1,b2⟩:=b.keep k (aan hk a.le) a2;exact⟨b1.trans a1,b2⟩
 stay i hi:=by obtain⟨a1,a2,a3,a4⟩:=a.stay i hi;obtain⟨b1,b2,b3,b4⟩:=b.stay i hi;exact⟨b1.trans a1,b2.trans a2,b3.trans a3,λc e=>(b4 c (a1.trans e)).trans (a4 c e)⟩
theorem Fm.wid{m':List Nat}(hm:∀i∈m,i∈m')(a:Fm m aa env h O aQ env' h1 O'):Fm m' aa env h O aQ env' h1 O':=⟨a.le,a.keep,λi hi=>a.stay i λz=>hi (hm i z)⟩
theorem RF.pre(s:SR A0 h0 aa env h O)(p:h<+:h1)(r:RF A0 h0 m aa env h1 O f h' g):RF A0 h0 m aa env h O f h' g:=by
 cases f<;>cases g<;>first|exact r.elim|exact r|(obtain⟨O',a,b⟩:=r;exact⟨O',a,(Fm.refl s p).trans b⟩)
theorem RF.wid{m':List Nat}(hm:∀i∈m,i∈m')(r:RF A0 h0 m aa env h O f h' g):RF A0 h0 m' aa env h O f h' g:=by
 cases f<;>cases g<;>first|exact r.elim|exact r|(obtain⟨O',a,b⟩:=r;exact⟨O',a,b.wid hm⟩)
theorem RF.seq{nG:bB}{gy:Env}{O1:Nat->Option Nat}(a:Fm m aa env h O nG gy h1 O1)(r:RF A0 h0 m nG gy h1 O1 f h' g):RF A0 h0 m aa env h O f h' g:=by
 cases f<;>cases g<;>first|exact r.elim|exact r|(obtain⟨O',b,c⟩:=r;exact⟨O',b,a.trans c⟩)
theorem bK{α β γ δ:Type}{R:α -> Hs -> β -> Prop}{R':γ -> Hs -> δ -> Prop}{mm:M β}{f:β -> M δ}{p:Pr α}{F:α -> Pr γ}(s:SR A0 h0 aa env h O)(r:Rel (Al A0 O) h R (mm h) p)(k:∀a h1 b,h<+:h1->R a h1 b->gR A0 h0 R' (f b h1) (F a)):gR A0 h0 R' (bnd mm f h) (pb p F):=by
 unfold bnd;cases p with
 |ok a=>obtain⟨b,h1,e,q,r⟩:=r;rw[e];exact k a h1 b q r
 |exc c es=>obtain⟨ws,h1,e,q,r⟩:=r;rw[e];exact⟨ws,h1,rfl,s.pre.trans q,r.wid λ_ z=>z.1⟩
 |no=>trivial
theorem bq{α β:Type}{R:α -> Hs -> β -> Prop}{a:α}{b:β}(r:R a h b):gR A0 h0 R (ret b h) (.ok a):=⟨b,h,rfl,r⟩
theorem fK{α β:Type}{R R':α -> Hs -> β -> Prop}{o:Out β}{p:Pr α}(r:gR A0 h0 R o p)(k:∀a h' b,R a h' b->R' a h' b):gR A0 h0 R' o p:=by
 cases p with
 |ok a=>obtain⟨b,h',e,r⟩:=r;exact⟨b,h',e,k a h' b r⟩
 |exc c es=>exact r
 |no=>trivial
theorem nH{α β γ δ:Type}{R:α -> Hs -> β -> Prop}{R':γ -> Hs -> δ -> Prop}{mm:M β}{f:β -> M δ}{p:Pr α}{F:α -> Pr γ}(r:gR A0 h0 R (mm h) p)(k:∀a h1 b,R a h1 b->gR A0 h0 R' (f b h1) (F a)):gR A0 h0 R' (bnd mm f h) (pb p F):=by
 unfold bnd;cases p with
 |ok a=>obtain⟨b,h1,e,r⟩:=r;rw[e];exact k a h1 b r
 |exc c es=>obtain⟨ws,h1,e,q,r⟩:=r;rw[e];exact⟨ws,h1,rfl,q,r⟩
 |no=>trivial
theorem iz{α β:Type}{R:α -> Hs -> β -> Prop}{c:Bool}{o:Out β}{p:Pr α}(r:c=true->gR A0 h0 R o p):gR A0 h0 R o (pg c p):=by
 unfold pg;cases c with
 |true=>rw[aab rfl];exact r rfl
 |false=>rw[aad Z3];trivial
def gi(O:Nat->Option Nat)(i:Nat):Nat->Option Nat:=λj=>if j=i then none else O j
theorem qJ:Al A0 O none->Al A0 O none:=id
theorem kG:Al A0 O none->Al A0 O' none:=λh=>⟨h.1,λ_ z=>by cases z⟩
theorem jE{i:Nat}:∀k,Al A0 O k->Al A0 (gi O i) k:=λk ⟨a,b⟩=>⟨a,λj z=>by unfold gi;split;(cases k<;>simp_all);exact b j z⟩
theorem SR.setM(s:SR A0 h0 aa env h O){i:Nat}{mk:Mk}{d v:Val}(Yr:kr mk=true)(q:Dn (Al A0 O) h d v)(qn:PR mk=true->Dn (Al (Fr h0.length) O) h d v):SR A0 h0 (aa.set i (some (mk,d))) (env.set i (some v)) h (gi O i)/\Fm [i] aa env h O (aa.set i (some (mk,d))) (env.set i (some v)) h (gi O i):=by
 refine⟨⟨by simp[s.len],λj m' d' e hm'=>?_,λj d' e=>?_,λj a e=>?_,λj l a e1 e2=>?_,s.pre,s.up⟩,aae _,λk hk n=>⟨rfl,λj=>?_⟩,λj hj=>?_⟩
 ·by_cases hij:i=j
  ·subst hij
   have hi:i<aa.length:=by have:=(Z8.mp e).1;simpa using this
   rw[aah hi]at e;cases e;exact⟨v,by rw[aah (by rw[<-s.len];exact hi)],q.wid jE,λz=>(qn z).wid jE⟩
  ·rw[Z6 hij]at e;rw[Z6 hij];obtain⟨w,k1,k2,k3⟩:=s.sh j m' d' e hm';exact⟨w,k1,k2.wid jE,λz=>(k3 z).wid jE⟩
 ·by_cases hij:i=j
  ·subst hij
   have hi:i<aa.length:=by have:=(Z8.mp e).1;simpa using this
   rw[aah hi]at e;cases e;cases Yr
  ·rw[Z6 hij]at e;rw[Z6 hij];obtain⟨a,k2,k3,k4⟩:=s.ow j d' e;exact⟨a,k2,by unfold gi;rw[aad (λz=>hij z.symm)];exact k3,k4.mono (λ_ g=>g) λ_ _ z=>z.wid jE⟩
 ·unfold gi at e
  split at e
  ·cases e
  ·rename_i hj;obtain⟨k1,k2,d',k3⟩:=s.own j a e;exact⟨k1,k2,d',by rw[Z6 (λz=>hj z.symm)];exact k3⟩
 ·unfold gi at e1 e2
  split at e1
  ·cases e1
  ·split at e2
   ·cases e2
   ·exact s.inj j l a e1 e2
 ·unfold gi;split;simp;exact n j
 ·have hj':j≠i:=by simpa using hj
  exact⟨by unfold gi;rw[aad hj'],Z6 (λz=>hj' z.symm),Z6 (λz=>hj' z.symm),λ_ _=>rfl⟩
theorem SR.set(s:SR A0 h0 aa env h O){i:Nat}(q:Dn (Al A0 O) h d v):SR A0 h0 (aa.set i (some (.sh,d))) (env.set i (some v)) h (gi O i)/\Fm [i] aa env h O (aa.set i (some (.sh,d))) (env.set i (some v)) h (gi O i):=s.setM rfl q λz=>nomatch z
theorem SR.binds:∀{is:List Nat} {ds vs:List Val} {aa:bB} {env:Env} {O:Nat->Option Nat} {aQ:bB},SR A0 h0 aa env h O->cD is ds aa=some aQ->ao (Al A0 O) h ds vs ->
  ∃env' O',bindAll is vs env=some env'/\SR A0 h0 aQ env' h O'/\Fm is aa env h O aQ env' h O'
 | [],[],vs,aa,env,O,aQ,s,e,q=>by
  rw[ao]at q;subst q;simp only[cD]at e;cases e;exact⟨env,O,rfl,s,Fm.refl s (aaC _)⟩
 | i::is,d::ds,vs,aa,env,O,aQ,s,e,q=>by
  rw[ao]at q;obtain⟨v,r,rfl,q1,q2⟩:=q;simp only[cD]at e;obtain⟨s1,f1⟩:=s.set (i:=i) q1;obtain⟨env',O',b1,b2,b3⟩:=SR.binds s1 e (q2.wid jE);refine⟨env',O',by simp only[bindAll];exact b1,b2,(f1.wid λj hj=>?_).trans (b3.wid λj hj=>Z5 _ hj)⟩;rw[aaj.mp hj];exact aaa
 |[],_::_,_,_,_,_,_,_,e,_=>by simp[cD]at e
 |_::_,[],_,_,_,_,_,_,e,_=>by simp[cD]at e
theorem SR.bind(s:SR A0 h0 aa env h O)(e:dU p d aa=some aQ)(q:Dn (Al A0 O) h d v):∃env' O',fX p v env=some env'/\SR A0 h0 aQ env' h O'/\Fm (stored p) aa env h O aQ env' h O':=by
 cases p with
 |one i=>simp only[dU]at e;cases e;obtain⟨s1,f1⟩:=s.set (i:=i) q;exact⟨_,_,rfl,s1,f1⟩
 |tup is=>
  cases d<;>simp only[dU]at e<;>first|(cases e;done)|skip
  rw[Dn]at q;obtain⟨vs,rfl,q⟩:=q;exact s.binds e q
theorem BB{a:Nat}(p:h0<+:h)(ha:h0.length<=a):h0<+:h.set a o:=by
 obtain⟨t,rfl⟩:=p;rw[List.set_append_right _ _ ha];exact aa0 _ _
theorem SR.put(s:SR A0 h0 aa env h O){i a:Nat}{d d1:Val}(e:aa[i]?=some (some (.ow,d)))(ha:O i=some a)(q:OB (Al A0 O) h d1 ob) :
  SR A0 h0 (aa.set i (some (.ow,d1))) env (h.set a ob) O/\Fm [i] aa env h O (aa.set i (some (.ow,d1))) env (h.set a ob) O:=by
 obtain⟨o1,o2,_⟩:=s.own i a ha;have hi:i<aa.length:=(Z8.mp e).1;have mv:∀{A0:AP} (k:Nat) (o:Ob),Al A0 O k->h[k]?=some o->Al A0 O k/\(h.set a ob)[k]?=some o:=λk o hk g=>⟨hk,by rw[Z6 λz=>hk.2 i rfl (by rw[<-z];exact ha)];exact g⟩;obtain⟨a0,e2,e3,_⟩:=s.ow i d e;refine⟨⟨by simp[s.len],λj m' d' ej hm'=>?_,λj d' ej=>?_,λj b ej=>?_,s.inj,BB s.pre o1,s.up⟩,by simp,λk hk n=>⟨?_,n⟩,λj hj=>?_⟩
 ·by_cases hij:i=j
  ·subst hij;rw[aah hi]at ej;cases ej;cases hm'
  ·rw[Z6 hij]at ej;obtain⟨w,k1,k2,k3⟩:=s.sh j m' d' ej hm';exact⟨w,k1,Dn.move qJ mv _ _ k2,λz=>Dn.move qJ mv _ _ (k3 z)⟩
 ·by_cases hij:i=j
  ·subst hij;rw[aah hi]at ej;cases ej;rw[ha]at e3;cases e3;exact⟨a,e2,ha,q.od (by rw[aah o2]) λ_ _ z=>ao.move qJ mv _ _ z⟩
  ·rw[Z6 hij]at ej;obtain⟨a1,k2,k3,k4⟩:=s.ow j d' ej;have:a≠a1:=λz=>hij (s.inj i j a ha (by rw[z];exact k3));exact⟨a1,k2,k3,k4.mono (λ_ g=>by rw[Z6 this];exact g) λ_ _ z=>ao.move qJ mv _ _ z⟩
 ·obtain⟨k1,k2,d',k3⟩:=s.own j b ej
  refine⟨k1,by simp[k2],?_⟩
  by_cases hij:i=j
  ·subst hij;exact⟨_,by rw[aah hi]⟩
  ·exact⟨d',by rw[Z6 hij];exact k3⟩
 ·rw[Z6 λz=>n i (by rw[<-z];exact ha)]
 ·have hj':j≠i:=by simpa using hj
  exact⟨rfl,Z6 (λz=>hj' z.symm),rfl,λb eb=>by rw[Z6 λz=>hj' (s.inj j i b eb (by rw[<-z];exact ha))]⟩
def uc(O:Nat->Option Nat)(i a:Nat):Nat->Option Nat:=λj=>if j=i then some a else O j
theorem SR.fresh(s:SR A0 h0 aa env h O){i:Nat}{d1:Val}{h2:Hs}(p:h<+:h2)(q:OB (Al A0 O) h2 d1 ob) :
  SR A0 h0 (aa.set i (some (.ow,d1))) (env.set i (some (.ref h2.length))) (h2++[ob]) (if i<aa.length then uc O i h2.length else gi O i) /\
   Fm [i] aa env h O (aa.set i (some (.ow,d1))) (env.set i (some (.ref h2.length))) (h2++[ob]) (if i<aa.length then uc O i h2.length else gi O i):=by
 have pp:h<+:h2++[ob]:=p.trans (aa0 _ _);have s2:=s.ext p;have mv:∀{A0:AP} (j:Nat),∀(k:Nat) (o:Ob),Al A0 O k->h2[k]?=some o->Al A0 (if i<aa.length then uc O i h2.length else gi O i) k/\(h2++[ob])[k]?=some o:=λ{A0} j k o hk g=>by
  have hlt:k<h2.length:=(Z8.mp g).1;refine⟨?_,by rw[aam hlt];exact g⟩
  split
  ·refine⟨hk.1,λl _=>?_⟩
   unfold uc
   split
   ·intro z;cases z;omega
   ·exact hk.2 l rfl
  ·exact jE k hk
 by_cases hi:i<aa.length
 ·rw[aab hi]at mv |-
  refine⟨⟨by simp[s.len],λj m' d' ej hm'=>?_,λj d' ej=>?_,λj b ej=>?_,λj l b e1 e2=>?_,s.pre.trans pp,s.up⟩,pp.length_le,λk hk n=>⟨jb pp hk,λl=>?_⟩,λj hj=>?_⟩
  ·by_cases hij:i=j
   ·subst hij;rw[aah hi]at ej;cases ej;cases hm'
   ·rw[Z6 hij]at ej;rw[Z6 hij];obtain⟨w,k1,k2,k3⟩:=s2.sh j m' d' ej hm';exact⟨w,k1,Dn.move kG (mv 0) _ _ k2,λz=>Dn.move kG (mv 0) _ _ (k3 z)⟩
  ·by_cases hij:i=j
   ·subst hij;rw[aah hi]at ej;cases ej;exact⟨h2.length,by rw[aah (by rw[<-s.len];exact hi)],by unfold uc;rw[aab rfl],q.od (by simp) λ_ _ z=>ao.move kG (mv 0) _ _ z⟩
   ·rw[Z6 hij]at ej;rw[Z6 hij];obtain⟨a1,k2,k3,k4⟩:=s2.ow j d' ej;have hlt:a1<h2.length:=k4.lt;exact⟨a1,k2,by unfold uc;rw[aad λz=>hij z.symm];exact k3,k4.mono (λ_ g=>by rw[aam hlt];exact g) λ_ _ z=>ao.move kG (mv 0) _ _ z⟩
  ·unfold uc at ej
   split at ej
   ·rename_i hj;cases ej;subst hj;exact⟨aaD s.pre.length_le p.length_le,by simp,_,by rw[aah hi]⟩
   ·rename_i hj;obtain⟨k1,k2,d',k3⟩:=s2.own j b ej;exact⟨k1,by simp;omega,d',by rw[Z6 λz=>hj z.symm];exact k3⟩
  ·unfold uc at e1 e2
   split at e1
   ·rename_i h1;cases e1
    split at e2
    ·rename_i h3;rw[h1,h3]
    ·have:=(s2.own l _ e2).2.1;omega
   ·split at e2
    ·cases e2;have:=(s2.own j _ e1).2.1;omega
    ·exact s.inj j l b e1 e2
  ·unfold uc;split
   ·intro z;cases z;have:=p.length_le;omega
   ·exact n l
  ·have hj':j≠i:=by simpa using hj
   exact⟨by unfold uc;rw[aad hj'],Z6 (λz=>hj' z.symm),Z6 (λz=>hj' z.symm),λb eb=>jb pp (s.own j b eb).2.1⟩
 ·rw[aad hi]at mv |-
  have e1:aa.set i (some (.ow,d1))=aa:=List.set_eq_of_length_le (by omega);have e2:env.set i (some (.ref h2.length))=env:=List.set_eq_of_length_le (by rw[<-s.len];omega);have e3:gi O i=O:=by
   funext j;unfold gi;split
   ·rename_i hj;subst hj
    cases e:O j with
    |none=>rfl
    |some a=>obtain⟨_,_,d,k⟩:=s.own j a e;exact absurd (Z8.mp k).1 hi
   ·rfl
  rw[e1,e2,e3];exact⟨s.ext pp,Fm.refl s pp⟩
end
section
variable {Φ:Nat->List Val->M Val} {Ψ:Nat->List Val->Pr FV} {A:AP} {h h1:Hs}
def isRef:Val->Bool
 |.rl _=>true
 |.dc _ _=>true
 |_=>false
def RN(A:AP)(h:Hs):FV->Hs->Val->Prop:=λx h' v=>isRef x.2=true->∃h2 o,h'=h2++[o]/\v=.ref h2.length/\h<+:h2/\OB A h2 x.2 o
def J2(Φ:Nat->List Val->M Val)(Ψ:Nat->List Val->Pr FV)(ir:IE):Prop:=∀(aa:bB) (env:Env) (A:AP) (h:Hs),Up A h->ER A aa env h->Rel A h (RN A h) (az Φ ir env h) (bF Ψ ir aa)
theorem jc{f:Bool}{h0:Hs}(p:h0<+:h)(q:ao A h xs vs):Rel A h (RN A h0) (new (.lst vs) h) (.ok (f,.rl xs)) :=
 ⟨_,_,rfl,bT _,λ_=>⟨h,.lst vs,rfl,rfl,p,vs,rfl,q⟩⟩
theorem Og:J2 Φ Ψ .dct0:=λaa env A h u e=>by
 rw[az,bF];exact⟨_,_,rfl,bT _,λ_=>⟨h,.dct [],rfl,rfl,aaC _,[],rfl,rfl,ao.nil⟩⟩
theorem Oh(hk:bZ Φ Ψ k)(hv:bZ Φ Ψ v):J2 Φ Ψ (.dct1 k v):=λaa env A h u e=>by
 rw[az,bF];refine ah (hk aa env A h u e) λx h1 w p1 q1=>ah (R:=λkk _ kk'=>kk'=kk) (bM λkk ek=>⟨kk,Ai q1.1 ek,rfl⟩) λkk h2 kk' p2 hkk=>?_;subst hkk;refine ah (hv aa env A h2 ((u.ext p1).ext p2) ((e.ext p1).ext p2)) λy h3 z p3 q3=>?_;exact⟨_,_,rfl,bT _,λ_=>⟨h3,.dct [(kk',z)],rfl,rfl,(p1.trans p2).trans p3,[(kk',z)],rfl,rfl,ao.cons q3.1 ao.nil⟩⟩
theorem J3(hd:bZ Φ Ψ d):J2 Φ Ψ (.lkeys d):=λaa env A h u e=>by
 rw[az,bF];refine ah (jD hd u e) λo h1 v p1 q1=>ah (R:=λks _ ks'=>ks'=ks) (bN λks ek=>⟨ks,nD q1 ek,rfl⟩) λks h2 ks' p2 hk=>?_;subst hk;exact jc (p1.trans p2) ((aT _ _ (kB ks')).mpr rfl)
theorem R7(hs:lG Φ Ψ es):J2 Φ Ψ (.lst es):=λaa env A h u e=>by
 rw[az,bF];exact ah (hs.1 aa env A h u e) λx h1 vs p1 q1=>bQ (λz=>by rw[<-q1.1.length];exact z) λ_=>jc p1 q1.1
theorem R8(ha:bZ Φ Ψ a)(hl:bZ Φ Ψ lo)(hh:bZ Φ Ψ hi):J2 Φ Ψ (.slc a lo hi):=λaa env A h u e=>by
 rw[az,bF];refine ah (jD ha u e) λx h1 v p1 q1=>ah (kF hl (u.ext p1) (e.ext p1)) λl h2 l' p2 el=>ah (kF hh ((u.ext p1).ext p2) ((e.ext p1).ext p2)) λr h3 r' p3 er=>?_;subst el;subst er;have q1:=DB.ext (p2.trans p3) q1;obtain⟨f,d⟩:=x;cases d with
 |tup ds=>obtain⟨vs,rfl,q⟩:=DB.tup q1;have l:=q.length;simp only[CZ,t9];exact bQ (λz=>by rw[l]at z;exact z) λ_=>aE λe=>by cases e
 |rl ds=>
  obtain⟨vs,e1,q⟩:=DB.lst q1;have ev:t9 v l' r' h3=new (.lst (cz vs l' r')) h3:=by
   have:t9 v l' r'=bnd (ask λh=>aG h v) λxs=>new (.lst (cz xs l' r')):=by cases v<;>simp only[aG]at e1<;>first|(cases e1;done)|rfl
   rw[this];unfold bnd ask bI;dsimp only;rw[e1]
  rw[ev];exact jc ((p1.trans p2).trans p3) (q.cut l' r')
 |_=>trivial
theorem Oi(hs:lG Φ Ψ es):J2 Φ Ψ (.blt .list es):=λaa env A h u e=>by
 rw[az,bF];refine ah (hs.2 aa env A h u e) λds h1 vs p1 q1=>?_
 match ds,q1 with
 |[],q1=>trivial
 |[d],q1=>obtain⟨v,rfl,hv⟩:=q1.one;exact ah (R:=λxs h' ws=>ao A h' xs ws) (bN λxs e=>hv.seq e) λxs h2 ws p2 q=>jc (p1.trans p2) q
 |_::_::_,_=>trivial
theorem Fw(hs:lG Φ Ψ es):J2 Φ Ψ (.blt .sorted es):=λaa env A h u e=>by
 rw[az,bF];refine ah (hs.2 aa env A h u e) λds h1 vs p1 q1=>?_
 match ds,q1 with
 |[],q1=>trivial
 |[d],q1=>
  obtain⟨v,rfl,hv⟩:=q1.one;cases d<;>first|trivial|skip
  rename_i xs;obtain⟨ws,e1,q⟩:=hv.lst;have ev:bnd (ask λh=>aG h v) (λxs=>bnd (bI (dQ xs)) λys=>new (.lst ys)) h1=bnd (bI (dQ ws)) (λys=>new (.lst ys)) h1:=by unfold bnd ask bI;dsimp only;rw[e1]
  show Rel A h1 (RN A h) (bnd (ask λh=>aG h v) (λxs=>bnd (bI (dQ xs)) λys=>new (.lst ys)) h1) _;rw[ev];refine ah (R:=λys _ zs=>zs=ys/\bH ys=true) (bM λys e=>?_) λys h2 zs p2 hz=>?_
  ·obtain⟨i1,i2⟩:=uS e;rw[(aT xs ws i1).mp q];exact⟨ys,e,rfl,i2⟩
  ·obtain⟨rfl,hi⟩:=hz;exact jc (p1.trans p2) ((aT _ _ hi).mpr rfl)
 |x::_::_,_=>cases x<;>trivial
theorem Oj(hs:lG Φ Ψ it)(hc:bZ Φ Ψ c)(he:bZ Φ Ψ elt):J2 Φ Ψ (.comp N js pat k it c elt):=λaa env A h u e=>by
 rw[az,bF];refine ah (hs.2 aa env A h u e) λds h1 vs p1 q1=>ah (Bw q1) λxs h2 src p2 q2=>?_;obtain⟨ws,q3,q4⟩:=q2;have l:=q3.length;have ev:∀(F:List Val->M Val),bnd (ask λh=>src.items h) F h2=F ws h2:=λF=>by unfold bnd ask bI;dsimp only;rw[q4 h2 (aaC _)]
 rw[ev];refine bQ (λz=>by rw[<-l];exact z) λ_=>?_;have u2:=(u.ext p1).ext p2;have e2:=(e.ext p1).ext p2;refine ah (sH (hb:=h) xs ws 0 [] h2 (p1.trans p2) u2 q4 rfl q3 λx v h' p' qx=>?_) λp h3 ys p3 hp=>?_
 ·refine ah (R:=λaQ _ env'=>∃_:ER A aQ env' h',True) (bM λaQ ev'=>?_) λaQ h4 env' p4 he'=>?_
  ·obtain⟨env',a1,a2⟩:=yv ev' qx (By (e2.ext p')) (by simp[jQ,ki]);exact⟨env',a1,a2,trivial⟩
  ·obtain⟨er,_⟩:=he'
   have er:=er.ext p4;have u4:=(u2.ext p').ext p4;have Rz:Rel A h4 (λt _ t'=>t'=t) ((if cM c=true then ret true else bnd (az Φ c env') λv=>ask λh=>bW h v) h4) (if cM c=true then .ok true else pb (bF Ψ c aQ) λv=>pl (bW [] v.2)):=by
    by_cases hn:cM c=true
    ·rw[aab hn,aab hn];exact aE rfl
    ·rw[aad hn,aad hn];exact ah (hc aQ env' A h4 u4 er) λy h5 w p5 q5=>bN λt et=>⟨t,v5 q5.br et,rfl⟩
   refine ah Rz λt h5 t' p5 et=>?_;subst et;cases t' with
   |true=>rw[aab rfl,aab rfl];exact ah (he aQ env' A h5 (u4.ext p5) (er.ext p5)) λy h6 w p6 q6=>aE (q6.up ((p1.trans p2).trans (p'.trans (p4.trans p5))))
   |false=>rw[aad Z3,aad Z3];exact aE trivial
 ·obtain⟨zs,rfl,z1,z2⟩:=hp;exact jc ((p1.trans p2).trans p3) z1
theorem R9(hΦ:∀j,Imp (Φ j) (Ψ j))(hf:Vj e=true)(ho:dW e=true):J2 Φ Ψ e:=by
 have V:=v_all hΦ;cases e<;>first|(cases hf;done)|skip
 ·exact R7 (V.2 _ ho)
 ·have ho:=v8 ho;exact R8 (V.1 _ ho.1.1) (V.1 _ ho.1.2) (V.1 _ ho.2)
 ·rename_i b es
  change nF _=true at ho;cases b<;>first|(cases hf;done)|skip
  ·exact Fw (V.2 _ ho)
  ·exact Oi (V.2 _ ho)
 ·have ho:=v8 ho;exact Oj (V.2 _ ho.1.1) (V.1 _ ho.1.2) (V.1 _ ho.2)
 ·exact Og
 ·have ho:=gx ho;exact Oh (V.1 _ ho.1) (V.1 _ ho.2)
 ·exact J3 (V.1 _ ho)
mutual
noncomputable def WE:IS->Bool
 |.expr e=>dW e
 |.asg _ e=>dW e
 |.aug _ _ e=>dW e
 |.fD o i v=>dW o&&dW i&&dW v
 |.iff c a b=>dW c&&yw a&&yw b
 |.for _ _ it b=>nF it&&yw b
 |.whl _ c b=>dW c&&yw b
 |.ret e=>dW e
 |_=>true
noncomputable def yw:dP->Bool
 |.nil=>true
 |.cons s r=>WE s&&yw r
end
def mS(s:IS):List Nat:=sD s++o6 s
def J4(s:dP):List Nat:=iY s++lT s
variable {ms:List Nat}
def BC(Φ:Nat->List Val->M Val)(Ψ:Nat->List Val->Pr FV)(ms:List Nat)(s:IS):Prop:=∀(A0:AP) (h0:Hs) (aa:bB) (env:Env) (h:Hs) (O:Nat->Option Nat),SR A0 h0 aa env h O->gR A0 h0 (RF A0 h0 (mS s) aa env h O) (dH Φ s env h) (bx Ψ ms s aa)
def v9(Φ:Nat->List Val->M Val)(Ψ:Nat->List Val->Pr FV)(ms:List Nat)(s:dP):Prop:=∀(A0:AP) (h0:Hs) (aa:bB) (env:Env) (h:Hs) (O:Nat->Option Nat),SR A0 h0 aa env h O->gR A0 h0 (RF A0 h0 (J4 s) aa env h O) (bR Φ s env h) (aF Ψ ms s aa)
theorem Fx(he:bZ Φ Ψ e)(hx:∀aa,bx Ψ ms (.expr e) aa=pb (bF Ψ e aa) λ_=>.ok (.nx aa)):BC Φ Ψ ms (.expr e):=λA0 h0 aa env h O s=>by
 rw[dH,hx];exact bK s (he aa env _ h s.BA s.er) λx h1 v p1 q1=>bq ⟨O,s.ext p1,Fm.refl s p1⟩
theorem bD{α β γ:Type}(m:M α)(f:α -> M β)(g:β -> M γ):bnd (bnd m f) g=bnd m λx=>bnd (f x) g:=by
 funext h;show (match (match m h with|.ok a h'=>f a h'|.exc c vs h'=>.exc c vs h'|.no=>.no) with|.ok a h'=>g a h'|.exc c vs h'=>.exc c vs h'|.no=>.no)=(match m h with|.ok a h'=>bnd (f a) g h'|.exc c vs h'=>.exc c vs h'|.no=>.no);cases m h<;>rfl
theorem af{α β:Type}{m:M α}{f:α -> M β}{a:α}{h h1:Hs}(e:m h=.ok a h1):bnd m f h=f a h1:=by unfold bnd;rw[e]
theorem aA{i:Nat}(e:env[i]?=some (some v)):az Φ (.var i) env h=.ok v h:=by rw[az,e];rfl
theorem C0{i:Nat}(ha:bZ Φ Ψ a):BC Φ Ψ ms (.expr (.met .append (.var i) #[a])):=λA0 h0 aa env h O s=>by
 rw[dH,bx];try dsimp only
 split
 ·rename_i ds hv
  obtain⟨b,e2,e3,vs,e4,e5⟩:=s.ow i _ hv;have ev:bnd (az Φ (.met .append (.var i) #[a]) env) (λ_=>ret (Fl.nx env)) h=bnd (az Φ a env) (λv=>bnd (met .append (.ref b) [v]) λ_=>ret (Fl.nx env)) h:=by
   rw[az,bD,af (aA e2)];rw[bD,af (a:=()) (h1:=h) (by unfold ask bI;simp[recv,e4])];rw[bD,aK,bD]
   congr 1
  rw[ev];refine bK s (ha aa env _ h s.BA s.er) λx h1 v p1 q1=>iz λhg=>?_;have s1:=s.ext p1;obtain⟨s2,f2⟩:=s1.put (d1:=.rl (ds++[x.2])) (ob:=.lst (vs++[v])) hv e3 ⟨_,rfl,(e5.ext p1).append (ao.cons q1.1 ao.nil)⟩;have l:=e5.length;refine⟨.nx env,h1.set b (.lst (vs++[v])),?_,O,s2,(Fm.refl s p1).trans (f2.wid λj hj=>?_)⟩
  ·have g:=bL p1 e4;unfold met bnd ask bI aC put ret;dsimp only;rw[g];dsimp only;rw[aab (by rw[<-l];exact hg)]
  ·rw[aaj.mp hj];exact aas _ aaa
 ·trivial
theorem C1{i:Nat}(ha:bZ Φ Ψ a):BC Φ Ψ ms (.expr (.met .extend (.var i) #[a])):=λA0 h0 aa env h O s=>by
 rw[dH,bx];try dsimp only
 split
 ·rename_i ds hv
  obtain⟨b,e2,e3,vs,e4,e5⟩:=s.ow i _ hv;have ev:bnd (az Φ (.met .extend (.var i) #[a]) env) (λ_=>ret (Fl.nx env)) h=bnd (az Φ a env) (λv=>bnd (met .extend (.ref b) [v]) λ_=>ret (Fl.nx env)) h:=by
   rw[az,bD,af (aA e2)];rw[bD,af (a:=()) (h1:=h) (by unfold ask bI;simp[recv,e4])];rw[bD,aK,bD]
   congr 1
  rw[ev];refine bK s (ha aa env _ h s.BA s.er) λx h1 v p1 q1=>?_;obtain⟨f,d⟩:=x;cases d<;>first|trivial|skip
  rename_i ts;have q:=q1.1;dsimp only at q;rw[Dn]at q;obtain⟨ws,rfl,q⟩:=q;refine iz λhg=>?_;have s1:=s.ext p1;obtain⟨s2,f2⟩:=s1.put (d1:=.rl (ds++ts)) (ob:=.lst (vs++ws)) hv e3 ⟨_,rfl,(e5.ext p1).append q⟩;have l:=e5.length;have l2:=q.length;refine⟨.nx env,h1.set b (.lst (vs++ws)),?_,O,s2,(Fm.refl s p1).trans (f2.wid λj hj=>?_)⟩
  ·have g:=bL p1 e4;unfold met bnd ask bI aC put ret xY;dsimp only;rw[g];dsimp only;rw[aab (by rw[<-l,<-l2];exact hg)]
  ·rw[aaj.mp hj];exact aas _ aaa
 ·trivial
theorem J5(hΦ:∀j,Imp (Φ j) (Ψ j))(ho:dW e=true):BC Φ Ψ ms (.expr e):=by
 have V:=v_all hΦ;have gen:(∀aa,bx Ψ ms (.expr e) aa=pb (bF Ψ e aa) λ_=>.ok (.nx aa))->BC Φ Ψ ms (.expr e):=λhx=>Fx (V.1 e ho) hx;cases e with
 |met m a es=>
  cases m with
  |join=>exact gen λaa=>by rw[bx]<;>(intros;simp_all)
  |append=>
   cases a with
   |var i=>
    cases es with
    |nil=>exact gen λaa=>by rw[bx]<;>(intros;simp_all)
    |cons x r=>
     cases r with
     |nil=>exact C0 (V.1 x (gx (gx ho).2).1)
     |cons _ _=>exact gen λaa=>by rw[bx]<;>(intros;simp_all)
   |_=>exact gen λaa=>by rw[bx]<;>(intros;simp_all)
  |extend=>
   cases a with
   |var i=>
    cases es with
    |nil=>exact gen λaa=>by rw[bx]<;>(intros;simp_all)
    |cons x r=>
     cases r with
     |nil=>exact C1 (V.1 x (gx (gx ho).2).1)
     |cons _ _=>exact gen λaa=>by rw[bx]<;>(intros;simp_all)
   |_=>exact gen λaa=>by rw[bx]<;>(intros;simp_all)
  |remove=>exact gen λaa=>by rw[bx]<;>(intros;simp_all)
  |pop=>exact gen λaa=>by rw[bx]<;>(intros;simp_all)
 |_=>exact gen λaa=>by rw[bx]<;>(intros;simp_all)
end
section
variable {Φ:Nat->List Val->M Val} {Ψ:Nat->List Val->Pr FV} {ms:List Nat}
theorem Aj{i:Nat}{l:List Nat}(h:i∈l):∀j∈[i],j∈l:=λj hj=>by rw[aaj.mp hj];exact h
theorem Ol{j:Nat}(h:yr e=some j):e=.met .pop (.var j) #[¬0]:=by
 unfold yr at h;split at h
 ·cases h;rfl
 ·cases h
theorem Om{A0:AP}{h0:Hs}{i:Nat}{o:Option Nat}{j:Nat}(s:SR A0 h0 aa env h O)(hp:some j=yr e)(ho:o=yr e) :
  gR A0 h0 (RF A0 h0 (mS (.asg (.one i) e)) aa env h O) (bnd (az Φ e env) (λv=>bnd (bI (fX (.one i) v env)) λenv'=>ret (.nx env')) h) (NZ ms i o aa):=by
 have e0:=Ol hp.symm;have eo:o=some j:=ho.trans hp.symm;subst eo;subst e0;unfold NZ;dsimp only;refine iz λhf=>?_
 split
 ·rename_i d ds hj
  refine iz λhi=>?_;obtain⟨b,e2,e3,vs,e4,e5⟩:=s.ow j _ hj;rw[ao]at e5;obtain⟨w,r,rfl,q1,q2⟩:=e5;obtain⟨s3,f3⟩:=s.put (d1:=.rl ds) (ob:=.lst r) hj e3 ⟨_,rfl,q2⟩;have qi:w=d:=(dM d w hi).mp q1;obtain⟨s4,f4⟩:=s3.set (i:=i) (d:=d) (v:=w) ((dM d w hi).mpr qi);refine⟨.nx (env.set i (some w)),h.set b (.lst r),?_,_,s4,(f3.wid (Aj (by simp[mS,sD]))).trans (f4.wid (Aj (by simp[mS,o6,stored])))⟩;have b1:recv h .pop (.ref b)=some ():=by show (match h[b]? with|some (.lst _)=>some ()|_=>none)=_;rw[e4]
  have b2:aK Φ #[¬0] env h=.ok [.int 0] h:=by rw[aK,af (a:=.int 0) (h1:=h) (by rw[az];rfl),aK];rfl
  have b3:az Φ (.met .pop (.var j) #[¬0]) env h=.ok w (h.set b (.lst r)):=by rw[az,af (aA e2)];rw[show ∀(f:Unit->M Val),bnd (ask λh=>recv h .pop (.ref b)) f h=f () h from λf=>by unfold bnd ask;dsimp only;rw[b1];rfl];rw[af b2,met];unfold bnd ask aC bI put ret;dsimp only;rw[e4];rfl
  rw[af b3];rfl
 ·trivial
theorem Oo(hΦ:∀j,Imp (Φ j) (Ψ j))(ho:dW e=true):BC Φ Ψ ms (.asg p e):=λA0 h0 aa env h O s=>by
 have V:=(v_all hΦ).1 e ho;cases p with
 |one i=>
  rw[dH,bx];try dsimp only
  split
  ·rename_i hp;exact Om s (Option.some_get hp) rfl
  split
  ·refine iz λhf=>?_
   refine bK s (R9 hΦ hf ho aa env _ h s.BA s.er) λx h1 v p1 q1=>?_;obtain⟨f,d⟩:=x;cases d<;>first|trivial|skip
   ·obtain⟨h2,vs,rfl,rfl,p2,q2⟩:=q1 rfl;obtain⟨s2,f2⟩:=s.fresh (i:=i) p2 q2;exact⟨_,_,rfl,_,s2,f2.wid (Aj (by simp[mS,o6,stored]))⟩
   ·obtain⟨h2,vs,rfl,rfl,p2,q2⟩:=q1 rfl;obtain⟨s2,f2⟩:=s.fresh (i:=i) p2 q2;exact⟨_,_,rfl,_,s2,f2.wid (Aj (by simp[mS,o6,stored]))⟩
  ·refine bK s (V aa env _ h s.BA s.er) λx h1 v p1 q1=>?_
   have hnw:PR (gh x.1 x.2)=true->Dn (Al (Fr h0.length) O) h1 x.2 v:=λz=>by
    have hx:x.1=true:=by
     unfold gh at z;split at z
     ·rename_i hh;simp only[and_eq_true]at hh;exact hh.1
     ·cases z
    refine(q1.2 hx).wid λo ho=>?_;cases o with
    |none=>exact ho.elim
    |some k=>exact⟨aaD s.pre.length_le ho,λj _ e=>by have:=(s.own j k e).2.1;have ho':h.length<=k:=ho;omega⟩
   have hrd:kr (gh x.1 x.2)=true:=by unfold gh;split<;>rfl
   obtain⟨s2,f2⟩:=(s.ext p1).setM (i:=i) hrd q1.1 hnw;exact⟨_,_,rfl,_,s2,(Fm.refl s p1).trans (f2.wid (Aj (by simp[mS,o6,stored])))⟩
 |tup is=>
  rw[dH,bx];try dsimp only
  refine iz λhf=>bK s (V aa env _ h s.BA s.er) λx h1 v p1 q1=>?_;have s1:=s.ext p1;refine bK s1 (R:=λaQ h' env'=>∃O',SR A0 h0 aQ env' h' O'/\Fm (stored (.tup is)) aa env h1 O aQ env' h' O') (bM λaQ ev=>?_) λaQ h2 env' p2 hh=>?_
  ·obtain⟨env',O',b1,b2,b3⟩:=s1.bind ev q1.1;exact⟨env',b1,O',b2,b3⟩
  ·obtain⟨O',b2,b3⟩:=hh;exact bq ⟨O',b2,(Fm.refl s p1).trans (b3.wid λj hj=>by simp only[mS,o6];exact aaA _ hj)⟩
theorem Oq{i:Nat}(hΦ:∀j,Imp (Φ j) (Ψ j))(ho:dW e=true):BC Φ Ψ ms (.aug i o e):=λA0 h0 aa env h O s=>by rw[bx];trivial
theorem BD(k:Key)(l:List (Key×Val)):(l.any λkv=>decide (kv.1=k))=((l.map (·.1)).any λx=>decide (x=k)):=by
 rw[any_map];rfl
theorem BE(e:Dn A h d v):∀{kvs:List (Key×Val)} {ds:List Val},ao A h ds (kvs.map (·.2)) ->
  ao A h ((((kvs.map (·.1)).zip ds).map λkv=>if kv.1=k then (kv.1,d) else kv).map (·.2)) ((kvs.map λkv=>if kv.1=k then (kv.1,v) else kv).map (·.2))
 |[],ds,q=>by simp only[map_nil,List.zip_nil_left];exact ao.nil
 | (k',v')::kvs,ds,q=>by
  have l:=q.length;cases ds with
  |nil=>simp at l
  |cons d' ds=>
   simp only[map_cons]at q;rw[ao]at q;obtain⟨v1,r,e1,q1,q2⟩:=q;cases e1;simp only[map_cons,List.zip_cons_cons];refine ao.cons ?_ (BE e q2)
   by_cases hk:k'=k
   ·rw[aab hk,aab hk];exact e
   ·rw[aad hk,aad hk];exact q1
theorem pZ(k:Key)(d:Val)(l:List (Key×Val)):(l.map λkv=>if kv.1=k then (kv.1,d) else kv).map (·.1)=l.map (·.1):=by
 rw[aaP];refine map_congr_left λx _=>?_;show (if x.1=k then (x.1,d) else x).1=x.1
 split<;>rfl
theorem J6(hk:kvs.map (·.1)=ks)(q:ao A h ds (kvs.map (·.2)))(e:Dn A h d v) :
  (ie kvs k v).map (·.1)=(ie (ks.zip ds) k d).map (·.1)/\ao A h ((ie (ks.zip ds) k d).map (·.2)) ((ie kvs k v).map (·.2)):=by
 subst hk;have l:=q.length;rw[Z9]at l;have z1:((kvs.map (·.1)).zip ds).map (·.1)=kvs.map (·.1):=List.map_fst_zip (by rw[Z9];omega);have z2:((kvs.map (·.1)).zip ds).map (·.2)=ds:=List.map_snd_zip (by rw[Z9];omega);unfold ie;rw[BD,BD,z1]
 split
 ·rw[pZ,pZ,z1];exact⟨rfl,BE e q⟩
 ·rw[map_append,map_append,map_append,map_append,z1,z2];exact⟨rfl,q.append (ao.cons e ao.nil)⟩
theorem J7(hΦ:∀j,Imp (Φ j) (Ψ j))(ho:dW o=true)(hi:dW i=true)(hv:dW v=true):BC Φ Ψ ms (.fD o i v):=λA0 h0 aa env h O s=>by
 have V:=(v_all hΦ).1;cases o with
 |var j=>
  rw[dH,bx];refine bK s (V v hv aa env _ h s.BA s.er) λx h1 w p1 q1=>?_;have s1:=s.ext p1
  split
  ·rename_i ds hj
   obtain⟨b,e2,e3,vs,e4,e5⟩:=s1.ow j _ hj;rw[af (aA e2)];refine bK s1 (V i hi aa env _ h1 s1.BA s1.er) λz h2 u p2 q2=>?_;have s2:=s1.ext p2;obtain⟨f,d⟩:=z;have q:=q2.1;cases d<;>first|trivial|skip
   dsimp only at q;rw[Dn]at q;subst q;rename_i kk;have g:=bL p2 e4;have l:=e5.length;show gR A0 h0 _ _ (pb (pl (Cn ds.length kk)) _);cases hn:Cn ds.length kk with
   |none=>trivial
   |some n=>obtain⟨s3,f3⟩:=s2.put (d1:=.rl (ds.set n x.2)) (ob:=.lst (vs.set n w)) hj e3 ⟨_,rfl,(e5.ext p2).set n (q1.1.ext p2)⟩;refine⟨.nx env,h2.set b (.lst (vs.set n w)),?_,O,s3,(Fm.refl s (p1.trans p2)).trans (f3.wid (Aj (by simp[mS,sD])))⟩;rw[l]at hn;simp only[uK];unfold bnd ask bI put ret;dsimp only;rw[g];dsimp only;rw[hn]
  ·rename_i ks ds hj
   obtain⟨b,e2,e3,kvs,e4,ek,e5⟩:=s1.ow j _ hj;rw[af (aA e2)];refine bK s1 (V i hi aa env _ h1 s1.BA s1.er) λz h2 u p2 q2=>?_;have s2:=s1.ext p2;obtain⟨f,d⟩:=z;have q:=q2.1;dsimp only at q;show gR A0 h0 _ _ (pb (pl (keyOf d)) _);cases hk:keyOf d with
   |none=>trivial
   |some kk=>
    have hu:keyOf u=some kk:=by
     cases d<;>simp only[keyOf]at hk<;>first|(cases hk;done)|skip
     all_goals (rw[Dn]at q;subst q;exact hk)
    show gR A0 h0 _ _ (pg _ _);refine iz λhl=>?_;have g:=bL p2 e4;obtain⟨k1,k2⟩:=J6 (k:=kk) ek (e5.ext p2) (q1.1.ext p2);obtain⟨s3,f3⟩:=s2.put (d1:=putD ks ds kk x.2) (ob:=.dct (ie kvs kk w)) hj e3 ⟨_,rfl,k1,k2⟩;refine⟨.nx env,h2.set b (.dct (ie kvs kk w)),?_,O,s3,(Fm.refl s (p1.trans p2)).trans (f3.wid (Aj (by simp[mS,sD])))⟩;have hl':decide (kvs.length<sizeLine)=true:=by rw[<-ek,Z9]at hl;exact hl
    simp only[uK];unfold bnd ask bI put ret aC;dsimp only;rw[g];dsimp only;rw[hu];dsimp only;rw[aab hl']
  ·trivial
 |_=>rw[bx]<;>first|trivial|(intros;simp_all)
theorem Ot(hΦ:∀j,Imp (Φ j) (Ψ j))(hc:dW c=true)(ha:v9 Φ Ψ ms a)(hb:v9 Φ Ψ ms b):BC Φ Ψ ms (.iff c a b):=λA0 h0 aa env h O s=>by
 have V:=(v_all hΦ).1 c hc;rw[dH,bx];refine bK s (jD V s.BA s.er) λx h1 v p1 q1=>?_;have s1:=s.ext p1;refine bK s1 (R:=λt _ t'=>t'=t) (bN λt et=>⟨t,v5 q1 et,rfl⟩) λt h2 t' p2 et=>?_;subst et;have s2:=s1.ext p2;cases t' with
 |true=>
  rw[aab rfl,aab rfl];refine fK (ha A0 h0 aa env h2 O s2) λf h' g r=>(r.pre s (p1.trans p2)).wid λi hi=>?_;simp only[J4,mS,sD,o6,mem_append]at hi |-
  rcases hi with z|z
  ·exact .inl (.inl z)
  ·exact .inr (.inl z)
 |false=>
  rw[aad Z3,aad Z3];refine fK (hb A0 h0 aa env h2 O s2) λf h' g r=>(r.pre s (p1.trans p2)).wid λi hi=>?_;simp only[J4,mS,sD,o6,mem_append]at hi |-
  rcases hi with z|z
  ·exact .inl (.inr z)
  ·exact .inr (.inr z)
def Ak(h:Hs)(O:Nat->Option Nat)(m:List Nat)(src:Src)(ws:List Val):Prop :=
 ∀h':Hs,(∀k,k<h.length->(∀i,O i≠some k)->h'[k]?=h[k]?)->(∀i,i∉m->∀a,O i=some a->h'[a]?=h[a]?)->src.items h'=some ws
theorem dN{i:Nat}(e:h[i]?=some (.lst ws)):(Src.live i).items h=some ws:=by simp[Src.items,aG,e]
theorem jF{i:Nat}(e:h[i]?=some (.lst ws)):(Src.enum i).items h=some (cL 0 ws):=by simp[Src.items,aG,e]
theorem yx{A0:AP}{h0:Hs}{m:List Nat}(hb:∀aa env h O x v,SR A0 h0 aa env h O->Dn (Al A0 O) h x v->gR A0 h0 (RF A0 h0 m aa env h O) (body v env h) (bodyV x aa))
  {nG:bB} {gy:Env} {h1:Hs} {O1:Nat->Option Nat} (st:Ak h1 O1 m src ws) :
  ∀(xs vs:List Val) (i:Nat) (aa:bB) (env:Env) (h:Hs) (O:Nat->Option Nat),SR A0 h0 aa env h O->Fm m nG gy h1 O1 aa env h O->ws.drop i=vs->ao (Al A0 O) h xs vs ->
   gR A0 h0 (RF A0 h0 m nG gy h1 O1) (forM src body vs.length i env h) (gu bodyV xs aa)
 | [],vs,i,aa,env,h,O,s,f,hd,q=>by
  rw[ao]at q;subst q;have hl:ws.length<=i:=List.drop_eq_nil_iff.mp hd;have hi:=st h (λk hk n=>(f.keep k hk n).1) (λj hj a e=>(f.stay j hj).2.2.2 a e);rw[gu];refine⟨.nx env,h,?_,O,s,f⟩;show forM src body 0 i env h=_;simp only[forM];unfold bnd ask bI aC;dsimp only;rw[hi];dsimp only;rw[aab (decide_eq_true hl)];rfl
 | x::xs,vs,i,aa,env,h,O,s,f,hd,q=>by
  rw[ao]at q;obtain⟨v,r,rfl,q1,q2⟩:=q;have hv:ws[i]?=some v:=by have:=congrArg (λl=>l[0]?) hd;simpa using this
  have hr:ws.drop (i+1)=r:=by
   have:ws.drop (i+1)=(ws.drop i).drop 1:=by rw[List.drop_drop]
   rw[this,hd];rfl
  have hi:=st h (λk hk n=>(f.keep k hk n).1) (λj hj a e=>(f.stay j hj).2.2.2 a e);have ev:forM src body (v::r).length i env h=bnd (body v env) (λf=>match f with
   |.nx env'=>forM src body r.length (i+1) env'
   |.ct env'=>forM src body r.length (i+1) env'
   |.bk env'=>ret (.nx env')
   |.rt v=>ret (.rt v)) h:=by
   show forM src body (r.length+1) i env h=_;simp only[forM];unfold bnd ask bI;dsimp only;rw[hi];dsimp only;rw[hv];try rfl
  rw[ev,gu];refine nH (hb aa env h O x v s q1) λfl h2 gl hr2=>?_;have go:∀aQ env' O',SR A0 h0 aQ env' h2 O'->Fm m aa env h O aQ env' h2 O'->gR A0 h0 (RF A0 h0 m nG gy h1 O1) (forM src body r.length (i+1) env' h2) (gu bodyV xs aQ):=λaQ env' O' s' f'=>by
   refine yx hb st xs r (i+1) aQ env' h2 O' s' (f.trans f') hr (ao.move kG (λk o hk g=>?_) _ _ q2);have hlt:k<h.length:=(Z8.mp g).1;obtain⟨a1,a2⟩:=f'.keep k hlt λi=>hk.2 i rfl;exact⟨⟨hk.1,λi _=>a2 i⟩,a1.trans g⟩
  cases fl<;>cases gl<;>first|exact hr2.elim|skip
  ·obtain⟨O',s',f'⟩:=hr2;exact go _ _ O' s' f'
  ·exact bq hr2
  ·obtain⟨O',s',f'⟩:=hr2;exact bq ⟨O',s',f.trans f'⟩
  ·obtain⟨O',s',f'⟩:=hr2;exact go _ _ O' s' f'
theorem Fy{A0:AP}{m:List Nat}(q:Dn (Al A0 O) h d v)(e:ku k [d]=some xs):∃src ws,srcOf k [v]=some src/\ao (Al A0 O) h xs ws/\src.items h=some ws/\Ak h O m src ws:=by
 have lst:∀es,d=.rl es->(∃ws,v=.rl ws/\ao (Al A0 O) h es ws)\/∃a ws,v=.ref a/\h[a]?=some (.lst ws)/\ao (Al A0 O) h es ws/\∀h':Hs,(∀k,k<h.length->(∀i,O i≠some k)->h'[k]?=h[k]?)->h'[a]?=some (Ob.lst ws):=by
  rintro es rfl;rw[Dn]at q
  rcases q with ⟨ws,rfl,_,q⟩|⟨a,ws,rfl,al,g,q⟩
  ·exact .inl ⟨ws,rfl,q⟩
  ·exact .inr ⟨a,ws,rfl,g,q,λh' hk=>(hk a (Z8.mp g).1 λi=>al.2 i rfl).trans g⟩
 cases k with
 |seq=>
  cases d<;>first|(cases e;done)|skip
  ·cases e;rw[Dn]at q;obtain⟨ws,rfl,q⟩:=q;exact⟨.fix ws,ws,rfl,q,rfl,λ_ _ _=>rfl⟩
  ·cases e
   rcases lst _ rfl with ⟨ws,rfl,q'⟩|⟨a,ws,rfl,g,q',st⟩
   ·exact⟨.fix ws,ws,rfl,q',rfl,λ_ _ _=>rfl⟩
   ·exact⟨.live a,ws,rfl,q',dN g,λh' hk _=>dN (st h' hk)⟩
 |range=>
  cases d<;>first|(cases e;done)|skip
  rw[Dn]at q;subst q;rename_i n;change (if inR n=true then some (cj 0 n.toNat) else none)=some _ at e;split at e
  ·rename_i hn;cases e;exact⟨.fix _,_,aab hn,lq,rfl,λ_ _ _=>rfl⟩
  ·cases e
 |enum=>
  cases d<;>first|(cases e;done)|skip
  cases e
  rcases lst _ rfl with ⟨ws,rfl,q'⟩|⟨a,ws,rfl,g,q',st⟩
  ·exact⟨.fix _,_,rfl,ja 0 q',rfl,λ_ _ _=>rfl⟩
  ·exact⟨.enum a,_,rfl,ja 0 q',jF g,λh' hk _=>jF (st h' hk)⟩
 |zip=>cases e
theorem Fz{α β γ δ:Type}{R:α -> Hs -> β -> Prop}{R':γ -> Hs -> δ -> Prop}{m:M β}{f:β -> M δ}{p:Pr α}{F:α -> Pr γ}(r:Rel A h R (m h) p)(k:∀a h1 b,p=.ok a->h<+:h1->R a h1 b->Rel A h1 R' (f b h1) (F a)):Rel A h R' (bnd m f h) (pb p F):=by
 unfold bnd;cases p with
 |ok a=>
  obtain⟨b,h1,e,q,r⟩:=r;rw[e];show Rel A h R' (f b h1) (F a);have:=k a h1 b rfl q r;cases e2:F a with
  |ok c=>rw[e2]at this;obtain⟨d,h2,e3,q2,r2⟩:=this;exact⟨d,h2,e3,q.trans q2,r2⟩
  |exc c es=>rw[e2]at this;obtain⟨d,h2,e3,q2,r2⟩:=this;exact⟨d,h2,e3,q.trans q2,r2⟩
  |no=>trivial
 |exc c es=>obtain⟨ws,h1,e,q,r⟩:=r;rw[e];exact⟨ws,h1,rfl,q,r⟩
 |no=>trivial
theorem FA{e e2:IE}(h:gP Ψ (.cons e (.cons e2 r)) aa=.ok ds):2<=ds.length:=by
 rw[gP,gP]at h;cases h1:(if isVar e=true then pl (gO aa e) else bF Ψ e aa) with
 |ok a=>
  rw[h1]at h;cases h2:(if isVar e2=true then pl (gO aa e2) else bF Ψ e2 aa) with
  |ok b=>
   rw[h2]at h;cases h3:gP Ψ r aa with
   |ok c=>rw[h3]at h;cases h;simp
   |exc _ _=>rw[h3]at h;cases h
   |no=>rw[h3]at h;cases h
  |exc _ _=>rw[h2]at h;cases h
  |no=>rw[h2]at h;cases h
 |exc _ _=>rw[h1]at h;cases h
 |no=>rw[h1]at h;cases h
theorem FD{d1 d2:Val}(ex:ku k [d1,d2]=some xs):k=.range/\∃n m,d1=.int n/\d2=.int m/\(inR n&&inR m)=true/\xs=cj n (m-n).toNat:=by
 cases k with
 |seq=>cases d1<;>cases ex
 |enum=>cases d1<;>cases ex
 |zip=>cases ex
 |range=>
  cases d1<;>first|(cases ex;done)|skip
  cases d2<;>first|(cases ex;done)|skip
  rename_i n m;change (if (inR n&&inR m)=true then some (cj n (m-n).toNat) else none)=some xs at ex
  by_cases hn:(inR n&&inR m)=true
  ·rw[aab hn]at ex;cases ex;exact⟨rfl,n,m,rfl,rfl,hn,rfl⟩
  ·rw[aad hn]at ex;cases ex
theorem Am{d1 d2 d3:Val}:ku k (d1::d2::d3::r)=none:=by
 cases k with
 |seq=>cases d1<;>rfl
 |enum=>cases d1<;>rfl
 |zip=>rfl
 |range=>cases d1<;>first|rfl|(cases d2<;>rfl)
theorem J8{A0:AP}{h0:Hs}{m:List Nat}(hΦ:∀j,Imp (Φ j) (Ψ j))(hi:nF it=true)(s:SR A0 h0 aa env h O)(hm:∀i,it=.cons (.var i) .nil->i∉m) :
  Rel (Al A0 O) h (λxs h' src=>∃ws,ao (Al A0 O) h' xs ws/\src.items h'=some ws/\Ak h' O m src ws) (bnd (aK Φ it env) (λits=>bI (srcOf k its)) h) (pb (gP Ψ it aa) λits=>pl (ku k its)):=by
 have V:=v_all hΦ;cases it with
 |nil=>rw[gP];cases k<;>trivial
 |cons e es=>
  cases es with
  |nil=>
   replace hi:=gx hi
   by_cases hv:isVar e=true
   ·cases e<;>first|(cases hv;done)|skip
    rename_i i;rw[gP,gP,aab hv];simp only[gO];cases hx:aa[i]? with
    |none=>trivial
    |some o=>
     cases o with
     |none=>trivial
     |some fd=>
      obtain⟨f,d⟩:=fd;show Rel _ _ _ _ (pl (ku k [d]));cases hf:kr f with
      |false=>
       have hf:f=.ow:=by cases f<;>first|rfl|cases hf
       subst hf;obtain⟨a,e2,e3,e4⟩:=s.ow i d hx;have ev:bnd (aK Φ #[.var i] env) (λits=>bI (srcOf k its)) h=bI (srcOf k [.ref a]) h:=by rw[aK,aK,bD,af (aA e2)];rfl
       rw[ev];refine bM λxs ex=>?_;have hd:∃ds,d=.rl ds:=by cases d<;>first|exact⟨_,rfl⟩|exact False.elim e4|(cases k<;>cases ex)
       obtain⟨ds,rfl⟩:=hd;obtain⟨vs,e4,e5⟩:=e4;have st:∀h':Hs,(∀i,i∉m->∀a,O i=some a->h'[a]?=h[a]?)->h'[a]?=some (Ob.lst vs):=λh' hs=>(hs i (hm i rfl) a e3).trans e4;cases k with
       |seq=>cases ex;exact⟨.live a,rfl,vs,e5,dN e4,λh' _ hs=>dN (st h' hs)⟩
       |range=>cases ex
       |enum=>cases ex;exact⟨.enum a,rfl,_,ja 0 e5,jF e4,λh' _ hs=>jF (st h' hs)⟩
       |zip=>cases ex
      |true=>
       obtain⟨v,e1,e2,_⟩:=s.sh i f d hx hf;have ev:bnd (aK Φ #[.var i] env) (λits=>bI (srcOf k its)) h=bI (srcOf k [v]) h:=by rw[aK,aK,bD,af (aA e1)];rfl
       rw[ev];refine bM λxs ex=>?_;obtain⟨src,ws,a1,a2,a3,a4⟩:=Fy (m:=m) e2 ex;exact⟨src,a1,ws,a2,a3,a4⟩
   ·rw[gP,gP,aad hv]
    have ev:bnd (aK Φ #[e] env) (λits=>bI (srcOf k its)) h=bnd (az Φ e env) (λv=>bI (srcOf k [v])) h:=by rw[aK,aK,bD];rfl
    rw[ev];have ep:(pb (pb (bF Ψ e aa) λd=>pb (Pr.ok ([]:List Val)) λp=>Pr.ok (d.2::p)) λits=>pl (ku k its))=pb (bF Ψ e aa) λd=>pl (ku k [d.2]):=by cases bF Ψ e aa<;>rfl
    rw[ep];refine ah (V.1 e hi.1 aa env _ h s.BA s.er) λx h1 v p1 q1=>bM λxs ex=>?_;obtain⟨src,ws,a1,a2,a3,a4⟩:=Fy (m:=m) q1.1 ex;exact⟨src,a1,ws,a2,a3,a4⟩
  |cons e2 r=>
   have V2:=V.2 _ hi;refine Fz (V2.2 aa env _ h s.BA s.er) λds h1 vs eb p1 q1=>bM λxs ex=>?_;have hl:2<=ds.length:=FA eb
   match ds,q1 with
   |[],q1=>cases k<;>cases ex
   |[d],q1=>simp at hl
   |[d1,d2],q1=>obtain⟨v,rr,rfl,hv,hr⟩:=q1;obtain⟨w,rfl,hw⟩:=JU.one hr;obtain⟨rfl,n,m',rfl,rfl,hn,rfl⟩:=FD ex;have:=hv.int;subst this;have:=hw.int;subst this;exact⟨.fix _,aab hn,_,lq,rfl,λ_ _ _=>rfl⟩
   |d1::d2::d3::dr,q1=>rw[Am]at ex;cases ex
theorem Ou(hΦ:∀j,Imp (Φ j) (Ψ j))(hi:nF it=true)(hb:v9 Φ Ψ ms body):BC Φ Ψ ms (.for p k it body):=λA0 h0 aa env h O s=>by
 rw[dH,bx];refine iz λhg=>?_;rw[and_eq_true]at hg;have hm:∀i,it=.cons (.var i) .nil->i∉mS (.for p k it body):=by
  rintro i rfl z;simp only[yq,and_eq_true,not_eq_true',List.contains_eq_mem,decide_eq_false_iff_not]at hg;simp only[mS,sD,o6,mem_append]at z
  rcases z with z|z|z
  ·exact hg.1.1.1 z
  ·exact hg.1.2 z
  ·exact hg.1.1.2 z
 have ev:∀(F:Src->M Fl),bnd (aK Φ it env) (λits=>bnd (bI (srcOf k its)) F) h=bnd (bnd (aK Φ it env) λits=>bI (srcOf k its)) F h:=λF=>by rw[bD]
 have ep:∀(F:List Val->Pr Fi),pb (gP Ψ it aa) (λits=>pb (pl (ku k its)) F)=pb (pb (gP Ψ it aa) λits=>pl (ku k its)) F:=λF=>by cases gP Ψ it aa<;>rfl
 rw[ev,ep];refine bK s (J8 (m:=mS (.for p k it body)) hΦ hi s hm) λxs h1 src p1 hx=>?_;obtain⟨ws,q1,q2,st⟩:=hx;have s1:=s.ext p1;have l:=q1.length;have Ys:∀(F:List Val->M Fl),bnd (ask λh=>src.items h) F h1=F ws h1:=λF=>by unfold bnd ask bI;dsimp only;rw[q2]
 rw[Ys];refine fK (yx (m:=mS (.for p k it body)) (λaQ env' h' O' x v s' qx=>?_) st xs ws 0 aa env h1 O s1 (Fm.refl s1 (aaC _)) rfl q1) λf h' g r=>r.pre s p1;refine bK s' (R:=λpY h2 mG=>∃O2,SR A0 h0 pY mG h2 O2/\Fm (stored p) aQ env' h' O' pY mG h2 O2) (bM λpY e2=>?_) λpY h2 mG p2 hh=>?_
 ·obtain⟨mG,O2,b1,b2,b3⟩:=s'.bind e2 qx;exact⟨mG,b1,O2,b2,b3⟩
 ·obtain⟨O2,b2,b3⟩:=hh
  refine fK (hb A0 h0 pY mG h2 O2 b2) λf h'' g r=>RF.seq (b3.wid λi hi=>?_) (r.wid λi hi=>?_)
  ·simp only[mS,sD,o6,mem_append];exact .inr (.inl hi)
  ·simp only[J4,mS,sD,o6,mem_append]at hi |-
   rcases hi with z|z
   ·exact .inl z
   ·exact .inr (.inr z)
theorem Ov{n:Nat}(hΦ:∀j,Imp (Φ j) (Ψ j))(hc:dW c=true)(hb:v9 Φ Ψ ms body):BC Φ Ψ ms (.whl n c body):=λA0 h0 aa env h O s=>by
 have V:=(v_all hΦ).1 c hc;rw[dH,bx]
 induction n generalizing aa env h O with
 |zero=>trivial
 |succ n ih=>
  simp only[oO,mJ];have ct:Rel (Al A0 O) h (λt _ t'=>t'=t) ((bnd (az Φ c env) λx=>ask λh=>bW h x) h) (pb (Ah Ψ c aa) λx=>pl (bW [] x.2)) :=
   ah (jD V s.BA s.er) λx h1 v p1 q1=>bN λt et=>⟨t,v5 q1 et,rfl⟩
  refine bK s ct λt h1 t' p1 et=>?_;subst et;have s1:=s.ext p1;cases t' with
  |true=>
   rw[aab rfl,aab rfl];refine nH (hb A0 h0 aa env h1 O s1) λf h2 g r=>?_;have r:=(r.pre s p1).wid (m':=mS (.whl n c body)) λi hi=>hi;cases f<;>cases g<;>first|exact r.elim|skip
   ·obtain⟨O',s',f'⟩:=r;exact fK (ih _ _ _ O' s') λf h' g r'=>RF.seq f' r'
   ·exact bq r
   ·obtain⟨O',s',f'⟩:=r;exact bq ⟨O',s',f'⟩
   ·obtain⟨O',s',f'⟩:=r;exact fK (ih _ _ _ O' s') λf h' g r'=>RF.seq f' r'
  |false=>rw[aad Z3,aad Z3];exact bq ⟨O,s1,Fm.refl s p1⟩
theorem Li:kr (Ww m)=true:=by cases m<;>rfl
theorem SR.fr{A0:AP}{h0:Hs}(s:SR A0 h0 aa env h O):ER A0 (j3 aa) env h:=λi f d e=>by
 unfold j3 at e;rw[aaB]at e;cases hx:aa[i]? with
 |none=>rw[hx]at e;cases e
 |some o=>
  rw[hx]at e;cases o with
  |none=>cases e
  |some fd=>
   obtain⟨m,d'⟩:=fd;cases e;rw[aad (by rw[Li];decide)];cases hm:kr m with
   |false=>
    have hm:m=.ow:=by cases m<;>first|rfl|cases hm
    subst hm;obtain⟨a,e2,e3,e4⟩:=s.ow i d hx;exact⟨_,e2,(e4.mono (A':=A0) (λ_ g=>g) λ_ _ z=>z.wid λ_ y=>y.1).dn (s.up a (s.own i a e3).1)⟩
   |true=>obtain⟨v,e1,e2,_⟩:=s.sh i m d hx hm;exact⟨v,e1,e2.wid λ_ z=>z.1⟩
theorem uT{A0:AP}{h0:Hs}{α β γ δ:Type}{R:α -> Hs -> β -> Prop}{R':γ -> Hs -> δ -> Prop}{mm:M β}{f:β -> M δ}{p:Pr α}{F:α -> Pr γ}(s:SR A0 h0 aa env h O)(r:Rel A0 h R (mm h) p)(k:∀a h1 b,h<+:h1->R a h1 b->gR A0 h0 R' (f b h1) (F a)):gR A0 h0 R' (bnd mm f h) (pb p F):=by
 unfold bnd;cases p with
 |ok a=>obtain⟨b,h1,e,q,r⟩:=r;rw[e];exact k a h1 b q r
 |exc c es=>obtain⟨ws,h1,e,q,r⟩:=r;rw[e];exact⟨ws,h1,rfl,s.pre.trans q,r⟩
 |no=>trivial
theorem C2(h:JR env es=some p):∃i j,es=.cons (.var i) #[.var j]/\env[i]?=some (some (.nw,p.1))/\env[j]?=some (some (.nw,p.2)):=by
 unfold JR at h;split at h
 ·split at h
  ·rename_i a b;cases h;exact⟨_,_,rfl,a,b⟩
  ·cases h
 ·cases h
theorem Ow(hΦ:∀j,Imp (Φ j) (Ψ j))(ho:dW e=true):BC Φ Ψ ms (.ret e):=λA0 h0 aa env h O s=>by
 have V:=(v_all hΦ).1 e ho;have gen:TN Ψ e aa=bF Ψ e aa->gR A0 h0 (RF A0 h0 (mS (.ret e)) aa env h O) (dH Φ (.ret e) env h) (bx Ψ ms (.ret e) aa):=λhe=>by
  rw[dH,bx,he];exact bK s (V aa env _ h s.BA s.er) λx h1 v p1 q1=>bq ⟨q1.1.wid λ_ z=>z.1,λf=>(q1.2 f).wid (Fr.le s.pre.length_le),s.pre.trans p1⟩
 cases e with
 |var i=>
  rw[dH,bx];simp only[TN];cases hx:aa[i]? with
  |none=>trivial
  |some o=>
   cases o with
   |none=>trivial
   |some fd=>
    obtain⟨f,d⟩:=fd;cases hf:kr f with
    |false=>
     have hf:f=.ow:=by cases f<;>first|rfl|cases hf
     subst hf;obtain⟨a,e2,e3,e4⟩:=s.ow i d hx;rw[af (aA e2)];have ha:=s.own i a e3;cases d<;>first|exact False.elim e4|skip
     ·refine⟨_,h,rfl,?_,λhi=>?_,s.pre⟩
      ·exact(e4.mono (A':=A0) (λ_ g=>g) λ_ _ z=>z.wid λ_ y=>y.1).dn (s.up a ha.1)
      ·obtain⟨vs,e4,e5⟩:=e4;show Dn _ h (.rl _) (.ref a);rw[Dn];exact .inr ⟨a,vs,rfl,ha.1,e4,f6 e5 hi⟩
     ·refine⟨_,h,rfl,?_,λhi=>?_,s.pre⟩
      ·exact(e4.mono (A':=A0) (λ_ g=>g) λ_ _ z=>z.wid λ_ y=>y.1).dn (s.up a ha.1)
      ·obtain⟨kvs,e4,ek,e5⟩:=e4;show Dn _ h (.dc _ _) (.ref a);rw[Dn];exact⟨a,kvs,rfl,ha.1,e4,ek,f6 e5 hi⟩
    |true=>
     obtain⟨v,e1,e2,e3⟩:=s.sh i f d hx hf;rw[af (aA e1)];dsimp only;rw[aab hf];refine⟨_,h,rfl,e2.wid λ_ z=>z.1,λhi=>?_,s.pre⟩
     rcases(or_eq_true _ _).mp hi with hi|hi
     ·exact(dM d v hi).mpr ((dM d v hi).mp e2)
     ·exact(e3 hi).wid λ_ z=>z.1
 |call j es=>rw[dH,bx];exact uT s (V (j3 aa) env A0 h (s.up.ext s.pre) s.fr) λx h1 v p1 q1=>bq ⟨q1.1,λf=>(q1.2 f).wid (Fr.le s.pre.length_le),s.pre.trans p1⟩
 |tup es=>
  rw[dH,bx];change gR A0 h0 _ _ (pb (JS Ψ es aa) _);unfold JS
  split
  ·rename_i pp hp
   obtain⟨i,j,he,hi,hj⟩:=C2 hp;subst he;obtain⟨v,e1,e2,e3⟩:=s.sh i .nw _ hi rfl;obtain⟨w,k1,k2,k3⟩:=s.sh j .nw _ hj rfl;have ev:az Φ (.tup #[.var i,.var j]) env h=.ok (.tup [v,w]) h:=by rw[az,aK,aK,aK];rw[af (a:=[v,w]) (h1:=h) (by rw[af (aA e1),af (a:=[w]) (h1:=h) (by rw[af (aA k1)];rfl)];rfl)];rfl
   rw[af ev];refine⟨_,h,rfl,?_,λ_=>?_,s.pre⟩
   ·show Dn A0 h (.tup _) _;rw[Dn];exact⟨_,rfl,ao.cons (e2.wid λ_ z=>z.1) (ao.cons (k2.wid λ_ z=>z.1) ao.nil)⟩
   ·show Dn (Fr h0.length) h (.tup _) _;rw[Dn];exact⟨_,rfl,ao.cons ((e3 rfl).wid λ_ z=>z.1) (ao.cons ((k3 rfl).wid λ_ z=>z.1) ao.nil)⟩
  exact uT s (V (j3 aa) env A0 h (s.up.ext s.pre) s.fr) λx h1 v p1 q1=>bq ⟨q1.1,λf=>(q1.2 f).wid (Fr.le s.pre.length_le),s.pre.trans p1⟩
 |_=>exact gen rfl
theorem Ox:v9 Φ Ψ ms .nil:=λA0 h0 aa env h O s=>by rw[bR,aF];exact bq ⟨O,s,Fm.refl s (aaC _)⟩
theorem J9(ha:BC Φ Ψ ms a)(hr:v9 Φ Ψ ms r):v9 Φ Ψ ms (.cons a r):=λA0 h0 aa env h O s=>by
 rw[bR,aF];have w1:∀i∈mS a,i∈J4 (.cons a r):=λi hi=>by
  simp only[mS,J4,iY,lT,mem_append]at hi |-
  rcases hi with z|z
  ·exact .inl (.inl z)
  ·exact .inr (.inl z)
 have w2:∀i∈J4 r,i∈J4 (.cons a r):=λi hi=>by
  simp only[J4,iY,lT,mem_append]at hi |-
  rcases hi with z|z
  ·exact .inl (.inr z)
  ·exact .inr (.inr z)
 refine nH (ha A0 h0 aa env h O s) λf h1 g rr=>?_;have rr:=rr.wid w1;cases f<;>cases g<;>first|exact rr.elim|skip
 ·obtain⟨O',s',f'⟩:=rr;exact fK (hr A0 h0 _ _ h1 O' s') λf h' g r'=>RF.seq f' (r'.wid w2)
 ·exact bq rr
 ·exact bq rr
 ·exact bq rr
theorem Sa(hΦ:∀j,Imp (Φ j) (Ψ j)):∀ss,yw ss=true->v9 Φ Ψ ms ss:=by
 intro ss;refine dP.rec (motive_1:=λs=>WE s=true->BC Φ Ψ ms s) (motive_2:=λss=>yw ss=true->v9 Φ Ψ ms ss) ?_ ?_ ?_ ?_ ?_ ?_ ?_ ?_ ?_ ?_ ?_ ?_ ?_ ?_ ?_ ?_ ss
 ·exact λe f=>J5 hΦ f
 ·exact λp e f=>Oo hΦ f
 ·exact λi o e f=>Oq hΦ f
 ·intro o i v f;have f:=v8 f;exact J7 hΦ f.1.1 f.1.2 f.2
 ·intro c a b ia ib f;have f:=v8 f;exact Ot hΦ f.1.1 (ia f.1.2) (ib f.2)
 ·intro p k it b ib f;have f:=gx f;exact Ou hΦ f.1 (ib f.2)
 ·intro n c b ib f;have f:=gx f;exact Ov hΦ f.1 (ib f.2)
 ·exact λe f=>Ow hΦ f
 ·exact λ_ A0 h0 aa env h O s=>by rw[dH,bx];exact bq ⟨by rw[Dn],λ_=>by rw[Dn],s.pre⟩
 ·exact λ_ A0 h0 aa env h O s=>by rw[dH,bx];exact bq ⟨O,s,Fm.refl s (aaC _)⟩
 ·exact λ_ A0 h0 aa env h O s=>by rw[dH,bx];exact bq ⟨O,s,Fm.refl s (aaC _)⟩
 ·exact λ_ A0 h0 aa env h O s=>by rw[dH,bx];exact bq ⟨O,s,Fm.refl s (aaC _)⟩
 ·exact λ_ A0 h0 aa env h O s=>by rw[bx];trivial
 ·exact λ_ _ _ _ _ A0 h0 aa env h O s=>by rw[bx];trivial
 ·exact λ_=>Ox
 ·intro a r ia ir f;have f:=gx f;exact J9 (ia f.1) (ir f.2)
theorem Sb{n:Nat}(u:Up A h)(q:ao A h ds vs):SR A h (ds.map (λd=>some (.sh,d))++replicate (n-ds.length) none) (vs.map some++replicate (n-vs.length) none) h (λ_=>none):=by
 have l:=q.length;have al:∀k,A k->Al A (λ_=>none) k:=λk hk=>⟨hk,λi z e=>by subst e;cases z⟩;have get:∀(i:Nat) (f:Mk) (d:Val),(ds.map (λd=>some (.sh,d))++replicate (n-ds.length) none:bB)[i]?=some (some (f,d))->f=.sh/\ds[i]?=some d:=λi f d e=>by
  by_cases hi:i<ds.length
  ·rw[aam (by simpa using hi),aaB]at e
   cases ei:ds[i]? with
   |none=>rw[ei]at e;cases e
   |some d'=>rw[ei]at e;cases e;exact⟨rfl,rfl⟩
  ·rw[aaw (by simp;omega)]at e;have:=aaz e;rw[List.mem_replicate]at this;exact absurd this.2 (by simp)
 refine⟨by simp[l],λi m d e hm=>?_,λi d e=>?_,(λi a e=>nomatch e),(λi j a e=>nomatch e),aaC _,u⟩
 ·obtain⟨hm',e⟩:=get i m d e;obtain⟨v,k1,k2⟩:=q.get e;have hi:i<vs.length:=(Z8.mp k1).1;exact⟨v,by rw[aam (by simpa using hi),aaB,k1];rfl,k2.wid al,λz=>by subst hm';cases z⟩
 ·obtain⟨z,_⟩:=get i .ow d e;cases z
theorem cu{n:Nat}(hΦ:∀j,Imp (Φ j) (Ψ j))(ho:yw body=true):Imp (fJ Φ n body) (gQ Ψ n body):=λA h ds vs u q=>by
 have l:=q.length;have s:=Sb (n:=n) u q;unfold fJ gQ;have r:=nH (R':=λx h' v=>h<+:h'/\RV A h x h' v) (Sa (ms:=iY body) hΦ body ho A h _ _ h _ s) (f:=λf=>match f with
  |.nx _=>ret .non
  |.rt v=>ret v
  |_=>bI none) (F:=λf=>match f with
  |.nx _=>.ok (true,.non)
  |.rt p=>.ok p
  | _=>.no) λf h1 g rr=>by
   cases f<;>cases g<;>first|exact rr.elim|skip
   ·obtain⟨O',s',_⟩:=rr;exact bq ⟨s'.pre,by show Dn _ _ Val.non _;rw[Dn],λ_=>by show Dn _ _ Val.non _;rw[Dn]⟩
   ·exact bq ⟨rr.2.2,rr.1,rr.2.1⟩
   ·trivial
   ·trivial
 revert r;generalize (pb (aF Ψ (iY body) body (ds.map (λd=>some (.sh,d))++replicate (n-ds.length) none)) _)=p;intro r;cases p with
 |ok x=>obtain⟨v,h',e,a,b⟩:=r;exact⟨v,h',e,a,b⟩
 |exc c es=>exact r
 |no=>trivial
end
abbrev bC:=List Val->Pr FV
def ak(gs:List bC)(j:Nat):bC:=match gs[j]? with
 |some g=>g
 |none=>λ_=>.no
def eL(fs:List Row)(gs:List bC):Prop:=fs.length=gs.length/\∀(j:Nat) (r:Row) (g:bC),fs[j]?=some r->gs[j]?=some g->Imp r.2.2 g
theorem FE:eL [] []:=⟨rfl,λj r g e=>by simp at e⟩
theorem aH(a:eL fs gs)(j:Nat):Imp (look fs j) (ak gs j):=by
 unfold look ak;cases e:fs[j]? with
 |none=>
  have:gs[j]?=none:=by have:=List.getElem?_eq_none_iff.mp e;exact List.getElem?_eq_none_iff.mpr (by rw[<-a.1];exact this)
  rw[this];exact λ_ _ _ _ _ _=>trivial
 |some r=>
  cases e2:gs[j]? with
  |none=>exact λ_ _ _ _ _ _=>trivial
  |some g=>exact a.2 j r g e e2
theorem aI{k:Nat}(a:eL fs gs)(i:Imp f g):eL (fs++[(x,k,f)]) (gs++[g]):=by
 refine⟨by simp[a.1],λj r g' e1 e2=>?_⟩
 by_cases hj:j<fs.length
 ·rw[aam hj]at e1;rw[aam (by rw[<-a.1];exact hj)]at e2;exact a.2 j r g' e1 e2
 ·rw[aaw (by omega)]at e1
  rw[aaw (by rw[<-a.1];omega)]at e2;have hj0:j-fs.length=0:=by have:=(Z8.mp e1).1;simp at this;omega
  rw[<-a.1]at e2;rw[hj0]at e1 e2;simp at e1 e2;subst e1;subst e2;exact i
theorem FF(i:Imp φ ψ){ns:List Int}{f:Bool}(e:ψ [.rl (ns.map .int)]=.ok (f,.bl true)):∃h',φ [.rl (ns.map .int)] []=.ok (.bl true) h':=by
 have r:=i (λ_=>True) [] [.rl (ns.map .int)] [.rl (ns.map .int)] (λ_ _=>trivial) (ao.cons (by rw[Dn];exact .inl ⟨_,rfl,trivial,(aT _ _ (aV ns)).mpr rfl⟩) ao.nil);rw[e]at r;obtain⟨v,h',e1,_,q⟩:=r;have q:=q.1;dsimp only at q;rw[Dn]at q;subst q;exact⟨h',e1⟩
section
variable {α β γ:Type}
theorem aX(a:α)(f:α -> Pr β):pb (.ok a) f=f a:=rfl
theorem Oz(c:Prop)[Decidable c](m n:Pr α)(f:α -> Pr β):pb (if c then m else n) f=if c then pb m f else pb n f:=by split<;>rfl
theorem sI(m:Pr α)(f:α -> Pr β)(g:β -> Pr γ):pb (pb m f) g=pb m λx=>pb (f x) g:=by cases m<;>rfl
theorem dg(a:α):pl (some a)=.ok a:=rfl
theorem Ka(m:Pr α):pg true m=m:=rfl
theorem OA(c:Prop)[Decidable c](m:Pr α):pg (decide c) m=if c then m else .no:=by unfold pg;simp
theorem o8{c:Bool}(h:c=true)(m:Pr α):pg c m=m:=by rw[h];rfl
end
theorem jS{f:Bool}:kr (gh f d)=true:=by unfold gh;split<;>rfl
theorem Sd:kr .sh=true:=rfl
theorem Se:kr .nw=true:=rfl
theorem Sf:kr .ow=false:=rfl
theorem Sg:PR .sh=false:=rfl
theorem Sh:PR .nw=true:=rfl
theorem OC{f:Bool}{i:Int}:gh f (.int i)=.sh:=by cases f<;>rfl
theorem Si{f:Bool}{i:Bool}:gh f (.bl i)=.sh:=by cases f<;>rfl
theorem OE{f:Bool}:gh f (.str i)=.sh:=by cases f<;>rfl
theorem OF{f:Bool}:gh f .non=.sh:=by cases f<;>rfl
theorem Vm:gh false d=.sh:=rfl
theorem Sj:gh true (.rl ds)=.nw:=rfl
theorem Sk:gh true (.dc ks ds)=.nw:=rfl
section
variable {a b:Int} {x y:Str} {t:Bool} {vs ws:List Val} {v:Val}
theorem Sm:j4 .add (.int a) (.int b)=.ok (true,.int (a+b)):=rfl
theorem Sn:j4 .sub (.int a) (.int b)=.ok (true,.int (a-b)):=rfl
theorem Lj(h:lR a b=true):j4 .mul (.int a) (.int b)=.ok (true,.int (a*b)):=by simp only[j4];exact o8 h _
theorem mK(h:mC b=true):j4 .fdiv (.int a) (.int b)=.ok (true,.int (a/b)):=by simp only[j4];exact o8 h _
theorem jT(h:decide (0<b)=true):j4 .mod (.int a) (.int b)=.ok (true,.int (a%b)):=by simp only[j4];exact o8 h _
theorem Lk(h:decide (0<=b/\b<=1000000/\a.natAbs<2 ^ 64)=true):j4 .pow (.int a) (.int b)=.ok (true,.int (a ^ b.toNat)):=by simp only[j4];exact o8 h _
theorem Vn:cop [] .lt (.int a) (.int b)=some (decide (a<b)):=rfl
theorem Vo:cop [] .le (.int a) (.int b)=some (decide (a<=b)):=rfl
theorem Vp:cop [] .gt (.int a) (.int b)=some (decide (b<a)):=rfl
theorem Vq:cop [] .ge (.int a) (.int b)=some (decide (b<=a)):=rfl
theorem Vr:cop [] .eq (.int a) (.int b)=some (decide (a=b)):=by
 show some (a==b)=_
 congr 1
theorem Vs:cop [] .ne (.int a) (.int b)=some (!decide (a=b)):=by
 show some (!(a==b))=_
 congr 1
theorem So:cop [] .isn v .non=some (nj v):=by cases v<;>rfl
theorem Sq:cop [] .ntn v .non=some (!nj v):=by cases v<;>rfl
theorem FG:bW [] (.bl t)=some t:=rfl
theorem Ss:bW [] (.int a)=some (a != 0):=rfl
theorem Su:bW [] (.rl vs)=some (!vs.isEmpty):=rfl
theorem Sv:bW [] (.tup vs)=some (!vs.isEmpty):=rfl
theorem Sw:nC .len [.rl vs]=.ok (true,.int vs.length):=rfl
theorem Sx:nC .len [.tup vs]=.ok (true,.int vs.length):=rfl
theorem Sy:nC .min [.int a,.int b]=.ok (true,.int (if b<a then b else a)):=rfl
theorem Sz:nC .max [.int a,.int b]=.ok (true,.int (if b>a then b else a)):=rfl
theorem OG:nC .list [.rl vs]=.ok (bH vs,.rl vs):=rfl
theorem OH:nC .list [.tup vs]=.ok (bH vs,.rl vs):=rfl
theorem SA:nC .int [.bl t]=.ok (true,.int (if t=true then 1 else 0)):=rfl
theorem sJ(h:kg vs a=some v):mD [] (.rl vs) (.int a)=some v:=h
theorem di(h:kg vs a=some v):mD [] (.tup vs) (.int a)=some v:=h
end
theorem sL:kg (v::vs) (0:Int)=some v:=by
 have:=qB (xs:=v::vs) (j:=0) (v:=v) rfl;exact this
theorem o9:kg (u::v::vs) (1:Int)=some v:=by
 have:=qB (xs:=u::v::vs) (j:=1) (v:=v) rfl;exact this
theorem jU:ku .seq [.rl vs]=some vs:=rfl
theorem OI:Fg .seq ds=ku .seq ds:=rfl
theorem OJ:Fg .range ds=ku .range ds:=rfl
theorem OL:Fg .enum ds=ku .enum ds:=rfl
theorem SD:ku .enum [.rl vs]=some (cL 0 vs):=rfl
theorem FH{lo hi:Option Int}:CZ (.rl vs) lo hi=.ok (bH (cz vs lo hi),.rl (cz vs lo hi)):=rfl
theorem bE{i:Nat}:dU (.one i) d env=some (env.set i (some (.sh,d))):=rfl
theorem OM{i j:Nat}:dU (.tup [i,j]) (.tup [d,e]) env=some ((env.set i (some (.sh,d))).set j (some (.sh,e))):=rfl
theorem nI{α β:Type}(f:α -> β)(ds:List α)(lo hi:Option Int):cz (ds.map f) lo hi=(cz ds lo hi).map f:=by
 unfold cz;simp only[length_map,List.map_take,List.map_drop]
theorem lu:∀(i:Nat) (ds:List Val),(cL i ds).length=ds.length
 |_,[]=>rfl
 |i,d::r=>by rw[cL,aaq,lu (i+1) r,aaq]
theorem nJ{α β γ:Type}{f:β -> Option γ}{g:α -> β}{k:α -> γ}:∀(xs:List α),(∀x∈xs,f (g x)=some (k x))->cO f (xs.map g)=some (xs.map k)
 |[],_=>rfl
 | x::r,h=>by
  rw[aaf,cO,h x aaa,nJ r λy hy=>h y (Z5 _ hy)];rfl
theorem ints_map(xs:List Int):cC (xs.map .int)=some xs:=by
 have:=nJ (f:=λv=>match v with|.int i=>some i|_=>none) (g:=Val.int) (k:=id) xs λ_ _=>rfl;rw[map_id]at this;exact this
theorem An(qC:List (List Int))(h:∀k∈qC,k≠[])(hl:qC.length<64):dQ (qC.map ni)=some ((nh qC).map ni):=by
 unfold dQ;rw[aab (by rw[Z9];exact hl)];cases qC with
 |nil=>rfl
 |cons k r=>
  have e:cC (List.map ni (k::r))=none:=by unfold cC ;rw[aaf,cO];rfl
  rw[e];have e2:lQ (List.map ni (k::r))=some (k::r):=by
   have:=nJ (f:=λv=>match v with|.tup vs=>if vs.isEmpty then none else cC vs|_=>none) (g:=ni) (k:=id) (k::r) λx hx=>by
    have hx:=h x hx;show (if (x.map Val.int).isEmpty=true then none else cC (x.map .int))=some x;rw[aad (by simpa using hx),ints_map]
   rw[map_id]at this;exact this
  show (lQ (List.map ni (k::r))).bind _=_;rw[e2];rfl
theorem ON{α:Type}{n:Nat}(f:α -> Val)(g:α -> PyData)(xs:List α)(e:∀x∈xs,toD n h (f x)=some (g x)):toD (n+1) h (.rl (xs.map f))=some (.list (xs.map g)):=by
 show (cO (toD n h) _).bind _=_;rw[nJ xs e];rfl
theorem FI{n:Nat}(hc:c env=.ok false):mJ c body (n+1) env=.ok (.nx env):=by
 rw[mJ,hc,aX,aad (by decide)]
theorem ly{α:Type}(enc:α -> Val)(Q:List α -> bB->Prop):∀(us done:List α) (env:bB),Q done env->(∀(pre:List α) (u:α) (post:List α) (env:bB),done++us=pre++u::post->Q pre env->∃env',body (enc u) env=.ok (.nx env')/\Q (pre++[u]) env')->∃env',gu body (us.map enc) env=.ok (.nx env')/\Q (done++us) env'
 |[],done,env,q,_=>⟨env,rfl,by rw[aaU];exact q⟩
 | x::xs,done,env,q,h=>by
  obtain⟨env',e,q'⟩:=h done x xs env rfl q;have eq:done++x::xs=done++[x]++xs:=by simp
  obtain⟨mG,e2,q2⟩:=ly enc Q xs (done++[x]) env' q' (by rw[<-eq];exact h);refine⟨mG,?_,by rw[eq];exact q2⟩;rw[aaf,gu,e,aX];exact e2
theorem dX{α:Type}(enc:α -> Val){us:List α}{oz:bB}{β:Type}{k:Fi->Pr β}(G:Pr β -> Prop)(Q:List α -> bB->Prop)(h0:Q [] oz)
  (step:∀(pre:List α) (u:α) (post:List α) (env:bB),us=pre++u::post->Q pre env->∃env',body (enc u) env=.ok (.nx env')/\Q (pre++[u]) env')
  (post:∀env',Q us env'->G (k (.nx env'))):G (pb (gu body (us.map enc) oz) k):=by
 obtain⟨env',e,q⟩:=ly enc Q us [] oz h0 (λpre x post env ep q=>step pre x post env ep q);rw[e,aX];exact post env' q
theorem bG:∀{l m:List Int},l.Nodup->(∀x∈l,x∈m)->l.length<=m.length
 |[],_,_,_=>zero_le _
 | x::r,m,h,hs=>by
  rw[aaF]at h;have hx:x∈m:=hs x aaa;have:=bG (m:=m.erase x) h.2 λy hy=>(List.mem_erase_of_ne (λe:y=x=>h.1 (e▸hy))).mpr (hs y (Z5 _ hy));rw[List.length_erase_of_mem hx]at this;have:=List.length_pos_of_mem hx;rw[aaq];omega
abbrev jG(xs:List Int)(g:Int->Val):Val:=.dc (xs.map Sum.inl) (xs.map g)
def ud(g:Int->Val)(x:Int)(v:Val):Int->Val:=λy=>if y=x then v else g y
theorem Ao(xs:List Int)(g:Int->Val):(xs.map (Sum.inl:Int->Key)).zip (xs.map g)=xs.map λx=>((Sum.inl x:Key),g x):=by
 induction xs with
 |nil=>rfl
 |cons x r ih=>simp only[map_cons,List.zip_cons_cons,ih]
theorem pe{xs:List Int}{x:Int}(h:x∈xs):mD [] (jG xs g) (.int x)=some (g x):=by
 show bV _ _=_;rw[Ao];unfold bV
 induction xs with
 |nil=>simp at h
 |cons y r ih=>
  rw[aaf,find?_cons]
  by_cases e:y=x
  ·subst e;simp
  ·have:((Sum.inl y:Key)=Sum.inl x)=False:=by simp[e]
   simp only[this,decide_false];exact ih (by rcases aap.mp h with h|h;exact absurd h.symm e;exact h)
theorem SE{xs:List Int}{x:Int}:cop [] .wX (.int x) (jG xs g)=some (decide (x∈xs)):=by
 show some ((xs.map (Sum.inl:Int->Key)).any λj=>decide (j=Sum.inl x))=_
 congr 1
 induction xs with
 |nil=>rfl
 |cons y r ih=>
  rw[aaf,any_cons,ih]
  by_cases e:y=x
  ·subst e;simp
  ·have e':¬ x=y:=λh=>e h.symm;simp[e,e']
theorem Aq(xs:List Int)(g:Int->Val)(x:Int):((xs.map λx=>((Sum.inl x:Key),g x)).any λkv=>decide (kv.1=Sum.inl x))=decide (x∈xs):=by
 induction xs with
 |nil=>rfl
 |cons y r ih=>
  rw[aaf,any_cons,ih]
  by_cases e:y=x
  ·subst e;simp
  ·have e':¬ x=y:=λh=>e h.symm;simp[e,e']
theorem Kc{xs:List Int}{x:Int}(h:x∈xs):putD (xs.map Sum.inl) (xs.map g) (.inl x) v=jG xs (ud g x v):=by
 unfold putD ie;rw[Ao,Aq,aab (by simpa using h)];unfold jG;rw[aaP,aaP]
 congr 1
 ·refine map_congr_left λy _=>?_
  show ((if (Sum.inl y:Key)=Sum.inl x then ((Sum.inl y:Key),v) else (Sum.inl y,g y)).1)=_
  split<;>rfl
 ·rw[aaP,aaP]
  refine map_congr_left λy _=>?_;show ((if (Sum.inl y:Key)=Sum.inl x then ((Sum.inl y:Key),v) else (Sum.inl y,g y)).2)=_;unfold ud
  by_cases e:y=x
  ·rw[aab (by rw[e]),aab e]
  ·rw[aad (by simpa using e),aad e]
theorem wc{xs:List Int}{x:Int}(h:x∉xs):putD (xs.map Sum.inl) (xs.map g) (.inl x) v=jG (xs++[x]) (ud g x v):=by
 unfold putD ie;rw[Ao,Aq,aad (by simpa using h)];unfold jG;simp only[map_append,List.map_map,map_cons,map_nil]
 congr 1
 congr 1
 ·refine map_congr_left λy hy=>?_;show g y=ud g x v y;unfold ud;rw[aad (λe:y=x=>h (e▸hy))]
 ·simp[ud]
theorem gD{xs:List Int}(h:∀x∈xs,g x=g' x):jG xs g=jG xs g':=by
 unfold jG;rw[map_congr_left h]
theorem BF{x:Int}:keyOf (.int x)=some (.inl x):=rfl
theorem Kd(a b:Int):PyData.eqv (.int a) (.int b)=decide (a=b):=by
 show (a==b)=_
 by_cases h:a=b<;>simp[h]
theorem sM{xs:List Int}{x:Int}:cop [] .wX (.int x) (.rl (xs.map .int))=some (decide (x∈xs)):=by
 show (toD 16 [] (.rl (xs.map .int))).bind _=_;rw[ON Val.int PyData.int xs λ_ _=>rfl];show some ((xs.map PyData.int).any λy=>PyData.eqv y (.int x))=_
 congr 1
 induction xs with
 |nil=>rfl
 |cons y r ih=>
  rw[aaf,any_cons,ih,Kd]
  by_cases e:y=x
  ·subst e;simp
  ·have e':¬ x=y:=λh=>e h.symm;simp[e,e']
theorem we{xs:List Int}{x:Int}:cop [] .nin (.int x) (.rl (xs.map .int))=some (!decide (x∈xs)):=by
 show (cop [] .wX (.int x) (.rl (xs.map .int))).map _=_;rw[sM];rfl
theorem sO(x:Int):∀(ns ks:List Int),x∈eG ks ns↔x∈ks\/x∈ns
 |[],ks=>by simp[eG]
 | k::r,ks=>by
  rw[eG,sO x r,rJ]
  split
  ·rename_i h
   constructor
   ·rintro(h'|h')
    ·exact .inl h'
    ·exact .inr (Z5 _ h')
   ·rintro(h'|h')
    ·exact .inl h'
    ·rcases aap.mp h' with h'|h'
     ·exact .inl (h'▸h)
     ·exact .inr h'
  ·simp[or_assoc]
theorem fL:∀(ns ks:List Int),ks.Nodup->(eG ks ns).Nodup
 |[],ks,h=>h
 | k::r,ks,h=>by
  rw[eG];refine fL r _ ?_;rw[rJ]
  split
  ·exact h
  ·rename_i hk;rw[aaH];exact⟨h,by simp,λa ha b hb=>by simp at hb;subst hb;exact λe=>hk (e▸ha)⟩
def fD(ns:List Int):List Int:=sortI (eG [] ns)
theorem FJ(x:Int)(ns:List Int):x∈fD ns↔x∈ns:=by
 unfold fD;rw[(aaO _).mem_iff,sO];simp
theorem jI(ns:List Int):(fD ns).Nodup:=by
 unfold fD;rw[(aaO _).nodup_iff];exact fL ns [] nodup_nil
inductive Way (es:List (Int×Int)):Int->Int->Prop
 |refl (a:Int):Way es a a
 |fwd {a b c:Int}:Way es a b->(b,c)∈es->Way es a c
 |bwd {a b c:Int}:Way es a b->(c,b)∈es->Way es a c
theorem Way.trans{a b c:Int}(h:Way es a b)(k:Way es b c):Way es a c:=by
 induction k with
 |refl=>exact h
 |fwd _ m ih=>exact .fwd ih m
 |bwd _ m ih=>exact .bwd ih m
theorem Way.symm{a b:Int}(h:Way es a b):Way es b a:=by
 induction h with
 |refl=>exact .refl _
 |fwd _ m ih=>exact(Way.bwd (.refl _) m).trans ih
 |bwd _ m ih=>exact(Way.fwd (.refl _) m).trans ih
theorem Way.mono(hs:∀e∈es,e∈fs){a b:Int}(h:Way es a b):Way fs a b:=by
 induction h with
 |refl=>exact .refl _
 |fwd _ m ih=>exact .fwd ih (hs _ m)
 |bwd _ m ih=>exact .bwd ih (hs _ m)
theorem Way.const{α:Type}(f:Int -> α)(hf:∀e∈es,f e.1=f e.2){a b:Int}(h:Way es a b):f a=f b:=by
 induction h with
 |refl=>rfl
 |fwd _ m ih=>exact ih.trans (hf _ m)
 |bwd _ m ih=>exact ih.trans (hf _ m).symm
structure lU (ps:List Int) (es:List (Int×Int)) (f:Int->Int):Prop where
 wX:∀x∈ps,f x∈ps
 way:∀x∈ps,Way es x (f x)
 same:∀e∈es,f e.1=f e.2
theorem lU.iff{ps:List Int}(h:lU ps es f){x y:Int}(hx:x∈ps)(hy:y∈ps):f x=f y↔Way es x y:=by
 constructor
 ·intro e;have:=(h.way y hy).symm;rw[<-e]at this;exact(h.way x hx).trans this
 ·exact λw=>w.const f h.same
theorem lU.start(ps:List Int):lU ps [] id:=⟨λx h=>h,λx _=>.refl x,λe h=>by simp at h⟩
theorem lU.step{ps:List Int}(h:lU ps es f){a b:Int}(ha:a∈ps)(hb:b∈ps)(kept gone:Int)(hk:(kept=f a/\gone=f b)\/(kept=f b/\gone=f a)):lU ps (es++[(a,b)]) (λx=>if f x=gone then kept else f x):=by
 have up:∀{x y},Way es x y->Way (es++[(a,b)]) x y:=λw=>w.mono λe he=>aas _ he;have ab:Way (es++[(a,b)]) a b:=.fwd (.refl _) (by simp);refine⟨λx hx=>?_,λx hx=>?_,λe he=>?_⟩
 ·split
  ·rcases hk with ⟨k,_⟩|⟨k,_⟩<;>rw[k]<;>exact h.wX _ (by assumption)
  ·exact h.wX x hx
 ·split
  ·rename_i e
   have w1:=up (h.way x hx);rw[e]at w1;refine w1.trans ?_
   rcases hk with ⟨k,g⟩|⟨k,g⟩
   ·rw[k,g];exact((up (h.way b hb)).symm.trans ab.symm).trans (up (h.way a ha))
   ·rw[k,g];exact((up (h.way a ha)).symm.trans ab).trans (up (h.way b hb))
  ·exact up (h.way x hx)
 ·rcases aat.mp he with he|he
  ·rw[h.same e he]
  ·rw[aaj]at he
   subst he
   rcases hk with ⟨k,g⟩|⟨k,g⟩
   ·rw[k,g];rw[aab (rfl:f b=f b)];split<;>rfl
   ·rw[k,g];rw[aab (rfl:f a=f a)];split<;>rfl
abbrev T3:=Int×Int×Int
def l3(t:T3):List Int:=[t.1,t.2.1,t.2.2]
def fE(t:T3):Val:=.tup [.int t.1,.int t.2.1,.int t.2.2]
def sP(x:T3):List T3->List T3
 |[]=>[x]
 |y::r=>if HT.lexLt (l3 y) (l3 x)=true then y::sP x r else x::y::r
def jV:List T3->List T3
 |[]=>[]
 |x::r=>sP x (jV r)
theorem yy(x:T3):∀l:List T3,vK (l3 x) (l.map l3)=(sP x l).map l3
 |[]=>rfl
 | y::r=>by
  rw[aaf,vK,sP]
  split
  ·rw[aaf,yy x r]
  ·rfl
theorem uU:∀l:List T3,nh (l.map l3)=(jV l).map l3
 |[]=>rfl
 |x::r=>by rw[aaf,nh,uU r,yy];rfl
theorem pq(x:T3):∀l:List T3,(sP x l).Perm (x::l)
 |[]=>.refl _
 | y::r=>by
  rw[sP]
  split
  ·exact((pq x r).cons y).trans (List.Perm.swap ..)
  ·exact .refl _
theorem fM:∀l:List T3,(jV l).Perm l
 |[]=>.refl _
 |x::r=>(pq x _).trans ((fM r).cons x)
theorem Ke(ts:List T3)(hl:ts.length<64):dQ (ts.map fE)=some ((jV ts).map fE):=by
 have e:∀us:List T3,us.map fE=(us.map l3).map ni:=λus=>by rw[aaP];rfl
 rw[e,An _ (λk hk=>by obtain⟨t,_,rfl⟩:=aaN.mp hk;simp[l3]) (by rw[Z9];exact hl),uU,e]
theorem yz(hl:ts.length<64):nC .sorted [.rl (ts.map fE)]=.ok (true,.rl ((jV ts).map fE)):=by
 show pb (pl (dQ _)) _=_;rw[Ke ts hl];rfl
def HV(ts:List T3):Prop:=ts.Pairwise λa b=>a.1<b.1
theorem BG(x:T3):∀l:List T3,HV l->(∀y∈l,y.1≠x.1)->HV (sP x l)
 |[],_,_=>by simp[sP,HV]
 | y::r,h,hn=>by
  unfold HV at *;rw[aaI]at h;have ny:y.1≠x.1:=hn y aaa;rw[sP];have lx:HT.lexLt (l3 y) (l3 x)=decide (y.1<x.1):=by show HT.lexLt (y.1::_) (x.1::_)=_;rw[HT.fG,aad ny]
  rw[lx]
  by_cases c:y.1<x.1
  ·rw[aab (by simpa using c),aaI]
   refine⟨λz hz=>?_,BG x r h.2 λz hz=>hn z (Z5 _ hz)⟩
   rcases aap.mp ((pq x r).mem_iff.mp hz) with hz|hz
   ·rw[hz];exact c
   ·exact h.1 z hz
  ·rw[aad (by simpa using c),aaI,aaI]
   refine⟨λz hz=>?_,h⟩;have:x.1<y.1:=by omega
   rcases aap.mp hz with hz|hz
   ·rw[hz];exact this
   ·have:=h.1 z hz;omega
theorem yC:∀l:List T3,(l.map (·.1)).Nodup->HV (jV l)
 |[],_=>.nil
 | x::r,h=>by
  rw[aaf,aaF]at h;refine BG x _ (yC r h.2) λy hy e=>h.1 ?_;rw[(fM r).mem_iff]at hy;exact aaN.mpr ⟨y,hy,e⟩
def turnT(t:T3):T3:=(t.1,if t.2.2<t.2.1 then t.2.2 else t.2.1,if t.2.2>t.2.1 then t.2.2 else t.2.1)
def cF(p q:Int)(ts:List T3):Val:=.tup [.tup [.int p,.int q],.rl (ts.map fE)]
theorem Kf{i j k:Nat}:dU (.tup [i,j,k]) (fE t) env=some (((env.set i (some (.sh,.int t.1))).set j (some (.sh,.int t.2.1))).set k (some (.sh,.int t.2.2))):=rfl
theorem C3{α:Type}(ds:List α)(lo:Int)(n:Nat)(h:0<=lo):(cz ds (some lo) (some (lo+n))).length<=n:=by
 unfold cz HT.eE;dsimp only;rw[aad (by omega),aad (by omega)];simp only[length_take,length_drop];omega
theorem OO:CZ (fE t) (some 1) none=.ok (true,.tup [.int t.2.1,.int t.2.2]):=rfl
theorem sS{α:Type}(enc:α -> Val)(g:α -> FV):∀(us:List α),(∀u∈us,f (enc u)=.ok (some (g u)))->jR f (us.map enc)=.ok (us.all λu=>(g u).1,us.map λu=>(g u).2)
 |[],_=>rfl
 | x::xs,h=>by
  rw[aaf,jR,h x aaa,aX,sS enc g xs λy hy=>h y (Z5 _ hy),aX];rfl
theorem jJ{α:Type}(enc dec:α -> Val)(us:List α)(h:∀u∈us,f (enc u)=.ok (some (true,dec u))):jR f (us.map enc)=.ok (true,us.map dec):=by
 rw[sS enc (λu=>(true,dec u)) us h];simp
theorem jK{α:Type}(enc dec:α -> Val)(t:α -> Bool):∀(us:List α),(∀u∈us,f (enc u)=.ok (if t u=true then some (true,dec u) else none))->jR f (us.map enc)=.ok (true,(us.filter t).map dec)
 |[],_=>rfl
 | x::xs,h=>by
  rw[aaf,jR,h x aaa,aX,jK enc dec t xs λy hy=>h y (Z5 _ hy),aX]
  by_cases hx:t x=true
  ·rw[aab hx,List.filter_cons_of_pos hx];rfl
  ·rw[aad hx,List.filter_cons_of_neg hx]
theorem Kg:∀m,m<67->∀d,d<67->0<m->0<d->(m*d)%67≠0:=by decide +kernel
theorem Kh{m c i j:Int}(hm:0<m/\m<67)(hi:0<=i/\i<67)(hj:0<=j/\j<67)(e:(m*i+c)%67=(m*j+c)%67):i=j:=by
 have key:∀i j:Int,0<=i->j<67->i<j->(m*i+c)%67=(m*j+c)%67->False:=by
  intro i j h0 h1 hlt e;obtain⟨a,ha⟩:=eq_ofNat_of_zero_le (show 0<=m by omega);obtain⟨d,hd⟩:=eq_ofNat_of_zero_le (show 0<=j-i by omega);have p:=Kg a (by omega) d (by omega) (by omega) (by omega);have:m*j=m*i+m*(j-i):=by rw[Int.mul_sub];omega
  rw[this]at e;have e2:(m*(j-i))%67=0:=by omega
  rw[ha,hd]at e2;apply p;have:((a*d:Nat):Int)%67=0:=by rw[Int.natCast_mul];exact e2
  omega
 rcases Int.lt_trichotomy i j with h|h|h
 ·exact(key i j hi.1 hj.2 h e).elim
 ·exact h
 ·exact(key j i hj.1 hi.2 h e.symm).elim
theorem nK{α:Type}{f:Hs->Option α}{a:α}(e:f h=some a):ask f h=.ok a h:=by show (match f h with|some a=>Out.ok a h|none=>Out.no)=_;rw[e]
theorem cB{α β:Type}{f:Hs->Option α}{g:α -> M β}{a:α}(e:f h=some a):bnd (ask f) g h=g a h:=af (nK e)
theorem lz{α β:Type}{o:Option α}{g:α -> M β}{a:α}(e:o=some a):bnd (bI o) g h=g a h:=af (by unfold bI;rw[e])
def HW:Val->Option (Int×Int×Int)
 |.tup [.int a,.int b,.int c]=>some (a,b,c)
 |_=>none
def jd(kvs:List (Key×Val))(t:Int×Int×Int):List (Key×Val):=ie kvs (.inl t.1) (.tup [.int t.2.1,.int t.2.2])
def bU(p q:Int)(ts:List (Int×Int×Int)):List (Key×Val):=ts.foldl jd [(.inl (-1),.tup [.int p,.int q])]
def kH(Ψ:Nat->List Val->Pr FV)(c jo jp:Nat)(ds:List Val):Pr FV:=match ds with
 | [net]=>(match Ψ jo [net] with
  | .ok (true,.tup [.tup [.int p,.int q],.rl ts])=>pb (pl (cO HW ts)) λes=>pg (decide (es.length<1000)) (match Ψ jp [.tup [.tup [.int p,.int q],.rl ts]] with
   |.ok (true,y)=>.ok (true,.ob c ["net","places","ends"] [.tup [.tup [.int p,.int q],.rl ts],y,.dc ((bU p q es).map (·.1)) ((bU p q es).map (·.2))])
   |_=>.no)
  |_=>.no)
 |_=>.no
abbrev sU(n jo jp:Nat):dP:=.cons (.setF n (!0) "net" (.call jo #[!1])) (.cons (.setF n (!0) "places" (.call jp #[.fld n (!0) "net"])) (.cons (.setF n (!0) "ends" (.dct1 (.con "THOUGHT" (.int (-1))) (.idx (.fld n (!0) "net") (¬0))))
 #[.for (.tup [2,3,4]) .seq #[.idx (.fld n (!0) "net") (¬1)] #[.fD (.fld n (!0) "ends") (!2) (.tup #[!3,!4])]]))
def BH(t:Int×Int×Int):Val:=.tup [.int t.1,.int t.2.1,.int t.2.2]
theorem Kl(e:HW v=some t):v=BH t:=by
 unfold HW at e;split at e
 ·cases e;rfl
 ·cases e
theorem yD:∀{vs:List Val} {ts:List (Int×Int×Int)},cO HW vs=some ts->vs=ts.map BH
 |[],ts,e=>by cases e;rfl
 | v::vs,ts,e=>by
  rw[cO]at e;obtain⟨t,e1,e⟩:=Z4.mp e;obtain⟨r,e2,e⟩:=Z4.mp e;cases e;rw[Kl e1,yD e2];rfl
theorem wg:∀ts:List (Int×Int×Int),bH (ts.map BH)=true
 |[]=>rfl
 |t::r=>by rw[aaf,bH,wg r];rfl
theorem FL(kvs:List (Key×Val))(k:Key)(v:Val):(ie kvs k v).length<=kvs.length+1:=by
 unfold ie
 split
 ·rw[Z9];omega
 ·rw[aag];simp
theorem FN(hv:iS v=true)(kvs:List (Key×Val))(h:∀kv∈kvs,iS kv.2=true):∀kv∈ie kvs k v,iS kv.2=true:=by
 unfold ie;intro kv hk;split at hk
 ·obtain⟨z,hz,rfl⟩:=aaN.mp hk
  split
  ·exact hv
  ·exact h z hz
 ·rcases aat.mp hk with hk|hk
  ·exact h kv hk
  ·rw[aaj.mp hk];exact hv
theorem yE:∀(ts:List (Int×Int×Int)) (kvs:List (Key×Val)),(∀kv∈kvs,iS kv.2=true)->∀kv∈ts.foldl jd kvs,iS kv.2=true
 |[],kvs,h=>h
 |t::r,kvs,h=>yE r _ (FN rfl kvs h)
theorem yF:∀{vs:List Val},(∀v∈vs,iS v=true)->bH vs=true
 |[],_=>rfl
 |v::vs,h=>by rw[bH,h v aaa,yF λw hw=>h w (Z5 _ hw)];rfl
section
variable {Φ:Nat->List Val->M Val} {Ψ:Nat->List Val->Pr FV}
theorem uV{n c D L E:Nat}{ts:List (Int×Int×Int)}{fs:List (Str×Val)}(hc:c<n)(hf:fs.lookup ("ends":Str)=some (Val.ref E))(OP:ts.length<1000)(WG:D≠E)(Vt:L≠E) :
  ∀(m j:Nat) (kvs:List (Key×Val)) (env:Env) (h h':Hs),m+j=ts.length->kvs.length<=j+1->env[0]?=some (some (.ref D))->4<env.length->h[D]?=some (.ins c fs)->h[L]?=some (.lst (ts.map BH))->h'.length=h.length->(∀k,k≠E->h'[k]?=h[k]?)->h'[E]?=some (.dct kvs) ->
  ∃env' h2,forM (.live L) (λx env=>bnd (bI (fX (.tup [2,3,4]) x env)) λenv'=>bR Φ #[.fD (.fld n (!0) "ends") (!2) (.tup #[!3,!4])] env') m j env h'=.ok (.nx env') h2 /\
   h2.length=h.length/\(∀k,k≠E->h2[k]?=h[k]?)/\h2[E]?=some (.dct ((ts.drop j).foldl jd kvs))
 | 0,j,kvs,env,h,h',hm,hk,he,hl,hD,hL,h1,h2,h3=>by
  refine⟨env,h',?_,h1,h2,?_⟩
  ·rw[forM,cB (a:=ts.map BH) (dN (by rw[h2 L Vt];exact hL))];unfold aC;rw[aab (decide_eq_true (by rw[Z9];omega))];rfl
  ·rw[List.drop_of_length_le (by omega)];exact h3
 | m+1,j,kvs,env,h,h',hm,hk,he,hl,hD,hL,h1,h2,h3=>by
  have hj:j<ts.length:=by omega
  have hE:E<h'.length:=(Z8.mp h3).1
  let gy:Env:=((env.set 2 (some (.int ts[j].1))).set 3 (some (.int ts[j].2.1))).set 4 (some (.int ts[j].2.2))
  have b1:fX (.tup [2,3,4]) (BH ts[j]) env=some gy:=rfl;have g0:gy[0]?=some (some (.ref D)):=by show (((env.set 2 _).set 3 _).set 4 _)[0]?=_;rw[Z6 (by omega),Z6 (by omega),Z6 (by omega)];exact he
  have g2:gy[2]?=some (some (.int ts[j].1)):=by show (((env.set 2 _).set 3 _).set 4 _)[2]?=_;rw[Z6 (by omega),Z6 (by omega),aah (by omega)]
  have g3:gy[3]?=some (some (.int ts[j].2.1)):=by show (((env.set 2 _).set 3 _).set 4 _)[3]?=_;rw[Z6 (by omega),aah (by rw[length_set];omega)]
  have g4:gy[4]?=some (some (.int ts[j].2.2)):=by show (((env.set 2 _).set 3 _).set 4 _)[4]?=_;rw[aah (by rw[length_set,length_set];omega)]
  have Yt:az Φ (.fld n (!0) "ends") gy h'=.ok (.ref E) h':=by rw[az,af (aA g0)];refine nK (f:=λh=>iG n h (.ref D) "ends") ?_;unfold iG;dsimp only;rw[h2 D WG,hD];dsimp only;rw[aab hc];exact hf
  have Yu:az Φ (.tup #[!3,!4]) gy h'=.ok (.tup [.int ts[j].2.1,.int ts[j].2.2]) h':=by
   rw[az,af (a:=[.int ts[j].2.1,.int ts[j].2.2]) (h1:=h')]
   ·unfold aC;rw[aab (decide_eq_true (show ([Val.int ts[j].2.1,Val.int ts[j].2.2]:List Val).length<=sizeLine from(by decide:2<=sizeLine)))];rfl
   ·rw[aK,af (aA g3),aK];rw[show bnd (bnd (az Φ (!4) gy) λd=>bnd (aK Φ .nil gy) λds=>ret (d::ds)) (λds=>ret (Val.int ts[j].2.1::ds)) h'=_ from af (a:=[.int ts[j].2.2]) (h1:=h') (by rw[af (aA g4),aK];rfl)];rfl
  have st:bR Φ #[.fD (.fld n (!0) "ends") (!2) (.tup #[!3,!4])] gy h'=.ok (.nx gy) (h'.set E (.dct (jd kvs ts[j]))):=by
   rw[bR,af (a:=Fl.nx gy) (h1:=h'.set E (.dct (jd kvs ts[j])))]
   ·dsimp only;rw[bR];rfl
   ·rw[dH,af Yu,af Yt,af (aA g2)]
    rw[af (a:=()) (h1:=h'.set E (.dct (jd kvs ts[j])))]
    ·rfl
    ·unfold uK;dsimp only;rw[cB (f:=λh=>h[E]?) h3];dsimp only;rw[lz (o:=keyOf (.int ts[j].1)) (a:=.inl ts[j].1) rfl];unfold aC;rw[aab (decide_eq_true (by unfold sizeLine;omega))];rfl
  have hlen:(jd kvs ts[j]).length<=j+1+1:=aaD (FL _ _ _) (by omega);obtain⟨mG,h4,r1,r2,r3,r4⟩:=uV hc hf OP WG Vt m (j+1) (jd kvs ts[j]) gy h (h'.set E (.dct (jd kvs ts[j]))) (by omega) hlen g0 (by show 4<(((env.set 2 _).set 3 _).set 4 _).length;simp;omega) hD hL (by simp[h1])
   (λk hk=>by rw[Z6 λz=>hk z.symm];exact h2 k hk) (aah hE)
  refine⟨mG,h4,?_,r2,r3,?_⟩
  ·rw[forM,cB (a:=ts.map BH) (dN (by rw[h2 L Vt];exact hL))]
   rw[show (ts.map BH)[j]?=some (BH ts[j]) by rw[aaB,aay hj];rfl];dsimp only;rw[af (a:=Fl.nx gy) (h1:=h'.set E (.dct (jd kvs ts[j])))]
   ·exact r1
   ·rw[lz b1];exact st
  ·rw[List.drop_eq_getElem_cons hj,List.foldl_cons];exact r4
theorem qK{n c i:Nat}(hc:c<n)(g:h[i]?=some (.ins c fs))(hl:fs.length<1000):bnd (AV n (.ref i) x v) (λ_=>ret (Fl.nx env)) h=.ok (.nx env) (h.set i (.ins c (rR x v fs))):=by
 unfold AV;dsimp only;rw[bD,cB (a:=(c,fs)) (by rw[g];dsimp only;rw[aab hc])];dsimp only;unfold bnd aC;rw[aab (decide_eq_true hl)];rfl
theorem yG{n c jo jp:Nat}(hc:c<n)(hΦ:∀j,Imp (Φ j) (Ψ j)){p q':Int}(u:Up A h)(qn:Dn A h net v)(e1:Ψ jo [net]=.ok (true,.tup [.tup [.int p,.int q'],.rl ts]))(e2:cO HW ts=some es)(hz:es.length<1000)
  (e3:Ψ jp [.tup [.tup [.int p,.int q'],.rl ts]]=.ok (true,y)):∃(h8:Hs) (V1 v2 vE:Val),fJ Φ 5 (sU n jo jp) [.ref h.length,v] (h++[Ob.ins c []])=.ok .non h8/\h<+:h8/\h8[h.length]?=some (.ins c [("net",V1),("places",v2),("ends",vE)]) /\
   ∀B:AP,(∀k,h.length+1<=k->B (some k))->ao B h8 [.tup [.tup [.int p,.int q'],.rl ts],y,.dc ((bU p q' es).map (·.1)) ((bU p q' es).map (·.2))] [V1,v2,vE]:=by
 have et:=yD e2;have WH:h<+:h++[Ob.ins c []]:=aa0 _ _;have u1:=u.ext WH;have R1:=hΦ jo A (h++[Ob.ins c []]) [net] [v] u1 (ao.cons (qn.ext WH) ao.nil);rw[e1] at R1;obtain⟨v1,h2,f1,Vu,_,dF⟩:=R1;have dA:=dF rfl;clear dF;have NL:h2[h.length]?=some (.ins c []):=bL Vu (by simp);have l2:h.length+1<=h2.length:=by have:=Vu.length_le;simpa using this
 rw[Dn]at dA;obtain⟨ws,rfl,dB⟩:=dA;rw[ao]at dB;obtain⟨w0,r0,rfl,d0,d1⟩:=dB;obtain⟨w1,rfl,d5⟩:=ao.one d1;clear d1;have Yv:w0=.tup [.int p,.int q']:=(dM _ _ (show iS (.tup [.int p,.int q'])=true from rfl)).mp d0;subst Yv;rw[Dn]at d5
 rcases d5 with ⟨_,_,z,_⟩|⟨L,ws,rfl,aL,gL,d6⟩
 ·exact False.elim z
 rw[et]at d6;have Yw:ws=es.map BH:=(aT _ _ (wg es)).mp d6;subst Yw;have hL:(h++[Ob.ins c []]).length<=L:=aL;have hL':h.length+1<=L:=by simpa using hL
 have lL:L<h2.length:=(Z8.mp gL).1
 let V1:Val:=.tup [.tup [.int p,.int q'],.ref L]
 let h3:Hs:=h2.set h.length (.ins c [("net",V1)])
 have PN:h3[h.length]?=some (.ins c [("net",V1)]):=aah (by omega);have WI:h3[L]?=some (.lst (es.map BH)):=by show (h2.set _ _)[L]?=_;rw[Z6 (by omega)];exact gL
 have l3:h3.length=h2.length:=length_set;have WJ:Dn (Fr (h.length+1)) h3 (.tup [.tup [.int p,.int q'],.rl ts]) V1:=by rw[Dn];refine⟨_,rfl,ao.cons ((dM _ _ (show iS (.tup [.int p,.int q'])=true from rfl)).mpr rfl) (ao.cons ?_ ao.nil)⟩;rw[Dn];exact .inr ⟨L,_,rfl,hL',WI,by rw[et];exact(aT _ _ (wg es)).mpr rfl⟩
 have R2:=hΦ jp (Fr (h.length+1)) h3 [.tup [.tup [.int p,.int q'],.rl ts]] [V1] (λk hk=>by show h.length+1<=k;omega) (ao.cons WJ ao.nil);rw[e3] at R2;obtain⟨v2,h4,f2,SG,_,dG⟩:=R2;have d2:=dG rfl;clear dG;have Ru:h4[h.length]?=some (.ins c [("net",V1)]):=bL SG PN;have l4:h3.length<=h4.length:=SG.length_le
 let h5:Hs:=h4.set h.length (.ins c [("net",V1),("places",v2)])
 have WK:h5[h.length]?=some (.ins c [("net",V1),("places",v2)]):=aah (by omega);have l5:h5.length=h4.length:=length_set
 let h6:Hs:=h5++[Ob.dct [(.inl (-1),.tup [.int p,.int q'])]]
 have Yx:h6[h.length]?=some (.ins c [("net",V1),("places",v2)]):=bL (aa0 _ _) WK;have l6:h6.length=h5.length+1:=by show (h5++[_]).length=_;simp
 let FS:List (Str×Val):=[("net",V1),("places",v2),("ends",.ref h5.length)]
 let h7:Hs:=h6.set h.length (.ins c FS)
 have Vv:h7[h.length]?=some (.ins c FS):=aah (by omega);have l7:h7.length=h6.length:=length_set;have Yy:h7[h5.length]?=some (.dct [(.inl (-1),.tup [.int p,.int q'])]):=by show (h6.set _ _)[h5.length]?=_;rw[Z6 (by omega)];show (h5++[_])[h5.length]?=_;simp
 have hk7:∀k,k≠h.length->k<h4.length->h7[k]?=h4[k]?:=λk n1 n2=>by
  show (h6.set _ _)[k]?=_;rw[Z6 λz=>n1 z.symm];show (h5++[_])[k]?=_;rw[aam (by omega)];show (h4.set _ _)[k]?=_;rw[Z6 λz=>n1 z.symm]
 have Yz:h4[L]?=some (.lst (es.map BH)):=bL SG WI;have WL:h7[L]?=some (.lst (es.map BH)):=by rw[hk7 L (by omega) (by omega)];exact Yz
 let env:Env:=[some (.ref h.length),some v,none,none,none]
 have k1:("ends":Str) ≠ "net":=by decide
 obtain⟨env',h8,lp,l8,k8,d8⟩:=uV (Φ:=Φ) (fs:=FS) (ts:=es) hc (by rfl) hz (by omega) (by omega) es.length 0 [(.inl (-1),.tup [.int p,.int q'])] env h7 h7 (by omega) (by simp) rfl (by decide:4<5) Vv WL rfl (λ_ _=>rfl) Yy;have fldN:∀(g:Hs) (fs:List (Str×Val)),g[h.length]?=some (.ins c (("net",V1)::fs))->az Φ (.fld n (!0) "net") env g=.ok V1 g:=λg fs hg=>by
  rw[az,af (aA rfl)];refine nK (f:=λh'=>iG n h' (.ref h.length) "net") ?_;unfold iG;dsimp only;rw[hg];dsimp only;rw[aab hc];rfl
 have s1:dH Φ (.setF n (!0) "net" (.call jo #[!1])) env (h++[Ob.ins c []])=.ok (.nx env) h3:=by
  have e:az Φ (.call jo #[!1]) env (h++[Ob.ins c []])=.ok V1 h2:=by
   rw[az,af (a:=[v]) (h1:=h++[Ob.ins c []])]
   ·exact f1
   ·rw[aK,af (aA rfl),aK];rfl
  rw[dH,af e,af (aA rfl)];exact qK hc NL (by decide)
 have s2:dH Φ (.setF n (!0) "places" (.call jp #[.fld n (!0) "net"])) env h3=.ok (.nx env) h5:=by
  have e:az Φ (.call jp #[.fld n (!0) "net"]) env h3=.ok v2 h4:=by
   rw[az,af (a:=[V1]) (h1:=h3)]
   ·exact f2
   ·rw[aK,af (fldN h3 [] PN),aK];rfl
  rw[dH,af e,af (aA rfl)];exact qK hc Ru (by decide:1<1000)
 have s3:dH Φ (.setF n (!0) "ends" (.dct1 (.con "THOUGHT" (.int (-1))) (.idx (.fld n (!0) "net") (¬0)))) env h5=.ok (.nx env) h7:=by
  have e0:az Φ (.idx (.fld n (!0) "net") (¬0)) env h5=.ok (.tup [.int p,.int q']) h5:=by rw[az,af (fldN h5 _ WK),af (a:=.int 0) (h1:=h5) (by rw[az];rfl)];rfl
  have e:az Φ (.dct1 (.con "THOUGHT" (.int (-1))) (.idx (.fld n (!0) "net") (¬0))) env h5=.ok (.ref h5.length) h6:=by rw[az,af (a:=.int (-1)) (h1:=h5) (by rw[az];rfl),lz (o:=keyOf (.int (-1))) (a:=.inl (-1)) rfl,af e0];rfl
  rw[dH,af e,af (aA rfl)];exact qK hc Yx (by decide:2<1000)
 have s4:dH Φ (.for (.tup [2,3,4]) .seq #[.idx (.fld n (!0) "net") (¬1)] #[.fD (.fld n (!0) "ends") (!2) (.tup #[!3,!4])]) env h7=.ok (.nx env') h8:=by
  have e0:az Φ (.idx (.fld n (!0) "net") (¬1)) env h7=.ok (.ref L) h7:=by rw[az,af (fldN h7 _ Vv),af (a:=.int 1) (h1:=h7) (by rw[az];rfl)];rfl
  rw[dH,af (a:=[.ref L]) (h1:=h7)]
  ·rw[lz (o:=srcOf .seq [.ref L]) (a:=.live L) rfl,cB (a:=es.map BH) (dN WL),Z9];exact lp
  ·rw[aK,af e0,aK];rfl
 have run:fJ Φ 5 (sU n jo jp) [.ref h.length,v] (h++[Ob.ins c []])=.ok .non h8:=by
  unfold fJ;rw[af (a:=Fl.nx env') (h1:=h8)]
  ·rfl
  ·show bR Φ (sU n jo jp) env _=_;rw[bR,af s1];dsimp only;rw[bR,af s2];dsimp only;rw[bR,af s3];dsimp only;rw[bR,af s4];dsimp only;rw[bR];rfl
 have Vw:∀k,k≠h.length->k<h4.length->h8[k]?=h4[k]?:=λk n1 n2=>(k8 k (by omega)).trans (hk7 k n1 n2);have hpre:h<+:h8:=by
  refine List.prefix_iff_getElem?.mpr λi hi=>?_;have YA:i<h4.length:=by omega
  rw[Vw i (by omega) YA];have:(h2.set h.length (.ins c [("net",V1)]))[i]?=h2[i]?:=Z6 (by omega);have YB:h4[i]?=h3[i]?:=jb SG (by omega);rw[YB,this,jb Vu (by simp;omega),aam hi,aay hi]
 refine⟨h8,V1,v2,.ref h5.length,run,hpre,by rw[k8 _ (by omega)];exact Vv,λB hB=>ao.cons ?_ (ao.cons ?_ (ao.cons ?_ ao.nil))⟩
 ·refine Dn.mono (A:=Fr (h.length+1)) (h:=h3) (λo z=>?_) (λk o a g=>?_) _ _ WJ
  ·cases o with
   |none=>exact False.elim z
   |some k=>exact hB k z
  ·have a:h.length+1<=k:=a;have:=(Z8.mp g).1;rw[Vw k (by omega) (by omega)];exact bL SG g
 ·refine Dn.mono (A:=Fr h3.length) (h:=h4) (λo z=>?_) (λk o a g=>?_) _ _ d2
  ·cases o with
   |none=>exact False.elim z
   |some k=>exact hB k (by have:h3.length<=k:=z;omega)
  ·have a:h3.length<=k:=a;have:=(Z8.mp g).1;rw[Vw k (by omega) (by omega)];exact g
 ·rw[Dn]
  refine⟨h5.length,bU p q' es,rfl,hB _ (by omega),?_,rfl,?_⟩
  ·rw[drop_zero]at d8;exact d8
  ·refine(aT _ _ (yF λw hw=>?_)).mpr rfl;obtain⟨kv,hkv,rfl⟩:=aaN.mp hw;exact yE es _ (λkv hk=>by rw[aaj.mp hk];rfl) kv hkv
theorem yH{n c jo jp:Nat}(hc:c<n)(hΦ:∀j,Imp (Φ j) (Ψ j)):Imp (Dm c (fJ Φ 5 (sU n jo jp))) (kH Ψ c jo jp):=λA h ds vs u q=>by
 unfold kH
 split
 ·rename_i net
  obtain⟨v,rfl,qn⟩:=ao.one q
  split
  ·rename_i p q' ts e1
   cases e2:cO HW ts with
   |none=>trivial
   |some es=>
    show Rel A h (RV A h) _ (pg (decide (es.length<1000)) _)
    by_cases hz:es.length<1000
    ·unfold pg
     rw[aab (decide_eq_true hz)]
     split
     ·rename_i y e3
      obtain⟨h8,V1,v2,vE,r1,p8,g8,d8⟩:=yG (Ψ:=Ψ) hc hΦ u qn e1 e2 hz e3;have run:Dm c (fJ Φ 5 (sU n jo jp)) [v] h=.ok (.ref h.length) h8:=by show bnd (fJ Φ 5 (sU n jo jp) [.ref h.length,v]) _ (h++[Ob.ins c []])=_;rw[af r1];rfl
      have dn:∀B:AP,(∀k,h.length<=k->B (some k))->Dn B h8 (.ob c ["net","places","ends"] [.tup [.tup [.int p,.int q'],.rl ts],y,.dc ((bU p q' es).map (·.1)) ((bU p q' es).map (·.2))]) (.ref h.length):=λB hB=>by
       rw[Dn];exact⟨h.length,_,rfl,hB _ (aae _),g8,rfl,d8 B λk hk=>hB k (by omega)⟩
      exact⟨_,h8,run,p8,dn A λk hk=>u k hk,λ_=>dn _ λk hk=>hk⟩
     ·trivial
    ·unfold pg;rw[aad (by simpa using hz)];trivial
  ·trivial
 ·trivial
def uW(Ψ' Ψ:Nat->List Val->Pr FV)(c jo jp jt jr:Nat)(ds:List Val):Pr FV:=match kH Ψ' c jo jp ds with
 | .ok (_,.ob c' ns vs)=>(match Ψ jt [.ob c' ns vs] with
  | .ok (_,t)=>(match Ψ jr [.ob c' ns vs,t] with
   |.ok (_,.int m)=>.ok (true,.ob c' (ns++[("whole":Str)]) (vs++[.int m]))
   |_=>.no)
  |_=>.no)
 |_=>.no
abbrev BI(n ji:Nat)(jst jsr:List (Nat×Nat)):dP:=.cons (.expr (.call ji #[!0,!1])) #[.setF n (!0) "whole" (.mth (!0) "tree_rank" jsr #[.mth (!0) "ties" jst .nil])]
theorem FO{c jo jp:Nat}(e:kH Ψ c jo jp ds=.ok fw):∃net p q ts es y,ds=[net] /\ Ψ jo [net]=.ok (true,.tup [.tup [.int p,.int q],.rl ts])/\cO HW ts=some es/\es.length<1000 /\ Ψ jp [.tup [.tup [.int p,.int q],.rl ts]]=.ok (true,y) /\
  fw=(true,.ob c ["net","places","ends"] [.tup [.tup [.int p,.int q],.rl ts],y,.dc ((bU p q es).map (·.1)) ((bU p q es).map (·.2))]):=by
 unfold kH at e;split at e
 ·rename_i net
  split at e
  ·rename_i p q ts e1
   cases e2:cO HW ts with
   |none=>rw[e2]at e;cases e
   |some es=>
    rw[e2]at e;change pg (decide (es.length<1000)) _=_ at e;unfold pg at e
    by_cases hz:es.length<1000
    ·rw[aab (decide_eq_true hz)]at e
     split at e
     ·rename_i y e3;cases e;exact⟨net,p,q,ts,es,y,rfl,e1,e2,hz,e3,rfl⟩
     ·cases e
    ·rw[aad (by simpa using hz)]at e;cases e
  ·cases e
 ·cases e
theorem FP{c c' jo jp jt jr:Nat}{f f1 f2:Bool}{m:Int}(e0:kH Ψ' c jo jp ds=.ok (f,.ob c' ns vs))(e1:Ψ jt [.ob c' ns vs]=.ok (f1,t))(e2:Ψ jr [.ob c' ns vs,t]=.ok (f2,.int m)):uW Ψ' Ψ c jo jp jt jr ds=.ok (true,.ob c' (ns++[("whole":Str)]) (vs++[.int m])):=by
 unfold uW;rw[e0];dsimp only;rw[e1];dsimp only;rw[e2]
theorem yI:Imp φ (λ_=>.no):=λ_ _ _ _ _ _=>trivial
theorem FQ{n c ji jo jp jt jr:Nat}(hc:c<n)(YC:∀j,Imp (Φ' j) (Ψ' j))(hΦ:∀j,Imp (Φ j) (Ψ j))(hji:Φ ji=fJ Φ' 5 (sU n jo jp))(ht:jst.lookup c=some jt)(hr:jsr.lookup c=some jr) :
  Imp (Dm c (fJ Φ 2 (BI n ji jst jsr))) (uW Ψ' Ψ c jo jp jt jr):=λA h ds vs u q=>by
 unfold uW;cases e0:kH Ψ' c jo jp ds with
 |no=>trivial
 |exc _ _=>trivial
 |ok fw=>
  obtain⟨net,p,q',ts,es,y,rfl,e1,e2,hz,e3,rfl⟩:=FO e0;dsimp only;obtain⟨v,rfl,qn⟩:=ao.one q;obtain⟨h8,V1,v2,vE,r1,p8,g8,d8⟩:=yG (Φ:=Φ') (Ψ:=Ψ') hc YC u qn e1 e2 hz e3;have l8:=p8.length_le;have b8:h.length<h8.length:=(Z8.mp g8).1;have dO:∀h',h8<+:h'->Dn (Fr h.length) h' (.ob c ["net","places","ends"] [.tup [.tup [.int p,.int q'],.rl ts],y,.dc ((bU p q' es).map (·.1)) ((bU p q' es).map (·.2))]) (.ref h.length):=λh' p'=>by
   rw[Dn];exact⟨h.length,_,rfl,aae _,bL p' g8,rfl,ao.mono (λ_ a=>a) (λ_ _ _ g=>bL p' g) _ _ (d8 (Fr h.length) λk hk=>show h.length<=k by omega)⟩
  have R1:=hΦ jt (Fr h.length) h8 _ _ (λk hk=>show h.length<=k by omega) (ao.cons (dO h8 (aaC _)) ao.nil);generalize hob:Val.ob c ["net","places","ends"] [.tup [.tup [.int p,.int q'],.rl ts],y,.dc ((bU p q' es).map (·.1)) ((bU p q' es).map (·.2))]=ob at R1 dO;cases e4:Ψ jt [ob] with
  |no=>trivial
  |exc _ _=>trivial
  |ok ft=>
   obtain⟨f1,t⟩:=ft;dsimp only;rw[e4] at R1;obtain⟨vt,h9,x1,p9,d9,_⟩:=R1;have l9:=p9.length_le;have R2:=hΦ jr (Fr h.length) h9 _ _ (λk hk=>show h.length<=k by omega) (ao.cons (dO h9 p9) (ao.cons d9 ao.nil));cases e5:Ψ jr [ob,t] with
   |no=>trivial
   |exc _ _=>trivial
   |ok fm=>
    obtain⟨f2,m⟩:=fm;rw[e5] at R2;obtain⟨vm,NN,x2,TQ,PU,dz⟩:=R2;clear dz;cases m<;>first|trivial|skip
    rename_i m;have PU:Dn (Fr h.length) NN (.int m) vm:=PU;rw[Dn] at PU;subst PU;subst hob;dsimp only;have YD:=bL (p9.trans TQ) g8;have g9:=bL p9 g8;have ZU:=TQ.length_le
    let h11:Hs:=NN.set h.length (.ins c [("net",V1),("places",v2),("ends",vE),("whole",.int m)])
    let env:Env:=[some (.ref h.length),some v]
    have mt:∀(g:Hs) (x:Str) (js:List (Nat×Nat)) (jj:Nat),g[h.length]?=some (.ins c [("net",V1),("places",v2),("ends",vE)])->("net":Str)≠x->("places":Str)≠x->("ends":Str)≠x->js.lookup c=some jj->lE g (.ref h.length) x js=some jj:=λg x js jj hg n1 n2 n3 hj=>by
     unfold lE;dsimp only;rw[hg];dsimp only;rw[aab]
     ·exact hj
     ·rw[aaK,aaK,aaK,List.lookup_nil];rw[aaJ.mpr n1.symm,aaJ.mpr n2.symm,aaJ.mpr n3.symm];rfl
    have s1:dH Φ (.expr (.call ji #[!0,!1])) env (h++[Ob.ins c []])=.ok (.nx env) h8:=by
     rw[dH,af (a:=.non) (h1:=h8)]
     ·rfl
     ·rw[az,af (a:=[.ref h.length,v]) (h1:=h++[Ob.ins c []])]
      ·rw[hji];exact r1
      ·rw[aK,af (aA rfl),aK];rw[show bnd (bnd (az Φ (!1) env) λd=>bnd (aK Φ .nil env) λds=>ret (d::ds)) (λds=>ret (Val.ref h.length::ds)) (h++[Ob.ins c []])=_ from af (a:=[v]) (h1:=h++[Ob.ins c []]) (by rw[af (aA rfl),aK];rfl)];rfl
    have eT:az Φ (.mth (!0) "ties" jst .nil) env h8=.ok vt h9:=by rw[az,af (aA rfl),cB (a:=jt) (mt h8 _ _ _ g8 (by decide) (by decide) (by decide) ht),aK];exact x1
    have s2:dH Φ (.setF n (!0) "whole" (.mth (!0) "tree_rank" jsr #[.mth (!0) "ties" jst .nil])) env h8=.ok (.nx env) h11:=by
     have e:az Φ (.mth (!0) "tree_rank" jsr #[.mth (!0) "ties" jst .nil]) env h8=.ok (.int m) NN:=by
      rw[az,af (aA rfl),cB (a:=jr) (mt h8 _ _ _ g8 (by decide) (by decide) (by decide) hr),aK];rw[af (a:=[vt]) (h1:=h9)]
      ·exact x2
      ·rw[af eT,aK];rfl
     rw[dH,af e,af (aA rfl)];exact qK hc YD (by decide:3<1000)
    have run:Dm c (fJ Φ 2 (BI n ji jst jsr)) [v] h=.ok (.ref h.length) h11:=by
     show bnd (fJ Φ 2 (BI n ji jst jsr) [.ref h.length,v]) _ (h++[Ob.ins c []])=_;rw[af (a:=.non) (h1:=h11)]
     ·rfl
     ·unfold fJ
      rw[af (a:=Fl.nx env) (h1:=h11)]
      ·rfl
      ·show bR Φ (BI n ji jst jsr) env _=_;rw[bR,af s1];dsimp only;rw[bR,af s2];dsimp only;rw[bR];rfl
    have hpre:h<+:h11:=by refine List.prefix_iff_getElem?.mpr λi hi=>?_;show (NN.set _ _)[i]?=_;rw[Z6 (by omega)];exact List.prefix_iff_getElem?.mp ((p8.trans p9).trans TQ) i hi
    have YE:h11[h.length]?=some (.ins c [("net",V1),("places",v2),("ends",vE),("whole",.int m)]):=aah (by omega);have dn:∀B:AP,(∀k,h.length<=k->B (some k))->Dn B h11 (.ob c ((["net","places","ends"]:List Str)++[("whole":Str)]) ([.tup [.tup [.int p,.int q'],.rl ts],y,.dc ((bU p q' es).map (·.1)) ((bU p q' es).map (·.2))]++[.int m])) (.ref h.length):=λB hB=>by
     rw[Dn];refine⟨h.length,_,rfl,hB _ (aae _),YE,rfl,?_⟩;have dd:=ao.mono (A':=B) (h':=h11) (λo z=>?_) (λk o a g=>?_) _ _ (d8 (Fr (h.length+1)) λk hk=>hk)
     ·exact ao.app dd (ao.cons ((dM _ _ rfl).mpr rfl) ao.nil)
     ·cases o with
      |none=>exact False.elim z
      |some k=>exact hB k (by have:h.length+1<=k:=z;omega)
     ·have a:h.length+1<=k:=a;show (NN.set _ _)[k]?=_;rw[Z6 (by omega)];exact bL (p9.trans TQ) g
    exact⟨_,h11,run,hpre,dn A λk hk=>u k hk,λ_=>dn _ λk hk=>hk⟩
end
def cnt(φ:Int->Int)(ps:List Int):Nat:=(eG [] (ps.map φ)).length
theorem fV{ps:List Int}{v:Int}:v∈eG [] (ps.map φ)↔∃x∈ps,φ x=v:=by
 rw[sO];simp
theorem FT{ps:List Int}(h:∀x∈ps,∀y∈ps,g x=g y->f x=f y):cnt f ps<=cnt g ps:=by
 classical
 let r:Int->Int:=λv=>if hv:∃x∈ps,f x=v then g (Classical.choose hv) else 0
 have hr:∀v∈eG [] (ps.map f),∃x∈ps,f x=v/\r v=g x:=λv hv=>by
  have e:=fV.mp hv;refine⟨Classical.choose e,(choose_spec e).1,(choose_spec e).2,?_⟩;show (if hv:∃x∈ps,f x=v then g (Classical.choose hv) else 0)=_;rw[dif_pos e]
 have nd:((eG [] (ps.map f)).map r).Nodup:=by
  have n0:=fL (ps.map f) [] nodup_nil;revert hr n0;generalize eG [] (ps.map f)=l;intro hr n0
  induction l with
  |nil=>exact nodup_nil
  |cons v l ih=>rw[aaF]at n0;rw[aaf,aaF];refine⟨λhm=>?_,ih (λw hw=>hr w (Z5 _ hw)) n0.2⟩;obtain⟨w,hw,e⟩:=aaN.mp hm;obtain⟨x,hx,e1,e2⟩:=hr v (aaa ..);obtain⟨y,hy,e3,e4⟩:=hr w (Z5 _ hw);have:f x=f y:=h x hx y hy (by rw[<-e2,<-e4,e]);exact n0.1 (by rw[<-e1,this,e3];exact hw)
 have:=bG nd (m:=eG [] (ps.map g)) λz hz=>by
  obtain⟨v,hv,rfl⟩:=aaN.mp hz;obtain⟨x,hx,_,e2⟩:=hr v hv;rw[e2];exact fV.mpr ⟨x,hx,rfl⟩
 rw[Z9]at this;exact this
theorem OQ{ps:List Int}(h:∀x∈ps,∀y∈ps,f x=f y↔g x=g y):cnt f ps=cnt g ps :=
 Nat.le_antisymm (FT λx hx y hy=>(h x hx y hy).mpr) (FT λx hx y hy=>(h x hx y hy).mp)
theorem cnt_join{ps:List Int}{a b:Int}(ha:a∈ps)(hb:b∈ps)(ne:ψ a ≠ ψ b):cnt (λx=>if ψ x = ψ b then ψ a else ψ x) ps+1=cnt ψ ps:=by
 have m1:ψ b∈eG [] (ps.map ψ):=fV.mpr ⟨b,hb,rfl⟩;have n1:=fL (ps.map ψ) [] nodup_nil;have n2:=fL (ps.map λx=>if ψ x = ψ b then ψ a else ψ x) [] nodup_nil;have YF:=bG n2 (m:=(eG [] (ps.map ψ)).erase (ψ b)) λv hv=>by
  obtain⟨x,hx,e⟩:=fV.mp hv;rw[List.Nodup.mem_erase_iff n1]
  by_cases c:ψ x = ψ b
  ·rw[aab c]at e;subst e;exact⟨ne,fV.mpr ⟨a,ha,rfl⟩⟩
  ·rw[aad c]at e;subst e;exact⟨c,fV.mpr ⟨x,hx,rfl⟩⟩
 have YG:=bG (n1.erase (ψ b)) (m:=eG [] (ps.map λx=>if ψ x = ψ b then ψ a else ψ x)) λv hv=>by
  rw[List.Nodup.mem_erase_iff n1]at hv;obtain⟨x,hx,e⟩:=fV.mp hv.2;subst e;exact fV.mpr ⟨x,hx,by rw[aad hv.1]⟩
 rw[List.length_erase_of_mem m1] at YF YG;have:=List.length_pos_of_mem m1;unfold cnt;omega
theorem lU.fix{ps:List Int}(h:lU ps es φ){x:Int}(hx:x∈ps):φ (φ x) = φ x:=((h.way x hx).const φ h.same).symm
def rk(φ:Int->Int)(ps:List Int):Nat:=(ps.filter λx=>!decide (φ x=x)).length
theorem BJ(t:Int->Bool):∀ps:List Int,(ps.filter t).length+(ps.filter λx=>!t x).length=ps.length
 |[]=>rfl
 | x::r=>by
  have ih:=BJ t r;cases h:t x with
  |true=>rw[List.filter_cons_of_pos h,List.filter_cons_of_neg (by simp[h]),aaq,aaq];omega
  |false=>rw[List.filter_cons_of_neg (by simp[h]),List.filter_cons_of_pos (by simp[h]),aaq,aaq];omega
theorem wj{ps:List Int}(h:lU ps es φ)(hn:ps.Nodup):rk φ ps+cnt φ ps=ps.length:=by
 have e:cnt φ ps=(ps.filter λx=>decide (φ x=x)).length:=by
  unfold cnt;refine Nat.le_antisymm (bG (fL _ [] nodup_nil) λv hv=>?_) (bG (hn.filter _) λv hv=>?_)
  ·obtain⟨x,hx,rfl⟩:=fV.mp hv;exact aai.mpr ⟨h.wX x hx,decide_eq_true (h.fix hx)⟩
  ·obtain⟨a,b⟩:=aai.mp hv;exact fV.mpr ⟨v,a,aar b⟩
 rw[e];have:=BJ (λx=>decide (φ x=x)) ps;unfold rk;omega
theorem SH{ps:List Int}{n:Nat}(h1:lU ps es φ)(h2:lU ps es ψ)(hn:ps.Nodup)(e:n+cnt ψ ps=ps.length):n=rk φ ps:=by
 have c:cnt φ ps=cnt ψ ps:=OQ λx hx y hy=>by rw[h1.iff hx hy,h2.iff hx hy]
 have:=wj h1 hn;omega
theorem lU.C4{ps:List Int}(h:lU ps es f){a b:Int}(ha:a∈ps)(hb:b∈ps)(e:f a=f b):lU ps (es++[(a,b)]) f:=by
 have:=h.step ha hb (f a) (f b) (.inl ⟨rfl,rfl⟩);have ef:(λx=>if f x=f b then f a else f x)=f:=funext λx=>by
  split
  ·rename_i c;rw[c,e]
  ·rfl
 rwa [ef]at this
theorem yJ:∀ks:List Int,rP (ks.map Sum.inl)=some ks
 |[]=>rfl
 | x::r=>by
  have ih:=yJ r;unfold rP at ih |-;rw[aaf,cO,ih];rfl
theorem FU{ks:List Int}(h:ks.length<64):mE [] (jG ks g)=some (sortI ks):=by
 unfold mE;show (rP (ks.map Sum.inl)).bind _=_;rw[yJ];show (if ks.length<64 then some (sortI ks) else none)=_;rw[aab h]
def PV(ps:List Int)(es:List (Int×Int)):Prop:=∀e∈es,e.1∈ps/\e.2∈ps
theorem FW{ps:List Int}:∀(es pre:List (Int×Int)) (φ:Int->Int),lU ps pre φ -> PV ps es->∃ψ,lU ps (pre++es) ψ
 |[],pre,φ,h,_=>⟨φ,by rw[aaU];exact h⟩
 | e::r,pre,φ,h,hi=>by
  obtain⟨h1,h2⟩:=hi e aaa;have st:=h.step h1 h2 (φ e.1) (φ e.2) (.inl ⟨rfl,rfl⟩);obtain⟨ψ,k⟩:=FW r (pre++[(e.1,e.2)]) _ st λx hx=>hi x (Z5 _ hx);exact⟨ψ,by rw[List.append_assoc]at k;exact k⟩
theorem FY{ps:List Int}(hi:PV ps es):∃ψ,lU ps es ψ:=by
 obtain⟨ψ,h⟩:=FW es [] id (lU.start ps) hi;exact⟨ψ,h⟩
theorem lU.OS{ps:List Int}(h:lU ps es φ)(hm:∀e,e∈es↔e∈es'):lU ps es' φ :=
 ⟨h.wX,λx hx=>(h.way x hx).mono λe he=>(hm e).mp he,λe he=>h.same e ((hm e).mpr he)⟩
open Classical in
def tr(ps:List Int)(es:List (Int×Int)):Nat:=if h:∃φ,lU ps es φ then rk (Classical.choose h) ps else 0
theorem p7{ps:List Int}(h:lU ps es φ)(hn:ps.Nodup):tr ps es=rk φ ps:=by
 unfold tr;have h':∃φ,lU ps es φ:=⟨φ,h⟩;rw[dif_pos h'];have h2:=choose_spec h';exact SH h h2 hn (wj h2 hn)
theorem yK{ps:List Int}(hn:ps.Nodup)(hi:PV ps es)(hm:∀e,e∈es↔e∈es'):tr ps es=tr ps es':=by
 obtain⟨φ,h⟩:=FY hi;rw[p7 h hn,p7 (h.OS hm) hn]
open Classical in
theorem Km{ps:List Int}{a b:Int}(hn:ps.Nodup)(hi:PV ps es)(ha:a∈ps)(hb:b∈ps)(hm:∀e,e∈es'↔e∈es\/e=(a,b)):tr ps es'=tr ps es+if Way es a b then 0 else 1:=by
 obtain⟨φ,h⟩:=FY hi;have hi':PV ps (es++[(a,b)]):=λe he=>by
  rcases aat.mp he with he|he
  ·exact hi e he
  ·rw[aaj.mp he];exact⟨ha,hb⟩
 rw[<-yK (es:=es++[(a,b)]) hn hi' (λe=>by rw[hm e];simp)]
 by_cases c:φ a = φ b
 ·rw[aab ((h.iff ha hb).mp c),p7 (h.C4 ha hb c) hn,p7 h hn,Nat.add_zero]
 ·rw[aad (λw=>c ((h.iff ha hb).mpr w))];have st:=h.step ha hb (φ a) (φ b) (.inl ⟨rfl,rfl⟩);have e1:=wj st hn;have e2:=wj h hn;have e3:=cnt_join ha hb c;rw[p7 st hn,p7 h hn];omega
section
variable {Φ:Nat->List Val->M Val} {env env':Env} {h h1 h2:Hs}
theorem je(e:dH Φ st env h=.ok (.nx env') h1):bR Φ (.cons st r) env h=bR Φ r env' h1:=by
 rw[bR,af e]
theorem fN{i:Nat}(ev:az Φ e env h=.ok v h1):dH Φ (.asg (.one i) e) env h=.ok (.nx (env.set i (some v))) h1:=by
 rw[dH,af ev];rfl
theorem pB:az Φ (.cst d) env h=.ok d h:=by rw[az];rfl
theorem kI(ea:az Φ a env h=.ok x h)(eb:az Φ b env h=.ok y h)(ei:mD h x y=some z):az Φ (.idx a b) env h=.ok z h:=by
 rw[az,af ea,af eb];exact nK ei
theorem pC(ea:az Φ a env h=.ok x h):az Φ (.cmp .ntn a (.cst .non)) env h=.ok (.bl (!nj x)) h:=by
 rw[az,af ea,af pB,cB (a:=!nj x)]
 ·rfl
 ·cases x<;>rfl
theorem Ll{n:Nat}(ec:c env h=.ok true h)(eb:B env h=.ok (.nx env') h1):oO c B (n+1) env h=oO c B n env' h1:=by
 rw[oO,af ec,aab rfl,af eb]
theorem Lm{n:Nat}(ec:c env h=.ok false h):oO c B (n+1) env h=.ok (.nx env) h:=by
 rw[oO,af ec,aad Z3];rfl
theorem wm{t:Bool}(ec:az Φ c env h=.ok (.bl t) h):bnd (az Φ c env) (λx=>ask λh=>bW h x) h=.ok t h:=by
 rw[af ec];rfl
end
abbrev FZ(jh:Nat):dP:=#[.asg (.one 2) (.idx (!1) (¬0)),.asg (.one 3) (.idx (!1) (¬1)),.asg (.one 4) (.idx (!1) (¬2)),.whl 100000 (.cmp .ntn (!3) (.cst .non)) #[.asg (.one 5) (.call jh #[!0,!3]),.iff (.cmp .ntn (!5) (.cst .non)) #[.expr (.met .remove (.idx (!0) (!5)) #[!3])] .nil,.expr (.met .append (.idx (!0) (!4)) #[!3]),.asg (.one 4) (!5),.asg (.one 3) (.idx (!2) (!3))]]
abbrev yL(jw:Nat):IE:=.call jw #[!0,!2,!3]
abbrev qa:IE:=.tup #[.blt .sorted #[.idx (!3) (¬0)],.blt .sorted #[.idx (!3) (¬1)],.skeys (.idx (!4) (¬0))]
abbrev uX(jw jp:Nat):dP:=.cons (.asg (.one 2) (.blt .sorted #[!1])) #[.asg (.one 3) (.tup #[.lst .nil,.lst .nil]),.asg (.one 4) (yL jw),.whl 100000 (.cmp .ntn (.idx (!4) (¬1)) (.cst .non)) #[.expr (.call jp #[!3,!4]),.asg (.one 4) (yL jw)],.ret qa]
abbrev gj:=List Int×List Int
def au(R:gj)(a:Nat):List Int:=if a=0 then R.1 else R.2
def qt(R:gj)(a:Nat)(l:List Int):gj:=if a=0 then (l,R.2) else (R.1,l)
def home(R:gj)(y:Int):Option Nat:=if y∈R.1 then some 0 else if y∈R.2 then some 1 else none
def jL(R:gj)(y:Int):gj:=match home R y with
 |some a=>qt R a ((au R a).erase y)
 |none=>R
def j5(R:gj)(y:Int)(room:Nat):gj:=qt (jL R y) room (au (jL R y) room++[y])
def putL:List Int->gj->Nat->gj
 |[],R,_=>R
 |y::q,R,room=>putL q (j5 R y room) ((home R y).getD 0)
def adr(a b c:Nat):Nat:=if c=0 then a else b
def Ab(A:AP)(a b:Nat):AP:=λo=>A o/\o≠some a/\o≠some b
structure PJ (A:AP) (h0:Hs) (dr dw dn vr vw vn:Val) (a b:Nat) (R:gj) (h:Hs):Prop where
 pre:h0<+:h
 ha:h0.length<=a
 hb:h0.length<=b
 ab:a≠b
 ga:h[a]?=some (.lst (R.1.map .int))
 gb:h[b]?=some (.lst (R.2.map .int))
 rule:Dn (Ab A a b) h dr vr
 row:Dn (Ab A a b) h dw vw
 names:Dn (Ab A a b) h dn vn
abbrev cR(R:gj):Val:=.tup [.rl (R.1.map .int),.rl (R.2.map .int)]
section
variable {A:AP} {h0 h h1:Hs} {dr dw dn vr vw vn:Val} {a b:Nat} {R:gj}
theorem sV{ns:List Int}:ao A h (ns.map .int) (ns.map .int):=(aT _ _ (aV ns)).mpr rfl
theorem PJ.ext(p:PJ A h0 dr dw dn vr vw vn a b R h)(e:h<+:h1):PJ A h0 dr dw dn vr vw vn a b R h1 :=
 ⟨p.pre.trans e,p.ha,p.hb,p.ab,bL e p.ga,bL e p.gb,p.rule.ext e,p.row.ext e,p.names.ext e⟩
theorem PJ.rows(p:PJ A h0 dr dw dn vr vw vn a b R h)(u:Up A h0):Dn A h (cR R) (.tup [.ref a,.ref b]):=by
 rw[Dn];refine⟨_,rfl,ao.cons ?_ (ao.cons ?_ ao.nil)⟩
 ·rw[Dn];exact .inr ⟨a,_,rfl,u a p.ha,p.ga,sV⟩
 ·rw[Dn];exact .inr ⟨b,_,rfl,u b p.hb,p.gb,sV⟩
theorem PJ.at(p:PJ A h0 dr dw dn vr vw vn a b R h){c:Nat}:h[adr a b c]?=some (.lst ((au R c).map .int)):=by
 unfold adr au
 split
 ·exact p.ga
 ·exact p.gb
theorem PJ.set{c:Nat}{l:List Int}(p:PJ A h0 dr dw dn vr vw vn a b R h):PJ A h0 dr dw dn vr vw vn a b (qt R c l) (h.set (adr a b c) (.lst (l.map .int))):=by
 have mv:∀d v,Dn (Ab A a b) h d v->Dn (Ab A a b) (h.set (adr a b c) (.lst (l.map .int))) d v:=Dn.move (λz=>z) λi o hi g=>⟨hi,by
  rw[Z6 λe=>?_];exact g;unfold adr at e;split at e
  ·exact hi.2.1 (by rw[e])
  ·exact hi.2.2 (by rw[e])⟩
 have hle:h0.length<=adr a b c:=by unfold adr;split;exact p.ha;exact p.hb
 have la:a<h.length:=(Z8.mp p.ga).1;have lb:b<h.length:=(Z8.mp p.gb).1;refine⟨BB p.pre hle,p.ha,p.hb,p.ab,?_,?_,mv _ _ p.rule,mv _ _ p.row,mv _ _ p.names⟩
 ·unfold adr qt
  split
  ·rw[aah la]
  ·rw[Z6 (Ne.symm p.ab)];exact p.ga
 ·unfold adr qt
  split
  ·rw[Z6 p.ab];exact p.gb
  ·rw[aah lb]
end
def pD(o:Option Nat):Val:=match o with
 |some a=>.int (a:Int)
 |none=>.non
def Kn(q:List Int):Val:=match q with
 |[]=>.non
 |x::_=>.int x
def uY(Ψ:Nat->List Val->Pr FV)(jH:Nat)(ks:List Key)(ds:List Val):List Int->Nat->gj->Prop
 |[],_,_=>True
 |y::q,room,R=>room<2/\(∃f,Ψ jH [cR R,.int y]=.ok (f,pD (home R y)))/\bV (ks.zip ds) (.inl y)=some (Kn q)/\(home R y=none->q=[])/\(au (jL R y) room).length<64/\uY Ψ jH ks ds q ((home R y).getD 0) (j5 R y room)
def iK(Ψ:Nat->List Val->Pr FV)(jw jH:Nat)(dr:Val)(ss:List Int):Nat->gj->gj->List Key->List Val->Prop
 |0,R,R',ks,ds=>R'=R/\bH ds=true/\∃f,Ψ jw [dr,.rl (ss.map .int),cR R]=.ok (f,.tup [.dc ks ds,.non,.non])
 |n+1,R,R',ks',ds'=>∃f ks ds x q room,Ψ jw [dr,.rl (ss.map .int),cR R]=.ok (f,.tup [.dc ks ds,.int x,.int ((room:Nat):Int)])/\bH ds=true/\(x::q).length<64/\uY Ψ jH ks ds (x::q) room R/\iK Ψ jw jH dr ss n (putL (x::q) R room) R' ks' ds'
def yM(dr:Val)(xs:List Val)(ss:List Int)(R:gj)(ks:List Key)(ds:List Val):bB:=[some (.sh,dr),some (.sh,.rl xs),some (.sh,.rl (ss.map .int)),some (.sh,cR R),some (.sh,.tup [.dc ks ds,.non,.non])]
structure Vx where
 n:Nat
 R:gj
 ks:List Key
 ds:List Val
def yN(Ψ:Nat->List Val->Pr FV)(jw jh:Nat):List Val->Pr FV
 | [dr,.rl xs]=>match cC xs with
  |some ns=>open Classical in if hc:(∃k:Vx,k.n<1000/\iK Ψ jw jh dr (sortI ns) k.n ([],[]) k.R k.ks k.ds)/\ns.length<64 then bF Ψ qa (yM dr xs (sortI ns) hc.1.choose.R hc.1.choose.ks hc.1.choose.ds) else .no
  |none=>.no
 |_=>.no
section
variable {Φ Φ':Nat->List Val->M Val} {Ψ:Nat->List Val->Pr FV} {A:AP} {h0:Hs} {dr dw vr vw vn:Val} {a b jw jp jh jH:Nat} {ss:List Int}
theorem BK{α β:Type}(f:α -> β):∀(l:List α) (k:Nat),(l.map f).eraseIdx k=(l.eraseIdx k).map f
 |[],_=>rfl
 |_::_,0=>rfl
 |x::l,k+1=>by rw[eraseIdx_cons_succ,aaf,aaf,eraseIdx_cons_succ,BK f l k]
theorem Ga(l:List Int)(x:Int):(l.map Val.int).eraseIdx (l.idxOf x)=(l.erase x).map .int:=by
 rw[BK]
 congr 1
 induction l with
 |nil=>rfl
 |cons y l ih=>
  by_cases c:y=x
  ·subst c;rw[List.idxOf_cons_self,List.erase_cons_head];rfl
  ·have e:(y::l).idxOf x=l.idxOf x+1:=by rw[List.idxOf_cons,aaJ.mpr c];rfl
   rw[e,eraseIdx_cons_succ,ih,List.erase_cons_tail (by simpa using c)]
theorem Gb{c:Nat}(hc:c<2):mD h (.tup [.ref a,.ref b]) (.int (c:Int))=some (.ref (adr a b c)):=by
 have:c=0\/c=1:=by omega
 rcases this with rfl|rfl<;>rfl
theorem OT{i x:Nat}{y:Int}{l:List Int}(ee:az Φ e env h=.ok (.ref i) h)(ex:env[x]?=some (some (.int y)))(g:h[i]?=some (.lst (l.map .int)))(hl:l.length<64):dH Φ (.expr (.met .append e #[.var x])) env h=.ok (.nx env) (h.set i (.lst ((l++[y]).map .int))):=by
 have e2:az Φ (.met .append e #[.var x]) env h=.ok .non (h.set i (.lst ((l++[y]).map .int))):=by
  rw[az,af ee];have b1:recv h .append (.ref i)=some ():=by show (match h[i]? with|some (.lst _)=>some ()|_=>none)=_;rw[g]
  rw[cB (f:=λh=>recv h .append (.ref i)) b1];have b2:aK Φ #[.var x] env h=.ok [.int y] h:=by rw[aK,af (aA ex),aK];rfl
  rw[af b2];rw[met];try dsimp only
  rw[cB (a:=l.map .int) (by rw[g])];unfold aC;rw[aab (decide_eq_true (by rw[Z9];unfold sizeLine;omega)),map_append];rfl
 rw[dH,af e2];rfl
theorem OU{i x:Nat}{y:Int}{l:List Int}(ee:az Φ e env h=.ok (.ref i) h)(ex:env[x]?=some (some (.int y)))(g:h[i]?=some (.lst (l.map .int)))(hy:y∈l):dH Φ (.expr (.met .remove e #[.var x])) env h=.ok (.nx env) (h.set i (.lst ((l.erase y).map .int))):=by
 have e2:az Φ (.met .remove e #[.var x]) env h=.ok .non (h.set i (.lst ((l.erase y).map .int))):=by
  rw[az,af ee];have b1:recv h .remove (.ref i)=some ():=by show (match h[i]? with|some (.lst _)=>some ()|_=>none)=_;rw[g]
  rw[cB (f:=λh=>recv h .remove (.ref i)) b1];have b2:aK Φ #[.var x] env h=.ok [.int y] h:=by rw[aK,af (aA ex),aK];rfl
  rw[af b2];rw[met];try dsimp only
  rw[cB (a:=l.map .int) (by rw[g]),lz (ints_map l)];unfold aC;rw[aab (decide_eq_true hy),Ga];rfl
 rw[dH,af e2];rfl
abbrev SJ(jh:Nat):dP:=#[.asg (.one 5) (.call jh #[!0,!3]),.iff (.cmp .ntn (!5) (.cst .non)) #[.expr (.met .remove (.idx (!0) (!5)) #[!3])] .nil,.expr (.met .append (.idx (!0) (!4)) #[!3]),.asg (.one 4) (!5),.asg (.one 3) (.idx (!2) (!3))]
theorem yO{dd:Nat}(hh:Imp (Φ' jh) (Ψ jH))(u:Up A h0)(hk:ks.zip ds=kvs)(da:dd≠a)(db:dd≠b):∀(q:List Int) (n room:Nat) (R:gj) (h:Hs) (x4 x5:Option Val),uY Ψ jH ks ds q room R->q.length<n->(q≠[]->x4=some (.int (room:Int)))->PJ A h0 dr dw (.rl (ss.map .int)) vr vw vn a b R h->h[dd]?=some (.dct kvs) ->
  ∃y4 y5 h',oO (λenv=>bnd (az Φ' (.cmp .ntn (!3) (.cst .non)) env) λx=>ask λh=>bW h x) (bR Φ' (SJ jh)) n [some (.tup [.ref a,.ref b]),some w,some (.ref dd),some (Kn q),x4,x5] h=.ok (.nx [some (.tup [.ref a,.ref b]),some w,some (.ref dd),some .non,y4,y5]) h'/\PJ A h0 dr dw (.rl (ss.map .int)) vr vw vn a b (putL q R room) h'/\h'[dd]?=some (.dct kvs)
 |q,0,_,_,_,_,_,_,hn,_,_,_=>absurd hn (not_lt_zero _)
 |[],n+1,room,R,h,x4,x5,_,_,_,p,g=>⟨x4,x5,h,Lm (wm (pC (x:=.non) (aA rfl))),p,g⟩
 | y::q,n+1,room,R,h,x4,x5,ok,hn,hx,p,g=>by
  obtain⟨hr,⟨f,eh⟩,ev,hq,hlen,ok'⟩:=ok;obtain rfl:=hx (by simp);have im:=hh A h [cR R,.int y] [.tup [.ref a,.ref b],.int y] (u.ext p.pre) (ao.cons (p.rows u) (ao.cons (by rw[Dn]) ao.nil));rw[eh]at im;obtain⟨v1,h1,e4,pr,q1⟩:=im;have hv1:v1=pD (home R y):=(dM _ _ (by unfold pD;split<;>rfl)).mp q1.1;subst hv1;have p1:=p.ext pr;have g1:=bL pr g;have e1:az Φ' (.call jh #[!0,!3]) [some (.tup [.ref a,.ref b]),some w,some (.ref dd),some (.int y),some (.int (room:Int)),x5] h=.ok (pD (home R y)) h1:=by
   rw[az,af (a:=[.tup [.ref a,.ref b],.int y]) (h1:=h)]
   ·exact e4
   ·rw[aK,af (aA rfl),af (a:=[.int y]) (h1:=h)]
    ·rfl
    ·rw[aK,af (aA rfl),af (a:=[]) (h1:=h)]
     ·rfl
     ·rw[aK];rfl
  have e2:∃h2,dH Φ' (.iff (.cmp .ntn (!5) (.cst .non)) #[.expr (.met .remove (.idx (!0) (!5)) #[!3])] .nil) [some (.tup [.ref a,.ref b]),some w,some (.ref dd),some (.int y),some (.int (room:Int)),some (pD (home R y))] h1=.ok (.nx [some (.tup [.ref a,.ref b]),some w,some (.ref dd),some (.int y),some (.int (room:Int)),some (pD (home R y))]) h2/\PJ A h0 dr dw (.rl (ss.map .int)) vr vw vn a b (jL R y) h2/\h2[dd]?=some (.dct kvs):=by
   unfold jL;cases Lo:home R y with
   |none=>refine⟨h1,?_,p1,g1⟩;rw[dH,af (pC (x:=.non) (aA rfl)),cB (a:=false) rfl,aad Z3,bR];rfl
   |some c=>
    have hc:c<2/\y∈au R c:=by
     unfold home at Lo;split at Lo
     ·cases Lo;rename_i z;exact⟨by omega,z⟩
     ·split at Lo
      ·cases Lo;rename_i z;exact⟨by omega,z⟩
      ·cases Lo
    refine⟨_,?_,p1.set (c:=c) (l:=(au R c).erase y),?_⟩
    ·rw[dH,af (pC (x:=.int (c:Int)) (aA rfl)),cB (a:=true) rfl,aab rfl,je (OU (kI (x:=.tup [.ref a,.ref b]) (y:=.int (c:Int)) (aA rfl) (aA rfl) (Gb hc.1)) rfl p1.at hc.2),bR];rfl
    ·rw[Z6 (by unfold adr;split;exact Ne.symm da;exact Ne.symm db)];exact g1
  obtain⟨h2,e2,p2,g2⟩:=e2;have e3:=OT (Φ:=Φ') (x:=3) (y:=y) (env:=[some (.tup [.ref a,.ref b]),some w,some (.ref dd),some (.int y),some (.int (room:Int)),some (pD (home R y))]) (kI (a:=.var 0) (b:=.var 4) (x:=.tup [.ref a,.ref b]) (y:=.int (room:Int)) (aA rfl) (aA rfl) (Gb hr)) rfl p2.at hlen;have p3:=p2.set (c:=room) (l:=au (jL R y) room++[y]);have g3:(h2.set (adr a b room) (.lst ((au (jL R y) room++[y]).map .int)))[dd]?=some (.dct kvs):=by rw[Z6 (by unfold adr;split;exact Ne.symm da;exact Ne.symm db)];exact g2
  obtain⟨y4,y5,h',r1,r2,r3⟩:=yO hh u hk da db q n ((home R y).getD 0) (j5 R y room) _ (some (pD (home R y))) (some (pD (home R y))) ok' (Nat.lt_of_succ_lt_succ hn) (λhne=>by
   cases Lo:home R y with
   |none=>exact absurd (hq Lo) hne
   |some c=>rfl) p3 g3
  refine⟨y4,y5,h',?_,r2,r3⟩;rw[Ll (env':=[some (.tup [.ref a,.ref b]),some w,some (.ref dd),some (Kn q),some (pD (home R y)),some (pD (home R y))]) (h1:=h2.set (adr a b room) (.lst ((au (jL R y) room++[y]).map .int)))]
  ·exact r1
  ·exact wm (pC (x:=.int y) (aA rfl))
  ·show bR Φ' (SJ jh) [some (.tup [.ref a,.ref b]),some w,some (.ref dd),some (.int y),some (.int (room:Int)),x5] h=_
   rw[je (fN e1)];simp only[set_cons_succ,set_cons_zero];rw[je e2,je e3,je (fN (v:=pD (home R y)) (aA rfl))];simp only[set_cons_succ,set_cons_zero];rw[je (fN (kI (x:=.ref dd) (y:=.int y) (z:=Kn q) (aA rfl) (aA rfl) (by
    show (match (h2.set (adr a b room) (.lst ((au (jL R y) room++[y]).map .int)))[dd]? with|some (.dct kvs)=>bV kvs (.inl y)|_=>_)=_;rw[g3,<-hk];exact ev)))]
   rw[bR];rfl
theorem Ko{dd:Nat}{x:Int}{q:List Int}{room:Nat}(hh:Imp (Φ' jh) (Ψ jH))(u:Up A h0)(hk:ks.zip ds=kvs)(da:dd≠a)(db:dd≠b)(ok:uY Ψ jH ks ds (x::q) room R)(hl:(x::q).length<64)(p:PJ A h0 dr dw (.rl (ss.map .int)) vr vw vn a b R h)(g:h[dd]?=some (.dct kvs)) :
  ∃h',fJ Φ' 6 (FZ jh) [.tup [.ref a,.ref b],.tup [.ref dd,.int x,.int (room:Int)]] h=.ok .non h'/\PJ A h0 dr dw (.rl (ss.map .int)) vr vw vn a b (putL (x::q) R room) h':=by
 obtain⟨y4,y5,h',r1,r2,_⟩:=yO (w:=.tup [.ref dd,.int x,.int (room:Int)]) hh u hk da db (x::q) 100000 room R h (some (.int (room:Int))) none ok (by omega) (λ_=>rfl) p g;refine⟨h',?_,r2⟩;have run:bR Φ' (FZ jh) [some (.tup [.ref a,.ref b]),some (.tup [.ref dd,.int x,.int (room:Int)]),none,none,none,none] h=.ok (.nx [some (.tup [.ref a,.ref b]),some (.tup [.ref dd,.int x,.int (room:Int)]),some (.ref dd),some .non,y4,y5]) h':=by rw[je (fN (kI (x:=.tup [.ref dd,.int x,.int (room:Int)]) (y:=.int 0) (z:=.ref dd) (aA rfl) pB rfl))];rw[je (fN (kI (x:=.tup [.ref dd,.int x,.int (room:Int)]) (y:=.int 1) (z:=.int x) (aA rfl) pB rfl))];rw[je (fN (kI (x:=.tup [.ref dd,.int x,.int (room:Int)]) (y:=.int 2) (z:=.int (room:Int)) (aA rfl) pB rfl))];simp only[set_cons_succ,set_cons_zero];rw[je (st:=.whl _ _ _) (by rw[dH];exact r1),bR];rfl
 show bnd (bR Φ' (FZ jh) [some (.tup [.ref a,.ref b]),some (.tup [.ref dd,.int x,.int (room:Int)]),none,none,none,none]) _ h=_;rw[af run];rfl
theorem Kp(hy:iS y=true)(hz:iS z=true)(q:Dn A h (.tup [.dc ks ds,y,z]) v):∃dd kvs,v=.tup [.ref dd,y,z]/\h[dd]?=some (.dct kvs)/\kvs.map (·.1)=ks/\ao A h ds (kvs.map (·.2)):=by
 rw[Dn]at q;obtain⟨vs,rfl,q⟩:=q;rw[ao]at q;obtain⟨v1,r,rfl,q1,q⟩:=q;rw[ao]at q;obtain⟨v2,r,rfl,q2,q⟩:=q;rw[ao]at q;obtain⟨v3,r,rfl,q3,q⟩:=q;rw[ao]at q;subst q;rw[Dn]at q1;obtain⟨dd,kvs,rfl,_,g,k,q1⟩:=q1;rw[(dM y v2 hy).mp q2,(dM z v3 hz).mp q3];exact⟨dd,kvs,rfl,g,k,q1⟩
theorem Gd{f:Bool}(hΦ:∀j,Imp (Φ j) (Ψ j))(u:Up A h0)(hy:iS y=true)(hz:iS z=true)(hd:bH ds=true)(p:PJ A h0 dr dw (.rl (ss.map .int)) vr vw vn a b R h)(e:Ψ jw [dr,.rl (ss.map .int),cR R]=.ok (f,.tup [.dc ks ds,y,z])) :
  ∃dd h',az Φ (yL jw) [some vr,some vw,some vn,some (.tup [.ref a,.ref b]),w] h=.ok (.tup [.ref dd,y,z]) h'/\h<+:h'/\h'[dd]?=some (.dct (ks.zip ds))/\Dn A h' (.tup [.dc ks ds,y,z]) (.tup [.ref dd,y,z]):=by
 have wid:∀d v,Dn (Ab A a b) h d v->Dn A h d v:=λd v q=>q.wid λ_ z=>z.1;have im:=hΦ jw A h [dr,.rl (ss.map .int),cR R] [vr,vn,.tup [.ref a,.ref b]] (u.ext p.pre) (ao.cons (wid _ _ p.rule) (ao.cons (wid _ _ p.names) (ao.cons (p.rows u) ao.nil)));rw[e]at im;obtain⟨v,h',e1,pr,q⟩:=im;obtain⟨dd,kvs,rfl,g,gk,gq⟩:=Kp hy hz q.1;have ed:kvs.map (·.2)=ds:=(aT _ _ hd).mp gq;have ez:kvs=ks.zip ds:=by
  rw[<-gk,<-ed];clear q g gk gq ed
  induction kvs with
  |nil=>rfl
  |cons c r ih=>rw[aaf,aaf,aa1,<-ih]
 refine⟨dd,h',?_,pr,by rw[<-ez];exact g,q.1⟩;rw[az,af (a:=[vr,vn,.tup [.ref a,.ref b]]) (h1:=h)]
 ·exact e1
 ·rw[aK,af (aA rfl),af (a:=[vn,.tup [.ref a,.ref b]]) (h1:=h)]
  ·rfl
  ·rw[aK,af (aA rfl),af (a:=[.tup [.ref a,.ref b]]) (h1:=h)]
   ·rfl
   ·rw[aK,af (aA rfl),aK];rfl
abbrev SK(jw jp:Nat):dP:=.cons (.expr (.call jp #[!3,!4])) #[.asg (.one 4) (yL jw)]
theorem uZ(hΦ:∀j,Imp (Φ j) (Ψ j))(hp:Φ jp=fJ Φ' 6 (FZ jh))(hh:Imp (Φ' jh) (Ψ jH))(u:Up A h0):∀(n m:Nat) (R:gj) (h:Hs) (w:Option Val),iK Ψ jw jH dr ss n R R' ks' ds'->n<m->PJ A h0 dr dw (.rl (ss.map .int)) vr vw vn a b R h ->
  ∃v1 h1 v' h',az Φ (yL jw) [some vr,some vw,some vn,some (.tup [.ref a,.ref b]),w] h=.ok v1 h1/\oO (λenv=>bnd (az Φ (.cmp .ntn (.idx (!4) (¬1)) (.cst .non)) env) λx=>ask λh=>bW h x) (bR Φ (SK jw jp)) m [some vr,some vw,some vn,some (.tup [.ref a,.ref b]),some v1] h1=.ok (.nx [some vr,some vw,some vn,some (.tup [.ref a,.ref b]),some v']) h' /\
   PJ A h0 dr dw (.rl (ss.map .int)) vr vw vn a b R' h'/\Dn A h' (.tup [.dc ks' ds',.non,.non]) v'
 |n,0,_,_,_,_,hm,_=>absurd hm (not_lt_zero _)
 | 0,m+1,R,h,w,ok,hm,p=>by
  obtain⟨rfl,hd,f,e⟩:=ok;obtain⟨dd,h1,e1,pr,g,q⟩:=Gd hΦ u rfl rfl hd p e (w:=w);exact⟨_,h1,_,h1,e1,Lm (wm (pC (x:=.non) (kI (x:=.tup [.ref dd,.non,.non]) (y:=.int 1) (aA rfl) pB rfl))),p.ext pr,q⟩
 | n+1,m+1,R,h,w,ok,hm,p=>by
  obtain⟨f,ks,ds,x,q,room,e,hd,hl,pk,ok'⟩:=ok;obtain⟨dd,h1,e1,pr,g,_⟩:=Gd hΦ u rfl rfl hd p e (w:=w);have p1:=p.ext pr;have da:dd≠a:=λz=>by rw[z,p1.ga]at g;cases g
  have db:dd≠b:=λz=>by rw[z,p1.gb]at g;cases g
  obtain⟨h2,run,p2⟩:=Ko hh u rfl da db pk hl p1 g;rw[<-hp]at run;obtain⟨v3,h3,v',h',e3,r3,p3,q3⟩:=uZ hΦ hp hh u n m _ h2 (some (.tup [.ref dd,.int x,.int (room:Int)])) ok' (Nat.lt_of_succ_lt_succ hm) p2;refine⟨_,h1,v',h',e1,?_,p3,q3⟩;rw[Ll (env':=[some vr,some vw,some vn,some (.tup [.ref a,.ref b]),some v3]) (h1:=h3)]
  ·exact r3
  ·exact wm (pC (x:=.int x) (kI (x:=.tup [.ref dd,.int x,.int (room:Int)]) (y:=.int 1) (aA rfl) pB rfl))
  ·rw[je (st:=.expr _) (env':=[some vr,some vw,some vn,some (.tup [.ref a,.ref b]),some (.tup [.ref dd,.int x,.int (room:Int)])]) (h1:=h2)]
   ·rw[je (fN e3),bR];rfl
   ·rw[dH,af (a:=.non) (h1:=h2)]
    ·rfl
    ·rw[az,af (a:=[.tup [.ref a,.ref b],.tup [.ref dd,.int x,.int (room:Int)]]) (h1:=h1)]
     ·exact run
     ·rw[aK,af (aA rfl),af (a:=[.tup [.ref dd,.int x,.int (room:Int)]]) (h1:=h1)]
      ·rfl
      ·rw[aK,af (aA rfl),aK];rfl
theorem SM(q:ao A h ds vs):ER A (ds.map λd=>some (.sh,d)) (vs.map some) h:=λi f d e=>by
 rw[aaB]at e;cases ei:ds[i]? with
 |none=>rw[ei]at e;cases e
 |some d'=>rw[ei]at e;cases e;rw[aad (by decide)];obtain⟨v,q1,q2⟩:=q.get ei;exact⟨v,by rw[aaB,q1];rfl,q2⟩
theorem Ar(hΦ:∀j,Imp (Φ j) (Ψ j))(hp:Φ jp=fJ Φ' 6 (FZ jh))(hh:Imp (Φ' jh) (Ψ jH)):Imp (fJ Φ 5 (uX jw jp)) (yN Ψ jw jH):=λA h ds vs u q=>by
 unfold yN
 split
 ·rename_i dr xs
  split
  ·rename_i ns hi
   by_cases hc:(∃k:Vx,k.n<1000/\iK Ψ jw jH dr (sortI ns) k.n ([],[]) k.R k.ks k.ds)/\ns.length<64
   ·rw[dif_pos hc]
    have h64:=hc.2;have ok:=hc.1.choose_spec;generalize hc.1.choose=pk at *;obtain⟨hn,ok⟩:=ok;have ex:=kE hi;subst ex;rw[ao]at q;obtain⟨vr,r,rfl,qr,q⟩:=q;rw[ao]at q;obtain⟨vw,r,rfl,qw,q⟩:=q;rw[ao]at q;subst q;have hsl:(sortI ns).length<64:=by rw[(aaO ns).length_eq];exact h64
    have Vy:dQ (ns.map .int)=some ((sortI ns).map .int):=by unfold dQ;rw[aab (by rw[Z9];exact h64),ints_map]
    generalize sortI ns=ss at *;have el:aG h vw=some (ns.map .int):=by
     have qw:=qw;rw[Dn]at qw
     rcases qw with ⟨ws,rfl,_,q⟩|⟨i,ws,rfl,_,g,q⟩
     ·rw[(aT _ _ (aV ns)).mp q];rfl
     ·show (match h[i]? with|some (.lst xs)=>some xs|_=>none)=_;rw[g,(aT _ _ (aV ns)).mp q]
    let h1:Hs:=h++[.lst (ss.map .int)]
    let h2:Hs:=(h1++[.lst []])++[.lst []]
    have l1:h1.length=h.length+1:=by simp[h1]
    have e1:∀env:Env,env[1]?=some (some vw)->az Φ (.blt .sorted #[!1]) env h=.ok (.ref h.length) h1:=λenv he=>by
     rw[az,af (a:=[vw]) (h1:=h)]
     ·rw[blt];try dsimp only
      rw[cB (a:=ns.map .int) el,lz Vy];rfl
     ·rw[aK,af (aA he),aK];rfl
    have nl:∀(env:Env) (g:Hs),az Φ (.lst .nil) env g=.ok (.ref g.length) (g++[Ob.lst []]):=λenv g=>by
     rw[az,show bnd (aK Φ .nil env) (λds=>aC (decide (ds.length<=sizeLine)) (new (.lst ds))) g=aC (decide (([]:List Val).length<=sizeLine)) (new (.lst [])) g from af (a:=[]) (by rw[aK];rfl)];rfl
    have e2:∀env:Env,az Φ (.tup #[.lst .nil,.lst .nil]) env h1=.ok (.tup [.ref h1.length,.ref (h1.length+1)]) h2:=λenv=>by
     rw[az,af (a:=[.ref h1.length,.ref (h1.length+1)]) (h1:=h2)]
     ·rfl
     ·rw[aK,af (nl env h1),af (a:=[.ref (h1.length+1)]) (h1:=h2)]
      ·rfl
      ·rw[aK,af (nl env _),aK,aag];rfl
    have WM:h<+:h2:=((bT _).trans (bT _)).trans (bT _);have mv:∀d v,Dn A h d v->Dn (Ab A h1.length (h1.length+1)) h2 d v:=Dn.move (λz=>⟨z,by simp,by simp⟩) λi o hi g=>by
     have hl:=(Z8.mp g).1;refine⟨⟨hi,λe=>?_,λe=>?_⟩,bL WM g⟩<;>(injection e with e;omega)
    have p0:PJ A h dr (.rl (ns.map .int)) (.rl (ss.map .int)) vr vw (.ref h.length) h1.length (h1.length+1) ([],[]) h2:=by
     refine⟨WM,by omega,by omega,by omega,?_,?_,mv _ _ qr,mv _ _ qw,?_⟩
     ·show ((h1++[Ob.lst []])++[Ob.lst []])[h1.length]?=_;rw[aam (by simp),aaw (aae _),sub_self];rfl
     ·show ((h1++[Ob.lst []])++[Ob.lst []])[h1.length+1]?=_;rw[aaw (by simp)];simp
     ·rw[Dn]
      refine .inr ⟨h.length,_,rfl,⟨u _ (aae _),λe=>?_,λe=>?_⟩,?_,sV⟩
      ·injection e with e;omega
      ·injection e with e;omega
      ·refine bL (h:=h1) ((bT _).trans (bT _)) ?_;show (h++[Ob.lst (ss.map .int)])[h.length]?=_;rw[aaw (aae _),sub_self];rfl
    obtain⟨v3,h3,v4,h4,e3,e4,p4,q4⟩:=uZ hΦ hp hh u pk.n 100000 ([],[]) h2 none ok (by omega) p0;have wid:∀d v,Dn (Ab A h1.length (h1.length+1)) h4 d v->Dn A h4 d v:=λd v q=>q.wid λ_ z=>z.1;have YH:ao A h4 [dr,.rl (ns.map .int),.rl (ss.map .int),cR pk.R,.tup [.dc pk.ks pk.ds,.non,.non]] [vr,vw,.ref h.length,.tup [.ref h1.length,.ref (h1.length+1)],v4] :=
     ao.cons (wid _ _ p4.rule) (ao.cons (wid _ _ p4.row) (ao.cons (wid _ _ p4.names) (ao.cons (p4.rows u) (ao.cons q4 ao.nil))))
    have V:=(v_all hΦ).1 qa (by decide) (yM dr (ns.map .int) ss pk.R pk.ks pk.ds) [some vr,some vw,some (.ref h.length),some (.tup [.ref h1.length,.ref (h1.length+1)]),some v4] A h4 (u.ext p4.pre) (SM YH);have run:∀{v h'},az Φ qa [some vr,some vw,some (.ref h.length),some (.tup [.ref h1.length,.ref (h1.length+1)]),some v4] h4=.ok v h'->fJ Φ 5 (uX jw jp) [vr,vw] h=.ok v h':=λ{v h'} e=>by
     show bnd (bR Φ (uX jw jp) [some vr,some vw,none,none,none]) _ h=_;rw[af (a:=.rt v) (h1:=h')]
     ·rfl
     ·rw[je (fN (e1 _ rfl))]
      simp only[set_cons_succ,set_cons_zero];rw[je (fN (e2 _))];simp only[set_cons_succ,set_cons_zero];rw[je (fN e3)];simp only[set_cons_succ,set_cons_zero];rw[je (st:=.whl _ _ _) (by rw[dH];exact e4)];rw[bR,dH,af (a:=.rt v) (h1:=h')]
      ·rfl
      ·rw[af e];rfl
    have Vz:∀{c ws h'},az Φ qa [some vr,some vw,some (.ref h.length),some (.tup [.ref h1.length,.ref (h1.length+1)]),some v4] h4=.exc c ws h'->fJ Φ 5 (uX jw jp) [vr,vw] h=.exc c ws h':=λ{c ws h'} e=>by
     show bnd (bR Φ (uX jw jp) [some vr,some vw,none,none,none]) _ h=_;have:bR Φ (uX jw jp) [some vr,some vw,none,none,none] h=.exc c ws h':=by rw[je (fN (e1 _ rfl))];simp only[set_cons_succ,set_cons_zero];rw[je (fN (e2 _))];simp only[set_cons_succ,set_cons_zero];rw[je (fN e3)];simp only[set_cons_succ,set_cons_zero];rw[je (st:=.whl _ _ _) (by rw[dH];exact e4)];rw[bR,dH];unfold bnd;rw[e]
     unfold bnd;rw[this]
    revert V;cases bF Ψ qa (yM dr (ns.map .int) ss pk.R pk.ks pk.ds) with
    |ok x=>
     rintro⟨v,h',e,pr,q1,q2⟩;exact⟨v,h',run e,p4.pre.trans pr,q1,λz=>(q2 z).wid λo ho=>by
      cases o with
      |none=>exact ho
      |some k=>exact aaD p4.pre.length_le ho⟩
    |exc c es=>rintro⟨ws,h',e,pr,q1⟩;exact⟨ws,h',Vz e,p4.pre.trans pr,q1⟩
    |no=>exact λ_=>trivial
   ·rw[dif_neg hc];trivial
  ·trivial
 ·trivial
end
end Hv
end
section
namespace K34
open PySem L2 Hv
abbrev Ge:List PySem.Str:=["_law_script","_law_k"]
abbrev OV:List PySem.Str:=["_law_one","_law_two","_law_k","_law_step","_law_shift"]
abbrev OW:List PySem.Str:=["_law_script","_law_cells","_law_one","_law_two","_law_pick","_law_many_here","_law_places","_law_ties","_law_k","_law_cell_here","_law_here","_law_there","_law_poles"]
abbrev OX:List PySem.Str:=["poles","ties","named","name","one","other"]
abbrev OY:List PySem.Str:=["net","places","tie"]
abbrev wo:List PySem.Str:=["self","net","name","one","other"]
abbrev sW:List PySem.Str:=["self","net"]
abbrev OZ:List PySem.Str:=["places","pairs","firsts","place","one","other","kept","gone"]
abbrev O0:List PySem.Str:=["self","row","firsts"]
abbrev jM:List PySem.Str:=["self","row"]
abbrev yP:List PySem.Str:=["_law_kind","_law_net_here"]
abbrev Gf:List PySem.Str:=["self","row","rest"]
abbrev Gg:List PySem.Str:=["rule","row","name","found","other"]
abbrev Gh:List PySem.Str:=["rule","names","rows","pushers","name","waiting","at","other"]
abbrev Gi:List PySem.Str:=["rows","name","at"]
abbrev Gj:List PySem.Str:=["rows","way","pushers","name","room","left"]
abbrev Gk:List PySem.Str:=["rule","row","names","rows","way"]
abbrev Gm:List PySem.Str:=["_law_rule_here","_law_names","_law_found"]
abbrev Lp:List PySem.Str:=["_law_script","_law_size","_law_net_here","_law_rule_here","_law_names","_law_turn","_law_many_here","_law_k","_law_more"]
def top(i:Nat):Stmt:=PySem.Challenge.pw_linkorcut_k34_one_name_more.main.body.getD i (.Pass ⟨0,0,0,0⟩)
def cons:List (Str×Val):=[("THOUGHT",(.int (-1)))]
def tb:Tb:=⟨3,["net","places","ends","whole"],[(0,"tree_rank",10),(1,"tree_rank",10),(2,"tree_rank",10),(0,"ties",12),(1,"ties",12),(2,"ties",12),(0,"rank",15),(1,"rank",16),(2,"rank",17),(0,"free",18),(1,"free",18),(2,"free",18)],[("Rule","__init__",8)],[]⟩
def b7(i:Nat):Stmt:=match top 16 with|.ClassDef (body:=b) ..=>b.getD i (.Pass ⟨0,0,0,0⟩)|_=>.Pass ⟨0,0,0,0⟩
def BL(i:Nat):Stmt:=match top 17 with|.ClassDef (body:=b) ..=>b.getD i (.Pass ⟨0,0,0,0⟩)|_=>.Pass ⟨0,0,0,0⟩
def qb(i:Nat):Stmt:=match top 18 with|.ClassDef (body:=b) ..=>b.getD i (.Pass ⟨0,0,0,0⟩)|_=>.Pass ⟨0,0,0,0⟩
def jf:dP:=#[.iff (.cmp .lt (!1) (.blt .len #[!0])) #[.ret (.idx (!0) (!1))] .nil,.ret (¬0)]
def f7:dP:=#[.asg (.one 3) (¬1),.asg (.one 4) (¬0),.iff (.cmp .gt (.bin .mod (!0) (¬3)) (¬0)) #[.asg (.one 3) (.bin .add (¬1) (.bin .mod (.bin .fdiv (!0) (¬3)) (.bin .pow (¬10) (¬56)))),.asg (.one 4) (.bin .mod (.bin .fdiv (!1) (¬66)) (.bin .pow (¬10) (¬58)))] .nil,.ret (.bin .add (.bin .mul (!3) (.bin .mod (.bin .add (.bin .mul (.bin .add (¬1) (.bin .mod (!1) (¬66))) (!2)) (!0)) (¬67))) (!4))]
def kJ:dP:=#[.asg (.one 2) (.call 0 #[!0,¬0]),.asg (.one 3) (.call 0 #[!0,¬1]),.asg (.one 4) (.call 0 #[!0,¬2]),.asg (.one 5) (.bin .add (¬2) (.bin .mod (!4) (¬7))),.asg (.one 6) (.comp ["_law_k","_law_two","_law_one"] [none,some 3,some 2] (.one 0) .range #[!5] .no (.call 1 #[!1,!2,!0])),.asg (.one 7) (.lst .nil),.for (.tup [8,9]) .enum #[!1] #[.asg (.one 10) (.idx (!6) (.bin .mod (!9) (!5))),.asg (.one 11) (.idx (!6) (.bin .mod (.bin .fdiv (!9) (!5)) (!5))),.expr (.met .append (!7) #[.tup #[.call 1 #[!2,!3,!8],.blt .min #[!10,!11],.blt .max #[!10,!11]]])],.asg (.one 12) (.blt .sorted #[.lst #[.idx (!6) (¬0),.idx (!6) (.bin .sub (¬1) (.blt .int #[.cmp .eq (.bin .mod (.bin .fdiv (!4) (¬7)) (¬8)) (¬3)]))]]),.ret (.tup #[.tup #[.idx (!12) (¬0),.idx (!12) (¬1)],.blt .sorted #[!7]])]
def cG:dP:=#[.asg (.one 2) (.lst .nil),.for (.tup [3,4,5]) .seq #[!1] #[.expr (.met .append (!2) #[.tup #[!3,.blt .min #[!4,!5],.blt .max #[!4,!5]]])],.ret (.tup #[.tup #[.blt .min #[.idx (!0) (¬0),.idx (!0) (¬1)],.blt .max #[.idx (!0) (¬0),.idx (!0) (¬1)]],.blt .sorted #[!2]])]
def gS:dP:=#[.ret (.call 3 #[.idx (!0) (¬0),.idx (!0) (¬1)])]
def fc:dP:=#[.asg (.one 1) (.blt .list #[.idx (!0) (¬0)]),.for (.one 2) .seq #[.idx (!0) (¬1)] #[.expr (.met .extend (!1) #[.slc (!2) (¬1) .no])],.ret (.sset (!1))]
def wu:dP:=#[.setF 3 (!0) "net" (.call 4 #[!1]),.setF 3 (!0) "places" (.call 5 #[.fld 3 (!0) "net"]),.setF 3 (!0) "ends" (.dct1 (.con "THOUGHT" (.int (-1))) (.idx (.fld 3 (!0) "net") (¬0))),.for (.tup [2,3,4]) .seq #[.idx (.fld 3 (!0) "net") (¬1)] #[.fD (.fld 3 (!0) "ends") (!2) (.tup #[!3,!4])]]
def mL:dP:=#[.setF 3 (!0) "net" (.call 4 #[!1]),.setF 3 (!0) "places" (.call 5 #[.fld 3 (!0) "net"]),.setF 3 (!0) "ends" (.dct1 (.con "THOUGHT" (.int (-1))) (.idx (.fld 3 (!0) "net") (¬0))),.for (.tup [2,3,4]) .seq #[.idx (.fld 3 (!0) "net") (¬1)] #[.fD (.fld 3 (!0) "ends") (!2) (.tup #[!3,!4])]]
def fO:dP:=#[.setF 3 (!0) "net" (.call 4 #[!1]),.setF 3 (!0) "places" (.call 5 #[.fld 3 (!0) "net"]),.setF 3 (!0) "ends" (.dct1 (.con "THOUGHT" (.int (-1))) (.idx (.fld 3 (!0) "net") (¬0))),.for (.tup [2,3,4]) .seq #[.idx (.fld 3 (!0) "net") (¬1)] #[.fD (.fld 3 (!0) "ends") (!2) (.tup #[!3,!4])]]
def fh:dP:=#[.asg (.one 2) .dct0,.for (.one 3) .seq #[!0] #[.fD (!2) (!3) (!3)],.for (.tup [4,5]) .seq #[!1] #[.asg (.one 6) (.blt .min #[.idx (!2) (!4),.idx (!2) (!5)]),.asg (.one 7) (.blt .max #[.idx (!2) (!4),.idx (!2) (!5)]),.for (.one 3) .seq #[!0] #[.iff (.cmp .eq (.idx (!2) (!3)) (!7)) #[.fD (!2) (!3) (!6)] .nil]],.ret (!2)]
def bX:dP:=#[.asg (.one 2) (.call 9 #[.fld 3 (!0) "places",.comp ["tie","self"] [none,some 0] (.one 0) .seq #[!1] .no (.idx (.fld 3 (!1) "ends") (!0))]),.ret (.blt .len #[.comp ["place","firsts"] [none,some 2] (.one 0) .seq #[.fld 3 (!0) "places"] (.cmp .ne (.idx (!1) (!0)) (!0)) (!0)])]
def f9:dP:=#[.ret (.comp ["tie"] [none] (.one 0) .seq #[.idx (!0) (¬1)] .no (.idx (!0) (¬0)))]
def fj:dP:=#[.ret (.bin .add (.lst #[.con "THOUGHT" (.int (-1))]) (.call 11 #[.fld 3 (!0) "net"]))]
def pF:dP:=#[.expr (.call 8 #[!0,!1]),.setF 3 (!0) "whole" (.mth (!0) "tree_rank" [(0,10),(1,10),(2,10)] #[.mth (!0) "ties" [(0,12),(1,12),(2,12)] .nil])]
def fP:dP:=#[.iff (.cmp .eq (!0) (¬1)) #[.ret (.call 7 #[!1])] .nil,.iff (.cmp .eq (!0) (¬2)) #[.ret (.call 13 #[!1])] .nil,.ret (.call 6 #[!1])]
def fk:dP:=#[.ret (.blt .len #[!1])]
def cH:dP:=#[.ret (.mth (!0) "tree_rank" [(0,10),(1,10),(2,10)] #[!1])]
def cS:dP:=#[.asg (.one 2) (.comp ["tie","row"] [none,some 1] (.one 0) .seq #[.mth (!0) "ties" [(0,12),(1,12),(2,12)] .nil] (.cmp .nin (!0) (!1)) (!0)),.ret (.bin .add (.bin .sub (.blt .len #[!1]) (.fld 3 (!0) "whole")) (.mth (!0) "tree_rank" [(0,10),(1,10),(2,10)] #[!2]))]
def fu:dP:=#[.ret (.cmp .eq (.mth (!0) "rank" [(0,15),(1,16),(2,17)] #[!1]) (.blt .len #[!1]))]
def cI:dP:=#[.asg (.one 3) (.lst .nil),.for (.one 4) .seq #[!1] #[.iff (.mth (!0) "free" [(0,18),(1,18),(2,18)] #[.bin .add (.comp ["each","other"] [none,some 4] (.one 0) .seq #[!1] (.cmp .ne (!0) (!1)) (!0)) (.lst #[!2])]) #[.expr (.met .append (!3) #[!4])] .nil],.ret (!3)]
def gE:dP:=#[.asg (.one 3) .dct0,.for (.one 4) .seq #[!1] #[.iff (.and (.cmp .nin (!4) (.idx (!2) (¬0))) (.cmp .nin (!4) (.idx (!2) (¬1)))) #[.fD (!3) (!4) (.cst .non)] .nil],.asg (.one 5) (.lkeys (!3)),.whl 100000 (.cmp .gt (.blt .len #[!5]) (¬0)) #[.asg (.one 4) (.met .pop (!5) #[¬0]),.for (.one 6) .range #[¬2] #[.iff (.cmp .wX (!4) (.idx (!2) (!6))) #[.cnt] .nil,.iff (.mth (!0) "free" [(0,18),(1,18),(2,18)] #[.bin .add (.idx (!2) (!6)) (.lst #[!4])]) #[.ret (.tup #[!3,!4,!6])] .nil,.for (.one 7) .seq #[.call 19 #[!0,.idx (!2) (!6),!4]] #[.iff (.cmp .nin (!7) (!3)) #[.fD (!3) (!7) (!4),.expr (.met .append (!5) #[!7])] .nil]]],.ret (.tup #[!3,.cst .non,.cst .non])]
def fQ:dP:=#[.for (.one 2) .range #[¬2] #[.iff (.cmp .wX (!1) (.idx (!0) (!2))) #[.ret (!2)] .nil],.ret (.cst .non)]
def pG:dP:=#[.asg (.one 2) (.idx (!1) (¬0)),.asg (.one 3) (.idx (!1) (¬1)),.asg (.one 4) (.idx (!1) (¬2)),.whl 100000 (.cmp .ntn (!3) (.cst .non)) #[.asg (.one 5) (.call 21 #[!0,!3]),.iff (.cmp .ntn (!5) (.cst .non)) #[.expr (.met .remove (.idx (!0) (!5)) #[!3])] .nil,.expr (.met .append (.idx (!0) (!4)) #[!3]),.asg (.one 4) (!5),.asg (.one 3) (.idx (!2) (!3))]]
def pH:dP:=#[.asg (.one 2) (.blt .sorted #[!1]),.asg (.one 3) (.tup #[.lst .nil,.lst .nil]),.asg (.one 4) (.call 20 #[!0,!2,!3]),.whl 100000 (.cmp .ntn (.idx (!4) (¬1)) (.cst .non)) #[.expr (.call 22 #[!3,!4]),.asg (.one 4) (.call 20 #[!0,!2,!3])],.ret (.tup #[.blt .sorted #[.idx (!3) (¬0)],.blt .sorted #[.idx (!3) (¬1)],.skeys (.idx (!4) (¬0))])]
def jg:dP:=#[.asg (.one 2) (.call 23 #[!0,.blt .list #[!1]]),.ret (.bin .add (.blt .len #[.idx (!2) (¬0)]) (.blt .len #[.idx (!2) (¬1)]))]
def sX:dP:=#[.asg (.one 1) (.bin .fdiv (.call 0 #[!0,¬2]) (¬56)),.asg (.one 2) (.call 2 #[!0,.slc (!0) (¬3) (.bin .add (¬3) (.bin .mod (!1) (¬10)))]),.asg (.one 3) (.call 14 #[.bin .add (¬1) (.bin .mod (.bin .fdiv (!1) (¬10)) (¬2)),!2]),.asg (.one 4) (.blt .sorted #[.bin .add (.lst #[.neg (¬1)]) (.comp ["_law_each"] [none] (.one 0) .seq #[.idx (!2) (¬1)] .no (.idx (!0) (¬0)))]),.asg (.one 5) (.bin .mod (.call 0 #[!0,¬17]) (.blt .len #[!4])),.asg (.one 4) (.bin .add (.slc (!4) (!5) .no) (.slc (!4) .no (!5))),.iff (.cmp .eq (.bin .mod (.bin .fdiv (.call 0 #[!0,¬17]) (¬16)) (¬2)) (¬1)) #[.asg (.one 4) (.rev (!4) (.neg (¬1)))] .nil,.asg (.one 6) (.call 24 #[!3,.lst .nil]),.iff (.cmp .ne (!6) (¬0)) #[.ret (.cst (.bl false))] .nil,.for (.one 7) .range #[.blt .len #[!4]] #[.asg (.one 8) (.call 24 #[!3,.slc (!4) .no (.bin .add (!7) (¬1))]),.iff (.and (.cmp .ne (!8) (!6)) (.cmp .ne (!8) (.bin .add (!6) (¬1)))) #[.ret (.cst (.bl false))] .nil,.asg (.one 6) (!8)],.ret (.cmp .eq (.call 24 #[!3,.rev (!4) (.neg (¬1))]) (!6))]
def SN:List Row:=[]
def yQ:List Val->M Val:=fJ (look SN) 2 jf
def SO:List Row:=SN++[(("_law_cell":Str),2,yQ)]
def sY:List Val->M Val:=fJ (look SO) 5 f7
def SQ:List Row:=SO++[(("_law_number":Str),3,sY)]
def BN:List Val->M Val:=fJ (look SQ) 13 kJ
def SS:List Row:=SQ++[(("_law_net":Str),2,BN)]
def kK:List Val->M Val:=fJ (look SS) 6 cG
def SV:List Row:=SS++[(("put_in_order":Str),2,kK)]
def u5:List Val->M Val:=fJ (look SV) 1 gS
def SW:List Row:=SV++[(("own_net":Str),1,u5)]
def qc:List Val->M Val:=fJ (look SW) 3 fc
def SX:List Row:=SW++[(("places_of":Str),1,qc)]
def Gn:List Val->M Val:=Dm 0 (fJ (look SX) 5 wu)
def SY:List Row:=SX++[(("Rule":Str),1,Gn)]
def u6:List Val->M Val:=Dm 1 (fJ (look SY) 5 mL)
def S0:List Row:=SY++[(("ByTrees":Str),1,u6)]
def jW:List Val->M Val:=fJ (look S0) 5 fO
def S4:List Row:=S0++[(("Rule.__init__":Str),1002,jW)]
def qd:List Val->M Val:=fJ (look S4) 8 fh
def Gp:List Row:=S4++[(("firsts_by":Str),2,qd)]
def jk:List Val->M Val:=fJ (look Gp) 3 bX
def Gq:List Row:=Gp++[(("Rule.tree_rank":Str),1002,jk)]
def sZ:List Val->M Val:=fJ (look Gq) 1 f9
def Gs:List Row:=Gq++[(("names_of":Str),1,sZ)]
def qf:List Val->M Val:=fJ (look Gs) 1 fj
def Gu:List Row:=Gs++[(("Rule.ties":Str),1001,qf)]
def yR:List Val->M Val:=Dm 2 (fJ (look Gu) 2 pF)
def Gv:List Row:=Gu++[(("ByRest":Str),1,yR)]
def yS:List Val->M Val:=fJ (look Gv) 2 fP
def Gx:List Row:=Gv++[(("_law_rule":Str),2,yS)]
def qg:List Val->M Val:=fJ (look Gx) 2 fk
def Gy:List Row:=Gx++[(("Rule.rank":Str),1002,qg)]
def kL:List Val->M Val:=fJ (look Gy) 2 cH
def Gz:List Row:=Gy++[(("ByTrees.rank":Str),1002,kL)]
def lV:List Val->M Val:=fJ (look Gz) 3 cS
def GA:List Row:=Gz++[(("ByRest.rank":Str),1002,lV)]
def qh:List Val->M Val:=fJ (look GA) 2 fu
def GB:List Row:=GA++[(("Rule.free":Str),1002,qh)]
def nL:List Val->M Val:=fJ (look GB) 5 cI
def GC:List Row:=GB++[(("pushed_out":Str),3,nL)]
def yT:List Val->M Val:=fJ (look GC) 8 gE
def GD:List Row:=GC++[(("way_in":Str),3,yT)]
def u7:List Val->M Val:=fJ (look GD) 3 fQ
def C5:List Row:=GD++[(("home_of":Str),2,u7)]
def yU:List Val->M Val:=fJ (look C5) 6 pG
def GF:List Row:=C5++[(("put_in":Str),2,yU)]
def yV:List Val->M Val:=fJ (look GF) 5 pH
def GG:List Row:=GF++[(("packed":Str),2,yV)]
def yW:List Val->M Val:=fJ (look GG) 3 jg
def Kq:List Row:=GG++[(("_law_many":Str),2,yW)]
def GH:List Val->M Val:=fJ (look Kq) 9 sX
def VA:List bC:=[]
def cT:bC:=gQ (ak VA) 2 jf
def VB:List bC:=VA++[cT]
def gT:bC:=gQ (ak VB) 5 f7
def S5:List bC:=VB++[gT]
def nM:bC:=gQ (ak S5) 13 kJ
def VC:List bC:=S5++[nM]
def cU:bC:=gQ (ak VC) 6 cG
def TR:List bC:=VC++[cU]
def cJ:bC:=gQ (ak TR) 1 gS
def VD:List bC:=TR++[cJ]
def bY:bC:=gQ (ak VD) 3 fc
def S6:List bC:=VD++[bY]
def wz:bC:=kH (ak S6) 0 4 5
def S7:List bC:=S6++[wz]
def lA:bC:=kH (ak S7) 1 4 5
def S8:List bC:=S7++[lA]
def jX:bC:=λ_=>.no
def VE:List bC:=S8++[jX]
def dY:bC:=gQ (ak VE) 8 fh
def Kr:List bC:=VE++[dY]
def aY:bC:=gQ (ak Kr) 3 bX
def O3:List bC:=Kr++[aY]
def gU:bC:=gQ (ak O3) 1 f9
def Ks:List bC:=O3++[gU]
def cV:bC:=gQ (ak Ks) 1 fj
def GI:List bC:=Ks++[cV]
def nO:bC:=uW (ak S8) (ak GI) 2 4 5 12 10
def C6:List bC:=GI++[nO]
def gW:bC:=gQ (ak C6) 2 fP
def O4:List bC:=C6++[gW]
def gc:bC:=gQ (ak O4) 2 fk
def Ku:List bC:=O4++[gc]
def cW:bC:=gQ (ak Ku) 2 cH
def GJ:List bC:=Ku++[cW]
def cK:bC:=gQ (ak GJ) 3 cS
def As:List bC:=GJ++[cK]
def dZ:bC:=gQ (ak As) 2 fu
def C7:List bC:=As++[dZ]
def fz:bC:=gQ (ak C7) 5 cI
def cX:List bC:=C7++[fz]
def kM:bC:=gQ (ak cX) 8 gE
def Kv:List bC:=cX++[kM]
def lC:bC:=gQ (ak Kv) 3 fQ
def S9:List bC:=Kv++[lC]
def yX:bC:=λ_=>.no
def pI:List bC:=S9++[yX]
def kN:bC:=yN (ak pI) 20 21
def Kw:List bC:=pI++[kN]
def kO:bC:=gQ (ak Kw) 3 jg
def tu:List bC:=Kw++[kO]
def Lq:bC:=gQ (ak tu) 9 sX
theorem qu:ak S5 0=cT:=rfl
theorem iA:ak S5 1=gT:=rfl
theorem jl:ak TR 3=cU:=rfl
theorem qv:ak S6 4=cJ:=rfl
theorem nP:ak S6 5=bY:=rfl
theorem mO:ak S7 4=cJ:=rfl
theorem kP:ak S7 5=bY:=rfl
theorem iL:ak S8 4=cJ:=rfl
theorem gX:ak S8 5=bY:=rfl
theorem gz:ak Kr 9=dY:=rfl
theorem j6:ak Ks 11=gU:=rfl
theorem iM:ak GI 10=aY:=rfl
theorem lH:ak GI 12=cV:=rfl
theorem tw:ak C6 6=wz:=rfl
theorem nQ:ak C6 7=lA:=rfl
theorem pJ:ak C6 13=nO:=rfl
theorem fR:ak Ku 10=aY:=rfl
theorem gf:ak GJ 10=aY:=rfl
theorem iO:ak GJ 12=cV:=rfl
theorem jN:ak As 15=gc:=rfl
theorem ig:ak As 16=cW:=rfl
theorem iP:ak As 17=cK:=rfl
theorem jm:ak C7 18=dZ:=rfl
theorem lI:ak cX 18=dZ:=rfl
theorem kQ:ak cX 19=fz:=rfl
theorem fS:ak pI 20=kM:=rfl
theorem pK:ak Kw 23=kN:=rfl
theorem iQ:ak tu 0=cT:=rfl
theorem wD:ak tu 2=nM:=rfl
theorem ue:ak tu 14=gW:=rfl
theorem iR:ak tu 24=kO:=rfl
theorem i0:eL SN VA:=FE
theorem GK:Imp yQ cT:=cu (aH i0) (by decide +kernel)
theorem i1:eL SO VB:=aI i0 GK
theorem Au:Imp sY gT:=cu (aH i1) (by decide +kernel)
theorem i2:eL SQ S5:=aI i1 Au
theorem Ky:Imp BN nM:=cu (aH i2) (by decide +kernel)
theorem i3:eL SS VC:=aI i2 Ky
theorem tB:Imp kK cU:=cu (aH i3) (by decide +kernel)
theorem i4:eL SV TR:=aI i3 tB
theorem C8:Imp u5 cJ:=cu (aH i4) (by decide +kernel)
theorem i5:eL SW VD:=aI i4 C8
theorem yY:Imp qc bY:=cu (aH i5) (by decide +kernel)
theorem i6:eL SX S6:=aI i5 yY
theorem O5:Imp Gn wz:=yH (n:=3) (by decide) (aH i6)
theorem i7:eL SY S7:=aI i6 O5
theorem C9:Imp u6 lA:=yH (n:=3) (by decide) (aH i7)
theorem i8:eL S0 S8:=aI i7 C9
theorem qy:Imp jW jX:=yI
theorem i9:eL S4 VE:=aI i8 qy
theorem yZ:Imp qd dY:=cu (aH i9) (by decide +kernel)
theorem WN:eL Gp Kr:=aI i9 yZ
theorem pL:Imp jk aY:=cu (aH WN) (by decide +kernel)
theorem WO:eL Gq O3:=aI WN pL
theorem Av:Imp sZ gU:=cu (aH WO) (by decide +kernel)
theorem i12:eL Gs Ks:=aI WO Av
theorem y9:Imp qf cV:=cu (aH i12) (by decide +kernel)
theorem WQ:eL Gu GI:=aI i12 y9
theorem GL:Imp yR nO:=FQ (n:=3) (ji:=8) (by decide) (aH i8) (aH WQ) rfl rfl rfl
theorem WR:eL Gv C6:=aI WQ GL
theorem GN:Imp yS gW:=cu (aH WR) (by decide +kernel)
theorem WS:eL Gx O4:=aI WR GN
theorem zb:Imp qg gc:=cu (aH WS) (by decide +kernel)
theorem WU:eL Gy Ku:=aI WS zb
theorem tD:Imp kL cW:=cu (aH WU) (by decide +kernel)
theorem WW:eL Gz GJ:=aI WU tD
theorem uf:Imp lV cK:=cu (aH WW) (by decide +kernel)
theorem WX:eL GA As:=aI WW uf
theorem zc:Imp qh dZ:=cu (aH WX) (by decide +kernel)
theorem WY:eL GB C7:=aI WX zc
theorem wF:Imp nL fz:=cu (aH WY) (by decide +kernel)
theorem WZ:eL GC cX:=aI WY wF
theorem GO:Imp yT kM:=cu (aH WZ) (by decide +kernel)
theorem W0:eL GD Kv:=aI WZ GO
theorem u9:Imp u7 lC:=cu (aH W0) (by decide +kernel)
theorem YI:eL C5 S9:=aI W0 u9
theorem GP:Imp yU yX:=yI
theorem W2:eL GF pI:=aI YI GP
theorem GQ:Imp yV kN:=Ar (jw:=20) (jp:=22) (jh:=21) (jH:=21) (Φ':=look C5) (aH W2) rfl u9
theorem W3:eL GG Kw:=aI W2 GQ
theorem GR:Imp yW kO:=cu (aH W3) (by decide +kernel)
theorem YJ:eL Kq tu:=aI W3 GR
theorem Kz{ns:List Int}{f:Bool}(e:Lq [.rl (ns.map .int)]=.ok (f,.bl true)):∃h',GH [.rl (ns.map .int)] []=.ok (.bl true) h':=FF (cu (aH YJ) (by decide +kernel)) e
theorem c0:aW Ge Ge (ai (top 20))=true:=by decide +kernel
theorem d0:bh ⟨Ge,ai (top 20),SN.map (λr=>(r.1,r.2.1)),cons,tb⟩ jf (aB (top 20))=true:=by decide +kernel
theorem c1:aW OV ["_law_one","_law_two","_law_k"] (ai (top 21))=true:=by decide +kernel
theorem d1:bh ⟨OV,ai (top 21),SO.map (λr=>(r.1,r.2.1)),cons,tb⟩ f7 (aB (top 21))=true:=by decide +kernel
theorem c2:aW OW ["_law_script","_law_cells"] (ai (top 22))=true:=by decide +kernel
theorem d2:bh ⟨OW,ai (top 22),SQ.map (λr=>(r.1,r.2.1)),cons,tb⟩ kJ (aB (top 22))=true:=by decide +kernel
theorem c3:aW OX ["poles","ties"] (ai (top 8))=true:=by decide +kernel
theorem d3:bh ⟨OX,ai (top 8),SS.map (λr=>(r.1,r.2.1)),cons,tb⟩ cG (aB (top 8))=true:=by decide +kernel
theorem c4:aW ["net"] ["net"] (ai (top 9))=true:=by decide +kernel
theorem d4:bh ⟨["net"],ai (top 9),SV.map (λr=>(r.1,r.2.1)),cons,tb⟩ gS (aB (top 9))=true:=by decide +kernel
theorem c5:aW OY ["net"] (ai (top 10))=true:=by decide +kernel
theorem d5:bh ⟨OY,ai (top 10),SW.map (λr=>(r.1,r.2.1)),cons,tb⟩ fc (aB (top 10))=true:=by decide +kernel
theorem c6:aW wo sW (ai (b7 0))=true:=by decide +kernel
theorem d6:bh ⟨wo,ai (b7 0),SX.map (λr=>(r.1,r.2.1)),cons,tb⟩ wu (aB (b7 0))=true:=by decide +kernel
theorem c7:aW wo sW (ai (b7 0))=true:=by decide +kernel
theorem d7:bh ⟨wo,ai (b7 0),SY.map (λr=>(r.1,r.2.1)),cons,tb⟩ mL (aB (b7 0))=true:=by decide +kernel
theorem c8:aW wo sW (ai (b7 0))=true:=by decide +kernel
theorem d8:bh ⟨wo,ai (b7 0),S0.map (λr=>(r.1,r.2.1)),cons,tb⟩ fO (aB (b7 0))=true:=by decide +kernel
theorem c9:aW OZ ["places","pairs"] (ai (top 13))=true:=by decide +kernel
theorem d9:bh ⟨OZ,ai (top 13),S4.map (λr=>(r.1,r.2.1)),cons,tb⟩ fh (aB (top 13))=true:=by decide +kernel
theorem YK:aW O0 jM (ai (b7 7))=true:=by decide +kernel
theorem PU:bh ⟨O0,ai (b7 7),Gp.map (λr=>(r.1,r.2.1)),cons,tb⟩ bX (aB (b7 7))=true:=by decide +kernel
theorem YL:aW ["net"] ["net"] (ai (top 11))=true:=by decide +kernel
theorem YM:bh ⟨["net"],ai (top 11),Gq.map (λr=>(r.1,r.2.1)),cons,tb⟩ f9 (aB (top 11))=true:=by decide +kernel
theorem c12:aW ["self"] ["self"] (ai (b7 3))=true:=by decide +kernel
theorem YN:bh ⟨["self"],ai (b7 3),Gs.map (λr=>(r.1,r.2.1)),cons,tb⟩ fj (aB (b7 3))=true:=by decide +kernel
theorem YO:aW sW sW (ai (qb 0))=true:=by decide +kernel
theorem YQ:bh ⟨sW,ai (qb 0),Gu.map (λr=>(r.1,r.2.1)),cons,tb⟩ pF (aB (qb 0))=true:=by decide +kernel
theorem YR:aW yP yP (ai (top 23))=true:=by decide +kernel
theorem YS:bh ⟨yP,ai (top 23),Gv.map (λr=>(r.1,r.2.1)),cons,tb⟩ fP (aB (top 23))=true:=by decide +kernel
theorem YT:aW jM jM (ai (b7 4))=true:=by decide +kernel
theorem YU:bh ⟨jM,ai (b7 4),Gx.map (λr=>(r.1,r.2.1)),cons,tb⟩ fk (aB (b7 4))=true:=by decide +kernel
theorem YV:aW jM jM (ai (BL 1))=true:=by decide +kernel
theorem YW:bh ⟨jM,ai (BL 1),Gy.map (λr=>(r.1,r.2.1)),cons,tb⟩ cH (aB (BL 1))=true:=by decide +kernel
theorem TU:aW Gf jM (ai (qb 2))=true:=by decide +kernel
theorem YX:bh ⟨Gf,ai (qb 2),Gz.map (λr=>(r.1,r.2.1)),cons,tb⟩ cS (aB (qb 2))=true:=by decide +kernel
theorem YY:aW jM jM (ai (b7 5))=true:=by decide +kernel
theorem YZ:bh ⟨jM,ai (b7 5),GA.map (λr=>(r.1,r.2.1)),cons,tb⟩ fu (aB (b7 5))=true:=by decide +kernel
theorem Y0:aW Gg ["rule","row","name"] (ai (top 4))=true:=by decide +kernel
theorem Y3:bh ⟨Gg,ai (top 4),GB.map (λr=>(r.1,r.2.1)),cons,tb⟩ cI (aB (top 4))=true:=by decide +kernel
theorem Y4:aW Gh ["rule","names","rows"] (ai (top 3))=true:=by decide +kernel
theorem Y5:bh ⟨Gh,ai (top 3),GC.map (λr=>(r.1,r.2.1)),cons,tb⟩ gE (aB (top 3))=true:=by decide +kernel
theorem Y6:aW Gi ["rows","name"] (ai (top 6))=true:=by decide +kernel
theorem Y7:bh ⟨Gi,ai (top 6),GD.map (λr=>(r.1,r.2.1)),cons,tb⟩ fQ (aB (top 6))=true:=by decide +kernel
theorem Y8:aW Gj ["rows","way"] (ai (top 5))=true:=by decide +kernel
theorem Y9:bh ⟨Gj,ai (top 5),C5.map (λr=>(r.1,r.2.1)),cons,tb⟩ pG (aB (top 5))=true:=by decide +kernel
theorem Za:aW Gk ["rule","row"] (ai (top 2))=true:=by decide +kernel
theorem Zb:bh ⟨Gk,ai (top 2),GF.map (λr=>(r.1,r.2.1)),cons,tb⟩ pH (aB (top 2))=true:=by decide +kernel
theorem Zc:aW Gm ["_law_rule_here","_law_names"] (ai (top 24))=true:=by decide +kernel
theorem Zd:bh ⟨Gm,ai (top 24),GG.map (λr=>(r.1,r.2.1)),cons,tb⟩ jg (aB (top 24))=true:=by decide +kernel
theorem Ze:aW Lp ["_law_script"] (ai (top 25))=true:=by decide +kernel
theorem Zf:bh ⟨Lp,ai (top 25),Kq.map (λr=>(r.1,r.2.1)),cons,tb⟩ sX (aB (top 25))=true:=by decide +kernel
section
variable {P:Program} {w:World} {K:Frag} {mg:Str->Option Value} {base:Heap}
theorem all_mk{l:PySem.W.OpenLaw}{h:Heap}{fa:Addr}(X:K.In h)(G:h.Ns mainGlobals mg)(Q8:mg "law" = some (.ref fa))(hφ:∀ns:List Int,ns.length<=63->∃h',GH [.rl (ns.map .int)] []=.ok (.bl true) h'){D0:Addr}{D1:Addr}{D2:Addr}{E0:Addr}{a0:Addr}{a1:Addr}{a2:Addr}{a3:Addr}{a4:Addr}{a5:Addr}{a6:Addr}{a7:Addr}{a8:Addr}{a9:Addr}{PX:Addr}{W4:Addr}{PY:Addr}{TV:Addr}{W5:Addr}{TX:Addr}{TY:Addr}{TZ:Addr}{PZ:Addr}{W6:Addr}{W7:Addr}{W8:Addr}{W9:Addr}{Xa:Addr}{Xb:Addr}{Xc:Addr}{tk0:Tok}
  (DA0:nsIn K mainGlobals "Rule" = some (some (.ref D0))) (DG0:plainGet K D0 Str.empty=true) (DH0:hasDictIn K D0=true) (DO0:plainOver K D0=true) (DS0:findIn K (.ref D0) "__setattr__" = some (some (.builtin "object.__setattr__"))) (DM0:makesIn K D0=true) (DK0:keepIn K (.ref D0)=true)
  (DN0_0:findIn K (.ref D0) "net" = some none)
  (DN0_1:findIn K (.ref D0) "places" = some none)
  (DN0_2:findIn K (.ref D0) "ends" = some none)
  (DN0_3:findIn K (.ref D0) "whole" = some none)
  (DA1:nsIn K mainGlobals "ByTrees" = some (some (.ref D1))) (DG1:plainGet K D1 Str.empty=true) (DH1:hasDictIn K D1=true) (DO1:plainOver K D1=true) (DS1:findIn K (.ref D1) "__setattr__" = some (some (.builtin "object.__setattr__"))) (DM1:makesIn K D1=true) (DK1:keepIn K (.ref D1)=true)
  (DN1_0:findIn K (.ref D1) "net" = some none)
  (DN1_1:findIn K (.ref D1) "places" = some none)
  (DN1_2:findIn K (.ref D1) "ends" = some none)
  (DN1_3:findIn K (.ref D1) "whole" = some none)
  (DA2:nsIn K mainGlobals "ByRest" = some (some (.ref D2))) (DG2:plainGet K D2 Str.empty=true) (DH2:hasDictIn K D2=true) (DO2:plainOver K D2=true) (DS2:findIn K (.ref D2) "__setattr__" = some (some (.builtin "object.__setattr__"))) (DM2:makesIn K D2=true) (DK2:keepIn K (.ref D2)=true)
  (DN2_0:findIn K (.ref D2) "net" = some none)
  (DN2_1:findIn K (.ref D2) "places" = some none)
  (DN2_2:findIn K (.ref D2) "ends" = some none)
  (DN2_3:findIn K (.ref D2) "whole" = some none)
  (EA0:nsIn K mainGlobals "Rule" = some (some (.ref E0)))
  (EG0:specialIn K (.ref E0) "__getattribute__" = some (some (.builtin "type.__getattribute__"))) (ER0:readsIn K E0 (.type "type")=true)
  (A0:nsIn K mainGlobals "_law_cell" = some (some (.ref a0)))
  (F0:mH K "_law_cell" "_law_cell" (top 20) a0)
  (A1:nsIn K mainGlobals "_law_number" = some (some (.ref a1)))
  (F1:mH K "_law_number" "_law_number" (top 21) a1)
  (A2:nsIn K mainGlobals "_law_net" = some (some (.ref a2)))
  (F2:mH K "_law_net" "_law_net" (top 22) a2)
  (A3:nsIn K mainGlobals "put_in_order" = some (some (.ref a3)))
  (F3:mH K "put_in_order" "put_in_order" (top 8) a3)
  (A4:nsIn K mainGlobals "own_net" = some (some (.ref a4)))
  (F4:mH K "own_net" "own_net" (top 9) a4)
  (A5:nsIn K mainGlobals "places_of" = some (some (.ref a5)))
  (F5:mH K "places_of" "places_of" (top 10) a5)
  (A6:findIn K (.ref D0) "__init__" = some (some (.ref a6))) (I6:isFn K (.ref a6)=true)
  (F6:mH K "__init__" "Rule.__init__" (b7 0) a6)
  (A7:findIn K (.ref D1) "__init__" = some (some (.ref a7))) (I7:isFn K (.ref a7)=true)
  (F7:mH K "__init__" "Rule.__init__" (b7 0) a7)
  (EF0_8:findCls K (.ref E0) (.type "type") "__init__" = some (.val (.ref a8)))
  (I8:isFn K (.ref a8)=true)
  (F8:mH K "__init__" "Rule.__init__" (b7 0) a8)
  (A9:nsIn K mainGlobals "firsts_by" = some (some (.ref a9)))
  (F9:mH K "firsts_by" "firsts_by" (top 13) a9)
  (M0_10:findIn K (.ref D0) "tree_rank" = some (some (.ref PX)))
  (M1_10:findIn K (.ref D1) "tree_rank" = some (some (.ref PX)))
  (M2_10:findIn K (.ref D2) "tree_rank" = some (some (.ref PX)))
  (I10:isFn K (.ref PX)=true)
  (F10:mH K "tree_rank" "Rule.tree_rank" (b7 7) PX)
  (A11:nsIn K mainGlobals "names_of" = some (some (.ref W4)))
  (F11:mH K "names_of" "names_of" (top 11) W4)
  (M0_12:findIn K (.ref D0) "ties" = some (some (.ref PY)))
  (M1_12:findIn K (.ref D1) "ties" = some (some (.ref PY)))
  (M2_12:findIn K (.ref D2) "ties" = some (some (.ref PY)))
  (I12:isFn K (.ref PY)=true)
  (F12:mH K "ties" "Rule.ties" (b7 3) PY)
  (A13:findIn K (.ref D2) "__init__" = some (some (.ref TV))) (I13:isFn K (.ref TV)=true)
  (F13:mH K "__init__" "ByRest.__init__" (qb 0) TV)
  (A14:nsIn K mainGlobals "_law_rule" = some (some (.ref W5)))
  (F14:mH K "_law_rule" "_law_rule" (top 23) W5)
  (M0_15:findIn K (.ref D0) "rank" = some (some (.ref TX)))
  (I15:isFn K (.ref TX)=true)
  (F15:mH K "rank" "Rule.rank" (b7 4) TX)
  (M1_16:findIn K (.ref D1) "rank" = some (some (.ref TY)))
  (I16:isFn K (.ref TY)=true)
  (F16:mH K "rank" "ByTrees.rank" (BL 1) TY)
  (M2_17:findIn K (.ref D2) "rank" = some (some (.ref TZ)))
  (I17:isFn K (.ref TZ)=true)
  (F17:mH K "rank" "ByRest.rank" (qb 2) TZ)
  (M0_18:findIn K (.ref D0) "free" = some (some (.ref PZ)))
  (M1_18:findIn K (.ref D1) "free" = some (some (.ref PZ)))
  (M2_18:findIn K (.ref D2) "free" = some (some (.ref PZ)))
  (I18:isFn K (.ref PZ)=true)
  (F18:mH K "free" "Rule.free" (b7 5) PZ)
  (A19:nsIn K mainGlobals "pushed_out" = some (some (.ref W6)))
  (F19:mH K "pushed_out" "pushed_out" (top 4) W6)
  (A20:nsIn K mainGlobals "way_in" = some (some (.ref W7)))
  (F20:mH K "way_in" "way_in" (top 3) W7)
  (A21:nsIn K mainGlobals "home_of" = some (some (.ref W8)))
  (F21:mH K "home_of" "home_of" (top 6) W8)
  (A22:nsIn K mainGlobals "put_in" = some (some (.ref W9)))
  (F22:mH K "put_in" "put_in" (top 5) W9)
  (A23:nsIn K mainGlobals "packed" = some (some (.ref Xa)))
  (F23:mH K "packed" "packed" (top 2) Xa)
  (A24:nsIn K mainGlobals "_law_many" = some (some (.ref Xb)))
  (F24:mH K "_law_many" "_law_many" (top 24) Xb)
  (A25:nsIn K mainGlobals "law" = some (some (.ref Xc)))
  (F25:mH K "law" "law" (top 25) Xc)
  (Z:∀x∈bltNames,nsIn K mainGlobals x=some none)
  (V0:nsIn K mainGlobals "THOUGHT" = some (some (.int (-1) tk0))) :
  ∃fd:FuncData,(∀(s:Shared) (v:Value),BindsTo s fd ⟨[v],[]⟩ [("_law_script",v)])/\∀base:Heap,K.In base->base.Ns mainGlobals mg->fF l.prog w K mg base zu 52 fa fd ["_law_script"] (TM K):=by
 have e:=Q8.symm.trans (aaL X G A25);cases e;obtain⟨cl,hcl⟩:∃cl:Nat->Addr,cl=λn=>if n=0 then D0 else if n=1 then D1 else if n=2 then D2 else if n=1008 then a8 else if n=1010 then PX else if n=1012 then PY else if n=1015 then TX else if n=1016 then TY else if n=1017 then TZ else if n=1018 then PZ else 0:=⟨_,rfl⟩
 have T:Base K cl mg cons tb:=by
  subst hcl;refine⟨λx hx=>?_,λp hp=>?_,λc hc=>?_,λp hp=>?_,λp hp=>?_,λp hp=>?_⟩
  ·exact PySem.W.mg_none_of X G (Z x hx)
  ·simp only[cons,mem_cons,not_mem_nil,or_false]at hp
   rcases hp with rfl
   ·exact⟨.int (-1),_,aaL X G V0,⟨_,rfl⟩,λ_ _ _=>VR.int⟩
  ·have hc:c<3:=hc
   match c,hc with
   |0,_=>
    refine⟨⟨DG0,DH0,DO0,DS0⟩,λx hx=>?_⟩;simp only[tb,mem_cons,not_mem_nil,or_false]at hx
    rcases hx with rfl|rfl|rfl|rfl
    ·exact DN0_0
    ·exact DN0_1
    ·exact DN0_2
    ·exact DN0_3
   |1,_=>
    refine⟨⟨DG1,DH1,DO1,DS1⟩,λx hx=>?_⟩;simp only[tb,mem_cons,not_mem_nil,or_false]at hx
    rcases hx with rfl|rfl|rfl|rfl
    ·exact DN1_0
    ·exact DN1_1
    ·exact DN1_2
    ·exact DN1_3
   |2,_=>
    refine⟨⟨DG2,DH2,DO2,DS2⟩,λx hx=>?_⟩;simp only[tb,mem_cons,not_mem_nil,or_false]at hx
    rcases hx with rfl|rfl|rfl|rfl
    ·exact DN2_0
    ·exact DN2_1
    ·exact DN2_2
    ·exact DN2_3
  ·simp only[tb,mem_cons,not_mem_nil,or_false]at hp
   rcases hp with rfl|rfl|rfl|rfl|rfl|rfl|rfl|rfl|rfl|rfl|rfl|rfl
   ·exact⟨M0_10,I10,F10.kp⟩
   ·exact⟨M1_10,I10,F10.kp⟩
   ·exact⟨M2_10,I10,F10.kp⟩
   ·exact⟨M0_12,I12,F12.kp⟩
   ·exact⟨M1_12,I12,F12.kp⟩
   ·exact⟨M2_12,I12,F12.kp⟩
   ·exact⟨M0_15,I15,F15.kp⟩
   ·exact⟨M1_16,I16,F16.kp⟩
   ·exact⟨M2_17,I17,F17.kp⟩
   ·exact⟨M0_18,I18,F18.kp⟩
   ·exact⟨M1_18,I18,F18.kp⟩
   ·exact⟨M2_18,I18,F18.kp⟩
  ·simp only[tb,mem_cons,not_mem_nil,or_false]at hp
   rcases hp with rfl
   ·exact⟨E0,aaL X G EA0,⟨EG0,ER0,EF0_8,F8.kp⟩⟩
  ·simp[tb]at hp
 obtain⟨fd,F⟩:=F25;obtain⟨_,_,_,_,_,_,_,_,_,e,_⟩:=F.ex;refine⟨fd,λs v=>by rw[e];exact .of_eq rfl,λbase _ _=>?_⟩;have G0:cA l.prog w ⟨K,cl⟩ mg base 0 SN:=all_nil;have G1:cA l.prog w ⟨K,cl⟩ mg base 2 SO:=gM (x:="_law_cell") (N:=Ge) (ps:=Ge) (body:=jf) T G0 F0 (aaL X G A0) c0 d0 (by decide) (by intro _ _ _ _ _ _ _ l;apply ln2 l;intros;rfl);have G2:cA l.prog w ⟨K,cl⟩ mg base 4 SQ:=gM (x:="_law_number") (N:=OV) (ps:=["_law_one","_law_two","_law_k"]) (body:=f7) T G1 F1 (aaL X G A1) c1 d1 (by decide) (by intro _ _ _ _ _ _ _ l;apply Vh l;intros;rfl);have G3:cA l.prog w ⟨K,cl⟩ mg base 6 SS:=gM (x:="_law_net") (N:=OW) (ps:=["_law_script","_law_cells"]) (body:=kJ) T G2 F2 (aaL X G A2) c2 d2 (by decide) (by intro _ _ _ _ _ _ _ l;apply ln2 l;intros;rfl);have G4:cA l.prog w ⟨K,cl⟩ mg base 8 SV:=gM (x:="put_in_order") (N:=OX) (ps:=["poles","ties"]) (body:=cG) T G3 F3 (aaL X G A3) c3 d3 (by decide) (by intro _ _ _ _ _ _ _ l;apply ln2 l;intros;rfl);have G5:cA l.prog w ⟨K,cl⟩ mg base 10 SW:=gM (x:="own_net") (N:=["net"]) (ps:=["net"]) (body:=gS) T G4 F4 (aaL X G A4) c4 d4 (by decide) (by intro _ _ _ _ _ _ _ l;apply TL l;intros;rfl);have G6:cA l.prog w ⟨K,cl⟩ mg base 12 SX:=gM (x:="places_of") (N:=OY) (ps:=["net"]) (body:=fc) T G5 F5 (aaL X G A5) c5 d5 (by decide) (by intro _ _ _ _ _ _ _ l;apply TL l;intros;rfl);have G7:cA l.prog w ⟨K,cl⟩ mg base 14 SY:=Ag (x:="Rule") (N:=wo) (ps:=sW) (body:=wu) (n:=1) (f:=a6) (c:=0) T G6 F6 (by rw[hcl];exact aaL X G DA0) (by rw[hcl];exact⟨DM0,A6,I6,DK0⟩) c6 d6 rfl (by decide) (by intro _ _ _ _ _ _ _ l;apply ln2 l;intros;rfl);have G8:cA l.prog w ⟨K,cl⟩ mg base 16 S0:=Ag (x:="ByTrees") (N:=wo) (ps:=sW) (body:=mL) (n:=1) (f:=a7) (c:=1) T G7 F7 (by rw[hcl];exact aaL X G DA1) (by rw[hcl];exact⟨DM1,A7,I7,DK1⟩) c7 d7 rfl (by decide) (by intro _ _ _ _ _ _ _ l;apply ln2 l;intros;rfl);have G9:cA l.prog w ⟨K,cl⟩ mg base 18 S4:=su (y:="Rule.__init__") (N:=wo) (ps:=sW) (body:=fO) T G8 F8 (by rw[hcl];rfl) c8 d8 (by intro _ _ _ _ _ _ _ l;apply ln2 l;intros;rfl);have Zg:cA l.prog w ⟨K,cl⟩ mg base 20 Gp:=gM (x:="firsts_by") (N:=OZ) (ps:=["places","pairs"]) (body:=fh) T G9 F9 (aaL X G A9) c9 d9 (by decide) (by intro _ _ _ _ _ _ _ l;apply ln2 l;intros;rfl);have Zh:cA l.prog w ⟨K,cl⟩ mg base 22 Gq:=su (y:="Rule.tree_rank") (N:=O0) (ps:=jM) (body:=bX) T Zg F10 (by rw[hcl];rfl) YK PU (by intro _ _ _ _ _ _ _ l;apply ln2 l;intros;rfl);have Zi:cA l.prog w ⟨K,cl⟩ mg base 24 Gs:=gM (x:="names_of") (N:=["net"]) (ps:=["net"]) (body:=f9) T Zh F11 (aaL X G A11) YL YM (by decide) (by intro _ _ _ _ _ _ _ l;apply TL l;intros;rfl);have Zj:cA l.prog w ⟨K,cl⟩ mg base 26 Gu:=su (y:="Rule.ties") (N:=["self"]) (ps:=["self"]) (body:=fj) T Zi F12 (by rw[hcl];rfl) c12 YN (by intro _ _ _ _ _ _ _ l;apply TL l;intros;rfl);have Zk:cA l.prog w ⟨K,cl⟩ mg base 28 Gv:=Ag (x:="ByRest") (N:=sW) (ps:=sW) (body:=pF) (n:=1) (f:=TV) (c:=2) T Zj F13 (by rw[hcl];exact aaL X G DA2) (by rw[hcl];exact⟨DM2,A13,I13,DK2⟩) YO YQ rfl (by decide) (by intro _ _ _ _ _ _ _ l;apply ln2 l;intros;rfl);have Zl:cA l.prog w ⟨K,cl⟩ mg base 30 Gx:=gM (x:="_law_rule") (N:=yP) (ps:=yP) (body:=fP) T Zk F14 (aaL X G A14) YR YS (by decide) (by intro _ _ _ _ _ _ _ l;apply ln2 l;intros;rfl);have Zm:cA l.prog w ⟨K,cl⟩ mg base 32 Gy:=su (y:="Rule.rank") (N:=jM) (ps:=jM) (body:=fk) T Zl F15 (by rw[hcl];rfl) YT YU (by intro _ _ _ _ _ _ _ l;apply ln2 l;intros;rfl);have Zn:cA l.prog w ⟨K,cl⟩ mg base 34 Gz:=su (y:="ByTrees.rank") (N:=jM) (ps:=jM) (body:=cH) T Zm F16 (by rw[hcl];rfl) YV YW (by intro _ _ _ _ _ _ _ l;apply ln2 l;intros;rfl);have Zo:cA l.prog w ⟨K,cl⟩ mg base 36 GA:=su (y:="ByRest.rank") (N:=Gf) (ps:=jM) (body:=cS) T Zn F17 (by rw[hcl];rfl) TU YX (by intro _ _ _ _ _ _ _ l;apply ln2 l;intros;rfl);have Zp:cA l.prog w ⟨K,cl⟩ mg base 38 GB:=su (y:="Rule.free") (N:=jM) (ps:=jM) (body:=fu) T Zo F18 (by rw[hcl];rfl) YY YZ (by intro _ _ _ _ _ _ _ l;apply ln2 l;intros;rfl);have Zq:cA l.prog w ⟨K,cl⟩ mg base 40 GC:=gM (x:="pushed_out") (N:=Gg) (ps:=["rule","row","name"]) (body:=cI) T Zp F19 (aaL X G A19) Y0 Y3 (by decide) (by intro _ _ _ _ _ _ _ l;apply Vh l;intros;rfl);have Zr:cA l.prog w ⟨K,cl⟩ mg base 42 GD:=gM (x:="way_in") (N:=Gh) (ps:=["rule","names","rows"]) (body:=gE) T Zq F20 (aaL X G A20) Y4 Y5 (by decide) (by intro _ _ _ _ _ _ _ l;apply Vh l;intros;rfl);have Zs:cA l.prog w ⟨K,cl⟩ mg base 44 C5:=gM (x:="home_of") (N:=Gi) (ps:=["rows","name"]) (body:=fQ) T Zr F21 (aaL X G A21) Y6 Y7 (by decide) (by intro _ _ _ _ _ _ _ l;apply ln2 l;intros;rfl);have Zt:cA l.prog w ⟨K,cl⟩ mg base 46 GF:=gM (x:="put_in") (N:=Gj) (ps:=["rows","way"]) (body:=pG) T Zs F22 (aaL X G A22) Y8 Y9 (by decide) (by intro _ _ _ _ _ _ _ l;apply ln2 l;intros;rfl);have Zu:cA l.prog w ⟨K,cl⟩ mg base 48 GG:=gM (x:="packed") (N:=Gk) (ps:=["rule","row"]) (body:=pH) T Zt F23 (aaL X G A23) Za Zb (by decide) (by intro _ _ _ _ _ _ _ l;apply ln2 l;intros;rfl);have Zv:cA l.prog w ⟨K,cl⟩ mg base 50 Kq:=gM (x:="_law_many") (N:=Gm) (ps:=["_law_rule_here","_law_names"]) (body:=jg) T Zu F24 (aaL X G A24) Zc Zd (by decide) (by intro _ _ _ _ _ _ _ l;apply ln2 l;intros;rfl);exact(Br T Zv F Ze Zf).imp (NY hφ)
end
end K34
end
section
open PySem L2 Hv
set_option hygiene false
local macro_rules | `(tactic| simp only[EV,$ls,*] $[$l:location]?)=>`(tactic| simp only[gQ,yr,isSome_some,Option.isSome_none,OI,OJ,OL,jS,Sd,Se,Sf,Sg,Sh,OC,Si,OE,OF,Vm,Sj,Sk,aF,bx,Ah,bF,vY,gP,TN,JS,JR,j3,Wx,Li,aX,Oz,dg,Ka,OA,isVar,gO,List.getElem?_cons_zero,List.getElem?_cons_succ,set_cons_zero,set_cons_succ,map_cons,map_nil,length_cons,length_nil,cons_append,nil_append,List.replicate_succ,List.replicate_zero,Nat.reduceSub,Nat.reduceAdd,Nat.reduceLeDiff,Sm,Sn,Vn,Vo,Vp,Vq,Vr,Vs,So,Sq,FG,Ss,Su,Sv,Sw,Sx,Sy,Sz,OG,OH,SA,iS,bH,sy,Vj,cM,jO,Hv.stored,List.contains_nil,List.contains_cons,List.elem_nil,List.elem_cons,Nat.reduceBEq,Nat.reduceEqDiff,BEq.rfl,all_cons,List.all_nil,beq_self_eq_true,yq,iY,sD,lT,o6,↓reduceIte,Bool.and_true,Bool.true_and,Bool.false_and,Bool.and_false,Bool.or_false,Bool.false_or,Bool.or_true,Bool.true_or,Bool.or_self,zero_le,Bool.not_true,Bool.not_false,false_eq_true,decide_eq_true_eq,not_eq_true',decide_eq_false_iff_not,List.append_nil,nil_append,reduceCtorEq,$ls,*] $[$l:location]?)
section
open PySem L2 Hv
namespace K34
def cellAt(ns:List Int)(k:Nat):Int:=ns.getD k 0
theorem nR(ns:List Int)(k:Nat):cT [.rl (ns.map .int),.int k]=.ok (true,.int (cellAt ns k)):=by
 unfold cT jf
 by_cases h:k<ns.length
 ·have e:kg (List.map Val.int ns) (k:Int)=some (.int (ns[k])):=qB (by simp[h])
  have h':(k:Int)<ns.length:=by omega
  simp only[EV,sJ e,length_map,h',cellAt,List.getD,List.getElem?_eq_getElem h,getD_some]
 ·have h':¬ (k:Int)<ns.length:=by omega
  have e:ns[k]?=none:=by simp;omega
  simp only[EV,length_map,h',cellAt,List.getD,e,getD_none]
def gY(one two k:Int):Int:=(if 0<one%3 then 1+one/3%10 ^ 56 else 1)*(((1+two%66)*k+one)%67)+(if 0<one%3 then two/66%10 ^ 58 else 0)
theorem Dc(a b:Int)(h:0<=b/\b<67):lR a b=true:=by
 unfold lR;simp only[or_eq_true,and_eq_true,decide_eq_true_eq];right;omega
theorem Aw(a b:Int)(h:0<=a/\a<67):lR a b=true:=by
 unfold lR;simp only[or_eq_true,and_eq_true,decide_eq_true_eq];left;omega
theorem BO(one two k:Int):gT [.int one,.int two,.int k]=.ok (true,.int (gY one two k)):=by
 unfold gT f7 gY;have m1:lR (1+two%66) k=true:=Aw _ _ (by omega);have m2:∀x,lR x (((1+two%66)*k+one)%67)=true:=λx=>Dc _ _ (by omega);simp only[EV,jT (show decide ((0:Int)<3)=true by decide),jT (show decide ((0:Int)<66)=true by decide),jT (show decide ((0:Int)<67)=true by decide),mK (show mC 3=true by decide),mK (show mC 66=true by decide),Lk (show decide ((0:Int)<=56/\(56:Int)<=1000000/\(10:Int).natAbs<2 ^ 64)=true by decide),Lk (show decide ((0:Int)<=58/\(58:Int)<=1000000/\(10:Int).natAbs<2 ^ 64)=true by decide),Lj m1,Lj (m2 _),jT (show decide ((0:Int)<10 ^ (56:Int).toNat)=true by decide),jT (show decide ((0:Int)<10 ^ (58:Int).toNat)=true by decide)]
 repeat' split
 all_goals first|rfl|contradiction
theorem KA(one two k:Int):0<=gY one two k:=by
 unfold gY;generalize ((1+two%66)*k+one)=z;have hs:∃st:Int,(if 0<one%3 then 1+one/3%10 ^ 56 else 1)=st/\1<=st:=by refine⟨_,rfl,?_⟩;split<;>omega
 have hf:∃sh:Int,(if 0<one%3 then two/66%10 ^ 58 else 0)=sh/\0<=sh:=by refine⟨_,rfl,?_⟩;split<;>omega
 obtain⟨st,e1,a1⟩:=hs;obtain⟨sh,e2,b1⟩:=hf;rw[e1,e2];have p1:0<=st*(z%67):=Int.mul_nonneg (by omega) (by omega);omega
theorem GS(one two i j:Int)(hi:0<=i/\i<67)(hj:0<=j/\j<67)(e:gY one two i=gY one two j):i=j:=by
 unfold gY at e;have hs:∃st:Int,(if 0<one%3 then 1+one/3%10 ^ 56 else 1)=st/\1<=st:=by refine⟨_,rfl,?_⟩;split<;>omega
 obtain⟨st,e1,a1⟩:=hs;rw[e1]at e;have e2:st*(((1+two%66)*i+one)%67)=st*(((1+two%66)*j+one)%67):=by omega
 have e3:=Int.eq_of_mul_eq_mul_left (by omega:st≠0) e2;exact Kh (by omega) hi hj e3
theorem Lr{n:Int}(h:inR n=true):ku .range [.int n]=some ((List.range n.toNat).map λ(i:Nat)=>Val.int (0+(i:Int))):=by
 show (if inR n=true then some (cj 0 n.toNat) else none)=_;rw[aab h];rfl
structure bu (p q:Int) (ts:List T3):Prop where
 ord:p<=q
 len:ts.length<=14
 up:HV ts
 ends:∀t∈ts,t.2.1<=t.2.2
 names:∀t∈ts,0<=t.1
theorem tE:∀(i:Nat) (ms:List Int) (pre post:List Val) (x:Val),cL i (ms.map .int)=pre++x::post->∃c:Int,x=.tup [.int ((i+pre.length:Nat):Int),.int c]
 |_,[],pre,post,x,h=>by simp[cL]at h
 | i,d::r,[],post,x,h=>by
  rw[aaf,cL,nil_append]at h;injection h with h _
  exact⟨d,by rw[<-h];rfl⟩
 | i,d::r,y::pre,post,x,h=>by
  rw[aaf,cL,cons_append]at h;injection h with _ h
  obtain⟨c,e⟩:=tE (i+1) r pre post x h;exact⟨c,by rw[e,aaq];congr 4;omega⟩
structure Ax (one two:Int) (ts:List T3):Prop where
 name:∀i (h:i<ts.length),(ts[i]).1=gY one two i
 ends:∀t∈ts,t.2.1<=t.2.2
theorem Ax.nodup{one two:Int}(h:Ax one two ts)(hl:ts.length<=14):(ts.map (·.1)).Nodup:=by
 unfold List.Nodup;rw[List.pairwise_iff_getElem];intro i j hi hj hij;rw[Z9]at hi hj;rw[getElem_map,getElem_map,h.name i hi,h.name j hj];intro e;have:=GS one two i j (by omega) (by omega) e;omega
theorem Tc(a b:Int):∃x y,sortI [a,b]=[x,y]/\x<=y:=by
 have hl:(sortI [a,b]).length=2:=(aaO _).length_eq;have hs:=PySem.W.sortI_rises [a,b]
 match h:sortI [a,b],hl,hs with
 |[x,y],_,hs=>exact⟨x,y,rfl,by simpa using hs⟩
theorem zd(h:dQ xs=some ys):nC .sorted [.rl xs]=.ok (true,.rl ys):=by
 show (pb (pl (dQ xs)) (λys:List Val=>Pr.ok ((true,Val.rl ys):FV)):Pr FV)=_;rw[h];rfl
theorem O6(ns ms:List Int)(hm:ms.length<=14):∃p q ts,nM [.rl (ns.map .int),.rl (ms.map .int)]=.ok (true,cF p q ts)/\bu p q ts/\ts.length=ms.length:=by
 have c0:cT [.rl (ns.map .int),.int 0]=.ok (true,.int (cellAt ns 0)):=nR ns 0;have c1:cT [.rl (ns.map .int),.int 1]=.ok (true,.int (cellAt ns 1)):=nR ns 1;have c2:cT [.rl (ns.map .int),.int 2]=.ok (true,.int (cellAt ns 2)):=nR ns 2;unfold nM kJ;generalize cellAt ns 0=one at *;generalize cellAt ns 1=two at *;generalize cellAt ns 2=pick at *;have Xd:2<=2+pick%7/\2+pick%7<=8:=by omega
 simp only[EV,qu,c0,c1,c2,jT (show decide ((0:Int)<7)=true by decide)];generalize Xe:2+pick%7=many at *;have hR:inR many=true:=by unfold inR;simp only[and_eq_true,decide_eq_true_eq];omega
 have hc:many.toNat<=100000:=by omega
 simp only[EV,Lr hR,jQ,length_map,length_range,hc];rw[jJ (λi:Nat=>Val.int (0+(i:Int))) (λi:Nat=>.int (gY two one (0+(i:Int)))) (List.range many.toNat) (λi hi=>by
  simp only[EV,bE,iA,BO])]
 have hpl:∀i:Int,0<=i->i<many->kg ((List.range many.toNat).map λi:Nat=>Val.int (gY two one (0+(i:Int)))) i=some (.int (gY two one i)):=λi h0 h1=>by
  obtain⟨k,rfl⟩:=eq_ofNat_of_zero_le h0;refine qB ?_;rw[aaB,List.getElem?_range (by omega)];simp
 generalize ZV:((List.range many.toNat).map λi:Nat=>Val.int (gY two one (0+(i:Int))))=Pl at *;simp only[EV,SD]
 repeat rw[sI]
 have hx:cL 0 (ms.map Val.int)=(cL 0 (ms.map Val.int)).map id:=(map_id _).symm;rw[hx];have hmp:decide (0<many)=true:=by rw[aaM];omega
 have Zw:mC many=true:=by unfold mC;rw[aaM];omega
 have z3:3<=sizeLine:=by decide
 have z2:2<=sizeLine:=by decide
 refine dX id (λr:Pr FV=>∃p q ts,r=.ok (true,cF p q ts)/\bu p q ts/\ts.length=ms.length)
  (λdone env=>∃(ts:List T3) (m6:Mk) (a b c d:Option (Mk×Val)),env=[some (.sh,.rl (ns.map .int)),some (.sh,.rl (ms.map .int)),some (.sh,.int one),some (.sh,.int two),some (.sh,.int pick),some (.sh,.int many),some (m6,.rl Pl),some (.ow,.rl (ts.map fE)),a,b,c,d,none]/\kr m6=true/\ts.length=done.length/\Ax one two ts)
  ⟨[],_,none,none,none,none,rfl,by first|rfl|exact jS,rfl,⟨λi h=>by simp at h,λ_ h=>by simp at h⟩⟩ ?_ ?_
 ·rintro pre x post env hx ⟨ts,m6,a,b,c,d,rfl,h6,hl,ok⟩
  have Zx:pre.length<14:=by have:=congrArg length hx;rw[lu,Z9,aag,aaq]at this;omega
  obtain⟨cell,rfl⟩:=tE _ _ _ _ _ hx;rw[Nat.zero_add];have i1:=hpl (cell%many) (Int.emod_nonneg _ (by omega)) (Int.emod_lt_of_pos _ (by omega));have i2:=hpl (cell/many%many) (Int.emod_nonneg _ (by omega)) (Int.emod_lt_of_pos _ (by omega));generalize gY two one (cell%many)=n1 at *;generalize gY two one (cell/many%many)=n2 at *;have e3:=BO one two (pre.length:Int);have z:ts.length<sizeLine:=by rw[hl];unfold sizeLine;omega
  have tt:Val.tup [.int (gY one two (pre.length:Int)),.int (if n2<n1 then n2 else n1),.int (if n2>n1 then n2 else n1)]=fE (turnT (gY one two (pre.length:Int),n1,n2)):=rfl;refine⟨_,?_,ts++[turnT (gY one two (pre.length:Int),n1,n2)],m6,some (.sh,.int pre.length),some (.sh,.int cell),some (.sh,.int n1),some (.sh,.int n2),rfl,h6,by simp[hl],⟨λi hi=>?_,λt ht=>?_⟩⟩
  ·simp only[EV,id,OM,h6,jT hmp,mK Zw,sJ i1,sJ i2,iA,e3,z3,tt,length_map,z,map_append]
  ·rw[List.getElem_append]
   split
   ·exact ok.name i (by assumption)
   ·simp only[List.length_append,length_cons,length_nil]at hi
    have:i=pre.length:=by omega
    subst this;simp[hl,turnT]
  ·rcases aat.mp ht with ht|ht
   ·exact ok.ends t ht
   ·rw[aaj]at ht;subst ht;unfold turnT;dsimp only;split<;>split<;>omega
 ·rintro env ⟨ts,m6,a,b,c,d,rfl,h6,hl,ok⟩
  have O7:ts.length<=14:=by rw[hl,lu,Z9];exact hm
  have j0:=hpl 0 (by omega) (by omega);have j1:kg Pl (1-(if pick/7%8=3 then 1 else 0))=some (.int (gY two one (1-(if pick/7%8=3 then 1 else 0)))):=hpl _ (by split<;>omega) (by split<;>omega);obtain⟨x,y,es,hxy⟩:=Tc (gY two one 0) (gY two one (1-(if pick/7%8=3 then 1 else 0)));generalize gY two one (1-(if pick/7%8=3 then 1 else 0))=n1 at *;have Vy:nC .sorted [.rl [.int (gY two one 0),.int n1]]=.ok (true,.rl [.int x,.int y]):=by refine zd ?_;show (if 2<64 then some ((sortI [gY two one 0,n1]).map Val.int) else none)=_;rw[aab (by decide),es];rfl
  have eI:∀b:Bool,nC .int [.bl b]=.ok (true,.int (if b=true then 1 else 0)):=λ_=>rfl;have dI:(if decide (pick/7%8=3)=true then (1:Int) else 0)=if pick/7%8=3 then 1 else 0:=by
   by_cases c:pick/7%8=3<;>simp[c]
  refine⟨x,y,jV ts,?_,⟨hxy,?_,?_,?_,?_⟩,?_⟩
  ·simp only[EV,h6,sJ j0,mK (show mC 7=true by decide),jT (show decide ((0:Int)<8)=true by decide),eI,dI,sJ j1,z2,Vy,sJ sL,sJ o9,yz (show ts.length<64 by omega)];rfl
  ·rw[(fM ts).length_eq];exact O7
  ·exact yC ts (ok.nodup O7)
  ·exact λt ht=>ok.ends t ((fM ts).mem_iff.mp ht)
  ·intro t ht;obtain⟨i,hi,rfl⟩:=getElem_of_mem ((fM ts).mem_iff.mp ht);rw[ok.name i hi];exact KA _ _ _
  ·rw[(fM ts).length_eq,hl,lu,Z9]
end K34
end
section
open PySem L2 Hv
namespace K34
def jY(p q:Int)(ts:List T3):List Int:=p::q::ts.flatMap λt=>[t.2.1,t.2.2]
def tU(p q:Int)(ts:List T3):List Int:=fD (jY p q ts)
theorem pM(p q:Int)(ts:List T3):(jY p q ts).length=2+2*ts.length:=by
 unfold jY
 induction ts with
 |nil=>rfl
 |cons t r ih=>simp only[List.flatMap_cons,length_cons,List.length_append,length_nil] at *;omega
theorem ze:∀(ns ks:List Int),(eG ks ns).length<=ks.length+ns.length
 |[],ks=>aae _
 | k::r,ks=>by
  rw[eG,aaq];have:=ze r (rJ ks k);have:=rK ks k;omega
theorem KC{p q:Int}(h:ts.length<=14):(tU p q ts).length<64:=by
 unfold tU fD;rw[(aaO _).length_eq];have:=ze (jY p q ts) [];rw[pM]at this;simp only[length_nil]at this;omega
theorem qL{p q x:Int}:x∈tU p q ts↔x=p\/x=q\/∃t∈ts,x=t.2.1\/x=t.2.2:=by
 unfold tU;rw[FJ];unfold jY;simp only[mem_cons,List.mem_flatMap,not_mem_nil,or_false]
theorem places_eq{p q:Int}(h:ts.length<=14):bY [cF p q ts]=.ok (true,.rl ((tU p q ts).map .int)):=by
 unfold bY fc cF;simp only[EV,di sL,di o9,jU];rw[sI];refine dX fE (λr:Pr FV=>r=.ok (true,.rl ((tU p q ts).map .int)))
  (λdone env=>∃a,env=[some (.sh,cF p q ts),some (.ow,.rl ((jY p q done).map .int)),a])
  ⟨none,rfl⟩ ?_ ?_
 ·rintro pre t post env hx ⟨a,rfl⟩
  refine⟨[some (.sh,cF p q ts),some (.ow,.rl ((jY p q (pre++[t])).map .int)),some (.sh,fE t)],?_,_,rfl⟩;have hpl:pre.length<14:=by have:=congrArg length hx;rw[aag,aaq]at this;omega
  have z:((jY p q pre).map Val.int).length+2<=sizeLine:=by rw[Z9,pM];unfold sizeLine;omega
  have ea:(jY p q (pre++[t])).map Val.int=(jY p q pre).map Val.int++[.int t.2.1,.int t.2.2]:=by unfold jY;simp
  simp only[EV,bE,OO,z,ea]
 ·rintro env ⟨a,rfl⟩
  have hl:(jY p q ts).length<64:=by rw[pM];omega
  simp only[EV,ints_map,hl];rfl
end K34
end
section
open PySem L2 Hv
namespace K34
def nT(e:Int×Int):Val:=.tup [.int e.1,.int e.2]
theorem KD{i j:Nat}:dU (.tup [i,j]) (nT e) env=some ((env.set i (some (.sh,.int e.1))).set j (some (.sh,.int e.2))):=rfl
theorem Dd(ps:List Int)(hn:ps.Nodup)(hl:ps.length<64)(es:List (Int×Int))(he:∀e∈es,e.1∈ps/\e.2∈ps):∃f φ,dY [.rl (ps.map .int),.rl (es.map nT)]=.ok (f,jG ps λx=>.int (φ x))/\lU ps es φ:=by
 unfold dY fh;simp only[EV,jU];rw[sI];have hz:∀pre:List Int,pre.length<=ps.length->(pre.map (Sum.inl:Int->Key)).length<sizeLine:=λpre h=>by rw[Z9];unfold sizeLine;omega
 refine dX Val.int (λr:Pr FV=>∃f φ,r=.ok (f,jG ps λx=>.int (φ x))/\lU ps es φ)
  (λdone env=>∃a,env=[some (.sh,.rl (ps.map .int)),some (.sh,.rl (es.map nT)),some (.ow,jG done λx=>.int x),a,none,none,none,none])
  ⟨none,rfl⟩ ?_ ?_
 ·rintro pre x post env hx ⟨a,rfl⟩
  have VF:x∉pre:=by rw[hx,aaH]at hn;exact λh=>hn.2.2 x h x (by simp) rfl
  refine⟨[some (.sh,.rl (ps.map .int)),some (.sh,.rl (es.map nT)),some (.ow,jG (pre++[x]) λx=>.int x),some (.sh,.int x),none,none,none,none],?_,_,rfl⟩;simp only[EV,bE,BF,hz pre (by rw[hx];simp),wc VF];rw[gD (g':=λx=>Val.int x)];intro y _;unfold ud
  split
  ·rename_i e;rw[e]
  ·rfl
 ·rintro env ⟨a,rfl⟩
  simp only[EV,jU];rw[sI];refine dX nT (λr:Pr FV=>∃f φ,r=.ok (f,jG ps λx=>.int (φ x))/\lU ps es φ)
   (λdone env=>∃(φ:Int->Int) (a b c d e:Option (Mk×Val)),env=[some (.sh,.rl (ps.map .int)),some (.sh,.rl (es.map nT)),some (.ow,jG ps λx=>.int (φ x)),a,b,c,d,e]/\lU ps done φ)
   ⟨id,_,_,_,_,_,rfl,lU.start ps⟩ ?_ ?_
  ·rintro pre e post env hx ⟨φ,a,b,c,d,f,rfl,Td⟩
   obtain⟨h1,h2⟩:=he e (by rw[hx];simp);simp only[EV,KD,pe h1,pe h2,jU];have hk:∃kept gone:Int,(if φ e.2 < φ e.1 then φ e.2 else φ e.1)=kept/\(if φ e.2 > φ e.1 then φ e.2 else φ e.1)=gone/\((kept = φ e.1/\gone = φ e.2)\/(kept = φ e.2/\gone = φ e.1)):=by
    refine⟨_,_,rfl,rfl,?_⟩
    split<;>split<;>omega
   obtain⟨kept,gone,ek,eg,hk⟩:=hk;rw[ek,eg];refine dX Val.int (λr:Pr Fi=>∃env',r=.ok (.nx env')/\∃(φ:Int->Int) (a b c d f:Option (Mk×Val)),env'=[some (.sh,.rl (ps.map .int)),some (.sh,.rl (es.map nT)),some (.ow,jG ps λx=>.int (φ x)),a,b,c,d,f]/\lU ps (pre++[e]) φ)
    (λdone env=>∃a,env=[some (.sh,.rl (ps.map .int)),some (.sh,.rl (es.map nT)),some (.ow,jG ps λx=>.int (if x∈done /\ φ x=gone then kept else φ x)),a,some (.sh,.int e.1),some (.sh,.int e.2),some (.sh,.int kept),some (.sh,.int gone)])
    ⟨a,by simp⟩ ?_ ?_
   ·rintro done x post env hy ⟨a,rfl⟩
    have VF:x∉done:=by rw[hy,aaH]at hn;exact λh=>hn.2.2 x h x (by simp) rfl
    have hxs:x∈ps:=by rw[hy];simp
    refine⟨_,?_,some (.sh,.int x),rfl⟩;simp only[EV,bE,pe hxs,BF,hz ps (Nat.le_refl _),Kc hxs,VF,false_and,if_false]
    by_cases hg:φ x=gone
    ·simp only[hg,↓reduceIte]
     rw[gD];intro y _;unfold ud
     by_cases e:y=x
     ·subst e;simp[hg]
     ·simp[e]
    ·simp only[hg,↓reduceIte]
     rw[gD];intro y _
     by_cases e:y=x
     ·subst e;simp[hg]
     ·simp[e]
   ·rintro env ⟨a,rfl⟩;refine⟨_,rfl,(λx=>if φ x=gone then kept else φ x),a,some (.sh,.int e.1),some (.sh,.int e.2),some (.sh,.int kept),some (.sh,.int gone),?_,Td.step h1 h2 kept gone hk⟩;rw[gD];intro y hy;simp[hy]
  ·rintro env ⟨φ,a,b,c,d,e,rfl,Td⟩;simp only[EV,aX];exact⟨_,φ,rfl,Td⟩
end K34
end
section
open PySem L2 Hv
namespace K34
theorem order_eq{p q:Int}{us:List T3}(hl:us.length<=16):cU [.tup [.int p,.int q],.rl (us.map fE)]=.ok (true,cF (if q<p then q else p) (if q>p then q else p) (jV (us.map turnT))):=by
 unfold cU cG;have z0:0<=sizeLine:=by decide
 have z2:2<=sizeLine:=by decide
 have z3:3<=sizeLine:=by decide
 simp only[EV,jU];rw[sI];refine dX fE (λr:Pr FV=>r=.ok (true,cF (if q<p then q else p) (if q>p then q else p) (jV (us.map turnT))))
  (λdone env=>∃a b c,env=[some (.sh,.tup [.int p,.int q]),some (.sh,.rl (us.map fE)),some (.ow,.rl ((done.map turnT).map fE)),a,b,c])
  ⟨none,none,none,rfl⟩ ?_ ?_
 ·rintro pre t post env hx ⟨a,b,c,rfl⟩
  have hpl:pre.length<16:=by have:=congrArg length hx;rw[aag,aaq]at this;omega
  have z:((pre.map turnT).map fE).length<sizeLine:=by rw[Z9,Z9];unfold sizeLine;omega
  refine⟨[some (.sh,.tup [.int p,.int q]),some (.sh,.rl (us.map fE)),some (.ow,.rl (((pre++[t]).map turnT).map fE)),some (.sh,.int t.1),some (.sh,.int t.2.1),some (.sh,.int t.2.2)],?_,_,_,_,rfl⟩;have ea:((pre++[t]).map turnT).map fE=(pre.map turnT).map fE++[fE (turnT t)]:=by simp
  simp only[EV,Kf,z3,z,ea];rfl
 ·rintro env ⟨a,b,c,rfl⟩;simp only[EV,di sL,di o9,z2,yz (show (us.map turnT).length<64 by rw[length_map];omega)];rfl
theorem De{p q:Int}(hl:us.length<=16):cJ [cF p q us]=.ok (true,cF (if q<p then q else p) (if q>p then q else p) (jV (us.map turnT))):=by
 have e:=order_eq (p:=p) (q:=q) hl;unfold cJ gS;unfold cF at e |-;simp only[EV,jl,di sL,di o9,e]
end K34
end
section
open PySem L2 Hv
namespace K34
def nameV(t:T3):Val:=.int t.1
theorem KG(h:t.2.1<=t.2.2):turnT t=t:=by
 obtain⟨a,b,c⟩:=t;unfold turnT;dsimp only at h |-;rw[Prod.mk.injEq,Prod.mk.injEq];refine⟨rfl,?_,?_⟩<;>split<;>omega
theorem KH:∀{l:List T3},(∀y∈l,x.1<y.1)->sP x l=x::l
 |[],_=>rfl
 | y::r,h=>by
  rw[sP];have lx:HT.lexLt (l3 y) (l3 x)=decide (y.1<x.1):=by show HT.lexLt (y.1::_) (x.1::_)=_;have:=h y aaa;rw[HT.fG,aad (by omega)]
  have:=h y aaa;rw[lx,aad (by simp;omega)]
theorem zf:∀{l:List T3},HV l->jV l=l
 |[],_=>rfl
 | x::r,h=>by
  unfold HV at h;rw[aaI]at h;rw[jV,zf h.2,KH h.1]
theorem O8{p q:Int}(ok:bu p q ts):cJ [cF p q ts]=.ok (true,cF p q ts):=by
 have e:=De (p:=p) (q:=q) (us:=ts) (aaD ok.len (by decide));have em:ts.map turnT=ts:=by rw[map_congr_left λt ht=>KG (ok.ends t ht)];exact map_id _
 have ep:(if q<p then q else p)=p:=by have:=ok.ord;split<;>omega
 have eq:(if q>p then q else p)=q:=by have:=ok.ord;split<;>omega
 rw[em,zf ok.up,ep,eq]at e;exact e
theorem GU:∀ts:List T3,cO HW (ts.map fE)=some ts
 |[]=>rfl
 |t::r=>by rw[aaf,cO,show HW (fE t)=some t from rfl,bind_some,GU r];rfl
def lW(c:Nat)(p q:Int)(ts:List T3):Val:=.ob c ["net","places","ends"] [cF p q ts,.rl ((tU p q ts).map .int),.dc ((bU p q ts).map (·.1)) ((bU p q ts).map (·.2))]
def jn(c:Nat)(p q:Int)(ts:List T3)(w:Int):Val:=.ob c ["net","places","ends","whole"] [cF p q ts,.rl ((tU p q ts).map .int),.dc ((bU p q ts).map (·.1)) ((bU p q ts).map (·.2)),.int w]
theorem tF{c jo jp:Nat}{p q:Int}(h1:Ψ jo=cJ)(h2:Ψ jp=bY)(ok:bu p q ts):kH Ψ c jo jp [cF p q ts]=.ok (true,lW c p q ts):=by
 have e1:=O8 ok;have e2:=places_eq (p:=p) (q:=q) ok.len;unfold kH;dsimp only;rw[h1,e1];unfold cF at e2 |-;dsimp only;rw[GU,dg,aX,h2];unfold pg;rw[aab (decide_eq_true (by have:=ok.len;omega)),e2];rfl
def nms(ts:List T3):List Int:=-1::ts.map (·.1)
theorem tG(h:a.length+b.length<=sizeLine):j4 .add (.rl a) (.rl b)=.ok (bH (a++b),.rl (a++b)):=by
 show pg _ _=_;unfold pg;rw[aab (decide_eq_true h)]
theorem GV{c:Nat}{p q:Int}{ts:List T3}{m:Str}{js:List (Nat×Nat)}{j:Nat}(hj:js.lookup c=some j)(h:m ≠ "net" /\ m ≠ "places" /\ m ≠ "ends" /\ m ≠ "whole"):lE [] (lW c p q ts) m js=some j:=by
 unfold lW lE;dsimp only;have e:∀vs:List Val,vs.length=3->((["net","places","ends"]:List Str).zip vs).lookup m=none:=λvs hv=>by
  match vs,hv with
  |[a,b,c],_=>rw[aa1,aaK,beq_false_of_ne h.1,aa1,aaK,beq_false_of_ne h.2.1,aa1,aaK,beq_false_of_ne h.2.2.1];rfl
 rw[e _ rfl];exact hj
theorem tH{c:Nat}{p q w:Int}{ts:List T3}{m:Str}{js:List (Nat×Nat)}{j:Nat}(hj:js.lookup c=some j)(h:m ≠ "net" /\ m ≠ "places" /\ m ≠ "ends" /\ m ≠ "whole"):lE [] (jn c p q ts w) m js=some j:=by
 unfold jn lE;dsimp only;have e:∀vs:List Val,vs.length=4->((["net","places","ends","whole"]:List Str).zip vs).lookup m=none:=λvs hv=>by
  match vs,hv with
  |[a,b,c,d],_=>rw[aa1,aaK,beq_false_of_ne h.1,aa1,aaK,beq_false_of_ne h.2.1,aa1,aaK,beq_false_of_ne h.2.2.1,aa1,aaK,beq_false_of_ne h.2.2.2];rfl
 rw[e _ rfl];exact hj
theorem Df{c:Nat}(hc:c<3){p q w:Int}:iG 3 [] (jn c p q ts w) "whole" = some (.int w):=by
 unfold jn iG;dsimp only;rw[aab hc];rfl
theorem GW(l:List Int):bH (l.map Val.int)=true:=aV l
theorem GX{p q:Int}(ok:bu p q ts):sortI (nms ts)=nms ts:=by
 refine(eq_sortI (List.Perm.refl _) ?_).symm;unfold nms;rw[aaI];refine⟨λx hx=>?_,?_⟩
 ·obtain⟨t,ht,rfl⟩:=aaN.mp hx;have:=ok.names t ht;omega
 ·rw[pairwise_map];have:=ok.up;unfold HV at this;exact this.imp λh=>by omega
theorem eu{p q:Int}(ok:bu p q ts):(nms ts).Nodup:=by
 unfold nms;rw[aaF];refine⟨λh=>?_,?_⟩
 ·obtain⟨t,ht,e⟩:=aaN.mp h;have:=ok.names t ht;omega
 ·have:=ok.up;unfold HV at this;rw[List.Nodup,pairwise_map];exact this.imp λh=>by omega
def j7(p q:Int)(ts:List T3)(x:Int):Int×Int:=match ts.find? (λt=>decide (t.1=x)) with
 |some t=>(t.2.1,t.2.2)
 |none=>(p,q)
theorem GY:∀{ts:List T3},(ts.map (·.1)).Nodup->t∈ts->ts.find? (λu=>decide (u.1=t.1))=some t
 | u::r,hn,ht=>by
  rw[aaf,aaF]at hn;rw[find?_cons]
  by_cases e:u.1=t.1
  ·rw[decide_eq_true e]
   rcases aap.mp ht with rfl|ht
   ·rfl
   ·exact absurd (e▸mem_map_of_mem (f:=(·.1)) ht) hn.1
  ·rw[decide_eq_false e]
   rcases aap.mp ht with rfl|ht
   ·exact absurd rfl e
   ·exact GY hn.2 ht
theorem zg{p q:Int}(ok:bu p q ts):(ts.map (·.1)).Nodup:=(aaF.mp (eu ok)).2
theorem GZ{p q:Int}(ok:bu p q ts)(ht:t∈ts):j7 p q ts t.1=(t.2.1,t.2.2):=by
 unfold j7;rw[GY (zg ok) ht]
theorem Hf{p q:Int}(ok:bu p q ts):j7 p q ts (-1)=(p,q):=by
 unfold j7;rw[List.find?_eq_none.mpr λt ht=>by have:=ok.names t ht;simp;omega]
theorem wG{p q:Int}(ok:bu p q ts){x:Int}(hx:x∈nms ts):(j7 p q ts x).1∈tU p q ts/\(j7 p q ts x).2∈tU p q ts:=by
 unfold nms at hx
 rcases aap.mp hx with rfl|hx
 ·rw[Hf ok];exact⟨qL.mpr (.inl rfl),qL.mpr (.inr (.inl rfl))⟩
 ·obtain⟨t,ht,rfl⟩:=aaN.mp hx;rw[GZ ok ht];exact⟨qL.mpr (.inr (.inr ⟨t,ht,.inl rfl⟩)),qL.mpr (.inr (.inr ⟨t,ht,.inr rfl⟩))⟩
theorem BP(g:Int->Val):∀(us:List T3) (ks:List Int),(∀u∈us,u.1∉ks)->(us.map (·.1)).Nodup->(∀u∈us,g u.1=.tup [.int u.2.1,.int u.2.2]) ->
  us.foldl jd (ks.map λx=>((Sum.inl x:Key),g x))=(ks++us.map (·.1)).map λx=>((Sum.inl x:Key),g x)
 |[],ks,_,_,_=>by simp
 | u::r,ks,h1,h2,h3=>by
  rw[aaf,aaF]at h2;have e:jd (ks.map λx=>((Sum.inl x:Key),g x)) u=(ks++[u.1]).map λx=>((Sum.inl x:Key),g x):=by unfold jd ie;rw[Aq,aad (by simpa using h1 u aaa),map_append,aaf,map_nil,h3 u aaa]
  rw[List.foldl_cons,e,BP g r (ks++[u.1]) (λv hv z=>?_) h2.2 λv hv=>h3 v (Z5 _ hv)]
  ·simp
  ·rcases aat.mp z with z|z
   ·exact h1 v (Z5 _ hv) z
   ·rw[aaj]at z;exact h2.1 (z▸mem_map_of_mem (f:=(·.1)) hv)
def ug(p q:Int)(ts:List T3)(x:Int):Val:=nT (j7 p q ts x)
def O9(p q:Int)(ts:List T3):Val:=jG (nms ts) (ug p q ts)
theorem BQ{p q:Int}(ok:bu p q ts):Val.dc ((bU p q ts).map (·.1)) ((bU p q ts).map (·.2))=O9 p q ts:=by
 have e:bU p q ts=(nms ts).map λx=>((Sum.inl x:Key),ug p q ts x):=by
  have h:=BP (ug p q ts) ts [-1] (λu hu z=>by
   rw[aaj]at z;have:=ok.names u hu;omega) (zg ok) λu hu=>by unfold ug;rw[GZ ok hu];rfl
  unfold bU nms;rw[aaf,map_nil]at h;have e1:ug p q ts (-1)=.tup [.int p,.int q]:=by unfold ug;rw[Hf ok];rfl
  rw[e1]at h;exact h
 rw[e,aaP,aaP];rfl
structure Hg (o:Val) (p q:Int) (ts:List T3):Prop where
 net:iG 3 [] o "net" = some (cF p q ts)
 places:iG 3 [] o "places" = some (.rl ((tU p q ts).map .int))
 ends:iG 3 [] o "ends" = some (O9 p q ts)
theorem wH{c:Nat}(hc:c<3){p q:Int}(ok:bu p q ts):Hg (lW c p q ts) p q ts:=by
 refine⟨?_,?_,?_⟩
 ·unfold lW iG;dsimp only;rw[aab hc];rfl
 ·unfold lW iG;dsimp only;rw[aab hc];rfl
 ·rw[<-BQ ok];unfold lW iG;dsimp only;rw[aab hc];rfl
theorem wI{c:Nat}(hc:c<3){p q w:Int}(ok:bu p q ts):Hg (jn c p q ts w) p q ts:=by
 refine⟨?_,?_,?_⟩
 ·unfold jn iG;dsimp only;rw[aab hc];rfl
 ·unfold jn iG;dsimp only;rw[aab hc];rfl
 ·rw[<-BQ ok];unfold jn iG;dsimp only;rw[aab hc];rfl
theorem Hh{p q:Int}(h:ts.length<=14):gU [cF p q ts]=.ok (true,.rl (ts.map nameV)):=by
 unfold gU f9 cF;have hc:ts.length<=100000:=by omega
 simp only[EV,di o9,jU,jQ,length_map,hc];rw[jJ fE nameV ts (λt ht=>by
  have i0:mD [] (fE t) (.int 0)=some (.int t.1):=rfl;simp only[EV,bE,i0,nameV])]
 simp only[EV,aX]
theorem BR{p q:Int}(ro:Hg o p q ts)(h:ts.length<=14):cV [o]=.ok (true,.rl ((nms ts).map .int)):=by
 have e1:=Hh (p:=p) (q:=q) h;unfold cV fj;have z1:1<=sizeLine:=by decide
 have z:([.int (-1)]:List Val).length+(ts.map nameV).length<=sizeLine:=by rw[Z9];simp;unfold sizeLine;omega
 simp only[EV,ro.net,j6,e1,z1,tG z];have em:[Val.int (-1)]++ts.map nameV=(nms ts).map .int:=by unfold nms;rw[aaf,aaP];rfl
 have en:bH (ts.map nameV)=true:=by rw[show ts.map nameV=(ts.map (·.1)).map Val.int by rw[aaP];rfl];exact GW _
 rw[show Val.int (-1)::ts.map nameV=(nms ts).map .int from em,en]
theorem Hi(p q:Int)(ts:List T3)(x:Int):iS (ug p q ts x)=true:=rfl
theorem KI{p q:Int}{x:Int}(h:x∈nms ts):mD [] (O9 p q ts) (.int x)=some (ug p q ts x):=pe h
theorem iB{p q:Int}(ok:bu p q ts):(nms ts).length<=15:=by
 have:=ok.len;unfold nms;simp;omega
def lK(p q:Int)(ts:List T3)(P:List Int):Nat:=tr (tU p q ts) (P.map (j7 p q ts))
theorem Hj{p q:Int}(ok:bu p q ts){P:List Int}(hP:∀x∈P,x∈nms ts):PV (tU p q ts) (P.map (j7 p q ts)):=λe he=>by
 obtain⟨x,hx,rfl⟩:=aaN.mp he;exact wG ok (hP x hx)
theorem tK{p q:Int}(ok:bu p q ts)(ro:Hg o p q ts){P:List Int}(hP:∀x∈P,x∈nms ts)(hl:P.length<=15):aY [o,.rl (P.map .int)]=.ok (true,.int (lK p q ts P)):=by
 have hpl:=KC (p:=p) (q:=q) ok.len;have Xf:(tU p q ts).Nodup:=jI _;obtain⟨f,φ,ef,Td⟩:=Dd (tU p q ts) Xf hpl (P.map (j7 p q ts)) (λe he=>by
  obtain⟨x,hx,rfl⟩:=aaN.mp he;exact wG ok (hP x hx))
 have et:lK p q ts P=rk φ (tU p q ts):=p7 Td Xf;rw[et];rw[aaP]at ef;unfold aY bX;have hc:P.length<=100000:=by omega
 have hc2:(tU p q ts).length<=100000:=by omega
 simp only[EV,ro.places,ro.ends,jU,jQ,length_map,hc];rw[jJ Val.int (ug p q ts) P (λx hx=>by
  simp only[EV,bE,ro.ends,KI (hP x hx),Hi])]
 have Zy:dY [.rl ((tU p q ts).map .int),.rl (P.map (ug p q ts))]=.ok (f,jG (tU p q ts) λx=>.int (φ x)):=ef;simp only[EV,gz,Zy,ro.places,jU,jQ,length_map,hc2];rw[jK Val.int Val.int (λx=>!decide (φ x=x)) (tU p q ts) (λx hx=>by
  have hi:=pe (g:=λx=>Val.int (φ x)) hx;simp only[EV,bE,hi]
  by_cases c:φ x=x
  ·simp[c]
  ·simp[c])]
 simp only[EV,length_map];rfl
theorem Hl{c jo jp jt jr:Nat}(hc:c<3){p q:Int}(h1:Ψ' jo=cJ)(h2:Ψ' jp=bY)(h3:Ψ jt=cV)(h4:Ψ jr=aY)(ok:bu p q ts) :
  uW Ψ' Ψ c jo jp jt jr [cF p q ts]=.ok (true,jn c p q ts (lK p q ts (nms ts))):=by
 have e3:=BR (wH hc ok) ok.len;have e1:=tK ok (wH hc ok) (P:=nms ts) (λ_ h=>h) (iB ok);rw[<-h3]at e3;rw[<-h4]at e1;exact FP (tF h1 h2 ok) e3 e1
def others(ts:List T3)(P:List Int):List Int:=(nms ts).filter λx=>!decide (x∈P)
theorem pO{P:List Int}:∀x∈others ts P,x∈nms ts:=λx hx=>(aai.mp hx).1
theorem KJ{p q:Int}(ok:bu p q ts){P:List Int}:(others ts P).length<=15:=aaD (length_filter_le _ _) (iB ok)
theorem Ho{c:Nat}(hc:c<3)(jt:([(0,12),(1,12),(2,12)]:List (Nat×Nat)).lookup c=some 12)(jr:([(0,10),(1,10),(2,10)]:List (Nat×Nat)).lookup c=some 10){p q w:Int}(ok:bu p q ts){P:List Int}:cK [jn c p q ts w,.rl (P.map .int)]=.ok (true,.int ((P.length:Int)-w+lK p q ts (others ts P))):=by
 have e1:=tK ok (wI (w:=w) hc ok) (P:=others ts P) pO (KJ ok);have e3:=BR (wI (w:=w) hc ok) ok.len;have hl:(nms ts).length<=100000:=by have:=iB ok;omega
 have m1:=tH (p:=p) (q:=q) (w:=w) (ts:=ts) (m:="ties") jt (by decide);have m2:=tH (p:=p) (q:=q) (w:=w) (ts:=ts) (m:="tree_rank") jr (by decide);unfold cK cS;simp only[EV,m1,iO,e3,jU,jQ,length_map,hl];rw[jK Val.int Val.int (λx=>!decide (x∈P)) (nms ts) (λx hx=>by
  simp only[EV,bE,we]
  by_cases c:x∈P
  ·simp[c]
  ·simp[c])]
 have Wc:aY [jn c p q ts w,.rl (((nms ts).filter λx=>!decide (x∈P)).map .int)]=.ok (true,.int (lK p q ts (others ts P))):=e1;simp only[EV,m2,gf,Wc,Df hc,length_map]
end K34
end
section
open PySem L2 Hv
namespace K34
theorem Hq{p q:Int}{P Q:List Int}{x:Int}(h:∀y,y∈Q↔y∈P\/y=x):∀e,e∈Q.map (j7 p q ts)↔e∈P.map (j7 p q ts)\/e=((j7 p q ts x).1,(j7 p q ts x).2):=λe=>by
 constructor
 ·intro he
  obtain⟨y,hy,rfl⟩:=aaN.mp he
  rcases(h y).mp hy with hy|rfl
  ·exact .inl (mem_map_of_mem hy)
  ·exact .inr rfl
 ·rintro(he|rfl)
  ·obtain⟨y,hy,rfl⟩:=aaN.mp he;exact mem_map_of_mem ((h y).mpr (.inl hy))
  ·exact mem_map_of_mem (f:=j7 p q ts) ((h x).mpr (.inr rfl))
section
variable {p q:Int} {ts:List T3}
def Wy(p q:Int)(ts:List T3)(P:List Int)(x:Int):Prop:=Way (P.map (j7 p q ts)) (j7 p q ts x).1 (j7 p q ts x).2
theorem Wy.mono{P Q:List Int}(h:∀y∈P,y∈Q){x:Int}(w:Wy p q ts P x):Wy p q ts Q x:=by
 unfold Wy at w |-;refine Way.mono (λe he=>?_) w;obtain⟨y,hy,rfl⟩:=aaN.mp he;exact mem_map_of_mem (h y hy)
open Classical in
theorem Ls(ok:bu p q ts){P Q:List Int}{x:Int}(hP:∀y∈P,y∈nms ts)(hx:x∈nms ts)(h:∀y,y∈Q↔y∈P\/y=x):lK p q ts Q=lK p q ts P+if Wy p q ts P x then 0 else 1:=by
 obtain⟨h1,h2⟩:=wG ok hx;exact Km (ps:=tU p q ts) (jI _) (Hj ok hP) h1 h2 (Hq (p:=p) (q:=q) (ts:=ts) h)
theorem tL(ok:bu p q ts){P Q:List Int}{x:Int}(hP:∀y∈P,y∈nms ts)(hx:x∈nms ts)(h:∀y,y∈Q↔y∈P\/y=x):lK p q ts P<=lK p q ts Q/\lK p q ts Q<=lK p q ts P+1:=by
 rw[Ls ok hP hx h]
 split<;>omega
theorem BS(ok:bu p q ts){P Q:List Int}{x:Int}(hP:∀y∈P,y∈nms ts)(hx:x∈nms ts)(h:∀y,y∈Q↔y∈P\/y=x):Wy p q ts P x↔lK p q ts Q=lK p q ts P:=by
 rw[Ls ok hP hx h]
 split
 ·exact⟨λ_=>rfl,λ_=>‹_›⟩
 ·exact⟨λw=>absurd w ‹_›,λe=>by omega⟩
theorem zh(ok:bu p q ts){P Q:List Int}(hP:∀y∈P,y∈nms ts)(h:∀y,y∈P↔y∈Q):lK p q ts P=lK p q ts Q:=by
 refine yK (jI _) (Hj ok hP) λe=>⟨λhe=>?_,λhe=>?_⟩
 ·obtain⟨y,hy,rfl⟩:=aaN.mp he;exact mem_map_of_mem ((h y).mp hy)
 ·obtain⟨y,hy,rfl⟩:=aaN.mp he;exact mem_map_of_mem ((h y).mpr hy)
theorem bw{R:List Int}{x:Int}(y:Int):y∈R++[x]↔y∈R\/y=x:=by simp
theorem KL:lK p q ts []=0:=by
 unfold lK;rw[map_nil,p7 (ps:=tU p q ts) (lU.start _) (jI _)];unfold rk;simp
theorem nU{P:List Int}{y:Int}:y∈others ts P↔y∈nms ts/\y∉P:=by
 unfold others;rw[aai];simp
end
end K34
end
section
open PySem L2 Hv
namespace K34
structure lJ (N:List Int) (r:List Int->Int):Prop where
 nil:r []=0
 same:∀P Q:List Int,P.Nodup->Q.Nodup->(∀y∈P,y∈N)->(∀y,y∈P↔y∈Q)->r P=r Q
 step:∀(P:List Int) (x:Int),P.Nodup->(∀y∈P,y∈N)->x∈N->x∉P->r (P++[x])=r P\/r (P++[x])=r P+1
 loc:∀(P Q:List Int) (x:Int),P.Nodup->Q.Nodup->(∀y∈Q,y∈N)->(∀y∈P,y∈Q)->x∈N->x∉Q->r (P++[x])=r P->r (Q++[x])=r Q
theorem fT{P:List Int}{x:Int}(hn:P.Nodup)(hx:x∉P):(P++[x]).Nodup:=by
 rw[aaH];exact⟨hn,by simp,λa ha b hb e=>hx (by rw[aaj]at hb;rw[<-hb,<-e];exact ha)⟩
theorem Hr{P D:List Int}{x:Int}(h:(P++x::D).Nodup):P.Nodup/\x∉P:=by
 rw[aaH]at h;exact⟨h.1,λhx=>h.2.2 x hx x aaa rfl⟩
theorem tM(P D:List Int)(x:Int):P++x::D=(P++[x])++D:=by rw[List.append_assoc];rfl
section
variable {N:List Int} {r:List Int->Int} (h:lJ N r)
include h
theorem lJ.app:∀(D P:List Int),(P++D).Nodup->(∀y∈P++D,y∈N)->r P<=r (P++D)/\r (P++D)<=r P+D.length
 |[],P,_,_=>by rw[aaU];exact⟨Int.le_refl _,by simp⟩
 | x::D,P,hn,hi=>by
  obtain⟨n1,n2⟩:=Hr hn;have s:=h.step P x n1 (λy hy=>hi y (aas _ hy)) (hi x (aaA _ aaa)) n2;rw[tM]at hn hi |-;have ih:=lJ.app D (P++[x]) hn hi;rw[aaq];omega
theorem lJ.bound{P:List Int}(hn:P.Nodup)(hP:∀y∈P,y∈N):0<=r P/\r P<=P.length:=by
 have:=h.app P [] hn hP;rw[h.nil,nil_append]at this;omega
theorem lJ.mono{P Q:List Int}(hp:P.Nodup)(hq:Q.Nodup)(hQ:∀y∈Q,y∈N)(hs:∀y∈P,y∈Q):r P<=r Q:=by
 have nd:(P++Q.filter λy=>!decide (y∈P)).Nodup:=by rw[aaH];exact⟨hp,hq.sublist aau,λa ha b hb e=>by subst e;have:=(aai.mp hb).2;simp[ha]at this⟩
 have mm:∀y,y∈(P++Q.filter λy=>!decide (y∈P))↔y∈Q:=λy=>by
  rw[aat,aai];constructor
  ·rintro(z|z)
   ·exact hs y z
   ·exact z.1
  ·intro z
   by_cases c:y∈P
   ·exact .inl c
   ·exact .inr ⟨z,by simpa using c⟩
 have:=(h.app _ P nd λy hy=>hQ y ((mm y).mp hy)).1;rwa [h.same _ Q nd hq (λy hy=>hQ y ((mm y).mp hy)) mm]at this
theorem lJ.close:∀(E P:List Int),(P++E).Nodup->(∀y∈P++E,y∈N)->(∀x∈E,r (P++[x])=r P)->r (P++E)=r P
 |[],P,_,_,_=>by rw[aaU]
 | x::E,P,hn,hi,hE=>by
  obtain⟨n1,n2⟩:=Hr hn;have hP:∀y∈P,y∈N:=λy hy=>hi y (aas _ hy);have hx:=hi x (aaA _ aaa);have e1:=hE x aaa;have hall:∀y∈E,y∈N/\y∉P++[x]:=λy hy=>⟨hi y (aaA _ (Z5 _ hy)),λz=>by
   rw[tM,aaH]at hn;exact hn.2.2 y z y hy rfl⟩
  rw[tM]at hn hi |-;rw[lJ.close E (P++[x]) hn hi λy hy=>h.loc P (P++[x]) y n1 (fT n1 n2) (λy hy=>by rcases(bw y).mp hy with q|rfl;exact hP y q;exact hx) (λz hz=>aas _ hz) (hall y hy).1 (hall y hy).2 (hE y (Z5 _ hy)),e1]
theorem lJ.grow{P Q:List Int}(hp:P.Nodup)(hP:∀y∈P,y∈N)(hq:Q.Nodup)(hQ:∀y∈Q,y∈N)(fp:r P=P.length)(fq:r Q=Q.length)(hl:P.length<Q.length):∃x∈Q,x∉P/\r (P++[x])=P.length+1:=by
 refine byContradiction λno=>?_;have nd:(P++Q.filter λy=>!decide (y∈P)).Nodup:=by rw[aaH];exact⟨hp,hq.sublist aau,λa ha b hb e=>by subst e;have:=(aai.mp hb).2;simp[ha]at this⟩
 have hi:∀y∈P++Q.filter (λy=>!decide (y∈P)),y∈N:=λy hy=>by
  rcases aat.mp hy with z|z
  ·exact hP y z
  ·exact hQ y (aai.mp z).1
 have e:=h.close (Q.filter λy=>!decide (y∈P)) P nd hi λx hx=>by
  obtain⟨h1,h2⟩:=aai.mp hx;have nx:x∉P:=by simpa using h2
  rcases h.step P x hp hP (hQ x h1) nx with z|z
  ·exact z
  ·exact absurd ⟨x,h1,nx,by omega⟩ no
 have m:=h.mono (P:=Q) (Q:=P++Q.filter λy=>!decide (y∈P)) hq nd hi λy hy=>by
  by_cases c:y∈P
  ·exact aas _ c
  ·exact aaA _ (aai.mpr ⟨hy,by simpa using c⟩)
 omega
end
section
variable {p q:Int} {ts:List T3}
def eO(κ:Nat)(p q:Int)(ts:List T3)(P:List Int):Int:=if κ = 0 then (P.length:Int) else if κ = 1 then (lK p q ts P:Int) else (P.length:Int)-lK p q ts (nms ts)+lK p q ts (others ts P)
theorem jq{P Q:List Int}(hp:P.Nodup)(hq:Q.Nodup)(h:∀y,y∈P↔y∈Q):P.length=Q.length :=
 Nat.le_antisymm (bG hp λx hx=>(h x).mp hx) (bG hq λx hx=>(h x).mpr hx)
theorem nV{P:List Int}{x:Int}(hx:x∈nms ts)(hn:x∉P)(y:Int):y∈others ts P↔y∈others ts (P++[x])\/y=x:=by
 rw[nU,nU,bw];constructor
 ·rintro⟨h1,h2⟩
  by_cases c:y=x
  ·exact .inr c
  ·exact .inl ⟨h1,λz=>z.elim h2 c⟩
 ·rintro(⟨h1,h2⟩|rfl)
  ·exact⟨h1,λz=>h2 (.inl z)⟩
  ·exact⟨hx,hn⟩
theorem nW(ok:bu p q ts){κ:Nat}(hk:κ < 3):lJ (nms ts) (eO κ p q ts):=by
 match κ,hk with
 |0,_=>have e:∀P,eO 0 p q ts P=(P.length:Int):=λP=>aab rfl;refine⟨by rw[e];rfl,λP Q hp hq _ h=>by rw[e,e,jq hp hq h],λP x _ _ _ _=>.inr (by rw[e,e,aag];rfl),λP Q x _ _ _ _ _ _ z=>?_⟩;rw[e,e,aag]at z;simp at z;omega
 |1,_=>
  have e:∀P,eO 1 p q ts P=(lK p q ts P:Int):=λP=>by unfold eO;rw[aad (by decide),aab rfl]
  refine⟨by rw[e,KL];rfl,λP Q _ _ hP h=>by rw[e,e,zh ok hP h],λP x _ hP hx _=>?_,λP Q x _ _ hQ hs hx _ z=>?_⟩
  ·have:=tL ok (Q:=P++[x]) hP hx bw;rw[e,e];omega
  ·rw[e,e]at z |-;have hP:∀y∈P,y∈nms ts:=λy hy=>hQ y (hs y hy);have w:=(BS ok (Q:=P++[x]) hP hx bw).mpr (by omega);rw[(BS ok (Q:=Q++[x]) hQ hx bw).mp (w.mono hs)]
 |2,_=>
  have e:∀P,eO 2 p q ts P=(P.length:Int)-lK p q ts (nms ts)+lK p q ts (others ts P):=λP=>by unfold eO;rw[aad (by decide),aad (by decide)]
  have l1:∀(P:List Int) (x:Int),((P++[x]).length:Int)=P.length+1:=λP x=>by simp
  refine⟨?_,λP Q hp hq hP h=>?_,λP x _ hP hx hn=>?_,λP Q x _ _ hQ hs hx hn z=>?_⟩
  ·have:others ts []=nms ts:=by unfold others;rw[List.filter_eq_self];simp
   rw[e,this,length_nil];omega
  ·rw[e,e,jq hp hq h,zh ok pO (P:=others ts P) (Q:=others ts Q) λy=>by rw[nU,nU,h]]
  ·have:=tL ok (P:=others ts (P++[x])) (Q:=others ts P) (x:=x) pO hx (nV hx hn);rw[e,e,l1];omega
  ·rw[e,e,l1]at z |-
   have Zz:x∉P:=λw=>hn (hs x w);have sQ:=tL ok (P:=others ts (Q++[x])) (Q:=others ts Q) (x:=x) pO hx (nV hx hn);have y1:=BS ok (P:=others ts (P++[x])) (Q:=others ts P) (x:=x) pO hx (nV hx Zz);have y2:=BS ok (P:=others ts (Q++[x])) (Q:=others ts Q) (x:=x) pO hx (nV hx hn);have n1:¬ Wy p q ts (others ts (P++[x])) x:=λw=>by have:=y1.mp w;omega
   have n2:¬ lK p q ts (others ts Q)=lK p q ts (others ts (Q++[x])):=λw=>n1 ((y2.mpr w).mono λy hy=>by
    rw[nU]at hy |-;exact⟨hy.1,λk=>hy.2 (by rcases(bw y).mp k with k|k;exact aas _ (hs y k);rw[k];simp)⟩)
   omega
end
end K34
end
section
open PySem L2 Hv
namespace K34
theorem nX{N:List Int}(o:lJ N r){P Q:List Int}(hp:P.Nodup)(hP:∀y∈P,y∈N)(hq:Q.Nodup)(hs:∀y∈Q,y∈P)(f:r P=P.length):r Q=Q.length:=by
 have nd:(Q++P.filter λy=>!decide (y∈Q)).Nodup:=by rw[aaH];refine⟨hq,hp.sublist aau,λa ha b hb e=>?_⟩;have:=(aai.mp hb).2;subst e;simp[ha]at this
 have mem:∀y,y∈P↔y∈Q++P.filter λy=>!decide (y∈Q):=λy=>by
  rw[aat,aai];constructor
  ·intro h
   by_cases c:y∈Q
   ·exact .inl c
   ·exact .inr ⟨h,by simp[c]⟩
  ·rintro(h|h)
   ·exact hs y h
   ·exact h.1
 have hl:=jq hp nd mem;have hN:∀y∈Q++P.filter λy=>!decide (y∈Q),y∈N:=λy hy=>hP y ((mem y).mpr hy);have h1:=(o.app (P.filter λy=>!decide (y∈Q)) Q nd hN).2;have h2:=o.mono hp nd hN λy hy=>(mem y).mp hy;have h3:=(o.bound hq λy hy=>hP y (hs y hy)).2;rw[aag]at hl;omega
abbrev Pd:=Int->Prop
def ins(S:Pd)(x:Int):Pd:=λy=>S y\/y=x
def del(S:Pd)(x:Int):Pd:=λy=>S y/\y≠x
open Classical in
def sel(N:List Int)(S:Pd):List Int:=N.filter λx=>decide (S x)
def lX(N:List Int)(r:List Int->Int)(S:Pd):Int:=r (sel N S)
def Cl(N:List Int)(r:List Int->Int)(S:Pd)(x:Int):Prop:=lX N r (ins S x)=lX N r S
open Classical in
theorem bO{N:List Int}{x:Int}:x∈sel N S↔x∈N/\S x:=by unfold sel;rw[aai,aaM]
theorem ju{N:List Int}(e:∀y∈N,S y↔T y):lX N r S=lX N r T:=by
 unfold lX sel;rw[filter_congr λy hy=>decide_eq_decide.mpr (e y hy)]
theorem zj{x:Int}(h:S x):ins S x=S:=funext λy=>propext ⟨λz=>z.elim id λe=>e▸h,.inl⟩
theorem wJ{x:Int}(h:S x):ins (del S x) x=S:=funext λy=>propext ⟨λz=>z.elim (·.1) λe=>e▸h,λz=>by
 by_cases c:y=x
 ·exact .inr c
 ·exact .inl ⟨z,c⟩⟩
section
variable {N:List Int} {r:List Int->Int}
theorem Cl.of{x:Int}(h:S x):Cl N r S x:=by unfold Cl;rw[zj h]
variable (h:lJ N r) (hN:N.Nodup)
include h hN
theorem mP(S:Pd):(sel N S).Nodup:=hN.sublist aau
theorem gZ{P:List Int}(hp:P.Nodup)(hP:∀y∈P,y∈N)(e:∀y,y∈P↔y∈N/\S y):lX N r S=r P :=
 (h.same P _ hp (mP h hN S) hP λy=>by rw[bO,e]).symm
theorem nY{P:List Int}(hp:P.Nodup)(hP:∀y∈P,y∈N):lX N r (· ∈ P)=r P:=gZ h hN hp hP λy=>⟨λz=>⟨hP y z,z⟩,λz=>z.2⟩
theorem wK{x:Int}(hx:x∈N)(hs:¬ S x):r (sel N S++[x])=lX N r (ins S x):=by
 refine(gZ h hN (fT (mP h hN S) λz=>hs (bO.mp z).2) (λy hy=>?_) λy=>?_).symm
 ·rcases(bw y).mp hy with z|rfl
  ·exact(bO.mp z).1
  ·exact hx
 ·rw[bw,bO]
  constructor
  ·rintro(z|rfl)
   ·exact⟨z.1,.inl z.2⟩
   ·exact⟨hx,.inr rfl⟩
  ·rintro⟨z1,z2|z2⟩
   ·exact .inl ⟨z1,z2⟩
   ·exact .inr z2
theorem kR(S:Pd){x:Int}(hx:x∈N):lX N r (ins S x)=lX N r S\/lX N r (ins S x)=lX N r S+1:=by
 by_cases c:S x
 ·rw[zj c];exact .inl rfl
 ·rw[<-wK h hN hx c];exact h.step _ x (mP h hN S) (λy hy=>(bO.mp hy).1) hx λz=>c (bO.mp z).2
theorem nZ(e:∀y,S y->T y):lX N r S<=lX N r T :=
 h.mono (mP h hN S) (mP h hN T) (λy hy=>(bO.mp hy).1) λy hy=>bO.mpr ⟨(bO.mp hy).1,e y (bO.mp hy).2⟩
theorem Cl.mono(e:∀y,S y->T y){x:Int}(hx:x∈N)(c:Cl N r S x):Cl N r T x:=by
 by_cases ct:T x
 ·exact .of ct
 ·have cs:¬ S x:=λz=>ct (e x z);unfold Cl at c |-;rw[<-wK h hN hx cs]at c;rw[<-wK h hN hx ct];exact h.loc _ _ x (mP h hN S) (mP h hN T) (λy hy=>(bO.mp hy).1) (λy hy=>bO.mpr ⟨(bO.mp hy).1,e y (bO.mp hy).2⟩) hx (λz=>ct (bO.mp z).2) c
theorem BU:∀(L:List Int),(∀y∈L,y∈N/\Cl N r S y)->lX N r (λy=>S y\/y∈L)=lX N r S
 |[],_=>ju λy _=>by simp
 | a::L,hL=>by
  have ih:=BU L λy hy=>hL y (Z5 _ hy);have ha:=hL a aaa;have:=Cl.mono h hN (T:=λy=>S y\/y∈L) (λy z=>.inl z) ha.1 ha.2;unfold Cl at this;rw[<-ih,<-this];refine ju λy _=>?_;unfold ins;rw[aap];exact⟨λz=>z.elim (λz=>.inl (.inl z)) λz=>z.elim .inr λz=>.inl (.inr z),λz=>z.elim (λz=>z.elim .inl λz=>.inr (.inr z)) λz=>.inr (.inl z)⟩
theorem zk{S T:Pd}(e:∀y∈N,T y->Cl N r S y):lX N r (λy=>S y\/T y)=lX N r S:=by
 rw[<-BU h hN (S:=S) (sel N T) λy hy=>⟨(bO.mp hy).1,e y (bO.mp hy).1 (bO.mp hy).2⟩];exact ju λy hy=>by rw[bO];exact⟨λz=>z.elim .inl λz=>.inr ⟨hy,z⟩,λz=>z.elim .inl λz=>.inr z.2⟩
theorem Cl.trans(e:∀y∈N,T y->Cl N r S y){x:Int}(hx:x∈N)(c:Cl N r T x):Cl N r S x:=by
 have c1:=Cl.mono h hN (T:=λy=>S y\/T y) (λy z=>.inr z) hx c;have e1:=zk h hN e;have m1:=nZ h hN (S:=S) (T:=ins S x) λy z=>.inl z;have m2:=nZ h hN (S:=ins S x) (T:=ins (λy=>S y\/T y) x) λy z=>z.elim (λz=>.inl (.inl z)) .inr;unfold Cl at c1 |-;omega
theorem Cl.Te{x y:Int}(hx:x∈N)(hy:y∈N)(n:¬ Cl N r S x)(c:Cl N r (ins S y) x):Cl N r (ins S x) y:=by
 have e:lX N r (ins (ins S x) y)=lX N r (ins (ins S y) x):=ju λz _=>by unfold ins;exact⟨λq=>q.elim (λq=>q.elim (λq=>.inl (.inl q)) .inr) λq=>.inl (.inr q),λq=>q.elim (λq=>q.elim (λq=>.inl (.inl q)) .inr) λq=>.inl (.inr q)⟩
 have s1:=kR h hN S hx;have s2:=kR h hN S hy;have m:=nZ h hN (S:=ins S x) (T:=ins (ins S x) y) λy z=>.inl z;unfold Cl at n c |-;omega
theorem Ht{P:List Int}(hp:P.Nodup)(hP:∀y∈P,y∈N)(f:r P=P.length){y:Int}(hy:y∈P):¬ Cl N r (del (· ∈ P) y) y:=λc=>by
 have e:lX N r (del (· ∈ P) y)=r (P.filter λz=>decide (z≠y)):=gZ h hN (hp.sublist aau) (λz hz=>hP z (aai.mp hz).1) λz=>by
  rw[aai,aaM];exact⟨λq=>⟨hP z q.1,q⟩,λq=>q.2⟩
 unfold Cl at c;rw[wJ hy,nY h hN hp hP,e]at c;have b:=(h.bound (P:=P.filter λz=>decide (z≠y)) (hp.sublist aau) λz hz=>hP z (aai.mp hz).1).2;have l:(P.filter λz=>decide (z≠y)).length<P.length:=by refine List.length_filter_lt_length_iff_exists.mpr ⟨y,hy,by simp⟩
 omega
theorem vc{x y:Int}(hx:x∈N)(hy:y∈N)(hS:S y)(n:¬ Cl N r (del S y) x)(c:Cl N r S x){z:Int}(hz:z∈N):Cl N r (ins (del S y) x) z↔Cl N r S z:=by
 have cy:Cl N r (ins (del S y) x) y:=Cl.Te h hN hx hy n (by rw[wJ hS];exact c);refine⟨Cl.trans h hN (λw hw q=>?_) hz,Cl.trans h hN (λw hw q=>?_) hz⟩
 ·rcases q with q|q
  ·exact .of q.1
  ·rw[q];exact c
 ·by_cases e:w=y
  ·rw[e];exact cy
  ·exact .of (.inl ⟨q,e⟩)
structure Ch (N:List Int) (r:List Int->Int) (I:List Int) (ps:List (Int×Int)):Prop where
 one:∀e∈ps,e.1∈N/\e.1∉I/\e.2∈I/\¬ Cl N r (del (· ∈ I) e.2) e.1/\Cl N r (· ∈ I) e.1
 two:ps.Pairwise λa b=>Cl N r (del (· ∈ I) b.2) a.1/\a.1≠b.1/\a.2≠b.2
theorem chain:∀(ps:List (Int×Int)) (I I':List Int),I.Nodup->(∀y∈I,y∈N)->r I=I.length->Ch N r I ps->I'.Nodup->(∀y,y∈I'↔(y∈I/\y∉ps.map (·.2))\/y∈ps.map (·.1))->r I'=I'.length/\(∀y∈I',y∈N)/\∀z∈N,Cl N r (· ∈ I') z↔Cl N r (· ∈ I) z
 | [],I,I',hI,hIN,f,c,hI',m=>by
  have m:∀y,y∈I↔y∈I':=λy=>by rw[m];simp
  refine⟨?_,λy hy=>hIN y ((m y).mpr hy),λz _=>by rw[show (λy=>y∈I')=λy=>y∈I from funext λy=>propext (m y).symm]⟩;rw[<-h.same I I' hI hI' hIN m,f,jq hI hI' m]
 | (x,y)::ps,I,I',hI,hIN,f,c,hI',m=>by
  have o:=c.one (x,y) aaa;have o1:x∈N:=o.1;have o2:x∉I:=o.2.1;have o3:y∈I:=o.2.2.1;have o4:¬ Cl N r (del (· ∈ I) y) x:=o.2.2.2.1;have o5:Cl N r (· ∈ I) x:=o.2.2.2.2;have t:=aaI.mp c.two;have Xg:=hIN y o3;have hfn:(I.filter λz=>decide (z≠y)).Nodup:=hI.sublist aau;have hfm:∀z,z∈(I.filter λz=>decide (z≠y))↔z∈I/\z≠y:=λz=>by rw[aai,aaM]
  have nx:x∉I.filter λz=>decide (z≠y):=λz=>o2 ((hfm x).mp z).1;have n1:=fT hfn nx;have m1:∀z,z∈(I.filter λz=>decide (z≠y))++[x]↔(z∈I/\z≠y)\/z=x:=λz=>by rw[bw,hfm]
  have i1:∀z∈(I.filter λz=>decide (z≠y))++[x],z∈N:=λz hz=>by
   rcases(m1 z).mp hz with q|q
   ·exact hIN z q.1
   ·rw[q];exact o1
  have ep:(λz=>z∈(I.filter λz=>decide (z≠y))++[x])=ins (del (· ∈ I) y) x:=funext λz=>propext (m1 z);have f1:r ((I.filter λz=>decide (z≠y))++[x])=((I.filter λz=>decide (z≠y))++[x]).length:=by
   have fd:r (I.filter λz=>decide (z≠y))=(I.filter λz=>decide (z≠y)).length:=nX h hI hIN hfn (λz hz=>((hfm z).mp hz).1) f;have e1:lX N r (del (· ∈ I) y)=r (I.filter λz=>decide (z≠y)):=gZ h hN hfn (λz hz=>hIN z ((hfm z).mp hz).1) λz=>by rw[hfm];exact⟨λq=>⟨hIN z q.1,q⟩,λq=>q.2⟩
   have e2:=nY h hN n1 i1;rw[ep]at e2;have s:=kR h hN (del (· ∈ I) y) o1;unfold Cl at o4;rw[aag,aaT];omega
  have same:=λz (hz:z∈N)=>vc h hN o1 Xg o3 o4 o5 hz;have less:∀e∈ps,∀z∈N,Cl N r (del (· ∈ (I.filter λz=>decide (z≠y))++[x]) e.2) z↔Cl N r (del (· ∈ I) e.2) z:=λe he z hz=>by
   obtain⟨p1,p2,p3⟩:=t.1 e he;obtain⟨q1,q2,q3,q4,q5⟩:=c.one e (Z5 _ he);have hS:del (· ∈ I) e.2 y:=⟨o3,p3⟩;have nS:¬ Cl N r (del (del (· ∈ I) e.2) y) x:=λw=>o4 (Cl.mono h hN (λv hv=>⟨hv.1.1,hv.2⟩) o1 w);have:=vc h hN o1 Xg hS nS p1 hz;have ee:del (· ∈ (I.filter λz=>decide (z≠y))++[x]) e.2=ins (del (del (· ∈ I) e.2) y) x:=funext λv=>propext (by
    show (v∈_++[x]/\v≠e.2)↔((v∈I/\v≠e.2)/\v≠y)\/v=x;rw[m1];constructor
    ·rintro⟨q|q,w⟩
     ·exact .inl ⟨⟨q.1,w⟩,q.2⟩
     ·exact .inr q
    ·rintro(q|q)
     ·exact⟨.inl ⟨q.1.1,q.2⟩,q.1.2⟩
     ·exact⟨.inr q,λw=>o2 (by rw[<-q,w];exact q3)⟩)
   rw[ee];exact this
  have c1:Ch N r ((I.filter λz=>decide (z≠y))++[x]) ps:=⟨λe he=>by
    obtain⟨p1,p2,p3⟩:=t.1 e he;obtain⟨q1,q2,q3,q4,q5⟩:=c.one e (Z5 _ he);refine⟨q1,λw=>?_,(m1 e.2).mpr (.inl ⟨q3,λw=>p3 w.symm⟩),λw=>q4 ((less e he _ q1).mp w),?_⟩
    ·rcases(m1 _).mp w with w|w
     ·exact q2 w.1
     ·exact p2 w.symm
    ·rw[ep];exact(same _ q1).mpr q5,
   List.Pairwise.imp_of_mem (λ{a b} ha hb w=>⟨(less b hb _ (c.one a (Z5 _ ha)).1).mpr w.1,w.2⟩) t.2⟩
  have res:=chain ps _ I' n1 i1 f1 c1 hI' λz=>by
   rw[m,m1,aaf,aaf,aap,aap];have ZA:x∉ps.map (·.2):=λw=>by
    obtain⟨e,he,ee⟩:=aaN.mp w;exact o2 (by rw[<-show e.2=x from ee];exact(c.one e (Z5 _ he)).2.2.1)
   constructor
   ·rintro(⟨w1,w2⟩|rfl|w)
    ·exact .inl ⟨.inl ⟨w1,λw=>w2 (.inl w)⟩,λw=>w2 (.inr w)⟩
    ·exact .inl ⟨.inr rfl,ZA⟩
    ·exact .inr w
   ·rintro(⟨w1|rfl,w2⟩|w)
    ·exact .inl ⟨w1.1,λw=>w.elim w1.2 w2⟩
    ·exact .inr (.inl rfl)
    ·exact .inr (.inr w)
  refine⟨res.1,res.2.1,λz hz=>(res.2.2 z hz).trans ?_⟩;rw[ep];exact same z hz
theorem KN{R:List Int}(hR:R.Nodup)(hRN:∀y∈R,y∈N)(f:r R=R.length){V:Pd}{x:Int}(hx:x∈N)(c:Cl N r (· ∈ R) x)(hv:∀y∈R,¬ V y->Cl N r (del (· ∈ R) y) x):Cl N r (λy=>y∈R/\V y) x:=by
 have key:∀(L:List Int),(∀y∈L,y∈R/\¬ V y)->Cl N r (λy=>y∈R/\y∉L) x:=λL=>by
  induction L with
  |nil=>intro _;exact Cl.mono h hN (λy hy=>⟨hy,by simp⟩) hx c
  |cons a L ih=>
   intro hL;obtain⟨a1,a2⟩:=hL a aaa;have i:=ih λy hy=>hL y (Z5 _ hy);have ea:(λy=>y∈R/\y∉a::L)=del (λy=>y∈R/\y∉L) a:=funext λy=>propext (by
    unfold del;rw[aap];exact⟨λw=>⟨⟨w.1,λz=>w.2 (.inr z)⟩,λz=>w.2 (.inl z)⟩,λw=>⟨w.1.1,λz=>z.elim w.2 w.1.2⟩⟩)
   rw[ea]
   by_cases ca:a∈L
   ·exact Cl.mono h hN (λy hy=>⟨hy,λe=>hy.2 (e▸ca)⟩) hx i
   ·refine byContradiction λn=>?_
    have ce:=Cl.Te h hN hx (hRN a a1) n (by rw[wJ ⟨a1,ca⟩];exact i);have c2:=Cl.mono h hN (T:=ins (del (· ∈ R) a) x) (λy hy=>hy.elim (λw=>.inl ⟨w.1.1,w.2⟩) .inr) (hRN a a1) ce;refine Ht h hN hR hRN f a1 (Cl.trans h hN (λy hy w=>?_) (hRN a a1) c2)
    rcases w with w|w
    ·exact .of w
    ·rw[w];exact hv a a1 a2
 open Classical in
 have:=key (R.filter λy=>decide (¬ V y)) λy hy=>by
  have:=aai.mp hy;exact⟨this.1,aar this.2⟩
 refine Cl.mono h hN (λy hy=>⟨hy.1,byContradiction λw=>hy.2 (aai.mpr ⟨hy.1,decide_eq_true w⟩)⟩) hx this
end
end K34
end
section
open PySem L2 Hv
namespace K34
structure RO (R:gj):Prop where
 n0:R.1.Nodup
 n1:R.2.Nodup
 dj:∀x∈R.1,x∉R.2
theorem wL{a b:Nat}{l:List Int}(ha:a<2)(hb:b<2):au (qt R a l) b=if b=a then l else au R b:=by
 have:a=0\/a=1:=by omega
 have:b=0\/b=1:=by omega
 rcases ‹a=0\/a=1› with rfl|rfl<;>rcases ‹b=0\/b=1› with rfl|rfl<;>rfl
theorem gA{y:Int}{a:Nat}(h:home R y=some a):a<2/\y∈au R a:=by
 unfold home at h;split at h
 ·cases h;rename_i c;exact⟨by omega,c⟩
 ·split at h
  ·cases h;rename_i c;exact⟨by omega,c⟩
  ·cases h
theorem Dg{y:Int}(h:home R y=none):y∉R.1/\y∉R.2:=by
 unfold home at h;split at h
 ·cases h
 ·split at h
  ·cases h
  ·rename_i c1 c2;exact⟨c1,c2⟩
theorem kT(o:RO R){y:Int}{a:Nat}(ha:a<2):home R y=some a↔y∈au R a:=by
 refine⟨λh=>(gA h).2,λh=>?_⟩;unfold home;have:a=0\/a=1:=by omega
 rcases this with rfl|rfl
 ·rw[aab (show y∈R.1 from h)]
 ·have h:y∈R.2:=h;rw[aad λz=>o.dj y z h,aab h]
theorem RO.nd(o:RO R)(a:Nat):(au R a).Nodup:=by unfold au;split;exact o.n0;exact o.n1
theorem wM(o:RO R){y z:Int}{b:Nat}(hb:b<2):z∈au (jL R y) b↔z∈au R b/\z≠y:=by
 unfold jL;cases h:home R y with
 |none=>
  have:=Dg h;refine⟨λw=>⟨w,λe=>?_⟩,λw=>w.1⟩;subst e;unfold au at w;split at w
  ·exact this.1 w
  ·exact this.2 w
 |some a=>
  obtain⟨h1,h2⟩:=gA h;dsimp only;rw[wL h1 hb]
  by_cases c:b=a
  ·subst c;rw[aab rfl,(o.nd b).mem_erase_iff];exact and_comm
  ·rw[aad c];refine⟨λw=>⟨w,λe=>c ?_⟩,λw=>w.1⟩;subst e;have:=(kT o hb).mpr w;rw[h]at this;cases this;rfl
theorem Pa(o:RO R)(y:Int):RO (jL R y):=by
 unfold jL;cases h:home R y with
 |none=>exact o
 |some a=>
  dsimp only;unfold qt
  split
  ·rename_i e;subst e;exact⟨o.n0.erase y,o.n1,λx hx=>o.dj x (List.mem_of_mem_erase hx)⟩
  ·rename_i e
   have ea:a=1:=by have:=(gA h).1;omega
   subst ea;exact⟨o.n0,o.n1.erase y,λx hx hy=>o.dj x hx (List.mem_of_mem_erase hy)⟩
theorem wN(o:RO R){y z:Int}{room b:Nat}(hr:room<2)(hb:b<2):z∈au (j5 R y room) b↔(z∈au R b/\z≠y)\/(z=y/\b=room):=by
 unfold j5;rw[wL hr hb]
 by_cases c:b=room
 ·subst c;rw[aab rfl,bw,wM o hb];exact⟨λw=>w.elim .inl λw=>.inr ⟨w,rfl⟩,λw=>w.elim .inl λw=>.inr w.1⟩
 ·rw[aad c,wM o hb];exact⟨.inl,λw=>w.elim id λw=>absurd w.2 c⟩
theorem wO(o:RO R){y:Int}{room:Nat}(hr:room<2):RO (j5 R y room):=by
 have o1:=Pa o y;have ny:∀b,b<2->y∉au (jL R y) b:=λb hb w=>((wM o hb).mp w).2 rfl;have n0:y∉(jL R y).1:=ny 0 (by omega);have n1:y∉(jL R y).2:=ny 1 (by omega);unfold j5 qt
 split
 ·refine⟨fT (o1.nd room) (ny room hr),o1.n1,λx hx hy=>?_⟩
  rename_i e;subst e
  rcases(bw x).mp hx with w|w
  ·exact o1.dj x w hy
  ·exact n1 (w▸hy)
 ·refine⟨o1.n0,fT (o1.nd room) (ny room hr),λx hx hy=>?_⟩
  have e:room=1:=by omega
  subst e
  rcases(bw x).mp hy with w|w
  ·exact o1.dj x hx w
  ·exact n0 (w▸hx)
def tot(R:gj):Nat:=R.1.length+R.2.length
theorem wQ{y:Int}{room:Nat}:tot (j5 R y room)=tot R+if home R y=none then 1 else 0:=by
 have s:∀(Q:gj) (l:List Int),tot (qt Q room (au Q room++l))=tot Q+l.length:=λQ l=>by
  unfold qt au tot
  split<;>simp<;>omega
 unfold j5;rw[s];unfold jL;cases h:home R y with
 |none=>rw[aab rfl];rfl
 |some a=>rw[aad (by simp)];have hm:=(gA h).2;have le:=List.length_erase_of_mem hm;have lp:=List.length_pos_of_mem hm;show tot (qt R a ((au R a).erase y))+1=_;unfold qt tot au at *;split at le<;>rename_i c<;>simp only[c,if_true,if_false]at lp |- <;> omega
def kU(R:gj):List Int->Nat->List (Int×Nat)
 |[],_=>[]
 |y::q,room=>(y,room)::kU R q ((home R y).getD 0)
theorem BV:∀{q:List Int} {room:Nat},(kU R q room).map (·.1)=q
 |[],_=>rfl
 |y::q,room=>by rw[kU,aaf,BV]
theorem vd:∀{q:List Int} {room:Nat},(∀y∈q,home R y=home Q y)->kU R q room=kU Q q room
 |[],_,_=>rfl
 |y::q,room,h=>by rw[kU,kU,h y aaa,vd λz hz=>h z (Z5 _ hz)]
theorem ve{y:Int}:(home R y).getD 0<2:=by
 cases h:home R y with
 |none=>exact Nat.zero_lt_two
 |some a=>exact(gA h).1
theorem tN(o:RO R){y z:Int}{room:Nat}(hr:room<2)(hz:z≠y):home (j5 R y room) z=home R z:=by
 have p:=wO o (y:=y) hr;cases h:home R z with
 |some a=>obtain⟨h1,h2⟩:=gA h;exact(kT p h1).mpr ((wN o hr h1).mpr (.inl ⟨h2,hz⟩))
 |none=>
  cases h':home (j5 R y room) z with
  |none=>rfl
  |some a=>
   obtain⟨h1,h2⟩:=gA h'
   rcases(wN o hr h1).mp h2 with w|w
   ·have:=(kT o h1).mpr w.1;rw[h]at this;cases this
   ·exact absurd w.1 hz
theorem BW:∀(q:List Int) (R:gj) (room:Nat),RO R->q.Nodup->room<2->RO (putL q R room)/\∀b,b<2->∀z,z∈au (putL q R room) b↔(z∈au R b/\z∉q)\/(z,b)∈kU R q room
 |[],R,room,o,_,_=>⟨o,λb hb z=>by rw[putL,kU];simp⟩
 | y::q,R,room,o,hq,hr=>by
  have hq:=aaF.mp hq;obtain⟨o',m⟩:=BW q (j5 R y room) ((home R y).getD 0) (wO o hr) hq.2 ve;refine⟨o',λb hb z=>?_⟩;have dc:kU (j5 R y room) q ((home R y).getD 0)=kU R q ((home R y).getD 0):=vd λw hw=>tN o hr λe:w=y=>hq.1 (e▸hw);rw[putL,m b hb z,wN o hr hb,kU,aap,aap,dc];constructor
  ·rintro(⟨w|w,n⟩|w)
   ·exact .inl ⟨w.1,λe=>e.elim w.2 n⟩
   ·exact .inr (.inl (by rw[w.1,w.2]))
   ·exact .inr (.inr w)
  ·rintro(⟨w,n⟩|w|w)
   ·exact .inl ⟨.inl ⟨w,λe=>n (.inl e)⟩,λe=>n (.inr e)⟩
   ·cases w;exact .inl ⟨.inr ⟨rfl,rfl⟩,hq.1⟩
   ·exact .inr w
theorem BX:∀(q:List Int) (R:gj) (room:Nat),RO R->q.Nodup->room<2->tot (putL q R room)=tot R+q.countP λy=>decide (home R y=none)
 |[],R,room,_,_,_=>by rw[putL];rfl
 | y::q,R,room,o,hq,hr=>by
  have hq:=aaF.mp hq;rw[putL,BX q _ _ (wO o hr) hq.2 ve,wQ,countP_cons];have:(q.countP λz=>decide (home (j5 R y room) z=none))=q.countP λz=>decide (home R z=none):=List.countP_congr λz hz=>by rw[tN o hr λe:z=y=>hq.1 (e▸hz)]
  rw[this];simp only[decide_eq_true_eq];omega
def prs(R:gj)(a:Nat):List Int->List (Int×Int)
 |[]=>[]
 |[_]=>[]
 |y::x::q=>(if home R y=some a then [(x,y)] else [])++prs R a (x::q)
theorem n5{a:Nat}:∀{q:List Int} {e:Int×Int},e∈prs R a q->home R e.2=some a/\e.1∈q/\e.2∈q
 |[],e,h=>by rw[prs]at h;simp at h
 |[_],e,h=>by rw[prs]at h;simp at h
 | y::x::q,e,h=>by
  rw[prs,aat]at h
  rcases h with h|h
  ·split at h
   ·rename_i c;rw[aaj]at h;subst h;exact⟨c,by simp,by simp⟩
   ·simp at h
  ·obtain⟨h1,h2,h3⟩:=n5 h;exact⟨h1,Z5 _ h2,Z5 _ h3⟩
def n6(R:gj):List Int->Prop
 |[]=>False
 |[y]=>home R y=none
 |y::x::q=>home R y≠none/\n6 R (x::q)
theorem BY{a:Nat}:∀{q:List Int} {room:Nat} {z:Int},n6 R q->((z,a)∈kU R q room↔z∈(prs R a q).map (·.1)\/(q.head?=some z/\room=a))
 |[],room,z,h=>h.elim
 | [y],room,z,h=>by
  rw[kU,kU,prs];simp only[List.mem_singleton,Prod.mk.injEq,map_nil,not_mem_nil,false_or,head?_cons,Option.some.injEq];exact⟨λw=>⟨w.1.symm,w.2.symm⟩,λw=>⟨w.1.symm,w.2.symm⟩⟩
 | y::x::q,room,z,h=>by
  obtain⟨h1,h2⟩:=h;rw[kU,aap,BY h2,prs,map_append,aat,Prod.mk.injEq];obtain⟨b,hb⟩:=Option.ne_none_iff_exists'.mp h1;rw[hb];simp only[getD_some,head?_cons,Option.some.injEq]
  by_cases c:b=a
  ·subst c
   rw[aab rfl];simp only[map_cons,map_nil,List.mem_singleton];constructor
   ·rintro(⟨w1,w2⟩|w|⟨w1,w2⟩)
    ·exact .inr ⟨w1.symm,w2.symm⟩
    ·exact .inl (.inr w)
    ·exact .inl (.inl w1.symm)
   ·rintro((w|w)|⟨w1,w2⟩)
    ·exact .inr (.inr ⟨w.symm,trivial⟩)
    ·exact .inr (.inl w)
    ·exact .inl ⟨w1.symm,w2.symm⟩
  ·rw[aad c]
   simp only[map_nil,not_mem_nil,false_or];constructor
   ·rintro(⟨w1,w2⟩|w|⟨w1,w2⟩)
    ·exact .inr ⟨w1.symm,w2.symm⟩
    ·exact .inl w
    ·exact absurd w2 c
   ·rintro(w|⟨w1,w2⟩)
    ·exact .inr (.inl w)
    ·exact .inl ⟨w1.symm,w2.symm⟩
theorem BZ{a:Nat}:∀{q:List Int} {z:Int},n6 R q->home R z=some a->z∈q->z∈(prs R a q).map (·.2)
 |[],z,h,_,_=>h.elim
 | [y],z,h,hz,hm=>by
  rw[aaj]at hm;subst hm;have h:home R z=none:=h;rw[h]at hz;cases hz
 | y::x::q,z,h,hz,hm=>by
  rw[prs,map_append,aat]
  rcases aap.mp hm with rfl|hm
  ·left;rw[aab hz];simp
  ·exact .inr (BZ h.2 hz hm)
end K34
end
section
open PySem L2 Hv
namespace K34
structure PO (N:List Int) (r:List Int->Int) (S:List Int) (R:gj):Prop where
 ro:RO R
 sub:∀a,a<2->∀x∈au R a,x∈S
 fr:∀a,a<2->r (au R a)=(au R a).length
structure vh (N:List Int) (r:List Int->Int) (S:List Int) (R:gj) (vis:List Int) (par:Int->Option Int):Prop where
 nd:vis.Nodup
 sub:∀v∈vis,v∈S
 bI:∀v∈S,home R v=none->v∈vis
 non:∀v∈vis,par v=none->home R v=none
 P0:∀v∈vis,∀u,par v=some u->u∈vis/\vis.idxOf u<vis.idxOf v/\∃a,home R v=some a/\u∉au R a/\¬ Cl N r (del (· ∈ au R a) v) u/\∀u'∈vis,vis.idxOf u'<vis.idxOf u->u'∉au R a->Cl N r (del (· ∈ au R a) v) u'
def Dq(N:List Int)(r:List Int->Int)(R:gj)(vis:List Int)(u:Int)(a:Nat):Prop:=u∉au R a->Cl N r (· ∈ au R a) u/\∀y∈au R a,¬ Cl N r (del (· ∈ au R a) y) u->y∈vis
inductive Hu (par:Int->Option Int):List Int->Prop
 |one {y:Int}:par y=none->Hu par [y]
 |cons {y x:Int} {q:List Int}:par y=some x->Hu par (x::q)->Hu par (y::x::q)
section
variable {N S vis:List Int} {r:List Int->Int} {R:gj} {par:Int->Option Int}
theorem vh.path(w:vh N r S R vis par):∀(n:Nat) (v:Int),v∈vis->vis.idxOf v<n->∃q,Hu par (v::q)/\(∀x∈v::q,x∈vis)/\(v::q).Pairwise λa b=>vis.idxOf b<vis.idxOf a
 |0,v,_,h=>by omega
 | n+1,v,hv,h=>by
  cases e:par v with
  |none=>exact⟨[],.one e,λx hx=>by rw[aaj.mp hx];exact hv,List.pairwise_singleton _ _⟩
  |some u=>
   obtain⟨u1,u2,_⟩:=w.P0 v hv u e;obtain⟨q,q1,q2,q3⟩:=w.path n u u1 (by omega);refine⟨u::q,.cons e q1,λx hx=>?_,aaI.mpr ⟨λx hx=>?_,q3⟩⟩
   ·rcases aap.mp hx with rfl|hx
    ·exact hv
    ·exact q2 x hx
   ·rcases aap.mp hx with rfl|hx
    ·exact u2
    ·have:=(aaI.mp q3).1 x hx;omega
theorem Hu.ve(w:vh N r S R vis par):∀{q:List Int},Hu par q->(∀x∈q,x∈vis)->n6 R q
 |_,.one e,h=>w.non _ (h _ aaa) e
 | _,.cons e p,h=>⟨by
   obtain⟨_,_,a,ha,_⟩:=w.P0 _ (h _ aaa) _ e;rw[ha];simp,Hu.ve w p λx hx=>h x (Z5 _ hx)⟩
theorem B0{a:Nat}:∀{q:List Int},Hu par q->∀e∈prs R a q,par e.2=some e.1
 |_,.one _,e,h=>by rw[prs]at h;simp at h
 | _,.cons ee p,e,h=>by
  rw[prs,aat]at h
  rcases h with h|h
  ·split at h
   ·rw[aaj]at h;subst h;exact ee
   ·simp at h
  ·exact B0 p e h
theorem n8{a:Nat}:∀{q:List Int} {y:Int} {e:Int×Int},e∈prs R a (y::q)->e.1∈q
 |[],y,e,h=>by rw[prs]at h;simp at h
 | x::q,y,e,h=>by
  rw[prs,aat]at h
  rcases h with h|h
  ·split at h
   ·rw[aaj]at h;subst h;exact aaa
   ·simp at h
  ·exact Z5 _ (n8 h)
theorem Hw{a:Nat}(ix:Int->Nat):∀{q:List Int},q.Pairwise (λa b=>ix b<ix a)->(prs R a q).Pairwise λb c=>ix c.1<ix b.1/\ix c.2<ix b.2
 |[],_=>by rw[prs];exact .nil
 |[_],_=>by rw[prs];exact .nil
 | y::x::q,h=>by
  have h1:=aaI.mp h;have h2:=aaI.mp h1.2;rw[prs,List.pairwise_append];refine⟨by split;exact List.pairwise_singleton _ _;exact .nil,Hw ix h1.2,λb hb c hc=>?_⟩;split at hb
  ·rw[aaj]at hb;subst hb;exact⟨h2.1 c.1 (n8 hc),h1.1 c.2 (n5 hc).2.2⟩
  ·simp at hb
theorem vf:∀{q:List Int},n6 R q->(q.countP λy=>decide (home R y=none))=1
 |[],h=>h.elim
 |[y],h=>by rw[countP_cons,aab (decide_eq_true (show home R y=none from h))];rfl
 |y::x::q,h=>by rw[countP_cons,vf h.2,aad (by simpa using h.1)]
variable (h:lJ N r) (hN:N.Nodup) (sN:∀x∈S,x∈N)
include h hN sN
theorem aug(o:PO N r S R)(w:vh N r S R vis par){name:Int}{at':Nat}(hv:name∈vis)(ha:at'<2)(na:name∉au R at')(nc:¬ Cl N r (· ∈ au R at') name)(dn:∀u∈vis,vis.idxOf u<vis.idxOf name->∀a,a<2->Dq N r R vis u a) :
  ∃q,Hu par (name::q)/\(name::q).Nodup/\(name::q).length<=vis.length/\(∀x∈name::q,x∈vis)/\n6 R (name::q)/\PO N r S (putL (name::q) R at')/\tot (putL (name::q) R at')=tot R+1:=by
 obtain⟨q,p,hq,pw⟩:=w.path _ name hv (aaW _);have nd:(name::q).Nodup:=pw.imp λhab e=>by rw[e]at hab;omega
 have hm:=p.ve w hq;obtain⟨o',m⟩:=BW (name::q) R at' o.ro nd ha;have inS:∀x∈name::q,x∈S:=λx hx=>w.sub x (hq x hx);have lt:∀x∈q,vis.idxOf x<vis.idxOf name:=(aaI.mp pw).1;have ch:∀b,b<2->Ch N r (au R b) (prs R b (name::q)).reverse:=λb hb=>by
  have one:∀e∈prs R b (name::q),par e.2=some e.1/\home R e.2=some b/\e.1∈q/\e.2∈vis:=λe he=>⟨B0 p e he,(n5 he).1,n8 he,hq _ (n5 he).2.2⟩;refine⟨λe he=>?_,List.pairwise_reverse.mpr (List.Pairwise.imp_of_mem (λ{c d} hc hd z=>?_) (Hw vis.idxOf pw))⟩
  ·obtain⟨e1,e2,e3,e4⟩:=one e (mem_reverse.mp he);obtain⟨_,_,a,ea,k1,k2,_⟩:=w.P0 _ e4 _ e1;rw[e2]at ea;cases ea;exact⟨sN _ (inS _ (Z5 _ e3)),k1,(gA e2).2,k2,(dn e.1 (hq _ (Z5 _ e3)) (lt _ e3) b hb k1).1⟩
  ·obtain⟨c1,c2,c3,c4⟩:=one c hc;obtain⟨d1,d2,d3,d4⟩:=one d hd;obtain⟨_,_,a,ea,k1,k2,k3⟩:=w.P0 _ c4 _ c1;rw[c2]at ea;cases ea;obtain⟨_,_,a,ea,k4,_⟩:=w.P0 _ d4 _ d1;rw[d2]at ea;cases ea;exact⟨k3 d.1 (hq _ (Z5 _ d3)) z.1 k4,λe=>by rw[e]at z;omega,λe=>by rw[e]at z;omega⟩
 have rowN:∀b,b<2->∀y∈au R b,y∈N:=λb hb y hy=>sN y (o.sub b hb y hy);have mr:∀b,b<2->∀z,z∈au (putL (name::q) R at') b↔((z∈au R b/\z∉(prs R b (name::q)).reverse.map (·.2))\/z∈(prs R b (name::q)).reverse.map (·.1))\/(z=name/\at'=b):=λb hb z=>by
  rw[m b hb z,BY hm,map_reverse,map_reverse,mem_reverse,mem_reverse,head?_cons,Option.some.injEq];have:z∈au R b->(z∉name::q↔z∉(prs R b (name::q)).map (·.2)):=λhz=>not_congr ⟨BZ hm ((kT o.ro hb).mpr hz),λk=>by
   obtain⟨e,he,ee⟩:=aaN.mp k;rw[<-show e.2=z from ee];exact(n5 he).2.2⟩
  constructor
  ·rintro(k|k|k)
   ·exact .inl (.inl ⟨k.1,(this k.1).mp k.2⟩)
   ·exact .inl (.inr k)
   ·exact .inr ⟨k.1.symm,k.2⟩
  ·rintro((k|k)|k)
   ·exact .inl ⟨k.1,(this k.1).mpr k.2⟩
   ·exact .inr (.inl k)
   ·exact .inr (.inr ⟨k.1.symm,k.2⟩)
 refine⟨q,p,nd,bG nd hq,hq,hm,⟨o',λb hb x hx=>?_,λb hb=>?_⟩,?_⟩
 ·rcases(m b hb x).mp hx with k|k
  ·exact o.sub b hb x k.1
  ·have:x∈(kU R (name::q) at').map (·.1):=aaN.mpr ⟨_,k,rfl⟩;rw[BV]at this;exact inS x this
 ·by_cases c:at'=b
  ·subst c
   have nf:name∉(prs R at' (name::q)).reverse.map (·.1):=λk=>by
    rw[map_reverse,mem_reverse]at k;obtain⟨e,he,ee⟩:=aaN.mp k;have:=lt _ (n8 he);rw[show e.1=name from ee]at this;omega
   have hfm:∀z,z∈((au (putL (name::q) R at') at').filter λz=>decide (z≠name))↔(z∈au R at'/\z∉(prs R at' (name::q)).reverse.map (·.2))\/z∈(prs R at' (name::q)).reverse.map (·.1):=λz=>by
    rw[aai,aaM,mr at' ha];constructor
    ·rintro⟨k|k,k2⟩
     ·exact k
     ·exact absurd k.1 k2
    ·intro k
     refine⟨.inl k,λe=>?_⟩;subst e
     rcases k with k|k
     ·exact na k.1
     ·exact nf k
   obtain⟨f,i,s⟩:=chain h hN _ (au R at') _ (o.ro.nd at') (rowN at' ha) (o.fr at' ha) (ch at' ha) ((o'.nd at').sublist aau) hfm;have nn:name∉(au (putL (name::q) R at') at').filter λz=>decide (z≠name):=λk=>by simpa using (aai.mp k).2
   have T4:=sN name (inS name aaa);have e1:=nY h hN (o'.nd at' |>.sublist (aau (p:=λz=>decide (z≠name)))) i;have st:=kR h hN (· ∈ (au (putL (name::q) R at') at').filter λz=>decide (z≠name)) T4;have ZC:¬ Cl N r (· ∈ (au (putL (name::q) R at') at').filter λz=>decide (z≠name)) name:=λk=>nc ((s name T4).mp k);have ml:∀z,z∈au (putL (name::q) R at') at'↔z∈((au (putL (name::q) R at') at').filter λz=>decide (z≠name))++[name]:=λz=>by
    rw[bw,aai,aaM];constructor
    ·intro k
     by_cases e:z=name
     ·exact .inr e
     ·exact .inl ⟨k,e⟩
    ·rintro(k|rfl)
     ·exact k.1
     ·exact(mr at' ha _).mpr (.inr ⟨rfl,rfl⟩)
   have nl:=fT ((o'.nd at').sublist aau) nn;have e2:lX N r (ins (· ∈ (au (putL (name::q) R at') at').filter λz=>decide (z≠name)) name)=r (au (putL (name::q) R at') at'):=gZ h hN (o'.nd at') (λy hy=>by
    rcases(bw y).mp ((ml y).mp hy) with k|k
    ·exact i y k
    ·rw[k];exact T4) λy=>by
    rw[ml y,bw];exact⟨λk=>⟨k.elim (i y) λe=>e▸T4,k⟩,λk=>k.2⟩
   have ll:=jq (o'.nd at') nl ml;rw[aag,aaT]at ll;unfold Cl at ZC;omega
  ·exact(chain h hN _ (au R b) _ (o.ro.nd b) (rowN b hb) (o.fr b hb) (ch b hb) (o'.nd b) λz=>by
    rw[mr b hb z];exact⟨λk=>k.elim id λk=>absurd k.2 c,.inl⟩).1
 ·rw[BX _ _ _ o.ro nd ha,vf hm]
open Classical in
theorem most(hS:S.Nodup)(o:PO N r S F)(V:Pd):(tot F:Int)<=(S.filter λx=>decide (¬ V x)).length+2*lX N r V:=by
 have part:∀b,b<2->((au F b).length:Int)<=((au F b).filter λx=>decide (¬ V x)).length+lX N r V:=λb hb=>by
  have e:(au F b).length=((au F b).filter λx=>decide (V x)).length+((au F b).filter λx=>decide (¬ V x)).length:=by
   have:=List.length_eq_countP_add_countP (λx=>decide (V x)) (l:=au F b);rw[List.countP_eq_length_filter,List.countP_eq_length_filter]at this;rw[this]
   congr 2
   exact filter_congr λx _=>by by_cases c:V x<;>simp[c]
  have nf:((au F b).filter λx=>decide (V x)).Nodup:=(o.ro.nd b).sublist aau;have hs:∀y∈(au F b).filter λx=>decide (V x),y∈au F b:=λy hy=>(aai.mp hy).1;have iN:∀y∈au F b,y∈N:=λy hy=>sN y (o.sub b hb y hy);have f:=nX h (o.ro.nd b) iN nf hs (o.fr b hb);have e2:=nY h hN nf λy hy=>iN y (hs y hy);have e3:=nZ h hN (S:=(· ∈ (au F b).filter λx=>decide (V x))) (T:=V) λy hy=>aar (aai.mp hy).2;omega
 have two:((au F 0).filter λx=>decide (¬ V x)).length+((au F 1).filter λx=>decide (¬ V x)).length<=(S.filter λx=>decide (¬ V x)).length:=by
  rw[<-aag];refine bG ?_ λx hx=>?_
  ·rw[aaH];exact⟨(o.ro.nd 0).sublist aau,(o.ro.nd 1).sublist aau,λa ha b hb e=>o.ro.dj a (aai.mp ha).1 (by rw[e];exact(aai.mp hb).1)⟩
  ·rcases aat.mp hx with k|k
   ·have:=aai.mp k;exact aai.mpr ⟨o.sub 0 (by omega) x this.1,this.2⟩
   ·have:=aai.mp k;exact aai.mpr ⟨o.sub 1 (by omega) x this.1,this.2⟩
 have p0:=part 0 (by omega);have p1:=part 1 (by omega);have et:tot F=(au F 0).length+(au F 1).length:=rfl;omega
open Classical in
theorem bar(hS:S.Nodup)(o:PO N r S R)(w:vh N r S R vis par)(dn:∀u∈vis,∀a,a<2->Dq N r R vis u a):(tot R:Int)=(S.filter λx=>decide (x∉vis)).length+2*lX N r (· ∈ vis):=by
 have iN:∀b,b<2->∀y∈au R b,y∈N:=λb hb y hy=>sN y (o.sub b hb y hy);have part:∀b,b<2->((au R b).length:Int)=((au R b).filter λx=>decide (x∉vis)).length+lX N r (· ∈ vis):=λb hb=>by
  have e:(au R b).length=((au R b).filter λx=>decide (x∈vis)).length+((au R b).filter λx=>decide (x∉vis)).length:=by
   have:=List.length_eq_countP_add_countP (λx=>decide (x∈vis)) (l:=au R b);rw[List.countP_eq_length_filter,List.countP_eq_length_filter]at this;rw[this]
   congr 2
   exact filter_congr λx _=>by by_cases c:x∈vis<;>simp[c]
  have nf:((au R b).filter λx=>decide (x∈vis)).Nodup:=(o.ro.nd b).sublist aau;have f:=nX h (o.ro.nd b) (iN b hb) nf (λy hy=>(aai.mp hy).1) (o.fr b hb);have e2:lX N r (λy=>y∈au R b/\y∈vis)=r ((au R b).filter λx=>decide (x∈vis)):=gZ h hN nf (λy hy=>iN b hb y (aai.mp hy).1) λy=>by
   rw[aai,aaM];exact⟨λk=>⟨iN b hb y k.1,k⟩,λk=>k.2⟩
  have e3:=zk h hN (S:=λy=>y∈au R b/\y∈vis) (T:=(· ∈ vis)) λy hy k=>by
   by_cases c:y∈au R b
   ·exact .of ⟨c,k⟩
   ·obtain⟨d1,d2⟩:=dn y k b hb c;exact KN h hN (o.ro.nd b) (iN b hb) (o.fr b hb) hy d1 λx hx nx=>byContradiction λz=>nx (d2 x hx z)
  have e4:lX N r (λy=>(y∈au R b/\y∈vis)\/y∈vis)=lX N r (· ∈ vis):=ju λy _=>⟨λk=>k.elim (·.2) id,.inr⟩;omega
 have two:((au R 0).filter λx=>decide (x∉vis)).length+((au R 1).filter λx=>decide (x∉vis)).length=(S.filter λx=>decide (x∉vis)).length:=by
  rw[<-aag];refine jq ?_ (hS.sublist aau) λx=>?_
  ·rw[aaH];exact⟨(o.ro.nd 0).sublist aau,(o.ro.nd 1).sublist aau,λa ha b hb e=>o.ro.dj a (aai.mp ha).1 (by rw[e];exact(aai.mp hb).1)⟩
  ·rw[aat,aai,aai,aai]
   constructor
   ·rintro(k|k)
    ·exact⟨o.sub 0 (by omega) x k.1,k.2⟩
    ·exact⟨o.sub 1 (by omega) x k.1,k.2⟩
   ·rintro⟨k1,k2⟩
    have nv:x∉vis:=aar k2;cases e:home R x with
    |none=>exact absurd (w.bI x k1 e) nv
    |some a=>
     obtain⟨a1,a2⟩:=gA e;have:a=0\/a=1:=by omega
     rcases this with rfl|rfl
     ·exact .inl ⟨a2,k2⟩
     ·exact .inr ⟨a2,k2⟩
 have p0:=part 0 (by omega);have p1:=part 1 (by omega);have et:tot R=(au R 0).length+(au R 1).length:=rfl;omega
end
end K34
end
section
open PySem L2 Hv
namespace K34
abbrev NF(m:Str):Prop:=m ≠ "net" /\ m ≠ "places" /\ m ≠ "ends" /\ m ≠ "whole"
def aN(κ:Nat)(p q:Int)(ts:List T3):Val:=if κ = 2 then jn 2 p q ts (lK p q ts (nms ts)) else lW κ p q ts
theorem Hx{κ:Nat}{p q:Int}{ts:List T3}{m:Str}{js:List (Nat×Nat)}{j:Nat}(hj:js.lookup κ = some j)(h:NF m):lE [] (aN κ p q ts) m js=some j:=by
 unfold aN
 split
 ·rename_i e;subst e;exact tH hj h
 ·exact GV hj h
theorem Pb{κ:Nat}(hk:κ < 3){p q:Int}(ok:bu p q ts):Hg (aN κ p q ts) p q ts:=by
 unfold aN
 split
 ·exact wI (by decide) ok
 ·exact wH hk ok
theorem sub_len{p q:Int}(ok:bu p q ts){P:List Int}(hn:P.Nodup)(hP:∀x∈P,x∈nms ts):P.length<=15:=aaD (bG hn hP) (iB ok)
def Xh(κ:Nat):Nat:=if κ = 0 then 15 else if κ = 1 then 16 else 17
theorem Pc{Ψ:Nat->List Val->Pr FV}(h0:Ψ 15=gc)(h1:Ψ 16=cW)(h2:Ψ 17=cK){κ:Nat}(hk:κ < 3){p q:Int}{ts:List T3}(ok:bu p q ts){P:List Int}(hP:∀x∈P,x∈nms ts)(hl:P.length<=15):Ψ (Xh κ) [aN κ p q ts,.rl (P.map .int)]=.ok (true,.int (eO κ p q ts P)):=by
 match κ,hk with
 |0,_=>show Ψ 15 _=_;rw[h0];unfold gc fk;simp only[EV,length_map];rfl
 |1,_=>show Ψ 16 _=_;rw[h1];have e:=tK (o:=aN 1 p q ts) ok (Pb (by decide) ok) hP hl;have m:=Hx (κ:=1) (p:=p) (q:=q) (ts:=ts) (m:="tree_rank") (js:=[(0,10),(1,10),(2,10)]) (j:=10) rfl (by decide);unfold cW cH;simp only[EV,m,fR,e];rfl
 |2,_=>show Ψ 17 _=_;rw[h2];exact Ho (c:=2) (by decide) rfl rfl ok
theorem ZD{κ:Nat}(hk:κ < 3){p q:Int}{ts:List T3}:lE [] (aN κ p q ts) "rank" [(0,15),(1,16),(2,17)]=some (Xh κ):=by
 refine Hx ?_ (by decide)
 match κ,hk with
 |0,_=>rfl
 |1,_=>rfl
 |2,_=>rfl
theorem m3{κ:Nat}(hk:κ < 3){p q:Int}{ts:List T3}{m:Str}{j:Nat}(h:NF m):lE [] (aN κ p q ts) m [(0,j),(1,j),(2,j)]=some j:=by
 refine Hx ?_ h
 match κ,hk with
 |0,_=>rfl
 |1,_=>rfl
 |2,_=>rfl
theorem free_eq{κ:Nat}(hk:κ < 3){p q:Int}(ok:bu p q ts){P:List Int}(hP:∀x∈P,x∈nms ts)(hl:P.length<=15):dZ [aN κ p q ts,.rl (P.map .int)]=.ok (true,.bl (decide (eO κ p q ts P=(P.length:Int)))):=by
 have e:=Pc (Ψ:=ak As) jN ig iP hk ok hP hl;unfold dZ fu;simp only[EV,ZD hk,e,length_map]
theorem Hy{κ:Nat}(hk:κ < 3){p q:Int}(ok:bu p q ts):gW [.int (κ:Int),cF p q ts]=.ok (true,aN κ p q ts):=by
 have r0:wz [cF p q ts]=.ok (true,lW 0 p q ts):=tF qv nP ok;have r1:lA [cF p q ts]=.ok (true,lW 1 p q ts):=tF mO kP ok;have r2:nO [cF p q ts]=.ok (true,jn 2 p q ts (lK p q ts (nms ts))):=Hl (by decide) iL gX lH iM ok
 match κ,hk with
 |0,_=>have d1:decide (((0:Nat):Int)=1)=false:=rfl;have d2:decide (((0:Nat):Int)=2)=false:=rfl;unfold gW fP;simp only[EV,d1,d2,tw,r0];rfl
 |1,_=>have d1:decide (((1:Nat):Int)=1)=true:=rfl;unfold gW fP;simp only[EV,d1,nQ,r1];rfl
 |2,_=>have d1:decide (((2:Nat):Int)=1)=false:=rfl;have d2:decide (((2:Nat):Int)=2)=true:=rfl;unfold gW fP;simp only[EV,d1,d2,pJ,r2];rfl
theorem sorted_ints{l:List Int}(h:l.length<64):nC .sorted [.rl (l.map .int)]=.ok (true,.rl ((sortI l).map .int)):=by
 refine zd ?_;unfold dQ;rw[aab (by rw[Z9];exact h),ints_map]
end K34
end
section
open PySem L2 Hv
namespace K34
theorem aJ{m:List Nat}(h:bx Ψ m st env=.ok (.nx env')):aF Ψ m (.cons st r) env=aF Ψ m r env':=by
 rw[aF,h];rfl
theorem mQ{m:List Nat}(h:bx Ψ m st env=.ok (.rt p)):aF Ψ m (.cons st r) env=.ok (.rt p):=by
 rw[aF,h];rfl
theorem Hz{ms:List Nat}{i:Nat}{n:Nat}(h1:(yq (.one i) #[e] B&&(stored (.one i)).all λi=>!ms.contains i)=true)(h2:gP Ψ #[e] env=.ok [.int (n:Int)])(hn:n<=1000) :
  bx Ψ ms (.for (.one i) .range #[e] B) env=gu (λx env=>pb (pl (dU (.one i) x env)) λenv'=>aF Ψ ms B env') ((List.range n).map λi:Nat=>Val.int (0+(i:Int))) env:=by
 have hR:inR (n:Int)=true:=by unfold inR;simp only[and_eq_true,decide_eq_true_eq];omega
 rw[bx,h1,o8 rfl,h2,aX,Lr hR,dg,aX,Int.toNat_natCast]
theorem HD{ms:List Nat}{i:Nat}(h1:(yq (.one i) #[e] B&&(stored (.one i)).all λi=>!ms.contains i)=true)(h2:gP Ψ #[e] env=.ok [.rl vs]) :
  bx Ψ ms (.for (.one i) .seq #[e] B) env=gu (λx env=>pb (pl (dU (.one i) x env)) λenv'=>aF Ψ ms B env') vs env:=by
 rw[bx,h1,o8 rfl,h2,aX,jU,dg,aX]
theorem ic{ms:List Nat}{f:Bool}(h:Ah Ψ c env=.ok (f,.bl false)):bx Ψ ms (.iff c a .nil) env=.ok (.nx env):=by
 rw[bx,h,aX];show pb (pl (bW [] (.bl false))) _=_;rw[FG,dg,aX,aad Z3,aF]
theorem iC{ms:List Nat}{f:Bool}(h:Ah Ψ c env=.ok (f,.bl true)):bx Ψ ms (.iff c a b) env=aF Ψ ms a env:=by
 rw[bx,h,aX];show pb (pl (bW [] (.bl true))) _=_;rw[FG,dg,aX,aab rfl]
theorem KO{n:Nat}(hc:c env=.ok true)(hb:body env=.ok (.rt p)):mJ c body (n+1) env=.ok (.rt p):=by
 rw[mJ,hc,aX,aab rfl,hb,aX]
section
variable {κ:Nat} {p q:Int} {ts:List T3} {S:List Int} {R:gj}
theorem HE{N:List Int}(h:lJ N r)(hN:N.Nodup){P:List Int}(hp:P.Nodup)(hP:∀y∈P,y∈N)(f:r P=P.length){x:Int}(hx:x∈N)(nx:x∉P):(r (P++[x])=(P++[x]).length)↔¬ Cl N r (· ∈ P) x:=by
 have e1:=nY h hN hp hP;have e2:lX N r (ins (· ∈ P) x)=r (P++[x]):=gZ h hN (fT hp nx) (λy hy=>by
  rcases(bw y).mp hy with z|z
  ·exact hP y z
  ·rw[z];exact hx) λy=>by
  rw[bw];exact⟨λz=>⟨z.elim (hP y) λe=>e▸hx,z⟩,λz=>z.2⟩
 have s:=kR h hN (· ∈ P) hx;have l:((P++[x]).length:Int)=P.length+1:=by simp
 unfold Cl;constructor
 ·intro z w;omega
 ·intro z;omega
theorem KP{N:List Int}(h:lJ N r)(hN:N.Nodup){P:List Int}(hp:P.Nodup)(hP:∀y∈P,y∈N)(f:r P=P.length){x y:Int}(hx:x∈N)(nx:x∉P):(r ((P.filter λz=>!decide (z=y))++[x])=((P.filter λz=>!decide (z=y))++[x]).length)↔¬ Cl N r (del (· ∈ P) y) x:=by
 have hm:∀z,z∈(P.filter λz=>!decide (z=y))↔z∈P/\z≠y:=λz=>by rw[aai];simp
 have hn:(P.filter λz=>!decide (z=y)).Nodup:=hp.sublist aau;have ff:=nX h hp hP hn (λz hz=>((hm z).mp hz).1) f;rw[HE h hN hn (λz hz=>hP z ((hm z).mp hz).1) ff hx λz=>nx ((hm x).mp z).1];rw[show (λz=>z∈P.filter λz=>!decide (z=y))=del (· ∈ P) y from funext λz=>propext (hm z)]
open Classical in
def eB(N:List Int)(r:List Int->Int)(P:List Int)(x:Int):List Int:=P.filter λy=>decide (¬ Cl N r (del (· ∈ P) y) x)
theorem Dh(hk:κ < 3)(ok:bu p q ts){P:List Int}(hp:P.Nodup)(hP:∀y∈P,y∈nms ts)(f:eO κ p q ts P=P.length){x:Int}(hx:x∈nms ts)(nx:x∉P)(hl:P.length<=14) :
  ∃fl,fz [aN κ p q ts,.rl (P.map .int),.int x]=.ok (fl,.rl ((eB (nms ts) (eO κ p q ts) P x).map .int)):=by
 have h:=nW ok hk;have hN:=eu ok;unfold fz;show ∃fl,pb (aF (ak C7) [3] cI [some (.sh,aN κ p q ts),some (.sh,.rl (P.map .int)),some (.sh,.int x),none,none]) _=_;unfold cI;have z0:0<=sizeLine:=by decide
 rw[aJ (env':=[some (.sh,aN κ p q ts),some (.sh,.rl (P.map .int)),some (.sh,.int x),some (.ow,.rl []),none]) (by simp only[EV,z0]),aF,HD (vs:=P.map .int) rfl (by simp only[EV,aX])]
 repeat rw[sI]
 refine dX Val.int (λr:Pr FV=>∃fl,r=.ok (fl,.rl ((eB (nms ts) (eO κ p q ts) P x).map .int)))
  (λdone env=>∃c:Option (Mk×Val),env=[some (.sh,aN κ p q ts),some (.sh,.rl (P.map .int)),some (.sh,.int x),some (.ow,.rl ((done.filter λy=>open Classical in decide (¬ Cl (nms ts) (eO κ p q ts) (del (· ∈ P) y) x)).map .int)),c]) ?_ ?_ ?_
 ·exact⟨none,rfl⟩
 ·rintro pre y post env e ⟨c,rfl⟩
  have hy:y∈P:=by rw[e];simp
  have ZW:(pre.filter λy=>open Classical in decide (¬ Cl (nms ts) (eO κ p q ts) (del (· ∈ P) y) x)).length<=14:=by have:=length_filter_le (λy=>open Classical in decide (¬ Cl (nms ts) (eO κ p q ts) (del (· ∈ P) y) x)) pre;have:=congrArg length e;rw[aag,aaq]at this;omega
  have VG:((P.filter λz=>!decide (z=y))++[x]).length<=15:=by have:=length_filter_le (λz=>!decide (z=y)) P;rw[aag,aaT];omega
  have hin:∀z∈(P.filter λz=>!decide (z=y))++[x],z∈nms ts:=λz hz=>by
   rcases(bw z).mp hz with w|w
   ·exact hP z (aai.mp w).1
   ·rw[w];exact hx
  have ef:=free_eq hk ok hin VG;have m:=m3 hk (p:=p) (q:=q) (ts:=ts) (m:="free") (j:=18) (by decide);have sw:=KP h hN hp hP f (y:=y) hx nx;have z1:1<=sizeLine:=by decide
  have za:((P.filter λz=>!decide (z=y)).map Val.int).length+([.int x]:List Val).length<=sizeLine:=by rw[Z9];rw[aag] at VG;simp at VG |-;unfold sizeLine;omega
  have ea:(P.filter λz=>!decide (z=y)).map Val.int++[.int x]=((P.filter λz=>!decide (z=y))++[x]).map .int:=by rw[map_append];rfl
  have zl:((pre.filter λy=>open Classical in decide (¬ Cl (nms ts) (eO κ p q ts) (del (· ∈ P) y) x)).map Val.int).length<sizeLine:=by rw[Z9];unfold sizeLine;omega
  have hc:P.length<=100000:=by omega
  rw[bE,dg,aX];simp only[set_cons_succ,set_cons_zero];have et:Ah (ak C7) (.mth (!0) "free" [(0,18),(1,18),(2,18)] #[.bin .add (.comp ["each","other"] [none,some 4] (.one 0) .seq #[!1] (.cmp .ne (!0) (!1)) (!0)) (.lst #[!2])]) [some (.sh,aN κ p q ts),some (.sh,.rl (P.map .int)),some (.sh,.int x),some (.ow,.rl ((pre.filter λy=>open Classical in decide (¬ Cl (nms ts) (eO κ p q ts) (del (· ∈ P) y) x)).map .int)),some (.sh,.int y)]=.ok (true,.bl (decide (eO κ p q ts ((P.filter λz=>!decide (z=y))++[x])=(((P.filter λz=>!decide (z=y))++[x]).length:Int)))):=by
   generalize aN κ p q ts=O at *;simp only[EV,jU,jQ,length_map,hc];rw[jK Val.int Val.int (λz=>!decide (z=y)) P (λz hz=>by
    simp only[EV,bE]
    by_cases c:z=y<;>simp[c])]
   simp only[EV,z1,tG za,ea,m,jm,ef]
  by_cases c:Cl (nms ts) (eO κ p q ts) (del (· ∈ P) y) x
  ·rw[decide_eq_false λz=>(sw.mp z) c]at et;refine⟨_,?_,some (.sh,.int y),rfl⟩;rw[aJ (ic et),aF,filter_append];simp[c]
  ·rw[decide_eq_true (sw.mpr c)]at et;refine⟨_,?_,some (.sh,.int y),rfl⟩;rw[aJ ((iC et).trans ((aJ (env':=[some (.sh,aN κ p q ts),some (.sh,.rl (P.map .int)),some (.sh,.int x),some (.ow,.rl ((pre.filter λy=>open Classical in decide (¬ Cl (nms ts) (eO κ p q ts) (del (· ∈ P) y) x)).map .int++[.int y])),some (.sh,.int y)]) (by simp only[EV,zl])).trans (by rw[aF]))),aF,filter_append];simp[c]
 ·rintro env ⟨c,rfl⟩;refine⟨bH ((eB (nms ts) (eO κ p q ts) P x).map .int),?_⟩;unfold eB;simp only[EV,aX]
theorem B3(y:Int):∃f,lC [cR R,.int y]=.ok (f,pD (home R y)):=by
 unfold lC;show ∃f,pb (aF (ak Kv) [] fQ [some (.sh,cR R),some (.sh,.int y),none]) _=_;unfold fQ home;rw[aF,Hz (n:=2) rfl (by simp only[EV,aX];rfl) (by decide)];show ∃f,pb (pb (gu _ (Val.int (0+((0:Nat):Int))::Val.int (0+((1:Nat):Int))::[]) _) _) _=_;rw[show (0:Int)+((0:Nat):Int)=0 from rfl,show (0:Int)+((1:Nat):Int)=1 from rfl];rw[gu,bE,dg,aX];simp only[set_cons_succ,set_cons_zero]
 by_cases c0:y∈R.1
 ·rw[aab c0,mQ ((iC (f:=true) (by simp only[EV,di sL,sM,c0,decide_true])).trans (mQ (p:=(true,.int 0)) (by simp only[EV,aX])))];exact⟨_,rfl⟩
 ·rw[aad c0,aJ (ic (f:=true) (by simp only[EV,di sL,sM,c0,decide_false])),aF,aX]
  try dsimp only
  rw[gu,bE,dg,aX];simp only[set_cons_succ,set_cons_zero]
  by_cases c1:y∈R.2
  ·rw[aab c1,mQ ((iC (f:=true) (by simp only[EV,di o9,sM,c1,decide_true])).trans (mQ (p:=(true,.int 1)) (by simp only[EV,aX])))];exact⟨_,rfl⟩
  ·rw[aad c1,aJ (ic (f:=true) (by simp only[EV,di o9,sM,c1,decide_false])),aF,aX]
   try dsimp only
   rw[gu,aX];simp only[EV,aX];exact⟨_,rfl⟩
end
end K34
end
section
open PySem L2 Hv
namespace K34
section
variable {N S vis:List Int} {r:List Int->Int} {R:gj} {par:Int->Option Int}
open Classical in
theorem mem_push{P:List Int}{x y:Int}:y∈eB N r P x↔y∈P/\¬ Cl N r (del (· ∈ P) y) x:=by unfold eB;rw[aai,aaM]
def news(vis P:List Int):List Int:=P.filter λy=>!decide (y∈vis)
def mR(vis P:List Int)(par:Int->Option Int)(x:Int):Int->Option Int:=λv=>if v∈P/\v∉vis then some x else par v
theorem jv{P:List Int}{y:Int}:y∈news vis P↔y∈P/\y∉vis:=by unfold news;rw[aai];simp
theorem fW{P:List Int}{y:Int}(h:y∈vis):(vis++P).idxOf y=vis.idxOf y:=by rw[List.idxOf_append,aab h]
theorem wR{P:List Int}{y:Int}(h:y∉vis):vis.length<=(vis++P).idxOf y:=by rw[List.idxOf_append,aad h];omega
theorem Dq.more{HF:List Int}(s:∀y∈vis,y∈HF){u:Int}{a:Nat}(d:Dq N r R vis u a):Dq N r R HF u a:=λhu=>⟨(d hu).1,λy hy c=>s y ((d hu).2 y hy c)⟩
theorem vh.grow(o:PO N r S R)(w:vh N r S R vis par){x:Int}{a:Nat}(ha:a<2)(hx:x∈vis)(nx:x∉au R a)(dn:∀u∈vis,vis.idxOf u<vis.idxOf x->∀b,b<2->Dq N r R vis u b) :
  vh N r S R (vis++news vis (eB N r (au R a) x)) (mR vis (eB N r (au R a) x) par x):=by
 have pm:∀v,v∈eB N r (au R a) x↔v∈au R a/\¬ Cl N r (del (· ∈ au R a) v) x:=λv=>mem_push;have ix:vis.idxOf x<vis.length:=idxOf_lt_length_iff.mpr hx;refine⟨?_,λv hv=>?_,λv hv hh=>aas _ (w.bI v hv hh),λv hv e=>?_,λv hv u e=>?_⟩
 ·rw[aaH];refine⟨w.nd,?_,λy hy z hz e=>(jv.mp hz).2 (e▸hy)⟩;unfold news eB;exact(o.ro.nd a).sublist (aau.trans aau)
 ·rcases aat.mp hv with q|q
  ·exact w.sub v q
  ·exact o.sub a ha v ((pm v).mp (jv.mp q).1).1
 ·unfold mR at e
  rcases aat.mp hv with q|q
  ·rw[aad λz=>z.2 q]at e;exact w.non v q e
  ·rw[aab (jv.mp q)]at e;cases e
 ·unfold mR at e
  have low:∀u'∈vis++news vis (eB N r (au R a) x),(vis++news vis (eB N r (au R a) x)).idxOf u'<vis.length->u'∈vis:=λu' _ hl=>byContradiction λn=>by
   have:=wR (P:=news vis (eB N r (au R a) x)) n;omega
  rcases aat.mp hv with q|q
  ·rw[aad λz=>z.2 q]at e;obtain⟨k1,k2,b,k3,k4,k5,k6⟩:=w.P0 v q u e;refine⟨aas _ k1,by rw[fW q,fW k1];exact k2,b,k3,k4,k5,λu' K7 hl hn=>?_⟩;rw[fW k1]at hl;have:=idxOf_lt_length_iff.mpr k1;have hv':=low u' K7 (by omega);rw[fW hv']at hl;exact k6 u' hv' hl hn
  ·obtain⟨q1,q2⟩:=jv.mp q;rw[aab ⟨q1,q2⟩]at e;cases e;obtain⟨p1,p2⟩:=(pm v).mp q1;refine⟨aas _ hx,by rw[fW hx];have:=wR (P:=news vis (eB N r (au R a) x)) q2;omega,a,(kT o.ro ha).mpr p1,nx,p2,λu' K7 hl hn=>?_⟩;rw[fW hx]at hl;have hv':=low u' K7 (by omega);rw[fW hv']at hl;exact byContradiction λc=>q2 ((dn u' hv' hl a ha hn).2 v p1 c)
theorem KQ{x:Int}{a:Nat}(c:Cl N r (· ∈ au R a) x):Dq N r R (vis++news vis (eB N r (au R a) x)) x a:=λ_=>⟨c,λy hy n=>by
 by_cases hv:y∈vis
 ·exact aas _ hv
 ·refine aaA _ (jv.mpr ⟨?_,hv⟩);exact mem_push.mpr ⟨hy,n⟩⟩
end
def cY(par:Int->Option Int)(v:Int):Val:=match par v with
 |none=>.non
 |some u=>.int u
def T5:dP:=#[.iff (.and (.cmp .nin (!4) (.idx (!2) (¬0))) (.cmp .nin (!4) (.idx (!2) (¬1)))) #[.fD (!3) (!4) (.cst .non)] .nil]
def T6:dP:=#[.iff (.cmp .nin (!7) (!3)) #[.fD (!3) (!7) (!4),.expr (.met .append (!5) #[!7])] .nil]
def VH:IE:=(.mth (!0) "free" [(0,18),(1,18),(2,18)] #[.bin .add (.idx (!2) (!6)) (.lst #[!4])])
def Pe:dP:=#[.iff (.cmp .wX (!4) (.idx (!2) (!6))) #[.cnt] .nil,.iff VH #[.ret (.tup #[!3,!4,!6])] .nil,.for (.one 7) .seq #[.call 19 #[!0,.idx (!2) (!6),!4]] T6]
def wB:dP:=#[.asg (.one 4) (.met .pop (!5) #[¬0]),.for (.one 6) .range #[¬2] Pe]
def wC:IE:=(.cmp .gt (.blt .len #[!5]) (¬0))
theorem Pf:gE=.cons (.asg (.one 3) .dct0) #[.for (.one 4) .seq #[!1] T5,.asg (.one 5) (.lkeys (!3)),.whl 100000 wC wB,.ret (.tup #[!3,.cst .non,.cst .non])]:=rfl
abbrev MS:List Nat:=[3,5,3,5]
abbrev Sl:=Option (Mk×Val)
abbrev wE(O:Val)(S:List Int)(R:gj)(vis:List Int)(par:Int->Option Int)(ws:List Int)(c4 c6 c7:Sl):bB:=[some (.sh,O),some (.sh,.rl (S.map .int)),some (.sh,cR R),some (.ow,jG vis (cY par)),c4,some (.ow,.rl (ws.map .int)),c6,c7]
theorem Pg{a:Nat}(ha:a<2):mD [] (cR R) (.int (a:Int))=some (.rl ((au R a).map .int)):=by
 have:a=0\/a=1:=by omega
 rcases this with rfl|rfl<;>rfl
theorem HG{xs:List Int}{x:Int}:cop [] .nin (.int x) (jG xs g)=some (!decide (x∈xs)):=by
 show (cop [] .wX (.int x) (jG xs g)).map _=_;rw[SE];rfl
section
variable {κ:Nat} {p q:Int} {ts:List T3} {S:List Int} {R:gj} {O:Val}
theorem Di{vis:List Int}{x:Int}{P ws:List Int}(hP:P.Nodup)(hl:vis.length+P.length<=60)(hw:ws.length+P.length<=60){c6:Sl}:∀c7:Sl,∃HX:Sl,
  gu (λv env=>pb (pl (dU (.one 7) v env)) λenv'=>aF (ak cX) MS T6 env') (P.map .int) (wE O S R vis par ws (some (.sh,.int x)) c6 c7)=.ok (.nx (wE O S R (vis++news vis P) (mR vis P par x) (ws++news vis P) (some (.sh,.int x)) c6 HX)):=by
 intro c7;obtain⟨env',e,c,he⟩:=ly Val.int (body:=λv env=>pb (pl (dU (.one 7) v env)) λenv'=>aF (ak cX) MS T6 env')
  (λdone env=>∃c:Sl,env=wE O S R (vis++news vis done) (mR vis done par x) (ws++news vis done) (some (.sh,.int x)) c6 c)
  P [] (wE O S R vis par ws (some (.sh,.int x)) c6 c7) ⟨c7,by unfold news mR;simp⟩ (by
  rintro pre y post env hx ⟨c,rfl⟩;have hx:P=pre++y::post:=hx;have hpl:pre.length<P.length:=by rw[hx,aag,aaq];omega
  have hnl:(news vis pre).length<=pre.length:=length_filter_le _ _;have ny:y∉pre:=λz=>by
   rw[hx,aaH]at hP;exact hP.2.2 y z y aaa rfl
  rw[bE,dg,aX];simp only[set_cons_succ,set_cons_zero];unfold T6
  by_cases hv:y∈vis
  ·have en:news vis (pre++[y])=news vis pre:=by unfold news;rw[filter_append];simp[hv]
   have ep:mR vis (pre++[y]) par x=mR vis pre par x:=funext λv=>by
    unfold mR
    by_cases c:v∈pre/\v∉vis
    ·rw[aab c,aab ⟨aas _ c.1,c.2⟩]
    ·rw[aad c,aad]
     rintro⟨k1,k2⟩
     rcases aat.mp k1 with k|k
     ·exact c ⟨k,k2⟩
     ·rw[aaj.mp k]at k2;exact k2 hv
   refine⟨_,?_,some (.sh,.int y),rfl⟩;rw[en,ep,aJ (ic (f:=true) (by simp only[EV,HG,List.mem_append_left _ hv,decide_true,Bool.not_true])),aF]
  ·have nn:y∉vis++news vis pre:=λz=>(aat.mp z).elim hv λz=>ny (jv.mp z).1
   have en:news vis (pre++[y])=news vis pre++[y]:=by unfold news;rw[filter_append];simp[hv]
   have zz:((vis++news vis pre).map (Sum.inl:Int->Key)).length<sizeLine:=by rw[Z9,aag];unfold sizeLine;omega
   have zw:((ws++news vis pre).map Val.int).length<sizeLine:=by rw[Z9,aag];unfold sizeLine;omega
   have pn:putD ((vis++news vis pre).map Sum.inl) ((vis++news vis pre).map (cY (mR vis pre par x))) (.inl y) (.int x)=jG (vis++(news vis pre++[y])) (cY (mR vis (pre++[y]) par x)):=by
    rw[wc nn,List.append_assoc];refine gD λv hv'=>?_;unfold ud cY mR
    by_cases c:v=y
    ·subst c;rw[aab rfl,aab ⟨by simp,hv⟩]
    ·rw[aad c]
     by_cases c2:v∈pre/\v∉vis
     ·rw[aab c2,aab ⟨aas _ c2.1,c2.2⟩]
     ·rw[aad c2,aad]
      rintro⟨k1,k2⟩
      rcases aat.mp k1 with k|k
      ·exact c2 ⟨k,k2⟩
      ·exact c (aaj.mp k)
   have ew:(ws++news vis pre).map Val.int++[.int y]=(ws++(news vis pre++[y])).map .int:=by simp only[map_append,List.append_assoc,map_cons,map_nil]
   refine⟨_,?_,some (.sh,.int y),rfl⟩;rw[en,aJ ((iC (f:=true) (by simp only[EV,HG,nn,decide_false,Bool.not_false])).trans ((aJ (env':=wE O S R (vis++(news vis pre++[y])) (mR vis (pre++[y]) par x) (ws++news vis pre) (some (.sh,.int x)) c6 (some (.sh,.int y))) (by simp only[EV,BF,zz,pn])).trans ((aJ (env':=wE O S R (vis++(news vis pre++[y])) (mR vis (pre++[y]) par x) (ws++(news vis pre++[y])) (some (.sh,.int x)) c6 (some (.sh,.int y))) (by simp only[EV,zw,ew])).trans (by rw[aF])))),aF])
 exact⟨c,by rw[e,he];rfl⟩
end
end K34
end
section
open PySem L2 Hv
namespace K34
section
variable {κ:Nat} {p q:Int} {ts:List T3} {S:List Int} {R:gj}
structure P1 (N:List Int) (r:List Int->Int) (S:List Int) (R:gj) (vis:List Int) (par:Int->Option Int) (x:Int) (k:Nat):Prop where
 v:vh N r S R vis par
 hx:x∈vis
 dn:∀u∈vis,vis.idxOf u<vis.idxOf x->∀a,a<2->Dq N r R vis u a
 now:∀a,a<k->Dq N r R vis x a
def P4(N:List Int)(r:List Int->Int)(S:List Int)(R:gj)(v:Val):Prop:=∃vis par x a,v=.tup [jG vis (cY par),.int x,.int ((a:Nat):Int)]/\vh N r S R vis par/\x∈vis/\a<2/\x∉au R a/\¬ Cl N r (· ∈ au R a) x/\∀u∈vis,vis.idxOf u<vis.idxOf x->∀b,b<2->Dq N r R vis u b
theorem n9(w:vh (nms ts) (eO κ p q ts) S R vis par)(sN:∀x∈S,x∈nms ts)(ok:bu p q ts):vis.length<=15:=aaD (bG w.nd λx hx=>sN x (w.sub x hx)) (iB ok)
theorem zm(hk:κ < 3)(ok:bu p q ts)(sN:∀x∈S,x∈nms ts)(o:PO (nms ts) (eO κ p q ts) S R){vis:List Int}{x:Int}{a:Nat}(ha:a<2)(st:P1 (nms ts) (eO κ p q ts) S R vis par x a){ws:List Int}(hw:ws.length<=15){c7:Sl} :
  (∃f v,P4 (nms ts) (eO κ p q ts) S R v/\aF (ak cX) MS Pe (wE (aN κ p q ts) S R vis par ws (some (.sh,.int x)) (some (.sh,.int (a:Int))) c7)=.ok (.rt (f,v))) \/
  ∃E par' HX,P1 (nms ts) (eO κ p q ts) S R (vis++E) par' x (a+1)/\(aF (ak cX) MS Pe (wE (aN κ p q ts) S R vis par ws (some (.sh,.int x)) (some (.sh,.int (a:Int))) c7)=.ok (.nx (wE (aN κ p q ts) S R (vis++E) par' (ws++E) (some (.sh,.int x)) (some (.sh,.int (a:Int))) HX))\/aF (ak cX) MS Pe (wE (aN κ p q ts) S R vis par ws (some (.sh,.int x)) (some (.sh,.int (a:Int))) c7)=.ok (.ct (wE (aN κ p q ts) S R (vis++E) par' (ws++E) (some (.sh,.int x)) (some (.sh,.int (a:Int))) HX))):=by
 have h:=nW ok hk;have hN:=eu ok;have ix:=Pg (R:=R) ha;have xN:=sN x (st.v.sub x st.hx);have rN:∀y∈au R a,y∈nms ts:=λy hy=>sN y (o.sub a ha y hy);have rn:=o.ro.nd a;unfold Pe
 by_cases c1:x∈au R a
 ·right
  refine⟨[],par,c7,?_,.inr ?_⟩
  ·rw[aaU]
   exact⟨st.v,st.hx,st.dn,λb hb=>by
    by_cases e:b=a
    ·rw[e];exact λz=>absurd c1 z
    ·exact st.now b (by omega)⟩
  ·rw[aaU,aaU]
   have e1:bx (ak cX) MS (.iff (.cmp .wX (!4) (.idx (!2) (!6))) #[.cnt] .nil) (wE (aN κ p q ts) S R vis par ws (some (.sh,.int x)) (some (.sh,.int (a:Int))) c7)=.ok (.ct (wE (aN κ p q ts) S R vis par ws (some (.sh,.int x)) (some (.sh,.int (a:Int))) c7)):=by generalize aN κ p q ts=O at *;rw[iC (f:=true) (by simp only[EV,ix,sM,c1,decide_true]),aF,bx];rfl
   rw[aF,e1];rfl
 ·have q1:bx (ak cX) MS (.iff (.cmp .wX (!4) (.idx (!2) (!6))) #[.cnt] .nil) (wE (aN κ p q ts) S R vis par ws (some (.sh,.int x)) (some (.sh,.int (a:Int))) c7)=.ok (.nx (wE (aN κ p q ts) S R vis par ws (some (.sh,.int x)) (some (.sh,.int (a:Int))) c7)):=by
   generalize aN κ p q ts=O at *;exact ic (f:=true) (by simp only[EV,ix,sM,c1,decide_false])
  rw[aJ q1];have hl:(au R a).length<=14:=by
   have:(au R a++[x]).length<=15:=aaD (bG (fT rn c1) λy hy=>by
    rcases(bw y).mp hy with z|z
    ·exact rN y z
    ·rw[z];exact xN) (iB ok)
   rw[aag,aaT]at this;omega
  have ef:=free_eq hk ok (P:=au R a++[x]) (λy hy=>by
    rcases(bw y).mp hy with z|z
    ·exact rN y z
    ·rw[z];exact xN) (by rw[aag,aaT];omega)
  have m:=m3 hk (p:=p) (q:=q) (ts:=ts) (m:="free") (j:=18) (by decide);have fa:=HE h hN rn rN (o.fr a ha) xN c1;have z1:1<=sizeLine:=by decide
  have z3:3<=sizeLine:=by decide
  have za:((au R a).map Val.int).length+([.int x]:List Val).length<=sizeLine:=by rw[Z9];simp;unfold sizeLine;omega
  have ea:(au R a).map Val.int++[.int x]=(au R a++[x]).map .int:=by rw[map_append];rfl
  have et:Ah (ak cX) VH (wE (aN κ p q ts) S R vis par ws (some (.sh,.int x)) (some (.sh,.int (a:Int))) c7)=.ok (true,.bl (decide (eO κ p q ts (au R a++[x])=((au R a++[x]).length:Int)))):=by generalize aN κ p q ts=O at *;unfold VH;simp only[EV,ix,z1,tG za,ea,m,lI,ef]
  by_cases c2:Cl (nms ts) (eO κ p q ts) (· ∈ au R a) x
  ·right
   rw[decide_eq_false λz=>(fa.mp z) c2]at et;obtain⟨fl,ep⟩:=Dh hk ok rn rN (o.fr a ha) xN c1 hl;have hvl:=n9 st.v sN ok;have pl:(eB (nms ts) (eO κ p q ts) (au R a) x).length<=14:=by unfold eB;exact aaD (length_filter_le _ _) hl
   have ZE:(eB (nms ts) (eO κ p q ts) (au R a) x).Nodup:=by unfold eB;exact rn.sublist aau
   have gr:=st.v.grow o ha st.hx c1 st.dn;have VI:=KQ (vis:=vis) c2;generalize eB (nms ts) (eO κ p q ts) (au R a) x=P at *;obtain⟨HX,el⟩:=Di (O:=aN κ p q ts) (S:=S) (R:=R) (vis:=vis) (par:=par) (x:=x) (P:=P) (ws:=ws) ZE (by omega) (by omega) (c6:=some (.sh,.int (a:Int))) c7;refine⟨news vis P,mR vis P par x,HX,⟨gr,aas _ st.hx,λu hu hi b hb=>?_,λb hb=>?_⟩,.inl ?_⟩
   ·rw[fW st.hx]at hi
    have:=idxOf_lt_length_iff.mpr st.hx;have hv:u∈vis:=byContradiction λn=>by have:=wR (P:=news vis P) n;omega
    rw[fW hv]at hi;exact(st.dn u hv hi b hb).more λy hy=>aas _ hy
   ·by_cases e:b=a
    ·rw[e];exact VI
    ·exact(st.now b (by omega)).more λy hy=>aas _ hy
   ·rw[aJ (ic et),aJ ((HD (vs:=P.map .int) rfl (by
     generalize aN κ p q ts=O at *;simp only[EV,ix,kQ,ep])).trans el),aF]
  ·left
   rw[decide_eq_true (fa.mpr c2)]at et;refine⟨false,.tup [jG vis (cY par),.int x,.int (a:Int)],⟨vis,par,x,a,rfl,st.v,st.hx,ha,c1,c2,st.dn⟩,mQ ((iC et).trans (mQ ?_))⟩;generalize aN κ p q ts=O at *;simp only[EV,z3]
end
end K34
end
section
open PySem L2 Hv
namespace K34
section
variable {κ:Nat} {p q:Int} {ts:List T3} {S:List Int} {R:gj}
theorem Ph{n:Nat}(hc:c env=.ok true)(hb:body env=.ok (.nx env')):mJ c body (n+1) env=mJ c body n env':=by
 rw[mJ,hc,aX,aab rfl,hb,aX]
theorem B4{x:Int}{k:Nat}{vis:List Int}(st:P1 (nms ts) (eO κ p q ts) S R vis par x k)(sN:∀x∈S,x∈nms ts)(ok:bu p q ts):vis.length<=15:=n9 st.v sN ok
theorem Dj(hk:κ < 3)(ok:bu p q ts)(sN:∀x∈S,x∈nms ts)(o:PO (nms ts) (eO κ p q ts) S R){vis:List Int}{x:Int}(st:P1 (nms ts) (eO κ p q ts) S R vis par x 0){ws:List Int}(hw:ws.length<vis.length){c4 c6 c7:Sl} :
  (∃f v,P4 (nms ts) (eO κ p q ts) S R v/\aF (ak cX) MS wB (wE (aN κ p q ts) S R vis par (x::ws) c4 c6 c7)=.ok (.rt (f,v))) \/
  ∃E par' d4 d6 d7,P1 (nms ts) (eO κ p q ts) S R (vis++E) par' x 2/\aF (ak cX) MS wB (wE (aN κ p q ts) S R vis par (x::ws) c4 c6 c7)=.ok (.nx (wE (aN κ p q ts) S R (vis++E) par' (ws++E) d4 d6 d7)):=by
 have q1:bx (ak cX) MS (.asg (.one 4) (.met .pop (!5) #[¬0])) (wE (aN κ p q ts) S R vis par (x::ws) c4 c6 c7)=.ok (.nx (wE (aN κ p q ts) S R vis par ws (some (.sh,.int x)) c6 c7)):=by rw[bx];rfl
 have l1:=B4 st sN ok;unfold wB;rw[aJ q1,aF,Hz (n:=2) rfl (by simp only[EV,aX];rfl) (by decide)];generalize hbd:(λ(x:Val) (env:bB)=>pb (pl (dU (.one 6) x env)) λenv'=>aF (ak cX) MS Pe env')=bd;have hb:∀(a:Nat) (vis ws:List Int) (par:Int->Option Int) (c6 c7:Sl),bd (.int (a:Int)) (wE (aN κ p q ts) S R vis par ws (some (.sh,.int x)) c6 c7)=aF (ak cX) MS Pe (wE (aN κ p q ts) S R vis par ws (some (.sh,.int x)) (some (.sh,.int (a:Int))) c7):=λa vis ws par c6 c7=>by
  subst hbd;dsimp only;rw[bE,dg,aX];rfl
 show (∃f v,_/\pb (gu bd (Val.int (0+((0:Nat):Int))::Val.int (0+((1:Nat):Int))::[]) _) _=_)\/∃E par' d4 d6 d7,_/\pb (gu bd (Val.int (0+((0:Nat):Int))::Val.int (0+((1:Nat):Int))::[]) _) _=_;rw[Int.zero_add,Int.zero_add,gu,hb 0]
 rcases zm hk ok sN o (a:=0) (by decide) st (ws:=ws) (by omega) (c7:=c7) with ⟨f,v,hit,e⟩|⟨E,Tf,HX,st1,e⟩
 ·left;exact⟨f,v,hit,by rw[e];rfl⟩
 ·have l2:=B4 st1 sN ok
  have go:∀VJ:Sl,(∃f v,P4 (nms ts) (eO κ p q ts) S R v/\gu bd [Val.int ((1:Nat):Int)] (wE (aN κ p q ts) S R (vis++E) Tf (ws++E) (some (.sh,.int x)) VJ HX)=.ok (.rt (f,v)))\/∃E' par' d4 d6 d7,P1 (nms ts) (eO κ p q ts) S R (vis++E') par' x 2/\gu bd [Val.int ((1:Nat):Int)] (wE (aN κ p q ts) S R (vis++E) Tf (ws++E) (some (.sh,.int x)) VJ HX)=.ok (.nx (wE (aN κ p q ts) S R (vis++E') par' (ws++E') d4 d6 d7)):=λVJ=>by
   rw[gu,hb 1]
   rcases zm hk ok sN o (a:=1) (by decide) st1 (ws:=ws++E) (by rw[aag]at l2 |-;omega) (c7:=HX) with ⟨f,v,hit,e⟩|⟨E2,VL,VM,st2,e⟩
   ·left;exact⟨f,v,hit,by rw[e];rfl⟩
   ·right
    rw[List.append_assoc]at st2;refine⟨E++E2,VL,some (.sh,.int x),some (.sh,.int ((1:Nat):Int)),VM,st2,?_⟩;rw[List.append_assoc,List.append_assoc]at e
    rcases e with e|e<;>(rw[e];rfl)
  rcases go (some (.sh,.int ((0:Nat):Int))) with ⟨f,v,hit,e2⟩|⟨E',par',d4,d6,d7,st2,e2⟩
  ·left
   refine⟨f,v,hit,?_⟩
   rcases e with e|e<;>(rw[e,aX];dsimp only;rw[e2];rfl)
  ·right
   refine⟨E',par',d4,d6,d7,st2,?_⟩
   rcases e with e|e<;>(rw[e,aX];dsimp only;rw[e2,aX];show aF _ _ .nil _=_;rw[aF])
def End(N:List Int)(r:List Int->Int)(S:List Int)(R:gj)(vis:List Int)(par:Int->Option Int):Prop:=vh N r S R vis par/\∀u∈vis,∀a,a<2->Dq N r R vis u a
theorem zo(hk:κ < 3)(ok:bu p q ts)(sN:∀x∈S,x∈nms ts)(o:PO (nms ts) (eO κ p q ts) S R):∀(m n i:Nat) (vis:List Int) (par:Int->Option Int) (c4 c6 c7:Sl),15-i<m->m<=n->i<=vis.length->vh (nms ts) (eO κ p q ts) S R vis par->(∀u∈vis,vis.idxOf u<i->∀a,a<2->Dq (nms ts) (eO κ p q ts) R vis u a) ->
  (∃f v,P4 (nms ts) (eO κ p q ts) S R v/\mJ (λenv=>pb (Ah (ak cX) wC env) λx=>pl (bW [] x.2)) (aF (ak cX) MS wB) n (wE (aN κ p q ts) S R vis par (vis.drop i) c4 c6 c7)=.ok (.rt (f,v))) \/
  ∃HF par' d4 d6 d7,End (nms ts) (eO κ p q ts) S R HF par'/\mJ (λenv=>pb (Ah (ak cX) wC env) λx=>pl (bW [] x.2)) (aF (ak cX) MS wB) n (wE (aN κ p q ts) S R vis par (vis.drop i) c4 c6 c7)=.ok (.nx (wE (aN κ p q ts) S R HF par' [] d4 d6 d7))
 |0,n,i,vis,par,c4,c6,c7,hm,_,_,_,_=>absurd hm (not_lt_zero _)
 |m+1,0,i,vis,par,c4,c6,c7,_,hn,_,_,_=>absurd hn (Nat.not_succ_le_zero _)
 | m+1,n+1,i,vis,par,c4,c6,c7,hm,hn,hi,w,dn=>by
  have lv:=n9 w sN ok
  rcases Nat.lt_or_ge i vis.length with hlt|hge
  ·have hd:=List.drop_eq_getElem_cons hlt
   have ex:vis.idxOf vis[i]=i:=w.nd.idxOf_getElem i hlt;have hx:vis[i]∈vis:=List.getElem_mem hlt;have hc:(λenv=>pb (Ah (ak cX) wC env) λx=>pl (bW [] x.2)) (wE (aN κ p q ts) S R vis par (vis[i]::vis.drop (i+1)) c4 c6 c7)=.ok true:=by
    generalize aN κ p q ts=O at *;unfold wC;have:((((vis.drop (i+1)).length+1:Nat):Int)>0)=True:=by simp only[gt_iff_lt,eq_iff_iff,iff_true];omega
    simp only[EV,length_map,length_cons,this,decide_true]
   rw[hd]
   rcases Dj hk ok sN o (vis:=vis) (par:=par) (x:=vis[i]) ⟨w,hx,λu hu hl=>dn u hu (by rw[ex]at hl;exact hl),λa ha=>absurd ha (not_lt_zero _)⟩ (ws:=vis.drop (i+1)) (by rw[length_drop];omega) (c4:=c4) (c6:=c6) (c7:=c7) with ⟨f,v,hit,e⟩|⟨E,par',d4,d6,d7,st,e⟩
   ·left;exact⟨f,v,hit,KO hc e⟩
   ·have ed:(vis++E).drop (i+1)=vis.drop (i+1)++E:=List.drop_append_of_le_length (by omega)
    have step:mJ (λenv=>pb (Ah (ak cX) wC env) λx=>pl (bW [] x.2)) (aF (ak cX) MS wB) (n+1) (wE (aN κ p q ts) S R vis par (vis[i]::vis.drop (i+1)) c4 c6 c7)=mJ (λenv=>pb (Ah (ak cX) wC env) λx=>pl (bW [] x.2)) (aF (ak cX) MS wB) n (wE (aN κ p q ts) S R (vis++E) par' ((vis++E).drop (i+1)) d4 d6 d7):=by rw[ed];exact Ph hc e
    rw[step];refine zo hk ok sN o m n (i+1) (vis++E) par' d4 d6 d7 (by omega) (by omega) (by rw[aag];omega) st.v λu hu hl a ha=>?_;have ex':(vis++E).idxOf vis[i]=i:=by rw[fW hx,ex]
    by_cases c:(vis++E).idxOf u<i
    ·exact st.dn u hu (by rw[ex'];exact c) a ha
    ·have ei:(vis++E).idxOf u=i:=by omega
     have ZF:=idxOf_lt_length_iff.mpr hu;have e1:=List.getElem_idxOf ZF;have:u=vis[i]:=by rw[<-e1];simp only[ei];rw[List.getElem_append_left hlt]
     rw[this];exact st.now a ha
  ·right
   have ed:vis.drop i=[]:=List.drop_eq_nil_of_le hge;refine⟨vis,par,c4,c6,c7,⟨w,λu hu a ha=>dn u hu (by have:=idxOf_lt_length_iff.mpr hu;omega) a ha⟩,?_⟩;rw[ed];refine FI ?_;generalize aN κ p q ts=O at *;unfold wC;simp only[EV,map_nil,length_nil];rfl
end
end K34
end
section
open PySem L2 Hv
namespace K34
section
variable {κ:Nat} {p q:Int} {ts:List T3} {S:List Int} {R:gj}
def dh(S:List Int)(R:gj):List Int:=S.filter λy=>!decide (y∈R.1) && !decide (y∈R.2)
theorem qM{y:Int}:y∈dh S R↔y∈S/\home R y=none:=by
 unfold dh home;rw[aai]
 by_cases c1:y∈R.1<;>by_cases c2:y∈R.2<;>simp[c1,c2]
theorem KR(hn:S.Nodup)(hl:S.length<=15) :
  ∃c4:Sl,aF (ak cX) MS (.cons (.asg (.one 3) .dct0) (.cons (.for (.one 4) .seq #[!1] T5) (.cons (.asg (.one 5) (.lkeys (!3))) T))) [some (.sh,O),some (.sh,.rl (S.map .int)),some (.sh,cR R),none,none,none,none,none]=aF (ak cX) MS T (wE O S R (dh S R) (λ_=>none) (dh S R) c4 none none):=by
 have q1:bx (ak cX) MS (.asg (.one 3) .dct0) [some (.sh,O),some (.sh,.rl (S.map .int)),some (.sh,cR R),none,none,none,none,none]=.ok (.nx [some (.sh,O),some (.sh,.rl (S.map .int)),some (.sh,cR R),some (.ow,jG [] (cY λ_=>none)),none,none,none,none]):=by simp only[EV,aX];rfl
 rw[aJ q1];obtain⟨env',e,c4,he⟩:=ly Val.int (body:=λx env=>pb (pl (dU (.one 4) x env)) λenv'=>aF (ak cX) MS T5 env')
  (λdone env=>∃c4:Sl,env=[some (.sh,O),some (.sh,.rl (S.map .int)),some (.sh,cR R),some (.ow,jG (dh done R) (cY λ_=>none)),c4,none,none,none])
  S [] [some (.sh,O),some (.sh,.rl (S.map .int)),some (.sh,cR R),some (.ow,jG [] (cY λ_=>none)),none,none,none,none] ⟨none,rfl⟩ (by
   rintro pre y post env hx ⟨c,rfl⟩;have hx:S=pre++y::post:=hx;have hpl:(dh pre R).length<=15:=by have:(dh pre R).length<=pre.length:=length_filter_le _ _;have:=congrArg length hx;rw[aag,aaq]at this;omega
   have hnew:y∉dh pre R:=λz=>by
    rw[hx,aaH]at hn;exact hn.2.2 y (qM.mp z).1 y (by simp) rfl
   have zz:((dh pre R).map (Sum.inl:Int->Key)).length<sizeLine:=by rw[Z9];unfold sizeLine;omega
   have pn:putD ((dh pre R).map Sum.inl) ((dh pre R).map (cY λ_=>none)) (.inl y) .non=jG (dh pre R++[y]) (cY λ_=>none):=by rw[wc hnew];exact gD λz _=>by unfold ud cY;split<;>rfl
   rw[bE,dg,aX];simp only[set_cons_succ,set_cons_zero];unfold T5
   by_cases c1:y∈R.1
   ·refine⟨_,?_,some (.sh,.int y),rfl⟩
    have en:dh (pre++[y]) R=dh pre R:=by unfold dh;rw[filter_append];simp[c1]
    rw[en,aJ (ic (f:=true) (by simp only[EV,di sL,di o9,we,c1,decide_true,Bool.not_true])),aF]
   ·by_cases c2:y∈R.2
    ·refine⟨_,?_,some (.sh,.int y),rfl⟩
     have en:dh (pre++[y]) R=dh pre R:=by unfold dh;rw[filter_append];simp[c2]
     rw[en,aJ (ic (f:=true) (by simp only[EV,di sL,di o9,we,c1,c2,decide_true,decide_false,Bool.not_true,Bool.not_false])),aF]
    ·refine⟨_,?_,some (.sh,.int y),rfl⟩
     have en:dh (pre++[y]) R=dh pre R++[y]:=by unfold dh;rw[filter_append];simp[c1,c2]
     have e1:bx (ak cX) MS (.fD (!3) (!4) (.cst .non)) [some (.sh,O),some (.sh,.rl (S.map .int)),some (.sh,cR R),some (.ow,jG (dh pre R) (cY λ_=>none)),some (.sh,.int y),none,none,none]=.ok (.nx [some (.sh,O),some (.sh,.rl (S.map .int)),some (.sh,cR R),some (.ow,jG (dh pre R++[y]) (cY λ_=>none)),some (.sh,.int y),none,none,none]):=by simp only[EV,BF,zz,pn]
     rw[en,aJ ((iC (f:=true) (by simp only[EV,di sL,di o9,we,c1,c2,decide_false,Bool.not_false])).trans ((aJ e1).trans (by rw[aF]))),aF])
 rw[aJ ((HD rfl (by simp only[EV,aX])).trans (e.trans (by rw[he])))];have ky:pV [] (jG (dh S R) (cY λ_=>none))=some ((dh S R).map Sum.inl):=rfl;have kv:((dh S R).map (Sum.inl:Int->Key)).map Et=(dh S R).map Val.int:=by rw[aaP];rfl
 have q3:bx (ak cX) MS (.asg (.one 5) (.lkeys (!3))) [some (.sh,O),some (.sh,.rl (S.map .int)),some (.sh,cR R),some (.ow,jG (dh S R) (cY λ_=>none)),c4,none,none,none]=.ok (.nx (wE O S R (dh S R) (λ_=>none) (dh S R) c4 none none)):=by simp only[EV,ky,kv]
 exact⟨c4,aJ q3⟩
theorem Ay(hk:κ < 3)(ok:bu p q ts)(hS:S.Nodup)(sN:∀x∈S,x∈nms ts)(o:PO (nms ts) (eO κ p q ts) S R):∃f v,kM [aN κ p q ts,.rl (S.map .int),cR R]=.ok (f,v)/\(P4 (nms ts) (eO κ p q ts) S R v\/∃vis par,v=.tup [jG vis (cY par),.non,.non]/\End (nms ts) (eO κ p q ts) S R vis par):=by
 have hl:S.length<=15:=sub_len ok hS sN;have v0:vh (nms ts) (eO κ p q ts) S R (dh S R) λ_=>none:=⟨hS.sublist aau,λv hv=>(qM.mp hv).1,λv hv hh=>qM.mpr ⟨hv,hh⟩,λv hv _=>(qM.mp hv).2,λv hv u e=>by cases e⟩;have z3:3<=sizeLine:=by decide
 have fin:∀c4:Sl,∃f v,aF (ak cX) MS #[.whl 100000 wC wB,.ret (.tup #[!3,.cst .non,.cst .non])] (wE (aN κ p q ts) S R (dh S R) (λ_=>none) (dh S R) c4 none none)=.ok (.rt (f,v))/\(P4 (nms ts) (eO κ p q ts) S R v\/∃vis par,v=.tup [jG vis (cY par),.non,.non]/\End (nms ts) (eO κ p q ts) S R vis par):=λc4=>by
  rcases zo hk ok sN o 16 100000 0 (dh S R) (λ_=>none) c4 none none (by omega) (by omega) (zero_le _) v0 (λu _ hl=>absurd hl (not_lt_zero _)) with ⟨f,v,hit,e⟩|⟨vis,par,d4,d6,d7,en,e⟩
  ·exact⟨f,v,mQ (by rw[bx];exact e),.inl hit⟩
  ·refine⟨false,.tup [jG vis (cY par),.non,.non],?_,.inr ⟨vis,par,rfl,en⟩⟩;rw[aJ (env':=wE (aN κ p q ts) S R vis par [] d4 d6 d7) (by rw[bx];exact e)];generalize aN κ p q ts=O at *;simp only[EV,z3]
 obtain⟨c4,key⟩:=KR (O:=aN κ p q ts) (R:=R) hS hl (T:=.cons (.whl 100000 wC wB) #[.ret (.tup #[!3,.cst .non,.cst .non])]);obtain⟨f,v,e,hv⟩:=fin c4;refine⟨f,v,?_,hv⟩;unfold kM;show pb (aF (ak cX) MS gE [some (.sh,aN κ p q ts),some (.sh,.rl (S.map .int)),some (.sh,cR R),none,none,none,none,none]) _=_;rw[Pf,key,e];rfl
theorem qj:∀{q:List Int},(∀y∈q,home R y=home Q y)->n6 R q->n6 Q q
 |[],_,h=>h.elim
 |[y],e,h=>(e y (by simp)).symm.trans h
 |y::x::q,e,h=>⟨by rw[<-e y (by simp)];exact h.1,qj (λz hz=>e z (Z5 _ hz)) h.2⟩
theorem Tg{y:Int}{q:List Int}{room:Nat}(o:RO R)(hr:room<2)(hl:tot R+(y::q).length<=40):(au (jL R y) room).length<64:=by
 have:=wQ (R:=R) (y:=y) (room:=room);have h2:(au (j5 R y room) room).length<=tot (j5 R y room):=by unfold au tot;split<;>omega
 have h3:(au (j5 R y room) room).length=(au (jL R y) room).length+1:=by unfold j5;rw[wL hr hr,aab rfl,aag];rfl
 rw[aaq]at hl;split at this<;>omega
theorem qO{vis:List Int}{y:Int}(h:y∈vis):bV ((vis.map (Sum.inl:Int->Key)).zip (vis.map (cY par))) (.inl y)=some (cY par y):=pe (g:=cY par) h
theorem Lu{vis:List Int}:∀(q:List Int) (R:gj) (room:Nat),Hu par q->RO R->q.Nodup->(∀y∈q,y∈vis)->n6 R q->room<2->tot R+q.length<=40->uY (ak pI) 21 (vis.map Sum.inl) (vis.map (cY par)) q room R
 | _,R,room,.one (y:=y) e,o,nd,hv,hm,hr,hl=>by
  refine⟨hr,B3 y,?_,λ_=>rfl,?_,trivial⟩
  ·rw[qO (hv y (by simp))];unfold cY;rw[e];rfl
  ·exact Tg o hr hl
 | _,R,room,.cons (y:=y) (x:=x) (q:=q) e p,o,nd,hv,hm,hr,hl=>by
  have Q2:=aaF.mp nd;have ZX:=Option.ne_none_iff_exists'.mp hm.1;refine⟨hr,B3 y,?_,λz=>absurd z hm.1,Tg o hr hl,Lu (x::q) _ _ p (wO o hr) Q2.2 (λz hz=>hv z (Z5 _ hz)) ?_ ve ?_⟩
  ·rw[qO (hv y (by simp))];unfold cY;rw[e];rfl
  ·exact qj (λz hz=>(tN o hr λe':z=y=>Q2.1 (e'▸hz)).symm) hm.2
  ·rw[wQ,aad hm.1];rw[aaq]at hl;omega
end
end K34
end
section
open PySem L2 Hv
namespace K34
theorem tO(par:Int->Option Int):∀vis:List Int,bH (vis.map (cY par))=true
 |[]=>rfl
 | v::vis=>by
  have e:iS (cY par v)=true:=by unfold cY;split<;>rfl
  rw[aaf,bH,e,tO par vis];rfl
theorem B5{jH:Nat}{vis:List Int}:∀{l:List Int},Hu par l->∀{y:Int} {q q':List Int} {room:Nat} {R:gj},l=y::q'->(∀z∈y::q',z∈vis)->uY Ψ jH (vis.map Sum.inl) (vis.map (cY par)) (y::q) room R->q=q'
 | _,.one e,y,q,q',room,R,el,hv,ok=>by
  cases el;obtain⟨_,_,k,_⟩:=ok;rw[qO (hv _ aaa)]at k;unfold cY at k;rw[e]at k;cases q with
  |nil=>rfl
  |cons a q=>cases k
 | _,.cons e p,y,q,q',room,R,el,hv,ok=>by
  cases el;obtain⟨_,_,k,_,_,ok⟩:=ok;rw[qO (hv _ aaa)]at k;unfold cY at k;rw[e]at k;cases q with
  |nil=>cases k
  |cons a q=>cases k;rw[B5 p rfl (λz hz=>hv z (Z5 _ hz)) ok]
theorem wU{vis:List Int}(e:Val.tup [jG vis (cY par),y,z]=.tup [.dc ks ds,y',z']):ks=vis.map Sum.inl/\ds=vis.map (cY par)/\y'=y/\z'=z:=by
 unfold jG at e;injection e with e
 injection e with e1 e
 injection e with e2 e
 injection e with e3 e
 injection e1 with e4 e5
 exact⟨e4.symm,e5.symm,e2.symm,e3.symm⟩
section
variable {κ:Nat} {p q:Int} {ts:List T3} {S:List Int}
theorem wV{N:List Int}(o:PO N r S R):tot R<=S.length:=by
 unfold tot;rw[<-aag];refine bG ?_ λx hx=>?_
 ·rw[aaH];exact⟨o.ro.nd 0,o.ro.nd 1,λa ha b hb e=>o.ro.dj a ha (by rw[e];exact hb)⟩
 ·rcases aat.mp hx with k|k
  ·exact o.sub 0 (by omega) x k
  ·exact o.sub 1 (by omega) x k
theorem zp(hk:κ < 3)(ok:bu p q ts)(hS:S.Nodup)(sN:∀x∈S,x∈nms ts):∀(n:Nat) (R R':gj) (ks:List Key) (ds:List Val),PO (nms ts) (eO κ p q ts) S R->iK (ak pI) 20 21 (aN κ p q ts) S n R R' ks ds->PO (nms ts) (eO κ p q ts) S R'/\∃vis par,ks=vis.map Sum.inl/\ds=vis.map (cY par)/\End (nms ts) (eO κ p q ts) S R' vis par
 | 0,R,R',ks,ds,o,pk=>by
  obtain⟨rfl,_,f,e⟩:=pk;refine⟨o,?_⟩;rw[fS]at e;obtain⟨f',v,e',h⟩:=Ay hk ok hS sN o;rw[e']at e;injection e with e
  injection e with _ e
  rcases h with h|⟨vis,par,rfl,en⟩
  ·obtain⟨vis,par,x,a,rfl,_⟩:=h;have:=(wU e).2.2.1;cases this
  ·obtain⟨h1,h2,_⟩:=wU e;exact⟨vis,par,h1,h2,en⟩
 | n+1,R,R',ks,ds,o,pk=>by
  obtain⟨f,Yo,ZY,x,q1,room,e,_,_,po,pk⟩:=pk;rw[fS]at e;obtain⟨f',v,e',h⟩:=Ay hk ok hS sN o;rw[e']at e;injection e with e
  injection e with _ e
  rcases h with h|⟨vis,par,rfl,en⟩
  ·obtain⟨vis,par,x',a,rfl,w,hx,ha,na,nc,dn⟩:=h
   obtain⟨rfl,rfl,h3,h4⟩:=wU e;injection h3 with h3
   injection h4 with h4
   have h4:room=a:=by omega
   subst h3 h4;obtain⟨q2,pt,_,_,hq,_,o',_⟩:=aug (nW ok hk) (eu ok) sN o w hx ha na nc dn;have eq:=B5 pt rfl hq po;subst eq;exact zp hk ok hS sN n _ R' ks ds o' pk
  ·have:=(wU e).2.2.1;cases this
theorem HH(hk:κ < 3)(ok:bu p q ts)(hS:S.Nodup)(sN:∀x∈S,x∈nms ts):∀(m:Nat) (R:gj),PO (nms ts) (eO κ p q ts) S R->S.length-tot R<=m->∃n R' ks ds,n<=m/\iK (ak pI) 20 21 (aN κ p q ts) S n R R' ks ds:=by
 intro m;have hl:=sub_len ok hS sN;have step:∀R:gj,PO (nms ts) (eO κ p q ts) S R->(∃ks ds,iK (ak pI) 20 21 (aN κ p q ts) S 0 R R ks ds)\/∃Q:gj,PO (nms ts) (eO κ p q ts) S Q/\tot Q=tot R+1/\∀n R' ks ds,iK (ak pI) 20 21 (aN κ p q ts) S n Q R' ks ds->iK (ak pI) 20 21 (aN κ p q ts) S (n+1) R R' ks ds:=λR o=>by
  obtain⟨f,v,e,h⟩:=Ay hk ok hS sN o;rw[<-fS]at e
  rcases h with h|⟨vis,par,rfl,en⟩
  ·right
   obtain⟨vis,par,x,a,rfl,w,hx,ha,na,nc,dn⟩:=h;obtain⟨q2,pt,nd,hle,hq,hm,o',ht⟩:=aug (nW ok hk) (eu ok) sN o w hx ha na nc dn;have lv:=n9 w sN ok;have tl:=wV o;refine⟨_,o',ht,λn R' ks ds pk=>⟨f,_,_,x,q2,a,e,tO par vis,by omega,Lu _ R a pt o.ro nd hq hm ha (by omega),pk⟩⟩
  ·left
   exact⟨_,_,rfl,tO par vis,f,e⟩
 induction m with
 |zero=>
  intro R o hm
  rcases step R o with ⟨ks,ds,h⟩|⟨Q,oQ,tQ,_⟩
  ·exact⟨0,R,ks,ds,aae _,h⟩
  ·have:=wV oQ;omega
 |succ m ih=>
  intro R o hm
  rcases step R o with ⟨ks,ds,h⟩|⟨Q,oQ,tQ,hQ⟩
  ·exact⟨0,R,ks,ds,zero_le _,h⟩
  ·obtain⟨n,R',ks,ds,hn,pk⟩:=ih Q oQ (by omega);exact⟨n+1,R',ks,ds,by omega,hQ n R' ks ds pk⟩
theorem Pj{N:List Int}(h:lJ N r):PO N r S ([],[]):=by
 have r0:r []=0:=by
  have:=h.bound nodup_nil λy hy=>by simp at hy
  simp only[length_nil]at this;omega
 refine⟨⟨nodup_nil,nodup_nil,λa ha=>by simp at ha⟩,λa _ x hx=>?_,λa _=>?_⟩
 ·unfold au at hx;split at hx<;>simp at hx
 ·unfold au;split<;>(rw[r0];rfl)
theorem Dk(hk:κ < 3)(ok:bu p q ts){P:List Int}(hP:P.Nodup)(pN:∀x∈P,x∈nms ts):∃(R:gj) (vis:List Int) (par:Int->Option Int),kN [aN κ p q ts,.rl (P.map .int)]=.ok (true,.tup [.rl ((sortI R.1).map .int),.rl ((sortI R.2).map .int),.rl ((sortI vis).map .int)])/\PO (nms ts) (eO κ p q ts) (sortI P) R/\End (nms ts) (eO κ p q ts) (sortI P) R vis par:=by
 have pm:=aaO P;have hS:(sortI P).Nodup:=pm.nodup_iff.mpr hP;have sN:∀x∈sortI P,x∈nms ts:=λx hx=>pN x (pm.mem_iff.mp hx);have hl:=sub_len ok hS sN;have ZZ:=sub_len ok hP pN;have o0:=Pj (S:=sortI P) (nW ok hk);obtain⟨n,R',ks,ds,hn,pk⟩:=HH hk ok hS sN 15 ([],[]) o0 (by omega);have hc:(∃k:Vx,k.n<1000/\iK (ak pI) 20 21 (aN κ p q ts) (sortI P) k.n ([],[]) k.R k.ks k.ds)/\P.length<64:=⟨⟨⟨n,R',ks,ds⟩,by show n<1000;omega,pk⟩,by omega⟩;have ek:=hc.1.choose_spec;have eg:kN [aN κ p q ts,.rl (P.map .int)]=bF (ak pI) qa (yM (aN κ p q ts) (P.map .int) (sortI P) hc.1.choose.R hc.1.choose.ks hc.1.choose.ds):=by
  show yN (ak pI) 20 21 [aN κ p q ts,.rl (P.map .int)]=_;unfold yN
  try dsimp only
  rw[ints_map]
  try dsimp only
  rw[dif_pos hc]
 rw[eg];generalize hc.1.choose=c at *;obtain⟨o,vis,par,e1,e2,en⟩:=zp hk ok hS sN _ _ _ _ _ o0 ek.2;refine⟨c.R,vis,par,?_,o,en⟩;rw[e1,e2];have lv:=n9 en.1 sN ok;have tl:=wV o;unfold tot at tl;have s1:=sorted_ints (l:=c.R.1) (by omega);have s2:=sorted_ints (l:=c.R.2) (by omega);have s3:mE [] (.dc (vis.map Sum.inl) (vis.map (cY par)))=some (sortI vis):=FU (by omega);have z3:3<=sizeLine:=by decide
 generalize aN κ p q ts=O at *;unfold qa yM;simp only[EV,di sL,di o9,s1,s2,s3,z3]
end
open Classical in
def Mx(N:List Int)(r:List Int->Int)(P:List Int)(n:Nat):Prop:=∃R,PO N r P R/\tot R=n/\∃V:Pd,(n:Int)=(P.filter λx=>decide (¬ V x)).length+2*lX N r V
section
variable {N:List Int} {r:List Int->Int} {P Q:List Int}
theorem PO.more(o:PO N r P R)(s:∀x∈P,x∈Q):PO N r Q R:=⟨o.ro,λa ha x hx=>s x (o.sub a ha x hx),o.fr⟩
theorem Mx.nil{n:Nat}(m:Mx N r [] n):n=0:=by
 obtain⟨R,o,e,_⟩:=m;have:=wV o;simp at this;omega
variable (h:lJ N r) (hN:N.Nodup)
include h hN
open Classical in
theorem Mx.le{n m:Nat}(a:Mx N r P n)(b:Mx N r Q m)(hQ:Q.Nodup)(qN:∀x∈Q,x∈N)(s:∀x∈P,x∈Q):n<=m:=by
 obtain⟨R,o,e,_⟩:=a;obtain⟨_,_,_,V,ev⟩:=b;have:=most h hN qN hQ (o.more s) V;rw[e]at this;omega
open Classical in
theorem Mx.step{n m:Nat}{x:Int}(a:Mx N r P n)(b:Mx N r (P++[x]) m)(hQ:(P++[x]).Nodup)(qN:∀y∈P++[x],y∈N):m=n\/m=n+1:=by
 have l1:=a.le h hN b hQ qN λy hy=>aas _ hy;obtain⟨R,o,e,_⟩:=b;obtain⟨_,_,_,V,ev⟩:=a;have:=most h hN qN hQ o V;rw[e,filter_append,aag]at this;have l2:=length_filter_le (λx=>decide (¬ V x)) [x];rw[aaT]at l2;omega
end
open Classical in
theorem wW{κ:Nat}{p q:Int}(hk:κ < 3)(ok:bu p q ts){P:List Int}(hP:P.Nodup)(pN:∀x∈P,x∈nms ts):∃n:Nat,kO [aN κ p q ts,.rl (P.map .int)]=.ok (true,.int (n:Int))/\Mx (nms ts) (eO κ p q ts) P n:=by
 obtain⟨R,vis,par,e,o,en⟩:=Dk hk ok hP pN;have pm:=aaO P;refine⟨tot R,?_,R,o.more λx hx=>pm.mem_iff.mp hx,rfl,(· ∈ vis),?_⟩
 ·have e1:((sortI R.1).length:Int)+((sortI R.2).length:Int)=(tot R:Int):=by
   rw[(aaO _).length_eq,(aaO _).length_eq];unfold tot;omega
  generalize aN κ p q ts=O at *;unfold kO jg;simp only[EV,pK,e,di sL,di o9,length_map,e1]
 ·have:=bar (nW ok hk) (eu ok) (λx hx=>pN x (pm.mem_iff.mp hx)) (pm.nodup_iff.mpr hP) o en.1 en.2
  rw[this,(pm.filter _).length_eq]
  congr 2
  refine congrArg length (filter_congr λx _=>?_)
  by_cases c:x∈vis<;>simp[c]
end K34
end
section
open PySem L2 Hv
namespace K34
theorem oh{i:Nat}{f:Bool}(hp:(yr e).isSome=false)(h:bF Ψ e env=.ok (f,v)):bx Ψ [] (.asg (.one i) e) env=.ok (.nx (env.set i (some (gh f v,v)))):=by
 rw[bx]
 try dsimp only
 rw[aad (by rw[hp];exact Z3),aad (by exact Z3),h];rfl
theorem Pk{α:Type}(us:List α)(n:Int)(h:0<=n):cz us none (some n)++cz us (some n) none=us:=by
 obtain⟨k,rfl⟩:=eq_ofNat_of_zero_le h;unfold cz;rw[HT.qU,HT.qU,HT.vq,HT.vq];simp only[drop_zero,Nat.sub_zero];have e:(us.drop (min k us.length)).take (us.length-min k us.length)=us.drop (min k us.length):=List.take_of_length_le (by rw[length_drop];omega);rw[e,List.take_append_drop]
theorem HJ{α:Type}(us:List α)(n:Nat)(h:n<=us.length):cz us none (some (n:Int))=us.take n:=by
 unfold cz;rw[HT.qU,HT.vq];simp only[drop_zero,Nat.sub_zero];rw[Nat.min_eq_left h]
def Xi:IE:=(.bin .fdiv (.call 0 #[!0,¬2]) (¬56))
def Th:IE:=(.call 2 #[!0,.slc (!0) (¬3) (.bin .add (¬3) (.bin .mod (!1) (¬10)))])
def Ti:IE:=(.call 14 #[.bin .add (¬1) (.bin .mod (.bin .fdiv (!1) (¬10)) (¬2)),!2])
def Tj:IE:=(.blt .sorted #[.bin .add (.lst #[.neg (¬1)]) (.comp ["_law_each"] [none] (.one 0) .seq #[.idx (!2) (¬1)] .no (.idx (!0) (¬0)))])
def Tn:IE:=(.bin .mod (.call 0 #[!0,¬17]) (.blt .len #[!4]))
def To:IE:=(.bin .add (.slc (!4) (!5) .no) (.slc (!4) .no (!5)))
def VN:IE:=(.cmp .eq (.bin .mod (.bin .fdiv (.call 0 #[!0,¬17]) (¬16)) (¬2)) (¬1))
def T7:IE:=(.rev (!4) (.neg (¬1)))
def VO:IE:=(.call 24 #[!3,.lst .nil])
def VP:IE:=(.cmp .ne (!6) (¬0))
def fB:dP:=.cons (.ret (.cst (.bl false))) .nil
def Xj:IE:=(.call 24 #[!3,.slc (!4) .no (.bin .add (!7) (¬1))])
def cE:IE:=(.and (.cmp .ne (!8) (!6)) (.cmp .ne (!8) (.bin .add (!6) (¬1))))
def lB:dP:=#[.asg (.one 8) Xj,.iff cE fB .nil,.asg (.one 6) (!8)]
def Pn:IE:=(.cmp .eq (.call 24 #[!3,T7]) (!6))
theorem Po:sX=.cons (.asg (.one 1) Xi) #[.asg (.one 2) Th,.asg (.one 3) Ti,.asg (.one 4) Tj,.asg (.one 5) Tn,.asg (.one 4) To,.iff VN #[.asg (.one 4) T7] .nil,.asg (.one 6) VO,.iff VP fB .nil,.for (.one 7) .range #[.blt .len #[!4]] lB,.ret Pn]:=rfl
section
variable {κ:Nat} {p q:Int} {ts:List T3}
theorem HK(hk:κ < 3)(ok:bu p q ts){L:List Int}(hL:L.Nodup)(lN:∀x∈L,x∈nms ts){m3 m4:Mk}(k3:kr m3=true)(k4:kr m4=true){e0 e1 e2 e5:Sl}(G:Pr FV->Prop)
  (post:∀(n:Nat) (m6:Mk) (c7 c8:Sl),kr m6=true->Mx (nms ts) (eO κ p q ts) L n->G (k (.nx [e0,e1,e2,some (m3,aN κ p q ts),some (m4,.rl (L.map .int)),e5,some (m6,.int (n:Int)),c7,c8]))) {n0:Nat} {m6:Mk} (k6:kr m6=true) (h0:Mx (nms ts) (eO κ p q ts) [] n0) {c7 c8:Sl} :
  G (pb (gu (λx env=>pb (pl (dU (.one 7) x env)) λenv'=>aF (ak tu) [] lB env') ((List.range L.length).map λi:Nat=>Val.int (0+(i:Int))) [e0,e1,e2,some (m3,aN κ p q ts),some (m4,.rl (L.map .int)),e5,some (m6,.int (n0:Int)),c7,c8]) k):=by
 refine dX (λi:Nat=>Val.int (0+(i:Int))) G (λdone env=>∃(n:Nat) (m6:Mk) (c7 c8:Sl),kr m6=true/\env=[e0,e1,e2,some (m3,aN κ p q ts),some (m4,.rl (L.map .int)),e5,some (m6,.int (n:Int)),c7,c8]/\Mx (nms ts) (eO κ p q ts) (L.take done.length) n) ⟨n0,m6,c7,c8,k6,rfl,h0⟩ ?_ ?_
 ·rintro pre i post env he ⟨n,m6,c7,c8,k6,rfl,hm⟩
  have hi:i=pre.length/\pre.length<L.length:=by
   have e1:=congrArg length he;rw[length_range,aag,aaq]at e1;have e2:(List.range L.length)[pre.length]?=some i:=by rw[he,aaw (aae _),sub_self];rfl
   rw[List.getElem?_range (by omega)]at e2;cases e2;exact⟨rfl,by omega⟩
  obtain⟨rfl,hi⟩:=hi;have et:L.take (pre.length+1)=L.take pre.length++[L[pre.length]]:=List.take_succ_eq_append_getElem hi;have nd:(L.take (pre.length+1)).Nodup:=hL.sublist (take_sublist _ _);have sN:∀x∈L.take (pre.length+1),x∈nms ts:=λx hx=>lN x (List.mem_of_mem_take hx);obtain⟨m,em,hm'⟩:=wW hk ok nd sN;have st:m=n\/m=n+1:=by rw[et]at hm' nd sN;exact hm.step (nW ok hk) (eu ok) hm' nd sN
  have ei:(0:Int)+((pre.length:Nat):Int)=((pre.length:Nat):Int):=Int.zero_add _;have ej:((pre.length:Nat):Int)+1=((pre.length+1:Nat):Int):=rfl;have ec:=HJ L (pre.length+1) (by omega);refine⟨_,?_,m,gh true (.int (m:Int)),some (.sh,.int (pre.length:Int)),some (gh true (.int (m:Int)),.int (m:Int)),jS,rfl,by rw[aag,aaT];exact hm'⟩;generalize aN κ p q ts=O at *;rw[bE,dg,aX,ei];simp only[set_cons_succ,set_cons_zero];unfold lB;rw[aJ (oh (f:=true) (v:=.int (m:Int)) rfl (by unfold Xj;simp only[EV,k3,k4,ej,FH,nI,ec,iR,em]))];simp only[set_cons_succ,set_cons_zero];have ecE:∀m8:Mk,kr m8=true->Ah (ak tu) cE [e0,e1,e2,some (m3,O),some (m4,.rl (L.map .int)),e5,some (m6,.int (n:Int)),some (.sh,.int (pre.length:Int)),some (m8,.int (m:Int))]=.ok (true,.bl false):=λm8 k8=>by
   unfold cE
   rcases st with e|e
   ·have d1:decide ((m:Int)=(n:Int))=true:=by rw[aaM,e]
    simp only[EV,k6,k8,d1]
   ·have d1:decide ((m:Int)=(n:Int))=false:=by rw[decide_eq_false_iff_not,e];omega
    have d2:decide ((m:Int)=(n:Int)+1)=true:=by rw[aaM,e];rfl
    simp only[EV,k6,k8,d1,d2]
  rw[aJ (ic (ecE _ jS))];simp only[EV,aX]
 ·rintro env ⟨n,m6,c7,c8,k6,rfl,hm⟩;rw[length_range,List.take_length]at hm;exact post n m6 c7 c8 k6 hm
end
theorem Pp(ns:List Int)(hn:ns.length<=63):∃f,Lq [.rl (ns.map .int)]=.ok (f,.bl true):=by
 have c2:cT [.rl (ns.map .int),.int 2]=.ok (true,.int (cellAt ns 2)):=nR ns 2;have TU:cT [.rl (ns.map .int),.int 17]=.ok (true,.int (cellAt ns 17)):=nR ns 17;generalize hsz:cellAt ns 2/56=sz at *;have hcl:(cz ns (some 3) (some (3+sz%10))).length<=14:=by obtain⟨k,hk⟩:=eq_ofNat_of_zero_le (show 0<=sz%10 by omega);have h:=C3 ns 3 k (by omega);rw[<-hk]at h;omega
 obtain⟨p,q,ts,en,ok,_⟩:=O6 ns (cz ns (some 3) (some (3+sz%10))) hcl;obtain⟨κ,hκ⟩:=eq_ofNat_of_zero_le (show 0<=1+sz/10%2 by omega);have hk:κ < 3:=by omega
 have er:=Hy hk ok;have O7:ts.length<=14:=by have:=iB ok;unfold nms at this;rw[aaq,Z9]at this;omega
 have hN:(nms ts).length<64:=by have:=iB ok;omega
 have Z0:0<(nms ts).length:=by unfold nms;simp
 have hc:ts.length<=100000:=by omega
 have so:=sorted_ints hN;rw[GX ok]at so;have z1:1<=sizeLine:=by decide
 have ea:j4 .add (.rl [.int (-1)]) (.rl (ts.map nameV))=.ok (bH ((nms ts).map Val.int),.rl ((nms ts).map .int)):=by
  have e:([.int (-1)]:List Val)++ts.map nameV=(nms ts).map Val.int:=by unfold nms;rw[aaf,aaP];rfl
  rw[tG (by rw[Z9,aaT];unfold sizeLine;omega),e]
 have mt:j4 .mod (.int (cellAt ns 17)) (.int (nms ts).length)=.ok (true,.int (cellAt ns 17%((nms ts).length:Int))):=jT (by rw[aaM];omega);have t0:0<=cellAt ns 17%((nms ts).length:Int):=Int.emod_nonneg _ (by omega);generalize cellAt ns 17%((nms ts).length:Int)=t at mt t0;have pm:(cz (nms ts) (some t) none++cz (nms ts) none (some t)).Perm (nms ts):=by refine List.perm_append_comm.trans ?_;rw[Pk _ t t0]
 have VQ:j4 .add (.rl (cz ((nms ts).map Val.int) (some t) none)) (.rl (cz ((nms ts).map Val.int) none (some t)))=.ok (bH ((cz (nms ts) (some t) none++cz (nms ts) none (some t)).map Val.int),.rl ((cz (nms ts) (some t) none++cz (nms ts) none (some t)).map .int)):=by rw[nI,nI,tG,map_append];have:=pm.length_eq;rw[aag]at this;rw[Z9,Z9,this];unfold sizeLine;omega
 generalize cz (nms ts) (some t) none++cz (nms ts) none (some t)=X at *;have nN:=eu ok;have rest:∀(L:List Int) (m1 m2 m3 m4 m5:Mk),kr m3=true->kr m4=true->L.Perm (nms ts)->∃f,pb (aF (ak tu) [] #[.asg (.one 6) VO,.iff VP fB .nil,.for (.one 7) .range #[.blt .len #[!4]] lB,.ret Pn] [some (.sh,.rl (ns.map .int)),some (m1,.int sz),some (m2,cF p q ts),some (m3,aN κ p q ts),some (m4,.rl (L.map .int)),some (m5,.int t),none,none,none]) (λf=>match f with|.nx _=>.ok (true,.non)|.rt p=>.ok p|_=>.no)=.ok (f,.bl true):=λL m1 m2 m3 m4 m5 k3 k4 pl=>by
  have hL:L.Nodup:=pl.nodup_iff.mpr nN;have lN:∀x∈L,x∈nms ts:=λx hx=>pl.mem_iff.mp hx;have Z1:=sub_len ok hL lN;obtain⟨n0,e0,h0⟩:=wW hk ok (P:=[]) nodup_nil λy hy=>by simp at hy
  obtain⟨nr,ZG,hr⟩:=wW hk ok (P:=L.reverse) ((reverse_perm L).nodup_iff.mpr hL) λy hy=>lN y (mem_reverse.mp hy);have ZH:=h0.nil;rw[map_nil]at e0;have z0:0<=sizeLine:=by decide
  have d0:decide ((n0:Int)=0)=true:=by rw[aaM,ZH];rfl
  have VS:(L.map Val.int).reverse=L.reverse.map Val.int:=map_reverse.symm;rw[aJ (oh (f:=true) (v:=.int (n0:Int)) rfl (by
   generalize aN κ p q ts=O at *;generalize cF p q ts=N at *;unfold VO;simp only[EV,k3,z0,iR,e0]))]
  simp only[set_cons_succ,set_cons_zero];obtain⟨m6,VT,k6⟩:∃m,gh true (.int (n0:Int))=m/\kr m=true:=⟨_,rfl,jS⟩;rw[VT];rw[aJ (ic (f:=true) (by
   generalize aN κ p q ts=O at *;generalize cF p q ts=N at *;unfold VP;simp only[EV,k6,d0]))]
  rw[aF,Hz (n:=L.length) rfl (by
   generalize aN κ p q ts=O at *;generalize cF p q ts=N at *;simp only[EV,k4,length_map]) (by omega)]
  repeat rw[sI]
  refine HK hk ok hL lN k3 k4 (λr=>∃f,r=.ok (f,.bl true)) (λn m6 c7 c8 k6 hm=>?_) k6 h0;have en:nr=n:=by have l1:=hr.le (nW ok hk) nN hm hL lN λx hx=>mem_reverse.mp hx;have l2:=hm.le (nW ok hk) nN hr ((reverse_perm L).nodup_iff.mpr hL) (λy hy=>lN y (mem_reverse.mp hy)) λx hx=>mem_reverse.mpr hx;omega
  have d1:decide ((nr:Int)=(n:Int))=true:=by rw[aaM,en]
  refine⟨true,?_⟩;generalize aN κ p q ts=O at *;generalize cF p q ts=N at *;unfold Pn T7;simp only[EV,k3,k4,k6,VS,iR,ZG,d1]
 show ∃f,pb (aF (ak tu) [] sX [some (.sh,.rl (ns.map .int)),none,none,none,none,none,none,none,none]) _=_;rw[Po];rw[aJ (oh (f:=true) (v:=.int sz) rfl (by unfold Xi;simp only[EV,iQ,c2,mK (show mC 56=true by decide),hsz]))];simp only[set_cons_succ,set_cons_zero];obtain⟨m1,hm1,k1⟩:∃m,gh true (.int sz)=m/\kr m=true:=⟨_,rfl,jS⟩;rw[hm1];rw[aJ (oh (f:=true) (v:=cF p q ts) rfl (by unfold Th;simp only[EV,k1,jT (show decide ((0:Int)<10)=true by decide),FH,nI,wD,en]))];simp only[set_cons_succ,set_cons_zero];obtain⟨m2,hm2,k2⟩:∃m,gh true (cF p q ts)=m/\kr m=true:=⟨_,rfl,jS⟩;rw[hm2];rw[aJ (oh (f:=true) (v:=aN κ p q ts) rfl (by unfold Ti;simp only[EV,k1,k2,mK (show mC 10=true by decide),jT (show decide ((0:Int)<2)=true by decide),hκ,ue,er]))];simp only[set_cons_succ,set_cons_zero];obtain⟨m3,ZI,k3⟩:∃m,gh true (aN κ p q ts)=m/\kr m=true:=⟨_,rfl,jS⟩;rw[ZI];rw[aJ (oh (f:=true) (v:=.rl ((nms ts).map .int)) rfl (by
  generalize aN κ p q ts=O at *;unfold Tj cF;simp only[EV,k2,z1,di o9,jU,jQ,length_map,hc];rw[jJ fE nameV ts (λt ht=>by
   have i0:mD [] (fE t) (.int 0)=some (.int t.1):=rfl;simp only[EV,bE,i0,nameV])]
  simp only[EV,ea,so]))]
 simp only[set_cons_succ,set_cons_zero];obtain⟨m4,ZJ,k4⟩:∃m,gh true (.rl ((nms ts).map .int))=m/\kr m=true:=⟨_,rfl,jS⟩;rw[ZJ];rw[aJ (oh (f:=true) (v:=.int t) rfl (by
  generalize aN κ p q ts=O at *;generalize cF p q ts=N at *;unfold Tn;simp only[EV,k4,iQ,TU,length_map,mt]))]
 simp only[set_cons_succ,set_cons_zero];obtain⟨m5,ZK,k5⟩:∃m,gh true (.int t)=m/\kr m=true:=⟨_,rfl,jS⟩;rw[ZK];rw[aJ (oh (f:=bH (X.map Val.int)) (v:=.rl (X.map .int)) rfl (by
  generalize aN κ p q ts=O at *;generalize cF p q ts=N at *;unfold To;simp only[EV,k4,k5,FH,VQ]))]
 simp only[set_cons_succ,set_cons_zero];obtain⟨m6,VT,k6⟩:∃m,gh (bH (X.map Val.int)) (.rl (X.map .int))=m/\kr m=true:=⟨_,rfl,jS⟩;rw[VT];have eb:Ah (ak tu) VN [some (.sh,.rl (ns.map .int)),some (m1,.int sz),some (m2,cF p q ts),some (m3,aN κ p q ts),some (m6,.rl (X.map .int)),some (m5,.int t),none,none,none]=.ok (true,.bl (decide (cellAt ns 17/16%2=1))):=by generalize aN κ p q ts=O at *;generalize cF p q ts=N at *;unfold VN;simp only[EV,iQ,TU,mK (show mC 16=true by decide),jT (show decide ((0:Int)<2)=true by decide)]
 cases hb:decide (cellAt ns 17/16%2=1) with
 |false=>rw[hb]at eb;rw[aJ (ic eb)];exact rest X m1 m2 m3 m6 m5 k3 k6 pm
 |true=>
  rw[hb]at eb;have VS:(X.map Val.int).reverse=X.reverse.map Val.int:=map_reverse.symm;rw[aJ ((iC eb).trans ((aJ (oh (f:=bH (X.reverse.map Val.int)) (v:=.rl (X.reverse.map .int)) rfl (by
   generalize aN κ p q ts=O at *;generalize cF p q ts=N at *;unfold T7;simp only[EV,k6,VS]))).trans (by rw[aF])))]
  simp only[set_cons_succ,set_cons_zero];obtain⟨m7,ZL,k7⟩:∃m,gh (bH (X.reverse.map Val.int)) (.rl (X.reverse.map .int))=m/\kr m=true:=⟨_,rfl,jS⟩;rw[ZL];exact rest X.reverse m1 m2 m3 m7 m5 k3 k7 ((reverse_perm X).trans pm)
theorem true(ns:List Int)(hn:ns.length<=63):∃h',GH [.rl (ns.map .int)] []=.ok (.bl true) h':=by
 obtain⟨f,e⟩:=Pp ns hn;exact Kz e
end K34
end
end
section
namespace PySem.W.Fast
theorem tw14134051094904171613:True:=trivial
theorem tw4687072923788678467:True:=trivial
theorem tw11881337673592354382:True:=trivial
theorem tw7431026461914758487:True:=trivial
theorem tw12984192224869370577:True:=trivial
theorem tw13356989312779810933:True:=trivial
theorem tw15792923837385513279:True:=trivial
theorem tw1089453062834114069:True:=trivial
theorem tw901820439068285193:True:=trivial
theorem tw13950100417682220185:True:=trivial
theorem tw701739684887362048:True:=trivial
theorem tw14411698665102415859:True:=trivial
theorem tw5313322665878714827:True:=trivial
theorem tw15989225328217833401:True:=trivial
theorem tw6681493698921708165:True:=trivial
theorem tw2874384338473076410:True:=trivial
theorem tw6351356025427759775:True:=trivial
theorem tw14172087327453542494:True:=trivial
theorem tw12723777019155168970:True:=trivial
theorem tw7657885823618757336:True:=trivial
theorem tw10815857883146078148:True:=trivial
theorem tw10435146749259680453:True:=trivial
theorem tw16372853743799773150:True:=trivial
theorem tw11817963742397761432:True:=trivial
theorem tw11689556930379237610:True:=trivial
theorem tw13902179231594081731:True:=trivial
theorem tw13717380969326484325:True:=trivial
theorem tw15815726958864823449:True:=trivial
theorem tw3031438631603362353:True:=trivial
theorem tw7839694736626479956:True:=trivial
theorem tw12881848178028346225:True:=trivial
theorem tw1916014766705050761:True:=trivial
theorem tw13513693496944688393:True:=trivial
theorem tw4482108195306109718:True:=trivial
theorem tw7118656483193233575:True:=trivial
theorem tw15392423671804161966:True:=trivial
theorem tw3137420746855872837:True:=trivial
theorem tw10059820698534186090:True:=trivial
theorem tw4869195307807419577:True:=trivial
theorem tw8879353176714042030:True:=trivial
theorem tw809519318602944156:True:=trivial
theorem tw17507470661550599891:True:=trivial
theorem tw13890966847311376888:True:=trivial
theorem tw535301409065490869:True:=trivial
theorem tw1815615821099610050:True:=trivial
theorem tw14489930130837726823:True:=trivial
theorem tw11565865960916316927:True:=trivial
theorem tw12510523981907516667:True:=trivial
theorem tw5181307794401637278:True:=trivial
theorem tw17148066832463324675:True:=trivial
theorem tw7616096611138981240:True:=trivial
theorem tw8133871444214199742:True:=trivial
theorem tw4828884941385226955:True:=trivial
theorem tw1127888638700661258:True:=trivial
theorem tw182988418101309979:True:=trivial
theorem tw417668672292070788:True:=trivial
theorem tw1738219777570346069:True:=trivial
theorem tw6000555224550795583:True:=trivial
theorem tw11260873029577521588:True:=trivial
theorem tw12782577070203630653:True:=trivial
theorem tw3736410795932458:True:=trivial
theorem tw5940901364234312099:True:=trivial
theorem tw168646766880666685:True:=trivial
theorem tw10217286970828822166:True:=trivial
theorem tw1306966915937634599:True:=trivial
theorem tw5907141336087543152:True:=trivial
theorem tw3896599892078193577:True:=trivial
theorem tw2020196151495715114:True:=trivial
theorem tw10910729117055697645:True:=trivial
theorem tw3706856460392682530:True:=trivial
theorem tw13234392682417965517:True:=trivial
theorem tw2376960892176445196:True:=trivial
theorem tw5804795872623738491:True:=trivial
theorem tw4782805091199849789:True:=trivial
theorem tw8226317287606523777:True:=trivial
theorem tw12524753846015139330:True:=trivial
theorem tw1399495375377250012:True:=trivial
theorem tw10872469495445811839:True:=trivial
theorem tw10373593802811246954:True:=trivial
end PySem.W.Fast
open PySem PySem.W PyProof.Rows
set_option maxRecDepth 100000 in
set_option maxHeartbeats 0 in
theorem PySem.Challenge.cw_linkorcut_k34_one_name_more_holds : PySem.Challenge.rw_linkorcut_k34_one_name_more.Holds := by
 w_on;o_law;k_head;(case hw=>w_witness2)
 k_fill
 refine Hv.walk (l:=PySem.Challenge.rw_linkorcut_k34_one_name_more) (k:=52) (x:="_law_script") rfl rfl ⟨rfl,by decide,by decide⟩ (λw h Y=>PySem.W.kIn_of Y) ?F
 case F=>
  intro w mg fa h KX G hmg;refine' K34.all_mk KX G hmg K34.true ?_ ?_ ?_ ?_ ?_ ?_ ?_ ?_ ?_ ?_ ?_ ?_ ?_ ?_ ?_ ?_ ?_ ?_ ?_ ?_ ?_ ?_ ?_ ?_ ?_ ?_ ?_ ?_ ?_ ?_ ?_ ?_ ?_ ?_ ?_ ?_ ?_ ?_ ?_ ?_ ?_ ?_ ?_ ?_ ?_ ?_ ?_ ?_ ?_ ?_ ?_ ?_ ?_ ?_ ?_ ?_ ?_ ?_ ?_ ?_ ?_ ?_ ?_ ?_ ?_ ?_ ?_ ?_ ?_ ?_ ?_ ?_ ?_ ?_ ?_ ?_ ?_ ?_ ?_ ?_ ?_ ?_ ?_ ?_ ?_ ?_ ?_ ?_ ?_ ?_ ?_ ?_ ?_ ?_ ?_ ?_ ?_ ?_ ?_ ?_ ?_ ?_ ?_ ?_ ?_ ?_
  all_goals try first|k_is|(exact⟨_,L2.fun_mk (by k_is) (by k_is) (by k_is)⟩)|(intro x hx;simp only[Hv.bltNames,List.mem_cons,List.not_mem_nil,or_false]at hx;rcases hx with rfl|rfl|rfl|rfl|rfl|rfl|rfl|rfl|rfl|rfl|rfl|rfl|rfl|rfl|rfl|rfl|rfl<;>k_is)
#print axioms PySem.Challenge.cw_linkorcut_k34_one_name_more_holds
end
