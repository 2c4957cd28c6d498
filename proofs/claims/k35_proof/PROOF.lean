import PyProof.Rows.All
import Wide.All
import OpenK.AllK
import Wide.FinOn
import Lean
import PyProof.EqAt
import PyProof.EqKinds
import PyProof.TupleCall
import KE.KDictList
import KE.KDictLaws
import KE.KDictSum
import KE.KRevSl
import PyProof.DictWalks
import PySem.Challenge.RW_linkorcut_k35_thinned_in_any_order
set_option Elab.async false
set_option compiler.extract_closed false
set_option linter.all false
set_option maxRecDepth 100000
set_option maxHeartbeats 4000000
set_option genSizeOf false
set_option backward.eqns.nonrecursive false
set_option backward.eqns.deepRecursiveSplit false
set_option bootstrap.genMatcherCode false
set_option hygiene false
local macro_rules
|`(def $n:declId $s:optDeclSig $v:declVal)=>`(noncomputable def $n:declId $s:optDeclSig $v:declVal)
|`(abbrev $n:declId $s:optDeclSig $v:declVal)=>`(noncomputable abbrev $n:declId $s:optDeclSig $v:declVal)
local macro_rules
|`(#[$a])=>`(.cons $a .nil)
|`(#[$a,$as,*])=>`(.cons $a #[$as,*])
local macro_rules
|`(!$n:num)=>`(.var $n)
local macro_rules
|`(¬$n:num)=>`(.cst (.int $n))
set_option hygiene true
open Array(getElem?_toList)
open Bool(and_eq_true false_eq_true not_eq_true' or_eq_true)
open Classical(byContradiction choose_spec)
open PySem.Heap(get?_update_other get?_update_self size_push)
open Int(emod_nonneg eq_ofNat_of_zero_le not_lt)
open List(all_cons all_eq_true all_map any_cons any_map append_nil cons_append contains_iff_mem drop_drop ext_getElem filter_congr filter_eq_self find?_cons getElem_map getElem_of_mem length length_append length_cons length_drop length_filter_le length_map length_nil length_range length_set length_take lookup_cons map_append map_congr_left map_cons map_id map_nil mem_append mem_cons mem_map_of_mem mem_replicate nil_append nodup_nil not_mem_nil of_mem_zip pairwise_map range' replicate reverse_cons set_cons_succ set_cons_zero set_set size_toArray toArray zip_cons_cons)
open Nat(le_of_lt le_succ lt_irrefl lt_succ_of_lt lt_succ_self lt_trans mod_lt ne_of_gt zero_le)
open Option(bind_some getD_none map_some)
open PySem.W(callWith_K callWith_K0 cellsFrom_some codeIn emptyDict eq_sortI findCls findIn handedIn hasDictIn instObj kat_lt keepIn kia_one kitOne kitx_list lookIn makesIn methodObj plainGet plainGet_of plainOver readsIn sortI_rises specialIn takerIn typeIn)
def aab:=@Option.bind_eq_some_iff
def aac:=@Bool.false_ne_true
def aad:=@PySem.wpAny_bind
def aae:=@List.getElem?_eq_some_iff
def aaf:=@List.getElem?_set_ne
def aag:=@PySem.Heap.get?_push_of_some
def aah:=@List.length_map
def aai:=@if_pos
def aaj:=@PySem.wpAny_pure
def aak:=@List.getElem?_set_self
def aal:=@if_neg
def aam:=@List.mem_cons_of_mem
def aan:=@List.mem_cons_self
def aao:=@Nat.le_refl
def aap:=@List.map_cons
def aaq:=@List.size_toArray
def aar:=@PySem.Heap.lt_size
def aas:=@Nat.lt_of_lt_of_le
def aat:=@List.getElem?_append_left
def aau:=@List.mem_singleton
def aav:=@PySem.Heap.get?_push_size
def aaw:=@List.prefix_refl
def aax:=@of_decide_eq_true
def aay:=@List.getElem?_eq_getElem
def aaz:=@List.length_cons
def aaA:=@Nat.ne_of_lt
def aaB:=@List.length_append
def aaC:=@List.mem_filter
def aaD:=@List.getElem?_map
def aaE:=@List.mem_of_getElem?
def aaF:=@PySem.W.sortI_perm
def aaG:=@List.mem_cons
def aaH:=@Option.some.inj
def aaI:=@List.mem_append_right
def aaJ:=@Option.map_eq_some_iff
def aaK:=@PySem.W.mg_of
def aaL:=@List.mem_append
def aaM:=@Nat.le_trans
def aaN:=@List.nodup_append
def aaO:=@List.getElem?_append_right
def aaP:=@List.nodup_cons
def aaQ:=@Array.length_toList
def aaR:=@List.lookup_cons
def aaS:=@List.filter_sublist
def aaT:=@List.mem_append_left
def aaU:=@beq_eq_false_iff_ne
def aaV:=@PySem.wpAny_newObj_type
def aaW:=@List.map_map
def aaX:=@List.mem_map
def aaY:=@List.prefix_append
def aaZ:=@decide_eq_true_eq
def aa2:=@List.pairwise_cons
open PySem.W(Frag sortI nsIn fnOf isFn)
section
namespace L2
open PySem PySem.Spec PyProof.Rows
abbrev Key:=Sum Int Str
def qy:Key->Value->Bool
 |.inl k,v=>Value.isInt k v
 |.inr x,v=>Value.isStrOf x v
def Vy(w:World):Key->Int
 |.inl k=>hashInt k
 |.inr x=>hashStr w x
theorem bP:∀{k:Key} {v:Value},qy k v=true->(∃i t,k=Sum.inl i/\v=Value.int i t)\/(∃x t,k=Sum.inr x/\v=Value.str x t)
 | .inl i,v,h=>by
  obtain⟨t,e⟩:=Value.isInt_shape (k:=i) (v:=v) h;exact .inl ⟨i,t,rfl,e⟩
 | .inr x,v,h=>by
  obtain⟨t,e⟩:=Value.isStrOf_shape (x:=x) (v:=v) h;exact .inr ⟨x,t,rfl,e⟩
theorem Cb(i:Int)(t:Tok):qy (.inl i) (.int i t)=true:=by simp[qy,Value.isInt]
theorem Cc(x:Str)(t:Tok):qy (.inr x) (.str x t)=true:=by simp[qy,Value.isStrOf]
theorem Mn(a b:Int):decide ((Sum.inl a:Key)=Sum.inl b)=(a==b):=by
 by_cases e:a=b
 ·subst e;simp
 ·have h:¬ (Sum.inl a:Key)=Sum.inl b:=λq=>e (Sum.inl.inj q);rw[decide_eq_false h];exact(aaU.mpr e).symm
theorem Mp(a b:Str):decide ((Sum.inr a:Key)=Sum.inr b)=decide (a=b):=by
 by_cases e:a=b
 ·subst e;simp
 ·have h:¬ (Sum.inr a:Key)=Sum.inr b:=λq=>e (Sum.inr.inj q);rw[decide_eq_false h,decide_eq_false e]
theorem Mq(a:Int)(b:Str):decide ((Sum.inl a:Key)=Sum.inr b)=false:=decide_eq_false (λq=>nomatch q)
theorem Mr(a:Str)(b:Int):decide ((Sum.inr a:Key)=Sum.inl b)=false:=decide_eq_false (λq=>nomatch q)
def aY(prog:Program)(w:World):PySem.KeyKind prog w Key where
 is:=qy
 hash:=Vy w
 inj:=λv a b ha hb=>by
  rcases bP ha with ⟨i,t,rfl,rfl⟩|⟨x,t,rfl,rfl⟩
  ·rcases bP hb with ⟨j,u,rfl,e⟩|⟨y,u,rfl,e⟩
   ·injection e with e1 _;rw[e1]
   ·exact nomatch e
  ·rcases bP hb with ⟨j,u,rfl,e⟩|⟨y,u,rfl,e⟩
   ·exact nomatch e
   ·injection e with e1 _;rw[e1]
 byValue:=λk v h=>by
  rcases bP h with ⟨i,t,rfl,rfl⟩|⟨x,t,rfl,rfl⟩<;>rfl
 pyHash:=λhv h=>by
  rcases bP hv with ⟨i,t,rfl,rfl⟩|⟨x,t,rfl,rfl⟩
  ·exact wpAny_pyHash_int h
  ·exact wpAny_pyHash_str h
 eqBool:=λhu hv h=>by
  rcases bP hu with ⟨i,t,rfl,rfl⟩|⟨x,t,rfl,rfl⟩
  ·rcases bP hv with ⟨j,u,rfl,rfl⟩|⟨y,u,rfl,rfl⟩
   ·rw[Mn]at h;exact wpAny_eqBool_int h
   ·rw[Mq]at h;exact SeqAt.EqAt.int_str i t y u _ _ _ _ h
  ·rcases bP hv with ⟨j,u,rfl,rfl⟩|⟨y,u,rfl,rfl⟩
   ·rw[Mr]at h;exact SeqAt.EqAt.str_int x t j u _ _ _ _ h
   ·rw[Mp]at h;exact wpAny_eqBool_str h
 «strs»:=λk x t v h=>by
  rcases bP h with ⟨i,u,rfl,e⟩|⟨y,u,rfl,e⟩
  ·exact nomatch e
  ·injection e with e1 _
   subst e1;cases v<;>rfl
theorem zh(prog:Program)(w:World)(k:Key)(v:Value):(aY prog w).is k v=qy k v:=rfl
theorem wJ(prog:Program)(w:World)(i:Int)(t:Tok):(aY prog w).is (.inl i) (.int i t)=true:=Cb i t
theorem wK(prog:Program)(w:World)(x:Str)(t:Tok):(aY prog w).is (.inr x) (.str x t)=true:=Cc x t
inductive V where
 |non|bl (b:Bool)|int (i:Int)|str (x:Str)|byt (b:Array UInt8)|flt (b:UInt64)|ref (a:Addr)|ty (n:String)
 deriving DecidableEq
def RelV:V->Value->Prop
 |.non,u=>u=Value.none
 |.bl b,u=>u=Value.bool b
 |.int i,u=>∃t,u=Value.int i t
 |.str x,u=>∃t,u=Value.str x t
 |.byt b,u=>∃t,u=Value.bytes b t
 |.flt b,u=>∃t,u=Value.float b t
 |.ref a,u=>u=Value.ref a
 |.ty n,u=>u=Value.type n
abbrev Vals:List V->List Value->Prop:=Paired RelV
theorem Vals.length(r:Vals xs us):xs.length=us.length:=Paired.length r
theorem Vals.get:∀{xs:List V} {us:List Value} {i:Nat} {x:V},Vals xs us->xs[i]?=some x->∃u,us[i]?=some u/\RelV x u
 |_,_,_,_,.nil,e=>by simp at e
 |_,_,0,_,.cons r _,e=>by simp at e;subst e;exact⟨_,rfl,r⟩
 | _,_,i+1,x,.cons _ t,e=>by
  obtain⟨u,h1,h2⟩:=Vals.get (i:=i) (x:=x) t (by simpa using e);exact⟨u,by simpa using h1,h2⟩
theorem Vals.set(r:RelV x u):∀{xs:List V} {us:List Value} (i:Nat),Vals xs us->Vals (xs.set i x) (us.set i u)
 |_,_,_,.nil=>.nil
 |_,_,0,.cons _ t=>.cons r t
 |_,_,i+1,.cons q t=>.cons q (Vals.set r i t)
theorem Vals.append:∀{xs ys:List V} {us ws:List Value},Vals xs us->Vals ys ws->Vals (xs++ys) (us++ws)
 |_,_,_,_,.nil,s=>s
 |_,_,_,_,.cons r t,s=>.cons r (Vals.append t s)
theorem Vals.take:∀{xs:List V} {us:List Value} (n:Nat),Vals xs us->Vals (xs.take n) (us.take n)
 |_,_,0,_=>.nil
 |_,_,_+1,.nil=>.nil
 |_,_,n+1,.cons r t=>.cons r (Vals.take n t)
theorem Vals.drop:∀{xs:List V} {us:List Value} (n:Nat),Vals xs us->Vals (xs.drop n) (us.drop n)
 |_,_,0,r=>r
 |_,_,_+1,.nil=>.nil
 |_,_,n+1,.cons _ t=>Vals.drop n t
def kH:Option V->Option Value->Prop
 |some v,some u=>RelV v u
 |none,none=>True
 |_,_=>False
def KV{κ:Type}:List (κ × V)->List (κ × Value)->Prop:=Paired λ(p:κ × V) (q:κ × Value)=>p.1=q.1/\RelV p.2 q.2
def kV:Key->V
 |.inl i=>.int i
 |.inr x=>.str x
inductive HO where
  |lst (xs:List V)
  |tup (xs:List V)
  |dK (kvs:List (Key×V))|dT (kvs:List (List Key×V))
  |set (S:Int->Bool) (n:Nat)
  |ins (C dx:Addr) (fs:List (Str×V))
  |own (x:Addr)
  |xd (fs:List (Str×V))
  |met (f x:Addr)
  |rng (lo hi:Int)
  |kI (o:Obj) (u:HO)
  |tbl (ps:Array Value)
  |ext (φ:Heap->Prop)
abbrev Hp:=Addr->Option HO
def upd(H:Hp)(a:Addr)(o:HO):Hp:=λb=>if b=a then some o else H b
theorem aP:upd H a o a=some o:=by unfold upd;rw[aai rfl]
theorem au(h:b≠a):upd H a o b=H b:=by unfold upd;rw[aal h]
theorem IJ:upd (upd H a o) a u=upd H a u:=by
 funext b;unfold upd;split<;>rfl
theorem Q4{H:Hp}{a b:Addr}{o u:HO}(h:H a=some o)(h':H b=some u)(d:o≠u):a≠b:=by
 intro e;subst e;rw[h]at h';exact d (aaH h')
theorem aM{H:Hp}{a b:Addr}{o:HO}(h:H a=some o)(h':H b=none):a≠b:=by
 intro e;subst e;rw[h]at h';cases h'
section
variable (P:Program) (w:World)
def bR(H:Hp)(h:Heap)(a:Addr):HO->Prop
 |.lst xs=>xs.length<=sizeLine/\∃(its:List Value) (n:Nat),Vals xs its/\h.get? a=some { cls:=.type "list",data:=.seq its.toArray n }
 |.tup xs=>xs.length<=sizeLine/\∃its:List Value,Vals xs its/\IsTup h a its.toArray
 |.dK kvs=>kvs.length<=sizeLine/\(a==sysModules)=false/\∃vs,KV kvs vs/\h.DictOf (aY P w) a vs
 | .dT kvs=>kvs.length<=sizeLine/\(a==sysModules)=false/\∃xs:List (List Key×Addr×Value),
   Paired (λ(p:List Key×V) (q:List Key×Addr×Value)=>p.1=q.1/\H q.2.1=some (.tup (p.1.map kV))/\RelV p.2 q.2.2) kvs xs /\
   ∃o es ep,h.get? a=some o/\o.ExactDict/\o.data=.dict es ep/\es.toList=xs.map (entryOfKey (tupleKind (aY P w)))/\(xs.map (·.1)).Nodup
 |.set S n=>h.SetOf (intKind P w) a S n
 | .ins C dx fs=>H dx=some (.own a)/\fs.length<=1000/\dx≠a/\h.get? a=some (instObj C dx) /\
   ∃mA,h.Ns1 dx mA/\(∀f,kH (fs.lookup f) (mA f))/\PySem.Within mA (fs.map (·.1))
 |.own _=>∃o,h.get? a=some o
 |.xd fs=>∃mA,h.Ns1 a mA/\∀f,kH (fs.lookup f) (mA f)
 |.rng lo hi=>∃t u v,h.get? a=some { cls:=.type "range",data:=.fields [.int lo t,.int hi u,.int 1 v].toArray }
 |.kI o u=>h.get? a=some o/\bR H h a u
 |.tbl ps=>h.get? a=some { cls:=.none,data:=.fields ps }
 |.met f x=>h.get? a=some (methodObj (.ref f) (.ref x))
 |.ext φ=>φ h/\(∃o,h.get? a=some o)/\∀h1 h2:Heap,φ h1->(∀o,h1.get? a=some o->h2.get? a=some o) -> φ h2
def mG(H:Hp)(h:Heap):Prop:=∀a o,H a=some o->bR P w H h a o
end
section
variable {P:Program} {w:World} {H H':Hp} {h h':Heap} {a:Addr} {o:HO}
theorem bR.lt(x:bR P w H h a o):a<h.objs.size:=by
 cases o with
 |lst xs=>obtain⟨_,_,_,_,e⟩:=x;exact aar e
 |tup xs=>obtain⟨_,_,_,p⟩:=x;exact p.lt
 |dK kvs=>obtain⟨_,_,_,_,o,_,_,e,_⟩:=x;exact aar e
 |dT kvs=>obtain⟨_,_,_,_,o,_,_,e,_⟩:=x;exact aar e
 |set S n=>obtain⟨o,_,_,_,e,_⟩:=x;exact aar e
 |ins C dx fs=>obtain⟨_,_,_,e,_⟩:=x;exact aar e
 |own y=>obtain⟨_,e⟩:=x;exact aar e
 |xd fs=>obtain⟨_,⟨_,_,_,e,_⟩,_⟩:=x;exact aar e
 |rng lo hi=>obtain⟨_,_,_,e⟩:=x;exact aar e
 |kI ob u=>obtain⟨e,_⟩:=x;exact aar e
 |tbl ps=>exact aar (show h.get? a=some _ from x)
 |met f y=>exact aar (show h.get? a=some _ from x)
 |ext φ=>obtain⟨_,⟨_,e⟩,_⟩:=x;exact aar e
theorem Paired.Ms{α β:Type}{F G:α -> β -> Prop}:∀{l₁:List α} {l₂:List β},Paired F l₁ l₂->(∀a b,F a b->G a b)->Paired G l₁ l₂
 |_,_,.nil,_=>.nil
 |_,_,.cons r t,f=>.cons (f _ _ r) (Paired.Ms t f)
theorem bR.stay(x:bR P w H h a o)(k:∀b u,(b=a\/H b=some (.own a))->h.get? b=some u->h'.get? b=some u)
  (ho:∀b,H b=some (.own a)->H' b=some (.own a)) (ht:∀b xs,H b=some (.tup xs)->H' b=some (.tup xs)):bR P w H' h' a o:=by
 induction o with
 |lst xs=>obtain⟨z,its,n,r,e⟩:=x;exact⟨z,its,n,r,k _ _ (.inl rfl) e⟩
 |tup xs=>obtain⟨z,its,r,ob,e,c⟩:=x;exact⟨z,its,r,ob,k _ _ (.inl rfl) e,c⟩
 |dK kvs=>obtain⟨z,y,vs,r,ob,es,ep,e,c⟩:=x;exact⟨z,y,vs,r,ob,es,ep,k _ _ (.inl rfl) e,c⟩
 |dT kvs=>obtain⟨z,y,xs,r,ob,es,ep,e,c⟩:=x;exact⟨z,y,xs,Paired.Ms r λp q z=>⟨z.1,ht _ _ z.2.1,z.2.2⟩,ob,es,ep,k _ _ (.inl rfl) e,c⟩
 |set S n=>obtain⟨ob,es,ep,t,e,c⟩:=x;exact⟨ob,es,ep,t,k _ _ (.inl rfl) e,c⟩
 |ins C dx fs=>obtain⟨d,z,ne,e,mA,⟨od,es,ep,e2,c⟩,r⟩:=x;exact⟨ho _ d,z,ne,k _ _ (.inl rfl) e,mA,⟨od,es,ep,k _ _ (.inr d) e2,c⟩,r⟩
 |own y=>obtain⟨ob,e⟩:=x;exact⟨ob,k _ _ (.inl rfl) e⟩
 |xd fs=>obtain⟨mA,⟨od,es,ep,e,c⟩,r⟩:=x;exact⟨mA,⟨od,es,ep,k _ _ (.inl rfl) e,c⟩,r⟩
 |rng lo hi=>obtain⟨t,u,v,e⟩:=x;exact⟨t,u,v,k _ _ (.inl rfl) e⟩
 |kI ob u ih=>obtain⟨e,q⟩:=x;exact⟨k _ _ (.inl rfl) e,ih q⟩
 |tbl ps=>have e:h.get? a=some { cls:=.none,data:=.fields ps }:=x;show h'.get? a=some { cls:=.none,data:=.fields ps };exact k a _ (.inl rfl) e
 |met f y=>have e:h.get? a=some (methodObj (.ref f) (.ref y)):=x;show h'.get? a=some (methodObj (.ref f) (.ref y));exact k a _ (.inl rfl) e
 |ext φ=>obtain⟨p,⟨o,e⟩,st⟩:=x;exact⟨st _ _ p λo q=>k _ _ (.inl rfl) q,⟨o,k _ _ (.inl rfl) e⟩,st⟩
theorem mG.lt(x:mG P w H h)(e:H a=some o):a<h.objs.size:=(x a o e).lt
theorem mG.fresh(x:mG P w H h)(e:h.objs.size<=a):H a=none:=by
 cases q:H a with
 |none=>rfl
 |some u=>exact absurd (aas (x.lt q) e) (lt_irrefl _)
theorem mG.kept(x:mG P w H h)(k:∀b u,h.get? b=some u->h'.get? b=some u):mG P w H h':=λa o e=>
 (x a o e).stay (λb u _ q=>k b u q) (λ_ q=>q) λ_ _ q=>q
theorem mG.laid(x:mG P w H h)(k:∀b u,h.get? b=some u->h'.get? b=some u)(hp:h.objs.size<=a)(new:bR P w (upd H a o) h' a o):mG P w (upd H a o) h':=λb u e=>by
 have hn:=x.fresh hp
 by_cases hb:b=a
 ·subst hb;rw[aP]at e;cases e;exact new
 ·rw[au hb]at e;exact(x b u e).stay (λc v _ q=>k c v q) (λc q=>by rw[au (aM q hn)];exact q) λc xs q=>by rw[au (aM q hn)];exact q
end
def Rd(H:Hp)(a:Addr)(u:HO):Prop:=H a=some u\/∃o,H a=some (.kI o u)
theorem Rd.ok(r:Rd H a u)(x:mG P w H h):bR P w H h a u:=by
 rcases r with r|⟨o,r⟩
 ·exact x a u r
 ·obtain⟨_,q⟩:=x a _ r;exact q
def Q5:Option HO->Prop
 |some (.lst _)=>True
 |some (.dK _)=>True
 |some (.dT _)=>True
 |some (.set _ _)=>True
 |some (.ins _ _ _)=>True
 |some (.ext _)=>True
 |_=>False
section
variable {P:Program} {w:World} {H:Hp} {h h':Heap} {x e:Addr} {o':HO}
theorem mG.write(ok:mG P w H h)(mu:Q5 (H x))(he:e=x\/H e=some (.own x))(k:∀b u,b≠e->h.get? b=some u->h'.get? b=some u)(QG:∃u,h'.get? e=some u)
  (new:bR P w (upd H x o') h' x o'):mG P w (upd H x o') h':=λb u q=>by
 have nown:∀c y,H c=some (.own y)->c≠x:=λc y r z=>by subst z;rw[r]at mu;exact mu
 have ntup:∀c xs,H c=some (.tup xs)->c≠x:=λc xs r z=>by subst z;rw[r]at mu;exact mu
 by_cases hb:b=x
 ·subst hb;rw[aP]at q;cases q;exact new
 ·rw[au hb]at q
  by_cases Mt:b=e
  ·have q':H b=some (.own x):=by
    rcases he with z|z
    ·exact absurd (Mt.trans z) hb
    ·rw[Mt];exact z
   rw[q]at q';cases q';obtain⟨v,hv⟩:=QG;exact⟨v,by rw[Mt];exact hv⟩
  ·refine(ok b u q).stay (λc v hc r=>k c v ?_ r) (λc r=>by rw[au (nown c b r)];exact r) λc xs r=>by rw[au (ntup c xs r)];exact r
   rcases hc with rfl|hc
   ·exact Mt
   ·rintro rfl
    rcases he with z|z
    ·exact nown c b hc z
    ·rw[hc]at z;cases z;exact hb rfl
end
structure Un (fs ex:List Addr) (H H':Hp) (h h':Heap):Prop where
 keep:∀b o,h.get? b=some o->H b=none->b∉fs->b∉ex->h'.get? b=some o
 slot:∀b o,h.get? b=some o->H b=none->b∈fs->b∉ex->∃sl,h'.get? b=some { o with slots:=sl }
 free:∀b o,h.get? b=some o->H b=none->b∉ex->H' b=none
 there:∀b o,h.get? b=some o->b∉ex->∃o',h'.get? b=some o'
 tups:∀b xs,H b=some (.tup xs)->H' b=some (.tup xs)
 frzs:∀b o u,H b=some (.kI o u)->H' b=some (.kI o u)
 tB:∀b ps,H b=some (.tbl ps)->∃more,H' b=some (.tbl (ps++more))
section
variable {fs fs' ex ex':List Addr} {H H1 H2:Hp} {h h1 h2 h':Heap} {a x e:Addr} {o:HO}
theorem Un.any(u:Un fs ex H H1 h h1)(q:h.get? b=some ob)(n:H b=none)(hx:b∉ex):∃sl,h1.get? b=some { ob with slots:=sl }:=by
 by_cases hb:b∈fs
 ·exact u.slot b ob q n hb hx
 ·exact⟨ob.slots,u.keep b ob q n hb hx⟩
theorem Un.kept(k:∀b u,h.get? b=some u->h'.get? b=some u):Un fs ex H H h h' :=
 ⟨λb ob q _ _ _=>k b ob q,λb ob q _ _ _=>⟨ob.slots,k b ob q⟩,λ_ _ _ n _=>n,λb ob q _=>⟨ob,k b ob q⟩,λ_ _ q=>q,λ_ _ _ q=>q,λ_ ps q=>⟨#[],by rw[q];simp⟩⟩
theorem Un.refl:Un fs ex H H h h:=Un.kept λ_ _ q=>q
theorem Un.laid(k:∀b u,h.get? b=some u->h'.get? b=some u)(hp:h.objs.size<=a)(hn:H a=none):Un fs ex H (upd H a o) h h' where
 keep:=λb u q _ _ _=>k b u q
 slot:=λb u q _ _ _=>⟨u.slots,k b u q⟩
 free:=λb u q n _=>by rw[au (aaA (aas (aar q) hp))];exact n
 there:=λb u q _=>⟨u,k b u q⟩
 tups:=λb xs q=>by rw[au (aM q hn)];exact q
 frzs:=λb u xs q=>by rw[au (aM q hn)];exact q
 tB:=λb ps q=>⟨#[],by rw[au (aM q hn),q];simp⟩
theorem Un.write(mu:Q5 (H x))(he:e=x\/H e=some (.own x))(k:∀b u,b≠e->h.get? b=some u->h'.get? b=some u)(QG:∃u,h'.get? e=some u):Un fs ex H (upd H x o) h h':=by
 have hx:∀b,H b=none->b≠x:=λb n z=>by subst z;rw[n]at mu;exact mu
 have hb:∀b,H b=none->b≠e:=λb n z=>by
  subst z
  rcases he with r|r
  ·exact hx b n r
  ·rw[n]at r;cases r
 have hm:∀b u,H b=some u->¬ Q5 (some u)->b≠x:=λb u q nm z=>by subst z;rw[q]at mu;exact nm mu
 refine⟨λb u q n _ _=>k b u (hb b n) q,λb u q n _ _=>⟨u.slots,k b u (hb b n) q⟩,λb u q n _=>by rw[au (hx b n)];exact n,λb u q _=>?_,
  λb xs q=>by rw[au (hm b _ q λz=>z)];exact q,λb u xs q=>by rw[au (hm b _ q λz=>z)];exact q,λb ps q=>⟨#[],by rw[au (hm b _ q λz=>z),q];simp⟩⟩
 by_cases Mt:b=e
 ·subst Mt;exact QG
 ·exact⟨u,k b u Mt q⟩
end
def lX(h:Heap)(H:Hp):List Addr:=(List.range h.objs.size).filter λa=>(H a).isSome
def u7(h:Heap)(H:Hp):Heap:=PySem.W.hideAll h (lX h H)
theorem Cd(h:Heap)(H:Hp):(u7 h H).objs.size=h.objs.size:=PySem.W.hideAll_size _ _
theorem DC(e:h.get? b=some o)(n:H b=none):(u7 h H).get? b=some o :=
 PySem.W.hideAll_get _ e λhm=>by
  have q:(H b).isSome=true:=(aaC.mp hm).2;rw[n]at q;simp at q
theorem IK(e:(u7 h H).get? b=some o):h.get? b=some o/\H b=none:=by
 have e':h.get? b=some o:=PySem.W.of_hideAll (lX h H) e;refine⟨e',?_⟩;cases q:H b with
 |none=>rfl
 |some x=>have hm:b∈lX h H:=aaC.mpr ⟨List.mem_range.mpr (aar e'),by simp[q]⟩;have z:(u7 h H).get? b=none:=PySem.W.hideAll_none (lX h H) hm;rw[z]at e;cases e
def IL(g h:Heap)(L:Addr):List (Addr×Obj):=(List.range h.objs.size).filterMap λa=>if a=L\/(g.get? a).isSome=true then none else (h.get? a).map λo=>(a,o)
def rest(g h:Heap)(L d:Addr):List (Addr×Obj):=(IL g h L).filter λp=>decide (p.1≠d)
structure Mod (K:Frag) (mg:Str->Option Value) (base:Heap):Prop where
 QH:K.In base
 glob:base.Ns mainGlobals mg
 blt:∃mb,base.Ns builtinsNs mb/\∀x:Str,x ≠ "__name__" -> mb x=bootBuiltins x
 nolimit:base.NoLimit
structure Cx where
 prog:Program
 w:World
 K:Frag
 mg:Str->Option Value
 base:Heap
 A:Around
 N:List Str
 s₀:Shared
 H₀:Hp
 env:Env
 outer:List Env
 stack:List Env
 ex:List Addr
 fn:Str->Bool
 calm:Bool
 pn:List (Addr×Obj)
 xe:Value->Shared->Prop
def frs(l:List Env):List Addr:=l.filterMap (·.frame)
abbrev Cx.fs(X:Cx):List Addr:=frs X.outer
def Q6(sc:Scope)(x:Str):Prop:=sc.names.lookup x=some .local\/sc.names.lookup x=some .cell\/sc.names.lookup x=some .free
def Loc(sc:Scope)(x:Str):Prop:=sc.names.lookup x=some .local\/sc.names.lookup x=some .cell
def Look(env:Env)(h:Heap)(m:Str->Option Value)(x:Str)(u:Value):Prop :=
 (env.kindOf x=some .local/\m x=some u)\/((env.kindOf x=some .cell\/env.kindOf x=some .free)/\∃c,env.cells.lookup x=some c/\h.IsCell c (some u))
structure Cx.Ok (X:Cx):Prop where
 mod:Mod X.K X.mg X.base
 kind:X.env.scope.kind=.function
 glob:X.env.globals=mainGlobals
 blt:X.env.builtins=builtinsNs
 above:X.s₀.heap.objs.size<=X.env.locals
 inj:∀x y c,X.env.cells.lookup x=some c->X.env.cells.lookup y=some c->x=y
 has:∀x,(X.env.kindOf x=some .cell\/X.env.kindOf x=some .free)->∃c,X.env.cells.lookup x=some c
 Q7:∀x c,X.fn x=true->X.env.cells.lookup x=some c->X.s₀.heap.objs.size<=c
 hd:X.calm=true->X.A.handled=none
 frames:X.A.frames=some X.stack
 stk:X.stack=X.outer\/(X.stack=X.env::X.outer/\X.env.frame=some X.env.locals)
 Vz:∀b∈X.ex,b≠X.env.locals/\∀x c,X.env.cells.lookup x=some c->c≠b
 bs:∀b o,X.base.get? b=some o->X.s₀.heap.get? b=some o/\X.H₀ b=none
 Ly:X.base.objs.size<=X.s₀.heap.objs.size
 mH:∀b o,X.base.get? b=some o->b∉X.ex
 DE:∀b∈X.ex,b∉X.fs
 pS:X.s₀.heap.FunFrames X.base X.outer
 Mv:∀b∈X.fs,X.H₀ b=none
structure Inv (X:Cx) (pins:List (Addr×Obj)) (σ:List (Option V)) (H:Hp) (s:Shared):Prop where
 ok:X.Ok
 os:s.os=X.s₀.os
 bare:AllBare s.gens
 base:Un X.fs X.ex X.H₀ H X.s₀.heap s.heap
 loc:∃m,s.heap.Ns X.env.locals m/\∀(i:Nat) (x:Str) (v:V),X.N[i]?=some x -> σ[i]?=some (some v)->Q6 X.env.scope x->∃u,RelV v u/\Look X.env s.heap m x u
 cell:∀x c,X.env.cells.lookup x=some c->∃v,s.heap.IsCell c v
 free:H X.env.locals=none
 iZ:∀x c,X.env.cells.lookup x=some c->H c=none
 pin:∀p∈X.pn++pins,s.heap.get? p.1=some p.2/\H p.1=none/\p.1≠X.env.locals/\p.1∉X.fs/\∀v,p.2.data≠.cell v
 hok:mG X.prog X.w H s.heap
 len:σ.length=X.N.length
section
variable {X:Cx} {pins:List (Addr×Obj)} {σ:List (Option V)} {H H':Hp} {s:Shared} {h':Heap}
theorem Cx.Ok.VA(ok:X.Ok)(e:X.base.get? b=some o):b∉X.fs:=λhb=>by
 have:=(ok.pS.mem hb).1;rw[e]at this;cases this
theorem Inv.bs(I:Inv X pins σ H s):∀b o,X.base.get? b=some o->s.heap.get? b=some o/\H b=none:=λb o e=>
 ⟨I.base.keep b o (I.ok.bs b o e).1 (I.ok.bs b o e).2 (I.ok.VA e) (I.ok.mH b o e),I.base.free b o (I.ok.bs b o e).1 (I.ok.bs b o e).2 (I.ok.mH b o e)⟩
theorem Inv.bk(I:Inv X pins σ H s):∀b o,X.base.get? b=some o->s.heap.get? b=some o:=λb o e=>(I.bs b o e).1
theorem Inv.mod(I:Inv X pins σ H s):Mod X.K X.mg X.base:=I.ok.mod
theorem Inv.n8(I:Inv X pins σ H s):X.K.In s.heap:=I.ok.mod.QH.keeps I.bk
theorem Inv.lt(I:Inv X pins σ H s):X.env.locals<s.heap.objs.size:=let ⟨_,hn,_⟩:=I.loc;hn.lt
theorem Inv.sz(I:Inv X pins σ H s):X.s₀.heap.objs.size<=s.heap.objs.size:=aaM I.ok.above (le_of_lt I.lt)
theorem Inv.VB(I:Inv X pins σ H s)(h:s.heap.objs.size<=a):a∉X.fs:=λhb=>by
 obtain⟨_,o,ho,_⟩:=I.ok.pS.mem hb;exact absurd (aas (aar ho) (aaM I.sz h)) (lt_irrefl _)
theorem Inv.cne(I:Inv X pins σ H s):∀x c,X.env.cells.lookup x=some c->c≠X.env.locals:=λx c e z=>by
 obtain⟨v,o,ho,hd⟩:=I.cell x c e;obtain⟨m,⟨o',es,ep,ho',hd',_⟩,_⟩:=I.loc;rw[z,ho']at ho;cases ho;rw[hd']at hd;cases hd
theorem Inv.pS(I:Inv X pins σ H s):s.heap.FunFrames X.base X.outer:=by
 have all:∀(l:List Env),(∀b∈frs l,b∈X.fs)->X.s₀.heap.FunFrames X.base l->s.heap.FunFrames X.base l:=by
  intro l
  induction l with
  |nil=>intro _ _;trivial
  |cons env r ih=>intro hs hl;obtain⟨hk,⟨L,o,hf,hn,ho,hd⟩,hr⟩:=hl;have hL:L∈X.fs:=hs L (by unfold frs;rw[List.filterMap_cons,hf];exact aan);obtain⟨sl,e⟩:=I.base.slot L o ho (I.ok.Mv L hL) hL λz=>I.ok.DE L z hL;exact⟨hk,⟨L,_,hf,hn,e,hd⟩,ih (λb hb=>hs b (by unfold frs;rw[List.filterMap_cons,hf];exact aam _ hb)) hr⟩
 exact all X.outer (λ_ hb=>hb) I.ok.pS
theorem Inv.stack(I:Inv X pins σ H s):s.heap.FunFrames X.base X.stack:=by
 rcases I.ok.stk with e|⟨e,hf⟩
 ·rw[e];exact I.pS
 ·rw[e];obtain⟨m,hn,_⟩:=I.loc;refine .cons (by rw[I.ok.kind];decide) hf hn ?_ I.pS;exact Heap.get?_none_of_le (aaM I.ok.Ly I.ok.above)
theorem Inv.zj(I:Inv X pins σ H s):∀b∈frs X.stack,b∈X.env.locals::X.fs:=λb hb=>by
 rcases I.ok.stk with e|⟨e,hf⟩
 ·rw[e]at hb;exact aam _ hb
 ·rw[e]at hb;unfold frs at hb;rw[List.filterMap_cons,hf]at hb;exact hb
theorem Inv.AA(I:Inv X pins σ H s):∀b∈frs X.stack,H b=none:=λb hb=>by
 rcases aaG.mp (I.zj b hb) with e|hb
 ·rw[e];exact I.free
 ·obtain⟨_,o,ho,_⟩:=I.ok.pS.mem hb;exact I.base.free b o ho (I.ok.Mv b hb) λz=>I.ok.DE b z hb
theorem Inv.step{g':Array GenState}{t':Nat}{d':Drawn}{ch:List Addr}(I:Inv X pins σ H s)
  (hch:∀b∈ch,(b∈X.ex\/X.s₀.heap.objs.size<=b)/\b≠X.env.locals/\(∀x c,X.env.cells.lookup x=some c->c≠b)/\∀p∈X.pn++pins,p.1≠b)
  (keep:∀b o,b≠X.env.locals->b∉X.fs->b∉ch->s.heap.get? b=some o->H b=none->h'.get? b=some o)
  (slot:∀b o,b≠X.env.locals->b∈X.fs->b∉ch->s.heap.get? b=some o->H b=none->∃sl,h'.get? b=some { o with slots:=sl }) (free:∀b o,b∉ch->s.heap.get? b=some o->H b=none->H' b=none)
  (there:∀b o,b∉ch->s.heap.get? b=some o->∃o',h'.get? b=some o')
  (tups:∀b xs,H b=some (.tup xs)->H' b=some (.tup xs)) (frzs:∀b o u,H b=some (.kI o u)->H' b=some (.kI o u)) (tB:∀b ps,H b=some (.tbl ps)->∃more,H' b=some (.tbl (ps++more)))
  (ns:∀m,s.heap.Ns X.env.locals m->h'.Ns X.env.locals m) (hok:mG X.prog X.w H' h') (hg:AllBare g') :
  Inv X pins σ H' { s with heap:=h',gens:=g',drawn:=d',toks:=t' }:=by
 have neL:∀b o,X.s₀.heap.get? b=some o->b≠X.env.locals:=λb o e=>aaA (aas (aar e) I.ok.above);have neC:∀b o,X.s₀.heap.get? b=some o->b∉X.ex->b∉ch:=λb o e hx hb=>by
  rcases(hch b hb).1 with z|z
  ·exact hx z
  ·exact absurd (aas (aar e) z) (lt_irrefl _)
 have cellK:∀x c,X.env.cells.lookup x=some c->∀v,s.heap.IsCell c v->h'.IsCell c v:=λx c e v ⟨o,ho,hd⟩=>by
  have Q8:c∉ch:=λz=>(hch c z).2.2.1 x c e rfl
  by_cases hc:c∈X.fs
  ·obtain⟨sl,q⟩:=slot c o (I.cne x c e) hc Q8 ho (I.iZ x c e);exact⟨_,q,hd⟩
  ·exact⟨o,keep c o (I.cne x c e) hc Q8 ho (I.iZ x c e),hd⟩
 refine⟨I.ok,I.os,hg,⟨λb o e n hb hx=>?_,λb o e n hb hx=>?_,λb o e n hx=>?_,λb o e hx=>?_,λb xs e=>tups b xs (I.base.tups b xs e),λb o xs e=>frzs b o xs (I.base.frzs b o xs e),λb ps e=>?_⟩,?_,λx c e=>?_,?_,λx c e=>?_,λp hp=>?_,hok,I.len⟩
 ·exact keep b o (neL b o e) hb (neC b o e hx) (I.base.keep b o e n hb hx) (I.base.free b o e n hx)
 ·obtain⟨sl,e1⟩:=I.base.slot b o e n hb hx;obtain⟨YZ,e2⟩:=slot b _ (neL b o e) hb (neC b o e hx) e1 (I.base.free b o e n hx);exact⟨YZ,e2⟩
 ·obtain⟨o',e1⟩:=I.base.there b o e hx;exact free b o' (neC b o e hx) e1 (I.base.free b o e n hx)
 ·obtain⟨o',e1⟩:=I.base.there b o e hx;exact there b o' (neC b o e hx) e1
 ·obtain⟨m1,e1⟩:=I.base.tB b ps e;obtain⟨m2,e2⟩:=tB b _ e1;exact⟨m1++m2,by rw[e2,Array.append_assoc]⟩
 ·obtain⟨m,hn,hl⟩:=I.loc
  refine⟨m,ns m hn,λi x v e1 e2 e3=>?_⟩;obtain⟨u,r,l⟩:=hl i x v e1 e2 e3;refine⟨u,r,?_⟩
  rcases l with l|⟨k,c,e,z⟩
  ·exact .inl l
  ·exact .inr ⟨k,c,e,cellK x c e _ z⟩
 ·obtain⟨v,z⟩:=I.cell x c e;exact⟨v,cellK x c e v z⟩
 ·obtain⟨m,⟨o,_,_,ho,_⟩,_⟩:=I.loc;exact free _ o (λz=>(hch _ z).2.1 rfl) ho I.free
 ·obtain⟨v,o,ho,hd⟩:=I.cell x c e;exact free c o (λz=>(hch c z).2.2.1 x c e rfl) ho (I.iZ x c e)
 ·obtain⟨e,n,ne,nf,d⟩:=I.pin p hp;have Q8:p.1∉ch:=λz=>(hch p.1 z).2.2.2 p hp rfl;exact⟨keep p.1 p.2 ne nf Q8 e n,free p.1 p.2 Q8 e n,ne,nf,d⟩
theorem Inv.un{t':Nat}(I:Inv X pins σ H s)(u:Un X.fs [] H H' s.heap h')(hok:mG X.prog X.w H' h'):Inv X pins σ H' { s with heap:=h',toks:=t' }:=by
 obtain⟨m,⟨o,es,ep,ho,r⟩,_⟩:=id I.loc;obtain⟨sl,hL⟩:=u.any ho I.free (by simp);exact I.step (g':=s.gens) (d':=s.drawn) (ch:=[]) (λ_ z=>nomatch z) (λb o _ hb _ e n=>u.keep b o e n hb (by simp)) (λb o _ hb _ e n=>u.slot b o e n hb (by simp)) (λb o _ e n=>u.free b o e n (by simp)) (λb o _ e=>u.there b o e (by simp)) u.tups u.frzs u.tB (λm' hm=>by
  obtain⟨o',es',VC,ho',r'⟩:=hm;rw[ho]at ho';cases ho';exact⟨_,es',VC,hL,r'⟩) hok I.bare
theorem Inv.call{t':Nat}(I:Inv X pins σ H s)(u:Un (frs X.stack) ch H H' s.heap h')(hok:mG X.prog X.w H' h')(hg:AllBare g')
  (hch:∀b∈ch,(b∈X.ex\/X.s₀.heap.objs.size<=b)/\b≠X.env.locals/\(∀x c,X.env.cells.lookup x=some c->c≠b)/\∀p∈X.pn++pins,p.1≠b) :
  Inv X pins σ H' { s with heap:=h',gens:=g',drawn:=d',toks:=t' }:=by
 obtain⟨m,⟨o,es,ep,ho,r⟩,_⟩:=id I.loc;obtain⟨sl,hL⟩:=u.any ho I.free λz=>(hch _ z).2.1 rfl;exact I.step (ch:=ch) hch (λb o hL hb hc e n=>u.keep b o e n (λz=>(aaG.mp (I.zj b z)).elim hL hb) hc) (λb o _ _ hc e n=>u.any e n hc) (λb o hc e n=>u.free b o e n hc) (λb o hc e=>u.there b o e hc) u.tups u.frzs u.tB (λm' hm=>by
  obtain⟨o',es',VC,ho',r'⟩:=hm;rw[ho]at ho';cases ho';exact⟨_,es',VC,hL,r'⟩) hok hg
theorem Inv.turned{t':Nat}(I:Inv X pins σ H s)(k:∀b o,b≠it->s.heap.get? b=some o->h'.get? b=some o)(hn:H it=none)(hL:it≠X.env.locals)
  (h1:it∈X.ex\/X.s₀.heap.objs.size<=it) (h2:∀x c,X.env.cells.lookup x=some c->c≠it) (h3:∀p∈X.pn++pins,p.1≠it):Inv X pins σ H { s with heap:=h',toks:=t' }:=by
 have Q9:∀b u,H b=some u->b≠it:=λb u e z=>by rw[z,hn]at e;cases e
 refine I.step (g':=s.gens) (d':=s.drawn) (ch:=[it]) (λb hb=>?_) (λb o _ _ hc e _=>k b o (λz=>hc (by simp[z])) e) (λb o _ _ hc e _=>⟨o.slots,k b o (λz=>hc (by simp[z])) e⟩) (λ_ _ _ _ n=>n)
  (λb o hc e=>⟨o,k b o (λz=>hc (by simp[z])) e⟩) (λ_ _ e=>e) (λ_ _ _ e=>e) (λb ps e=>⟨#[],by rw[e];simp⟩) (λm hm=>?_) (λb u e=>?_) I.bare
 ·have e:b=it:=by simpa using hb
  subst e;exact⟨h1,hL,h2,h3⟩
 ·obtain⟨o,es,ep,ho,r⟩:=hm;exact⟨o,es,ep,k _ o (Ne.symm hL) ho,r⟩
 ·refine(I.hok b u e).stay (λc v hc q=>k c v ?_ q) (λ_ q=>q) λ_ _ q=>q
  rcases hc with z|z
  ·rw[z];exact Q9 b u e
  ·exact Q9 c _ z
theorem Inv.tok(I:Inv X pins σ H s)(t:Nat):Inv X pins σ H { s with toks:=t }:=I.un (h':=s.heap) (t':=t) Un.refl I.hok
theorem Inv.kept{t':Nat}(I:Inv X pins σ H s)(k:∀b u,s.heap.get? b=some u->h'.get? b=some u):Inv X pins σ H { s with heap:=h',toks:=t' }:=I.un (Un.kept k) (I.hok.kept k)
theorem Inv.laid{t':Nat}(I:Inv X pins σ H s)(k:∀b u,s.heap.get? b=some u->h'.get? b=some u)(hp:s.heap.objs.size<=a)(new:bR X.prog X.w (upd H a o) h' a o) :
  Inv X pins σ (upd H a o) { s with heap:=h',toks:=t' }:=I.un (Un.laid k hp (I.hok.fresh hp)) (I.hok.laid k hp new)
theorem Inv.write{t':Nat}(I:Inv X pins σ H s)(mu:Q5 (H x))(he:e=x\/H e=some (.own x))(k:∀b u,b≠e->s.heap.get? b=some u->h'.get? b=some u)(QG:∃u,h'.get? e=some u)
  (new:bR X.prog X.w (upd H x o) h' x o):Inv X pins σ (upd H x o) { s with heap:=h',toks:=t' }:=I.un (Un.write mu he k QG) (I.hok.write mu he k QG new)
theorem Inv.AB(I:Inv X pins σ H s)(h:∀p∈Ra,s.heap.get? p.1=some p.2/\H p.1=none/\p.1≠X.env.locals/\p.1∉X.fs/\∀v,p.2.data≠.cell v):Inv X Ra σ H s :=
 ⟨I.ok,I.os,I.bare,I.base,I.loc,I.cell,I.free,I.iZ,λp hp=>(aaL.mp hp).elim (λz=>I.pin p (aaT _ z)) (h p),I.hok,I.len⟩
theorem wL{N:List Str}(hN:N.Nodup){i j:Nat}{x:Str}(a:N[i]?=some x)(b:N[j]?=some x):i=j:=by
 obtain⟨h1,e1⟩:=aae.mp a;obtain⟨h2,e2⟩:=aae.mp b;exact(List.getElem_inj hN).mp (e1.trans e2.symm)
theorem ua{i:Nat}(I:Inv X pins σ H s)(hN:X.N.Nodup)(hi:X.N[i]?=some x)(hx:Loc X.env.scope x)(r:RelV v u)
  (h:∀s',Inv X pins (σ.set i (some v)) H s'->(∃a,Heap.SameBut a s.heap s'.heap/\(a=X.env.locals\/X.env.cells.lookup x=some a))->Q () s') (hf:X.fn x=true\/X.env.scope.names.lookup x=some .local):wpAny M A (storeName X.env x u) Q E s:=by
 obtain⟨m,hn,hl⟩:=id I.loc;have hcls:(X.env.scope.kind==.class||(X.env.scope.kind==.module&&X.env.locals != X.env.globals))=false:=by rw[I.ok.kind];rfl
 have Xm:i < σ.length:=by rw[I.len];exact(aae.mp hi).1
 have cne:=I.cne;have tracked:∀{a:Addr} {h':Heap},(∃o,s.heap.get? a=some o/\H a=none)->Heap.SameBut a s.heap h'->mG X.prog X.w H h':=λ{a h'} ha hs b ob e=>by
  obtain⟨_,_,hfree⟩:=ha;refine(I.hok b ob e).stay (λc w' hc q=>(hs.2 c ?_).trans q) (λ_ q=>q) λ_ _ q=>q;rintro rfl
  rcases hc with rfl|hc
  ·rw[hfree]at e;cases e
  ·rw[hfree]at hc;cases hc
 rcases hx with hk|hk
 ·refine wpAny_storeName_local hk hn (λh' hn' hs=>?_) hcls
  obtain⟨oL,_,_,Y0,_⟩:=id hn;refine h _ ⟨I.ok,I.os,I.bare,⟨λb o e n hb hx=>?_,λb o e n hb hx=>?_,I.base.free,λb o e hx=>?_,I.base.tups,I.base.frzs,I.base.tB⟩,⟨_,hn',λj y v' e1 e2 e3=>?_⟩,λy c e=>?_,I.free,I.iZ,λp hp=>?_,tracked ⟨oL,Y0,I.free⟩ hs,by simpa using I.len⟩ ⟨_,hs,.inl rfl⟩
  ·exact(hs.2 b (aaA (aas (aar e) I.ok.above))).trans (I.base.keep b o e n hb hx)
  ·obtain⟨sl,e1⟩:=I.base.slot b o e n hb hx;exact⟨sl,(hs.2 b (aaA (aas (aar e) I.ok.above))).trans e1⟩
  ·obtain⟨o',e1⟩:=I.base.there b o e hx;exact⟨o',(hs.2 b (aaA (aas (aar e) I.ok.above))).trans e1⟩
  ·by_cases hj:j=i
   ·subst hj;rw[hi]at e1;cases e1;rw[aak Xm]at e2;cases e2;exact⟨u,r,.inl ⟨hk,by simp⟩⟩
   ·rw[aaf (Ne.symm hj)]at e2
    obtain⟨u',r',q⟩:=hl j y v' e1 e2 e3;refine⟨u',r',?_⟩
    rcases q with ⟨k,e⟩|⟨k,c,e,z⟩
    ·refine .inl ⟨k,?_⟩;have:y≠x:=λe=>hj (wL hN e1 (e▸hi));simp[this,e]
    ·exact .inr ⟨k,c,e,z.sameBut hs (cne y c e)⟩
  ·obtain⟨w',z⟩:=I.cell y c e;exact⟨w',z.sameBut hs (cne y c e)⟩
  ·obtain⟨e,n,ne,nf,d⟩:=I.pin p hp;exact⟨(hs.2 p.1 ne).trans e,n,ne,nf,d⟩
 ·have hfn:X.fn x=true:=by
   rcases hf with z|z
   ·exact z
   ·rw[z]at hk;cases hk
  obtain⟨c,hc⟩:=I.ok.has x (.inl hk);obtain⟨w',z⟩:=I.cell x c hc;refine wpAny_storeName_cell I.ok.kind hk hc z (λh' hc' hs=>?_);obtain⟨oc,hoc,DF⟩:=id z;refine h { s with heap:=h' } ⟨I.ok,I.os,I.bare,⟨λb o e n hb hx=>?_,λb o e n hb hx=>?_,I.base.free,λb o e hx=>?_,I.base.tups,I.base.frzs,I.base.tB⟩,⟨m,hn.sameBut hs (Ne.symm (cne x c hc)),λj y v' e1 e2 e3=>?_⟩,λy c' e=>?_,I.free,I.iZ,λp hp=>?_,tracked ⟨oc,hoc,I.iZ x c hc⟩ hs,by simpa using I.len⟩ ⟨c,hs,.inr hc⟩
  ·exact(hs.2 b (aaA (aas (aar e) (I.ok.Q7 x c hfn hc)))).trans (I.base.keep b o e n hb hx)
  ·obtain⟨sl,e1⟩:=I.base.slot b o e n hb hx;exact⟨sl,(hs.2 b (aaA (aas (aar e) (I.ok.Q7 x c hfn hc)))).trans e1⟩
  ·obtain⟨o',e1⟩:=I.base.there b o e hx;exact⟨o',(hs.2 b (aaA (aas (aar e) (I.ok.Q7 x c hfn hc)))).trans e1⟩
  ·by_cases hj:j=i
   ·subst hj;rw[hi]at e1;cases e1;rw[aak Xm]at e2;cases e2;exact⟨u,r,.inr ⟨.inl hk,c,hc,hc'⟩⟩
   ·rw[aaf (Ne.symm hj)]at e2
    obtain⟨u',r',q⟩:=hl j y v' e1 e2 e3;refine⟨u',r',?_⟩
    rcases q with q|⟨k,c',e,z'⟩
    ·exact .inl q
    ·refine .inr ⟨k,c',e,z'.sameBut hs ?_⟩;rintro rfl;exact hj (wL hN e1 (I.ok.inj _ _ _ e hc▸hi))
  ·by_cases hcc:c'=c
   ·subst hcc;exact⟨_,hc'⟩
   ·obtain⟨w2,z2⟩:=I.cell y c' e;exact⟨w2,z2.sameBut hs hcc⟩
  ·obtain⟨e,n,ne,nf,d⟩:=I.pin p hp;refine⟨(hs.2 p.1 ?_).trans e,n,ne,nf,d⟩;intro q;rw[q,hoc]at e;have q':oc=p.2:=aaH e;exact d w' (by rw[<-q'];exact DF)
theorem qz{i:Nat}(I:Inv X pins σ H s)(hN:X.N.Nodup)(hi:X.N[i]?=some x)(hx:Loc X.env.scope x)(r:RelV v u)
  (h:∀s',Inv X pins (σ.set i (some v)) H s'->Q () s') (hf:X.fn x=true\/X.env.scope.names.lookup x=some .local):wpAny M A (storeName X.env x u) Q E s :=
 ua I hN hi hx r (λs' I' _=>h s' I') hf
theorem Inv.Rb(I:Inv X pins σ H s)(ho:s'.os=s.os)(u:Un (frs X.stack) ch H H' s.heap s'.heap)(hok:mG X.prog X.w H' s'.heap)(hg:AllBare s'.gens)
  (hch:∀b∈ch,(b∈X.ex\/X.s₀.heap.objs.size<=b)/\b≠X.env.locals/\(∀x c,X.env.cells.lookup x=some c->c≠b)/\∀p∈X.pn++pins,p.1≠b):Inv X pins σ H' s':=by
 obtain⟨h',g',d',t',o'⟩:=s';have e:o'=s.os:=ho;subst e;exact I.call (g':=g') (t':=t') (d':=d') u hok hg hch
end
abbrev XK:=Value->Option Addr->Hp->Prop
abbrev St:=List (Option V)
abbrev VK:=V->Hp->Prop
abbrev TE:=St->Hp->VK->Prop
abbrev TT:=St->Hp->(Bool->Hp->Prop)->Prop
abbrev TA:=St->Hp->(List V->Hp->Prop)->Prop
structure Ends where
 nx:St->Hp->Prop
 rt:VK
 bk:St->Hp->Prop:=λ_ _=>False
 ct:St->Hp->Prop:=λ_ _=>False
abbrev TS:=Ends->St->Hp->Prop
def EP(X:Cx)(pins:List (Addr×Obj))(σ:St)(Q:VK)(u:Value)(s':Shared):Prop:=∃v H',Inv X pins σ H' s'/\RelV v u/\Q v H'
def TP(X:Cx)(pins:List (Addr×Obj))(σ:St)(Q:Bool->Hp->Prop)(b:Bool)(s':Shared):Prop:=∃H',Inv X pins σ H' s'/\Q b H'
def AP(X:Cx)(pins:List (Addr×Obj))(σ:St)(Q:List V->Hp->Prop)(us:List Value)(s':Shared):Prop:=∃vs H',Inv X pins σ H' s'/\Vals vs us/\Q vs H'
def SP(X:Cx)(pins:List (Addr×Obj))(D:Ends)(f:Flow)(s':Shared):Prop :=
 match f with
 |.next=>∃σ' H',Inv X pins σ' H' s'/\D.nx σ' H'
 |.brk=>∃σ' H',Inv X pins σ' H' s'/\D.bk σ' H'
 |.cont=>∃σ' H',Inv X pins σ' H' s'/\D.ct σ' H'
 |.ret u=>∃v σ' H',Inv X pins σ' H' s'/\RelV v u/\D.rt v H'
def PE(X:Cx)(e:Expr)(t:TE):Prop :=
 ∀(pins:List (Addr×Obj)) (s:Shared) (σ:St) (H:Hp) (Q:VK),Inv X pins σ H s->t σ H Q->wpAny (model X.prog X.w) X.A (eval e X.env) (EP X pins σ Q) X.xe s
def PT(X:Cx)(e:Expr)(t:TT):Prop :=
 ∀(pins:List (Addr×Obj)) (s:Shared) (σ:St) (H:Hp) (Q:Bool->Hp->Prop),Inv X pins σ H s->t σ H Q->wpAny (model X.prog X.w) X.A (isTrue e X.env (eval e X.env)) (TP X pins σ Q) X.xe s
def PW(X:Cx)(e:Expr)(t:TT):Prop :=
 ∀(whole:Sem Value) (pins:List (Addr×Obj)) (s:Shared) (σ:St) (H:Hp) (Q:Bool->Hp->Prop),Inv X pins σ H s->t σ H Q->wpAny (model X.prog X.w) X.A (isTrue e X.env whole) (TP X pins σ Q) X.xe s
theorem PW.pt(h:PW X e t):PT X e t:=h _
def PA(X:Cx)(es:List Expr)(t:TA):Prop :=
 ∀(pos:Pos) (pins:List (Addr×Obj)) (s:Shared) (σ:St) (H:Hp) (Q:List V->Hp->Prop),Inv X pins σ H s->t σ H Q->wpAny (model X.prog X.w) X.A (spliced (backTo pos (starEach es X.env))) (AP X pins σ Q) X.xe s
def PS(X:Cx)(st:Stmt)(t:TS):Prop :=
 ∀(pins:List (Addr×Obj)) (s:Shared) (σ:St) (H:Hp) (D:Ends),Inv X pins σ H s->t D σ H->wpAny (model X.prog X.w) X.A (exec st X.env) (SP X pins D) X.xe s
def zc(X:Cx)(st:List Stmt)(t:TS):Prop :=
 ∀(pins:List (Addr×Obj)) (s:Shared) (σ:St) (H:Hp) (D:Ends),Inv X pins σ H s->t D σ H->wpAny (model X.prog X.w) X.A (execs st X.env) (SP X pins D) X.xe s
theorem cj{α:Type}{t:Sem α}{Q Q':α -> Shared->Prop}(h:wpAny M A t Q E s)(hQ:∀a s,Q a s->Q' a s):wpAny M A t Q' E s:=wpAny_mono h hQ λ_ _ x=>x
section
variable {X:Cx}
theorem bin{a b:Expr}{ta tb:TE}(ha:PE X a ta)(hb:PE X b tb){pins:List (Addr×Obj)}{s:Shared}{σ:St}{H:Hp}{R:V->V->Hp->Prop}(I:Inv X pins σ H s)(h:ta σ H λx H1=>tb σ H1 λy H2=>R x y H2)
  {α:Type} {Q:α -> Shared->Prop} {f:Value->Value->Sem α}
  (hf:∀v u s2 x y H2,Inv X pins σ H2 s2->RelV x v->RelV y u->R x y H2->wpAny (model X.prog X.w) X.A (f v u) Q X.xe s2) :
  wpAny (model X.prog X.w) X.A (eval a X.env) (λv s₁=>wpAny (model X.prog X.w) X.A (eval b X.env) (λu s₂=>wpAny (model X.prog X.w) X.A (f v u) Q X.xe s₂) X.xe s₁) X.xe s:=by
 refine cj (ha pins s σ H _ I h) λv s1 aI=>?_;obtain⟨x,H1,I1,r1,q1⟩:=aI;refine cj (hb pins s1 σ H1 _ I1 q1) λu s2 aI=>?_;obtain⟨y,H2,I2,r2,q2⟩:=aI;exact hf v u s2 x y H2 I2 r1 r2 q2
def tD(i:Nat):TE:=λσ H Q=>∃v,σ[i]?=some (some v)/\Q v H
def tC(v:V):TE:=λ_ H Q=>Q v H
theorem zk{i:Nat}(hN:X.N[i]?=some x)(hv:Q6 X.env.scope x)(hd:(x==("__debug__":Str))=false)(hcd:(x==("__classdict__":Str))=false):PE X (.Name x pos) (tD i):=by
 intro pins s σ H Q I h;obtain⟨v,e,h⟩:=h;obtain⟨m,hn,hl⟩:=I.loc;obtain⟨u,r,l⟩:=hl i x v hN e hv;have fin:EP X pins σ Q u s:=⟨v,H,I,r,h⟩
 rcases l with ⟨hk,hm⟩|⟨hk,c,hc,hcell⟩
 ·exact wpAny_Name (wpAny_loadName_local I.ok.kind hk hn hm fin) hd
 ·rcases hk with hk|hk
  ·exact wpAny_Name (wpAny_loadName_cell I.ok.kind hk hc hcell fin) hd
  ·exact wpAny_Name (wpAny_loadName_free I.ok.kind hk hc hcell fin hcd) hd
theorem Mw{i j pos}:PE X (.Constant (.int i) j pos) (tC (.int i)):=λ_ _ _ H _ I h=>wpAny_Constant_int ⟨.int i,H,I.tok _,⟨_,rfl⟩,h⟩
theorem Rc{b j pos}:PE X (.Constant (.bool b) j pos) (tC (.bl b)):=λ_ _ _ H _ I h=>Constant_bool ⟨.bl b,H,I,rfl,h⟩
theorem Mx{j pos}:PE X (.Constant .none j pos) (tC .non):=λ_ _ _ H _ I h=>Constant_none ⟨.non,H,I,rfl,h⟩
theorem My{x j pos}:PE X (.Constant (.str x) j pos) (tC (.str x)):=λ_ _ _ H _ I h=>Calls.Constant_str ⟨.str x,H,I.tok _,⟨_,rfl⟩,h⟩
def Gl(X:Cx)(x:Str):Prop:=X.env.kindOf x=some .globalImplicit
theorem lM(I:Inv X pins σ H s)(hg:Gl X x)(hm:X.mg x=some u)(h:Q u s)
  (hd:(x==("__debug__":Str))=false):wpAny (model X.prog X.w) X.A (eval (.Name x pos) X.env) Q E s :=
 Calls.Name_function_global I.ok.kind hg (Calls.loadGlobal_global (by rw[I.ok.glob];exact I.mod.glob.keeps I.bk) hm h) hd
theorem jm(I:Inv X pins σ H s)(hg:Gl X x)(hm:X.mg x=none)(hv:bootBuiltins x=some u)(h:Q u s)
  (hn:x ≠ "__name__":=by decide) (hd:(x==("__debug__":Str))=false:=by decide):wpAny (model X.prog X.w) X.A (eval (.Name x pos) X.env) Q E s:=by
 obtain⟨mb,h1,h2⟩:=I.mod.blt;exact Calls.Name_function_global I.ok.kind hg (Calls.loadGlobal_builtin (by rw[I.ok.glob];exact I.mod.glob.keeps I.bk) hm (by rw[I.ok.blt];exact h1.keeps I.bk) ((h2 x hn).trans hv) h) hd
theorem IM(hg:Gl X x)(hm:X.mg x=some u)(r:RelV v u)(hd:(x==("__debug__":Str))=false):PE X (.Name x pos) (tC v) :=
 λ_ _ _ H _ I h=>lM I hg hm ⟨v,H,I,r,h⟩ hd
theorem IP(hg:Gl X x)(hm:X.mg x=none)(hv:bootBuiltins x=some u)(r:RelV v u)(hn:x ≠ "__name__")(hd:(x==("__debug__":Str))=false):PE X (.Name x pos) (tC v) :=
 λ_ _ _ H _ I h=>jm I hg hm hv ⟨v,H,I,r,h⟩ hn hd
variable {a b:Expr} {ta tb:TE} {pos:Pos}
variable {tA U0:TT} {rest:List Expr}
def VD(t u:TT):TT:=λσ H Q=>t σ H λc H1=>if c=true then u σ H1 Q else Q false H1
def Y3(t u:TT):TT:=λσ H Q=>t σ H λc H1=>if c=true then Q true H1 else u σ H1 Q
def VE(t:TT):TT:=λσ H Q=>t σ H λc H1=>Q (!c) H1
theorem IQ(ha:PT X a tA):PW X (.BoolOp .And [a] pos) tA:=by
 intro wh pins s σ H Q I h;refine isTrue_and (cj (ha pins s σ H Q I h) λc s1 e=>?_);cases c with
 |true=>exact isTrue_and_nil e
 |false=>exact e
theorem Mz(ha:PT X a tA):PW X (.BoolOp .Or [a] pos) tA:=by
 intro wh pins s σ H Q I h;refine isTrue_or (cj (ha pins s σ H Q I h) λc s1 e=>?_);cases c with
 |false=>exact isTrue_or_nil e
 |true=>exact e
theorem MA(ha:PT X a tA)(hb:PW X (.BoolOp .And (b::rest) pos) U0):PW X (.BoolOp .And (a::b::rest) pos) (VD tA U0):=by
 intro wh pins s σ H Q I h;refine isTrue_and (cj (ha pins s σ H _ I h) λc s1 aI=>?_);obtain⟨H1,I1,q1⟩:=aI;cases c with
 |true=>exact hb wh pins s1 σ H1 Q I1 q1
 |false=>exact⟨H1,I1,q1⟩
theorem Rf(ha:PT X a tA)(hb:PW X (.BoolOp .Or (b::rest) pos) U0):PW X (.BoolOp .Or (a::b::rest) pos) (Y3 tA U0):=by
 intro wh pins s σ H Q I h;refine isTrue_or (cj (ha pins s σ H _ I h) λc s1 aI=>?_);obtain⟨H1,I1,q1⟩:=aI;cases c with
 |true=>exact⟨H1,I1,q1⟩
 |false=>exact hb wh pins s1 σ H1 Q I1 q1
theorem MB(ha:PT X a tA):PT X (.UnaryOp .Not a pos) (VE tA):=by
 intro pins s σ H Q I h;exact isTrue_not (ha pins s σ H (λc H1=>Q (!c) H1) I h)
def Rg(ta tb:TE):TE:=λσ H Q=>ta σ H λx H1=>∃c,x=.bl c/\if c=true then tb σ H1 Q else Q (.bl false) H1
def VF(ta tb:TE):TE:=λσ H Q=>ta σ H λx H1=>∃c,x=.bl c/\if c=true then Q (.bl true) H1 else tb σ H1 Q
def Rh(ta:TE):TE:=λσ H Q=>ta σ H λx H1=>∃c,x=.bl c/\Q (.bl (!c)) H1
theorem DG{op}(h:PE X a t):PE X (.BoolOp op [a] pos) t:=λpins s σ H Q I hw=>BoolOp_one (h pins s σ H Q I hw)
theorem MC(ha:PE X a ta)(hb:PE X (.BoolOp .And (b::rest) pos) tb):PE X (.BoolOp .And (a::b::rest) pos) (Rg ta tb):=by
 intro pins s σ H Q I h;refine BoolOp_and (cj (ha pins s σ H _ I h) λv s1 aI=>?_);obtain⟨x,H1,I1,r1,q1⟩:=aI;obtain⟨c,rfl,q1⟩:=q1;cases r1;refine wpAny_truthy_bool ?_;cases c with
 |true=>exact hb pins s1 σ H1 Q I1 q1
 |false=>exact⟨.bl false,H1,I1,rfl,q1⟩
theorem Ri(ha:PE X a ta)(hb:PE X (.BoolOp .Or (b::rest) pos) tb):PE X (.BoolOp .Or (a::b::rest) pos) (VF ta tb):=by
 intro pins s σ H Q I h;refine BoolOp_or (cj (ha pins s σ H _ I h) λv s1 aI=>?_);obtain⟨x,H1,I1,r1,q1⟩:=aI;obtain⟨c,rfl,q1⟩:=q1;cases r1;refine wpAny_truthy_bool ?_;cases c with
 |false=>exact hb pins s1 σ H1 Q I1 q1
 |true=>exact⟨.bl true,H1,I1,rfl,q1⟩
theorem MD(ha:PE X a ta):PE X (.UnaryOp .Not a pos) (Rh ta):=by
 intro pins s σ H Q I h;refine UnaryOp_ (cj (ha pins s σ H _ I h) λv s1 aI=>?_);obtain⟨x,H1,I1,r1,q1⟩:=aI;obtain⟨c,rfl,q1⟩:=q1;cases r1;exact not_of (wpAny_truthy_bool ⟨.bl (!c),H1,I1,rfl,q1⟩)
end
def iu(K:Frag)(H:Hp)(a:Addr)(xs:List V):Prop :=
 Rd H a (.lst xs) \/
  ∃(o:Obj) (its:Array Value) (n:Nat),K.lookup a=some o/\o.cls=.type "list" /\ o.dict=none/\o.data=.seq its n/\its.size<=sizeLine/\Vals xs its.toList
def kO(K:Frag)(H:Hp)(a:Addr)(xs:List V):Prop :=
 Rd H a (.tup xs) \/
  ∃(o:Obj) (its:Array Value) (n:Nat),K.lookup a=some o/\o.cls=.type "tuple" /\ o.data=.seq its n/\its.size<=sizeLine/\Vals xs its.toList
def VG:Value->Option V
 |.none=>some .non
 |.bool b=>some (.bl b)
 |.int i _=>some (.int i)
 |.str x _=>some (.str x)
 |.bytes b _=>some (.byt b)
 |.float b _=>some (.flt b)
 |.ref a=>some (.ref a)
 |.type n=>some (.ty n)
 |_=>none
theorem RelV.abs(r:RelV x u):VG u=some x:=by
 cases x with
 |non=>cases r;rfl
 |bl _=>cases r;rfl
 |int _=>obtain⟨t,rfl⟩:=r;rfl
 |str _=>obtain⟨t,rfl⟩:=r;rfl
 |byt _=>obtain⟨t,rfl⟩:=r;rfl
 |flt _=>obtain⟨t,rfl⟩:=r;rfl
 |ref _=>cases r;rfl
 |ty _=>cases r;rfl
theorem RelV.inj(r:RelV x u)(q:RelV y u):x=y:=aaH (r.abs.symm.trans q.abs)
theorem Vals.inj:∀{xs ys:List V} {us:List Value},Vals xs us->Vals ys us->xs=ys
 |_,_,_,.nil,.nil=>rfl
 |_,_,_,.cons r t,.cons r' t'=>by rw[r.inj r',Vals.inj t t']
section
variable {X:Cx} {pins:List (Addr×Obj)} {σ:St} {H:Hp} {s:Shared} {a:Addr} {xs ys:List V}
theorem kO.of{K:Frag}(h:H a=some (.tup xs)):kO K H a xs:=.inl (.inl h)
theorem Inv.list(I:Inv X pins σ H s)(h:iu X.K H a xs):∃its:List Value,Vals xs its/\PlainL s.heap a its.toArray/\xs.length<=sizeLine:=by
 rcases h with h|⟨o,its,n,hk,hc,hd,hs,hz,r⟩
 ·obtain⟨z,its,n,r,e⟩:=h.ok I.hok;exact⟨its,r,⟨_,n,e,rfl,rfl,rfl⟩,z⟩
 ·refine⟨its.toList,r,⟨o,n,I.n8 a o hk,hc,hd,by simpa using hs⟩,?_⟩;have e:=r.length;simp only[Array.length_toList]at e;omega
theorem Inv.tuple(I:Inv X pins σ H s)(h:kO X.K H a xs):∃its:List Value,Vals xs its/\IsTup s.heap a its.toArray/\xs.length<=sizeLine:=by
 rcases h with h|⟨o,its,n,hk,hc,hs,hz,r⟩
 ·obtain⟨z,its,r,p⟩:=h.ok I.hok;exact⟨its,r,p,z⟩
 ·refine⟨its.toList,r,⟨o,I.n8 a o hk,hc,n,by simpa using hs⟩,?_⟩;have e:=r.length;simp only[Array.length_toList]at e;omega
theorem Inv.wM(I:Inv X pins σ H s)(h:iu X.K H a xs)(h':iu X.K H a ys):xs=ys:=by
 obtain⟨its,r,⟨o,n,e,_,_,d⟩,_⟩:=I.list h;obtain⟨its',r',⟨o',n',e',_,_,d'⟩,_⟩:=I.list h';rw[e]at e';cases e';rw[d]at d';injection d' with d1 _
 have:its=its':=by simpa using congrArg Array.toList d1
 subst this;exact r.inj r'
theorem Inv.Ce(I:Inv X pins σ H s)(h:kO X.K H a xs)(h':kO X.K H a ys):xs=ys:=by
 obtain⟨its,r,⟨o,e,_,n,d⟩,_⟩:=I.tuple h;obtain⟨its',r',⟨o',e',_,n',d'⟩,_⟩:=I.tuple h';rw[e]at e';cases e';rw[d]at d';injection d' with d1 _
 have:its=its':=by simpa using congrArg Array.toList d1
 subst this;exact r.inj r'
end
abbrev Cx.tE(X:Cx)(E:Value->Shared->Prop):Cx:={ X with xe:=E }
abbrev Cx.Rj(X:Cx):Cx:=X.tE λ_ _=>False
theorem Cx.Ok.tE{X:Cx}(ok:X.Ok)(E:Value->Shared->Prop):(X.tE E).Ok :=
 ⟨ok.mod,ok.kind,ok.glob,ok.blt,ok.above,ok.inj,ok.has,ok.Q7,ok.hd,ok.frames,ok.stk,ok.Vz,ok.bs,ok.Ly,ok.mH,ok.DE,ok.pS,ok.Mv⟩
theorem Cx.Ok.kQ{X:Cx}{E:Value->Shared->Prop}(ok:(X.tE E).Ok):X.Ok :=
 ⟨ok.mod,ok.kind,ok.glob,ok.blt,ok.above,ok.inj,ok.has,ok.Q7,ok.hd,ok.frames,ok.stk,ok.Vz,ok.bs,ok.Ly,ok.mH,ok.DE,ok.pS,ok.Mv⟩
section
variable {X:Cx} {pins:List (Addr×Obj)} {σ:St} {H:Hp} {s:Shared} {E:Value->Shared->Prop}
theorem Inv.tE(I:Inv X pins σ H s)(E:Value->Shared->Prop):Inv (X.tE E) pins σ H s:=⟨I.ok.tE E,I.os,I.bare,I.base,I.loc,I.cell,I.free,I.iZ,I.pin,I.hok,I.len⟩
theorem Inv.kQ(I:Inv (X.tE E) pins σ H s):Inv X pins σ H s:=⟨I.ok.kQ,I.os,I.bare,I.base,I.loc,I.cell,I.free,I.iZ,I.pin,I.hok,I.len⟩
theorem SP.kQ(h:SP (X.tE E) pins D f s'):SP X pins D f s':=by
 cases f with
 |next=>obtain⟨σ',H',I,q⟩:=h;exact⟨σ',H',I.kQ,q⟩
 |brk=>obtain⟨σ',H',I,q⟩:=h;exact⟨σ',H',I.kQ,q⟩
 |cont=>obtain⟨σ',H',I,q⟩:=h;exact⟨σ',H',I.kQ,q⟩
 |ret u=>obtain⟨v,σ',H',I,r,q⟩:=h;exact⟨v,σ',H',I.kQ,r,q⟩
theorem zc.Rj{st:List Stmt}{t:TS}(h:zc X.Rj st t):zc X st t:=λpins s σ H D I hw=>
 wpAny_mono (h pins s σ H D (I.tE _) hw) (λ_ _ q=>q.kQ) λ_ _ z=>False.elim z
end
section
variable {X:Cx} {st:Stmt} {rest:List Stmt} {t u:TS} {e:Expr} {te:TE} {pos:Pos}
def DH:TS:=λD σ H=>D.nx σ H
def VH(t u:TS):TS:=λD σ H=>t { D with nx:=u D } σ H
theorem IT:zc X [] DH:=λ_ _ σ H _ I h=>wpAny_execs_nil ⟨σ,H,I,h⟩
theorem DI(h1:PS X st t)(h2:zc X rest u):zc X (st::rest) (VH t u):=by
 intro pins s σ H D I h;refine wpAny_execs_cons (cj (h1 pins s σ H { D with nx:=u D } I h) λf s1 q=>?_);cases f with
 |next=>obtain⟨σ',H',I',q⟩:=q;exact h2 pins s1 σ' H' D I' q
 |ret v=>exact q
 |brk=>exact q
 |cont=>exact q
def ME:TS:=λD σ H=>D.bk σ H
def Rk:TS:=λD σ H=>D.ct σ H
theorem IU:PS X (.Pass pos) DH:=λ_ _ σ H _ I h=>wpAny_Pass ⟨σ,H,I,h⟩
theorem DJ:PS X (.Break pos) ME:=λ_ _ σ H _ I h=>wpAny_Break ⟨σ,H,I,h⟩
theorem wN:PS X (.Continue pos) Rk:=λ_ _ σ H _ I h=>wpAny_Continue ⟨σ,H,I,h⟩
theorem Inv.quiet(I:Inv X pins σ H s):interactive X.env=false:=by simp[interactive,I.ok.kind]
theorem MF{x j pos pos'}:PS X (.Expr (.Constant (.str x) j pos) pos') DH:=λ_ s σ H _ I h=>wpAny_Expr (Calls.Constant_str (show SP X _ _ .next { s with toks:=s.toks+1 } from⟨σ,H,I.tok _,h⟩)) I.quiet
def Rm(te:TE):TS:=λD σ H=>te σ H λ_ H1=>D.nx σ H1
theorem IV(he:PE X e te)(hs:swapsWith e none pos.line X.env=pure false):PS X (.Expr e pos) (Rm te):=by
 intro pins s σ H D I h;exact wpAny_Expr_any (cj (he pins s σ H _ I h) λv s1 ⟨x,H1,I1,r1,q1⟩=>⟨σ,H1,I1,q1⟩) I.quiet hs
def VI(te:TE):TS:=λD σ H=>te σ H D.rt
theorem MG(he:PE X e te):PS X (.Return (some e) pos) (VI te):=by
 intro pins s σ H D I h;exact wpAny_Return_some (cj (he pins s σ H _ I h) λv s1 ⟨x,H1,I1,r1,q1⟩=>⟨x,σ,H1,I1,r1,q1⟩)
def Rn:TS:=λD _ H=>D.rt .non H
theorem IW:PS X (.Return none pos) Rn:=λ_ _ σ H _ I h=>wpAny_Return_none ⟨.non,σ,H,I,rfl,h⟩
def VJ(c:TT)(t u:TS):TS:=λD σ H=>c σ H λb H1=>if b=true then t D σ H1 else u D σ H1
theorem Ro(hc:PT X c tc)(ha:zc X a t)(hb:zc X b u):PS X (.If c a b pos) (VJ tc t u):=by
 intro pins s σ H D I h;refine wpAny_If (cj (hc pins s σ H _ I h) λd s1 aI=>?_);obtain⟨H1,I1,q1⟩:=aI;cases d with
 |true=>exact ha pins s1 σ H1 D I1 q1
 |false=>exact hb pins s1 σ H1 D I1 q1
def MH:TS:=λ_ _ _=>False
theorem DK:PS X st MH:=λ_ _ _ _ _ _ h=>h.elim
end
abbrev TG:=V->St->Hp->(St->Hp->Prop)->Prop
abbrev QI:=List V->St->Hp->(St->Hp->Prop)->Prop
def PG(X:Cx)(target:Expr)(t:TG):Prop :=
 ∀(pins:List (Addr×Obj)) (s:Shared) (σ:St) (H:Hp) (v:V) (u:Value) (Q:St->Hp->Prop),Inv X pins σ H s->RelV v u->t v σ H Q ->
  wpAny (model X.prog X.w) X.A (assign target X.env u) (λ_ s'=>∃σ' H',Inv X pins σ' H' s'/\Q σ' H') X.xe s
def QJ(X:Cx)(ts:List Expr)(t:QI):Prop :=
 ∀(pins:List (Addr×Obj)) (s:Shared) (σ:St) (H:Hp) (vs:List V) (us:List Value) (Q:St->Hp->Prop),Inv X pins σ H s->Vals vs us->t vs σ H Q ->
  wpAny (model X.prog X.w) X.A (assignInOrder ((assignEach ts X.env).map (·.2)) us) (λ_ s'=>∃σ' H',Inv X pins σ' H' s'/\Q σ' H') X.xe s
abbrev MI:=V->V->V->Hp->(Hp->Prop)->Prop
def MJ(X:Cx)(t:MI):Prop :=
 ∀(pins:List (Addr×Obj)) (s:Shared) (σ:St) (H:Hp) (o i v:V) (ov iv u:Value) (Q:Hp->Prop),Inv X pins σ H s->RelV o ov->RelV i iv->RelV v u->t o i v H Q ->
  wpAny (model X.prog X.w) X.A (setItem ov iv u) (λ_ s'=>∃H',Inv X pins σ H' s'/\Q H') X.xe s
abbrev Xn:=V->V->Hp->VK->Prop
def Y4(X:Cx)(op:Operator)(t:Xn):Prop :=
 ∀(pins:List (Addr×Obj)) (s:Shared) (σ:St) (H:Hp) (x y:V) (v u:Value) (Q:VK),Inv X pins σ H s->RelV x v->RelV y u->t x y H Q ->
  wpAny (model X.prog X.w) X.A (inplaceOp op v u) (EP X pins σ Q) X.xe s
section
variable {X:Cx} {pos:Pos}
def pB(i:Nat):TG:=λv σ H Q=>Q (σ.set i (some v)) H
theorem qc{i:Nat}(hN:X.N.Nodup)(hi:X.N[i]?=some x)(hx:Loc X.env.scope x)(hf:X.fn x=true\/X.env.scope.names.lookup x=some .local):PG X (.Name x pos) (pB i):=by
 intro pins s σ H v u Q I r h;exact wpAny_assign_Name (qz I hN hi hx r (λs' I'=>⟨_,H,I',h⟩) hf)
def Rp:QI:=λvs σ H Q=>vs=[]/\Q σ H
def Lz(t:TG)(u:QI):QI:=λvs σ H Q=>∃v r,vs=v::r/\t v σ H λσ' H'=>u r σ' H' Q
theorem AD:QJ X [] Rp:=by
 intro pins s σ H vs us Q I r h;obtain⟨e,h⟩:=h;subst e;cases r;exact assignInOrder_nil ⟨σ,H,I,h⟩
theorem wO(h1:PG X e t)(h2:QJ X es u)
  (hs:(assignEach (e::es) X.env).map (·.2)=assign e X.env::(assignEach es X.env).map (·.2):=by rfl):QJ X (e::es) (Lz t u):=by
 intro pins s σ H vs us Q I r h;obtain⟨v,vr,e1,h⟩:=h;subst e1;cases r with
 |cons r rr=>rw[hs];refine assignInOrder_cons (cj (h1 pins s σ H _ _ _ I r h) λ_ s1 aI=>?_);obtain⟨σ1,H1,I1,q1⟩:=aI;exact h2 pins s1 σ1 H1 _ _ Q I1 rr q1
def Rq(K:Frag)(n:Nat)(t:QI):TG:=λv σ H Q=>∃a xs,v=.ref a/\kO K H a xs/\xs.length=n/\t xs σ H Q
theorem DL{k:Nat}{n:Nat}(hc:X.calm=true)(h:QJ X es t)
  (hn:(assignEach es X.env).length=n) (hst:(assignEach es X.env).findIdx? (·.1)=none):PG X (.Tuple es k pos) (Rq X.K n t):=by
 intro pins s σ H v u Q I r hw;obtain⟨a,xs,e1,hq,hl,hw⟩:=hw;subst e1;cases r;obtain⟨its,rv,ht,hz⟩:=I.tuple hq;refine assign_Tuple_tuple (I.ok.hd hc) ht (by simp[hn,<-hl,rv.length]) hst λh' hx=>?_;have I1:Inv X pins σ H { s with heap:=h' }:=I.kept (t':=s.toks) λb o e=>hx b o (aaA (aar e)) e;exact h pins _ σ H xs _ Q I1 (by simpa using rv) hw
def Rt(to ti:TE)(t:MI):TG:=λv σ H Q=>to σ H λo H1=>ti σ H1 λi H2=>t o i v H2 λH3=>Q σ H3
theorem MK(ho:PE X o to)(hi:PE X i ti)(hs:MJ X t)
  (ha:∀v,assign (.Subscript o i pos) X.env v=(do
   let ov <-holding [v] (eval o X.env)
   let iv <-holding [v,ov] (eval i X.env)
   standAt pos
   holding [v,ov,iv] (setItem ov iv v)
   release [v,ov,iv] [])):PG X (.Subscript o i pos) (Rt to ti t):=by
 intro pins s σ H v u Q I r h;rw[ha];refine aad (wpAny_holding (cj (ho pins s σ H _ I h) λov s1 aI=>?_));obtain⟨x,H1,I1,r1,q1⟩:=aI;refine aad (wpAny_holding (cj (hi pins s1 σ H1 _ I1 q1) λiv s2 aI=>?_));obtain⟨y,H2,I2,r2,q2⟩:=aI;refine aad (wpAny_standAt (aad (wpAny_holding (cj (hs pins s2 σ H2 x y v ov iv u _ I2 r1 r2 r q2) λ_ s3 aI=>?_))));obtain⟨H3,I3,q3⟩:=aI;exact wpAny_release ⟨σ,H3,I3,q3⟩
def IX(te:TE)(g:TG):TS:=λD σ H=>te σ H λx H1=>g x σ H1 D.nx
theorem DM(he:PE X e te)(hg:PG X tg g)(hs:swapsWithSole [tg] e pos.line X.env=pure false)(hw:swappedStores [tg] e X.env=pure none)
  (h1:(assignEach [tg] X.env).map (·.2)=[assign tg X.env]):PS X (.Assign [tg] e pos) (IX te g):=by
 intro pins s σ H D I h;refine wpAny_Assign_stores (cj (he pins s σ H _ I h) λv s1 ⟨x,H1,I1,r1,q1⟩=>?_) hs hw;rw[h1];exact cj (hg pins s1 σ H1 x v _ I1 r1 q1) λ_ s2 q=>q
theorem DN{i:Nat}(hN:X.N.Nodup)(hi:X.N[i]?=some x)(hx:Loc X.env.scope x)(he:PE X e te)(hs:swapsWith e (some (.Name x pos')) pos.line X.env=pure false)(hf:X.fn x=true\/X.env.scope.names.lookup x=some .local) :
  PS X (.Assign [.Name x pos'] e pos) (IX te (pB i)):=by
 intro pins s σ H D I h;refine wpAny_Assign_Name (cj (he pins s σ H _ I h) λv s1 ⟨y,H1,I1,r1,q1⟩=>?_) hs;exact qz I1 hN hi hx r1 (λs2 I2=>⟨_,H1,I2,q1⟩) hf
def VL(i:Nat)(te:TE)(ti:Xn):TS:=λD σ H=>∃x,σ[i]?=some (some x)/\te σ H λy H1=>ti x y H1 λz H2=>D.nx (σ.set i (some z)) H2
theorem ML{i:Nat}(hN:X.N.Nodup)(hi:X.N[i]?=some x)(hx:Loc X.env.scope x)(he:PE X e te)(ho:Y4 X op ti)(hf:X.fn x=true\/X.env.scope.names.lookup x=some .local) :
  PS X (.AugAssign (.Name x pos') op e pos) (VL i te ti):=by
 intro pins s σ H D I h;obtain⟨v,e1,h⟩:=h;obtain⟨m,hn,hl⟩:=I.loc;have vis:Q6 X.env.scope x:=by rcases hx with k|k;exact .inl k;exact .inr (.inl k)
 obtain⟨u,r,l⟩:=hl i x v hi e1 vis;refine wpAny_AugAssign_Name ?_;have go:wpAny (model X.prog X.w) X.A (eval e X.env) (λw s₂=>wpAny (model X.prog X.w) X.A (inplaceOp op u w) (λr s₃=>wpAny (model X.prog X.w) X.A (storeName X.env x r) (λ_=>SP X pins D .next) X.xe s₃) X.xe s₂) X.xe s:=by refine cj (he pins s σ H _ I h) λw s1 aI=>?_;obtain⟨y,H1,I1,r1,q1⟩:=aI;refine cj (ho pins s1 σ H1 v y u w _ I1 r r1 q1) λz s2 aI=>?_;obtain⟨zv,H2,I2,r2,q2⟩:=aI;exact qz I2 hN hi hx r2 (λs3 I3=>⟨_,H2,I3,q2⟩) hf
 rcases l with ⟨hk,hm⟩|⟨hk,c,hc,hcell⟩
 ·exact wpAny_loadName_local I.ok.kind hk hn hm go
 ·rcases hk with hk|hk
  ·exact wpAny_loadName_cell I.ok.kind hk hc hcell go
  ·rcases hx with k|k
   ·have:X.env.scope.names.lookup x=some .free:=hk;rw[k]at this;cases this
   ·have:X.env.scope.names.lookup x=some .free:=hk;rw[k]at this;cases this
end
section
variable {X:Cx} {pos:Pos}
def MM(c:TT)(tb:TS):TS:=λD σ H=>∃W:Nat->St->Hp->Prop,(∃m,W m σ H)/\∀m σ H,W m σ H ->
 c σ H λb H1=>if b=true then ∃N:St->Hp->Prop,(∀σ' H',N σ' H'->∃m',m'<m/\W m' σ' H')/\tb { D with nx:=N,ct:=N,bk:=D.nx } σ H1 else D.nx σ H1
theorem DO(hp:PassesOwn (model X.prog X.w) X.A X.env X.xe)(hc:PT X c tc)(hb:zc X body tb):PS X (.While c body [] pos) (MM tc tb):=by
 intro pins s σ H D I h;obtain⟨W,⟨m0,w0⟩,turn⟩:=h;refine wpAny_While (codeAny_whileLoop (λn s'=>∃σ' H',Inv X pins σ' H' s'/\W n σ' H') ?_ m0 ⟨σ,H,I,w0⟩);rintro n s1 ⟨σ1,H1,I1,w1⟩;refine wpAny_passesOwn hp (cj (hc pins s1 σ1 H1 _ I1 (turn n σ1 H1 w1)) λb s2 aI=>?_);obtain⟨H2,I2,q2⟩:=aI;cases b with
 |true=>
  obtain⟨N,hN,q2⟩:=q2;rw[aai rfl];refine wpAny_passesOwn hp (cj (hb pins s2 σ1 H2 _ I2 q2) λf s3 q3=>?_);cases f with
  |next=>obtain⟨σ3,H3,I3,n3⟩:=q3;obtain⟨m',hm,w3⟩:=hN σ3 H3 n3;exact⟨m',hm,σ3,H3,I3,w3⟩
  |cont=>obtain⟨σ3,H3,I3,n3⟩:=q3;obtain⟨m',hm,w3⟩:=hN σ3 H3 n3;exact⟨m',hm,σ3,H3,I3,w3⟩
  |brk=>exact q3
  |ret v=>exact q3
 |false=>rw[aal aac];exact wpAny_execs_nil ⟨σ1,H2,I2,q2⟩
end
structure It where
 go:Nat->Hp->Prop
 zl:Nat->Hp->V->Hp->Prop
 stop:Nat->Hp->Prop
def pT(X:Cx)(pins:List (Addr×Obj))(H:Hp)(b:Addr):Prop :=
 H b=none/\b≠X.env.locals/\b∉X.fs/\(b∈X.ex\/X.s₀.heap.objs.size<=b)/\(∀x c,X.env.cells.lookup x=some c->c≠b)/\∀p∈X.pn++pins,p.1≠b
theorem Inv.DP(I:Inv X pins σ H s)(hb:s.heap.objs.size<=b)(hn:H' b=none):pT X pins H' b:=by
 refine⟨hn,ne_of_gt (aas I.lt hb),I.VB hb,.inr (aaM I.sz hb),λx c e z=>?_,λp hp z=>?_⟩
 ·obtain⟨v,q⟩:=I.cell x c e;exact absurd (aas q.lt (by rw[z];exact hb)) (lt_irrefl _)
 ·exact absurd (aas (aar (I.pin p hp).1) (by rw[z];exact hb)) (lt_irrefl _)
structure Turn (P:Program) (w:World) (K:Frag) (tg:Expr) (J:It) (fp:List Addr) (it:Addr) (tn:Nat->Heap->Prop):Prop where
 mem:it∈fp
 obj:∀i h,tn i h->∀b∈fp,∃o,h.get? b=some o/\∀v,o.data≠.cell v
 keep:∀i h h',tn i h->(∀b∈fp,∀o,h.get? b=some o->h'.get? b=some o)->tn i h'
 item:∀(X:Cx),X.prog=P->X.w=w->X.K=K->X.calm=true->∀(i:Nat) (pins:List (Addr×Obj)) (s:Shared) (σ:St) (H:Hp) (E:Value->Shared->Prop),Inv X pins σ H s->(∀b∈fp,pT X pins H b)->tn i s.heap->J.go i H ->
  wpAny (model P w) X.A (pyNext (.ref it)) (λr s1=>∃u,r=some u /\
   wpAny (model P w) X.A (letOwnedTupleGo tg (.ref it) u) (λ_ s2=>∃x H',Inv X pins σ H' s2/\RelV x u/\J.zl i H x H'/\tn (i+1) s2.heap/\∀b∈fp,H' b=none) E s1) E s
 done:∀(X:Cx),X.prog=P->X.w=w->X.K=K->X.calm=true->∀(i:Nat) (pins:List (Addr×Obj)) (s:Shared) (σ:St) (H:Hp) (E:Value->Shared->Prop),Inv X pins σ H s->(∀b∈fp,pT X pins H b)->tn i s.heap->J.stop i H ->
  wpAny (model P w) X.A (pyNext (.ref it)) (λr s1=>r=none/\Inv X pins σ H s1) E s
 self:∀(A:Around) (i:Nat) (s:Shared) (Q:Value->Shared->Prop) (E:Value->Shared->Prop),tn i s.heap->Q (.ref it) s->wpAny (model P w) A (pyIter (.ref it)) Q E s
abbrev TI:=St->Hp->(It->Hp->Prop)->Prop
def Xo(X:Cx)(pins:List (Addr×Obj))(σ:St)(tg:Expr)(R:It->Hp->Prop)(itv:Value)(s2:Shared):Prop :=
 ∃(it:Addr) (fp:List Addr) (tn:Nat->Heap->Prop) (J:It) (H':Hp),itv=.ref it/\Inv X pins σ H' s2/\Turn X.prog X.w X.K tg J fp it tn/\tn 0 s2.heap/\(∀b∈fp,pT X pins H' b)/\R J H'
def PI(X:Cx)(tg iter:Expr)(wi:TI):Prop :=
 ∀(pins:List (Addr×Obj)) (s:Shared) (σ:St) (H:Hp) (R:It->Hp->Prop),Inv X pins σ H s->wi σ H R ->
  wpAny (model X.prog X.w) X.A (eval iter X.env) (λv s1=>wpAny (model X.prog X.w) X.A (pyIter v) (Xo X pins σ tg R) X.xe s1) X.xe s
theorem AE{n:String}(ho:s.heap.get? it=some o)(hc:o.cls=.type n)(hd:o.data=.fields vs)
  (hn:["enumerate","zip","dict_itemiterator","dict_reverseitemiterator","odict_iterator","itertools.zip_longest","itertools.pairwise"].contains n=false) (hQ:Q () s):wpAny M A (letOwnedTupleGo tg (.ref it) u) Q E s:=by
 unfold letOwnedTupleGo;cases tg<;>first
  |exact aaj hQ
  | (cases u<;>first
    |exact aaj hQ
    | (refine aad (wpAny_load ho ?_)
       rw[hc,hd];show wpAny M A (if (["enumerate","zip","dict_itemiterator","dict_reverseitemiterator","odict_iterator","itertools.zip_longest","itertools.pairwise"].contains n&&vs[0]?==some (rawInt _))=true then _ else _) Q E s;rw[aal (by intro h;rw[hn,Bool.false_and]at h;cases h)];exact aaj hQ))
def U3(K:Frag)(a:Addr):It :=
 ⟨λi H=>∃xs x,iu K H a xs/\xs[i]?=some x,λi H x H'=>H'=H/\∀xs,iu K H a xs->xs[i]?=some x,λi H=>∃xs,iu K H a xs/\xs.length<=i⟩
def VM(K:Frag)(a:Addr):It :=
 ⟨λi H=>∃xs x,kO K H a xs/\xs[i]?=some x,λi H x H'=>H'=H/\∀xs,kO K H a xs->xs[i]?=some x,λi H=>∃xs,kO K H a xs/\xs.length<=i⟩
def Ru(lo:Int)(n:Nat):It:=⟨λi _=>i<n,λi H x H'=>H'=H/\x=.int (lo+i),λi _=>n<=i⟩
theorem Cf{P:Program}{w:World}{K:Frag}{tg:Expr}(a it:Addr):Turn P w K tg (U3 K a) [it] it (λi h=>h.IsListIter it a i) where
 mem:=by simp
 obj:=λi h st b hb=>by
  have e:b=it:=by simpa using hb
  subst e;obtain⟨o,e,c,d⟩:=st;exact⟨o,e,λv z=>by rw[d]at z;cases z⟩
 keep:=λi h h' st k=>st.at λo e=>k it (by simp) o e
 item:=by intro X hP hw hK hc i pins s σ H E I hf st hg;subst hP hw hK;obtain⟨xs,x,hq,hx⟩:=hg;obtain⟨its,rv,p,hz⟩:=I.list hq;obtain⟨u,hu,ru⟩:=rv.get hx;obtain⟨f0,f1,f2,f3,f4,f5⟩:=hf it (by simp);refine wpAny_pyNext_list_item st p.isList (x:=u) (by simpa using hu) λh' st' sb=>?_;have I1:Inv X pins σ H { s with heap:=h' }:=I.turned (t':=s.toks) (λb o hb e=>(sb.2 b hb).trans e) f0 f1 f3 f4 f5;obtain⟨o,e,c,d⟩:=id st';exact⟨u,rfl,AE (s:={ s with heap:=h' }) e c d (by decide) ⟨x,H,I1,ru,⟨rfl,λys hy=>by rw[I.wM hy hq];exact hx⟩,st',λb hb=>(hf b hb).1⟩⟩
 done:=by intro X hP hw hK hc i pins s σ H E I hf st hg;subst hP hw hK;obtain⟨xs,hq,hx⟩:=hg;obtain⟨its,rv,p,hz⟩:=I.list hq;obtain⟨f0,f1,f2,f3,f4,f5⟩:=hf it (by simp);have hl:=rv.length;exact wpAny_pyNext_list_end (I.ok.hd hc) st p.isList (by simp;omega) λh' eb=>⟨rfl,I.turned (t':=s.toks) (λb o hb e=>eb b o hb e) f0 f1 f3 f4 f5⟩
 self:=λ_ _ _ _ _ st h=>wpAny_pyIter_listiter st h
theorem zm{P:Program}{w:World}{K:Frag}{tg:Expr}(a it:Addr):Turn P w K tg (VM K a) [it] it (λi h=>h.IsTupleIter it a i) where
 mem:=by simp
 obj:=λi h st b hb=>by
  have e:b=it:=by simpa using hb
  subst e;obtain⟨o,e,c,d⟩:=st;exact⟨o,e,λv z=>by rw[d]at z;cases z⟩
 keep:=λi h h' st k=>st.at λo e=>k it (by simp) o e
 item:=by intro X hP hw hK hc i pins s σ H E I hf st hg;subst hP hw hK;obtain⟨xs,x,hq,hx⟩:=hg;obtain⟨its,rv,p,hz⟩:=I.tuple hq;obtain⟨u,hu,ru⟩:=rv.get hx;obtain⟨f0,f1,f2,f3,f4,f5⟩:=hf it (by simp);refine wpAny_pyNext_tuple_item st (show s.heap.IsTuple a its.toArray from p) (x:=u) (by simpa using hu) λh' st' sb=>?_;have I1:Inv X pins σ H { s with heap:=h' }:=I.turned (t':=s.toks) (λb o hb e=>(sb.2 b hb).trans e) f0 f1 f3 f4 f5;obtain⟨o,e,c,d⟩:=id st';exact⟨u,rfl,AE (s:={ s with heap:=h' }) e c d (by decide) ⟨x,H,I1,ru,⟨rfl,λys hy=>by rw[I.Ce hy hq];exact hx⟩,st',λb hb=>(hf b hb).1⟩⟩
 done:=by intro X hP hw hK hc i pins s σ H E I hf st hg;subst hP hw hK;obtain⟨xs,hq,hx⟩:=hg;obtain⟨its,rv,p,hz⟩:=I.tuple hq;obtain⟨f0,f1,f2,f3,f4,f5⟩:=hf it (by simp);have hl:=rv.length;exact wpAny_pyNext_tuple_end (I.ok.hd hc) st (show s.heap.IsTuple a its.toArray from p) (by simp;omega) λh' eb=>⟨rfl,I.turned (t':=s.toks) (λb o hb e=>eb b o hb e) f0 f1 f3 f4 f5⟩
 self:=λ_ _ _ _ _ st h=>wpAny_pyIter_tupleiter st h
theorem zo{P:Program}{w:World}{K:Frag}{tg:Expr}(it:Addr)(lo:Int)(n:Nat):Turn P w K tg (Ru lo n) [it] it (λi h=>IsRangeIter h it (lo+(i:Nat)*1) ((n:Int)-(i:Nat)) 1) where
 mem:=by simp
 obj:=λi h st b hb=>by
  have e:b=it:=by simpa using hb
  subst e;exact⟨_,st,λv z=>by
   have z':Data.fields _=Data.cell v:=z;cases z'⟩
 keep:=λi h h' st k=>k it (by simp) _ st
 item:=by intro X hP hw hK hc i pins s σ H E I hf st hg;subst hP hw hK;obtain⟨f0,f1,f2,f3,f4,f5⟩:=hf it (by simp);have W:=Walks.range (prog:=X.prog) (w:=X.w) (I.ok.hd hc) it lo 1 n;refine W.item i s _ _ hg st λv h' tk hv st' kk=>?_;obtain⟨t,rfl⟩:=hv;have I1:Inv X pins σ H { s with heap:=h',toks:=tk }:=I.turned (λb o hb e=>kk b o (by simpa using hb) e) f0 f1 f3 f4 f5;refine⟨_,rfl,AE (s:={ s with heap:=h',toks:=tk }) (n:="range_iterator") st' rfl rfl (by decide) ⟨.int (lo+i),H,I1,⟨t,?_⟩,⟨rfl,rfl⟩,st',λb hb=>(hf b hb).1⟩⟩;rw[Int.mul_one]
 done:=by intro X hP hw hK hc i pins s σ H E I hf st hg;subst hP hw hK;obtain⟨f0,f1,f2,f3,f4,f5⟩:=hf it (by simp);exact wpAny_pyNext_range_end (I.ok.hd hc) st (by have:n<=i:=hg;omega) λh' eb=>⟨rfl,I.turned (t':=s.toks) (λb o hb e=>eb b o hb e) f0 f1 f3 f4 f5⟩
 self:=λ_ _ _ _ _ st h=>wpAny_pyIter_rangeiter st h
section
variable {X:Cx} {tg:Expr}
def Rv(K:Frag)(tl:TE):TI:=λσ H R=>tl σ H λx H1=>∃a,x=.ref a/\(∃xs,iu K H1 a xs)/\R (U3 K a) H1
def VN(K:Frag)(tl:TE):TI:=λσ H R=>tl σ H λx H1=>∃a,x=.ref a/\(∃xs,kO K H1 a xs)/\R (VM K a) H1
theorem IY(hl:PE X l tl):PI X tg l (Rv X.K tl):=by
 intro pins s σ H R I h;refine cj (hl pins s σ H _ I h) λv s1 aI=>?_;obtain⟨x,H1,I1,r1,q1⟩:=aI;obtain⟨a,e,⟨xs,hq⟩,q⟩:=q1;subst e;cases r1;obtain⟨its,rv,p,hz⟩:=I1.list hq;refine wpAny_pyIter_list p.isList ?_;refine⟨s1.heap.objs.size,[s1.heap.objs.size],_,_,H1,rfl,I1.kept (t':=s1.toks) λb o e=>aag _ e,Cf a _,⟨_,aav _ rfl,rfl,rfl⟩,λb hb=>?_,q⟩;have e:b=s1.heap.objs.size:=by simpa using hb
 subst e;exact I1.DP (aao _) (I1.hok.fresh (aao _))
theorem MN(hl:PE X l tl):PI X tg l (VN X.K tl):=by
 intro pins s σ H R I h;refine cj (hl pins s σ H _ I h) λv s1 aI=>?_;obtain⟨x,H1,I1,r1,q1⟩:=aI;obtain⟨a,e,⟨xs,hq⟩,q⟩:=q1;subst e;cases r1;obtain⟨its,rv,p,hz⟩:=I1.tuple hq;refine wpAny_pyIter_tuple (show s1.heap.IsTuple a its.toArray from p) ?_;refine⟨s1.heap.objs.size,[s1.heap.objs.size],_,_,H1,rfl,I1.kept (t':=s1.toks) λb o e=>aag _ e,zm a _,⟨_,aav _ rfl,rfl,rfl⟩,λb hb=>?_,q⟩;have e:b=s1.heap.objs.size:=by simpa using hb
 subst e;exact I1.DP (aao _) (I1.hok.fresh (aao _))
theorem wQ{lo hi:Int}{tk:Nat}(I:Inv X pins σ H s)(h1:-(2 ^ 62)<=lo)(h2:lo<2 ^ 62)(h3:-(2 ^ 62)<=hi)(h4:hi<2 ^ 62)
  (q:R (Ru lo (hi-lo).toNat) H):wpAny (model X.prog X.w) X.A (pyIter (.ref s.heap.objs.size)) (Xo X pins σ tg R) E { s with heap:=s.heap.push { cls:=.type "range",data:=.fields [.int lo t,.int hi u,.int 1 v].toArray },toks:=tk }:=by
 refine wpAny_pyIter_range (IsRange.new ..) (small_one h1 h2 h3 h4) ?_;have I1:Inv X pins σ H { s with heap:=s.heap.push { cls:=.type "range",data:=.fields [.int lo t,.int hi u,.int 1 v].toArray },toks:=tk }:=I.kept λb o e=>aag _ e;refine⟨(s.heap.push { cls:=.type "range",data:=.fields [.int lo t,.int hi u,.int 1 v].toArray }).objs.size,[(s.heap.push { cls:=.type "range",data:=.fields [.int lo t,.int hi u,.int 1 v].toArray }).objs.size],_,_,H,rfl,
  I1.kept (t':=tk) λb o e=>aag _ e,zo _ lo (hi-lo).toNat,?_,λb hb=>?_,q⟩
 ·have e1:lo+((0:Nat):Int)*1=lo:=by simp
  have e2:(((hi-lo).toNat:Nat):Int)-((0:Nat):Int)=Builtin.Range.rangeSize lo hi 1:=by rw[rangeSize_one];split<;>omega
  show IsRangeIter _ _ (lo+((0:Nat):Int)*1) ((((hi-lo).toNat:Nat):Int)-((0:Nat):Int)) 1;rw[e1,e2];exact aav _ rfl
 ·have e:b=(s.heap.push { cls:=.type "range",data:=.fields [.int lo t,.int hi u,.int 1 v].toArray }).objs.size:=by simpa using hb
  subst e;exact I1.DP (aao _) (I1.hok.fresh (aao _))
def Rx(ta:TA):TI:=λσ H R=>ta σ H λvs H1=>∃j:Int,vs=[.int j] /\ -(2 ^ 62)<=j/\j<2 ^ 62/\R (Ru 0 j.toNat) H1
def Ry(ta:TA):TI:=λσ H R=>ta σ H λvs H1=>∃i j:Int,vs=[.int i,.int j]/\(-(2 ^ 62)<=i/\i<2 ^ 62 /\ -(2 ^ 62)<=j/\j<2 ^ 62)/\R (Ru i (j-i).toNat) H1
theorem Cg(hg:Gl X "range")(hm:X.mg "range" = none)(ha:PA X [a] ta)(hs:starEach [a] X.env=[(false,eval a X.env)]):PI X tg (.Call (.Name "range" p) [a] [] pos) (Rx ta):=by
 intro pins s σ H R I h;refine Call_ (jm I hg hm boot_range (PyProof.Rows.callWith_type1 (cj (ha pos pins s σ H _ I h) λus s1 aI=>?_) hs rfl));obtain⟨vs,H1,I1,r1,q1⟩:=aI;obtain⟨j,e,q1,q2,q⟩:=q1;subst e;cases r1 with
 |cons r rr=>cases rr;obtain⟨t,rfl⟩:=r;exact call_range_1 (wQ I1 (by omega) (by omega) q1 q2 (by simpa using q))
theorem Ci(hg:Gl X "range")(hm:X.mg "range" = none)(ha:PA X [a,b] ta)(hs:starEach [a,b] X.env=[(false,eval a X.env),(false,eval b X.env)])(hs2:starEach [b] X.env=[(false,eval b X.env)]) :
  PI X tg (.Call (.Name "range" p) [a,b] [] pos) (Ry ta):=by
 intro pins s σ H R I h;refine Call_ (jm I hg hm boot_range (PyProof.Rows.callWith_type1 (cj (ha pos pins s σ H _ I h) λus s1 ⟨vs,H1,I1,r1,q1⟩=>?_) (by rw[hs,hs2]) (by rw[hs2];rfl)));obtain⟨i,j,e,⟨q1,q2,q3,q4⟩,q⟩:=q1;subst e;cases r1 with
 |cons r rr=>
  cases rr with
  |cons r' rr=>cases rr;obtain⟨t,rfl⟩:=r;obtain⟨t',rfl⟩:=r';exact call_range_2 (wQ I1 q1 q2 q3 q4 q)
def VO(wi:TI)(g:TG)(tb:TS):TS:=λD σ H=>wi σ H λJ H1=>∃W:Nat->Nat->St->Hp->Prop,(∃m,W 0 m σ H1)/\∀i m σ H,W i m σ H ->
 (J.stop i H/\D.nx σ H)\/(J.go i H/\∃N:St->Hp->Prop,(∀σ' H',N σ' H'->∃m',m'<m/\W (i+1) m' σ' H')/\∀x H',J.zl i H x H'->g x σ H' λσ2 H2=>tb { D with nx:=N,ct:=N,bk:=D.nx } σ2 H2)
def qA(fp:List Addr)(h:Heap):List (Addr×Obj):=fp.filterMap λb=>(h.get? b).map λo=>(b,o)
theorem j4(hb:b∈fp)(e:h.get? b=some o):(b,o)∈qA fp h:=List.mem_filterMap.mpr ⟨b,hb,by rw[e];rfl⟩
theorem Cj(hp:p∈qA fp h):p.1∈fp/\h.get? p.1=some p.2:=by
 obtain⟨b,hb,e⟩:=List.mem_filterMap.mp hp;cases q:h.get? b with
 |none=>rw[q]at e;cases e
 |some o=>rw[q]at e;have e':(b,o)=p:=aaH e;subst e';exact⟨hb,q⟩
theorem Inv.pinned(I:Inv X pins σ H s)(hf:∀b∈fp,pT X pins H b)(ho:∀b∈fp,∃o,s.heap.get? b=some o/\∀v,o.data≠.cell v):Inv X (pins++qA fp s.heap) σ H s :=
 I.AB λp hp=>(aaL.mp hp).elim (λz=>I.pin p (aaI _ z)) λz=>by
  obtain⟨hb,e⟩:=Cj z;obtain⟨f0,f1,f2,_⟩:=hf p.1 hb;obtain⟨o,e',d⟩:=ho p.1 hb;rw[e]at e';cases e';exact⟨e,f0,f1,f2,d⟩
theorem Inv.m5(I:Inv X (pins++pl) σ H s):Inv X pins σ H s:=I.AB λp hp=>I.pin p (aaI _ (aaT _ hp))
theorem MO(hp:PassesOwn (model X.prog X.w) X.A X.env X.xe)(hc:X.calm=true)(hi:PI X tg iter wi)(hg:PG X tg g)(hb:zc X body tb)
  (hs:∀x,foldedSetIterable iter X.env x=pure x):PS X (.For tg iter body [] pos) (VO wi g tb):=by
 intro pins s σ H D I h;refine wpAny_For (cj (hi pins s σ H _ I h) λv s1 h1=>cj h1 λitv s2 h2=>?_) hs;obtain⟨it,fp,tn,J,H2,e,I2,T,st2,f2,W,⟨m0,w0⟩,turn⟩:=h2;subst e;have stat:∀{H':Hp},(∀b∈fp,H' b=none)->∀b∈fp,pT X pins H' b:=λhn b hb=>⟨hn b hb,(f2 b hb).2⟩;refine codeAny_forLoop_any (λn s'=>∃i σ' H',Inv X pins σ' H' s'/\tn i s'.heap/\(∀b∈fp,H' b=none)/\W i n σ' H') ?_ m0 ⟨0,σ,H2,I2,st2,λb hb=>(f2 b hb).1,w0⟩;rintro n s3 ⟨i,σ3,H3,I3,st3,Xp,w3⟩
 rcases turn i n σ3 H3 w3 with ⟨stop,qn⟩|⟨go,N,hN,step⟩
 ·refine wpAny_passesOwn hp (cj (T.done X rfl rfl rfl hc i pins s3 σ3 H3 X.xe I3 (stat Xp) st3 stop) λr s4 aI=>?_);obtain⟨hr,I4⟩:=aI;subst hr;exact wpAny_execs_nil ⟨σ3,H3,I4,qn⟩
 ·refine wpAny_passesOwn hp (cj (T.item X rfl rfl rfl hc i pins s3 σ3 H3 X.xe I3 (stat Xp) st3 go) λr s4 aI=>?_)
  obtain⟨u,hr,h4⟩:=aI;subst hr;refine wpAny_passesOwn hp (cj h4 λ_ s5 aI=>?_);obtain⟨x,H5,I5,r5,y5,QK,U4⟩:=aI;have Y5:=I5.pinned (stat U4) (T.obj _ _ QK);refine wpAny_passesOwn hp (cj (hg _ s5 σ3 H5 x u _ Y5 r5 (step x H5 y5)) λ_ s6 aI=>?_);obtain⟨σ6,H6,I6,q6⟩:=aI;refine wpAny_passesOwn hp (cj (hb _ s6 σ6 H6 _ I6 q6) λf s7 q7=>?_);have again:∀{σ7:St} {H7:Hp},Inv X (pins++qA fp s5.heap) σ7 H7 s7->N σ7 H7->∃m,m<n/\∃i σ' H',Inv X pins σ' H' s7/\tn i s7.heap/\(∀b∈fp,H' b=none)/\W i m σ' H':=λ{σ7 H7} I7 n7=>by
   obtain⟨m',hm,w7⟩:=hN σ7 H7 n7;refine⟨m',hm,i+1,σ7,H7,I7.m5,T.keep _ _ _ QK λb hb o e=>(I7.pin (b,o) (aaI _ (aaI _ (j4 hb e)))).1,λb hb=>?_,w7⟩;obtain⟨o,e,d⟩:=T.obj _ _ QK b hb;exact(I7.pin (b,o) (aaI _ (aaI _ (j4 hb e)))).2.1
  cases f with
  |next=>obtain⟨σ7,H7,I7,n7⟩:=q7;exact again I7 n7
  |cont=>obtain⟨σ7,H7,I7,n7⟩:=q7;exact again I7 n7
  |brk=>obtain⟨σ7,H7,I7,q7⟩:=q7;exact⟨σ7,H7,I7.m5,q7⟩
  |ret v=>obtain⟨x7,σ7,H7,I7,r7,q7⟩:=q7;exact⟨x7,σ7,H7,I7.m5,r7,q7⟩
end
abbrev R2:=V->V->Hp->VK->Prop
def kR(X:Cx)(f:Value->Value->Sem Value)(r:R2):Prop :=
 ∀(pins:List (Addr×Obj)) (s:Shared) (σ:St) (H:Hp) (x y:V) (v u:Value) (Q:VK),Inv X pins σ H s->RelV x v->RelV y u->r x y H Q ->
  wpAny (model X.prog X.w) X.A (f v u) (EP X pins σ Q) X.xe s
def U5(X:Cx)(f:Value->Sem Value)(r:V->Hp->VK->Prop):Prop :=
 ∀(pins:List (Addr×Obj)) (s:Shared) (σ:St) (H:Hp) (x:V) (v:Value) (Q:VK),Inv X pins σ H s->RelV x v->r x H Q ->
  wpAny (model X.prog X.w) X.A (f v) (EP X pins σ Q) X.xe s
def cZ(X:Cx)(f:Value)(r:List V->Hp->VK->Prop):Prop :=
 ∀(pins:List (Addr×Obj)) (s:Shared) (σ:St) (H:Hp) (xs:List V) (us:List Value) (Q:VK),Inv X pins σ H s->Vals xs us->r xs H Q ->
  wpAny (model X.prog X.w) X.A (call f us) (EP X pins σ Q) X.xe s
def VP(X:Cx)(r:V->Hp->(Bool->Hp->Prop)->Prop):Prop :=
 ∀(pins:List (Addr×Obj)) (s:Shared) (σ:St) (H:Hp) (x:V) (v:Value) (Q:Bool->Hp->Prop),Inv X pins σ H s->RelV x v->r x H Q ->
  wpAny (model X.prog X.w) X.A (truthy v) (TP X pins σ Q) X.xe s
def QL(r:R2)(ta tb:TE):TE:=λσ H Q=>ta σ H λx H1=>tb σ H1 λy H2=>r x y H2 Q
def Y6(r:V->Hp->VK->Prop)(ta:TE):TE:=λσ H Q=>ta σ H λx H1=>r x H1 Q
def rI(C:Int->Int->Prop)(g:Int->Int->V):R2:=λx y H Q=>∃i j,x=.int i/\y=.int j/\C i j/\Q (g i j) H
def Im(g:Int->Int->V):R2:=λx y H Q=>∃i j,x=.int i/\y=.int j/\Q (g i j) H
def rU(g:Int->V):V->Hp->VK->Prop:=λx H Q=>∃i,x=.int i/\Q (g i) H
section
variable {X:Cx} {a b c:Expr} {ta tb tc:TE} {pos:Pos}
theorem MP(ha:PE X a ta)(hb:PE X b tb){pins:List (Addr×Obj)}{s:Shared}{σ:St}{H:Hp}{R:V->V->Hp->Prop}(I:Inv X pins σ H s)
  (h:ta σ H λx H1=>tb σ H1 λy H2=>R x y H2) {Q:Value->Shared->Prop} {f:Value->Value->Sem Value}
  (hf:∀v u s2 x y H2,Inv X pins σ H2 s2->RelV x v->RelV y u->R x y H2->wpAny (model X.prog X.w) X.A (f v u) Q X.xe s2) :
  wpAny (model X.prog X.w) X.A (eval a X.env) (λv s₁=>wpAny (model X.prog X.w) X.A (eval b X.env) (λu s₂=>wpAny (model X.prog X.w) X.A (f v u) Q X.xe s₂) X.xe s₁) X.xe s:=by
 refine cj (ha pins s σ H _ I h) λv s1 aI=>?_;obtain⟨x,H1,I1,r1,q1⟩:=aI;refine cj (hb pins s1 σ H1 _ I1 q1) λu s2 aI=>?_;obtain⟨y,H2,I2,r2,q2⟩:=aI;exact hf v u s2 x y H2 I2 r1 r2 q2
theorem Rz(ho:kR X (binaryOp op) r)(ha:PE X a ta)(hb:PE X b tb):PE X (.BinOp a op b pos) (QL r ta tb):=by
 intro pins s σ H Q I h;exact wpAny_BinOp (MP ha hb I h λv u s2 x y H2 I2 rx ry q=>ho pins s2 σ H2 x y v u Q I2 rx ry q)
theorem RA(ho:U5 X (unaryOp op) r)(ha:PE X a ta):PE X (.UnaryOp op a pos) (Y6 r ta):=by
 intro pins s σ H Q I h;exact UnaryOp_ (cj (ha pins s σ H _ I h) λv s1 ⟨x,H1,I1,r1,q1⟩=>ho pins s1 σ H1 x v Q I1 r1 q1)
theorem MQ{f:Value->Value->Sem Value}{C:Int->Int->Prop}{g:Int->Int->Int}
  (rule:∀(i j:Int) (t u:Tok) (s:Shared) (Q:Value->Shared->Prop) (E:Value->Shared->Prop),C i j->Q (.int (g i j) s.toks) { s with toks:=s.toks+1 }->wpAny (model X.prog X.w) X.A (f (.int i t) (.int j u)) Q E s) :
  kR X f (rI C λi j=>.int (g i j)):=by
 intro pins s σ H x y v u Q I rx ry h;obtain⟨i,j,rfl,rfl,hc,q⟩:=h;obtain⟨t,rfl⟩:=rx;obtain⟨t',rfl⟩:=ry;exact rule i j t t' s _ _ hc ⟨.int (g i j),H,I.tok _,⟨_,rfl⟩,q⟩
theorem IZ{f:Value->Value->Sem Value}{g:Int->Int->Int}
  (rule:∀(i j:Int) (t u:Tok) (s:Shared) (Q:Value->Shared->Prop) (E:Value->Shared->Prop),Q (.int (g i j) s.toks) { s with toks:=s.toks+1 }->wpAny (model X.prog X.w) X.A (f (.int i t) (.int j u)) Q E s) :
  kR X f (Im λi j=>.int (g i j)):=by
 intro pins s σ H x y v u Q I rx ry h;obtain⟨i,j,rfl,rfl,q⟩:=h;obtain⟨t,rfl⟩:=rx;obtain⟨t',rfl⟩:=ry;exact rule i j t t' s _ _ ⟨.int (g i j),H,I.tok _,⟨_,rfl⟩,q⟩
theorem Ja{f:Value->Value->Sem Value}{g:Int->Int->Bool}
  (rule:∀(i j:Int) (t u:Tok) (s:Shared) (Q:Value->Shared->Prop) (E:Value->Shared->Prop),Q (.bool (g i j)) s->wpAny (model X.prog X.w) X.A (f (.int i t) (.int j u)) Q E s) :
  kR X f (Im λi j=>.bl (g i j)):=by
 intro pins s σ H x y v u Q I rx ry h;obtain⟨i,j,rfl,rfl,q⟩:=h;obtain⟨t,rfl⟩:=rx;obtain⟨t',rfl⟩:=ry;exact rule i j t t' s _ _ ⟨.bl (g i j),H,I,rfl,q⟩
def VQ(i j:Int):Prop:=0<=j/\j<=1000000/\i.natAbs<2 ^ 64
def Jb(i j:Int):Prop:=(-(2 ^ 64)<i/\i<2 ^ 64)\/(-(2 ^ 64)<j/\j<2 ^ 64)
theorem Jb.ok{i j:Int}(h:Jb i j):IntMulOk i j:=by
 rcases h with ⟨h1,h2⟩|⟨h1,h2⟩
 ·exact .of_left (intBits_le_64 h1 h2)
 ·exact .of_right (intBits_le_64 h1 h2)
theorem MR:kR X (binaryOp .Add) (Im λi j=>.int (i+j)):=IZ λ_ _ _ _ _ _ _ q=>add_int q
theorem MS:kR X (binaryOp .Sub) (Im λi j=>.int (i-j)):=IZ λ_ _ _ _ _ _ _ q=>sub_int q
theorem MT:kR X (binaryOp .Mult) (rI Jb λi j=>.int (i*j)):=MQ λ_ _ _ _ _ _ _ hc q=>mul_int q hc.ok
theorem MU:kR X (binaryOp .Mod) (rI (λ_ j=>0<j) λi j=>.int (i%j)):=MQ λi j _ _ _ _ _ hc q=>by
 have h1:(0:Int)<j:=hc;exact mod_int' (by omega) (by rw[Int.fmod_eq_emod_of_nonneg i (by omega)];exact q)
theorem MV:kR X (binaryOp .Pow) (rI VQ λi j=>.int (i ^ j.toNat)):=MQ λ_ _ _ _ _ _ _ hc q=>pow_int_small hc.1 hc.2.1 hc.2.2 q
theorem Jc:kR X (inplaceOp .Add) (Im λi j=>.int (i+j)):=IZ λ_ _ _ _ _ _ _ q=>iadd_int q
theorem Jd:kR X (inplaceOp .Sub) (Im λi j=>.int (i-j)):=IZ λ_ _ _ _ _ _ _ q=>isub_int q
theorem Je:kR X (inplaceOp .Mult) (rI Jb λi j=>.int (i*j)):=MQ λ_ _ _ _ _ _ _ hc q=>imul_int q hc.ok
theorem Jf:kR X (inplaceOp .Mod) (rI (λ_ j=>0<j) λi j=>.int (i%j)):=MQ λi j _ _ _ _ _ hc q=>by
 have h1:(0:Int)<j:=hc;exact imod_int (by omega) (by rw[Int.fmod_eq_emod_of_nonneg i (by omega)];exact q)
theorem Y7{f:Value->Sem Value}{g:Int->Int}
  (rule:∀(i:Int) (t:Tok) (s:Shared) (Q:Value->Shared->Prop) (E:Value->Shared->Prop),Q (.int (g i) s.toks) { s with toks:=s.toks+1 }->wpAny (model X.prog X.w) X.A (f (.int i t)) Q E s) :
  U5 X f (rU λi=>.int (g i)):=by
 intro pins s σ H x v Q I rx h;obtain⟨i,rfl,q⟩:=h;obtain⟨t,rfl⟩:=rx;exact rule i t s _ _ ⟨.int (g i),H,I.tok _,⟨_,rfl⟩,q⟩
theorem DQ:U5 X (unaryOp .USub) (rU λi=>.int (-i)):=Y7 λ_ _ _ _ _ q=>neg_int q
end
section
variable {X:Cx} {a b c:Expr} {ta tb tc:TE} {pos:Pos}
theorem u9{k k':Bool}(I:Inv X pins σ H s)(q:Q (.bl k) H)(e:k=k'):EP X pins σ Q (.bool k') s:=by
 subst e;exact⟨.bl k,H,I,rfl,q⟩
theorem RB:kR X (compareOp .Lt) (Im λi j=>.bl (decide (i<j))):=Ja λ_ _ _ _ _ _ _ q=>lt_int q
theorem RC:kR X (compareOp .LtE) (Im λi j=>.bl (decide (i<=j))):=Ja λ_ _ _ _ _ _ _ q=>le_int q
theorem RD:kR X (compareOp .Gt) (Im λi j=>.bl (decide (j<i))):=Ja λ_ _ _ _ _ _ _ q=>gt_int q
theorem RE:kR X (compareOp .GtE) (Im λi j=>.bl (decide (j<=i))):=Ja λ_ _ _ _ _ _ _ q=>ge_int q
theorem MW:kR X (compareOp .Is) (λx y H Q=>y=.non/\Q (.bl (decide (x=.non))) H):=by
 intro pins s σ H x y v u Q I rx ry h;obtain⟨rfl,q⟩:=h;cases ry;refine is_none_gen (u9 I q ?_);cases x<;>first
  |(cases rx;rfl)
  |(obtain⟨t,rfl⟩:=rx;rfl)
theorem Jg:kR X (compareOp .IsNot) (λx y H Q=>y=.non/\Q (.bl (!decide (x=.non))) H):=by
 intro pins s σ H x y v u Q I rx ry h;obtain⟨rfl,q⟩:=h;cases ry;refine isnot_none_gen (u9 I q ?_);cases x<;>first
  |(cases rx;rfl)
  |(obtain⟨t,rfl⟩:=rx;rfl)
theorem Jh(ho:kR X (compareOp op) r)(ha:PE X a ta)(hb:PE X b tb)(hm:behindInMarks op b=false):PE X (.Compare a [op] [b] pos) (QL r ta tb):=by
 intro pins s σ H Q I h;exact wpAny_Compare1 (MP ha hb I h λv u s2 x y H2 I2 rx ry q=>ho pins s2 σ H2 x y v u Q I2 rx ry q) hm
def DR(t:TE):TT:=λσ H Q=>t σ H λx H'=>∃k,x=.bl k/\Q k H'
theorem AF(ho:kR X (compareOp op) r)(ha:PE X a ta)(hb:PE X b tb)(hm:behindInMarks op b=false):PT X (.Compare a [op] [b] pos) (DR (QL r ta tb)):=by
 intro pins s σ H Q I h;refine wpAny_isTrue_Compare1 (cj (ha pins s σ H _ I h) λv s1 ⟨x,H1,I1,r1,q1⟩=>cj (hb pins s1 σ H1 _ I1 q1) λu s2 ⟨y,H2,I2,r2,q2⟩=>
  cj (ho pins s2 σ H2 x y v u _ I2 r1 r2 q2) λc s3 ⟨z,H3,I3,r3,k,e,q3⟩=>?_) hm
 subst e;cases r3;exact wpAny_truthy_bool ⟨H3,I3,q3⟩
def MX(K:Frag)(x:V)(H:Hp)(k:Bool):Prop :=
 match x with
 |.non=>k=false
 |.bl b=>k=b
 |.int i=>k=(i != 0)
 |.str y=>y.length<=sizeLine/\k=((y.length:Int) != 0)
 |.byt y=>y.size<=sizeLine/\k=((y.size:Int) != 0)
 |.ref p=>(∃xs,iu K H p xs/\k = !xs.isEmpty)\/(∃xs,kO K H p xs/\k = !xs.isEmpty)\/∃kvs,H p=some (.dK kvs)/\k = !kvs.isEmpty
 |_=>False
theorem zp{κ:Type}{kvs:List (κ × V)}{vs:List (κ × Value)}(r:KV kvs vs):(!vs.isEmpty) = !kvs.isEmpty:=by
 cases r<;>rfl
theorem qB(r:Vals xs its):(!its.toArray.isEmpty) = !xs.isEmpty:=by
 cases r<;>simp
theorem n9:(sizeLine:Nat)<2 ^ 63:=by rw[sizeLine_eq];decide
theorem MY:VP X (λx H Q=>∃k,MX X.K x H k/\Q k H):=by
 intro pins s σ H x v Q I rx h;obtain⟨k,e,q⟩:=h;have hl:=n9;have hs:sizeLine=16777216:=sizeLine_eq;cases x with
 |non=>cases rx;have e':k=false:=e;subst e';exact truthy_none ⟨H,I,q⟩
 |bl b=>cases rx;have e':k=b:=e;subst e';exact wpAny_truthy_bool ⟨H,I,q⟩
 |int i=>obtain⟨t,rfl⟩:=rx;have e':k=(i != 0):=e;subst e';exact PySem.P.truthy_int ⟨H,I,q⟩
 |str y=>obtain⟨t,rfl⟩:=rx;obtain⟨hy,e'⟩:y.length<=sizeLine/\k=((y.length:Int) != 0):=e;subst e';exact PySem.P.truthy_str (by omega) ⟨H,I.tok _,q⟩
 |byt y=>obtain⟨t,rfl⟩:=rx;obtain⟨hy,e'⟩:y.size<=sizeLine/\k=((y.size:Int) != 0):=e;subst e';exact PySem.W.truthy_bytes (by omega) ⟨H,I.tok _,q⟩
 |ref p=>
  cases rx;have e':(∃xs,iu X.K H p xs/\k = !xs.isEmpty)\/(∃xs,kO X.K H p xs/\k = !xs.isEmpty)\/∃kvs,H p=some (.dK kvs)/\k = !kvs.isEmpty:=e
  rcases e' with ⟨xs,hx,e'⟩|⟨xs,hx,e'⟩|⟨kvs,hx,e'⟩
  ·subst e';obtain⟨its,r,pl,hz⟩:=I.list hx;have hlen:=r.length;exact wpAny_truthy_list pl.isList (by simp only[size_toArray];omega) ⟨H,I.tok _,by rw[qB r];exact q⟩
  ·subst e';obtain⟨its,r,pl,hz⟩:=I.tuple hx;have hlen:=r.length;exact truthy_tuple pl (by simp only[size_toArray];omega) ⟨H,I.tok _,by rw[qB r];exact q⟩
  ·subst e';obtain⟨hz,hS,vs,r,m⟩:kvs.length<=sizeLine/\(p==sysModules)=false/\∃vs,KV kvs vs/\s.heap.DictOf (aY X.prog X.w) p vs:=I.hok p _ hx;have hlen:kvs.length=vs.length:=Paired.length r;exact wpAny_truthy_dict hS m (by omega) ⟨H,I.tok _,by rw[zp r];exact q⟩
 |_=>exact(show False from e).elim
theorem DS(ha:PE X a ta)(he:∀whole,isTrue a X.env whole=(do let v <-whole;standAt a.pos;holding [v] (truthy v))) :
  PT X a (λσ H Q=>ta σ H λx H'=>∃k,MX X.K x H' k/\Q k H'):=by
 intro pins s σ H Q I h;exact isTrue_plain (cj (ha pins s σ H _ I h) λv s1 ⟨x,H1,I1,r1,q1⟩=>MY pins s1 σ H1 x v Q I1 r1 q1) (he _)
theorem zq:kR X (binaryOp .Add) (λx y H Q=>∃i j,x=.str i/\y=.str j/\i.length+j.length<=sizeLine/\Q (.str (i++j)) H):=by
 intro pins s σ H x y v u Q I rx ry h;obtain⟨i,j,rfl,rfl,hz,q⟩:=h;obtain⟨t,rfl⟩:=rx;obtain⟨t',rfl⟩:=ry;exact add_str (λt' tk=>⟨.str (i++j),H,I.tok _,⟨_,rfl⟩,q⟩) hz
theorem vals1(r:Vals [x] us):∃u,us=[u]/\RelV x u:=by
 cases r with
 |cons r1 r2=>cases r2;exact⟨_,rfl,r1⟩
theorem vals2(r:Vals [x,y] us):∃u w',us=[u,w']/\RelV x u/\RelV y w':=by
 cases r with
 |cons r1 r2=>
  cases r2 with
  |cons r3 r4=>cases r4;exact⟨_,_,rfl,r1,r3⟩
theorem Ck(hc:X.calm=true):cZ X (.builtin "max") (λxs H Q=>∃i j,xs=[.int i,.int j]/\Q (.int (if j>i then j else i)) H):=by
 intro pins s σ H xs us Q I r h;obtain⟨i,j,rfl,q⟩:=h;obtain⟨u,w',rfl,⟨t,rfl⟩,⟨t',rfl⟩⟩:=vals2 r;refine max_two_ints (I.ok.hd hc) λh' tk k=>⟨_,H,I.kept k,?_,q⟩
 by_cases hj:j>i
 ·rw[aai hj,aai hj];exact⟨_,rfl⟩
 ·rw[aal hj,aal hj];exact⟨_,rfl⟩
theorem Cm(hc:X.calm=true):cZ X (.builtin "min") (λxs H Q=>∃i j,xs=[.int i,.int j]/\Q (.int (if j<i then j else i)) H):=by
 intro pins s σ H xs us Q I r h;obtain⟨i,j,rfl,q⟩:=h;obtain⟨u,w',rfl,⟨t,rfl⟩,⟨t',rfl⟩⟩:=vals2 r;refine min_two_ints (I.ok.hd hc) λh' tk k=>⟨_,H,I.kept k,?_,q⟩
 by_cases hj:j<i
 ·rw[aai hj,aai hj];exact⟨_,rfl⟩
 ·rw[aal hj,aal hj];exact⟨_,rfl⟩
theorem uc:cZ X (.type "int") (λxs H Q=>(∃i,xs=[.int i]/\Q (.int i) H)\/∃k,xs=[.bl k]/\Q (.int (if k then 1 else 0)) H):=by
 intro pins s σ H xs us Q I r h
 rcases h with ⟨i,rfl,q⟩|⟨k,rfl,q⟩
 ·obtain⟨u,rfl,t,rfl⟩:=vals1 r;exact call_int_int ⟨.int i,H,I,⟨_,rfl⟩,q⟩
 ·obtain⟨u,rfl,r1⟩:=vals1 r;cases r1;exact call_int_bool ⟨.int (if k then 1 else 0),H,I.tok _,⟨_,rfl⟩,q⟩
def VS(K:Frag)(x:V)(H:Hp)(n:Nat):Prop :=
 match x with
 |.str y=>y.length<=sizeLine/\n=y.length
 |.byt y=>y.size<=sizeLine/\n=y.size
 |.ref p=>(∃xs,iu K H p xs/\n=xs.length)\/∃xs,kO K H p xs/\n=xs.length
 |_=>False
theorem m7:cZ X (.builtin "len") (λxs H Q=>∃x n,xs=[x]/\VS X.K x H n/\Q (.int n) H):=by
 intro pins s σ H xs us Q I r h;obtain⟨x,n,rfl,e,q⟩:=h;obtain⟨u,rfl,rx⟩:=vals1 r;have hl:=n9;have hs:sizeLine=16777216:=sizeLine_eq;cases x with
 |str y=>obtain⟨t,rfl⟩:=rx;obtain⟨hy,e'⟩:y.length<=sizeLine/\n=y.length:=e;subst e';exact len_str (by omega) ⟨.int _,H,I.tok _,⟨_,rfl⟩,q⟩
 |byt y=>obtain⟨t,rfl⟩:=rx;obtain⟨hy,e'⟩:y.size<=sizeLine/\n=y.size:=e;subst e';exact PySem.W.len_bytes (by omega) ⟨.int _,H,I.tok _,⟨_,rfl⟩,q⟩
 |ref p=>
  cases rx;have e':(∃xs,iu X.K H p xs/\n=xs.length)\/∃xs,kO X.K H p xs/\n=xs.length:=e
  rcases e' with ⟨xs,hx,e'⟩|⟨xs,hx,e'⟩
  ·subst e';obtain⟨its,r',pl,hz⟩:=I.list hx;have hlen:=r'.length;exact Calls.call_len_list pl.isList (by simp only[size_toArray];omega) ⟨.int xs.length,H,I.tok _,⟨_,by simp only[size_toArray];rw[hlen]⟩,q⟩
  ·subst e';obtain⟨its,r',pl,hz⟩:=I.tuple hx;have hlen:=r'.length;exact len_tuple pl (by simp only[size_toArray];omega) ⟨.int xs.length,H,I.tok _,⟨_,by simp only[size_toArray];rw[hlen]⟩,q⟩
 |_=>exact(show False from e).elim
end
structure zu (h:Heap) (x dx C:Addr) (mA:Str->Option Value):Prop where
 obj:h.get? x=some (instObj C dx)
 ns:h.Ns1 dx mA
 ne:dx≠x
theorem Cn{h:Heap}{dx:Addr}{mA:Str->Option Value}(n:h.Ns1 dx mA):∃od,h.get? dx=some od/\∀name,lookIn name od=some (mA name):=by
 obtain⟨o,es,ep,ho,hd,hk,_,hm⟩:=n;refine⟨o,ho,λname=>?_⟩;have e:=hm name;unfold nsFind findBy at e;rw[<-Array.find?_toList]at e;unfold lookIn;rw[hd];dsimp only
 split
 ·rename_i y q;rw[q]at e;exact congrArg some e
 ·rename_i q
  rw[q]at e;have a:es.toList.any (·.refKey)=false:=by rw[List.any_eq_false];intro y hy;obtain⟨z,t,hkey⟩:=hk y (Array.mem_toList_iff.mp hy);simp[DictEntry.refKey,hkey]
  have a':¬ es.toList.any (·.refKey)=true:=by rw[a];exact aac
  rw[aal a'];exact congrArg some e
theorem zu.look(I:zu h x dx C mA):∃od,PySem.W.InstAt h x (instObj C dx) C (some od)/\∀name,lookIn name od=some (mA name) :=
 let ⟨od,ho,hl⟩:=Cn I.ns
 ⟨od,⟨I.obj,rfl,rfl,ho⟩,hl⟩
section
variable {prog:Program} {w:World} {A:Around} {E:Value->Shared->Prop} {s:Shared} {K:Frag} {x dx C f:Addr} {mA:Str->Option Value} {name:Str} {v:Value}
theorem get_map{expr:Bool}(X:K.In s.heap)(I:zu s.heap x dx C mA)(hg:plainGet K C name=true)(hh:hasDictIn K C=true)
  (ha:findIn K (.ref C) name=some none) (hv:mA name=some v) (hv':handedIn v=true) (h:Q v { s with toks:=s.toks+1 }) :
  wpAny (model prog w) A (getAttr (.ref x) name expr) Q E s:=by
 obtain⟨od,J,hl⟩:=I.look;exact PySem.W.get_value X J (plainGet_of hg).1 (PySem.W.findObj_own hh ha rfl (by rw[hl,hv])) hv' h
theorem DT(X:K.In s.heap)(I:zu s.heap x dx C mA)(hg:plainGet K C name=true)
  (hf:findIn K (.ref C) name=some (some (.ref f))) (ht:isFn K (.ref f)=true) (hv:mA name=none) (h:Q (.ref f,[.ref x]) s) :
  wpAny (model prog w) A (getMethod (.ref x) name pl) Q E s:=by
 obtain⟨od,J,hl⟩:=I.look;exact PySem.W.method_fn X J (plainGet_of hg).1 (plainGet_of hg).2 hf (beq_iff_eq.mp ht) (by show (lookIn name od).map (·.isSome)=some false;rw[hl,hv];rfl) h
theorem Ji(X:K.In s.heap)(I:zu s.heap x dx C mA)
  (hs:findIn K (.ref C) "__setattr__" = some (some (.builtin "object.__setattr__"))) (hp:plainOver K C=true) (ht:takerIn K C name=some none) (hh:hasDictIn K C=true)
  (hw:PySem.Within mA ns) (hsz:ns.length<=sizeLine)
  (h:∀h',zu h' x dx C (λy=>if y=name then some v else mA y)->Heap.SameBut dx s.heap h'->Q () { s with heap:=h',toks:=s.toks+2 }) :
  wpAny (model prog w) A (setAttr (.ref x) name v) Q E s:=by
 obtain⟨od,J,hl⟩:=I.look;refine PySem.W.set_plain X J hs (PySem.W.osa_open (s:={ s with toks:=s.toks+1 }) (r:=none) X J hp ht λb=>?_);obtain⟨cd,hc,hd'⟩:=PySem.W.any_some hh;have hx:s.heap.get? x=some ⟨.ref C,some dx,.plain,#[]⟩:=I.obj;refine aad (aaj (aad (aad (wpAny_loadPart hx (aad (PySem.W.Looks.here (s:={ s with toks:=s.toks+1 }) (PySem.W.looks_clsIn X hc) ?_))))));rw[hd'];refine aaj (a:=some dx) (aad (aaj (aad ?_)));refine wpAny_nsSet1 (s:={ s with toks:=s.toks+1 }) I.ns λh' hn2 hs2=>?_;obtain⟨oD,esD,epD,Y8,Y9,Za⟩:=hn2.count (PySem.Within.cons name v hw);refine aad (wpAny_lookBehind Y8 (by rw[Y9];exact pastItsLine_dict (aaM Za (by rw[aaz];omega))) ?_);exact aaj (h _ ⟨(hs2.2 _ (Ne.symm I.ne)).trans I.obj,hn2,I.ne⟩ hs2)
theorem DU(X:K.In s.heap)(hm:makesIn K C=true)
  (hi:findIn K (.ref C) "__init__" = some (some (.ref f))) (hf:typeIn K (.ref f)=some (.type "function"))
  (h:codeAny (model prog w) (A.under (.builtin "type.__call__" ⟨.ref C::vs,kw⟩)) (.call (.ref f) ⟨.ref (s.heap.objs.size+1)::vs,kw⟩) (PySem.W.InitBack (s.heap.objs.size+1) R)
   { s with heap:=(s.heap.push emptyDict).push (instObj C s.heap.objs.size) }) :
  codeAny (model prog w) A (.call (.ref C) ⟨vs,kw⟩) R s:=by
 obtain⟨hh,g,d,t,os⟩:=s;exact PySem.W.make_core (PySem.W.makes_of X hm) (PySem.W.looks_findIn X hi) (λself=>PySem.W.bind_fn X self hf) (.inl rfl) h
end
def j5(f:Str)(v:V):List (Str×V)->List (Str×V)
 |[]=>[(f,v)]
 |(g,x)::r=>if g=f then (g,v)::r else (g,x)::j5 f v r
theorem pC(f g:Str)(v:V):∀fs:List (Str×V),(j5 f v fs).lookup g=if g=f then some v else fs.lookup g
 | []=>by
  show List.lookup g [(f,v)]=_
  by_cases h:g=f
  ·have hb:(g==f)=true:=beq_iff_eq.mpr h;simp only[List.lookup,hb,if_pos h]
  ·have hb:(g==f)=false:=aaU.mpr h;simp only[List.lookup,hb,if_neg h]
 | (k,x)::r=>by
  have ih:=pC f g v r;rw[show j5 f v ((k,x)::r)=(if k=f then (k,v)::r else (k,x)::j5 f v r) from rfl]
  by_cases hk:k=f
  ·rw[aai hk]
   by_cases h:g=k
   ·have hb:(g==k)=true:=beq_iff_eq.mpr h;simp only[List.lookup,hb,if_pos (h.trans hk)]
   ·have hb:(g==k)=false:=aaU.mpr h;simp only[List.lookup,hb,if_neg (λe:g=f=>h (e.trans hk.symm))]
  ·rw[aal hk]
   by_cases h:g=k
   ·have hb:(g==k)=true:=beq_iff_eq.mpr h;simp only[List.lookup,hb,if_neg (λe:g=f=>hk (h.symm.trans e))]
   ·have hb:(g==k)=false:=aaU.mpr h;simp only[List.lookup,hb];exact ih
theorem oh(f:Str)(v:V):∀fs:List (Str×V),f∈(j5 f v fs).map (·.1)/\∀g,g∈fs.map (·.1)->g∈(j5 f v fs).map (·.1)
 |[]=>⟨by simp[j5],λg h=>by simp at h⟩
 | (k,x)::r=>by
  obtain⟨i1,i2⟩:=oh f v r;rw[show j5 f v ((k,x)::r)=(if k=f then (k,v)::r else (k,x)::j5 f v r) from rfl]
  by_cases hk:k=f
  ·rw[aai hk];subst hk;exact⟨by simp,λg h=>by simpa using h⟩
  ·rw[aal hk]
   refine⟨?_,λg h=>?_⟩
   ·rw[aap];exact aam _ i1
   ·rw[aap]at h |-
    rcases aaG.mp h with e|e
    ·exact aaG.mpr (.inl e)
    ·exact aam _ (i2 g e)
theorem pD(f:Str)(v:V):∀fs:List (Str×V),(j5 f v fs).length<=fs.length+1
 |[]=>by simp[j5]
 | (k,x)::r=>by
  have ih:=pD f v r;rw[show j5 f v ((k,x)::r)=(if k=f then (k,v)::r else (k,x)::j5 f v r) from rfl]
  by_cases hk:k=f
  ·rw[aai hk,aaz,aaz];omega
  ·rw[aal hk,aaz,aaz];omega
theorem kH.some_of(r:kH (some v) o):∃u,o=some u/\RelV v u:=by
 cases o with
 |none=>exact(show False from r).elim
 |some u=>exact⟨u,rfl,r⟩
theorem kH.none_of(r:kH none o):o=none:=by
 cases o with
 |none=>rfl
 |some u=>exact(show False from r).elim
theorem Co(r:RelV v u):handedIn u=true:=by
 cases v with
 |non=>cases (show u=Value.none from r);rfl
 |bl b=>cases (show u=Value.bool b from r);rfl
 |int i=>obtain⟨t,e⟩:=(show ∃t,u=Value.int i t from r);cases e;rfl
 |str x=>obtain⟨t,e⟩:=(show ∃t,u=Value.str x t from r);cases e;rfl
 |byt b=>obtain⟨t,e⟩:=(show ∃t,u=Value.bytes b t from r);cases e;rfl
 |flt b=>obtain⟨t,e⟩:=(show ∃t,u=Value.float b t from r);cases e;rfl
 |ref a=>cases (show u=Value.ref a from r);rfl
 |ty n=>cases (show u=Value.type n from r);rfl
section
variable {P:Program} {w:World} {H H':Hp} {h h':Heap} {a C dx:Addr} {fs fs':List (Str×V)}
theorem vc(hok:mG P w H h)(e:H a=some (.ins C dx fs)):∃mA,zu h a dx C mA/\(∀f,kH (fs.lookup f) (mA f))/\PySem.Within mA (fs.map (·.1))/\fs.length<=1000/\H dx=some (.own a):=by
 obtain⟨d,z,ne,ob,mA,n,r,q⟩:=(show bR P w H h a (.ins C dx fs) from hok a _ e);exact⟨mA,⟨ob,n,ne⟩,r,q,z,d⟩
end
structure Dy (K:Frag) (C:Addr):Prop where
 pg:plainGet K C Str.empty=true
 hd:hasDictIn K C=true
 po:plainOver K C=true
 sa:findIn K (.ref C) "__setattr__" = some (some (.builtin "object.__setattr__"))
theorem Dy.get{K:Frag}{C:Addr}(c:Dy K C)(f:Str):plainGet K C f=true:=c.pg
def kT(K:Frag)(C:Addr)(f:Str):Prop:=findIn K (.ref C) f=some none
theorem kT.RG{K:Frag}{C:Addr}{f:Str}(n:kT K C f):takerIn K C f=some none:=by
 unfold takerIn;rw[show findIn K (.ref C) f=some none from n];rfl
structure Meth (K:Frag) (C:Addr) (m:Str) (f:Addr):Prop where
 at_:findIn K (.ref C) m=some (some (.ref f))
 fn:isFn K (.ref f)=true
 kp:keepIn K (.ref f)=true
section
variable {X:Cx} {pins:List (Addr×Obj)} {σ:St} {H:Hp} {s:Shared} {a C dx:Addr} {fs:List (Str×V)} {f:Str} {v:V} {A:Around} {E:Value->Shared->Prop}
theorem zw{b:Bool}(I:Inv X pins σ H s)(e:H a=some (.ins C dx fs))(c:Dy X.K C)(n:kT X.K C f)(l:fs.lookup f=some v)
  (h:∀u s',Inv X pins σ H s'->RelV v u->Q u s'):wpAny (model X.prog X.w) A (getAttr (.ref a) f b) Q E s:=by
 obtain⟨mA,O,r,_,_,_⟩:=vc I.hok e;obtain⟨u,hu,ru⟩:=kH.some_of (v:=v) (o:=mA f) (by rw[<-l];exact r f);exact get_map I.n8 O (c.get f) c.hd n hu (Co ru) (h u _ (I.tok _) ru)
theorem qC(I:Inv X pins σ H s)(e:H a=some (.ins C dx fs))(c:Dy X.K C)(k:Meth X.K C m g)(l:fs.lookup m=none)
  (h:Q (.ref g,[.ref a]) s):wpAny (model X.prog X.w) A (getMethod (.ref a) m pl) Q E s:=by
 obtain⟨mA,O,r,_,_,_⟩:=vc I.hok e;have hn:mA m=none:=kH.none_of (by rw[<-l];exact r m);exact DT I.n8 O (c.get m) k.at_ k.fn hn h
theorem zx(I:Inv X pins σ H s)(e:H a=some (.ins C dx fs))(c:Dy X.K C)(n:kT X.K C f)(hl:fs.length<1000)(ry:RelV y u)
  (h:∀s',Inv X pins σ (upd H a (.ins C dx (j5 f y fs))) s'->Q () s'):wpAny (model X.prog X.w) A (setAttr (.ref a) f u) Q E s:=by
 obtain⟨mA,O,r,wi,_,ho⟩:=vc I.hok e;have hz:(fs.map (·.1)).length<=sizeLine:=by rw[aah,sizeLine_eq];omega
 refine Ji I.n8 O c.sa c.po n.RG c.hd wi hz λh' O' sb=>h _ ?_;have hd:∃o,h'.get? dx=some o:=let ⟨o,_,_,e',_⟩:=O'.ns;⟨o,e'⟩
 refine I.write (x:=a) (e:=dx) (by rw[e];exact True.intro) (.inr ho) (λb q hb z=>(sb.2 b hb).trans z) hd ?_;refine⟨by rw[au O.ne];exact ho,?_,O.ne,O'.obj,_,O'.ns,λg=>?_,λg hg=>?_⟩
 ·have:=pD f y fs;omega
 ·show kH ((j5 f y fs).lookup g) (if g=f then some u else mA g)
  rw[pC]
  by_cases q:g=f
  ·rw[aai q,aai q];exact ry
  ·rw[aal q,aal q];exact r g
 ·by_cases q:g=f
  ·rw[q];exact(oh f y fs).1
  ·refine(oh f y fs).2 g (wi g λz=>hg ?_);show (if g=f then some u else mA g)=none;rw[aal q];exact z
theorem Inv.made(I:Inv X pins σ H s):Inv X pins σ (upd (upd H s.heap.objs.size (.own (s.heap.objs.size+1))) (s.heap.objs.size+1) (.ins C s.heap.objs.size []))
  { s with heap:=(s.heap.push emptyDict).push (instObj C s.heap.objs.size) }:=by
 have e1:(s.heap.push emptyDict).get? s.heap.objs.size=some emptyDict:=aav s.heap rfl;have e2:((s.heap.push emptyDict).push (instObj C s.heap.objs.size)).get? (s.heap.objs.size+1)=some (instObj C s.heap.objs.size):=by have:=aav (s.heap.push emptyDict) (o:=instObj C s.heap.objs.size) rfl;rwa [size_push]at this
 have e3:(s.heap.push emptyDict).Ns s.heap.objs.size (λ_=>none):=⟨emptyDict,#[],_,e1,rfl,(λe he=>absurd he (by simp)),λ_=>rfl⟩;have I1:=I.laid (a:=s.heap.objs.size) (o:=.own (s.heap.objs.size+1)) (h':=s.heap.push emptyDict) (t':=s.toks) (λb u q=>aag _ q) (aao _) ⟨_,e1⟩;refine I1.laid (a:=s.heap.objs.size+1) (o:=.ins C s.heap.objs.size []) (t':=s.toks) (λb u q=>aag _ q) (Nat.le_of_eq (size_push _ _)) ?_;have ne:s.heap.objs.size≠s.heap.objs.size+1:=aaA (lt_succ_self _);refine⟨by rw[au ne,aP],zero_le _,ne,e2,λ_=>none,(Heap.Ns1.of_empty e3).at λo q=>aag _ q,λ_=>True.intro,λy hy=>absurd rfl hy⟩
theorem attr_of(hb:attributeBase e f env (eval e env)=eval e env)
  (h:wpAny (model prog w) A (eval e env) (λo s₁=>wpAny (model prog w) A (getAttr o f true) Q E s₁) E s):wpAny (model prog w) A (eval (.Attribute e f pos) env) Q E s :=
 Attribute_any_ h (by rw[arm_eval_Attribute,hb])
end
def tFld(K:Frag)(ta:TE)(f:Str):TE:=λσ H Q=>ta σ H λx H1=>∃a C dx fs v,x=.ref a/\H1 a=some (.ins C dx fs)/\Dy K C/\kT K C f/\fs.lookup f=some v/\Q v H1
def VT(K:Frag)(ta tv:TE)(f:Str):TS:=λD σ H=>tv σ H λy H1=>ta σ H1 λx H2=>∃a C dx fs,x=.ref a/\H2 a=some (.ins C dx fs)/\Dy K C/\kT K C f/\fs.length<1000 /\
 D.nx σ (upd H2 a (.ins C dx (j5 f y fs)))
section
variable {X:Cx} {o e value:Expr} {f:Str} {pos pos' tpos:Pos} {ta tv:TE}
theorem pe_fld(he:PE X e ta)(hb:attributeBase e f X.env (eval e X.env)=eval e X.env):PE X (.Attribute e f pos) (tFld X.K ta f):=by
 intro pins s σ H Q I h;refine attr_of hb (cj (he pins s σ H _ I h) λu s1 aI=>?_);obtain⟨x,H1,I1,rx,a,C,dx,fs,v,ex,ea,c,n,l,q⟩:=aI;subst ex;obtain rfl:u=Value.ref a:=rx;exact zw I1 ea c n l λu' s2 I2 ru=>⟨v,H1,I2,ru,q⟩
theorem MZ(ha:PE X o ta)(hv:PE X value tv)(hs:swapsWith value (some (.Attribute o f pos')) pos.line X.env=pure false):PS X (.Assign [.Attribute o f pos'] value pos) (VT X.K ta tv f):=by
 intro pins s σ H D I h;refine plainObj_wpAny_Assign_Attribute (cj (hv pins s σ H _ I h) λu s1 ⟨y,H1,I1,ry,q⟩=>cj (ha pins s1 σ H1 _ I1 q) λov s2 ⟨x,H2,I2,rx,a,C,dx,fs,ex,ea,c,n,l,q2⟩=>?_) hs;subst ex;obtain rfl:ov=Value.ref a:=rx;exact zx I2 ea c n l ry λs3 I3=>⟨σ,_,I3,q2⟩
end
structure dw (k:Nat) (A:Around):Prop where
 hd:A.handled=none
 dp:A.depth+3*k+5<recursionLimit
 un:A.units+16*k+200<cLine
theorem dw.mono{j k:Nat}(r:dw k A)(h:j<=k):dw j A:=⟨r.hd,by have:=r.dp;omega,by have:=r.un;omega⟩
theorem dw.deeper{k:Nat}(r:dw (k+1) A)(env:Env):dw k (A.deeper env) :=
 ⟨r.hd,by have:=r.dp;show A.depth+1+3*k+5<_;omega,by have:=r.un;show A.units+3+16*k+200<_;omega⟩
theorem zy{A:Around}{C:Addr}{us:List Value}{kw:List (Str×Value)}:(A.under (.builtin "type.__call__" ⟨.ref C::us,kw⟩)).depth=A.depth+1:=by
 first|rfl|simp[Around.under,Code.weight,Code.isCreation,Code.isGuard,Code.isCaller,Code.frames,Code.isFrame,guardIds]
theorem zA{A:Around}{C:Addr}{us:List Value}{kw:List (Str×Value)}:(A.under (.builtin "type.__call__" ⟨.ref C::us,kw⟩)).units=A.units+1:=by
 first|rfl|simp[Around.under,Code.cUnits,Code.frames,Code.isFrame]
theorem dw.make{k:Nat}(r:dw (k+1) A)(C:Addr)(us:List Value)(kw:List (Str×Value)):dw k (A.under (.builtin "type.__call__" ⟨.ref C::us,kw⟩)) :=
 ⟨r.hd,by have:=r.dp;rw[zy];omega,by have:=r.un;rw[zA];omega⟩
theorem dw.depth{k:Nat}(r:dw k A):A.depth<recursionLimit:=by have:=r.dp;omega
theorem dw.units{k:Nat}(r:dw k A):A.units+64<cLine:=by have:=r.un;omega
def M0:TA:=λ_ H Q=>Q [] H
def RH(ta:TE)(tr:TA):TA:=λσ H Q=>ta σ H λx H1=>tr σ H1 λxs H2=>Q (x::xs) H2
section
variable {X:Cx} {e:Expr} {es:List Expr} {te:TE} {t:TA} {pos:Pos}
theorem DV:PA X [] M0:=λ_ _ _ _ H Q I h=>Calls.spliced_nil ⟨[],H,I,.nil,h⟩
theorem vd(ha:PE X e te)(hr:PA X es t)(hs:starEach (e::es) X.env=(false,eval e X.env)::starEach es X.env:=by rfl):PA X (e::es) (RH te t):=by
 intro pos pins s σ H Q I h;rw[hs];show wpAny _ _ (spliced ((false,eval e X.env)::backTo pos (starEach es X.env))) _ _ s;refine Calls.spliced_cons (cj (ha pins s σ H _ I h) λu s1 aI=>?_);obtain⟨x,H1,I1,r1,q1⟩:=aI;exact cj (hr pos pins s1 σ H1 _ I1 q1) λus s2 ⟨xs,H2,I2,r2,q2⟩=>⟨x::xs,H2,I2,.cons r1 r2,q2⟩
def VU(t:TA):TE:=λσ H Q=>t σ H λxs H1=>xs.length<=sizeLine/\∀p,H1 p=none->Q (.ref p) (upd H1 p (.tup xs))
def VW(t:TA):TE:=λσ H Q=>t σ H λxs H1=>xs.length<=sizeLine/\∀p,H1 p=none->Q (.ref p) (upd H1 p (.lst xs))
theorem M1{x1}(h:PA X es t):PE X (.Tuple es x1 pos) (VU t):=by
 intro pins s σ H Q I hq;refine wpAny_Tuple_spliced (cj (h pos pins s σ H _ I hq) λus s1 ⟨xs,H1,I1,r,z,q⟩=>⟨by rw[<-r.length];exact z,?_⟩);have hf:H1 s1.heap.objs.size=none:=I1.hok.fresh (aao _);refine⟨.ref s1.heap.objs.size,upd H1 s1.heap.objs.size (.tup xs),I1.laid (t':=s1.toks) (λb u e=>aag _ e) (aao _) ?_,rfl,q _ hf⟩;exact⟨z,us,r,⟨_,aav _ rfl,rfl,_,rfl⟩⟩
theorem M3(h:PA X es t):PE X (.List es pos) (VW t):=by
 intro pins s σ H Q I hq;refine wpAny_List_spliced (cj (h pos pins s σ H _ I hq) λus s1 ⟨xs,H1,I1,r,z,q⟩=>⟨by rw[<-r.length];exact z,?_⟩);have hf:H1 s1.heap.objs.size=none:=I1.hok.fresh (aao _);refine⟨.ref s1.heap.objs.size,upd H1 s1.heap.objs.size (.lst xs),I1.laid (t':=s1.toks) (λb u e=>aag _ e) (aao _) ?_,rfl,q _ hf⟩;exact⟨z,us,0,r,aav _ rfl⟩
end
abbrev Sp:=List V->Hp->VK->XK->Prop
abbrev Cp:=List Env->Hp->Shared->XK->Value->Shared->Prop
structure zB (P:Program) (w:World) (K:Frag) (mg:Str->Option Value) (base:Heap) (A:Around) (outer:List Env) (s:Shared) (H:Hp):Prop where
 frames:A.frames=some outer
 mod:Mod K mg base
 bs:∀b o,base.get? b=some o->s.heap.get? b=some o/\H b=none
 Ly:base.objs.size<=s.heap.objs.size
 pS:s.heap.FunFrames base outer
 Mv:∀b∈frs outer,H b=none
 hok:mG P w H s.heap
 bare:AllBare s.gens
def CE(outer:List Env)(P:Program)(w:World)(H:Hp)(s:Shared)(Q:VK)(u:Value)(s':Shared):Prop :=
 ∃v H',s'.os=s.os/\AllBare s'.gens/\Un (frs outer) [] H H' s.heap s'.heap/\mG P w H' s'.heap/\RelV v u/\Q v H'
def CR(CX:Cp)(outer:List Env)(P:Program)(w:World)(H:Hp)(s:Shared)(Q:VK)(E:XK)(r:Result)(s':Shared):Prop :=
 match r with
 |.ok (.ret u)=>CE outer P w H s Q u s'
 |.ok _=>False
 |.error e=>CX outer H s E e s'
structure fW (P:Program) (w:World) (K:Frag) (mg:Str->Option Value) (base:Heap) (CX:Cp) (k:Nat) (f:Addr) (fd:FuncData) (ps:List Str) (sp:Sp):Prop where
 len:∀vs H Q E,sp vs H Q E->vs.length=ps.length
 run:∀(A:Around) (outer:List Env) (s:Shared) (H:Hp) (args:Args) (us:List Value) (vs:List V) (Q:VK) (E:XK),dw k A->zB P w K mg base A outer s H->BindsTo s fd args (ps.zip us)->Vals vs us->sp vs H Q E ->
  codeAny (model P w) A (.call (.ref f) args) (CR CX outer P w H s Q E) s
theorem fW.mono{P:Program}{w:World}{K:Frag}{mg:Str->Option Value}{base:Heap}{CX:Cp}{j k:Nat}{f:Addr}{fd:FuncData}{ps:List Str}{sp:Sp}(F:fW P w K mg base CX j f fd ps sp)(h:j<=k) :
  fW P w K mg base CX k f fd ps sp:=⟨F.len,λA outer s H args us vs Q E hr=>F.run A outer s H args us vs Q E (hr.mono h)⟩
theorem fW.imp{P:Program}{w:World}{K:Frag}{mg:Str->Option Value}{base:Heap}{CX:Cp}{k:Nat}{f:Addr}{fd:FuncData}{ps:List Str}{sp Xq:Sp}(F:fW P w K mg base CX k f fd ps sp)
  (h:∀vs H Q E,Xq vs H Q E->sp vs H Q E):fW P w K mg base CX k f fd ps Xq :=
 ⟨λvs H Q E q=>F.len vs H Q E (h _ _ _ _ q),λA outer s H args us vs Q E hr he hb hv hs=>F.run A outer s H args us vs Q E hr he hb hv (h _ _ _ _ hs)⟩
theorem zB.make{P:Program}{w:World}{K:Frag}{mg:Str->Option Value}{base:Heap}{A:Around}{outer:List Env}{s:Shared}{H:Hp}(e:zB P w K mg base A outer s H)(C:Addr)(us:List Value)(kw:List (Str×Value)) :
  zB P w K mg base (A.under (.builtin "type.__call__" ⟨.ref C::us,kw⟩)) outer s H:=⟨by first|exact e.frames|(simpa [Around.under,Code.envs,Code.isFrame,pushEnvs] using e.frames),e.mod,e.bs,e.Ly,e.pS,e.Mv,e.hok,e.bare⟩
section
variable {X:Cx} {pins:List (Addr×Obj)} {σ:St} {H:Hp} {s s':Shared}
theorem Inv.mJ(I:Inv X pins σ H s):zB X.prog X.w X.K X.mg X.base X.A X.stack s H :=
 ⟨I.ok.frames,I.ok.mod,I.bs,aaM I.ok.Ly I.sz,I.stack,I.AA,I.hok,I.bare⟩
theorem Inv.after(I:Inv X pins σ H s)(h:CE X.stack X.prog X.w H s Q u s'):EP X pins σ Q u s':=by
 obtain⟨v,H',os,bare,un,hok,r,q⟩:=h;obtain⟨hh,g,d,t,os'⟩:=s';obtain rfl:os'=s.os:=os;exact⟨v,H',I.call (h':=hh) (g':=g) (d':=d) (t':=t) (ch:=[]) un hok bare (λb z=>absurd z (by simp)),r,q⟩
end
def LA(sp:Sp)(tw:List V)(E:XK)(t:TA):TE:=λσ H Q=>t σ H λvs H1=>sp (vs++tw) H1 Q E
def LB(C:Addr)(sp:Sp)(tw:List V)(E:XK)(t:TA):TE:=λσ H Q=>t σ H λvs H1=>∀x dx,H1 x=none->H1 dx=none->dx≠x ->
 sp (.ref x::(vs++tw)) (upd (upd H1 dx (.own x)) x (.ins C dx [])) (λv H2=>v=.non/\Q (.ref x) H2) E
def Binds(K:Frag)(fd:FuncData)(ps:List Str)(ds:List Value):Prop :=
 ∀(s:Shared) (us:List Value),K.In s.heap->(us++ds).length=ps.length->BindsTo s fd ⟨us,[]⟩ (ps.zip (us++ds))
theorem Binds.all{K:Frag}{fd:FuncData}{ps:List Str}(h:∀us:List Value,us.length=ps.length->bindArgs fd ⟨us,[]⟩=pure (ps.zip us)):Binds K fd ps []:=λs us _ hl=>by
 rw[append_nil]at hl |-;exact .of_eq (h us hl)
def Passes(CX:Cp)(X:Cx)(E:XK):Prop:=∀(pins:List (Addr×Obj)) (σ:St) (H:Hp) (s:Shared) (e:Value) (s':Shared),Inv X pins σ H s->CX X.stack H s E e s'->X.xe e s'
section
variable {X:Cx} {CX:Cp} {k:Nat} {f C:Addr} {fd:FuncData} {ps:List Str} {sp:Sp} {tw:List V} {ds:List Value} {E:XK} {x m:Str} {p pos apos:Pos} {e o:Expr} {es:List Expr} {ta:TE} {t:TA}
theorem qD(F:fW X.prog X.w X.K X.mg X.base CX k f fd ps sp)(hr:dw k X.A)(hb:Binds X.K fd ps ds)(hd:Vals tw ds)(hx:Passes CX X E)
  (I:Inv X pins σ H s) (r:Vals vs us) (h:sp (vs++tw) H Q E):wpAny (model X.prog X.w) X.A (call (.ref f) us) (EP X pins σ Q) X.xe s:=by
 have r2:Vals (vs++tw) (us++ds):=r.append hd;have hl:(us++ds).length=ps.length:=by rw[<-r2.length];exact F.len _ _ _ _ h
 refine wpAny_call (codeAny_mono (F.run X.A X.stack s H ⟨us,[]⟩ (us++ds) (vs++tw) Q E hr I.mJ (hb s us I.n8 hl) r2 h) λr s' hq=>?_);cases r with
 |error e=>exact hx pins σ H s e s' I hq
 |ok fl=>
  cases fl with
  |ret u=>exact I.after hq
  |next=>exact False.elim hq
  |brk=>exact False.elim hq
  |cont=>exact False.elim hq
theorem Jj(F:fW X.prog X.w X.K X.mg X.base CX k f fd ps sp)(hr:dw k X.A)(hg:Gl X x)(hm:X.mg x=some (.ref f))(hk:keepIn X.K (.ref f)=true)(hb:Binds X.K fd ps ds)(hd:Vals tw ds)(hx:Passes CX X E)
  (ha:PA X (e::es) t) (hdb:(x==("__debug__":Str))=false) (he:starEach (e::es) X.env=(false,eval e X.env)::starEach es X.env) (hpl:(backTo pos (starEach es X.env)).any (·.1)=false) :
  PE X (.Call (.Name x p) (e::es) [] pos) (LA sp tw E t):=by
 intro pins s σ H Q I h;refine wpAny_Call_Name_kw (lM I hg hm ?_ hdb);refine callWith_K (h₀:=X.base) I.ok.mod.QH hk (cj (ha pos pins s σ H _ I h) λus s1 ⟨vs,H1,I1,r,q⟩=>⟨I1.n8,?_⟩) he hpl;exact qD F hr hb hd hx I1 r q
theorem DW(F:fW X.prog X.w X.K X.mg X.base CX k f fd ps sp)(hr:dw k X.A)(hg:Gl X x)(hm:X.mg x=some (.ref f))(hk:keepIn X.K (.ref f)=true)(hb:Binds X.K fd ps ds)(hd:Vals tw ds)(hx:Passes CX X E)
  (hdb:(x==("__debug__":Str))=false):PE X (.Call (.Name x p) [] [] pos) (LA sp tw E M0):=by
 intro pins s σ H Q I h;refine wpAny_Call_Name_kw (lM I hg hm ?_ hdb);exact callWith_K0 I.n8 hk (qD (us:=[]) F hr hb hd hx I .nil h)
structure Mk (K:Frag) (C f:Addr):Prop where
 makes:makesIn K C=true
 init:findIn K (.ref C) "__init__" = some (some (.ref f))
 fn:isFn K (.ref f)=true
 kp:keepIn K (.ref C)=true
theorem wR(M:Mk X.K C f)(F:fW X.prog X.w X.K X.mg X.base CX k f fd ps sp)(hr:dw (k+1) X.A)(hb:Binds X.K fd ps ds)(hd:Vals tw ds)
  (hx:Passes CX X E) (I:Inv X pins σ H s) (r:Vals vs us)
  (h:∀x dx,H x=none->H dx=none->dx≠x->sp (.ref x::(vs++tw)) (upd (upd H dx (.own x)) x (.ins C dx [])) (λv H2=>v=.non/\Q (.ref x) H2) E) :
  wpAny (model X.prog X.w) X.A (call (.ref C) us) (EP X pins σ Q) X.xe s:=by
 have hq:=h (s.heap.objs.size+1) s.heap.objs.size (I.hok.fresh (le_succ _)) (I.hok.fresh (aao _)) (aaA (lt_succ_self _));have I2:=Inv.made (C:=C) I;have r2:Vals (V.ref (s.heap.objs.size+1)::(vs++tw)) (Value.ref (s.heap.objs.size+1)::(us++ds)):=.cons rfl (r.append hd);have hl:(Value.ref (s.heap.objs.size+1)::us++ds).length=ps.length:=by have e:=r2.length;rw[F.len _ _ _ _ hq]at e;exact e.symm
 refine wpAny_call (DU (f:=f) I.n8 M.makes M.init (beq_iff_eq.mp M.fn) (codeAny_mono (F.run _ X.stack _ _ ⟨Value.ref (s.heap.objs.size+1)::us,[]⟩ (Value.ref (s.heap.objs.size+1)::(us++ds)) _ _ E (hr.make C us [])
  (I2.mJ.make C us []) (hb _ (Value.ref (s.heap.objs.size+1)::us) I2.n8 hl) r2 hq) λr s' hq'=>?_))
 cases r with
 |error e=>exact hx pins σ _ _ e s' I2 hq'
 |ok fl=>
  cases fl with
  |ret u=>obtain⟨v,H',I3,rv,ev,q3⟩:=I2.after hq';subst ev;exact⟨rv,⟨V.ref (s.heap.objs.size+1),H',I3,rfl,q3⟩⟩
  |next=>exact False.elim hq'
  |brk=>exact False.elim hq'
  |cont=>exact False.elim hq'
theorem Jk(M:Mk X.K C f)(F:fW X.prog X.w X.K X.mg X.base CX k f fd ps sp)(hr:dw (k+1) X.A)(hg:Gl X x)(hm:X.mg x=some (.ref C))(hb:Binds X.K fd ps ds)(hd:Vals tw ds)(hx:Passes CX X E)
  (ha:PA X (e::es) t) (hdb:(x==("__debug__":Str))=false) (he:starEach (e::es) X.env=(false,eval e X.env)::starEach es X.env) (hpl:(backTo pos (starEach es X.env)).any (·.1)=false) :
  PE X (.Call (.Name x p) (e::es) [] pos) (LB C sp tw E t):=by
 intro pins s σ H Q I h;refine wpAny_Call_Name_kw (lM I hg hm ?_ hdb);refine callWith_K (h₀:=X.base) I.ok.mod.QH M.kp (cj (ha pos pins s σ H _ I h) λus s1 ⟨vs,H1,I1,r,q⟩=>⟨I1.n8,?_⟩) he hpl;exact wR M F hr hb hd hx I1 r q
theorem DX(M:Mk X.K C f)(F:fW X.prog X.w X.K X.mg X.base CX k f fd ps sp)(hr:dw (k+1) X.A)(hg:Gl X x)(hm:X.mg x=some (.ref C))(hb:Binds X.K fd ps ds)(hd:Vals tw ds)(hx:Passes CX X E)
  (hdb:(x==("__debug__":Str))=false):PE X (.Call (.Name x p) [] [] pos) (LB C sp tw E M0):=by
 intro pins s σ H Q I h;refine wpAny_Call_Name_kw (lM I hg hm ?_ hdb);exact callWith_K0 I.n8 M.kp (wR (us:=[]) M F hr hb hd hx I .nil h)
end
structure qd (N P:List Str) (sc:Scope):Prop where
 kind:sc.kind=.function
 co:sc.isCoroutine=false
 gen:sc.isGenerator=false
 nd:N.Nodup
 pre:N.take P.length=P
 par:∀x∈P,sc.names.lookup x=some .local\/sc.names.lookup x=some .cell
 M4:∀y∈sc.names,y.2≠.free
theorem ud{kindOf:Str->Option NameKind}{x:Str}:∀{binds:List (Str×Value)} {m:Str->Option Value},(∀v,(x,v)∉binds)->bindL kindOf binds m x=m x
 |[],_,_=>rfl
 | (n,v)::r,m,h=>by
  unfold bindL;rw[ud λw hw=>h w (aam _ hw)]
  split
  ·have:x≠n:=by rintro rfl;exact h v aan
   simp[this]
  ·rfl
theorem ue{kindOf:Str->Option NameKind}{x:Str}:∀{binds:List (Str×Value)} {m:Str->Option Value},(∀v,(x,v)∉binds)->bindC kindOf binds m x=m x
 |[],_,_=>rfl
 | (n,v)::r,m,h=>by
  unfold bindC;rw[ue λw hw=>h w (aam _ hw)]
  split
  ·rfl
  ·have:x≠n:=by rintro rfl;exact h v aan
   simp[this]
theorem uf{kindOf:Str->Option NameKind}{x:Str}{v:Value}:∀{P:List Str} {vs:List Value} {i:Nat} {m:Str->Option Value},P.Nodup->P[i]?=some x->vs[i]?=some v->kindOf x=some .local ->
  bindL kindOf (P.zip vs) m x=some v
 |[],_,_,_,_,h,_,_=>by simp at h
 |_::_,[],_,_,_,_,h,_=>by simp at h
 | p::P,w::vs,0,m,nd,h1,h2,hk=>by
  simp at h1 h2;subst h1;subst h2;show bindL kindOf ((p,w)::P.zip vs) m p=_;unfold bindL;rw[ud λv hv=>(aaP.mp nd).1 (of_mem_zip hv).1,aai hk];simp
 | p::P,w::vs,i+1,m,nd,h1,h2,hk=>by
  show bindL kindOf ((p,w)::P.zip vs) m x=_;unfold bindL;exact uf (i:=i) (aaP.mp nd).2 (by simpa using h1) (by simpa using h2) hk
theorem ug{kindOf:Str->Option NameKind}{x:Str}{v:Value}:∀{P:List Str} {vs:List Value} {i:Nat} {m:Str->Option Value},P.Nodup->P[i]?=some x->vs[i]?=some v->kindOf x≠some .local ->
  bindC kindOf (P.zip vs) m x=some v
 |[],_,_,_,_,h,_,_=>by simp at h
 |_::_,[],_,_,_,_,h,_=>by simp at h
 | p::P,w::vs,0,m,nd,h1,h2,hk=>by
  simp at h1 h2;subst h1;subst h2;show bindC kindOf ((p,w)::P.zip vs) m p=_;unfold bindC;rw[ue λv hv=>(aaP.mp nd).1 (of_mem_zip hv).1,aal hk];simp
 | p::P,w::vs,i+1,m,nd,h1,h2,hk=>by
  show bindC kindOf ((p,w)::P.zip vs) m x=_;unfold bindC;exact ug (i:=i) (aaP.mp nd).2 (by simpa using h1) (by simpa using h2) hk
def start(N:List Str)(vs:List V):St:=vs.map some++replicate (N.length-vs.length) none
def zC(CX:Cp)(P:Program)(w:World)(K:Frag)(mg:Str->Option Value)(base:Heap)(N:List Str)(qual:Str)(scope:Scope)(f:Addr)(cd:Value)(A:Around)(outer:List Env)(s:Shared)(H:Hp)(E:XK):Cx where
 prog:=P
 w:=w
 K:=K
 mg:=mg
 base:=base
 A:=A.deeper (envOfC qual scope s.heap.objs.size f cd)
 N:=N
 s₀:=s
 H₀:=H
 env:=envOfC qual scope s.heap.objs.size f cd
 outer:=outer
 stack:=envOfC qual scope s.heap.objs.size f cd::outer
 ex:=[]
 calm:=true
 fn:=λ_=>true
 pn:=[]
 xe:=λe s'=>wpAny (model P w) (A.deeper (envOfC qual scope s.heap.objs.size f cd)) (leaving (envOfC qual scope s.heap.objs.size f cd) e) (λ_ s''=>CX outer H s E e s'') (λe' s''=>CX outer H s E e' s'') s'
theorem wU{sc:Scope}{n:Nat}{x:Str}(h:sc.names.lookup x=some .cell):∃c,(cellsFrom n sc.names []).lookup x=some c:=by
 have q:=cellsFrom_some sc.names n [] (.inl h);exact Option.isSome_iff_exists.mp q
theorem Cq{CX:Cp}{P:Program}{w:World}{K:Frag}{mg:Str->Option Value}{base:Heap}{N ps:List Str}{qual:Str}{scope:Scope}{f:Addr}{cd:Value}{A:Around}{outer:List Env}{s s1:Shared}{H:Hp}{E:XK}{us:List Value}{vs:List V}
  (S:qd N ps scope) (hd:A.handled=none) (e0:zB P w K mg base A outer s H) (hl:vs.length=ps.length) (r:Vals vs us)
  (x:InCallC s s.heap.objs.size (bindL (envOfC qual scope s.heap.objs.size f cd).kindOf (ps.zip us) λ_=>none) (cellsFrom (s.heap.objs.size+1) scope.names []) (bindC (envOfC qual scope s.heap.objs.size f cd).kindOf (ps.zip us) λ_=>none) s1) :
  Inv (zC CX P w K mg base N qual scope f cd A outer s H E) [] (start N vs) H s1:=by
 have hpl:ps.length<=N.length:=by have:=congrArg length S.pre;rw[length_take]at this;omega
 obtain⟨h1,tk,rfl,hk⟩:=x.done;have noA:∀b:Addr,b∉(zC CX P w K mg base N qual scope f cd A outer s H E).ex:=λb z=>absurd (show b∈([]:List Addr) from z) (by simp);refine⟨⟨e0.mod,S.kind,rfl,rfl,aao _,λy z c h1 h2=>?_,λy hy=>?_,λy c _ h=>?_,λ_=>hd,Around.frames_deeper e0.frames,.inr ⟨rfl,rfl⟩,λb z=>absurd z (noA b),e0.bs,e0.Ly,λb _ _=>noA b,λb z=>absurd z (noA b),e0.pS,e0.Mv⟩,
  rfl,e0.bare,Un.kept hk,⟨_,x.toInCall.ns,λi y v h1 h2 h3=>?_⟩,λy c h=>⟨_,x.cell y c h⟩,e0.hok.fresh (aao _),λy c h=>?_,λp hp=>absurd (show p∈([]:List (Addr×Obj)) from hp) (by simp),e0.hok.kept hk,?_⟩
 ·exact name_of_addr x.apart (PySem.mem_of_lookup h1) (PySem.mem_of_lookup h2)
 ·have hy:scope.names.lookup y=some .cell\/scope.names.lookup y=some .free:=hy
  rcases hy with hy|hy
  ·exact wU hy
  ·exact absurd rfl (S.M4 _ (PySem.mem_of_lookup hy))
 ·exact le_of_lt (x.above y c (PySem.mem_of_lookup h))
 ·have hi:i<vs.length:=by
   unfold start at h2
   by_cases hi:i<vs.length
   ·exact hi
   ·rw[aaO (by simpa using hi)]at h2;rw[List.getElem?_replicate]at h2;split at h2<;>cases h2
  have ha:vs[i]?=some v:=by
   unfold start at h2;rw[aat (by simpa using hi),aaD]at h2;cases e:vs[i]? with
   |none=>rw[e]at h2;cases h2
   |some a=>rw[e]at h2;cases h2;rfl
  obtain⟨u,hu,rv⟩:=r.get ha;have hp:ps[i]?=some y:=by rw[<-S.pre,List.getElem?_take_of_lt (by omega)];exact h1
  have Xr:ps.Nodup:=by rw[<-S.pre];exact S.nd.sublist (List.take_sublist _ _)
  refine⟨u,rv,?_⟩
  rcases S.par y (aaE hp) with k|k
  ·exact .inl ⟨k,uf Xr hp hu k⟩
  ·obtain⟨c,e⟩:=wU (n:=s.heap.objs.size+1) k;refine .inr ⟨.inl k,c,e,?_⟩;have q:=x.cell y c e;rw[ug Xr hp hu (by show scope.names.lookup y≠_;rw[k];decide)]at q;exact q
 ·exact e0.hok.fresh (le_of_lt (x.above y c (PySem.mem_of_lookup h)))
 ·unfold start;show _=N.length;rw[aaB,aah,List.length_replicate];omega
theorem RI{CX:Cp}{P:Program}{w:World}{K:Frag}{mg:Str->Option Value}{base:Heap}{k:Nat}{f:Addr}{name qual:Str}{params:Arguments}{body:List Stmt}{scope:Scope}{dV kV doc pm cdv ct oc:Value}{an od:Option Addr}
  {osl:Array (Option Value)} {N ps:List Str} {sp:Sp} (lk:K.lookup f=some ⟨oc,od,.func (fnOf name qual params body scope dV kV doc pm an cdv ct),osl⟩) (hcd:codeIn K cdv qual=true) (S:qd N ps scope)
  (len:∀vs H Q E,sp vs H Q E->vs.length=ps.length)
  (hbody:∀(A:Around) (outer:List Env) (s:Shared) (H:Hp) (vs:List V) (Q:VK) (E:XK),dw k (A.deeper (envOfC qual scope s.heap.objs.size f cdv))->sp vs H Q E ->
   ∃t,zc (zC CX P w K mg base N qual scope f cdv A outer s H E) body t/\t { nx:=λ_ H'=>Q .non H',rt:=Q } (start N vs) H) :
  fW P w K mg base CX (k+1) f (fnOf name qual params body scope dV kV doc pm an cdv ct) ps sp:=by
 refine⟨len,λA outer s H args us vs Q E hr e0 hb r hsp=>?_⟩;have hl:=len _ _ _ _ hsp;have KX:K.In s.heap:=e0.mod.QH.keeps λb o e=>(e0.bs b o e).1;have lim:s.heap.NoLimit:=e0.mod.nolimit.keeps λb o e=>(e0.bs b o e).1;have hkind:∀y∈ps.zip us,scope.names.lookup y.1=some .local\/(scope.names.lookup y.1=some .cell/\((cellsFrom (s.heap.objs.size+1) scope.names []).lookup y.1).isSome=true):=λ⟨n,v⟩ hy=>by
  rcases S.par n (of_mem_zip hy).1 with q|q
  ·exact .inl q
  ·exact .inr ⟨q,cellsFrom_some _ _ _ (.inl q)⟩
 refine codeAny_call_function hr.depth (KX _ _ lk) rfl S.co S.gen rfl (PySem.W.codeRec_of KX hcd) (hb _ _ _ _ ?_);refine wpAny_newFunctionEnv_cells S.kind hkind λenv he s1 x=>?_;subst he;refine⟨lim.keeps x.toInCall.keep,codeAny_func ?_⟩;obtain⟨t,ht,hq⟩:=hbody A outer s H vs Q E (hr.deeper _) hsp;have I:Inv (zC CX P w K mg base N qual scope f cdv A outer s H E) [] (start N vs) H s1:=Cq S hr.hd e0 hl r x;refine wpAny_mono (ht [] s1 (start N vs) H _ I hq) (λfl s' hs=>?_) λe s' hs=>hs;have fin:∀{σ':St} {H':Hp} {v:V} {u:Value},Inv (zC CX P w K mg base N qual scope f cdv A outer s H E) [] σ' H' s'->RelV v u->Q v H'->CE outer P w H s Q u s' :=
  λ{σ' H' v u} J rv q=>⟨v,H',J.os,J.bare,J.base,J.hok,rv,q⟩
 cases fl with
 |ret u=>obtain⟨v,σ',H',J,rv,q⟩:=hs;exact fin J rv q
 |next=>obtain⟨σ',H',J,q⟩:=hs;exact fin (v:=V.non) (u:=Value.none) J rfl q
 |brk=>obtain⟨_,_,_,q⟩:=hs;exact False.elim q
 |cont=>obtain⟨_,_,_,q⟩:=hs;exact False.elim q
section
variable {X:Cx} {x:Str} {p pos:Pos} {e:Expr} {es:List Expr} {t:TA} {id T:String} {r:List V->Hp->VK->Prop}
def Xs(r:List V->Hp->VK->Prop)(t:TA):TE:=λσ H Q=>t σ H λvs H1=>r vs H1 Q
theorem iz(hc:cZ X (.builtin id) r)(hg:Gl X x)(hm:X.mg x=none)(hv:bootBuiltins x=some (.builtin id))(ha:PA X (e::es) t)(hn:x ≠ "__name__":=by decide)(hdb:(x==("__debug__":Str))=false:=by decide)
  (he:starEach (e::es) X.env=(false,eval e X.env)::starEach es X.env:=by rfl) (hpl:(backTo pos (starEach es X.env)).any (·.1)=false:=by rfl):PE X (.Call (.Name x p) (e::es) [] pos) (Xs r t):=by
 intro pins s σ H Q I h;refine wpAny_Call_Name_kw (jm I hg hm hv ?_ hn hdb);exact PyProof.Rows.callWith_builtin1 (cj (ha pos pins s σ H _ I h) λus s1 ⟨vs,H1,I1,r1,q1⟩=>hc pins s1 σ H1 vs us Q I1 r1 q1) he hpl
theorem lN(hc:cZ X (.type T) r)(hg:Gl X x)(hm:X.mg x=none)(hv:bootBuiltins x=some (.type T))(ha:PA X (e::es) t)(hn:x ≠ "__name__")(hdb:(x==("__debug__":Str))=false)
  (he:starEach (e::es) X.env=(false,eval e X.env)::starEach es X.env) (hpl:(backTo pos (starEach es X.env)).any (·.1)=false):PE X (.Call (.Name x p) (e::es) [] pos) (Xs r t):=by
 intro pins s σ H Q I h;refine wpAny_Call_Name_kw (jm I hg hm hv ?_ hn hdb);exact PyProof.Rows.callWith_type1 (cj (ha pos pins s σ H _ I h) λus s1 ⟨vs,H1,I1,r1,q1⟩=>hc pins s1 σ H1 vs us Q I1 r1 q1) he hpl
end
end L2
namespace HT
open PySem PyProof.Rows
def lexLt:List Int->List Int->Bool
 |[],[]=>false
 |[],_::_=>true
 |_::_,[]=>false
 |x::xs,y::ys=>if x=y then lexLt xs ys else decide (x<y)
theorem fX(x y:Int)(xs ys:List Int):lexLt (x::xs) (y::ys)=if x=y then lexLt xs ys else decide (x<y):=rfl
theorem tF:lexLt [] []=false:=rfl
theorem iA(y:Int)(ys:List Int):lexLt [] (y::ys)=true:=rfl
theorem ff(x:Int)(xs:List Int):lexLt (x::xs) []=false:=rfl
section
variable {prog:Program} {w:World} {A:Around} {E:Value->Shared->Prop} {s:Shared}
theorem Jl(ht:IsTup s.heap t vs.toArray)(hb:IsTup s.heap b ws.toArray)(hv:vs≠[])
  (h1:ws=[]->Q (.ref t) s) (h2:ws≠[]->Q (.ref s.heap.objs.size) { s with heap:=s.heap.push { cls:=.type "tuple",data:=.seq (vs++ws).toArray } })
  (hsz:vs.length+ws.length<=sizeLine):wpAny (model prog w) A (binaryOp .Add (.ref t) (.ref b)) Q E s:=by
 obtain⟨⟨cls,dd,data,sl⟩,ho,hc,n,hd⟩:=id ht;obtain⟨⟨Zb,dd2,data2,sl2⟩,ho2,hc2,n2,hd2⟩:=id hb;simp only at hc hd hc2 hd2;subst hc hd hc2 hd2;have e:vs.toArray++ws.toArray=(vs++ws).toArray:=by simp
 by_cases hw:ws=[]
 ·exact concat_meets ⟨_,ho,rfl⟩ ⟨_,ho2,rfl⟩ noFill_tuple_add seq_tuple_add PySem.F.slot_tuple_add PySem.F.entry_tuple_add (PySem.F.args_tuple_add_2 _ _)
   (tuple_addW1 t b vs.toArray ws.toArray n n2 dd dd2 sl sl2 (by simpa using hv) (by simp[hw])) ⟨ho,ho2,h1 hw⟩
 ·refine concat_meets ⟨_,ho,rfl⟩ ⟨_,ho2,rfl⟩ noFill_tuple_add seq_tuple_add PySem.F.slot_tuple_add PySem.F.entry_tuple_add (PySem.F.args_tuple_add_2 _ _)
   (tuple_addW2 t b vs.toArray ws.toArray n n2 dd dd2 sl sl2 (by simpa using hv) (by simpa using hw) (by rw[aaq,aaq];exact hsz)) ⟨ho,ho2,?_⟩
  rw[e];exact h2 hw
def eN(n d:Nat):Option Int->Nat
 |none=>d
 |some v=>if v<0 then (v+(n:Int)).toNat else min v.toNat n
theorem wV(n d:Nat):eN n d none=d:=rfl
theorem AG(n d k:Nat):eN n d (some (k:Int))=min k n:=by
 show (if (k:Int)<0 then ((k:Int)+(n:Int)).toNat else min (k:Int).toNat n)=min k n;rw[aal (by omega),Int.toNat_natCast]
theorem M5(n d:Nat)(hd:d<=n)(o:Option Int):eN n d o<=n:=by
 cases o with
 |none=>exact hd
 |some v=>
  show (if v<0 then (v+(n:Int)).toNat else min v.toNat n)<=n
  by_cases hv:v<0
  ·rw[aai hv];omega
  ·rw[aal hv];exact Nat.min_le_right _ _
theorem AH(v:Int)(n d:Nat):(if v<0 then max (v+(n:Int)) 0 else min v (n:Int))=((eN n d (some v):Nat):Int):=by
 show (if v<0 then max (v+(n:Int)) 0 else min v (n:Int))=(((if v<0 then (v+(n:Int)).toNat else min v.toNat n):Nat):Int)
 by_cases hv:v<0
 ·simp only[if_pos hv];omega
 ·simp only[if_neg hv];omega
theorem zF(lo hi:Option Int)(n:Nat):Builtin.Slice.sliceAdjust lo hi 1 (n:Int)=(((eN n 0 lo:Nat):Int),((eN n n hi:Nat):Int)):=by
 have h1:¬ ((1:Int)<0):=by omega
 unfold Builtin.Slice.sliceAdjust;simp only[h1,if_false];refine Prod.ext ?_ ?_
 ·cases lo with
  |none=>rfl
  |some v=>exact AH v n 0
 ·cases hi with
  |none=>rfl
  |some v=>exact AH v n n
theorem zG(i j:Nat):Builtin.Slice.slicePlaces (i:Int) (j:Int) 1=j-i:=by
 unfold Builtin.Slice.slicePlaces;have h1:(1:Int)>0:=by omega
 simp only[h1,if_true,Int.ediv_one]
 split<;>omega
theorem qE{o:Option Int}(p:IsPart v o)(h:Q o s):wpAny (model prog w) A (Builtin.Slice.slicePartIndex v) Q E s:=by
 cases p with
 |none=>exact slicePart_none h
 |int i t=>exact slicePart_int h
theorem oj{lo hi:Option Int}{n:Nat}(hs:s.heap.IsSliceOf sl vl vu .none)(pl:IsPart vl lo)(pu:IsPart vu hi)
  (h:Q (((eN n 0 lo:Nat):Int),1,eN n n hi-eN n 0 lo) s):wpAny (model prog w) A (Builtin.Slice.sliceApplied (.ref sl) (pure (n:Int))) Q E s:=by
 obtain⟨os,hos,hcs,hds⟩:=id hs;unfold Builtin.Slice.sliceApplied Builtin.Slice.sliceFields;refine aad (aad (wpAny_field hos hds (x:=vl) rfl (aad (wpAny_field hos hds (x:=vu) rfl (aad (wpAny_field hos hds (x:=.none) rfl (aaj ?_)))))));refine aad (slicePart_none ?_);show wpAny _ _ (if ((1:Int)==0)=true then _ else _) _ _ s;rw[aal (by decide)];refine aad (qE pl (aad (qE pu (aad (aaj ?_)))));show wpAny _ _ (match Builtin.Slice.sliceAdjust lo hi 1 (n:Int) with|(lo,hi)=>pure (lo,(1:Int),Builtin.Slice.slicePlaces lo hi 1)) _ _ s;rw[zF lo hi n];show wpAny _ _ (pure (((eN n 0 lo:Nat):Int),(1:Int),Builtin.Slice.slicePlaces ((eN n 0 lo:Nat):Int) ((eN n n hi:Nat):Int) 1)) _ _ s;rw[zG];exact aaj h
theorem DY(xs:Array Value)(i k:Nat):((List.range k).filterMap λ(m:Nat)=>xs[((i:Int)+(m:Int)*1).toNat]?).toArray=((xs.toList.drop i).take k).toArray:=by
 have e:(λ(m:Nat)=>xs[((i:Int)+(m:Int)*1).toNat]?)=λm=>xs[i+m]?:=by
  funext m;have:((i:Int)+(m:Int)*1).toNat=i+m:=by omega
  rw[this]
 rw[e];have:=pick_run xs i k;rw[List.filterMap_map]at this;have e2:((λx=>xs[x]?)∘λx=>i+x)=λm=>xs[i+m]?:=rfl;rw[e2]at this;rw[this]
theorem m8{lo hi:Option Int}(ht:IsTup s.heap t items)(hs:s.heap.IsSliceOf sl vl vu .none)(pl:IsPart vl lo)(pu:IsPart vu hi)
  (hw:¬ (eN items.size 0 lo=0/\eN items.size items.size hi=items.size))
  (h:Q (.ref s.heap.objs.size) { s with heap:=s.heap.push { cls:=.type "tuple",data:=.seq ((items.toList.drop (eN items.size 0 lo)).take (eN items.size items.size hi-eN items.size 0 lo)).toArray } })
  (hsz:items.size<=sizeLine):wpAny (model prog w) A (getItem (.ref t) (.ref sl)) Q E s:=by
 have AI:sizeOk (.seq ((items.toList.drop (eN items.size 0 lo)).take (eN items.size items.size hi-eN items.size 0 lo)).toArray):=by show ((items.toList.drop (eN items.size 0 lo)).take (eN items.size items.size hi-eN items.size 0 lo)).toArray.size<=sizeLine;rw[aaq,length_take,length_drop,aaQ];omega
 have hj:eN items.size items.size hi<=items.size:=M5 _ _ (aao _) hi;obtain⟨os,hos,hcs,hds⟩:=id hs;have VX:s.TypeIs (.ref sl) "slice":=⟨os,hos,hcs⟩;unfold getItem
 try with_reducible refine wpAny_holding ?_
 first|refine aad (aaj ?_)|skip
 refine aad (wpAny_sequenceKey ht.typeIs (by decide) ?_);refine aad (wpAny_callSpecial?_slot (name:=Str.ofString "__getitem__") ht.typeIs PyProof.Rows.slot_tuple_getitem
  (wpAny_call_entry PyProof.Rows.slot_tuple_getitem ht.typeIs entry_tuple_getitem ?_ (args_tuple_getitem _ _)))
 show wpAny _ _ (Builtin.Tuple.tupleItemsOf (.ref t) >>= _) _ _ s;refine aad (tupleItemsOf_ ht ?_);refine aad (wpAny_typeOf VX ?_);rw[aai (by decide)];refine aad (oj hs pl pu ?_);have hno:¬ ((((eN items.size 0 lo:Nat):Int)==0&&(1:Int)==1&&(eN items.size items.size hi-eN items.size 0 lo)==items.size)=true):=by intro q;rw[and_eq_true,and_eq_true]at q;have q1:((eN items.size 0 lo:Nat):Int)=0:=eq_of_beq q.1.1;have q2:eN items.size items.size hi-eN items.size 0 lo=items.size:=eq_of_beq q.2;exact hw ⟨by omega,by omega⟩
 show wpAny _ _ (if (((eN items.size 0 lo:Nat):Int)==0&&(1:Int)==1&&(eN items.size items.size hi-eN items.size 0 lo)==items.size)=true then _ else _) _ _ s;rw[aal hno,DY]
 first
  |exact aad (m:=Builtin.Tuple.tupleExact _) (aaV (aaj ⟨_,rfl,aaj h⟩) AI)
  |exact aad (m:=Builtin.Tuple.tupleExact _) (aaV (aad (aaj (aaj ⟨_,rfl,aaj h⟩))) AI)
  |exact aad (aad (m:=Builtin.Tuple.tupleExact _) (aaV (aaj (aaj ⟨_,rfl,aaj h⟩)) AI))
  |exact aad (aad (m:=Builtin.Tuple.tupleExact _) (aaV (aaj ⟨_,rfl,aaj h⟩) AI))
end
end HT
namespace L2
open PySem PySem.Spec PyProof.Rows
abbrev TO:=St->Hp->(Option Int->Hp->Prop)->Prop
def PO(X:Cx)(e:Option Expr)(t:TO):Prop :=
 ∀(pins:List (Addr×Obj)) (s:Shared) (σ:St) (H:Hp) (Q:Option Int->Hp->Prop),Inv X pins σ H s->t σ H Q ->
  wpAny (model X.prog X.w) X.A (evalPart e X.env) (λu s'=>∃o H',Inv X pins σ H' s'/\IsPart u o/\Q o H') X.xe s
def Jm:TO:=λ_ H Q=>Q none H
def RJ(t:TE):TO:=λσ H Q=>t σ H λx H1=>∃i,x=.int i/\Q (some i) H1
theorem intsAre_of{ns:List Int}:∀{us:List Value},Vals (ns.map V.int) us->IntsAre us ns:=by
 induction ns with
 |nil=>intro us r;rw[map_nil]at r;cases r;exact .nil
 |cons n ns ih=>
  intro us r;rw[aap]at r;cases r with
  |cons r1 r2=>obtain⟨t,e⟩:=r1;subst e;exact .cons n t (ih r2)
section
variable {X:Cx} {e:Expr} {te:TE} {lo hi:Option Expr} {tl th:TO} {pos p2:Pos}
theorem Jo:PO X none Jm:=by
 intro pins s σ H Q I h;rw[evalPart_none];exact aaj ⟨none,H,I,.none,h⟩
theorem Jp(h:PE X e te):PO X (some e) (RJ te):=by
 intro pins s σ H Q I hw;rw[evalPart_some];refine cj (h pins s σ H _ I hw) λu s1 aI=>?_;obtain⟨x,H1,I1,r1,q1⟩:=aI;obtain⟨i,rfl,q⟩:=q1;obtain⟨t,rfl⟩:=r1;exact⟨some i,H1,I1,.int i t,q⟩
def U6(X:Cx)(r:V->Option Int->Option Int->Hp->VK->Prop):Prop :=
 ∀(pins:List (Addr×Obj)) (s:Shared) (σ:St) (H:Hp) (x:V) (v vl vu:Value) (lo hi:Option Int) (sl:Addr) (Q:VK),Inv X pins σ H s->RelV x v->s.heap.IsSliceOf sl vl vu .none->IsPart vl lo->IsPart vu hi->r x lo hi H Q ->
  ∃T id,typeLookup (.type T) "__getitem__" = pure (some (.builtin id))/\s.TypeIs v T/\wpAny (model X.prog X.w) X.A (getItem v (.ref sl)) (EP X pins σ Q) X.xe s
def Zc(r:V->Option Int->Option Int->Hp->VK->Prop)(te:TE)(tl th:TO):TE:=λσ H Q=>te σ H λx H1=>tl σ H1 λl H2=>th σ H2 λu H3=>r x l u H3 Q
theorem DZ(hr:U6 X r)(he:PE X e te)(hl:PO X lo tl)(hu:PO X hi th):PE X (.Subscript e (.Slice lo hi none p2) pos) (Zc r te tl th):=by
 intro pins s σ H Q I h;refine Subscript_ (cj (he pins s σ H _ I h) λv s1 aI=>?_);obtain⟨x,H1,I1,r1,q1⟩:=aI;refine wpAny_Slice (cj (hl pins s1 σ H1 _ I1 q1) λvl s2 ⟨l,H2,I2,pl,q2⟩=>cj (hu pins s2 σ H2 _ I2 q2) λvu s3 aI=>?_);obtain⟨u,H3,I3,pu,q3⟩:=aI;rw[evalPart_none];refine aaj ?_;have I4:Inv X pins σ H3 { s3 with heap:=s3.heap.push { cls:=.type "slice",data:=.fields [vl,vu,.none].toArray } }:=I3.kept (t':=s3.toks) λb ob q=>aag _ q;obtain⟨T,id,hT,ht,hg⟩:=hr pins { s3 with heap:=s3.heap.push { cls:=.type "slice",data:=.fields [vl,vu,.none].toArray } } σ H3 x v vl vu l u s3.heap.objs.size Q I4 r1 (Heap.IsSliceOf.new ..) pl pu q3;show wpAny (model X.prog X.w) X.A (subscriptTail e (.Slice lo hi none p2) v (.ref s3.heap.objs.size)) (EP X pins σ Q) X.xe { s3 with heap:=s3.heap.push { cls:=.type "slice",data:=.fields [vl,vu,.none].toArray } };exact tail_any (ops:=[.ref s3.heap.objs.size,v]) ht hT hg (by with_unfolding_all rfl)
def wW(xs:List V)(lo hi:Option Int):List V:=(xs.drop (HT.eN xs.length 0 lo)).take (HT.eN xs.length xs.length hi-HT.eN xs.length 0 lo)
theorem pF(xs:List V)(lo hi:Option Int):(wW xs lo hi).length<=xs.length:=by
 unfold wW;rw[length_take,length_drop];omega
def VY(K:Frag):V->Option Int->Option Int->Hp->VK->Prop:=λx lo hi H Q=>∃a xs,x=.ref a/\kO K H a xs /\
 ¬ (HT.eN xs.length 0 lo=0/\HT.eN xs.length xs.length hi=xs.length)/\∀p,H p=none->Q (.ref p) (upd H p (.tup (wW xs lo hi)))
theorem M6:U6 X (VY X.K):=by
 intro pins s σ H x v vl vu lo hi sl Q I rx hs pl pu h;obtain⟨a,xs,rfl,hx,hw,q⟩:=h;cases rx;obtain⟨its,r,ht,hz⟩:=I.tuple hx;have hlen:its.toArray.size=xs.length:=by rw[aaq];exact r.length.symm
 refine⟨"tuple",_,PyProof.Rows.slot_tuple_getitem.lookup,ht.typeIs,?_⟩;refine HT.m8 ht hs pl pu (by rw[hlen];exact hw) ?_ (by rw[hlen];exact hz);rw[hlen];refine⟨.ref s.heap.objs.size,_,I.laid (t':=s.toks) (o:=.tup (wW xs lo hi)) (λb ob q=>aag _ q) (aao _) ?_,rfl,q _ (I.hok.fresh (aao _))⟩;exact⟨aaM (pF xs lo hi) hz,_,(r.drop (HT.eN xs.length 0 lo)).take (HT.eN xs.length xs.length hi-HT.eN xs.length 0 lo),IsTup.new _ _⟩
def RK(K:Frag):R2:=λx y H Q=>∃a b xs ys,x=.ref a/\y=.ref b/\kO K H a xs/\kO K H b ys/\xs≠[]/\xs.length+ys.length<=sizeLine /\
 (ys=[]->Q (.ref a) H)/\(ys≠[]->∀p,H p=none->Q (.ref p) (upd H p (.tup (xs++ys))))
theorem Vals.ve(r:Vals xs us):us=[]↔xs=[]:=by
 cases r with
 |nil=>simp
 |cons _ _=>simp
theorem Jq:kR X (binaryOp .Add) (RK X.K):=by
 intro pins s σ H x y v u Q I rx ry h;obtain⟨a,b,xs,ys,rfl,rfl,ha,hb,hx,hz,q1,q2⟩:=h;cases rx;cases ry;obtain⟨its,r1,p1,_⟩:=I.tuple ha;obtain⟨its2,r2,p2,_⟩:=I.tuple hb;refine HT.Jl p1 p2 (λz=>hx (r1.ve.mp z)) (λz=>⟨.ref a,H,I,rfl,q1 (r2.ve.mp z)⟩) (λz=>?_) (by rw[<-r1.length,<-r2.length];exact hz);refine⟨.ref s.heap.objs.size,_,I.laid (t':=s.toks) (o:=.tup (xs++ys)) (λb ob q=>aag _ q) (aao _) ?_,rfl,q2 (λw=>z (r2.ve.mpr w)) _ (I.hok.fresh (aao _))⟩;exact⟨by rw[aaB];exact hz,_,r1.append r2,IsTup.new _ _⟩
end
def vf(n:Nat)(i:Int):Option Nat:=if 0<=i then (if i<n then some i.toNat else none) else if -(n:Int)<=i then some (i+n).toNat else none
def iV{α:Type}(xs:List α)(i:Int):Option α:=(vf xs.length i).bind λj=>xs[j]?
theorem AJ{n:Nat}{i:Int}{j:Nat}(h:vf n i=some j):seqIndex? i n=some j/\j<n /\ -(n:Int)<=i/\i<n:=by
 unfold vf at h
 by_cases h0:0<=i
 ·rw[aai h0]at h
  by_cases h1:i<n
  ·rw[aai h1]at h;have e:i.toNat=j:=aaH h;exact⟨by rw[seqIndex_of h0 h1,e],by omega,by omega,h1⟩
  ·rw[aal h1]at h;cases h
 ·rw[aal h0]at h
  by_cases h1:-(n:Int)<=i
  ·rw[aai h1]at h;have e:(i+n).toNat=j:=aaH h;exact⟨by rw[seqIndex_neg (by omega) h1,e],by omega,h1,by omega⟩
  ·rw[aal h1]at h;cases h
theorem vg{α:Type}{xs:List α}{i:Int}{v:α}(h:iV xs i=some v):∃j,seqIndex? i xs.length=some j/\xs[j]?=some v/\j<xs.length /\ -(xs.length:Int)<=i/\i<xs.length:=by
 unfold iV at h;cases e:vf xs.length i with
 |none=>rw[e]at h;cases h
 |some j=>rw[e]at h;obtain⟨h1,h2,h3,h4⟩:=AJ e;exact⟨j,h1,h,h2,h3,h4⟩
theorem m9{α:Type}{xs:List α}{j:Nat}{v:α}(h:xs[j]?=some v):iV xs (j:Int)=some v:=by
 have hj:j<xs.length:=(aae.mp h).1;have e:vf xs.length (j:Int)=some j:=by unfold vf;rw[aai (by omega),aai (by omega)];simp
 unfold iV;rw[e];exact h
def AK(b:Expr):Prop:=∀o i,subscripted b false o i=operate [o,i] (getItem o i)
def QM(X:Cx)(r:R2):Prop :=
 ∀(value slice:Expr) (pins:List (Addr×Obj)) (s:Shared) (σ:St) (H:Hp) (x y:V) (v u:Value) (Q:VK),Inv X pins σ H s->RelV x v->RelV y u->r x y H Q ->
  subscripted slice false v u=operate [v,u] (getItem v u)->wpAny (model X.prog X.w) X.A (subscriptTail value slice v u) (EP X pins σ Q) X.xe s
def QN(X:Cx)(id:String)(r:V->List V->Hp->VK->Prop):Prop :=
 ∀(pins:List (Addr×Obj)) (s:Shared) (σ:St) (H:Hp) (x:V) (xs:List V) (v:Value) (us:List Value) (Q:VK),Inv X pins σ H s->RelV x v->Vals xs us->r x xs H Q ->
  wpAny (model X.prog X.w) X.A (call (.builtin id) (v::us)) (EP X pins σ Q) X.xe s
section
variable {X:Cx} {a b:Expr} {ta tb:TE} {pos:Pos}
theorem RM(hr:QM X r)(ha:PE X a ta)(hb:PE X b tb)(hs:AK b):PE X (.Subscript a b pos) (QL r ta tb):=by
 intro pins s σ H Q I h;exact Subscript_ (MP ha hb I h λv u s2 x y H2 I2 rx ry q=>hr a b pins s2 σ H2 x y v u Q I2 rx ry q (hs _ _))
def VZ(K:Frag):R2:=λx y H Q=>∃p xs i v,x=.ref p/\y=.int i/\iu K H p xs/\iV xs i=some v/\Q v H
def V3(K:Frag):R2:=λx y H Q=>∃p xs i v,x=.ref p/\y=.int i/\kO K H p xs/\iV xs i=some v/\Q v H
def V4:R2:=λx y H Q=>∃z i c,x=.str z/\y=.int i/\z.length<=sizeLine/\iV z.cps.toList i=some c/\Q (.str ⟨[c].toArray⟩) H
theorem AL:QM X (VZ X.K):=by
 intro value slice pins s σ H x y v u Q I rx ry h hs;obtain⟨p,xs,i,z,rfl,rfl,hq,he,q⟩:=h;cases rx;obtain⟨t,rfl⟩:=ry;obtain⟨its,r,pl,hz⟩:=I.list hq;obtain⟨j,h1,h2,h3,h4,h5⟩:=vg he;obtain⟨w,ew,rw'⟩:=r.get h2;have hl:=r.length;have hn:=n9;have fin:EP X pins σ Q w s:=⟨z,H,I,rw',q⟩
 by_cases h0:0<=i
 ·have hj:i.toNat=j:=by
   rw[seqIndex_of h0 h5]at h1;exact aaH h1
  exact item_listR pl.isList h0 (by omega) (by rw[hj];simpa using ew) fin hs
 ·have hj:(i+(its.toArray.size:Int)).toNat=j:=by
   rw[seqIndex_neg (by omega) h4]at h1;rw[aaq,<-hl];exact aaH h1
  exact subscriptTail_builtinR (x:=w) pl.isList.typeIs slot_list_getitem.lookup
   (wpAny_getItem_list_neg (Q:=λr s'=>r=w/\EP X pins σ Q r s') pl.isList (by omega) (by rw[aaq]<;>omega) (by omega) (by rw[hj];simpa using ew) ⟨rfl,fin⟩) hs
theorem M7:QM X (V3 X.K):=by
 intro value slice pins s σ H x y v u Q I rx ry h hs;obtain⟨p,xs,i,z,rfl,rfl,hq,he,q⟩:=h;cases rx;obtain⟨t,rfl⟩:=ry;obtain⟨its,r,pl,hz⟩:=I.tuple hq;obtain⟨j,h1,h2,h3,h4,h5⟩:=vg he;obtain⟨w,ew,rw'⟩:=r.get h2;have hl:=r.length;have hn:=n9;have fin:EP X pins σ Q w s:=⟨z,H,I,rw',q⟩;exact subscriptTail_builtinR (x:=w) pl.typeIs slot_tuple_getitem.lookup
  (getItem_tuple (j:=j) (Q:=λr s'=>r=w/\EP X pins σ Q r s') pl (by omega) (by omega) (by rw[aaq,<-hl];exact h1) (by simpa using ew) ⟨rfl,fin⟩) hs
theorem M8:QM X V4:=by
 intro value slice pins s σ H x y v u Q I rx ry h hs;obtain⟨z,i,c,rfl,rfl,hz,he,q⟩:=h;obtain⟨t,rfl⟩:=rx;obtain⟨t',rfl⟩:=ry;obtain⟨j,h1,h2,h3,h4,h5⟩:=vg he;have hl:z.cps.toList.length=z.length:=by simp[Str.length]
 rw[hl]at h1 h4 h5;have hn:=n9;exact tail_any (typeIs_str s z t) slot_str_getitem.lookup (getItem_str (c:=c) (by
  have e1:decide (i < -(2 ^ 63:Int))=false:=decide_eq_false (by omega);have e2:decide (i≥2 ^ 63)=false:=decide_eq_false (by omega);rw[e1,e2,Bool.or_false]) (by rw[h1];simpa using h2) ⟨.str ⟨[c].toArray⟩,H,I.tok _,⟨_,rfl⟩,q⟩) hs
theorem zH(its:List Value)(n j:Nat)(u:Value):Obj.mapSeq (·.setIfInBounds j u) { cls:=.type "list",data:=.seq its.toArray n }={ cls:=.type "list",data:=.seq (its.set j u).toArray n }:=by
 simp[Obj.mapSeq]
theorem Inv.lst(I:Inv X pins σ H s)(h:H p=some (.lst xs)) :
  ∃(its:List Value) (n:Nat),Vals xs its/\s.heap.get? p=some { cls:=.type "list",data:=.seq its.toArray n }/\xs.length<=sizeLine:=by
 obtain⟨z,its,n,r,e⟩:=I.hok p _ h;exact⟨its,n,r,e,z⟩
theorem Inv.M9{pins:List (Addr×Obj)}{σ:St}{H:Hp}{s:Shared}{p:Addr}{xs ys:List V}{its its':List Value}{n n':Nat}{f:Obj->Obj}(I:Inv X pins σ H s)(h:H p=some (.lst xs))
  (ho:s.heap.get? p=some { cls:=.type "list",data:=.seq its.toArray n }) (hf:f { cls:=.type "list",data:=.seq its.toArray n }={ cls:=.type "list",data:=.seq its'.toArray n' }) (r:Vals ys its') (hz:ys.length<=sizeLine) (t:Nat) :
  Inv X pins σ (upd H p (.lst ys)) { s with heap:=s.heap.update p f,toks:=t }:=by
 have e:(s.heap.update p f).get? p=some { cls:=.type "list",data:=.seq its'.toArray n' }:=by rw[get?_update_self f ho (by rw[hf]<;>rfl),hf]
 refine I.write (x:=p) (e:=p) (by rw[h];trivial) (.inl rfl) (λb u hb q=>(get?_update_other _ _ (Ne.symm hb)).trans q) ⟨_,e⟩ ?_;exact⟨hz,its',n',r,e⟩
def RO:V->V->V->Hp->(Hp->Prop)->Prop:=λo i v H Q=>∃p xs k j,o=.ref p/\i=.int k/\H p=some (.lst xs)/\vf xs.length k=some j/\Q (upd H p (.lst (xs.set j v)))
theorem set_list:MJ X RO:=by
 intro pins s σ H o i v ov iv u Q I ro ri rv h;obtain⟨p,xs,k,j,rfl,rfl,hp,hj,q⟩:=h;cases ro;obtain⟨t,rfl⟩:=ri;obtain⟨its,n,r,ho,hz⟩:=I.lst hp;obtain⟨h1,h2,h3,h4⟩:=AJ hj;have hl:=r.length;have hn:=n9;have I':Inv X pins σ (upd H p (.lst (xs.set j v))) { s with heap:=s.heap.update p (Obj.mapSeq (·.setIfInBounds j u)) } :=
  I.M9 hp ho (zH its n j u) (r.set rv j) (by rw[length_set];exact hz) s.toks
 by_cases h0:0<=k
 ·have hk:k.toNat=j:=by
   rw[seqIndex_of h0 h4]at h1;exact aaH h1
  exact PySem.W.ki_setAt ho h0 (by omega) (by rw[aaq,<-hl];exact h4) (by rw[hk];exact⟨_,I',q⟩)
 ·have hk:(k+(its.toArray.size:Int)).toNat=j:=by
   rw[seqIndex_neg (by omega) h3]at h1;rw[aaq,<-hl];exact aaH h1
  exact PySem.W.ki_setBack ho (by omega) (by rw[aaq,<-hl];exact h3) (by omega) (by rw[hk];exact⟨_,I',q⟩)
theorem vh(lo hi:Option Int)(n:Nat):(sliceBounds lo hi none n).1=((HT.eN n 0 lo:Nat):Int)/\(sliceBounds lo hi none n).2.1=((HT.eN n n hi:Nat):Int)/\(sliceBounds lo hi none n).2.2=1:=by
 refine⟨?_,?_,rfl⟩
 ·cases lo with
  |none=>simp[sliceBounds,HT.eN]
  |some i=>
   simp only[sliceBounds,HT.eN,getD_none,show (1:Int)>0 by decide,if_true]
   by_cases h:i<0
   ·simp only[h,if_true]<;>omega
   ·simp only[h,if_false]<;>omega
 ·cases hi with
  |none=>simp[sliceBounds,HT.eN]
  |some i=>
   simp only[sliceBounds,HT.eN,getD_none,show (1:Int)>0 by decide,if_true]
   by_cases h:i<0
   ·simp only[h,if_true]<;>omega
   ·simp only[h,if_false]<;>omega
theorem tG(its:List Value)(lo hi:Option Int):slicePick its.toArray lo hi none=((its.drop (HT.eN its.length 0 lo)).take (HT.eN its.length its.length hi-HT.eN its.length 0 lo)).toArray:=by
 obtain⟨h1,h2,h3⟩:=vh lo hi its.toArray.size;unfold slicePick;rw[h1,h2,h3];simp only[sliceRange_one,pick_run,size_toArray]<;>rfl
def V5(K:Frag):V->Option Int->Option Int->Hp->VK->Prop:=λx lo hi H Q=>∃a xs,x=.ref a/\iu K H a xs/\∀p,H p=none->Q (.ref p) (upd H p (.lst (wW xs lo hi)))
theorem Jr:U6 X (V5 X.K):=by
 intro pins s σ H x v vl vu lo hi sl Q I rx hs pl pu h;obtain⟨a,xs,rfl,hx,q⟩:=h;cases rx;obtain⟨its,r,ht,hz⟩:=I.list hx;have hlen:=r.length;refine⟨"list",_,slot_list_getitem.lookup,ht.isList.typeIs,?_⟩;refine wpAny_getItem_list_slice ht.isList hs pl pu .none (by simp) ?_ (by rw[aaq]<;>omega);rw[tG,<-hlen];refine⟨.ref s.heap.objs.size,_,I.laid (t':=s.toks) (o:=.lst (wW xs lo hi)) (λb ob q=>aag _ q) (aao _) ?_,rfl,q _ (I.hok.fresh (aao _))⟩;exact⟨aaM (pF xs lo hi) hz,_,0,(r.drop (HT.eN xs.length 0 lo)).take (HT.eN xs.length xs.length hi-HT.eN xs.length 0 lo),aav _ rfl⟩
def aJ:V->Bool
 |.non=>true
 |.bl _=>true
 |.int _=>true
 |.str _=>true
 |_=>false
def LC:V->V->Bool
 |.non,.non=>true
 |.bl a,.bl b=>a==b
 |.bl a,.int b=>(if a then 1 else 0)==b
 |.int a,.bl b=>a==(if b then 1 else 0)
 |.int a,.int b=>a==b
 |.str a,.str b=>a==b
 |_,_=>false
theorem Na(ry:RelV y u)(rx:RelV x v)(fy:aJ y=true)(fx:aJ x=true):SeqAt.EqAt A s u v (LC y x):=by
 cases y with
 |non=>
  cases ry;cases x with
  |non=>cases rx;exact SeqAt.EqAt.same _
  |bl b=>cases rx;exact SeqAt.EqAt.none_bool b
  |int b=>obtain⟨t,rfl⟩:=rx;exact SeqAt.EqAt.none_int b t
  |str b=>obtain⟨t,rfl⟩:=rx;exact SeqAt.EqAt.none_str b t
  |_=>exact absurd (show false=true from fx) aac
 |bl a=>
  cases ry;cases x with
  |non=>cases rx;exact SeqAt.EqAt.bool_none a
  |bl b=>cases rx;exact SeqAt.EqAt.bool_bool a b
  |int b=>obtain⟨t,rfl⟩:=rx;exact SeqAt.EqAt.bool_int a b t
  |str b=>obtain⟨t,rfl⟩:=rx;exact SeqAt.EqAt.bool_str a b t
  |_=>exact absurd (show false=true from fx) aac
 |int a=>
  obtain⟨t',rfl⟩:=ry;cases x with
  |non=>cases rx;exact SeqAt.EqAt.int_none a t'
  |bl b=>cases rx;exact SeqAt.EqAt.int_bool a t' b
  |int b=>obtain⟨t,rfl⟩:=rx;exact SeqAt.EqAt.int_int a t' b t
  |str b=>obtain⟨t,rfl⟩:=rx;exact SeqAt.EqAt.int_str a t' b t
  |_=>exact absurd (show false=true from fx) aac
 |str a=>
  obtain⟨t',rfl⟩:=ry;cases x with
  |non=>cases rx;exact SeqAt.EqAt.str_none a t'
  |bl b=>cases rx;exact SeqAt.EqAt.str_bool a t' b
  |int b=>obtain⟨t,rfl⟩:=rx;exact SeqAt.EqAt.str_int a t' b t
  |str b=>obtain⟨t,rfl⟩:=rx;exact SeqAt.EqAt.str_str a t' b t
  |_=>exact absurd (show false=true from fx) aac
 |_=>exact absurd (show false=true from fy) aac
def Js(x:V)(u:Value):Bool:=match u with
 |.none=>LC .non x
 |.bool b=>LC (.bl b) x
 |.int i _=>LC (.int i) x
 |.str z _=>LC (.str z) x
 |_=>false
theorem D3(r:RelV y u)(f:aJ y=true):Js x u=LC y x:=by
 cases y with
 |non=>cases r;rfl
 |bl b=>cases r;rfl
 |int i=>obtain⟨t,rfl⟩:=r;rfl
 |str z=>obtain⟨t,rfl⟩:=r;rfl
 |_=>exact absurd (show false=true from f) aac
theorem vj:∀{xs:List V} {us:List Value},Vals xs us->xs.all aJ=true->us.any (Js x)=xs.any λy=>LC y x
 |_,_,.nil,_=>rfl
 | y::xs,u::us,.cons r t,f=>by
  rw[all_cons,and_eq_true]at f;rw[any_cons,any_cons,D3 r f.1,vj t f.2]
theorem qF(rx:RelV x v)(fx:aJ x=true):∀{xs:List V} {us:List Value},Vals xs us->xs.all aJ=true->∀u∈us,SeqAt.EqAt A s u v (Js x u)
 |_,_,.nil,_=>λu hu=>by cases hu
 | y::xs,u::us,.cons r t,f=>λu' hu=>by
  rw[all_cons,and_eq_true]at f
  rcases aaG.mp hu with rfl|hu
  ·rw[D3 r f.1];exact Na r rx f.1 fx
  ·exact qF rx fx t f.2 u' hu
def Io(x:V)(xs:List V):Bool:=xs.any λy=>LC y x
def V6(K:Frag)(neg:Bool):R2:=λx y H Q=>∃p xs,y=.ref p/\(iu K H p xs\/kO K H p xs)/\aJ x=true/\xs.all aJ=true/\Q (.bl (if neg then !Io x xs else Io x xs)) H
theorem vn:kR X (compareOp .NotIn) (V6 X.K true):=by
 intro pins s σ H x y v u Q I rx ry h;obtain⟨p,xs,rfl,hq,fx,fs,q⟩:=h;cases ry
 rcases hq with hq|hq
 ·obtain⟨its,r,pl,hz⟩:=I.list hq;refine SeqAt.notIn_listAt (Js x) pl.isList (λw hw=>qF rx fx r fs w (by simpa using hw)) ⟨.bl _,H,I,rfl,?_⟩;rw[show its.toArray.any (Js x)=its.any (Js x) by simp,vj r fs];exact q
 ·obtain⟨its,r,pl,hz⟩:=I.tuple hq;refine SeqAt.notIn_tupleAt (Js x) pl (λw hw=>qF rx fx r fs w (by simpa using hw)) ⟨.bl _,H,I,rfl,?_⟩;rw[show its.toArray.any (Js x)=its.any (Js x) by simp,vj r fs];exact q
theorem vo:cZ X (.type "list") (λxs H Q=>∃p ys,xs=[.ref p]/\(iu X.K H p ys\/kO X.K H p ys)/\∀l,H l=none->Q (.ref l) (upd H l (.lst ys))):=by
 intro pins s σ H xs us Q I r h;obtain⟨p,ys,rfl,hq,q⟩:=h;obtain⟨u,rfl,rx⟩:=vals1 r;cases rx;have fin:∀(its:List Value),Vals ys its->ys.length<=sizeLine->∀(h':Heap) (c':Nat),(∀b o',s.heap.get? b=some o'->h'.get? b=some o') ->
   h'.get? s.heap.objs.size=some { cls:=.type "list",dict:=none,data:=.seq its.toArray c',slots:=#[] }->EP X pins σ Q (.ref s.heap.objs.size) { s with heap:=h' }:=λits r' hz h' c' kp e=>
  ⟨.ref s.heap.objs.size,_,I.laid (t':=s.toks) kp (aao _) (show bR X.prog X.w _ h' _ (.lst ys) from⟨hz,its,c',r',e⟩),rfl,q _ (I.hok.fresh (aao _))⟩
 rcases hq with hq|hq
 ·obtain⟨its,r',pl,hz⟩:=I.list hq;have hlen:=r'.length;obtain⟨o,ho,hc,n,hd⟩:=pl.isList;exact call_list_seq p (.inl rfl) ho hc hd (λh' c' kp e=>fin its r' hz h' c' kp e) (by simp only[size_toArray]<;>omega)
 ·obtain⟨its,r',pl,hz⟩:=I.tuple hq;have hlen:=r'.length;obtain⟨o,ho,hc,n,hd⟩:=pl;exact call_list_seq p (.inr rfl) ho hc hd (λh' c' kp e=>fin its r' hz h' c' kp e) (by simp only[size_toArray]<;>omega)
def V7(K:Frag)(T:String)(x:V)(H:Hp):Prop:=match x with
 |.str _=>T = "str"
 |.int _=>T = "int"
 | .ref p=>(T = "list" /\ ∃xs,iu K H p xs)\/(T = "tuple" /\ ∃o,K.lookup p=some o/\o.cls=.type "tuple" /\ o.dict=none) \/
   (T = "dict" /\ ((∃kvs,H p=some (.dK kvs))\/∃kvs,H p=some (.dT kvs)))\/(T = "set" /\ ∃S n,H p=some (.set S n))
 |_=>False
theorem Nb{T:String}(I:Inv X pins σ H s)(r:RelV x v)(ty:V7 X.K T x H) :
  s.TypeIs v T/\∀a,v=.ref a->∃ob,s.heap.get? a=some ob/\ob.dict=none:=by
 cases x with
 |str z=>obtain⟨t,rfl⟩:=r;cases (show T = "str" from ty);exact⟨typeIs_str s z t,λ_ e=>nomatch e⟩
 |int i=>obtain⟨t,rfl⟩:=r;cases (show T = "int" from ty);exact⟨typeIs_int s i t,λ_ e=>nomatch e⟩
 |ref p=>
  cases r
  rcases ty with ⟨rfl,xs,hq⟩|⟨rfl,o,hk,hc,hd⟩|⟨rfl,hk⟩|⟨rfl,S,n,hk⟩
  ·obtain⟨its,_,pl,_⟩:=I.list hq;refine⟨pl.isList.typeIs,λa e=>?_⟩;cases e;obtain⟨o,n,e,c,hd,_⟩:=pl;exact⟨o,e,hd⟩
  ·refine⟨⟨o,I.n8 p o hk,hc⟩,λa e=>?_⟩;cases e;exact⟨o,I.n8 _ o hk,hd⟩
  ·have z:∃o,s.heap.get? p=some o/\o.ExactDict:=by
    rcases hk with ⟨kvs,hk⟩|⟨kvs,hk⟩
    ·obtain⟨_,_,_,_,o,_,_,e,ex,_⟩:=I.hok p _ hk;exact⟨o,e,ex⟩
    ·obtain⟨_,_,_,_,o,_,_,e,ex,_⟩:=I.hok p _ hk;exact⟨o,e,ex⟩
   obtain⟨o,e,ex⟩:=z;refine⟨⟨o,e,ex.1⟩,λa e2=>?_⟩;cases e2;exact⟨o,e,ex.2.1⟩
  ·obtain⟨o,_,_,_,e,ex,_⟩:=I.hok p _ hk;refine⟨⟨o,e,ex.1⟩,λa e2=>?_⟩;cases e2;exact⟨o,e,ex.2.1⟩
 |_=>exact False.elim ty
def Xu(K:Frag)(T:String)(r:V->List V->Hp->VK->Prop)(to:TE)(t:TA):TE:=λσ H Q=>to σ H λx H1=>V7 K T x H1/\t σ H1 λxs H2=>r x xs H2 Q
variable {o e:Expr} {es:List Expr} {to:TE} {t:TA} {name:Str} {apos cpos:Pos} {T id:String} {r:V->List V->Hp->VK->Prop}
theorem AM(pa:PlainAttrs T)(slot:Slot T name id)(hty:typeOf (.builtin id)=pure (.type "method_descriptor"))(hm:QN X id r)(ho:PE X o to)(ha:PA X (e::es) t)
  (hbase:attributeBase o name X.env (eval o X.env)=eval o X.env)
  (hfew:((backTo cpos (starEach (e::es) X.env)).all (λx=>!x.1)&&(backToKw cpos (keywordEach [] X.env)).all (λx=>x.1.isSome)
   && decide ((e::es).length+([]:List Keyword).length+(if ([]:List Keyword).isEmpty then 0 else 1)<30))=true)
  (hline:(apos.endLine==cpos.line)=true) (hs:starEach (e::es) X.env=(false,eval e X.env)::starEach es X.env) (hplain:(backTo cpos (starEach es X.env)).any (·.1)=false) :
  PE X (.Call (.Attribute o name apos) (e::es) [] cpos) (Xu X.K T r to t):=by
 intro pins s σ H Q I h;refine wpAny_Call_method_late hbase hfew hline rfl (cj (ho pins s σ H _ I h) λv s1 aI=>?_);obtain⟨x,H1,I1,r1,ty,q1⟩:=aI;obtain⟨h1,h2⟩:=Nb I1 r1 ty;refine⟨T,id,pa,slot,hty,h1,h2,?_⟩;have hA:=ha cpos pins s1 σ H1 _ I1 q1;rw[hs]at hA |-;refine Calls.callWith_builtin (by show (false||(backTo cpos (starEach es X.env)).any (·.1))=false;rw[hplain]<;>rfl) (Calls.evalArgs_plain ?_);exact cj hA λus s2 ⟨vs,H2,I2,r2,q2⟩=>hm pins s2 σ H2 x vs v us Q I2 r1 r2 q2
/- xs.append(e),list.index on a RP tuple .. are QN facts of 06m -/
end
def U7(X:Cx)(id:String)(r:V->List V->Hp->VK->Prop):Prop :=
 ∀(pins:List (Addr×Obj)) (s:Shared) (σ:St) (H:Hp) (x:V) (xs:List V) (v:Value) (us:List Value) (Q:VK),Inv X pins σ H s->RelV x v->Vals xs us->r x xs H Q ->
  wpAny (model X.prog X.w) X.A (call (.builtin id) (v::us)) (EP X pins σ Q) X.xe s
theorem Vals.one:∀{x:V} {us:List Value},Vals [x] us->∃u,us=[u]/\RelV x u
 |_,_,.cons r .nil=>⟨_,rfl,r⟩
theorem Vals.eraseIdx:∀{xs:List V} {us:List Value} (i:Nat),Vals xs us->Vals (xs.eraseIdx i) (us.eraseIdx i)
 |_,_,_,.nil=>.nil
 |_,_,0,.cons _ t=>t
 |_,_,i+1,.cons r t=>.cons r (Vals.eraseIdx i t)
theorem uh{α:Type}:∀(l:List α) (i:Nat),(l.eraseIdx i).length<=l.length
 |[],_=>aao _
 |_::_,0=>le_succ _
 |_::r,i+1=>Nat.succ_le_succ (uh r i)
section
variable {X:Cx} {pins:List (Addr×Obj)} {σ:St} {H:Hp} {s:Shared} {l b:Addr} {xs ys zs:List V}
theorem Inv.Jt{its its':List Value}{n:Nat}{f:Array Value->Array Value}{t':Nat}(I:Inv X pins σ H s)(hH:H l=some (.lst xs))
  (e:s.heap.get? l=some { cls:=.type "list",data:=.seq its.toArray n }) (hf:f its.toArray=its'.toArray) (hv:Vals ys its') (hz:ys.length<=sizeLine) :
  Inv X pins σ (upd H l (.lst ys)) { s with heap:=s.heap.update l (Obj.mapSeq f),toks:=t' }:=by
 have q:=PySem.IsL.update e f;rw[hf]at q;refine I.write (x:=l) (e:=l) (by rw[hH];exact trivial) (.inl rfl) (λb' u hb hu=>(get?_update_other s.heap (Obj.mapSeq f) (Ne.symm hb)).trans hu) ⟨_,q⟩ ?_;exact⟨hz,its',_,hv,q⟩
theorem Inv.V8{t':Nat}(I:Inv X pins σ H s)(hv:Vals ys its)(hz:ys.length<=sizeLine) :
  Inv X pins σ (upd H s.heap.objs.size (.lst ys)) { s with heap:=s.heap.push { cls:=.type "list",data:=.seq its.toArray },toks:=t' } :=
 I.laid (λ_ _ q=>aag _ q) (aao _) ⟨hz,its,0,hv,aav _ rfl⟩
theorem Inv.D4(I:Inv X pins σ H s)(hH:H l=some (.lst xs)):xs.length<=sizeLine/\∃(its:List Value) (n:Nat),Vals xs its/\xs.length=its.length/\s.heap.get? l=some { cls:=.type "list",data:=.seq its.toArray n }:=by
 obtain⟨z,its,n,r,e⟩:=I.hok l _ hH;exact⟨z,its,n,r,r.length,e⟩
theorem wX{n:Nat}(h:n<=sizeLine):Builtin.List.listTooLong n=false:=by
 unfold Builtin.List.listTooLong;exact decide_eq_false (by omega)
end
section
variable {X:Cx}
def Ju:V->List V->Hp->VK->Prop:=λx vs H Q=>∃l xs y,x=.ref l/\vs=[y]/\H l=some (.lst xs)/\xs.length<sizeLine/\Q .non (upd H l (.lst (xs++[y])))
theorem um:U7 X "list.append" Ju:=by
 intro pins s σ H x vs v us Q I rx rv h;obtain⟨l,xs,y,rfl,rfl,hH,hz,q⟩:=h;cases rx;obtain⟨u,rfl,ru⟩:=rv.one;obtain⟨z,its,n,r,hl,e⟩:=I.D4 hH;refine call_meets F.slot_list_append ⟨_,e,rfl⟩ F.entry_list_append (F.args_list_append_2 _ _) (PySem.list_append l its.toArray n u (by rw[aaq];omega)) ⟨e,?_⟩;refine⟨.non,_,I.Jt (its':=its++[u]) hH e (by simp) (r.append #[ru]) ?_,rfl,q⟩;rw[aaB,List.length_singleton];omega
def Jv:V->List V->Hp->VK->Prop:=λx vs H Q=>∃l b xs zs,x=.ref l/\vs=[.ref b]/\H l=some (.lst xs)/\H b=some (.lst zs)/\xs.length+zs.length<=sizeLine/\Q .non (upd H l (.lst (xs++zs)))
theorem Cr:U7 X "list.extend" Jv:=by
 intro pins s σ H x vs v us Q I rx rv h;obtain⟨l,b,xs,zs,rfl,rfl,hH,hB,hz,q⟩:=h;cases rx;obtain⟨u,rfl,ru⟩:=rv.one;cases ru;obtain⟨z,its,n,r,hl,e⟩:=I.D4 hH;obtain⟨z2,its2,n2,r2,hl2,e2⟩:=I.D4 hB;have hsz:its.toArray.size+its2.toArray.size<=sizeLine:=by rw[aaq,aaq];omega
 have D5:¬ (!its.toArray.isEmpty&&Builtin.List.listTooLong (its.toArray.size+its2.toArray.size))=true:=by rw[wX hsz,Bool.and_false];exact aac
 refine call_meets F.slot_list_extend ⟨_,e,rfl⟩ F.entry_list_extend (F.args_list_extend_2 _ _)
  (AutoSeq1.list_extend_list_list_0 l its.toArray n b its2.toArray n2 D5 (by rw[aaq];omega) (by omega)) ⟨e,e2,?_⟩
 refine⟨.non,_,I.Jt (its':=its++its2) hH e (by simp) (r.append r2) ?_,rfl,q⟩;rw[aaB];omega
end
section
variable {κ:Type} [DecidableEq κ]
def jG(kvs:List (κ × V))(k:κ):Option V:=(kvs.find? λkv=>decide (kv.1=k)).map (·.2)
def putK(kvs:List (κ × V))(k:κ)(v:V):List (κ × V) :=
 if (kvs.any λkv=>decide (kv.1=k))=true then kvs.map (λkv=>if kv.1=k then (kv.1,v) else kv) else kvs++[(k,v)]
theorem qG{p:κ × V}{r:List (κ × V)}{k:κ}(e:p.1=k):jG (p::r) k=some p.2:=by simp[jG,find?_cons,e]
theorem qH{p:κ × V}{r:List (κ × V)}{k:κ}(e:¬ p.1=k):jG (p::r) k=jG r k:=by simp[jG,find?_cons,e]
theorem wY(k:κ):∀kvs:List (κ × V),(kvs.any λkv=>decide (kv.1=k))=(jG kvs k).isSome
 |[]=>rfl
 | p::r=>by
  rw[any_cons]
  by_cases e:p.1=k
  ·simp only[qG e,decide_eq_true e,Bool.true_or,Option.isSome_some]
  ·rw[qH e,decide_eq_false e,Bool.false_or];exact wY k r
theorem kU(kvs:List (κ × V))(k:κ)(v:V):(putK kvs k v).length<=kvs.length+1:=by
 unfold putK
 split
 ·rw[aah];omega
 ·rw[aaB,aaz,length_nil];omega
theorem kH.Cs(r:kH o u):o.isSome=u.isSome:=by
 cases o with
 | none=>cases u with
  |none=>rfl
  |some _=>exact(show False from r).elim
 | some _=>cases u with
  |none=>exact(show False from r).elim
  |some _=>rfl
theorem kH.getD(r:kH o u)(rd:RelV d d'):RelV (o.getD d) (u.getD d'):=by
 cases o with
 | none=>cases u with
  |none=>exact rd
  |some _=>exact(show False from r).elim
 | some _=>cases u with
  |none=>exact(show False from r).elim
  |some _=>exact r
theorem KV.val(r:KV kvs vs)(k:κ):kH (jG kvs k) (valueAt vs k):=by
 unfold KV at r
 induction r with
 |nil=>exact True.intro
 |@cons p q ps qs h t ih=>
  obtain⟨h1,h2⟩:=h
  by_cases e:p.1=k
  ·have e':q.1=k:=h1.symm.trans e
   have b:valueAt (q::qs) k=some q.2:=by simp[valueAt,find?_cons,e']
   rw[qG e,b];exact h2
  ·have e':¬ q.1=k:=λz=>e (h1.trans z)
   have b:valueAt (q::qs) k=valueAt qs k:=by simp[valueAt,find?_cons,e']
   rw[qH e,b];exact ih
theorem KV.any(r:KV kvs vs)(k:κ):(kvs.any λkv=>decide (kv.1=k))=vs.any λkv=>decide (kv.1=k):=by
 unfold KV at r
 induction r with
 |nil=>rfl
 |cons h t ih=>rw[any_cons,any_cons,ih,h.1]
theorem KV.repl(r:KV kvs vs)(k:κ)(ry:RelV y u) :
  KV (kvs.map λkv=>if kv.1=k then (kv.1,y) else kv) (vs.map λkv=>if kv.1=k then (kv.1,u) else kv):=by
 unfold KV at r |-
 induction r with
 |nil=>exact .nil
 |@cons p q ps qs h t ih=>
  rw[aap,aap];refine .cons ?_ ih;obtain⟨h1,h2⟩:=h
  by_cases e:p.1=k
  ·rw[aai e,aai (h1.symm.trans e)];exact⟨h1,ry⟩
  ·rw[aal e,aal (λz=>e (h1.trans z))];exact⟨h1,h2⟩
theorem KV.put(r:KV kvs vs)(k:κ)(ry:RelV y u):KV (putK kvs k y) (stored vs k u):=by
 unfold putK stored;rw[r.any k]
 by_cases e:(vs.any λkv=>decide (kv.1=k))=true
 ·rw[aai e,aai e];exact r.repl k ry
 ·rw[aal e,aal e];exact Paired.snoc r ⟨rfl,ry⟩
theorem KV.length(r:KV kvs vs):kvs.length=vs.length:=Paired.length r
end
theorem wZ(r:RelV (kV k) u):(aY P w).is k u=true:=by
 cases k with
 |inl i=>obtain⟨t,e⟩:=(show ∃t,u=Value.int i t from r);subst e;exact wJ P w i t
 |inr x=>obtain⟨t,e⟩:=(show ∃t,u=Value.str x t from r);subst e;exact wK P w x t
theorem uo:∀{ks:List Key} {us:List Value},Vals (ks.map kV) us->ItemsAre (aY P w) ks us
 |[],_,r=>by rw[map_nil]at r;cases r;exact .nil
 | k::ks,_,r=>by
  rw[aap]at r;cases r with
  |cons h t=>exact .cons (wZ h) (uo t)
abbrev KT(H:Hp):List (List Key×V)->List (List Key×Addr×Value)->Prop:=Paired λp q=>p.1=q.1/\H q.2.1=some (.tup (p.1.map kV))/\RelV p.2 q.2.2
theorem KT.val(r:KT H kvs xs)(k:List Key):kH (jG kvs k) ((atKey xs k).map (·.2)):=by
 induction r with
 |nil=>exact True.intro
 |@cons p q ps qs h t ih=>
  obtain⟨h1,_,h2⟩:=h
  by_cases e:p.1=k
  ·have e':q.1=k:=h1.symm.trans e
   have b:atKey (q::qs) k=some q.2:=by simp[atKey,find?_cons,e']
   rw[qG e,b];exact h2
  ·have e':¬ q.1=k:=λz=>e (h1.trans z)
   have b:atKey (q::qs) k=atKey qs k:=by simp[atKey,find?_cons,e']
   rw[qH e,b];exact ih
theorem KT.repl(r:KT H kvs xs)(k:List Key)(ry:RelV y u) :
  KT H (kvs.map λkv=>if kv.1=k then (kv.1,y) else kv) (xs.map (putAt k u)):=by
 induction r with
 |nil=>exact .nil
 |@cons p q ps qs h t ih=>
  rw[aap,aap];refine .cons ?_ ih;obtain⟨h1,h2,h3⟩:=h;unfold putAt
  by_cases e:p.1=k
  ·rw[aai e,aai (h1.symm.trans e)];exact⟨h1,h2,ry⟩
  ·rw[aal e,aal (λz=>e (h1.trans z))];exact⟨h1,h2,h3⟩
theorem KT.put(r:KT H kvs xs)(k:List Key)(hb:H b=some (.tup (k.map kV)))(ry:RelV y u) :
  KT H (putK kvs k y) (storedH xs k b u):=by
 have e:(kvs.any λkv=>decide (kv.1=k))=(atKey xs k).isSome:=by rw[wY,(r.val k).Cs,Option.isSome_map]
 unfold putK storedH;rw[e]
 by_cases q:(atKey xs k).isSome=true
 ·rw[aai q,aai q];exact r.repl k ry
 ·rw[aal q,aal q];exact Paired.snoc r ⟨rfl,hb,ry⟩
theorem KT.keeps(r:KT H kvs xs)(ht:∀b ys,H b=some (.tup ys)->H' b=some (.tup ys)):KT H' kvs xs :=
 Paired.Ms r λ_ _ z=>⟨z.1,ht _ _ z.2.1,z.2.2⟩
section
variable {P:Program} {w:World} {H:Hp} {h:Heap} {a:Addr}
theorem LD(ok:mG P w H h)(e:Rd H a u):bR P w H h a u:=e.ok ok
theorem uq(ok:mG P w H h)(e:Rd H a (.dK kvs)):kvs.length<=sizeLine/\(a==sysModules)=false/\∃vs,KV kvs vs/\h.DictOf (aY P w) a vs :=
 show bR P w H h a (.dK kvs) from LD ok e
theorem xg(ok:mG P w H h)(e:H a=some (.dK kvs)):kvs.length<=sizeLine/\(a==sysModules)=false/\∃vs,KV kvs vs/\h.DictOf (aY P w) a vs:=uq ok (.inl e)
theorem vp(ok:mG P w H h)(e:H a=some (.tup (ks.map kV))):(tupleKind (aY P w)).is h ks a:=by
 obtain⟨_,its,r,o,h1,h2,n,h3⟩:=(show bR P w H h a (.tup (ks.map kV)) from ok a _ e);exact⟨o,its.toArray,n,h1,h2,h3,by simpa using uo r⟩
theorem xh(ok:mG P w H h)(e:Rd H a (.dT kvs)):kvs.length<=sizeLine/\(a==sysModules)=false /\
  ∃xs,KT H kvs xs/\h.DictOfH (tupleKind (aY P w)) a xs:=by
 obtain⟨z,y,xs,r,o,es,ep,h1,h2,h3,h4,h5⟩:=(show bR P w H h a (.dT kvs) from LD ok e);refine⟨z,y,xs,r,o,es,ep,h1,h2,h3,h4,λx hx=>?_,h5⟩;have all:∀{l:List (List Key×V)} {m:List (List Key×Addr×Value)},KT H l m->∀x∈m,(tupleKind (aY P w)).is h x.1 x.2.1:=by
  intro l m q
  induction q with
  |nil=>intro x hx;exact nomatch hx
  |@cons p q ps qs hq t ih=>
   intro x hx
   rcases aaG.mp hx with e|hx
   ·subst e;exact vp ok (by rw[<-hq.1];exact hq.2.1)
   ·exact ih x hx
 exact all r x hx
theorem RQ(ok:mG P w H h)(e:H a=some (.dT kvs)):kvs.length<=sizeLine/\(a==sysModules)=false /\
  ∃xs,KT H kvs xs/\h.DictOfH (tupleKind (aY P w)) a xs:=xh ok (.inl e)
end
def pU(H:Hp)(a:Addr)(y:V)(r:Option V):Prop :=
 (∃kvs k,Rd H a (.dK kvs)/\y=kV k/\r=jG kvs k)\/∃kvs k b,Rd H a (.dT kvs)/\y=.ref b/\H b=some (.tup (k.map kV))/\r=jG kvs k
def Jw(H:Hp)(a:Addr)(y v:V)(H':Hp):Prop :=
 (∃kvs k,H a=some (.dK kvs)/\y=kV k/\kvs.length<sizeLine/\H'=upd H a (.dK (putK kvs k v))) \/
 ∃kvs k b,H a=some (.dT kvs)/\y=.ref b/\H b=some (.tup (k.map kV))/\kvs.length<sizeLine/\H'=upd H a (.dT (putK kvs k v))
theorem pU.k{H:Hp}{a:Addr}{kvs:List (Key×V)}{k:Key}(e:H a=some (.dK kvs)):pU H a (kV k) (jG kvs k):=.inl ⟨kvs,k,.inl e,rfl,rfl⟩
theorem Jw.k{H:Hp}{a:Addr}{kvs:List (Key×V)}{k:Key}{v:V}(e:H a=some (.dK kvs))(hl:kvs.length<sizeLine):Jw H a (kV k) v (upd H a (.dK (putK kvs k v))):=.inl ⟨kvs,k,e,rfl,hl,rfl⟩
section
variable {X:Cx} {pins:List (Addr×Obj)} {σ:St} {H:Hp} {s:Shared} {a:Addr} {y v:V} {u r:Value} {o:Option V} {A:Around} {E:Value->Shared->Prop}
theorem Inv.big(I:Inv X pins σ H s):sysModules<s.heap.objs.size:=by
 have h:mainGlobals<s.heap.objs.size:=(I.mod.glob.keeps I.bk).lt;exact lt_trans (by decide) h
theorem Ct(hu:A.units+1<cLine)(I:Inv X pins σ H s)(g:pU H a y (some v))(ry:RelV y u)(h:∀w' s',Inv X pins σ H s'->RelV v w'->Q w' s') :
  wpAny (model X.prog X.w) A (getItem (.ref a) u) Q E s:=by
 rcases g with ⟨kvs,k,e,ey,l⟩|⟨kvs,k,b,e,ey,eb,l⟩
 ·subst ey;obtain⟨z,hd,vs,rel,dd⟩:=uq I.hok e;obtain⟨w',hw,rw'⟩:=kH.some_of (v:=v) (o:=valueAt vs k) (by rw[l];exact rel.val k);exact wpAny_getItem_of (wZ ry) dd.mapOf hw (h w' _ (I.tok _) rw')
 ·subst ey;cases (show u=Value.ref b from ry);obtain⟨z,hd,xs,rel,dd⟩:=xh I.hok e;obtain⟨w',hw,rw'⟩:=kH.some_of (v:=v) (o:=(atKey xs k).map (·.2)) (by rw[l];exact rel.val k);obtain⟨p,hp,hp2⟩:=aaJ.mp hw;refine wpAny_getItem_heap (tupleKind_room_in1 hu) (vp I.hok eb) dd hp ?_;rw[hp2];exact h w' _ (I.tok _) rw'
theorem vq{t':Nat}(I:Inv X pins σ H s)(mu:Q5 (H a))(hs:Heap.SameBut a s.heap h')(he:∃q,h'.get? a=some q)(new:bR X.prog X.w (upd H a ob) h' a ob) :
  Inv X pins σ (upd H a ob) { s with heap:=h',toks:=t' } :=
 I.write (x:=a) (e:=a) mu (.inl rfl) (λb q hb z=>(hs.2 b hb).trans z) he new
theorem D6(z:kvs.length<=sizeLine)(hd:(a==sysModules)=false)(rel:KV kvs vs)(dd:h'.DictOf (aY P w) a vs) :
  bR P w H' h' a (.dK kvs):=⟨z,hd,vs,rel,dd⟩
theorem Cu(hu:A.units+1<cLine)(I:Inv X pins σ H s)(g:Jw H a y v H')(ry:RelV y u)(rv:RelV v r)(h:∀s',Inv X pins σ H' s'->Q () s') :
  wpAny (model X.prog X.w) A (setItem (.ref a) u r) Q E s:=by
 rcases g with ⟨kvs,k,e,ey,l,eH⟩|⟨kvs,k,b,e,ey,eb,l,eH⟩
 ·subst ey eH
  obtain⟨z,hd,vs,rel,dd⟩:=xg I.hok e;have hz:vs.length<=sizeLine:=by rw[<-rel.length];exact z
  have hl:(putK kvs k v).length<=sizeLine:=by have:=kU kvs k v;omega
  refine wpAny_setItem_pairs (hsz:=hz) (wZ ry) dd λh' Nc hs=>h _ ?_;have he:∃q,h'.get? a=some q:=let ⟨q,_,_,hq,_⟩:=Nc;⟨q,hq⟩
  exact vq I (by rw[e];exact True.intro) hs he (D6 hl hd (rel.put k rv) Nc)
 ·subst ey eH
  cases (show u=Value.ref b from ry);obtain⟨z,hd,xs,rel,dd⟩:=RQ I.hok e;have hz:xs.length<=sizeLine:=by rw[<-Paired.length rel];exact z
  have hl:(putK kvs k v).length<=sizeLine:=by have:=kU kvs k v;omega
  refine wpAny_setItem_heap (hsz:=hz) (tupleKind_room_in1 hu) (vp I.hok eb) dd λh' Nc hs=>h _ ?_;obtain⟨q,es,ep,hq,h2,h3,h4,_,h5⟩:=Nc;refine vq I (by rw[e];exact True.intro) hs ⟨q,hq⟩ ⟨hl,hd,_,(rel.put k eb rv).keeps λc ys ec=>?_,q,es,ep,hq,h2,h3,h4,h5⟩;rw[au (Q4 ec e (λz=>nomatch z))];exact ec
end
section
variable {X:Cx} {pins:List (Addr×Obj)} {σ:St} {H:Hp} {s:Shared} {a:Addr} {kvs:List (Key×V)} {k:Key} {u:Value} {A:Around} {E:Value->Shared->Prop}
theorem RS(I:Inv X pins σ H s)(e:Rd H a (.dK kvs))(h:∀t s',Inv X pins σ H s'->Q (.int kvs.length t) s'):wpAny (model X.prog X.w) A (call (.builtin "len") [.ref a]) Q E s:=by
 obtain⟨z,hd,vs,rel,dd⟩:=uq I.hok e;refine call_len_dict hd dd (by rw[<-rel.length];rw[sizeLine_eq]at z;omega) ?_;rw[<-rel.length];exact h _ _ (I.tok _)
end
theorem xj(I:Inv X pins σ H s)(g:pU H a y o):s.TypeIs (.ref a) "dict":=by
 rcases g with ⟨kvs,k,e,_,_⟩|⟨kvs,k,b,e,_,_,_⟩
 ·obtain⟨_,_,vs,_,dd⟩:=uq I.hok e;exact dd.typeIs
 ·obtain⟨_,_,xs,_,dd⟩:=xh I.hok e;exact dd.typeIs
theorem xm(h:Heap)(hb:sysModules<h.objs.size):bR P w H (h.push { cls:=.type "dict",data:=.dict #[] }) h.objs.size (.dK []) :=
 ⟨zero_le _,aaU.mpr (Ne.symm (aaA hb)),[],.nil,Heap.DictOf.new h⟩
def Nd:TE:=λ_ H Q=>∀p,H p=none->Q (.ref p) (upd H p (.dK []))
section
variable {X:Cx} {pos:Pos}
theorem D7:PE X (.Dict [] [] pos) Nd:=λpins s σ H Q I h=>
 wpAny_Dict_empty ⟨.ref s.heap.objs.size,_,I.laid (a:=s.heap.objs.size) (o:=.dK []) (t':=s.toks) (λ_ _ q=>aag _ q) (aao _) (xm s.heap I.big),rfl,h _ (I.hok.fresh (aao _))⟩
end
def zJ:List (TE×TE)->St->Hp->(List (V×V)->Hp->Prop)->Prop
 |[],_,H,Q=>Q [] H
 |(tk,tv)::r,σ,H,Q=>tk σ H λx H1=>tv σ H1 λy H2=>zJ r σ H2 λps H3=>Q ((x,y)::ps) H3
abbrev VV:List (V×V)->List (Value×Value)->Prop:=Paired λp q=>RelV p.1 q.1/\RelV p.2 q.2
def U8(X:Cx)(pos:Pos)(keys:List (Option Expr))(values:List Expr)(Nf:List (TE×TE)):Prop :=
 ∀(pins:List (Addr×Obj)) (s:Shared) (σ:St) (H:Hp) (Q:List (V×V)->Hp->Prop),Inv X pins σ H s->zJ Nf σ H Q ->
  wpAny (model X.prog X.w) X.A (evalPairs (pairTrees keys values X.env pos)) (λvs s'=>∃ps H',Inv X pins σ H' s'/\VV ps vs/\Q ps H') X.xe s
theorem Jx:U8 X pos [] [] []:=λpins s σ H Q I h=>pairTrees_nil_walk ⟨[],H,I,.nil,h⟩
theorem D8(hk:PE X k tk)(hv:PE X v tv)(hr:U8 X pos ks vs Nf) :
  U8 X pos (some k::ks) (v::vs) ((tk,tv)::Nf):=λpins s σ H Q I h=>
 pairTrees_cons_walk (cj (hk pins s σ H _ I h) λu s1 ⟨x,H1,I1,rx,q1⟩=>cj (hv pins s1 σ H1 _ I1 q1) λw2 s2 ⟨y,H2,I2,ry,q2⟩=>
  cj (hr pins s2 σ H2 _ I2 q2) λws s3 ⟨ps,H3,I3,rel,q3⟩=>⟨(x,y)::ps,H3,I3,.cons ⟨rx,ry⟩ rel,q3⟩)
def om(kvs more:List (Key×V)):List (Key×V):=more.foldl (λacc kv=>putK acc kv.1 kv.2) kvs
theorem KV.merge:∀{more:List (Key×V)} {rs:List (Key×Value)} {kvs:List (Key×V)} {vs:List (Key×Value)},KV more rs->KV kvs vs->KV (om kvs more) (merged vs rs):=by
 intro more rs kvs vs r;unfold KV at r
 induction r generalizing kvs vs with
 |nil=>intro q;exact q
 |@cons p q ps qs h t ih=>
  intro r0;have e:KV (putK kvs p.1 p.2) (stored vs q.1 q.2):=by have:=r0.put p.1 h.2;rw[<-h.1];exact this
  exact ih e
theorem mj:∀(more kvs:List (Key×V)),(om kvs more).length<=kvs.length+more.length
 |[],kvs=>by show kvs.length<=kvs.length+0;omega
 | p::r,kvs=>by
  have h1:=mj r (putK kvs p.1 p.2);have h2:=kU kvs p.1 p.2;show (om (putK kvs p.1 p.2) r).length<=_;rw[aaz];omega
theorem qI:∀{kvs:List (Key×V)} {ws:List (Value×Value)},VV (kvs.map λkv=>(kV kv.1,kv.2)) ws->∃rs,Carries (aY P w) ws rs/\KV kvs rs
 |[],_,r=>by rw[map_nil]at r;cases r;exact⟨[],True.intro,.nil⟩
 | p::kvs,_,r=>by
  rw[aap]at r;cases r with
  |@cons a b as bs h t=>obtain⟨rs,c,q⟩:=qI (P:=P) (w:=w) t;obtain⟨b1,b2⟩:=b;exact⟨(p.1,b2)::rs,⟨wZ h.1,rfl,c⟩,.cons ⟨rfl,h.2⟩ q⟩
def RT(Nf:List (TE×TE)):TE:=λσ H Q=>∀p,H p=none->zJ Nf σ (upd H p (.dK [])) λps H2=>H2 p=some (.dK [])/\∃kvs:List (Key×V),ps=kvs.map (λkv=>(kV kv.1,kv.2))/\kvs.length<=15/\Q (.ref p) (upd H2 p (.dK (om [] kvs)))
theorem Jy(h:U8 X pos keys values Nf)(hall:keys.all (·.isSome)=true)(hl:keys.length=values.length)(h0:keys≠[])
  (Zd:keys.length<=15):PE X (.Dict keys values pos) (RT Nf):=by
 intro pins s σ H Q I q;have hn:=I.hok.fresh (aao s.heap.objs.size);have I1:=I.laid (a:=s.heap.objs.size) (o:=.dK []) (h':=s.heap.push { cls:=.type "dict",data:=.dict #[] }) (t':=s.toks) (λ_ _ q=>aag _ q) (aao _) (xm s.heap I.big);refine wpAny_Dict_walk (knd:=aY X.prog X.w) hall hl h0 Zd (cj (h pins _ σ _ _ I1 (q _ hn)) λws s2 aI=>?_);obtain⟨ps,H2,I2,rel,e,kvs,ep,lk,q2⟩:=aI;subst ep;obtain⟨rs,c,rk⟩:=qI (P:=X.prog) (w:=X.w) rel;obtain⟨z,hd,vs0,r0,dd⟩:=xg I2.hok e;cases r0;refine⟨rs,c,dd,λh' Nc hs=>⟨.ref s.heap.objs.size,_,?_,rfl,q2⟩⟩;have hz:(om [] kvs).length<=sizeLine:=by have h1:=mj kvs [];rw[length_nil]at h1;rw[sizeLine_eq];omega
 have he:∃q,h'.get? s.heap.objs.size=some q:=let ⟨q,_,_,hq,_⟩:=Nc;⟨q,hq⟩
 exact vq I2 (by rw[e];exact True.intro) hs he (D6 hz hd (rk.merge .nil) Nc)
structure M2 (X:Cx) (o:Expr) (m:Str) (apos:Pos) (e f:Expr) (cpos:Pos):Prop where
 base:attributeBase o m X.env (eval o X.env)=eval o X.env
 few:((backTo cpos (starEach [e,f] X.env)).all (λx=>!x.1)&&(backToKw cpos (keywordEach [] X.env)).all (λx=>x.1.isSome)
  && decide (([e,f]:List Expr).length+([]:List Keyword).length+(if ([]:List Keyword).isEmpty then 0 else 1)<30))=true
 line:(apos.endLine==cpos.line)=true
 trees:backTo cpos (starEach [e,f] X.env)=[(false,eval e X.env),(false,eval f X.env)]
def Xv(H:Hp)(a:Addr):Prop:=(∃kvs,Rd H a (.dK kvs))\/∃kvs,Rd H a (.dT kvs)
theorem zK(I:Inv X pins σ H s)(d:Xv H a) :
  s.TypeIs (.ref a) "dict" /\ (∀b,Value.ref a=.ref b->∃ob,s.heap.get? b=some ob/\ob.dict=none)/\(a==sysModules)=false:=by
 rcases d with ⟨kvs,e⟩|⟨kvs,e⟩
 ·obtain⟨_,hd,vs,_,dd⟩:=uq I.hok e;refine⟨dd.typeIs,λb q=>?_,hd⟩;cases q;obtain⟨ob,_,_,h1,h2,_⟩:=dd;exact⟨ob,h1,h2.2.1⟩
 ·obtain⟨_,hd,xs,_,dd⟩:=xh I.hok e;refine⟨dd.typeIs,λb q=>?_,hd⟩;cases q;obtain⟨ob,_,_,h1,h2,_⟩:=dd;exact⟨ob,h1,h2.2.1⟩
section
variable {X:Cx} {pins:List (Addr×Obj)} {σ:St} {H:Hp} {s:Shared} {a:Addr} {y d:V} {u r:Value} {o:Option V} {A:Around} {E:Value->Shared->Prop}
theorem Ng(hu:A.units+1<cLine)(I:Inv X pins σ H s)(g:pU H a y o)(ry:RelV y u)(rd:RelV d r)(h:∀w' s',Inv X pins σ H s'->RelV (o.getD d) w'->Q w' s') :
  wpAny (model X.prog X.w) A (call (.builtin "dict.get") [.ref a,u,r]) Q E s:=by
 rcases g with ⟨kvs,k,e,ey,l⟩|⟨kvs,k,b,e,ey,eb,l⟩
 ·subst ey;obtain⟨z,hd,vs,rel,dd⟩:=uq I.hok e;refine call_meetsIn PySem.F.slot_dict_get dd.typeIs PySem.F.entry_dict_get (PySem.F.args_dict_get_3 _ _ _) (meets_dict_get_default (aY X.prog X.w) a (wZ ry) hd r) ⟨_,dd.mapOf,h _ _ (I.tok _) ?_⟩;rw[l];exact(rel.val k).getD rd
 ·subst ey;cases (show u=Value.ref b from ry);obtain⟨z,hd,xs,rel,dd⟩:=xh I.hok e;refine call_meetsIn PySem.F.slot_dict_get dd.typeIs PySem.F.entry_dict_get (PySem.F.args_dict_get_3 _ _ _) (meetsH_dict_get_default (tupleKind (aY X.prog X.w)) a b hd r) ⟨tupleKind_room_in1 hu,k,xs,vp I.hok eb,dd,h _ _ (I.tok _) ?_⟩;rw[l];exact(rel.val k).getD rd
end
def Nh(td ty tx:TE):TE:=λσ H Q=>td σ H λx H1=>∃a,x=.ref a/\Xv H1 a/\ty σ H1 λy H2=>tx σ H2 λz H3=>∃o,pU H3 a y o/\Q (o.getD z) H3
section
variable {X:Cx} {o e f:Expr} {apos cpos:Pos} {td ty tx:TE}
theorem D9(hu:X.A.units+1<cLine)(ho:PE X o td)(he:PE X e ty)(hf:PE X f tx)(m:M2 X o "get" apos e f cpos):PE X (.Call (.Attribute o "get" apos) [e,f] [] cpos) (Nh td ty tx):=by
 intro pins s σ H Q I h;refine wpAny_Call_method m.base m.few m.line PySem.F.plainAttrs_dict PySem.F.slot_dict_get PySem.F.type_dict_get (cj (ho pins s σ H _ I h) λu s1 aI=>?_);obtain⟨x,H1,I1,rx,a,ex,d,q1⟩:=aI;subst ex;obtain rfl:u=Value.ref a:=rx;obtain⟨t1,t2,_⟩:=zK I1 d;refine⟨t1,t2,?_⟩;rw[m.trees];refine Calls.callWith_builtin rfl (Calls.evalArgs_plain (Calls.spliced_cons (cj (he pins s1 σ H1 _ I1 q1) λiv s2 ⟨y,H2,I2,ry,q2⟩=>
  Calls.spliced_cons (cj (hf pins s2 σ H2 _ I2 q2) λfv s3 ⟨z,H3,I3,rz,ov,g,q3⟩=>Calls.spliced_nil ?_))))
 exact Ng hu I3 g ry rz λw' s4 I4 rw'=>⟨_,H3,I4,rw',q3⟩
end
end L2
namespace Xw
open PySem PySem.W PySem.Calls PyProof.Rows
theorem pV:∀(ns:List Int) (vs:List Value),WellAll P h vs (ns.map WData.int)->IntsAre vs ns:=by
 intro ns
 induction ns with
 |nil=>intro vs w;rw[map_nil]at w;cases w;exact .nil
 |cons n ns ih=>
  intro vs w;rw[aap]at w;cases w with
  |cons a b=>cases a;exact .cons _ _ (ih _ b)
theorem Cv{l:OpenLaw}{n:Nat}(hn:l.most=some n){P:Params}{h:Heap}{args:List WData}{vals:List Value}
  (hpre:l.row.toRowW.claim.pre args=true) (hwl:WellAll P h vals args) :
  ∃a vs ns,vals=[Value.ref a]/\args=[WData.list (ns.map WData.int)]/\h.get? a=some { cls:=.type "list",data:=.seq vs.toArray }/\IntsAre vs ns/\ns.length<=n:=by
 have hsh:WShape.hasAll [] args [.list .int]=true:=(pre_splitW hpre).1;have hc:l.pre.holds [] { args:=args }=true:=(pre_splitW hpre).2;obtain⟨d,r,rfl,h1,h2⟩:=hasAllW_cons hsh;obtain rfl:=hasAllW_nil h2;obtain⟨xs,rfl,h3⟩:=hasW_list h1;obtain⟨ns,rfl⟩:=items_int h3;have hlen:ns.length<=n:=by
  unfold OpenLaw.pre at hc;have h4:(WTm.not (.lt (.lit (.int (n:Int))) (.len (.arg 0)))).holds [] { args:=[.list (ns.map .int)] }=true:=by have h4:=(holds_andW hc).1;rw[hn]at h4;exact h4
  have h5:=condW_of h4 (w_not (w_lt w_lit (w_len_list (w_arg rfl))));rw[aah]at h5;refine Nat.le_of_not_lt λq=>?_;have q':(n:Int)<((ns.length:Nat):Int):=by omega
  first
   |(rw[decide_eq_true q']at h5;exact absurd h5 (by decide))
   |(simp at h5;omega)
 cases hwl with
 |cons w1 w2=>
  cases w2;cases w1 with
  |list ho hall=>exact⟨_,_,ns,rfl,rfl,ho,pV ns _ hall,hlen⟩
theorem Cw(l:OpenLaw)(args:List WData):l.row.toRowW.claim.post args (.bool true) args=true :=
 postW_of (r:=l.row.toRowW) (X:=(true==true))
  (show WShape.has [] (.bool true) .bool=true by first|rfl|decide|simp[WShape.has,WShape.arms,WShape.armsAll])
  (show (WTm.eq .res (.lit (.bool true))).value [] { args:=args,res:=some (.bool true),after:=args }=some (.bool (true==true)) from w_eq_bool (w_res rfl) w_lit) rfl
theorem xq{l:OpenLaw}{n:Nat}{q:Program}{loose:List Str}{XP:(Str->Option Value)->Heap->Prop}{YP:World->Heap->Prop}{d:DefRec}
  (hn:l.most=some n) (hdf:d.params.defaults=[])
  (call:∀(w:World) (s₀ s₁:Shared) (mg mb:Str->Option Value) (fa:Addr) (o:Obj) (pm cd doc:Value) (a:Addr) (vs:List Value) (ns:List Int),
   Ground q loose [] XP w s₀ mg mb s₁.heap->YP w s₁.heap ->
   s₁.heap.get? fa=some o->o.data=.func (docDef d.name d.params d.body d.scope pm cd doc)->s₁.heap.CodeRec cd d.name->mg d.name=some (.ref fa) ->
   s₁.heap.get? a=some { cls:=.type "list",data:=.seq vs.toArray }->IntsAre vs ns->ns.length<=n->s₁.gens = #[] ->
   codeAny (model l.prog w) callerA (.call (.ref fa) ⟨[.ref a],[]⟩) (λr s'=>r=.ok (.ret (.bool true))/\OldK s₁.heap s'.heap/\s'.os=s₁.os/\AllBare s'.gens) s₁) :
  WalkO q loose XP YP l.row.toRowW d [] (λf vs=>PySem.call f vs):=by
 intro w s₀ s₁ mg mb G Y fa o pm cd doc dV kV ho hd hcd hD hmg hg args vals as hpre hlay hrd hwl hlo;obtain rfl:dV=.none:=Dflts.none hD hdf;obtain rfl:kV=.none:=Dflts.noKw hD;obtain⟨a,vs,ns,rfl,rfl,hobj,hints,hlen⟩:=Cv hn hpre hwl;refine enter_call (codeAny_mono (call w s₀ s₁ mg mb fa o pm cd doc a vs ns G Y ho (fd_plain hd) hcd hmg hobj hints hlen hg) λr s' hq=>?_);obtain⟨rfl,h2,h3,h4⟩:=hq;exact⟨.inl ⟨.bool true,.bool true,[],rfl,λ_=>rfl,.bool true,Cw l _,λ_=>⟨List.Pairwise.nil,λ_ hm=>(nomatch hm)⟩⟩,h2,h3,h4⟩
end Xw
namespace L2
open PySem PySem.Spec PyProof.Rows
theorem jH:∀{vs:List Value} {ns:List Int},IntsAre vs ns->Vals (ns.map V.int) vs
 |_,_,.nil=>.nil
 |_,_,.cons n t h=>.cons ⟨t,rfl⟩ (jH h)
def Ea(H:Hp):Prop:=∀b,H b=none\/∃o xs,H b=some (.kI o (.lst xs))
theorem Eb{P:Program}{w:World}{K:Frag}{mg mb:Str->Option Value}{CX:Cp}{k:Nat}{fa a:Addr}{fd:FuncData}{x:Str}{sp:Sp}{s₁:Shared}{vs:List Value}{ns:List Int}
  (KX:K.In s₁.heap) (hns:s₁.heap.Ns mainGlobals mg) (hb:s₁.heap.Ns builtinsNs mb) (Ze:∀x:Str,x ≠ "__name__" -> mb x=bootBuiltins x) (hlim:s₁.heap.NoLimit) (hg:s₁.gens = #[])
  (ha:s₁.heap.get? a=some { cls:=.type "list",data:=.seq vs.toArray }) (hi:IntsAre vs ns) (hl:ns.length<=sizeLine) (hr:dw k callerA)
  (F:∀base:Heap,K.In base->base.Ns mainGlobals mg->fW P w K mg base CX k fa fd [x] sp) (hbind:∀(s:Shared) (u:Value),BindsTo s fd ⟨[u],[]⟩ [(x,u)])
  (hsp:∀H:Hp,Ea H->iu K H a (ns.map V.int)->sp [.ref a] H (λv _=>v=.bl true) λ_ _ _=>False)
  (hCX:∀H e s',CX [] H s₁ (λ_ _ _=>False) e s'->False) :
  codeAny (model P w) callerA (.call (.ref fa) ⟨[.ref a],[]⟩) (λr s'=>r=.ok (.ret (.bool true))/\OldK s₁.heap s'.heap/\s'.os=s₁.os/\AllBare s'.gens) s₁:=by
 have rv:=jH hi;have V9:=hi.length;have core:∀H:Hp,Ea H->iu K H a (ns.map V.int)->mG P w H s₁.heap->(∀b,H b≠none->b=a)->(H a≠none->K.lookup a=none) ->
   codeAny (model P w) callerA (.call (.ref fa) ⟨[.ref a],[]⟩) (λr s'=>r=.ok (.ret (.bool true))/\OldK s₁.heap s'.heap/\s'.os=s₁.os/\AllBare s'.gens) s₁:=by
  intro H hO hS hok hA hK;have base_of:∀{b:Addr} {o:Obj},s₁.heap.get? b=some o->H b=none->(u7 s₁.heap H).get? b=some o:=λe n=>DC e n;have noA:∀{b:Addr} {o:Obj} {es:Array DictEntry} {ep:Nat},s₁.heap.get? b=some o->o.data=.dict es ep->H b=none:=λ{b o es ep} e d=>by
   cases q:H b with
   |none=>rfl
   |some u=>have e':b=a:=hA b (by rw[q];simp);subst e';rw[ha]at e;cases e;have d':Data.seq vs.toArray _=Data.dict es ep:=d;cases d'
  have nsK:∀{b:Addr} {m:Str->Option Value},s₁.heap.Ns b m->(u7 s₁.heap H).Ns b m:=λ{b m} ⟨o,es,ep,e,d,r⟩=>⟨o,es,ep,base_of e (noA e d),d,r⟩;have Xx:K.In (u7 s₁.heap H):=λb o e=>base_of (KX b o e) (by
   cases q:H b with
   |none=>rfl
   |some u=>have e':b=a:=hA b (by rw[q];simp);subst e';rw[hK (by rw[q];simp)]at e;cases e)
  have hM:Mod K mg (u7 s₁.heap H):=⟨Xx,nsK hns,⟨mb,nsK hb,Ze⟩,let ⟨mc,h1,h2⟩:=hlim;⟨mc,nsK h1,h2⟩⟩;have e0:zB P w K mg (u7 s₁.heap H) callerA [] s₁ H:=⟨rfl,hM,λb o e=>IK e,Nat.le_of_eq (Cd _ _),trivial,λb hb=>absurd (show b∈([]:List Addr) from hb) (by simp),hok,.of_eq hg⟩;refine codeAny_mono ((F _ Xx (nsK hns)).run callerA [] s₁ H ⟨[.ref a],[]⟩ [.ref a] [.ref a] _ _ hr e0 (hbind s₁ (.ref a)) #[rfl] (hsp H hO hS)) λr s' h=>?_;cases r with
  |error e=>exact(hCX H e s' h).elim
  |ok fl=>
   cases fl with
   |next=>exact False.elim h
   |brk=>exact False.elim h
   |cont=>exact False.elim h
   |ret u=>
    obtain⟨v,H',os,bare,un,Wa,r',q⟩:=h;have q':v=.bl true:=q;subst q';obtain rfl:u=Value.bool true:=r';refine⟨rfl,OldK.of_keep λb o e=>?_,os,bare⟩;cases q:H b with
    |none=>exact un.keep b o e q (by intro z;exact absurd (show b∈([]:List Addr) from z) (by simp)) (by simp)
    |some u=>
     rcases hO b with z|⟨ob,xs,z⟩
     ·rw[q]at z;cases z
     ·have z2:=un.frzs b ob _ z;obtain⟨e1,_⟩:=hok b _ z;obtain⟨e2,_⟩:=Wa b _ z2;rw[e]at e1;cases e1;exact e2
 cases hk:K.lookup a with
 |some o=>have e:=KX a o hk;rw[ha]at e;cases e;refine core (λ_=>none) (λ_=>.inl rfl) (.inr ⟨_,vs.toArray,_,hk,rfl,rfl,rfl,by rw[aaq,V9];exact hl,by simpa using rv⟩) (λb u z=>by have z':(none:Option HO)=some u:=z;cases z') (λb z=>absurd rfl z) λz=>absurd rfl z
 |none=>
  refine core (λb=>if b=a then some (.kI { cls:=.type "list",data:=.seq vs.toArray } (.lst (ns.map V.int))) else none) (λb=>?_) (.inl (.inr ⟨{ cls:=.type "list",data:=.seq vs.toArray },aai rfl⟩)) (λb u z=>?_) (λb z=>?_) λ_=>hk
  ·by_cases hb:b=a
   ·exact .inr ⟨_,_,aai hb⟩
   ·exact .inl (aal hb)
  ·by_cases hb:b=a
   ·have z':=(aai hb).symm.trans z;cases z';subst hb;exact⟨ha,by rw[aah];exact hl,vs,_,rv,ha⟩
   ·have z':=(aal hb).symm.trans z;cases z'
  ·by_cases hb:b=a
   ·exact hb
   ·exact absurd (aal hb) z
theorem Jz{l:PySem.W.OpenLaw}{n k:Nat}{q:Program}{loose:List Str}{XP:(Str->Option Value)->Heap->Prop}{YP:World->Heap->Prop}{d:DefRec}{K:Params->Frag}{CX:World->Cp}{sp:World->Sp}{x:Str}
  (hn:l.most=some n) (hn2:n<=sizeLine) (hdf:d.params.defaults=[]) (hr:dw k callerA)
  (hY:∀(w:World) (h:Heap),YP w h->(K w.params).In h)
  (F:∀(w:World) (mg:Str->Option Value) (fa:Addr) (h:Heap),(K w.params).In h->h.Ns mainGlobals mg->mg d.name=some (.ref fa) ->
   ∃fd:FuncData,(∀(s:Shared) (u:Value),BindsTo s fd ⟨[u],[]⟩ [(x,u)]) /\
    ∀base:Heap,(K w.params).In base->base.Ns mainGlobals mg->fW l.prog w (K w.params) mg base (CX w) k fa fd [x] (sp w))
  (hsp:∀(w:World) (H:Hp) (a:Addr) (ns:List Int),ns.length<=n->Ea H->iu (K w.params) H a (ns.map V.int)->sp w [.ref a] H (λv _=>v=.bl true) λ_ _ _=>False)
  (hCX:∀(w:World) (H:Hp) (s:Shared) (e:Value) (s':Shared),CX w [] H s (λ_ _ _=>False) e s'->False) :
  PySem.W.WalkO q loose XP YP l.row.toRowW d [] (λf vs=>PySem.call f vs):=by
 refine Xw.xq hn hdf λw s₀ s₁ mg mb fa o pm cd doc a vs ns G Y ho hd hcd hmg hobj hints hlen hg=>?_;have KX:=hY w _ Y;obtain⟨fd,hb,hF⟩:=F w mg fa _ KX G.T.g hmg;exact Eb KX G.T.g G.T.b G.T.builtins G.T.nolimit hg hobj hints (aaM hlen hn2) hr hF hb (λH hO hS=>hsp w H a ns hlen hO hS) λH e s'=>hCX w H s₁ e s'
def ng(s:Stmt):Arguments:=match s with
 |.FunctionDef _ a _ _ _ _ _ _ _ _=>a
 |_=>{ posonlyargs:=[],args:=[],vararg:=none,kwonlyargs:=[],kw_defaults:=[],kwarg:=none,defaults:=[] }
def aA(s:Stmt):List Stmt:=match s with
 |.FunctionDef _ _ b _ _ _ _ _ _ _=>b
 |_=>[]
def af(s:Stmt):Scope:=match s with
 |.FunctionDef _ _ _ _ _ _ sc _ _ _=>sc
 |_=>{ kind:=.function,names:=[],isGenerator:=false,isCoroutine:=false }
abbrev zd:Cp:=λ_ _ _ _ _ _=>False
abbrev E0:XK:=λ_ _ _=>False
theorem qJ:Passes zd X E0:=λ_ _ _ _ _ _ _ h=>h.elim
structure Ip (K:Frag) (x qual:Str) (st:Stmt) (f:Addr) (fd:FuncData):Prop where
 ex:∃(oc:Value) (od:Option Addr) (kV doc pm:Value) (an:Option Addr) (cdv ct:Value) (osl:Array (Option Value)),
  fd=fnOf x qual (ng st) (aA st) (af st) .none kV doc pm an cdv ct/\K.lookup f=some ⟨oc,od,.func fd,osl⟩/\codeIn K cdv qual=true
 kp:keepIn K (.ref f)=true
section
variable {P:Program} {w:World} {K:Frag} {mg:Str->Option Value} {base:Heap}
theorem Ip.ok{x qual:Str}{st:Stmt}{f:Addr}{fd:FuncData}{N ps:List Str}{k:Nat}{sp:Sp}(F:Ip K x qual st f fd)(S:qd N ps (af st))(len:∀vs H Q E,sp vs H Q E->vs.length=ps.length)
  (hbody:∀(cdv:Value) (A:Around) (outer:List Env) (s:Shared) (H:Hp) (vs:List V) (Q:VK) (E:XK),dw k (A.deeper (envOfC qual (af st) s.heap.objs.size f cdv))->sp vs H Q E ->
   ∃t,zc (zC zd P w K mg base N qual (af st) f cdv A outer s H E).Rj (aA st) t/\t { nx:=λ_ H'=>Q .non H',rt:=Q } (start N vs) H):fW P w K mg base zd (k+1) f fd ps sp:=by
 obtain⟨oc,od,kV,doc,pm,an,cdv,ct,osl,rfl,lk,hcd⟩:=F.ex;refine RI lk hcd S len λA outer s H vs Q E hr hsp=>?_;obtain⟨t,h,q⟩:=hbody cdv A outer s H vs Q E hr hsp;exact⟨t,h.Rj,q⟩
theorem Ip.binds{x qual:Str}{st:Stmt}{f:Addr}{fd:FuncData}{ps:List Str}(F:Ip K x qual st f fd)
  (h:∀(kV doc pm:Value) (an:Option Addr) (cdv ct:Value) (us:List Value),us.length=ps.length->bindArgs (fnOf x qual (ng st) (aA st) (af st) .none kV doc pm an cdv ct) ⟨us,[]⟩=pure (ps.zip us)):Binds K fd ps []:=by
 obtain⟨oc,od,kV,doc,pm,an,cdv,ct,osl,rfl,lk,hcd⟩:=F.ex;exact .all (h kV doc pm an cdv ct)
theorem fun_mk{x qual:Str}{st:Stmt}{f:Addr}{oc:Value}{od an:Option Addr}{osl:Array (Option Value)}{kV doc pm cdv ct:Value}(l:K.lookup f=some ⟨oc,od,.func (fnOf x qual (ng st) (aA st) (af st) .none kV doc pm an cdv ct),osl⟩)
  (c:codeIn K cdv qual=true) (k:keepIn K (.ref f)=true):Ip K x qual st f (fnOf x qual (ng st) (aA st) (af st) .none kV doc pm an cdv ct):=⟨⟨oc,od,kV,doc,pm,an,cdv,ct,osl,rfl,l,c⟩,k⟩
end
section
variable {X:Cx}
theorem Cy:cZ X (.builtin "len") (λxs H Q=>∃a kvs,xs=[V.ref a]/\H a=some (.dK kvs)/\Q (.int kvs.length) H):=by
 intro pins s σ H xs us Q I r h;obtain⟨a,kvs,rfl,ha,q⟩:=h;obtain⟨u,rfl,ru⟩:=vals1 r;cases ru;exact RS I (.inl ha) λt s' I'=>⟨.int kvs.length,H,I',⟨t,rfl⟩,q⟩
end
def zL(H H':Hp):Prop:=∀b o,H b=some o->H' b=some o
theorem zL.seq{K:Frag}{H H':Hp}{a:Addr}{xs:List V}(e:zL H H')(h:iu K H a xs):iu K H' a xs:=by
 rcases h with (h|⟨o,h⟩)|h
 ·exact .inl (.inl (e _ _ h))
 ·exact .inl (.inr ⟨o,e _ _ h⟩)
 ·exact .inr h
section
variable {κ:Type} [DecidableEq κ]
theorem ja:∀{l:List κ} {k:κ},l.Nodup->¬ k∈l->(l++[k]).Nodup
 |[],k,_,_=>by simp
 | a::r,k,h,hk=>by
  obtain⟨h1,h2⟩:=aaP.mp h;show (a::(r++[k])).Nodup;refine aaP.mpr ⟨λm=>?_,ja h2 λm=>hk (aaG.mpr (Or.inr m))⟩
  rcases aaL.mp m with q|q
  ·exact h1 q
  ·exact hk (aaG.mpr (Or.inl (aau.mp q).symm))
end
theorem mK(env:Env):∀(names:List (Str×NameKind)) (acc:List (Str×Addr)),(∀y∈names,y.2=.free->∃c,env.cells.lookup y.1=some c) ->
  (∀x c,acc.lookup x=some c->env.cells.lookup x=some c) ->
  ∃cl,(forIn names acc λx r=>if (x.snd==NameKind.free)=true then do let c <-cellOf env x.fst;pure (ForInStep.yield ((x.fst,c)::r)) else pure (ForInStep.yield r))=(pure cl:Sem (List (Str×Addr))) /\
   (∀x c,cl.lookup x=some c->env.cells.lookup x=some c)/\∀x,((x,NameKind.free)∈names\/∃c,acc.lookup x=some c)->∃c,cl.lookup x=some c
 |[],acc,_,ha=>⟨acc,rfl,ha,λx h=>h.elim (λz=>nomatch z) λz=>z⟩
 | (n,k)::r,acc,hn,ha=>by
  have hr:∀y∈r,y.2=NameKind.free->∃c,env.cells.lookup y.1=some c:=λy hy=>hn y (aam _ hy)
  by_cases hk:k=.free
  ·subst hk
   obtain⟨c,hc⟩:=hn (n,.free) aan rfl;have ha':∀x d,((n,c)::acc).lookup x=some d->env.cells.lookup x=some d:=λx d h=>by
    rw[aaR]at h;cases e:x==n with
    |true=>rw[e]at h;have e':x=n:=eq_of_beq e;cases h;rw[e'];exact hc
    |false=>rw[e]at h;exact ha x d h
   obtain⟨cl,e1,e2,e3⟩:=mK env r ((n,c)::acc) hr ha';refine⟨cl,?_,e2,λx h=>?_⟩
   ·rw[List.forIn_cons]
    have hco:cellOf env n=pure c:=by unfold cellOf;rw[hc]
    simp only[beq_self_eq_true,if_true,hco];exact e1
   ·by_cases hx:x=n
    ·subst hx;exact e3 x (.inr ⟨c,by simp[lookup_cons]⟩)
    ·rcases h with h|⟨d,h⟩
     ·rcases aaG.mp h with z|z
      ·exact absurd (congrArg Prod.fst z) hx
      ·exact e3 x (.inl z)
     ·refine e3 x (.inr ⟨d,?_⟩);rw[aaR];have:(x==n)=false:=aaU.mpr hx;rw[this];exact h
  ·have hb:(k==NameKind.free)=false:=aaU.mpr hk
   obtain⟨cl,e1,e2,e3⟩:=mK env r acc hr ha;refine⟨cl,?_,e2,λx h=>e3 x ?_⟩
   ·rw[List.forIn_cons];simp only[hb,false_eq_true,if_false];exact e1
   ·rcases h with h|h
    ·rcases aaG.mp h with z|z
     ·cases z;exact absurd rfl hk
     ·exact .inl z
    ·exact .inr h
theorem qK(h:∀y∈scope.names,y.2=.free->∃c,env.cells.lookup y.1=some c) :
  ∃cl,closureFor scope env=pure cl/\(∀x c,cl.lookup x=some c->env.cells.lookup x=some c)/\∀x,(x,NameKind.free)∈scope.names->∃c,cl.lookup x=some c:=by
 obtain⟨cl,e1,e2,e3⟩:=mK env scope.names [] h (λx c z=>by simp at z);refine⟨cl,?_,e2,λx hx=>e3 x (.inl hx)⟩;unfold closureFor;simp only[bind_pure];exact e1
def bE(X:Cx)(scope:Scope)(N':List Str)(cl:List (Str×Addr))(C:Addr)(s:Shared)(H:Hp)(fp:List Addr):Cx :=
 { prog:=X.prog,w:=X.w,K:=X.K,mg:=X.mg,base:=X.base,A:=X.A,N:=N',s₀:=s,H₀:=H,env:=compEnvC scope cl C X.env,outer:=X.stack,stack:=X.stack,ex:=fp,fn:=λ_=>false,calm:=X.calm,pn:=[],xe:=λ_ _=>False }
def iC(js:List (Option Nat))(σ:St):St:=js.map λo=>match o with
 |none=>none
 | some j=>match σ[j]? with
  |some (some v)=>some v
  |_=>none
def vv(sc:Scope)(x:Str):Bool:=sc.names.lookup x==some .cell||sc.names.lookup x==some .free
def gW(XN:List Str)(xsc scope:Scope)(N':List Str)(js:List (Option Nat)):Bool :=
 scope.kind==.function&&(scope.names.all λy=>y.2 != .local||scope.names.lookup y.1==some .local)&&(scope.names.all λy=>y.2 != .cell) &&
 (scope.names.all λy=>y.2 != .free||(vv xsc y.1&&scope.names.lookup y.1==some .free))&&js.length==N'.length &&
 ((N'.zip js).all λp=>match p.2 with|none=>true|some j=>XN[j]?==some p.1&&scope.names.lookup p.1==some .free)
structure vz (X:Cx) (scope:Scope) (N':List Str) (js:List (Option Nat)):Prop where
 kind:scope.kind=.function
 names:∀y∈scope.names,y.2=.local->scope.names.lookup y.1=some .local
 Ec:∀y∈scope.names,y.2≠.cell
 free:∀y∈scope.names,y.2=.free->vv X.env.scope y.1=true/\scope.names.lookup y.1=some .free
 len:js.length=N'.length
 src:∀(i:Nat) (x:Str) (j:Nat),N'[i]?=some x->js[i]?=some (some j)->X.N[j]?=some x/\scope.names.lookup x=some .free
theorem ur(h:gW X.N X.env.scope scope N' js=true):vz X scope N' js:=by
 unfold gW at h;simp only[and_eq_true,all_eq_true]at h;obtain⟨⟨⟨⟨⟨h1,h2⟩,h3⟩,h4⟩,h5⟩,h6⟩:=h;refine⟨eq_of_beq h1,λy hy e=>?_,λy hy e=>?_,λy hy e=>?_,eq_of_beq h5,λi x j e1 e2=>?_⟩
 ·have:=h2 y hy;rw[e]at this;simpa using this
 ·have:=h3 y hy;rw[e]at this;simp at this
 ·have:=h4 y hy;rw[e]at this;simpa using this
 ·have hm:(x,some j)∈N'.zip js:=by
   refine List.mem_iff_getElem?.mpr ⟨i,?_⟩;rw[List.getElem?_zip_eq_some];exact⟨e1,e2⟩
  have:=h6 _ hm;simpa using this
theorem jn(js:List (Option Nat))(σ:St):(iC js σ).length=js.length:=by unfold iC;rw[aah]
def Iq(X:Cx)(ifs:List Expr)(t:TT):Prop :=
 ∀(pins:List (Addr×Obj)) (s:Shared) (σ:St) (H:Hp) (Q:Bool->Hp->Prop),Inv X pins σ H s->t σ H Q ->
  wpAny (model X.prog X.w) X.A (forIn ifs true λc r=>if r=true then do let ok <-isTrue c X.env (eval c X.env);pure (ForInStep.yield ok) else pure (ForInStep.yield r)) (TP X pins σ Q) X.xe s
def xr:TT:=λ_ H Q=>Q true H
theorem JA:Iq X [] xr:=λ_ _ _ H _ I h=>wpAny_tests_nil ⟨H,I,h⟩
theorem AN(h:PT X c t):Iq X [c] t:=λpins s σ H Q I hw=>wpAny_tests_one (h pins s σ H Q I hw)
def xu(wi:TI)(js:List (Option Nat))(g:TG)(tt:TT)(te:TE):TE:=λσ H Q=>wi σ H λJ H1=>∀D,H1 D=none->∃W:Nat->Nat->St->Hp->Prop,(∃m,W 0 m (iC js σ) (upd H1 D (.lst []))) /\
 ∀i m σ' H,W i m σ' H->(J.stop i H/\Q (.ref D) H)\/(J.go i H/\∃N:St->Hp->Prop,(∀AO H',N AO H'->∃m',m'<m/\W (i+1) m' AO H') /\
  ∀x H',J.zl i H x H'->g x σ' H' λσ2 H2=>tt σ2 H2 λb H3=>if b=true then te σ2 H3 λy H4=>∃ys,H4 D=some (.lst ys)/\ys.length<sizeLine/\N σ2 (upd H4 D (.lst (ys++[y]))) else N σ2 H3)
theorem tH(hc:∀y∈scope.names,y.2≠.cell)
  (h:(relabel scope env).names.lookup x=some .cell\/(relabel scope env).names.lookup x=some .free):(x,NameKind.free)∈scope.names:=by
 unfold relabel at h;simp only at h;generalize scope.names=ns at hc h
 induction ns with
 |nil=>simp at h
 |cons p r ih=>
  obtain⟨n,k⟩:=p;have hc':∀y∈r,y.2≠.cell:=λy hy=>hc y (aam _ hy);simp only[map_cons]at h;cases hx:x==n with
  |true=>
   have e':x=n:=eq_of_beq hx;subst e'
   by_cases hk:k=.free
   ·subst hk;exact aan
   ·have hk2:=hc (x,k) aan
    have hb:(k==NameKind.free)=false:=aaU.mpr hk;rw[hb]at h;simp only[Bool.false_and,false_eq_true,if_false,lookup_cons,beq_self_eq_true]at h
    rcases h with h|h
    ·exact absurd (aaH h) hk2
    ·exact absurd (aaH h) hk
  |false=>
   refine aam _ (ih hc' ?_)
   by_cases hk:(k==NameKind.free&&env.scope.kind==.function&&env.kindOf n==some .cell)=true
   ·rw[aai hk]at h;simp only[lookup_cons,hx]at h;exact h
   ·rw[aal hk]at h;simp only[lookup_cons,hx]at h;exact h
theorem vA(h:scope.names.lookup x=some .free) :
  (relabel scope env).names.lookup x=some .cell\/(relabel scope env).names.lookup x=some .free:=by
 unfold relabel;simp only;generalize scope.names=ns at h
 induction ns with
 |nil=>simp at h
 |cons p r ih=>
  obtain⟨n,k⟩:=p;simp only[map_cons];cases hx:x==n with
  |true=>
   simp only[lookup_cons,hx]at h;have hk:=aaH h;subst hk
   by_cases hk:(NameKind.free==NameKind.free&&env.scope.kind==.function&&env.kindOf n==some .cell)=true
   ·rw[aai hk];simp[lookup_cons,hx]
   ·rw[aal hk];simp[lookup_cons,hx]
  |false=>
   simp only[lookup_cons,hx]at h
   by_cases hk:(k==NameKind.free&&env.scope.kind==.function&&env.kindOf n==some .cell)=true
   ·rw[aai hk];simp only[lookup_cons,hx];exact ih h
   ·rw[aal hk];simp only[lookup_cons,hx];exact ih h
section
variable {X:Cx} {pins:List (Addr×Obj)} {σ:St} {scope:Scope} {N':List Str} {js:List (Option Nat)}
theorem qL(ok:vz X scope N' js)(xo:X.Ok):∀y∈scope.names,y.2=.free->∃c,X.env.cells.lookup y.1=some c:=λy hy e=>by
 have:=(ok.free y hy e).1;unfold vv at this;rw[or_eq_true]at this;refine xo.has y.1 ?_
 rcases this with z|z
 ·exact .inl (eq_of_beq z)
 ·exact .inr (eq_of_beq z)
theorem zM{tk:Nat}(ok:vz X scope N' js)(I:Inv X pins σ H s)
  (hcl1:∀x c,cl.lookup x=some c->X.env.cells.lookup x=some c) (hcl2:∀x,(x,NameKind.free)∈scope.names->∃c,cl.lookup x=some c)
  (hfp:∀b∈fp,pT X pins H b) (hlt:∀b∈fp,b<s.heap.objs.size)
  (hns:h'.Ns s.heap.objs.size (λ_=>none)) (hk:∀b o,s.heap.get? b=some o->h'.get? b=some o) :
  Inv (bE X scope N' cl s.heap.objs.size s H fp) [] (iC js σ) H { s with heap:=h',toks:=tk }:=by
 have cellK:∀x c,cl.lookup x=some c->∃v,s.heap.IsCell c v:=λx c e=>I.cell x c (hcl1 x c e);have hCf:H s.heap.objs.size=none:=I.hok.fresh (aao _);refine⟨⟨I.ok.mod,ok.kind,I.ok.glob,I.ok.blt,aao _,λx y c e1 e2=>I.ok.inj x y c (hcl1 x c e1) (hcl1 y c e2),λx hx=>hcl2 x (tH ok.Ec hx),λx c hf _=>absurd hf (by intro z;cases z),I.ok.hd,I.ok.frames,.inl rfl,
   λb hb=>⟨aaA (hlt b hb),λx c e z=>?_⟩,I.bs,aaM I.ok.Ly I.sz,λb o e hb=>?_,λb hb hs=>?_,I.stack,I.AA⟩,rfl,I.bare,Un.kept hk,⟨_,hns,λi x v e1 e2 e3=>?_⟩,λx c e=>?_,hCf,λx c e=>I.iZ x c (hcl1 x c e),
   λp hp=>absurd (show p∈([]:List (Addr×Obj)) from hp) (by simp),I.hok.kept hk,?_⟩
 ·exact(hfp b hb).2.2.2.2.1 x c (hcl1 x c e) z
 ·rcases(hfp b hb).2.2.2.1 with z|z
  ·exact I.ok.mH b o e z
  ·exact absurd (aas (aar (I.ok.bs b o e).1) z) (lt_irrefl _)
 ·rcases aaG.mp (I.zj b hs) with z|z
  ·exact(hfp b hb).2.1 z
  ·exact(hfp b hb).2.2.1 z
 ·-- a name Zf has a value: one of the def around
  have Ir:(iC js σ)[i]?=some (some v):=e2;unfold iC at Ir;rw[aaD] at Ir;cases hj:js[i]? with
  |none=>rw[hj] at Ir;cases Ir
  |some o=>
   rw[hj] at Ir;cases o with
   |none=>simp at Ir
   |some j=>
    obtain⟨hN,hf⟩:=ok.src i x j e1 hj;cases hs:σ[j]? with
    |none=>simp[hs] at Ir
    |some ov=>
     cases ov with
     |none=>simp[hs] at Ir
     |some v'=>
      simp[hs] at Ir;subst Ir;have hfr:=(ok.free (x,.free) (PySem.mem_of_lookup hf) rfl).1;unfold vv at hfr;rw[or_eq_true]at hfr;have RW:X.env.scope.names.lookup x=some .cell\/X.env.scope.names.lookup x=some .free:=hfr.imp eq_of_beq eq_of_beq;obtain⟨m,_,hl⟩:=I.loc;obtain⟨u,r,l⟩:=hl j x v' hN hs (.inr RW);refine⟨u,r,.inr ⟨vA hf,?_⟩⟩
      rcases l with ⟨k,_⟩|⟨_,c,e,z⟩
      ·have k':X.env.scope.names.lookup x=some .local:=k
       rcases RW with q|q<;>(rw[q]at k';cases k')
      ·obtain⟨d,hd⟩:=hcl2 x (PySem.mem_of_lookup hf);have e':=hcl1 x d hd;rw[e]at e';cases e';obtain⟨oc,hoc,DF⟩:=z;exact⟨c,hd,oc,hk _ _ hoc,DF⟩
 ·obtain⟨v,oc,hoc,DF⟩:=cellK x c e;exact⟨v,oc,hk _ _ hoc,DF⟩
 ·rw[jn];exact ok.len
theorem Cz(I:Inv X pins σ H s)(hfp:∀b∈fp,pT X pins H b)
  (J:Inv (bE X scope N' cl C s H fp) [] σ' H' s'):Inv X pins σ H' s' :=
 I.Rb (ch:=fp) J.os J.base J.hok J.bare λb hb=>⟨(hfp b hb).2.2.2.1,(hfp b hb).2.1,(hfp b hb).2.2.2.2.1,(hfp b hb).2.2.2.2.2⟩
end
section
variable {X:Cx} {scope:Scope} {N':List Str} {js:List (Option Nat)} {tg elt iter:Expr} {ifs:List Expr} {pos:Pos} {wi:TI} {g:TG} {tt:TT} {te:TE}
theorem xw{pins:List (Addr×Obj)}{σ:St}{H2:Hp}{s2:Shared}{it:Addr}{fp:List Addr}{tn:Nat->Heap->Prop}{J:It}{cl:List (Str×Addr)}{E:Value->Shared->Prop}{RR:Value->Addr->Result->Shared->Prop}{Q:VK}
  (ok:vz X scope N' js) (hc:X.calm=true) (I2:Inv X pins σ H2 s2) (T:Turn X.prog X.w X.K tg J fp it tn) (st2:tn 0 s2.heap) (f2:∀b∈fp,pT X pins H2 b)
  (hcl1:∀x c,cl.lookup x=some c->X.env.cells.lookup x=some c) (hcl2:∀x,(x,NameKind.free)∈scope.names->∃c,cl.lookup x=some c)
  (hg:∀cl C s H fp,PG (bE X scope N' cl C s H fp) tg g) (ht:∀cl C s H fp,Iq (bE X scope N' cl C s H fp) ifs tt) (he:∀cl C s H fp,PE (bE X scope N' cl C s H fp) elt te)
  (rd:∀D,H2 D=none->∃W:Nat->Nat->St->Hp->Prop,(∃m,W 0 m (iC js σ) (upd H2 D (.lst []))) /\
   ∀i m σ' H,W i m σ' H->(J.stop i H/\Q (.ref D) H)\/(J.go i H/\∃N:St->Hp->Prop,(∀AO H',N AO H'->∃m',m'<m/\W (i+1) m' AO H') /\
    ∀x H',J.zl i H x H'->g x σ' H' λσ2 H2=>tt σ2 H2 λb H3=>if b=true then te σ2 H3 λy H4=>∃ys,H4 D=some (.lst ys)/\ys.length<sizeLine/\N σ2 (upd H4 D (.lst (ys++[y]))) else N σ2 H3))
  (hRR:∀(D C:Addr) (s':Shared) (H':Hp) (m:Str->Option Value),s2.heap.objs.size<=C->Inv X pins σ H' s'->H' C=none->s'.heap.Ns C m->Q (.ref D) H'->RR (.ref D) C (.ok .next) s') :
  wpAny (model X.prog X.w) X.A (newList []) (λacc s₃=>wpAny (model X.prog X.w) X.A (newFunctionEnv scope X.env.globals cl [] X.env.qual none .none (some X.env)) (λcenv s₄=>
   codeAny (model X.prog X.w) X.A (.compStart (.ListComp elt [⟨tg,iter,ifs,0⟩] scope pos) 0 (.ref it) acc { cenv with scope:=relabel scope X.env }) (RR acc cenv.locals) s₄) E s₃) E s2:=by
 have hD:H2 s2.heap.objs.size=none:=I2.hok.fresh (aao _);refine aaV (wpAny_newFunctionEnv ok.Ec (by intro y hy;simp at hy) (λh₁ RX RY=>?_) ok.kind);dsimp only at RX RY |-;have I3:Inv X pins σ (upd H2 s2.heap.objs.size (.lst [])) { s2 with heap:=s2.heap.push { cls:=.type "list",dict:=none,data:=.seq ([]:List Value).toArray },toks:=s2.toks } :=
  I2.laid (t':=s2.toks) (λb u e=>aag _ e) (aao _) ⟨by simp,[],0,.nil,aav _ rfl⟩
 generalize RZ:({ s2 with heap:=s2.heap.push { cls:=.type "list",dict:=none,data:=.seq ([]:List Value).toArray },toks:=s2.toks }:Shared)=s3 at I3;have hsz:s3.heap.objs.size=s2.heap.objs.size+1:=by rw[<-RZ];exact size_push ..
 have eC:(s2.heap.push { cls:=.type "list",dict:=none,data:=.seq ([]:List Value).toArray }).objs.size=s3.heap.objs.size:=by rw[<-RZ]
 have f3:∀b∈fp,pT X pins (upd H2 s2.heap.objs.size (.lst [])) b:=λb hb=>by
  obtain⟨o,e,_⟩:=T.obj _ _ st2 b hb;refine⟨?_,(f2 b hb).2⟩;rw[au (aaA (aar e))];exact(f2 b hb).1
 have hlt:∀b∈fp,b<s3.heap.objs.size:=λb hb=>by
  obtain⟨o,e,_⟩:=T.obj _ _ st2 b hb;have hb2:b<s2.heap.objs.size:=aar e;rw[hsz];exact lt_succ_of_lt hb2
 have keep:∀b o,s3.heap.get? b=some o->h₁.get? b=some o:=λb o e=>by
  have e':(s2.heap.push { cls:=.type "list",dict:=none,data:=.seq ([]:List Value).toArray }).get? b=some o:=by rw[<-RZ]at e;exact e
  exact RY.extBut b o (aaA (aar e')) (aag _ e')
 have I4:=zM (tk:=s2.toks+([]:List (Str×Value)).length) ok I3 hcl1 hcl2 f3 hlt (h':=h₁) (by rw[<-eC];simpa using RX) keep;have Xy:tn 0 h₁:=T.keep _ _ _ st2 λb hb o e=>keep b o (by rw[<-RZ];exact aag _ e);obtain⟨W,⟨m0,w0⟩,turn⟩:=rd _ hD;have stat:∀{H':Hp},(∀b∈fp,H' b=none)->∀b∈fp,pT (bE X scope N' cl s3.heap.objs.size s3 (upd H2 s2.heap.objs.size (.lst [])) fp) [] H' b:=λ{H'} hn b hb=>
  ⟨hn b hb,aaA (hlt b hb),I4.ok.DE b hb,.inl hb,(I4.ok.Vz b hb).2,λp hp=>absurd (show p∈([]:List (Addr×Obj)) from hp) (by simp)⟩
 have Zg:∀tk,({ s2 with heap:=h₁,toks:=tk }:Shared)={ s3 with heap:=h₁,toks:=tk }:=λtk=>by rw[<-RZ]
 have loop:codeAny (model X.prog X.w) X.A (.compLoop (.ListComp elt [⟨tg,iter,ifs,0⟩] scope pos) 0 (.ref it) (.ref s2.heap.objs.size) (compEnvC scope cl s3.heap.objs.size X.env)) (RR (.ref s2.heap.objs.size) s3.heap.objs.size)
   { s3 with heap:=h₁,toks:=s2.toks+([]:List (Str×Value)).length }:=by
  refine codeAny_loop rfl (λn s'=>∃i σ' H',Inv (bE X scope N' cl s3.heap.objs.size s3 (upd H2 s2.heap.objs.size (.lst [])) fp) [] σ' H' s'/\tn i s'.heap/\(∀b∈fp,H' b=none)/\W i n σ' H') ?_ m0 ⟨0,_,_,I4,Xy,λb hb=>(f3 b hb).1,w0⟩;rintro n s5 ⟨i,σ5,H5,I5,QK,U4,w5⟩;show wpAny _ X.A ((compTurn (.ListComp elt [⟨tg,iter,ifs,0⟩] scope pos) 0 (.ref it) (.ref s2.heap.objs.size) (compEnvC scope cl s3.heap.objs.size X.env)).onRaise (λx=>do noteFrame x (compEnvC scope cl s3.heap.objs.size X.env);theTreesLotGoes x)) _ _ s5;refine wpAny_noted ?_;rw[compTurn_list];refine aad (wpAny_standAt (aad ?_))
  rcases turn i n σ5 H5 w5 with ⟨stop,qn⟩|⟨go,N,hN,step⟩
  ·refine wpAny_mono (T.done (bE X scope N' cl s3.heap.objs.size s3 (upd H2 s2.heap.objs.size (.lst [])) fp) rfl rfl rfl hc i [] s5 σ5 H5 (λ_ _=>False) I5 (stat U4) QK stop) (λr s6 ⟨hr,I6⟩=>?_) λ_ _ z=>z.elim;subst hr;refine aaj ?_;obtain⟨m,hm,_⟩:=id I6.loc;exact hRR _ _ s6 H5 m (by rw[hsz];exact le_succ _) (Cz I3 f3 I6) I6.free hm qn
  ·refine wpAny_mono (T.item (bE X scope N' cl s3.heap.objs.size s3 (upd H2 s2.heap.objs.size (.lst [])) fp) rfl rfl rfl hc i [] s5 σ5 H5 (λ_ _=>False) I5 (stat U4) QK go) (λr s6 ⟨u,hr,h6⟩=>?_) λ_ _ z=>z.elim
   subst hr;refine aad (wpAny_mono h6 (λ_ s7 ⟨x,H7,I7,r7,y7,Wb,Zh⟩=>?_) λ_ _ z=>z.elim);have Zi:=I7.pinned (stat Zh) (T.obj _ _ Wb);refine aad (wpAny_mono (hg _ _ _ _ _ _ s7 σ5 H7 x u _ Zi r7 (step x H7 y7)) (λ_ s8 ⟨σ8,H8,I8,q8⟩=>?_) λ_ _ z=>z.elim);refine aad (wpAny_mono (ht _ _ _ _ _ _ s8 σ8 H8 _ I8 q8) (λb s9 ⟨H9,I9,q9⟩=>?_) λ_ _ z=>z.elim);have Ed:∀{sA:Shared} {σA:St} {HA:Hp},Inv (bE X scope N' cl s3.heap.objs.size s3 (upd H2 s2.heap.objs.size (.lst [])) fp) ([]++qA fp s7.heap) σA HA sA->N σA HA ->
     ∃m,m<n/\∃i σ' H',Inv (bE X scope N' cl s3.heap.objs.size s3 (upd H2 s2.heap.objs.size (.lst [])) fp) [] σ' H' sA/\tn i sA.heap/\(∀b∈fp,H' b=none)/\W i m σ' H':=λ{sA σA HA} IA nA=>by
    obtain⟨m',hm,wA⟩:=hN σA HA nA;refine⟨m',hm,i+1,σA,HA,IA.m5,T.keep _ _ _ Wb λb hb o e=>(IA.pin (b,o) (aaI _ (aaI _ (j4 hb e)))).1,λb hb=>?_,wA⟩;obtain⟨o,e,d⟩:=T.obj _ _ Wb b hb;exact(IA.pin (b,o) (aaI _ (aaI _ (j4 hb e)))).2.1
   cases b with
   |false=>exact aaj ⟨rfl,Ed I9 (by simpa using q9)⟩
   |true=>rw[aai rfl]at q9;refine aad (aad (wpAny_mono (he _ _ _ _ _ _ s9 σ8 H9 _ I9 q9) (λv sB ⟨y,HB,IB,rB,ys,hys,hlen,nB⟩=>?_) λ_ _ z=>z.elim));refine aad (wpAny_mono (um (X:=bE X scope N' cl s3.heap.objs.size s3 (upd H2 s2.heap.objs.size (.lst [])) fp) _ sB σ8 HB (.ref s2.heap.objs.size) [y] _ [v] (λ_ HC=>HC=upd HB s2.heap.objs.size (.lst (ys++[y]))) IB rfl #[rB] ⟨_,ys,y,rfl,rfl,hys,hlen,rfl⟩) (λv' sC ⟨_,HC,IC,_,Zj⟩=>?_) λ_ _ z=>z.elim);subst Zj;exact aaj (aaj ⟨rfl,Ed IC nB⟩)
 rw[Zg];have Wc:({ newEnv scope (s2.heap.push { cls:=.type "list",dict:=none,data:=.seq ([]:List Value).toArray }).objs.size X.env.globals cl X.env.qual none Value.none (some X.env) builtinsNs with scope:=relabel scope X.env }:Env)=compEnvC scope cl s3.heap.objs.size X.env:=by rw[eC];rfl
 have Wd:(newEnv scope (s2.heap.push { cls:=.type "list",dict:=none,data:=.seq ([]:List Value).toArray }).objs.size X.env.globals cl X.env.qual none Value.none (some X.env) builtinsNs).locals=s3.heap.objs.size:=by rw[eC];rfl
 rw[Wc,Wd];exact codeAny_compStart_list loop (T.self _ _ _ _ _ Xy loop)
theorem AQ(hok:gW X.N X.env.scope scope N' js=true)(hc:X.calm=true)(hi:PI X tg iter wi)(hg:∀cl C s H fp,PG (bE X scope N' cl C s H fp) tg g)
  (ht:∀cl C s H fp,Iq (bE X scope N' cl C s H fp) ifs tt) (he:∀cl C s H fp,PE (bE X scope N' cl C s H fp) elt te)
  (hs:∀x,foldedSetIterable iter X.env x=pure x):PE X (.ListComp elt [⟨tg,iter,ifs,0⟩] scope pos) (xu wi js g tt te):=by
 intro pins s σ H Q I h;have ok:=ur hok;obtain⟨cl,We,hcl1,hcl2⟩:=qK (qL ok I.ok);rw[eval_ListComp];refine wpAny_comprehension_free (use:=none) rfl hs We ok.kind ok.names (cj (hi pins s σ H _ I h) λxv s1 h1=>cj h1 λitv s2 h2=>?_);obtain⟨it,fp,tn,J,H2,rfl,I2,T,st2,f2,rd⟩:=h2;refine xw (RR:=λacc C=>compPost (model X.prog X.w) X.A X.xe none (EP X pins σ Q) acc C) ok hc I2 T st2 f2 hcl1 hcl2 hg ht he rd ?_;intro D C s' H' m hC J' fC hm q;refine⟨m,hm,λh' hs'=>⟨.ref D,H',?_,rfl,q⟩⟩;refine J'.turned (t':=s'.toks) (λb o hb e=>hs'.extBut b o hb e) fC (ne_of_gt (aas I2.lt hC)) (.inr (aaM I2.sz hC)) (λx c e z=>?_) λp hp z=>?_
 ·obtain⟨v,q'⟩:=I2.cell x c e;exact absurd (aas q'.lt (by rw[z];exact hC)) (lt_irrefl _)
 ·exact absurd (aas (aar (I2.pin p hp).1) (by rw[z];exact hC)) (lt_irrefl _)
theorem AR{i:Nat}(hN:X.N.Nodup)(hx:X.N[i]?=some x)(hl:Loc X.env.scope x)(hok:gW X.N X.env.scope scope N' js=true)(hc:X.calm=true)(hi:PI X tg iter wi)(hg:∀cl C s H fp,PG (bE X scope N' cl C s H fp) tg g)
  (ht:∀cl C s H fp,Iq (bE X scope N' cl C s H fp) ifs tt) (he:∀cl C s H fp,PE (bE X scope N' cl C s H fp) elt te)
  (hsw:swapsWith (.ListComp elt [⟨tg,iter,ifs,0⟩] scope pos) (some (.Name x pos')) spos.line X.env=pure true)
  (hf:X.fn x=true\/X.env.scope.names.lookup x=some .local)
  (hs:∀x,foldedSetIterable iter X.env x=pure x):PS X (.Assign [.Name x pos'] (.ListComp elt [⟨tg,iter,ifs,0⟩] scope pos) spos) (IX (xu wi js g tt te) (pB i)):=by
 intro pins s σ H D I h;have ok:=ur hok;obtain⟨cl,We,hcl1,hcl2⟩:=qK (qL ok I.ok);rw[exec_Assign_Name_used _ _ _ _ hsw];refine aad (wpAny_standAt (aad ?_));show wpAny _ X.A (do let _ <-comprehension (.ListComp elt [⟨tg,iter,ifs,0⟩] scope pos) scope X.env _ (newList []) false (eval iter X.env) (some (assign (.Name x pos') X.env))) _ _ s;refine aad (wpAny_mono (wpAny_comprehension_free (use:=some (assign (.Name x pos') X.env)) (Q:=λ_ s'=>SP X pins D .next s') rfl hs We ok.kind ok.names
  (cj (hi pins s σ H _ I h) λxv s1 h1=>cj h1 λitv s2 h2=>?_)) (λ_ s' hq=>aaj (aaj hq)) λ_ _ e=>e)
 obtain⟨it,fp,tn,J,H2,rfl,I2,T,st2,f2,rd⟩:=h2;refine xw (RR:=λacc C=>compPost (model X.prog X.w) X.A X.xe (some (assign (.Name x pos') X.env)) (λ_ s'=>SP X pins D .next s') acc C) (Q:=λx H1=>pB i x σ H1 D.nx) ok hc I2 T st2 f2 hcl1 hcl2 hg ht he rd ?_;intro E C s' H' m hC J' fC hm q;have Xz:C≠X.env.locals:=ne_of_gt (aas I2.lt hC);have hCc:∀x c,X.env.cells.lookup x=some c->c≠C:=λx c e z=>by
  obtain⟨v,q'⟩:=I2.cell x c e;exact absurd (aas q'.lt (by rw[z];exact hC)) (lt_irrefl _)
 refine cj (show wpAny _ X.A (assign (.Name x pos') X.env (.ref E)) (λ_ s''=>(∃AO JB,Inv X pins AO JB s''/\D.nx AO JB/\JB C=none)/\∃m,s''.heap.Ns C m) X.xe s' from ?_) λ_ s'' ⟨⟨AO,JB,Wf,Zk,Wg⟩,Zl,Ni⟩=>?_
 ·refine wpAny_assign_Name (ua J' hN hx hl (show RelV (.ref E) (.ref E) from rfl) (λs'' Wf ⟨a,Zm,ha⟩=>⟨⟨_,H',Wf,q,fC⟩,m,?_⟩) hf)
  refine hm.sameBut Zm ?_
  rcases ha with z|z
  ·rw[z];exact Xz
  ·exact λw=>hCc _ _ z w.symm
 ·refine⟨Zl,Ni,λh' hs'=>⟨AO,JB,?_,Zk⟩⟩;refine Wf.turned (t':=s''.toks) (λb o hb e=>hs'.extBut b o hb e) Wg Xz (.inr (aaM I2.sz hC)) hCc λp hp z=>?_;exact absurd (aas (aar (I2.pin p hp).1) (by rw[z];exact hC)) (lt_irrefl _)
end
theorem Inv.AS{X:Cx}{pins:List (Addr×Obj)}{σ:St}{H:Hp}{s:Shared}{h':Heap}{t':Nat}{ch:List Addr}(I:Inv X pins σ H s)(hf:∀b∈ch,pT X pins H b)
  (k:∀b o,b∉ch->s.heap.get? b=some o->h'.get? b=some o):Inv X pins σ H { s with heap:=h',toks:=t' }:=by
 have Q9:∀b u,H b=some u->b∉ch:=λb u e z=>by rw[(hf b z).1]at e;cases e
 refine I.step (g':=s.gens) (d':=s.drawn) (ch:=ch) (λb hb=>?_) (λb o _ _ hc e _=>k b o hc e) (λb o _ _ hc e _=>⟨o.slots,k b o hc e⟩) (λ_ _ _ _ n=>n)
  (λb o hc e=>⟨o,k b o hc e⟩) (λ_ _ e=>e) (λ_ _ _ e=>e) (λb ps e=>⟨#[],by rw[e];simp⟩) (λm hm=>?_) (λb u e=>?_) I.bare
 ·exact⟨(hf b hb).2.2.2.1,(hf b hb).2.1,(hf b hb).2.2.2.2.1,(hf b hb).2.2.2.2.2⟩
 ·obtain⟨o,es,ep,ho,r⟩:=hm;exact⟨o,es,ep,k _ o (λz=>(hf _ z).2.1 rfl) ho,r⟩
 ·refine(I.hok b u e).stay (λc v hc q=>k c v ?_ q) (λ_ q=>q) λ_ _ q=>q
  rcases hc with z|z
  ·rw[z];exact Q9 b u e
  ·exact Q9 c _ z
def R3(K:Frag)(a:Addr):It :=
 ⟨λi H=>∃xs x,iu K H a xs/\xs[i]?=some x,λi H x H'=>∃p v,H p=none/\x=.ref p/\H'=upd H p (.tup [.int i,v])/\∀xs,iu K H a xs->xs[i]?=some v,λi H=>∃xs,iu K H a xs/\xs.length<=i⟩
theorem CA{P:Program}{w:World}{K:Frag}{es:List Expr}{k:Nat}{pos:Pos}(a e it:Addr)(hne:e≠it) :
  Turn P w K (.Tuple es k pos) (R3 K a) [e,it] e (λi h=>(∃old,IsEnum h e it i old)/\h.IsListIter it a i) where
 mem:=by simp
 obj:=λi h st b hb=>by
  obtain⟨⟨old,he⟩,⟨o,e2,c,d⟩⟩:=st
  rcases aaG.mp hb with z|z
  ·subst z;exact⟨_,he,λv z=>nomatch z⟩
  ·rw[aau.mp z];exact⟨o,e2,λv z=>by rw[d]at z;cases z⟩
 keep:=λi h h' st k=>⟨let ⟨old,he⟩:=st.1;⟨old,k e (by simp) _ he⟩,st.2.at λo e=>k it (by simp) o e⟩
 item:=by
  intro X hP hw hK hc i pins s σ H E I hf st hg;subst hP hw hK;obtain⟨xs,x,hq,hx⟩:=hg;obtain⟨its,rv,p,hz⟩:=I.list hq;obtain⟨u,hu,ru⟩:=rv.get hx;obtain⟨⟨old,he⟩,hit⟩:=st;have hei:e<s.heap.objs.size:=aar he;have Zn:it<s.heap.objs.size:=by obtain⟨_,y,_⟩:=hit;exact aar y
  refine wpAny_pyNext_enum_item he hit p.isList (x:=u) (by simpa using hu) hne λh' ho Wh hT hsz hk=>?_;refine⟨_,rfl,?_⟩;refine wpAny_letOwnedTupleGo_enum ho λh2 Zo hs2=>?_;have hT2:h2.get? s.heap.objs.size=some { cls:=.type "tuple",data:=.seq [.int i s.toks,u].toArray }:=hs2.extBut _ _ (ne_of_gt hei) hT;have I1:Inv X pins σ H { s with heap:=h2,toks:=s.toks+1 }:=I.AS (ch:=[e,it]) hf λb o hb q=>by
   have h1:b≠e:=λz=>hb (by simp[z]);have h2:b≠it:=λz=>hb (by simp[z]);exact hs2.extBut b o h1 (hk b o h1 h2 q)
  have hn:H s.heap.objs.size=none:=I.hok.fresh (aao _);have I2:Inv X pins σ (upd H s.heap.objs.size (.tup [.int i,x])) { s with heap:=h2,toks:=s.toks+1 }:=by
   have un:Un X.fs [] H (upd H s.heap.objs.size (.tup [.int i,x])) s.heap s.heap:=Un.laid (λb u q=>q) (aao _) hn;refine⟨I1.ok,I1.os,I1.bare,?_,I1.loc,I1.cell,?_,λy c q=>?_,λp hp=>?_,λb o q=>?_,I1.len⟩
   ·refine⟨I1.base.keep,I1.base.slot,λb o q n hx=>?_,I1.base.there,λb ys q=>?_,λb o ys q=>?_,λb ps q=>?_⟩
    ·have hlt:b<s.heap.objs.size:=aas (aar q) I.sz;rw[au (aaA hlt)];exact I1.base.free b o q n hx
    ·rw[au (aM (I1.base.tups b ys q) hn)];exact I1.base.tups b ys q
    ·rw[au (aM (I1.base.frzs b o ys q) hn)];exact I1.base.frzs b o ys q
    ·obtain⟨more,z⟩:=I1.base.tB b ps q;exact⟨more,by rw[au (aM z hn)];exact z⟩
   ·rw[au (aaA I.lt)];exact I1.free
   ·obtain⟨v,z⟩:=I.cell y c q;rw[au (aaA z.lt)];exact I1.iZ y c q
   ·obtain⟨q1,q2,q3⟩:=I1.pin p hp;refine⟨q1,?_,q3⟩;rw[au (aaA (aar (I.pin p hp).1))];exact q2
   ·by_cases hb:b=s.heap.objs.size
    ·subst hb;rw[aP]at q;cases q;exact⟨by show 2<=sizeLine;decide,[.int i s.toks,u],.cons ⟨_,rfl⟩ #[ru],_,hT2,rfl,_,rfl⟩
    ·rw[au hb]at q;exact(I1.hok b o q).stay (λc v _ z=>z) (λc z=>by rw[au (aM z hn)];exact z) λc ys z=>by rw[au (aM z hn)];exact z
  refine⟨.ref s.heap.objs.size,_,I2,rfl,⟨s.heap.objs.size,x,hn,rfl,rfl,λys hy=>by rw[I.wM hy hq];exact hx⟩,⟨⟨_,by simpa using Zo⟩,?_⟩,λb hb=>?_⟩
  ·exact Wh.at λo y=>(hs2.2 it hne.symm).trans y
  ·have hlt:b<s.heap.objs.size:=by
    rcases aaG.mp hb with z|z
    ·rw[z];exact hei
    ·rw[aau.mp z];exact Zn
   rw[au (aaA hlt)];exact(hf b hb).1
 done:=by intro X hP hw hK hc i pins s σ H E I hf st hg;subst hP hw hK;obtain⟨xs,hq,hx⟩:=hg;obtain⟨its,rv,p,hz⟩:=I.list hq;obtain⟨⟨old,he⟩,hit⟩:=st;have hl:=rv.length;exact wpAny_pyNext_enum_end (I.ok.hd hc) he hit p.isList (by simp;omega) λh' eb=>⟨rfl,I.AS (t':=s.toks) (ch:=[e,it]) hf λb o hb q=>eb b o (λz=>hb (by simp[z])) q⟩
 self:=λ_ _ _ _ _ st h=>let ⟨_,he⟩:=st.1;wpAny_pyIter_enum he h
def R4(K:Frag)(ta:TA):TI:=λσ H R=>ta σ H λvs H1=>∃a,vs=[.ref a]/\(∃xs,iu K H1 a xs)/\R (R3 K a) H1
theorem JC{k:Nat}(hg:Gl X "enumerate")(hm:X.mg "enumerate" = none)(ha:PA X [a] ta)(hs:starEach [a] X.env=[(false,eval a X.env)]) :
  PI X (.Tuple es k tpos) (.Call (.Name "enumerate" p) [a] [] pos) (R4 X.K ta):=by
 intro pins s σ H R I h;refine Call_ (jm I hg hm boot_enumerate (PyProof.Rows.callWith_type1 (cj (ha pos pins s σ H _ I h) λus s1 aI=>?_) hs rfl));obtain⟨vs,H1,I1,r1,q1⟩:=aI;obtain⟨l,e,⟨xs,hq⟩,q⟩:=q1;subst e;cases r1 with
 |cons r rr=>
  cases rr;cases r;obtain⟨its,rv,pl,hz⟩:=I1.list hq;refine call_enumerate_list pl.isList λh' he hit hsz hk=>?_;have I2:Inv X pins σ H1 { s1 with heap:=h' }:=I1.kept (t':=s1.toks) hk;refine wpAny_pyIter_enum (s:={ s1 with heap:=h' }) he ?_;refine⟨_,[s1.heap.objs.size+1,s1.heap.objs.size],_,_,H1,rfl,I2,CA l _ _ (ne_of_gt (lt_succ_self _)),⟨⟨_,by simpa using he⟩,hit⟩,λb hb=>?_,q⟩;have hb':s1.heap.objs.size<=b:=by
   rcases aaG.mp hb with z|z
   ·rw[z];exact le_succ _
   ·rw[aau.mp z];exact aao _
  exact I1.DP hb' (I1.hok.fresh hb')
end L2
end
section
namespace L2
open PySem PySem.W PyProof.Rows
namespace pW
section
variable {O:KeyOrd} {key:Nat->O.α} {N:Nat} {cmp:Nat->Nat->(Bool->Shared->Prop)->Shared->Prop} {s:Shared}
def K(O:KeyOrd)(key:Nat->O.α)(p:Array Nat)(i:Nat):O.α:=key (p.getD i 0)
def Up(O:KeyOrd)(key:Nat->O.α)(p:Array Nat)(k:Nat):Prop:=∀i j,i<=j->j<k->O.kle (K O key p i) (K O key p j)
def Down(O:KeyOrd)(key:Nat->O.α)(p:Array Nat)(k:Nat):Prop:=∀i j,i<=j->j<k->O.kle (K O key p j) (K O key p i)
def JD(O:KeyOrd)(key:Nat->O.α)(N:Nat)(cmp:Nat->Nat->(Bool->Shared->Prop)->Shared->Prop)(s:Shared):Prop :=
 ∀i j (C:Bool->Shared->Prop),i<N->j<N->C (O.blt (key i) (key j)) s->cmp i j C s
def Ent(N:Nat)(p:Array Nat):Prop:=p.size=N/\0<N/\∀x∈p.toList,x<N
theorem Ent.at{p:Array Nat}(h:Ent N p)(i:Nat):p.getD i 0<N:=by
 by_cases hi:i<p.size
 ·have e:p.getD i 0=p[i]:=by simp[Array.getD,hi]
  rw[e];exact h.2.2 _ (by simp)
 ·have e:p.getD i 0=0:=by simp[Array.getD,hi]
  rw[e];exact h.2.1
theorem Ent.perm{p q:Array Nat}(h:Ent N p)(e:q.Perm p):Ent N q :=
 ⟨e.size_eq.trans h.1,h.2.1,λx hx=>h.2.2 x ((Array.perm_iff_toList_perm.mp e).mem_iff.mp hx)⟩
theorem K_congr{p q:Array Nat}{i j:Nat}(h:p[i]?=q[j]?):K O key p i=K O key q j:=by
 unfold K;rw[Array.getD_eq_getD_getElem?,Array.getD_eq_getD_getElem?,h]
theorem K_bubble{p:Array Nat}{src d:Nat}(hs:src<p.size)(hd:d<=src)(k:Nat) :
  K O key (bubble p src d) k=if k=src-d then K O key p src else if src-d<k/\k<=src then K O key p (k-1) else K O key p k:=by
 have e:=getElem?_bubble hs d hd k
 by_cases h1:k=src-d
 ·rw[aai h1]at e |-;exact K_congr e
 ·rw[aal h1]at e |-
  by_cases h2:src-d<k/\k<=src
  ·rw[aai h2]at e |-;exact K_congr e
  ·rw[aal h2]at e |-;exact K_congr e
theorem Ef{p:Array Nat}{i j:Nat}(hj:j<=p.size)(k:Nat):K O key (kas_rev p i j) k=if i<=k/\k<j then K O key p (i+j-1-k) else K O key p k:=by
 have e:=getElem?_mirror_all (i:=i) hj k
 by_cases h1:i<=k/\k<j
 ·rw[aai h1]at e |-;exact K_congr e
 ·rw[aal h1]at e |-;exact K_congr e
theorem qM{p:Array Nat}{i j:Nat}(hj:j<=p.size)(h:∀k,i<=k->k<j->K O key p k=K O key p (j-1))(k:Nat):K O key (kas_rev p i j) k=K O key p k:=by
 rw[Ef hj]
 split
 ·rw[h _ (by omega) (by omega),h k (by omega) (by omega)]
 ·rfl
theorem xy{p:Array Nat}{m:Nat}(h:∀t,1<=t->t<m->O.kle (K O key p (t-1)) (K O key p t)):Up O key p m:=by
 intro i j hij hj
 induction j with
 |zero=>
  have:i=0:=by omega
  subst this;exact KeyOrd.kle_refl _
 |succ j ih=>
  by_cases e:i=j+1
  ·subst e;exact KeyOrd.kle_refl _
  ·exact KeyOrd.kle_trans (ih (by omega) (by omega)) (h (j+1) (by omega) hj)
theorem Nj(hA:JD O key N cmp s){p:Array Nat}(he:Ent N p):∀(f n:Nat) {Q:Nat->Shared->Prop},1<=n ->
  (∀m,n<=m->m<=n+f->(∀t,n<=t->t<m->O.kle (K O key p (t-1)) (K O key p t))->(m<n+f->O.klt (K O key p m) (K O key p (m-1)))->Q m s)->(kas_asc p f n).kasWp cmp Q s
 |0,n,Q,hn,h=>h n (aao _) (aao _) (λt h1 h2=>by omega) λq=>by omega
 | f+1,n,Q,hn,h=>by
  show cmp _ _ _ s;refine hA _ _ _ (he.at _) (he.at _) ?_;cases hb:O.blt (key (p.getD n 0)) (key (p.getD (n-1) 0)) with
  |true=>exact h n (aao _) (by omega) (λt h1 h2=>by omega) λ_=>hb
  |false=>
   show (kas_asc p f (n+1)).kasWp cmp Q s;refine Nj hA he f (n+1) (by omega) λm h1 h2 h3 h4=>h m (by omega) (by omega) (λt t1 t2=>?_) λq=>h4 (by omega)
   by_cases e:t=n
   ·subst e;exact hb
   ·exact h3 t (by omega) t2
theorem AV(hA:JD O key N cmp s):∀(f:Nat) (p:Array Nat) (n q:Nat) {Q:Array Nat×Nat×Nat->Shared->Prop},Ent N p->1<=n->n+f<=N->q+1<=n->Down O key p n->(∀i,n-(q+1)<=i->i<n->K O key p i=K O key p (n-1)) ->
  (∀p' n' q',p'.Perm p->Ent N p'->1<=n'->n<=n'->n'<=n+f->q'+1<=n'->Down O key p' n'->(∀i,n'-(q'+1)<=i->i<n'->K O key p' i=K O key p' (n'-1))->Q (p',n',q') s)->(kas_desc f p n q).kasWp cmp Q s
 |0,p,n,q,Q,he,hn,hN,hq,hd,hl,h=>h p n q (Array.Perm.refl _) he hn (aao _) (aao _) hq hd hl
 | f+1,p,n,q,Q,he,hn,hN,hq,hd,hl,h=>by
  show cmp _ _ _ s;refine hA _ _ _ (he.at _) (he.at _) ?_;cases hb:O.blt (key (p.getD n 0)) (key (p.getD (n-1) 0)) with
  |true=>
   have hlt:O.klt (K O key p n) (K O key p (n-1)):=hb;have hd1:Down O key p (n+1):=λi j hij hj=>by
    by_cases e:j=n
    ·subst e
     by_cases e2:i=j
     ·subst e2;exact KeyOrd.kle_refl _
     ·exact KeyOrd.kle_trans (KeyOrd.kle_of_klt hlt) (hd i (j-1) (by omega) (by omega))
    ·exact hd i j hij (by omega)
   show (if q>0 then kas_desc f (kas_rev p (n-(q+1)) n) (n+1) 0 else kas_desc f p (n+1) 0).kasWp cmp Q s
   by_cases XA:q>0
   ·rw[aai XA]
    have ep:(kas_rev p (n-(q+1)) n).Perm p:=mirror_perm _ _ _ _;have eK:∀k,K O key (kas_rev p (n-(q+1)) n) k=K O key p k:=λk=>qM (by rw[he.1];omega) hl k;refine AV hA f _ (n+1) 0 (he.perm ep) (by omega) (by omega) (by omega) (λi j hij hj=>by rw[eK,eK];exact hd1 i j hij hj) (λi h1 h2=>?_) λp' n' q' g1 g2 g3 g4 g5 g6 g7 g8=>h p' n' q' (g1.trans ep) g2 g3 (by omega) (by omega) g6 g7 g8;have:i=n:=by omega
    subst this;rfl
   ·rw[aal XA]
    refine AV hA f p (n+1) 0 he (by omega) (by omega) (by omega) hd1 (λi h1 h2=>?_) λp' n' q' g1 g2 g3 g4 g5 g6 g7 g8=>h p' n' q' g1 g2 g3 (by omega) (by omega) g6 g7 g8;have:i=n:=by omega
    subst this;rfl
  |false=>
   show cmp _ _ _ s;refine hA _ _ _ (he.at _) (he.at _) ?_;cases hc:O.blt (key (p.getD (n-1) 0)) (key (p.getD n 0)) with
   |true=>exact h p n q (Array.Perm.refl _) he hn (aao _) (by omega) hq hd hl
   |false=>
    have heq:K O key p n=K O key p (n-1):=O.total _ _ hb hc;show (kas_desc f p (n+1) (q+1)).kasWp cmp Q s;refine AV hA f p (n+1) (q+1) he (by omega) (by omega) (by omega) (λi j hij hj=>?_) (λi h1 h2=>?_) λp' n' q' g1 g2 g3 g4 g5 g6 g7 g8=>h p' n' q' g1 g2 g3 (by omega) (by omega) g6 g7 g8
    ·by_cases e:j=n
     ·subst e
      by_cases e2:i=j
      ·subst e2;exact KeyOrd.kle_refl _
      ·rw[heq];exact hd i (j-1) (by omega) (by omega)
     ·exact hd i j hij (by omega)
    ·show K O key p i=K O key p (n+1-1)
     rw[Nat.add_sub_cancel]
     by_cases e:i=n
     ·subst e;rfl
     ·rw[heq];exact hl i (by omega) (by omega)
theorem Eg(hA:JD O key N cmp s){p:Array Nat}{n nrem:Nat}(he:Ent N p)(h1:1<=n)(hn:n<=nrem)(hr:nrem<=N)(hd:Down O key p n)
  (h:∀m p',p'.Perm p->Ent N p'->1<=m->m<=nrem->Up O key p' m->Q (m,p') s):(kas_tail3 n nrem p).kasWp cmp Q s:=by
 unfold kas_tail3;rw[KasT.kasWp_bind];have ep:(kas_rev p 0 n).Perm p:=mirror_perm _ _ _ _;have hz:n<=p.size:=by rw[he.1];omega
 refine Nj hA (he.perm ep) _ _ h1 λm a1 a2 a3 _=>h m _ ep (he.perm ep) (by omega) (by omega) (xy λt t1 t2=>?_)
 by_cases e:t<n
 ·rw[Ef hz,Ef hz,aai (by omega),aai (by omega)];exact hd _ _ (by omega) (by omega)
 ·exact a3 t (by omega) t2
theorem uu(hA:JD O key N cmp s){p:Array Nat}{n nrem:Nat}(he:Ent N p)(hn:n+1<=nrem)(hr:nrem<=N)(hd:Down O key p (n+1))
  (h:∀m p',p'.Perm p->Ent N p'->1<=m->m<=nrem->Up O key p' m->Q (m,p') s):(kas_descPart n nrem p).kasWp cmp Q s:=by
 unfold kas_descPart;rw[KasT.kasWp_bind];have R5:∀i,n+1-(0+1)<=i->i<n+1->K O key p i=K O key p (n+1-1):=λi h1 h2=>by
  have e:i=n:=by omega
  subst e;rfl
 refine AV hA (nrem-(n+1)) p (n+1) 0 he (by omega) (by omega) (by omega) hd R5 λp' n' q' g1 g2 g3 g4 g5 g6 g7 g8=>?_;show (if q'>0 then kas_tail3 n' nrem (kas_rev p' (n'-(q'+1)) n') else kas_tail3 n' nrem p').kasWp cmp Q s
 by_cases hq:q'>0
 ·rw[aai hq];have ep:(kas_rev p' (n'-(q'+1)) n').Perm p':=mirror_perm _ _ _ _;have eK:∀k,K O key (kas_rev p' (n'-(q'+1)) n') k=K O key p' k:=λk=>qM (by rw[g2.1];omega) g8 k;exact Eg hA (g2.perm ep) g3 (by omega) hr (λi j hij hj=>by rw[eK,eK];exact g7 i j hij hj) λm p'' a1 a2 a3 a4 a5=>h m p'' ((a1.trans ep).trans g1) a2 a3 a4 a5
 ·rw[aal hq];exact Eg hA g2 g3 (by omega) hr g7 λm p'' a1 a2 a3 a4 a5=>h m p'' (a1.trans g1) a2 a3 a4 a5
theorem Nk(hA:JD O key N cmp s){p:Array Nat}{nrem:Nat}(he:Ent N p)(h1:1<=nrem)(hr:nrem<=N)
  (h:∀m p',p'.Perm p->Ent N p'->1<=m->m<=nrem->Up O key p' m->Q (m,p') s):(kas_count nrem p).kasWp cmp Q s:=by
 unfold kas_count;rw[KasT.kasWp_bind];refine Nj hA he _ _ (aao _) λn a1 a2 a3 a4=>?_;have hup:Up O key p n:=xy λt t1 t2=>a3 t t1 t2
 by_cases e1:(n==nrem)=true
 ·rw[aai e1];exact h n p (Array.Perm.refl _) he a1 (by omega) hup
 ·rw[aal e1]
  have XC:n≠nrem:=λz=>e1 (by simp[z]);have hlt:O.klt (K O key p n) (K O key p (n-1)):=a4 (by omega)
  by_cases e2:n>1
  ·rw[aai e2]
   show cmp _ _ _ s;refine hA _ _ _ (he.at _) (he.at _) ?_;cases hc:O.blt (key (p.getD 0 0)) (key (p.getD (n-1) 0)) with
   |true=>exact h n p (Array.Perm.refl _) he a1 (by omega) hup
   |false=>
    have hle:O.kle (K O key p (n-1)) (K O key p 0):=hc;have ep:(kas_rev p 0 n).Perm p:=mirror_perm _ _ _ _;have hall:∀k,0<=k->k<n->K O key p k=K O key p (n-1):=λk _ hk=>
     KeyOrd.kle_antisymm (hup k (n-1) (by omega) (by omega)) (KeyOrd.kle_trans hle (hup 0 k (by omega) hk))
    have eK:∀k,K O key (kas_rev p 0 n) k=K O key p k:=λk=>qM (by rw[he.1];omega) hall k;show (kas_descPart n nrem (kas_rev p 0 n)).kasWp cmp Q s;refine uu hA (he.perm ep) (by omega) hr (λi j hij hj=>?_) λm p' b1 b2 b3 b4 b5=>h m p' (b1.trans ep) b2 b3 b4 b5;rw[eK,eK]
    by_cases ej:j=n
    ·subst ej
     by_cases ei:i=j
     ·subst ei;exact KeyOrd.kle_refl _
     ·rw[hall i (by omega) (by omega)];exact KeyOrd.kle_of_klt hlt
    ·rw[hall i (by omega) (by omega),hall j (by omega) (by omega)];exact KeyOrd.kle_refl _
  ·rw[aal e2]
   have en:n=1:=by omega
   subst en;refine uu hA he (by omega) hr (λi j hij hj=>?_) λm p' b1 b2 b3 b4 b5=>h m p' b1 b2 b3 b4 b5
   by_cases ei:i=j
   ·subst ei;exact KeyOrd.kle_refl _
   ·have:i=0/\j=1:=by omega
    obtain⟨rfl,rfl⟩:=this;exact KeyOrd.kle_of_klt hlt
theorem zN(hA:JD O key N cmp s){p:Array Nat}{k:Nat}(he:Ent N p)(hs:Up O key p k):∀(f l r:Nat) {Q:Nat->Shared->Prop},l<=r->r<=k->r-l<=f ->
  (∀i,i<l->O.kle (K O key p i) (K O key p k))->(∀i,r<=i->i<k->O.klt (K O key p k) (K O key p i)) ->
  (∀l',l'<=k->(∀i,i<l'->O.kle (K O key p i) (K O key p k))->(∀i,l'<=i->i<k->O.klt (K O key p k) (K O key p i))->Q l' s)->(kas_place p k f l r).kasWp cmp Q s
 | 0,l,r,Q,hlr,hrk,hf,hlo,hhi,h=>by
  have:l=r:=by omega
  subst this;exact h l hrk hlo hhi
 | f+1,l,r,Q,hlr,hrk,hf,hlo,hhi,h=>by
  show (if l≥r then KasT.ret l else _).kasWp cmp Q s
  by_cases hge:l≥r
  ·rw[aai hge]
   have:l=r:=by omega
   subst this;exact h l hrk hlo hhi
  ·rw[aal hge]
   show cmp _ _ _ s;refine hA _ _ _ (he.at _) (he.at _) ?_;cases hb:O.blt (key (p.getD k 0)) (key (p.getD ((l+r)/2) 0)) with
   |true=>show (kas_place p k f l ((l+r)/2)).kasWp cmp Q s;exact zN hA he hs f l ((l+r)/2) (by omega) (by omega) (by omega) hlo (λi h1 h2=>KeyOrd.klt_of_klt_of_kle hb (hs _ _ h1 h2)) h
   |false=>show (kas_place p k f ((l+r)/2+1) r).kasWp cmp Q s;exact zN hA he hs f ((l+r)/2+1) r (by omega) (by omega) (by omega) (λi h1=>KeyOrd.kle_trans (hs i ((l+r)/2) (by omega) (by omega)) hb) hhi h
theorem R6(hA:JD O key N cmp s):∀(f:Nat) (p:Array Nat) (k:Nat) {Q:Array Nat->Shared->Prop},Ent N p->k+f<=N->Up O key p k->(∀p',p'.Perm p->Up O key p' (k+f)->Q p' s)->(kas_bin f p k).kasWp cmp Q s
 |0,p,k,Q,he,hk,hs,h=>h p (Array.Perm.refl _) hs
 | f+1,p,k,Q,he,hk,hs,h=>by
  show ((kas_place p k k 0 k).bind λl=>kas_bin f (bubble p k (k-l)) (k+1)).kasWp cmp Q s;rw[KasT.kasWp_bind];refine zN hA he hs k 0 k (by omega) (by omega) (by omega) (λi hi=>by omega) (λi h1 h2=>by omega) λl hl hlo hhi=>?_;have ep:(bubble p k (k-l)).Perm p:=bubble_perm _ _ _;have hks:k<p.size:=by rw[he.1];omega
  refine R6 hA f _ (k+1) (he.perm ep) (by omega) (λi j hij hj=>?_) λp' a1 a2=>h p' (a1.trans ep) (by rwa [show k+(f+1)=k+1+f by omega]);rw[K_bubble hks (by omega),K_bubble hks (by omega),show k-(k-l)=l by omega]
  repeat' split
  all_goals first
   |(exfalso;omega)
   |exact KeyOrd.kle_refl _
   |exact hlo _ (by omega)
   |exact KeyOrd.kle_of_klt (hhi _ (by omega) (by omega))
   |exact hs _ _ (by omega) (by omega)
theorem R7(hA:JD O key N cmp s)(h1:1<=N)(h:∀p,p.Perm (toArray (List.range N))->Up O key p N->Q p s):(kas_sort N).kasWp cmp Q s:=by
 unfold kas_sort;rw[KasT.kasWp_bind];have he:Ent N (toArray (List.range N)):=⟨by simp,h1,λx hx=>by simpa using hx⟩;refine Nk hA he h1 (aao _) λm p a1 a2 a3 a4 a5=>?_;show (if m<N then kas_bin (N-max m 1) p (max m 1) else KasT.ret p).kasWp cmp Q s;have em:max m 1=m:=by omega
 by_cases hlt:m<N
 ·rw[aai hlt,em];exact R6 hA _ p m a2 (by omega) a5 λp' b1 b2=>h p' (b1.trans a1) (by rwa [show m+(N-m)=N by omega]at b2)
 ·rw[aal hlt]
  have:m=N:=by omega
  subst this;exact h p a1 a5
end
end pW
namespace pW
theorem cO{α:Type}(l:List α)(d:α):(List.range l.length).map (λi=>l.getD i d)=l:=by
 refine ext_getElem (by simp) λi h1 h2=>?_;simp[h2]
section
variable {prog:Program} {w:World} {A:Around} {E:Value->Shared->Prop} {s:Shared}
def uv(prog:Program)(w:World)(A:Around)(O:KeyOrd)(key:Nat->O.α)(vs:List Value)(s6:Shared):Prop :=
 wpAny (model prog w) A (keyKind' vs.toArray) (λκ s'=>s'=s6/\JD O key vs.length (kas_ask prog w A κ vs) s6) (λ_ _=>False) s6
structure Eh (O:KeyOrd) (key:Nat->O.α) (n:Nat) (p:List Nat):Prop where
 perm:p.Perm (List.range n)
 up:(p.map key).Pairwise O.kle
theorem JE{n:Nat}{p:Array Nat}(h1:p.Perm (toArray (List.range n)))(h2:Up O key p n):Eh O key n p.toList:=by
 have hp:p.toList.Perm (List.range n):=by simpa using Array.perm_iff_toList_perm.mp h1
 refine⟨hp,List.pairwise_iff_getElem.mpr λi j hi hj hij=>?_⟩;have hz:p.toList.length=n:=by rw[hp.length_eq,length_range]
 rw[aah]at hi hj;have q:=h2 i j (le_of_lt hij) (by omega);have ei:p.getD i 0=p.toList[i]:=by simp at hi;simp[Array.getD,hi]
 have ej:p.getD j 0=p.toList[j]:=by simp at hj;simp[Array.getD,hj]
 unfold K at q;rw[ei,ej]at q;rw[getElem_map,getElem_map];exact q
theorem Ei{n:Nat}(ho:s.heap.get? a=some (seqObj "list" vs.toArray n))(h64:vs.length<64)
  (hk:2<=vs.length->∀h6:Heap,(∀b o,b≠a->s.heap.get? b=some o->h6.get? b=some o)->uv prog w A O key vs { s with heap:=h6 })
  (h:∀p,Eh O key vs.length p->P (.done (.ret .none)) { s with heap:=sortedHeap s.heap a vs (p.map λi=>vs.getD i Value.none).toArray }) :
  wpAny (model prog w) A (Builtin.«list.sort» ⟨[.ref a],[]⟩) P E s:=by
 have alt:a<s.heap.objs.size:=aar ho;have big:vs.length<=sizeLine:=by rw[sizeLine_eq];omega
 rw[list_sort_plain];apply aad;apply listItems_at ho rfl;apply aad;refine listUpdate_at ho rfl ?_ (by rw[aaq];exact big) (zero_le _);have q1:=get?_update_seq ho (λ_=>(#[]:Array Value));apply aad;apply seqEpoch_at q1 rfl;apply aad;refine wpAny_newTuple ?_ (by show vs.length<=sizeLine;exact big);apply aad;refine wpAny_newList ?_ (zero_le _);apply wpAny_holding;generalize hN:((s.heap.update a (Obj.mapSeq λ_=>(#[]:Array Value))).push (seqObj "tuple" vs.toArray 0)).push (seqObj "list" #[] 0)=h6;have R8:∀b o,b≠a->s.heap.get? b=some o->h6.get? b=some o:=λb o hb e=>by
  rw[<-hN];refine aag _ (aag _ ?_);rw[Heap.get?_update_ne _ _ _ _ hb];exact e
 have q6:h6.get? a=some (seqObj "list" #[] (if (#[]:Array Value).size==vs.toArray.size then n else n+1)):=by rw[<-hN];exact aag _ (aag _ q1)
 have eS:∀out,h6.update a (Obj.mapSeq λ_=>out)=sortedHeap s.heap a vs out:=λout=>by rw[<-hN];rfl
 show wpAny (model prog w) A _ P E { s with heap:=h6 };dsimp only
 by_cases h2:vs.toArray.size<2
 ·rw[aai h2,aai h2]
  apply aad;apply aaj;rw[StateT.run_pure];apply aad;apply aaj;dsimp only;have eo:(arrOf (SortSt.mk' general' (vs.toArray.zip vs.toArray) #[] 7 none)).map (·.2)=vs.toArray:=by show (vs.toArray.zip vs.toArray).map (·.2)=vs.toArray;apply Array.toList_inj.mp;simp[List.map_snd_zip]
  rw[eo];apply aad;apply seqEpoch_at q6 rfl;apply aad;refine listUpdate_at q6 rfl ?_ (zero_le _) (by show vs.toArray.size<=_;rw[aaq];omega);have hb:((if (#[]:Array Value).size==vs.toArray.size then n else n+1) != (if (#[]:Array Value).size==vs.toArray.size then n else n+1))=false:=by simp
  rw[eS];simp only[hb,false_eq_true,if_false];apply aaj;have g:=h (List.range vs.length) ⟨List.Perm.refl _,?_⟩
  ·rw[cO]at g;exact g
  ·rw[aaq]at h2;refine List.pairwise_iff_getElem.mpr λi j hi hj hij=>?_;simp at hi hj;omega
 ·rw[aal h2,aal h2]
  rw[aaq]at h2;have ask:=hk (by omega) h6 R8;apply aad;refine wpAny_mono ask (λκ s0 hκ=>?_) λ_ _ x=>x.elim;obtain⟨rfl,Zp⟩:=hκ;apply aad;refine wpAny_mono (kat_run (Q:=λst' s'=>s'={ s with heap:=h6 }/\∃p:Array Nat,Eh O key vs.length p.toList/\p.size=vs.length/\(arrOf st').map (·.2)=(p.toList.map λi=>vs.getD i Value.none).toArray/\failedOf st'=none)
   (G:=λp s'=>s'={ s with heap:=h6 }/\Eh O key vs.length p.toList) rfl (by omega) h64 (λp st' s' a1 a2 a3 a4=>⟨a4.1,p,a4.2,a1,kat_snds rfl a2,a3⟩)
   (R7 Zp (by omega) λp b1 b2=>⟨rfl,JE b1 b2⟩)) ?_ λ_ _ x=>x
  rintro⟨⟨⟩,st'⟩ s' ⟨rfl,p,op,pz,er,ef⟩;dsimp only;rw[er];apply aad;apply seqEpoch_at q6 rfl;apply aad;refine listUpdate_at q6 rfl ?_ (zero_le _) (by show (toArray _).size<=_;rw[aaq,aah,aaQ,pz];omega);have hb:((if (#[]:Array Value).size==vs.toArray.size then n else n+1) != (if (#[]:Array Value).size==vs.toArray.size then n else n+1))=false:=by simp
  rw[eS,ef];simp only[hb,false_eq_true,if_false];exact aaj (h p.toList op)
theorem iD
  (h:wpAny (model prog w) A.in1 (collect x) (λvs s1=>vs.length<64/\∃key:Nat->O.α,(2<=vs.length->∀h6:Heap,(∀b o,s1.heap.get? b=some o->h6.get? b=some o)->uv prog w A.in1.in1 O key vs { s1 with heap:=h6 }) /\
   ∀p h',Eh O key vs.length p->(∀b o,s1.heap.get? b=some o->h'.get? b=some o)->(∃e,h'.get? s1.heap.objs.size=some (seqObj "list" (p.map λi=>vs.getD i Value.none).toArray e))->Q (.ref s1.heap.objs.size) { s1 with heap:=h' }) E s) :
  wpAny (model prog w) A (call (.builtin "sorted") [x]) Q E s:=by
 refine Calls.call_function_entry kind_sorted plain_sorted entry_sorted (args_sorted1 _) ?_;unfold Builtin.«sorted»;refine aad (m:=checkCount "sorted" 1 1 _) (aaj ?_);apply aad;refine wpAny_mono h (λvs s1 ⟨h64,key,hk,hq⟩=>?_) λ_ _ z=>z;have big:vs.length<=sizeLine:=by rw[sizeLine_eq];omega
 apply aad;refine wpAny_newList ?_ big;have q:(s1.heap.push (seqObj "list" vs.toArray 0)).get? s1.heap.objs.size=some (seqObj "list" vs.toArray 0):=aav _ rfl;apply aad;apply wpAny_holding;refine wpAny_call_entry (s:={ s1 with heap:=s1.heap.push (seqObj "list" vs.toArray 0) }) slot_list_sort ⟨_,q,rfl⟩ entry_list_sort ?_ (args_list_sort _);refine Ei (key:=key) (s:={ s1 with heap:=s1.heap.push (seqObj "list" vs.toArray 0) }) q h64 (λh2 h6 k6=>?_) λp op=>⟨_,rfl,aaj ⟨_,rfl,?_⟩⟩
 ·exact hk h2 h6 λb o e=>k6 b o (aaA (aar e)) (aag _ e)
 ·refine hq p _ op (λb o e=>?_) (sortedHeap_at q);rw[sortedHeap_old (aaA (aar e)) (by rw[size_push'];exact lt_succ_of_lt (aar e))];exact aag _ e
end
def qN:KeyOrd where
 α:=Int
 blt:=λa b=>decide (a<b)
 irrefl:=λa=>by simp
 trans:=λa b c h1 h2=>by simp at *;omega
 negTrans:=λa b c h=>by simp at *;omega
 total:=λa b h1 h2=>by simp at *;omega
theorem qO{s6:Shared}{ns:List Int}(hI:IntsAre vs ns)(h2:2<=vs.length):uv prog w A qN (λi=>ns.getD i 0) vs s6:=by
 have at_:∀i,i<vs.length->∃t,vs.getD i Value.none=.int (ns.getD i 0) t:=by
  intro i hi
  induction hI generalizing i with
  |nil=>simp at hi
  |cons z t r ih=>
   cases i with
   |zero=>exact⟨t,by simp⟩
   |succ i=>
    by_cases hr:2<=1
    ·omega
    ·simp only[length_cons]at hi
     have aux:∀{vs:List Value} {ns:List Int},IntsAre vs ns->∀i,i<vs.length->∃t,vs.getD i Value.none=.int (ns.getD i 0) t:=by
      intro vs ns q
      induction q with
      |nil=>intro i hi;simp at hi
      |cons z t r ih=>
       intro i hi;cases i with
       |zero=>exact⟨t,by simp⟩
       |succ i=>simp only[length_cons]at hi;obtain⟨u,e⟩:=ih i (by omega);exact⟨u,by simpa using e⟩
     obtain⟨u,e⟩:=aux r i (by omega);exact⟨u,by simpa using e⟩
 obtain⟨v₁,v₂,rest,rfl⟩:∃v₁ v₂ rest,vs=v₁::v₂::rest:=by
  match vs,h2 with
  |v₁::v₂::rest,_=>exact⟨v₁,v₂,rest,rfl⟩
 unfold uv;rw[keyKind_ints hI];refine aaj ⟨rfl,λi j C hi hj hc=>?_⟩;obtain⟨t,e1⟩:=at_ i hi;obtain⟨u,e2⟩:=at_ j hj;unfold kas_ask;rw[e1,e2,keyLt'_oneType];exact oneLt_int hc
theorem j6:∀a,HT.lexLt a a=false
 |[]=>rfl
 |x::xs=>by rw[HT.fX,aai rfl];exact j6 xs
theorem jb:∀a b,HT.lexLt a b=false->HT.lexLt b a=false->a=b
 |[],[],_,_=>rfl
 |[],_::_,h,_=>by rw[HT.iA]at h;cases h
 |_::_,[],_,h=>by rw[HT.iA]at h;cases h
 | x::xs,y::ys,h1,h2=>by
  rw[HT.fX]at h1 h2
  by_cases e:x=y
  ·subst e;rw[aai rfl]at h1 h2;rw[jb xs ys h1 h2]
  ·rw[aal e]at h1;rw[aal (λz=>e z.symm)]at h2;simp at h1 h2;omega
theorem jc:∀a b c,HT.lexLt a b=true->HT.lexLt b c=true->HT.lexLt a c=true
 |[],[],c,h,_=>by rw[HT.tF]at h;cases h
 |[],_::_,[],_,h=>by rw[HT.ff]at h;cases h
 |[],_::_,_::_,_,_=>rfl
 |_::_,[],_,h,_=>by rw[HT.ff]at h;cases h
 |_::_,_::_,[],_,h=>by rw[HT.ff]at h;cases h
 | x::xs,y::ys,z::zs,h1,h2=>by
  rw[HT.fX]at h1 h2 |-
  by_cases e1:x=y
  ·subst e1
   rw[aai rfl]at h1
   by_cases e2:x=z
   ·subst e2;rw[aai rfl]at h2 |-;exact jc xs ys zs h1 h2
   ·rw[aal e2]at h2 |-;exact h2
  ·rw[aal e1]at h1
   by_cases e2:y=z
   ·subst e2;rw[aal e1];exact h1
   ·rw[aal e2]at h2;simp at h1 h2;rw[aal (by omega)];simp;omega
theorem uw(a b c:List Int)(h:HT.lexLt a c=true):HT.lexLt a b=true\/HT.lexLt b c=true:=by
 cases h1:HT.lexLt a b with
 |true=>exact .inl rfl
 |false=>
  cases h2:HT.lexLt b c with
  |true=>exact .inr rfl
  |false=>
   cases h3:HT.lexLt b a with
   |true=>have:=jc _ _ _ h3 h;rw[h2]at this;cases this
   |false=>rw[jb _ _ h1 h3]at h;rw[h2]at h;cases h
def lexOrd:KeyOrd where
 α:=List Int
 blt:=HT.lexLt
 irrefl:=j6
 trans:=jc
 negTrans:=uw
 total:=jb
section
variable {prog:Program} {w:World} {A:Around} {s:Shared}
theorem pG{b fin:Bool}:∀{us vs:List Value} {ns ms:List Int} (i:Nat),IntsAre us ns->IntsAre vs ms->(ns.length<ms.length↔fin=true)->us.length=ns.length ->
  Q (HT.lexLt ns ms) s->(ns.length=ms.length\/i=i)->(∀k,k<ns.length->k<ms.length->True)->(ns.length≠ms.length->True)->(fin=decide (ns.length<ms.length))->KatLex prog w A b fin Q (us.zip vs) i s
 | _,_,_,_,i,.nil,.nil,_,_,hq,_,_,_,hf=>by
  refine kat_nil ?_;rw[hf];exact hq
 | _,_,_,_,i,.nil,.cons _ _ _,_,_,hq,_,_,_,hf=>by
  refine kat_nil ?_;rw[hf];simpa [HT.iA] using hq
 | _,_,_,_,i,.cons _ _ _,.nil,_,_,hq,_,_,_,hf=>by
  refine kat_nil ?_;rw[hf];simpa [HT.ff] using hq
 | _,_,_,_,i,.cons x t r,.cons y u r',h1,h2,hq,_,_,_,hf=>by
  refine kat_cons (wpAny_eqBool_int ?_);rw[HT.fX]at hq
  by_cases e:x=y
  ·subst e
   rw[aai rfl]at hq;rw[beq_self_eq_true];refine kat_yes (pG (i+1) r r' ?_ ?_ hq (.inr rfl) (λ_ _ _=>trivial) (λ_=>trivial) ?_)
   ·simpa using h1
   ·simpa using h2
   ·rw[hf];simp
  ·rw[aal e]at hq
   rw[show (x==y)=false from aaU.mpr e];refine kat_no ?_;cases hb:(b&&i==0) with
   |true=>exact oneLt_int hq
   |false=>exact kat_one _ _ (PyProof.Rows.lt_int hq)
end
end pW
end L2
end
section
namespace L2
open PySem PySem.Spec PyProof.Rows
def Wi:Key->PyData
 |.inl i=>.int i
 |.inr x=>.str x
mutual
noncomputable def Den(K:Frag)(H:Hp):PyData->V->Prop
 |.none,v=>v=.non
 |.bool b,v=>v=.bl b
 |.int i,v=>v=.int i
 |.str x,v=>v=.str x
 |.list ds,v=>∃a xs,v=.ref a/\iu K H a xs/\eO K H ds xs
 |.tuple ds,v=>∃a xs,v=.ref a/\kO K H a xs/\eO K H ds xs
 |.dict kvs,v=>∃a ks,v=.ref a/\H a=some (.dK ks)/\nh K H kvs ks
noncomputable def eO(K:Frag)(H:Hp):List PyData->List V->Prop
 |[],xs=>xs=[]
 |d::ds,xs=>∃x r,xs=x::r/\Den K H d x/\eO K H ds r
noncomputable def nh(K:Frag)(H:Hp):List (PyData×PyData)->List (Key×V)->Prop
 |[],ks=>ks=[]
 |(k,d)::r,ks=>∃key x rest,ks=(key,x)::rest/\k=Wi key/\Den K H d x/\nh K H r rest
end
theorem zL.tup{K:Frag}{H H':Hp}{a:Addr}{xs:List V}(e:zL H H')(h:kO K H a xs):kO K H' a xs:=by
 rcases h with (h|⟨o,h⟩)|h
 ·exact .inl (.inl (e _ _ h))
 ·exact .inl (.inr ⟨o,e _ _ h⟩)
 ·exact .inr h
section
variable {K:Frag} {H H':Hp}
mutual
theorem Den.same(e:zL H H'):∀(d:PyData) (v:V),Den K H d v->Den K H' d v
 |.none,_,h=>by rw[Den]at h |-;exact h
 |.bool _,_,h=>by rw[Den]at h |-;exact h
 |.int _,_,h=>by rw[Den]at h |-;exact h
 |.str _,_,h=>by rw[Den]at h |-;exact h
 | .list ds,v,h=>by
  rw[Den]at h |-;obtain⟨a,xs,q1,q2,q3⟩:=h;exact⟨a,xs,q1,e.seq q2,eO.same e ds xs q3⟩
 | .tuple ds,v,h=>by
  rw[Den]at h |-;obtain⟨a,xs,q1,q2,q3⟩:=h;exact⟨a,xs,q1,e.tup q2,eO.same e ds xs q3⟩
 | .dict kvs,v,h=>by
  rw[Den]at h |-;obtain⟨a,ks,q1,q2,q3⟩:=h;exact⟨a,ks,q1,e _ _ q2,nh.same e kvs ks q3⟩
theorem eO.same(e:zL H H'):∀(ds:List PyData) (xs:List V),eO K H ds xs->eO K H' ds xs
 |[],_,h=>by rw[eO]at h |-;exact h
 | d::ds,xs,h=>by
  rw[eO]at h |-;obtain⟨x,r,q1,q2,q3⟩:=h;exact⟨x,r,q1,Den.same e d x q2,eO.same e ds r q3⟩
theorem nh.same(e:zL H H'):∀(kvs:List (PyData×PyData)) (ks:List (Key×V)),nh K H kvs ks->nh K H' kvs ks
 |[],_,h=>by rw[nh]at h |-;exact h
 | (k,d)::r,ks,h=>by
  rw[nh]at h |-;obtain⟨key,x,rest,q1,q2,q3,q4⟩:=h;exact⟨key,x,rest,q1,q2,Den.same e d x q3,nh.same e r rest q4⟩
end
theorem eO.nil:eO K H [] []:=by rw[eO]
theorem eO.cons{d:PyData}{ds:List PyData}{x:V}{r:List V}(h1:Den K H d x)(h2:eO K H ds r):eO K H (d::ds) (x::r):=by rw[eO];exact⟨x,r,rfl,h1,h2⟩
theorem Den.int{i:Int}:Den K H (.int i) (.int i):=by rw[Den]
theorem Den.str:Den K H (.str x) (.str x):=by rw[Den]
theorem Den.bool{b:Bool}:Den K H (.bool b) (.bl b):=by rw[Den]
theorem Den.none:Den K H .none .non:=by rw[Den]
theorem Den.list(h:iu K H a xs)(q:eO K H ds xs):Den K H (.list ds) (.ref a):=by rw[Den];exact⟨a,xs,rfl,h,q⟩
theorem Den.tuple(h:kO K H a xs)(q:eO K H ds xs):Den K H (.tuple ds) (.ref a):=by rw[Den];exact⟨a,xs,rfl,h,q⟩
end
section
variable {X:Cx} {pins:List (Addr×Obj)} {σ:St} {H:Hp} {s:Shared}
mutual
theorem Den.reads(I:Inv X pins σ H s):∀(d:PyData) (v:V) (u:Value),d.canLay0=true->Den X.K H d v->RelV v u->∃as,Reads s.heap u d as
 |.none,v,u,_,h,r=>by rw[Den]at h;subst h;cases r;exact⟨_,.none⟩
 |.bool b,v,u,_,h,r=>by rw[Den]at h;subst h;cases r;exact⟨_,.bool b⟩
 |.int i,v,u,_,h,r=>by rw[Den]at h;subst h;obtain⟨t,rfl⟩:=r;exact⟨_,.int i t⟩
 |.str x,v,u,_,h,r=>by rw[Den]at h;subst h;obtain⟨t,rfl⟩:=r;exact⟨_,.str x t⟩
 | .list ds,v,u,c,h,r=>by
  rw[Den]at h;obtain⟨a,xs,rfl,q1,q2⟩:=h;cases r;obtain⟨its,rv,⟨o,n,e1,e2,_,e3⟩,_⟩:=I.list q1;obtain⟨as,ra⟩:=eO.reads I ds xs its (by simpa [PyData.canLay0] using c) q2 rv;exact⟨_,.list e1 e2 e3 (by simpa using ra)⟩
 | .tuple ds,v,u,c,h,r=>by
  rw[Den]at h;obtain⟨a,xs,rfl,q1,q2⟩:=h;cases r;obtain⟨its,rv,⟨o,e1,e2,n,e3⟩,_⟩:=I.tuple q1;obtain⟨as,ra⟩:=eO.reads I ds xs its (by simpa [PyData.canLay0] using c) q2 rv;exact⟨_,.tuple e1 e2 e3 (by simpa using ra)⟩
 |.dict _,_,_,c,_,_=>by simp[PyData.canLay0]at c
theorem eO.reads(I:Inv X pins σ H s):∀(ds:List PyData) (xs:List V) (us:List Value),PyData.canLayAll0 ds=true->eO X.K H ds xs->Vals xs us->∃as,ReadsAll s.heap us ds as
 |[],xs,us,_,h,r=>by rw[eO]at h;subst h;cases r;exact⟨_,.nil⟩
 | d::ds,xs,us,c,h,r=>by
  have c':d.canLay0=true/\PyData.canLayAll0 ds=true:=by simpa [PyData.canLayAll0] using c
  rw[eO]at h;obtain⟨x,rest,rfl,q1,q2⟩:=h;cases r with
  |cons r1 r2=>obtain⟨as,ra⟩:=Den.reads I d x _ c'.1 q1 r1;obtain⟨bs,rb⟩:=eO.reads I ds rest _ c'.2 q2 r2;exact⟨_,.cons ra rb⟩
end
end
section
variable {X:Cx}
def Wj(K:Frag):R2:=λx y H Q=>∃d e,Den K H d x/\Den K H e y/\d.canLay0=true/\e.canLay0=true/\d.depth<=60/\Q (.bl (PyData.eqv d e)) H
def Wk(K:Frag):R2:=λx y H Q=>∃d e,Den K H d x/\Den K H e y/\d.canLay0=true/\e.canLay0=true/\d.depth<=60/\Q (.bl (!PyData.eqv d e)) H
theorem Nl(hu:X.A.units+64<cLine):kR X (compareOp .Eq) (Wj X.K):=by
 intro pins s σ H x y v u Q I rx ry h;obtain⟨d,e,hd,he,c1,c2,hz,q⟩:=h;obtain⟨as,ra⟩:=Den.reads I d x v c1 hd rx;obtain⟨bs,rb⟩:=Den.reads I e y u c2 he ry;exact SeqAt.compareEq_reads ra rb c1 c2 (by have:=Nat.min_le_left d.depth e.depth;omega) ⟨.bl _,H,I,rfl,q⟩
theorem Nn(hu:X.A.units+64<cLine):kR X (compareOp .NotEq) (Wk X.K):=by
 intro pins s σ H x y v u Q I rx ry h;obtain⟨d,e,hd,he,c1,c2,hz,q⟩:=h;obtain⟨as,ra⟩:=Den.reads I d x v c1 hd rx;obtain⟨bs,rb⟩:=Den.reads I e y u c2 he ry;exact SeqAt.compareNe_reads ra rb c1 c2 (by have:=Nat.min_le_left d.depth e.depth;omega) ⟨.bl _,H,I,rfl,q⟩
theorem qP{ns:List Int}(I:Inv X pins σ H s)(hq:iu X.K H p (ns.map V.int))(h64:ns.length<64)
  (q:∀l,H l=none->Q (.ref l) (upd H l (.lst ((sortI ns).map V.int)))):wpAny (model X.prog X.w) X.A (call (.builtin "sorted") [.ref p]) (EP X pins σ Q) X.xe s:=by
 obtain⟨its,rv,pl,hz⟩:=I.list hq;have hi:=intsAre_of rv;have hl:=hi.length;refine sorted_ints pl.isList hi (by omega) λout ns' a1 a2 a3=>?_;obtain⟨e,he⟩:=sortedAll_at s.heap its out;have es:ns'=sortI ns:=eq_sortI a2 a3;subst es;have hn:H (s.heap.objs.size+1)=none:=I.hok.fresh (le_succ _);refine⟨.ref (s.heap.objs.size+1),_,I.laid (t':=s.toks) (λb o z=>sortedAll_old z) (le_succ _) (show bR X.prog X.w _ _ _ (.lst ((sortI ns).map V.int)) from⟨?_,out.toList,e,jH a1,by simpa using he⟩),rfl,q _ hn⟩;rw[aah,(aaF ns).length_eq,sizeLine_eq];omega
theorem oq:cZ X (.builtin "sorted") (λxs H Q=>∃p ns,xs=[.ref p]/\iu X.K H p (ns.map V.int)/\ns.length<64/\∀l,H l=none->Q (.ref l) (upd H l (.lst ((sortI ns).map V.int)))):=by
 intro pins s σ H xs us Q I r h;obtain⟨p,ns,rfl,hq,h64,q⟩:=h;obtain⟨u,rfl,ru⟩:=vals1 r;cases ru;exact qP I hq h64 q
def R9(K:Frag)(H:Hp)(r:Addr×List Int):Prop:=kO K H r.1 (r.2.map V.int)/\r.2≠[]
theorem zO{pins:List (Addr×Obj)}{σ:St}{H:Hp}{s:Shared}{A:Around}{rs:List (Addr×List Int)}{h6:Heap}{s6:Shared}(I:Inv X pins σ H s)(ht:∀r∈rs,R9 X.K H r)(h2:2<=rs.length)(k:∀b o,s.heap.get? b=some o->s6.heap.get? b=some o) :
  pW.uv X.prog X.w A pW.lexOrd (λi=>(rs.getD i (0,[])).2) (rs.map λr=>Value.ref r.1) s6:=by
 have tup:∀r∈rs,∃its o n,s6.heap.get? r.1=some o/\o.cls=.type "tuple" /\ o.data=.seq (toArray its) n/\IntsAre its r.2:=λr hr=>by
  obtain⟨its,rv,⟨o,e1,e2,n,e3⟩,_⟩:=I.tuple (ht r hr).1;exact⟨its,o,n,k _ _ e1,e2,e3,intsAre_of rv⟩
 have kt:∀rs:List (Addr×List Int),(∀r∈rs,∃its o n,s6.heap.get? r.1=some o/\o.cls=.type "tuple" /\ o.data=.seq (toArray its) n/\IntsAre its r.2)->(∀r∈rs,r.2≠[]) ->
   ∃fs,PySem.W.KatTups s6.heap (rs.map λr=>Value.ref r.1) fs/\fs.length=rs.length/\∀v∈fs,∃i t,v=Value.int i t:=by
  intro rs
  induction rs with
  |nil=>intro _ _;exact⟨[],PySem.W.KatTups.nil,rfl,λv hv=>nomatch hv⟩
  |cons r rs ih=>
   intro g1 g2;obtain⟨fs,q1,q2,q3⟩:=ih (λr' hr'=>g1 r' (aam _ hr')) λr' hr'=>g2 r' (aam _ hr');obtain⟨its,o,n,e1,e2,e3,hi⟩:=g1 r aan;have hne:=g2 r aan;cases hr:r.2 with
   |nil=>exact absurd hr hne
   |cons i is=>
    rw[hr]at hi;cases hi with
    |cons _ t hi'=>
     refine⟨.int i t::fs,PySem.W.KatTups.cons e1 e2 e3 (by simp) q1,by simp[q2],λv hv=>?_⟩
     rcases aaG.mp hv with z|z
     ·exact⟨i,t,z⟩
     ·exact q3 v z
 obtain⟨fs,q1,q2,q3⟩:=kt rs tup λr hr=>(ht r hr).2;unfold pW.uv;refine PySem.W.kat_kind q1 (by omega) (T:=Value.type "int") (λv hv=>?_) rfl ⟨rfl,λi j C hi hj hc=>?_⟩
 ·obtain⟨i,t,rfl⟩:=q3 v hv;exact PySem.W.Looks.of_pure rfl
 ·rw[aah]at hi hj
  unfold PySem.W.kas_ask;have e1:(rs.map λr=>Value.ref r.1).getD i Value.none=Value.ref rs[i].1:=by simp[hi]
  have e2:(rs.map λr=>Value.ref r.1).getD j Value.none=Value.ref rs[j].1:=by simp[hj]
  have e3:rs.getD i (0,[])=rs[i]:=by simp[hi]
  have e4:rs.getD j (0,[])=rs[j]:=by simp[hj]
  rw[e1,e2];simp only[e3,e4]at hc;obtain⟨its,o,n,a1,a2,a3,a4⟩:=tup rs[i] (List.getElem_mem hi);obtain⟨its',o',n',b1,b2,b3,b4⟩:=tup rs[j] (List.getElem_mem hj);have l1:=a4.length;have l2:=b4.length;refine kat_lt a1 a3 b1 b3 (pW.pG 0 a4 b4 ?_ l1 hc (.inr rfl) (λ_ _ _=>trivial) (λ_=>trivial) ?_)
  ·rw[aaq,aaq,l1,l2];simp
  ·rw[aaq,aaq,l1,l2]
theorem CB{rs:List (Addr×List Int)}:∀{us:List Value},Vals (rs.map λr=>V.ref r.1) us->us=rs.map λr=>Value.ref r.1:=by
 induction rs with
 |nil=>intro us r;cases r;rfl
 |cons a rs ih=>
  intro us r;cases r with
  |cons r1 r2=>cases r1;rw[ih r2];rfl
theorem ou:cZ X (.builtin "sorted") (λxs H Q=>∃(p:Addr) (rs:List (Addr×List Int)),xs=[.ref p]/\iu X.K H p (rs.map λr=>V.ref r.1)/\rs.length<64/\(∀r∈rs,R9 X.K H r) /\
  ∀(l:Addr) (qs:List (Addr×List Int)),H l=none->qs.Perm rs->qs.Pairwise (λa b=>HT.lexLt b.2 a.2=false)->Q (.ref l) (upd H l (.lst (qs.map λr=>V.ref r.1)))):=by
 intro pins s σ H xs us Q I r h;obtain⟨p,rs,rfl,hq,h64,ht,q⟩:=h;obtain⟨u,rfl,ru⟩:=vals1 r;cases ru;obtain⟨its,rv,pl,hz⟩:=I.list hq;have ev:=CB rv;subst ev;refine pW.iD (O:=pW.lexOrd) (collect_list pl.isList ?_ (by rw[aah,sizeLine_eq];omega));have k1:∀b o,s.heap.get? b=some o->((s.heap.push (seqObj "list" #[] 0)).update s.heap.objs.size (Obj.mapSeq (· ++ (rs.map λr=>Value.ref r.1).toArray))).get? b=some o:=λb o e=>by
  rw[Heap.get?_update_ne _ _ _ _ (aaA (aar e))];exact aag _ e
 have Zq:((s.heap.push (seqObj "list" #[] 0)).update s.heap.objs.size (Obj.mapSeq (· ++ (rs.map λr=>Value.ref r.1).toArray))).objs.size=s.heap.objs.size+1:=by rw[Heap.size_update,size_push']
 refine⟨by rw[aah];exact h64,λi=>(rs.getD i (0,[])).2,λh2 h6 k6=>?_,λpp h' op k' he=>?_⟩
 ·rw[aah]at h2;exact zO (h6:=h6) I ht h2 λb o e=>k6 b o (k1 b o e)
 ·rw[aah]at op
  dsimp only at k' he |-;rw[Zq]at he |-;obtain⟨e,he⟩:=he;have hn:H (s.heap.objs.size+1)=none:=I.hok.fresh (le_succ _);have lp:pp.length=rs.length:=by rw[op.perm.length_eq,length_range]
  have mem:∀i∈pp,i<rs.length:=λi hi=>by simpa using op.perm.mem_iff.mp hi
  have Wl:(pp.map λi=>(rs.map λr=>Value.ref r.1).getD i Value.none)=(pp.map λi=>rs.getD i (0,[])).map λr=>Value.ref r.1:=by rw[aaW];refine map_congr_left λi hi=>?_;simp[mem i hi]
  have qp:(pp.map λi=>rs.getD i (0,[])).Perm rs:=by have:=op.perm.map λi=>rs.getD i (0,[]);rwa [pW.cO]at this
  have qs:(pp.map λi=>rs.getD i (0,[])).Pairwise (λa b=>HT.lexLt b.2 a.2=false):=by have up1:=pairwise_map.mp op.up;exact pairwise_map.mpr up1
  refine⟨.ref (s.heap.objs.size+1),_,I.laid (t':=s.toks) (λb o z=>k' b o (k1 b o z)) (le_succ _) (show bR X.prog X.w _ _ _ (.lst ((pp.map λi=>rs.getD i (0,[])).map λr=>V.ref r.1)) from⟨?_,_,e,?_,he⟩),rfl,q _ _ hn qp qs⟩
  ·rw[aah,aah,lp,sizeLine_eq];omega
  ·rw[Wl]
   generalize (pp.map λi=>rs.getD i (0,[]))=zs
   induction zs with
   |nil=>exact .nil
   |cons z zs ih=>exact .cons rfl ih
end
section
variable {X:Cx}
theorem zP{bs:List Bool}:∀{us:List Value},Vals (bs.map V.bl) us->us=bs.map Value.bool:=by
 induction bs with
 |nil=>intro us r;cases r;rfl
 |cons a bs ih=>
  intro us r;cases r with
  |cons r1 r2=>cases r1;rw[ih r2];rfl
theorem qQ(bs:List Bool):((List.range bs.length).all λi=>bs.getD i true)=bs.all id:=by
 conv=>rhs;rw[<-pW.cO bs true]
 rw[all_map];rfl
theorem tK(hc:X.calm=true):cZ X (.builtin "all") (λxs H Q=>∃(p:Addr) (bs:List Bool),xs=[.ref p]/\iu X.K H p (bs.map V.bl)/\Q (.bl (bs.all id)) H):=by
 intro pins s σ H xs us Q I r h;obtain⟨p,bs,rfl,hq,q⟩:=h;obtain⟨u,rfl,ru⟩:=vals1 r;cases ru;obtain⟨its,rv,pl,hz⟩:=I.list hq;have ev:=zP rv;subst ev;have hpl:=pl.isList;have hlt:p<s.heap.objs.size:=by obtain⟨_,e,_⟩:=hpl;exact aar e
 refine call_all_walk (wpAny_pyIter_list hpl ⟨s.heap.objs.size,[s.heap.objs.size,p],[s.heap.objs.size],_,_,_,λi=>bs.getD i true,rfl,Walks.list (A:=X.A.in1) (I.ok.hd hc) _ p (aaA hlt) (bs.map Value.bool).toArray,
  ⟨⟨_,aav _ rfl,rfl,rfl⟩,hpl.push _⟩,λi v s' Q' E' hP hQ=>?_,λh' tk hk=>?_⟩)
 ·have hi:i<bs.length:=by simpa using (Array.getElem?_eq_some_iff.mp hP).1
  have e:v=Value.bool (bs.getD i true):=by
   have:(bs.map Value.bool)[i]?=some v:=by simpa using hP
   simp[hi]at this;simp[hi,this]
  subst e;exact wpAny_truthy_bool hQ
 ·have e:((List.range (bs.map Value.bool).toArray.size).all λi=>bs.getD i true)=bs.all id:=by rw[aaq,aah];exact qQ bs
  rw[e];exact⟨.bl _,H,I.kept λb o z=>hk b o (by simp;exact aaA (aar z)) (aag _ z),rfl,q⟩
section
open PySem.AutoSeq1 (wpAny_loadPart')
theorem vB(l b:Addr)(items items2:Array Value)(n n2:Nat)(dd2:Option Addr)(sl2:Array (Option Value))(hs0:¬(!items.isEmpty&&Builtin.List.listTooLong (items.size+items2.size))=true)(hs1:items.size<=sizeLine)(hs2:items.size+items2.size<=sizeLine+1) :
  Meets (Builtin.«list.extend» ⟨[.ref l,.ref b],[]⟩) (λ_ R s=>s.heap.get? l=some { cls:=.type "list",data:=.seq items n }/\s.heap.get? b=some { cls:=.type "tuple",dict:=dd2,data:=.seq items2 n2,slots:=sl2 } /\
   R (.ok (.ret Value.none)) { s with heap:=s.heap.update l (Obj.mapSeq λx=>x++items2) }) :=
 .of_wp λprog w A R s h=>by
  obtain⟨hp,g,d,tk,os⟩:=s;obtain⟨hl,hb,h⟩:=h;have f2:=AutoSeq1.sub_tuple_tuple;have f3:=AutoSeq1.sub_list_list;have f4:=AutoSeq1.sub_tuple_list;have f5:=AutoSeq1.sub_list_tuple;have hz':(items++items2).size<=sizeLine+1:=by rw[Array.size_append];exact hs2
  wp_walk using (wpAny_updateSeq hl rfl (hz:=hs1) (_hz':=hz')),wpAny_loadPart' hl,wpAny_loadPart' hb
  exact⟨_,rfl,h⟩
end
def Ej(K:Frag):V->List V->Hp->VK->Prop:=λx vs H Q=>∃l b xs zs,x=.ref l/\vs=[.ref b]/\H l=some (.lst xs)/\kO K H b zs/\xs.length+zs.length<=sizeLine/\Q .non (upd H l (.lst (xs++zs)))
theorem zQ:U7 X "list.extend" (Ej X.K):=by
 intro pins s σ H x vs v us Q I rx rv h;obtain⟨l,b,xs,zs,rfl,rfl,hH,hB,hz,q⟩:=h;cases rx;obtain⟨u,rfl,ru⟩:=rv.one;cases ru;obtain⟨z,its,n,r,hl,e⟩:=I.D4 hH;obtain⟨its2,r2,⟨⟨oc,od,Zr,osl⟩,e2,ec,n2,ed⟩,z2⟩:=I.tuple hB;cases ec;cases ed;have l2:=r2.length;have hsz:its.toArray.size+its2.toArray.size<=sizeLine:=by rw[aaq,aaq];omega
 have D5:¬ (!its.toArray.isEmpty&&Builtin.List.listTooLong (its.toArray.size+its2.toArray.size))=true:=by rw[wX hsz,Bool.and_false];exact aac
 refine call_meets F.slot_list_extend ⟨_,e,rfl⟩ F.entry_list_extend (F.args_list_extend_2 _ _)
  (vB l b its.toArray its2.toArray n n2 od osl D5 (by rw[aaq];omega) (by omega)) ⟨e,e2,?_⟩
 refine⟨.non,_,I.Jt (its':=its++its2) hH e (by simp) (r.append r2) ?_,rfl,q⟩;rw[aaB];omega
end
end L2
end
section
namespace L2
open PySem
def ux(xs:Array Nat):Prop:=xs.toList.Pairwise (· < ·)
structure Cut (xs:Array Nat) (j p:Nat):Prop where
 le:p<=xs.size
 lo:∀(i:Nat) (hi:i<xs.size),i<p->xs[i]<j
 hi:∀(i:Nat) (hi:i<xs.size),p<=i->j<=xs[i]
theorem Cut.one{xs:Array Nat}{j p q:Nat}(a:Cut xs j p)(b:Cut xs j q):p=q:=by
 rcases Nat.lt_trichotomy p q with h|h|h
 ·have hp:p<xs.size:=aas h b.le;have:=a.hi p hp (aao _);have:=b.lo p hp h;omega
 ·exact h
 ·have hq:q<xs.size:=aas h a.le;have:=b.hi q hq (aao _);have:=a.lo q hq h;omega
theorem ux.get{xs:Array Nat}(r:ux xs){a b:Nat}(ha:a<xs.size)(hb:b<xs.size)(h:a<b):xs[a]<xs[b]:=by
 have:=List.pairwise_iff_getElem.mp r a b (by simpa using ha) (by simpa using hb) h;simpa using this
theorem zR{xs:Array Nat}(r:ux xs)(j:Nat):∀(fuel lo hi:Nat),lo<=hi->hi<=xs.size->hi-lo<=fuel->(∀(i:Nat) (hi:i<xs.size),i<lo->xs[i]<j)->(∀(i:Nat) (h:i<xs.size),hi<=i->j<=xs[i])->Cut xs j (SetTable.below.go xs j fuel lo hi)
 | 0,lo,hi,h1,h2,h3,a,b=>by
  have:lo=hi:=by omega
  subst this;exact⟨h2,a,b⟩
 | fuel+1,lo,hi,h1,h2,h3,a,b=>by
  unfold SetTable.below.go
  by_cases hlt:lo<hi
  ·rw[aai hlt]
   dsimp only;have hm:(lo+hi)/2<xs.size:=by omega
   have eg:xs.getD ((lo+hi)/2) j=xs[(lo+hi)/2]:=by simp[Array.getD,hm]
   rw[eg]
   by_cases hc:xs[(lo+hi)/2]<j
   ·rw[aai hc]
    refine zR r j fuel _ hi (by omega) h2 (by omega) (λi hi' hl=>?_) b
    by_cases e:i=(lo+hi)/2
    ·subst e;exact hc
    ·exact lt_trans (r.get hi' hm (by omega)) hc
   ·rw[aal hc]
    refine zR r j fuel lo _ (by omega) (by omega) (by omega) a (λi hi' hl=>?_)
    by_cases e:i=(lo+hi)/2
    ·subst e;omega
    ·have:=r.get hm hi' (by omega);omega
  ·rw[aal hlt]
   have:lo=hi:=by omega
   subst this;exact⟨h2,a,b⟩
theorem lO{xs:Array Nat}(r:ux xs)(j:Nat):Cut xs j (SetTable.below xs j) :=
 zR r j xs.size 0 xs.size (zero_le _) (aao _) (by omega) (λi _ h=>by omega) (λi h hl=>by omega)
theorem zS{xs:Array Nat}(r:ux xs):SetTable.below xs 0=0:=(lO r 0).one ⟨zero_le _,λi _ h=>by omega,λi _ _=>zero_le _⟩
theorem zT{xs:Array Nat}(r:ux xs){i:Nat}(hi:i<xs.size):SetTable.below xs (xs[i]+1)=i+1:=by
 refine(lO r _).one ⟨hi,λk hk h=>?_,λk hk h=>?_⟩
 ·by_cases e:k=i
  ·subst e;omega
  ·have:=r.get hk hi (by omega);omega
 ·have:=r.get hi hk (by omega);omega
theorem CC{xs:Array Nat}(r:ux xs){j:Nat}(h:j∈xs):xs[SetTable.below xs j]?=some j:=by
 obtain⟨k,hk,e⟩:=Array.mem_iff_getElem.mp h;have:SetTable.below xs j=k:=by
  refine(lO r j).one ⟨le_of_lt hk,λi hi h=>?_,λi hi h=>?_⟩
  ·have:=r.get hi hk h;omega
  ·by_cases e':i=k
   ·subst e';omega
   ·have:=r.get hk hi (by omega);omega
 rw[this,Array.getElem?_eq_getElem hk,e]
theorem CD{xs:Array Nat}(r:ux xs){j:Nat}(h:j∉xs):ux (SetTable.insertAt xs (SetTable.below xs j) j):=by
 have c:=lO r j;unfold ux;rw[SetTable.toList_insertAt];have rl:xs.toList.Pairwise (· < ·):=r;have lo:∀a∈xs.toList.take (SetTable.below xs j),a<j:=λa ha=>by
  obtain⟨i,hi,e⟩:=List.mem_iff_getElem.mp ha;rw[length_take,aaQ]at hi;rw[List.getElem_take]at e;have:=c.lo i (by omega) (by omega);rw[<-e];simpa using this
 have up:∀a∈xs.toList.drop (SetTable.below xs j),j<a:=λa ha=>by
  obtain⟨i,hi,e⟩:=List.mem_iff_getElem.mp ha;rw[length_drop,aaQ]at hi;rw[List.getElem_drop]at e;have h1:=c.hi (SetTable.below xs j+i) (by omega) (by omega);have e':xs[SetTable.below xs j+i]'(by omega)=a:=by rw[<-e];simp
  rw[e']at h1;have:a≠j:=λz=>h (by rw[<-z,<-e'];exact Array.getElem_mem _);omega
 rw[List.pairwise_append];refine⟨rl.sublist (List.take_sublist _ _),aa2.mpr ⟨up,rl.sublist (List.drop_sublist _ _)⟩,λa ha b hb=>?_⟩
 rcases aaG.mp hb with e|hb
 ·rw[e];exact lo a ha
 ·exact lt_trans (lo a ha) (up b hb)
theorem ni(n:Nat):ux (Array.range n):=by
 unfold ux;rw[Array.toList_range];exact List.pairwise_lt_range
theorem uy{t:SetTable}(r:ux t.place){j:Nat}(h:t.slot j=.empty\/t.slot j=.dummy):j∉t.place:=λhm=>by
 have e:=CC r hm;unfold SetTable.slot at h;dsimp only at h;rw[e]at h;simp at h
theorem mL{h:Int}:∀(fuel:Nat) (p:SetTable.Probe) (j:Nat) (d:Option Nat),(∀k,p.dummy=some k->t.slot k=.dummy)->SetTable.probe.go t f h fuel p=some (.empty j d)->t.slot j=.empty/\∀k,d=some k->t.slot k=.dummy
 |0,p,j,d,hd,e=>by simp[SetTable.probe.go]at e
 | fuel+1,p,j,d,hd,e=>by
  have ad:∀q:SetTable.Probe,(t.advance q).dummy=q.dummy:=λq=>by unfold SetTable.advance;split<;>rfl
  unfold SetTable.probe.go at e;split at e
  ·rename_i hs;cases e;exact⟨hs,hd⟩
  ·rename_i hs;refine mL fuel _ j d (λk hk=>?_) e;rw[ad]at hk;cases hk;exact hs
  ·split at e
   ·cases e
   ·exact mL fuel _ j d (λk hk=>hd k (by rw[<-ad];exact hk)) e
theorem Ek{t:SetTable}(r:ux t.place){h:Int}{s:Nat}{b:Bool}(e:t.freeSlot h=some (s,b)):s∉t.place:=by
 unfold SetTable.freeSlot at e;split at e
 ·rename_i j d hp
  cases e;obtain⟨h1,h2⟩:=mL _ _ _ _ (λk hk=>by simp[SetTable.probeStart]at hk) hp;cases d with
  |none=>exact uy r (.inl h1)
  |some k=>exact uy r (.inr (h2 k rfl))
 ·cases e
theorem CF(r:ux t.place)(es:Array (Int×Value))(h:Int)(x:Value):ux (layNew t es h x).2.1.place/\(layNew t es h x).2.1.led=t.led:=by
 unfold layNew
 split
 ·rename_i s b e
  have fr:=Ek r e;dsimp only;unfold SetTable.orStandIn
  split
  ·exact⟨CD r fr,rfl⟩
  ·exact⟨ni _,rfl⟩
 ·exact⟨ni _,rfl⟩
theorem El(r:ux t.place)(es:Array (Int×Value))(n:Nat):ux (relayAll t es n).2.1.place/\(relayAll t es n).2.1.led=t.led:=by
 unfold relayAll
 split
 ·rename_i t' order e
  dsimp only
  split
  ·unfold SetTable.relaid SetTable.laid at e;obtain⟨ow,e1,e⟩:=aab.mp e;cases e;refine⟨?_,rfl⟩;show List.Pairwise _ (List.map _ _).toArray.toList;rw[List.toList_toArray,pairwise_map];refine List.Pairwise.filterMap _ (R:=(· < ·)) (λa a' hl b hb b' hb'=>?_) List.pairwise_lt_range;obtain⟨x,_,rfl⟩:=aaJ.mp hb;obtain⟨y,_,rfl⟩:=aaJ.mp hb';exact hl
  ·exact⟨ni _,rfl⟩
 ·exact⟨ni _,rfl⟩
end L2
end
section
namespace L2
open PySem PyProof.Rows
def tM(w:World):Bool:=w.params.followText "set-order"
structure LF (w:World) (es:Array (Int×Value)) (t:SetTable):Prop where
 few:es.size<scanBound
 fit:t.fits es.size=true
 rs:ux t.place
 led:t.led = !tM w
structure fh (prog:Program) (w:World) (h:Heap) (a:Addr) (o:Obj) (es:Array (Int×Value)) (ep:Nat) (t:SetTable) (ks:List Int):Prop where
 at_:h.get? a=some o
 ex:o.ExactSet
 dat:o.data=.set es ep t
 el:ElemsOf (intKind prog w) es.toList
 tab:LF w es t
 XD:ks.Nodup
 mem:∀k,k∈ks↔∃e∈es.toList,(intKind prog w).is k e.2=true
 num:es.size=ks.length
def pX(prog:Program)(w:World)(h:Heap)(a:Addr)(ks:List Int):Prop:=∃o es ep t,fh prog w h a o es ep t ks
def fj(ks:List Int)(k:Int):List Int:=if k∈ks then ks else ks++[k]
section
variable {prog:Program} {w:World} {A:Around} {E:Value->Shared->Prop} {s:Shared}
theorem Em{h:Heap}{a:Addr}{o:Obj}{es es':Array (Int×Value)}{ep:Nat}{t t':SetTable}(ho:h.get? a=some o)(hd:o.data=.set es ep t):(h.update a (Obj.putSet es' t')).get? a=some { o with data:=.set es' (ep+1) t' }:=by
 have q:=get?_update_self (Obj.putSet es' t') ho (by rw[putSet_of es' t' hd];rfl);rw[putSet_of es' t' hd]at q;exact q
theorem pX.frame{ks:List Int}(S:pX prog w h a ks)(k:∀o,h.get? a=some o->h'.get? a=some o):pX prog w h' a ks:=by
 obtain⟨o,es,ep,t,i⟩:=S;exact⟨o,es,ep,t,{ i with at_:=k o i.at_ }⟩
theorem mem_push{es es1:List (Int×Value)}{ks:List Int}{k:Int}(hx:(intKind prog w).is k x=true)(hm:∀j,j∈ks↔∃e∈es,(intKind prog w).is j e.2=true)(p:es1.Perm (es++[((intKind prog w).hash k,x)]))(j:Int) :
  j∈ks++[k]↔∃e∈es1,(intKind prog w).is j e.2=true:=by
 rw[aaL,aau,hm];constructor
 ·rintro(⟨e,he,q⟩|rfl)
  ·exact⟨e,p.mem_iff.mpr (aaT _ he),q⟩
  ·exact⟨_,p.mem_iff.mpr (aaI _ aan),hx⟩
 ·rintro⟨e,he,q⟩
  rcases aaL.mp (p.mem_iff.mp he) with z|z
  ·exact .inl ⟨e,z,q⟩
  ·rw[aau]at z;subst z;exact .inr ((intKind prog w).inj x j k q hx)
theorem xA{g:Bool->Sem Unit}(hg:∀(b:Bool) (s₁:Shared) (Q':Unit->Shared->Prop),Q' () s₁->wpAny (model prog w) A (g b) Q' E s₁)
  {a:Addr} {o:Obj} {es es1:Array (Int×Value)} {ep:Nat} {t t2:SetTable} {ks:List Int} (ho:s.heap.get? a=some o) (hex:o.ExactSet) (hd:o.data=.set es ep t)
  (hel:ElemsOf (intKind prog w) es1.toList) (hm:∀k,k∈ks↔∃e∈es1.toList,(intKind prog w).is k e.2=true) (hnd:ks.Nodup) (hn:es1.size=ks.length) (ht:LF w es1 t2) {b:Bool} {R:Option Bool->Shared->Prop}
  (h:∀h',Heap.SameBut a s.heap h'->pX prog w h' a ks->R (some true) { s with heap:=h' }) :
  wpAny (model prog w) A (do
    storeSet a es1 t2
    if (!b&&t2.tooFull)=true then do
      g (relayAll t2 es1 (SetTable.grown es1.size)).2.2
      storeSet a (relayAll t2 es1 (SetTable.grown es1.size)).1 (relayAll t2 es1 (SetTable.grown es1.size)).2.1
      pure (some true)
     else pure (some true)) R E s:=by
 refine aad (wpAny_storeSet_of ho hd ?_ (fits_of_scanBound ht.few));have h1:=Em (es':=es1) (t':=t2) ho hd;have b1:=Heap.SameBut.update s.heap a (Obj.putSet es1 t2)
 split
 ·have p:=relayAll_perm t2 es1 (SetTable.grown es1.size)
  have f:=relayAll_fits t2 es1 (SetTable.grown es1.size);have rr:=El ht.rs es1 (SetTable.grown es1.size);generalize relayAll t2 es1 (SetTable.grown es1.size)=Rl at p f rr |-;obtain⟨Wm,t3,gv⟩:=Rl;dsimp only at p f rr |-;have z:Wm.size=es1.size:=by rw[<-aaQ,p.length_eq,aaQ]
  have few:Wm.size<scanBound:=by rw[z];exact ht.few
  refine aad (hg _ _ _ ?_);refine aad (wpAny_storeSet_of h1 rfl ?_ (fits_of_scanBound few));refine aaj (h _ (b1.trans (Heap.SameBut.update _ a _)) ⟨_,Wm,_,t3,Em h1 rfl,hex,rfl,hel.perm p,⟨few,f,rr.1,rr.2.trans ht.led⟩,hnd,λk=>(hm k).trans ⟨λ⟨e,he,q⟩=>⟨e,p.mem_iff.mpr he,q⟩,λ⟨e,he,q⟩=>⟨e,p.mem_iff.mp he,q⟩⟩,z.trans hn⟩)
 ·exact aaj (h _ b1 ⟨_,es1,_,t2,h1,hex,rfl,hel,ht,hnd,hm,hn⟩)
theorem add_int{ks:List Int}{k:Int}(S:pX prog w s.heap a ks)(room:ks.length+1<scanBound)
  (h:∀h' b,Heap.SameBut a s.heap h'->pX prog w h' a (fj ks k)->Q b { s with heap:=h' }) :
  wpAny (model prog w) A (setAddHashed a (.int k tk) ((intKind prog w).hash k)) Q E s:=by
 obtain⟨o,es,ep,t,I⟩:=S;have hx:(intKind prog w).is k (.int k tk)=true:=intKind_is _ _ _ _;have sc:(Value.int k tk).scannable=true:=rfl;unfold setAddHashed setAddHashedIn;refine wpAny_holding (aad (wpAny_setState_of I.at_ I.dat I.tab.fit ?_));dsimp only;rw[byScan_of sc I.tab.few I.el];simp only[↓reduceIte];unfold setAddByScan;refine aad (aad (wpAny_rule (aad (wpAny_setScan_of hx I.at_ I.dat I.tab.fit I.el ?_))));cases hr:List.findIdx? (λe=>(intKind prog w).is k e.2) es.toList with
 |some j=>
  dsimp only;obtain⟨hj,pj,_⟩:=List.findIdx?_eq_some_iff_getElem.mp hr;have hk:k∈ks:=(I.mem k).mpr ⟨es.toList[j],List.getElem_mem hj,pj⟩;refine aaj (aaj ?_);have e:s={ s with heap:=s.heap }:=by cases s;rfl
  rw[e];exact h s.heap _ (Heap.SameBut.refl a s.heap) (by unfold fj;rw[aai hk];exact⟨o,es,ep,t,I⟩)
 |none=>
  dsimp only;have hk:k∉ks:=λz=>by
   obtain⟨e,he,p⟩:=(I.mem k).mp z;have:=List.findIdx?_eq_none_iff.mp hr e he;rw[p]at this;cases this
  have gw:∀(b:Bool) (s₁:Shared) (Q':Unit->Shared->Prop),Q' () s₁->wpAny (model prog w) A (match b with|true=>rule "set.scan.the-table-gave-way" | false=>pure ()) Q' E s₁:=λb s₁ Q' q=>by
   cases b
   ·exact aaj q
   ·exact wpAny_rule q
  have p:=layNew_perm t es ((intKind prog w).hash k) (.int k tk);have f:=layNew_fits t es ((intKind prog w).hash k) (.int k tk);have rr:=CF I.tab.rs es ((intKind prog w).hash k) (.int k tk);generalize layNew t es ((intKind prog w).hash k) (.int k tk)=Ln at p f rr |-;obtain⟨es1,t1,wd,gv⟩:=Ln;dsimp only at p f rr |-;rw[Array.toList_push]at p;have z:es1.size=(ks++[k]).length:=by rw[<-aaQ,p.length_eq,aaB,aaB,aaQ,I.num];rfl
  have few:es1.size<scanBound:=by rw[z,aaB];simpa using room
  have nd:(ks++[k]).Nodup:=by rw[aaN];exact⟨I.XD,by simp,λx hx' y hy e=>hk (by rw[aau]at hy;rw[<-hy,<-e];exact hx')⟩
  have XE:ElemsOf (intKind prog w) es1.toList:=(I.el.push hx sc).perm p;have m1:=mem_push hx I.mem p;have fin:∀h',Heap.SameBut a s.heap h'->pX prog w h' a (ks++[k])->Q true { s with heap:=h' }:=λh' sb S'=>h h' true sb (by unfold fj;rw[aal hk];exact S');refine aad (gw _ _ _ ?_)
  split
  ·refine aad ?_
   rw[hashByValue_scannable 8 sc];refine aaj ?_;refine xA gw I.at_ I.ex I.dat XE m1 nd z ⟨few,?_,?_,?_⟩ λh' sb S'=>aaj (fin h' sb S')
   ·split
    ·exact f
    ·exact SetTable.fits_plain_off f
   ·split
    ·exact rr.1
    ·exact rr.1
   ·split
    ·exact rr.2.trans I.tab.led
    ·exact rr.2.trans I.tab.led
  ·refine aad (aaj ?_);simp only[↓reduceIte];exact xA gw I.at_ I.ex I.dat XE m1 nd z ⟨few,f,rr.1,rr.2.trans I.tab.led⟩ λh' sb S'=>aaj (fin h' sb S')
end
def eV:List Int->List Int->List Int
 |ks,[]=>ks
 |ks,k::r=>eV (fj ks k) r
theorem qR(ks:List Int)(k:Int):(fj ks k).length<=ks.length+1:=by unfold fj;split<;>simp
section
variable {prog:Program} {w:World} {A:Around} {E:Value->Shared->Prop} {s:Shared}
theorem En{R:Result->Shared->Prop}{I:Addr}{fp wr:List Addr}{G:Array GenState->Array GenState->Prop}{n:Nat}{P:Nat->Value->Prop}{St:Nat->Shared->Prop}(W:WalksS prog w A.in1 I fp wr G n P St)(S:Addr)(hSf:S∉fp)(val:Nat->Int)(hval:∀i v,P i v->∃t,v=.int (val i) t) :
  ∀(k i:Nat) (s:Shared) (ks:List Int),n-i=k->i<=n->ks.length+k+1<scanBound->St i s->pX prog w s.heap S ks ->
   (∀s',Moved (S::wr) G s s'->pX prog w s'.heap S (eV ks ((range' i k).map val))->R (.ok (.ret .none)) s') ->
   codeAny (model prog w) A (.builtin "set.update.loop" ⟨[.ref S,.ref I],[]⟩) R s:=by
 have XF:S∉wr:=λh=>hSf (W.sub _ h);have sub:∀b∈wr,b∈S::wr:=λb hb=>aam _ hb;intro k
 induction k with
 |zero=>
  intro i s ks hk hi _ hst hS hR;have:i=n:=by omega
  subst this;refine codeAny_builtin PyProof.Rows.F.entry_set_update_loop ?_;rw[Around.under_plainId PyProof.Rows.F.plain_set_update_loop _];show wpAny _ A.in1 (pyNext (.ref I) >>= _) _ _ s;refine aad (W.done s _ _ hst λs' hm=>?_);show wpAny _ A.in1 (ret Value.none) _ _ s';exact aaj (hR s' (hm.mono sub) (hS.frame λo e=>hm.heap S _ XF e))
 |succ k ih=>
  intro i s ks hk hi hl hst hS hR;have hlt:i<n:=by omega
  refine codeAny_builtin PyProof.Rows.F.entry_set_update_loop ?_;rw[Around.under_plainId PyProof.Rows.F.plain_set_update_loop _];show wpAny _ A.in1 (pyNext (.ref I) >>= _) _ _ s;refine aad (W.item i s _ _ hlt hst λv s' hP Wn hm=>?_);obtain⟨t,rfl⟩:=hval i v hP;have hS':=hS.frame (h':=s'.heap) λo e=>hm.heap S _ XF e;show wpAny _ A.in1 (holding [Value.int (val i) t] (setAdd S (.int (val i) t)) >>= _) _ _ s';refine aad (wpAny_holding ?_);unfold setAdd;refine wpAny_holding (aad ((intKind prog w).pyHash (k:=val i) (intKind_is _ _ _ _) ?_));refine add_int (s:={ s' with toks:=s'.toks+1 }) hS' (by omega) λh' b sb S2=>?_;have hl2:=qR ks (val i);refine aaj ⟨plainId_quiet PyProof.Rows.F.plain_set_update_loop _,ih (i+1) _ (fj ks (val i)) (by omega) hlt (by omega) (W.frame _ s' _ _ Wn (le_succ _) λb hb o e=>?_) S2 λs'' Ni S3=>?_⟩
  ·rw[sb.2 b λz=>hSf (by rw[<-z];exact hb)];exact e
  ·refine hR s'' (Moved.trans W.gtrans ((hm.mono sub).then_heap (le_succ _) λb o hb e=>?_) Ni) ?_
   ·rw[sb.2 b λz=>hb (by rw[z];exact aan)];exact e
   ·rw[List.range'_succ,aap,eV];exact S3
abbrev qS(w:World):Obj:={ cls:=.type "set",dict:=none,data:=.set #[] 0 (.fresh 0 0 (!tM w)) }
theorem JF(e:h.get? a=some (qS w)):pX prog w h a [] :=
 ⟨_,#[],0,_,e,⟨rfl,rfl,rfl⟩,rfl,λx hx=>by simp at hx,⟨by show 0<4096;decide,rfl,List.Pairwise.nil,rfl⟩,nodup_nil,λk=>by simp,rfl⟩
theorem Eo(a:Value)(h:Q₁ (.ref s.heap.objs.size) { s with heap:=s.heap.push (qS w) }) :
  codeAny (model prog w) A (.call (.builtin "set.__new__") ⟨[.type "set",a],[]⟩) (wants Q₁ E) s:=by
 refine codeAny_of_tree ?_;show wpAny _ A.in1 (do checkBuiltinCall "set.__new__" ⟨[.type "set",a],[]⟩;again (.builtin "set.__new__" ⟨[.type "set",a],[]⟩)) _ _ s;refine aad (wpAny_of_eq (PySem.F.newCall_set_1 a) (aaj ⟨plainId_quiet PySem.F.plain_set_new _,codeAny_builtin PySem.F.entry_set_new ?_⟩));rw[Around.under_plainId PySem.F.plain_set_new _];unfold Builtin.«set.__new__» Builtin.Frozenset.newClass;have hsub:=sub_set_self;obtain⟨hp,g,d,tk,os⟩:=s;dsimp only
 wp_walk
 refine wpAny_askSetting (aaj ?_);dsimp only;simp only[newObj];refine aad (wpAny_alloc (aaj ?_));exact aaj h
end
section
variable {prog:Program} {w:World} {A:Around} {E:Value->Shared->Prop} {s:Shared}
theorem zU{ns:List Int}(hi:IntsAre vs ns):(range' 0 vs.length).map (λi=>ns.getD i 0)=ns:=by
 have hl:=IntsAre.length hi;apply ext_getElem
 ·rw[aah,List.length_range',hl]
 ·intro i h1 h2;simp[List.getD,h2]
theorem xB{ns:List Int}(hh:A.handled=none)(hl:s.heap.IsList l items)(hi:IntsAre items.toList ns)(hb:items.size+1<scanBound)
  (h:∀(h':Heap) (tk:Nat),pX prog w h' s.heap.objs.size (eV [] ns)->(∀b o,b<s.heap.objs.size->s.heap.get? b=some o->h'.get? b=some o)->Q (.ref s.heap.objs.size) { s with heap:=h',toks:=tk }) :
  wpAny (model prog w) A (call (.type "set") [.ref l]) Q E s:=by
 obtain⟨c,tl,mro⟩:=PySem.F.called_set.mro;have made:=PySem.F.called_set.made;have sub:=PySem.F.called_set.sub;refine wpAny_call (codeAny_of_tree ?_);show wpAny _ _ (callAny (.type "set") _) _ _ _;refine aaj ⟨Code.quiet_builtin _ (by decide +kernel),codeAny_builtin PySem.F.entry_type_call ?_⟩;rw[Around.under_plain (weight_type_call_type "set" [.ref l] []) rfl];have n1:=PySem.F.called_set.notType;have n2:=PySem.F.called_set.canCreate;have n3:=PySem.F.typeCall_set_1 (.ref l)
 repeat (any_goals (first|assumption|wp_step))
 refine codeAny_mono (Eo (.ref l) (E:=E) (Q₁:=λobj s₁=>obj=.ref s.heap.objs.size/\s₁={ s with heap:=s.heap.push (qS w) }) ⟨rfl,rfl⟩) λr s₁ hr=>?_;cases r with
 |error e=>exact hr
 |ok fl=>
  cases fl with
  |ret obj=>
   obtain⟨rfl,rfl⟩:=hr;have XG:(s.heap.push (qS w)).get? s.heap.objs.size=some (qS w):=aav _ rfl;have hT:Shared.TypeIs { s with heap:=s.heap.push (qS w) } (.ref s.heap.objs.size) "set":=⟨_,XG,rfl⟩;have look:=PySem.F.called_set.init.lookup;have bind:=PySem.F.called_set.init.bind (.ref s.heap.objs.size)
   repeat (any_goals (first|assumption|wp_step))
   refine codeAny_mono (codeAny_call_builtin (R:=wants (λr s₂=>r=.none/\∃h' tk,s₂={ s with heap:=h',toks:=tk }/\pX prog w h' s.heap.objs.size (eV [] ns) /\
     (∀b o,b<s.heap.objs.size->s.heap.get? b=some o->h'.get? b=some o)) E) PySem.F.called_set.init.plain PySem.F.entry_set_init (check_set_init_1 hT ?_)) λr₂ s₂ Wo=>?_
   ·obtain⟨ol,XH,cl,nl,dl⟩:=hl
    obtain⟨oc,od,oda,os⟩:=ol;simp only at cl dl;subst cl;subst dl;have Wq:(s.heap.push (qS w)).get? l=some { cls:=.type "list",dict:=od,data:=.seq items nl,slots:=os }:=aag _ XH;have q1:=PySem.F.sub_list_set;have q2:=PySem.F.sub_list_frozenset;have q3:(Value.type "list" == Value.type "dict")=false:=by decide
    have hl1:(s.heap.push (qS w)).IsList l items:=⟨_,Wq,rfl,nl,rfl⟩;unfold Builtin.«set.__init__» noKeywords Builtin.Frozenset.updateFrom;generalize Zs:pyIter=PI
    wp_walk
    subst Zs;refine wpAny_pyIter_list hl1 (aad (wpAny_runValue ?_));have lS:l<s.heap.objs.size:=aar XH;have h3:A.in1.in1.in1.handled=none:=by simp[hh]
    have Zt:l≠(s.heap.push (qS w)).objs.size:=by rw[size_push];exact aaA (lt_succ_of_lt lS)
    have sF:s.heap.objs.size∉[(s.heap.push (qS w)).objs.size,l]:=by rw[size_push];simp only[mem_cons,not_mem_nil,or_false,not_or];exact⟨aaA (lt_succ_self _),ne_of_gt lS⟩
    have val:∀(i:Nat) (v:Value),items[i]?=some v->∃t,v=.int ((λi=>ns.getD i 0) i) t:=λi v hv=>IntsAre.int_at hi i v (by rw[getElem?_toList];exact hv);refine En ((Walks.list h3 _ l Zt items).toS) s.heap.objs.size sF (λi=>ns.getD i 0) val (items.size-0) 0 _ [] (by omega) (zero_le _) (by simpa using hb) ⟨⟨_,aav _ rfl,rfl,rfl⟩,hl1.push _⟩ ?s0 ?sR
    case s0=>exact JF (aag _ XG)
    case sR=>
     intro s' hm S';obtain⟨h',g',d',tk',os'⟩:=s';have eg:g'=s.gens:=hm.gens;have ed:d'=s.drawn:=hm.drawn;have eo:os'=s.os:=hm.os;subst eg;subst ed;subst eo;refine aaj ?_;show wpAny _ _ (ret Value.none) _ _ _;have e0:(range' 0 (items.size-0)).map (λi=>ns.getD i 0)=ns:=by have:=zU hi;rw[aaQ]at this;exact this
     rw[e0] at S';refine aaj ⟨rfl,h',tk',rfl,S',λb o hb e=>?_⟩;have b1:b≠s.heap.objs.size:=aaA hb;have b2:b≠(s.heap.push (qS w)).objs.size:=by rw[size_push];exact aaA (lt_succ_of_lt hb)
     exact hm.heap b o (by simp only[mem_cons,not_mem_nil,or_false,not_or];exact⟨b1,b2⟩) (aag _ (aag _ e))
   ·cases r₂ with
    |error e=>exact Wo
    |ok Zu=>
     cases Zu with
     |ret r=>
      obtain⟨rfl,h',tk,rfl,S',hk⟩:=Wo
      repeat (any_goals (first|assumption|wp_step))
      exact h _ _ S' hk
     |_=>exact Wo.elim
  |_=>exact hr.elim
end
namespace SI
theorem zV:entryFor table "set.__iter__" = some Builtin.«frozenset.__iter__» :=
 entryFor_alias (id':="frozenset.__iter__") (by kernel_rfl) rfl (by decide +kernel) (by kernel_rfl)
theorem owner:Manifest.owners.lookup (String.ofList ['r','o','t','a','r','e','t','i','_','t','e','s'].reverse)=some Manifest.sig_set_iterator:=by kernel_rfl
theorem slot_next:Slot "set_iterator" "__next__" "set_iterator.__next__" :=
 .of (owner:="set_iterator") (n:="__next__") (by rw[typeLookup_type,builtinLookup_eq_fast];kernel_rfl) (by decide +kernel) (by decide +kernel) (by decide +kernel) (by first|exact .inl (by decide +kernel)|exact .inr (by decide +kernel)) (by rw[isSubtype_type];kernel_rfl)
theorem entry_next:entryFor table "set_iterator.__next__" = some Builtin.«set_iterator.__next__»:=entryFor_of_tree (by kernel_rfl)
theorem args_next(a:Value):argsOk "set_iterator.__next__" ⟨[a],[]⟩:=by
 unfold argsOk;rw[signature?_of (id:="set_iterator.__next__") (n:=['_','_','t','x','e','n','_','_']) (o:=['r','o','t','a','r','e','t','i','_','t','e','s']) (by kernel_rfl) owner];kernel_rfl
theorem uz:Slot "set_iterator" "__iter__" "set_iterator.__iter__" :=
 .of (owner:="set_iterator") (n:="__iter__") (by rw[typeLookup_type,builtinLookup_eq_fast];kernel_rfl) (by decide +kernel) (by decide +kernel) (by decide +kernel) (by first|exact .inl (by decide +kernel)|exact .inr (by decide +kernel)) (by rw[isSubtype_type];kernel_rfl)
theorem entry_self:entryFor table "set_iterator.__iter__" = some Builtin.«dict_keyiterator.__iter__» :=
 entryFor_alias (id':="dict_keyiterator.__iter__") (by kernel_rfl) rfl (by decide +kernel) (by kernel_rfl)
theorem CG(a:Value):argsOk "set_iterator.__iter__" ⟨[a],[]⟩:=by
 unfold argsOk;rw[signature?_of (id:="set_iterator.__iter__") (n:=['_','_','r','e','t','i','_','_']) (o:=['r','o','t','a','r','e','t','i','_','t','e','s']) (by kernel_rfl) owner];kernel_rfl
end SI
section
variable {prog:Program} {w:World} {A:Around} {E:Value->Shared->Prop} {s:Shared}
def fY(h:Heap)(it:Addr)(f:Value)(i:Nat)(a:Addr)(n ep:Nat):Prop:=∃o,h.get? it=some o/\o.cls=.type "set_iterator" /\ o.data=.fields [f,.int i 0,.ref a,.int n 0,.int ep 0].toArray
theorem fY.typeIs{i:Nat}{n ep:Nat}(x:fY s.heap it f i a n ep):s.TypeIs (.ref it) "set_iterator":=let ⟨o,ho,hc,_⟩:=x;⟨o,ho,hc⟩
theorem oz{i:Nat}{n ep:Nat}(x:fY s.heap it f i a n ep)(h:Q (.ref it) s):wpAny (model prog w) A (pyIter (.ref it)) Q E s:=by
 refine wpAny_pyIter_slot x.typeIs SI.uz (wpAny_call_entry SI.uz x.typeIs SI.entry_self ?_ (SI.CG _));exact aaj ⟨_,rfl,"set_iterator",_,x.typeIs,SI.slot_next.lookup,h⟩
end
section
variable {prog:Program} {w:World} {A:Around} {E:Value->Shared->Prop} {s:Shared}
theorem jq{ep:Nat}(ho:s.heap.get? a=some o)(hd:o.data=.set es ep t)(hf:t.fits es.size=true)(h:Q es s):wpAny (model prog w) A (setEntries a) Q E s:=by
 unfold setEntries;exact aad (wpAny_setState_of ho hd hf (aaj h))
theorem lP(h:Q (tM w) s):wpAny (model prog w) A setsByText Q E s:=by
 unfold setsByText;exact aad (wpAny_askSetting (aaj h))
theorem uA{ep sl g:Nat}{ks:List Int}(S:fh prog w s.heap a o es ep t ks)(hb:tM w=false)(hp:(!t.plain&&decide (es.size>1))=false)
  (hQ:Q (match es[SetTable.below t.place sl]?,t.place[SetTable.below t.place sl]? with|some (_,x),some j=>some (x,j+1)|_,_=>none) s):wpAny (model prog w) A (setNext a sl g ep) Q E s:=by
 have led:t.led=true:=by rw[S.tab.led,hb];rfl
 unfold setNext;refine aad (wpAny_setState_of S.at_ S.dat S.tab.fit ?_);dsimp only;refine aad (lP ?_);rw[hb];simp only[false_eq_true,↓reduceIte];rw[aal (λz=>by
  have z':(!t.plain&&decide (es.size>1))=true:=z;rw[hp]at z';cases z')]
 refine aad ?_;show wpAny _ _ (if (!t.led && !es.isEmpty)=true then Sem.unsupported "set:maker-not-led" else pure ()) _ _ _;rw[aal (by rw[led];simp)];exact aaj (aaj hQ)
theorem uB{ep sl g:Nat}{ks:List Int}(S:fh prog w s.heap a o es ep t ks)(hb:tM w=true)
  (hQ:Q (((pickOrder (w.params.setOrder a ep) es)[g]?).map λe=>(e.2,sl)) s):wpAny (model prog w) A (setNext a sl g ep) Q E s:=by
 unfold setNext;refine aad (wpAny_setState_of S.at_ S.dat S.tab.fit ?_);dsimp only;refine aad (lP ?_);rw[hb];simp only[bne_self_eq_false,false_eq_true,↓reduceIte];unfold setWalk;refine aad (aad (wpAny_setState_of S.at_ S.dat S.tab.fit ?_));dsimp only;refine aad (lP ?_);rw[hb];simp only[↓reduceIte];exact aad (wpAny_askSetting (aaj (aaj hQ)))
theorem nj{ep:Nat}{ks:List Int}{i sl:Nat}(hh:A.handled=none)(x:fY s.heap it (.int sl 0) i a es.size ep)(S:fh prog w s.heap a o es ep t ks)
  (hn:∀(A:Around) (E:Value->Shared->Prop) (Q:Option (Value×Nat)->Shared->Prop),Q r s->wpAny (model prog w) A (setNext a sl i ep) Q E s)
  (hQ:∀v nx,r=some (v,nx)->∀h',fY h' it (.int (nx:Nat) 0) (i+1) a es.size ep->Heap.SameBut it s.heap h'->Q (some v) { s with heap:=h' })
  (hE:r=none->∀h',Heap.ExtBut it s.heap h'->Q none { s with heap:=h' }):wpAny (model prog w) A (pyNext (.ref it)) Q E s:=by
 obtain⟨oi,Iu,Wr,hdi⟩:=id x;unfold pyNext;refine aad (wpAny_attempt (wpAny_callSpecial?_slot (name:=Str.ofString "__next__") x.typeIs SI.slot_next (wpAny_call_entry SI.slot_next x.typeIs SI.entry_next ?_ (SI.args_next _))));unfold Builtin.«set_iterator.__next__»;refine aad (aaj ?_);refine aad (wpAny_fieldsOf Iu hdi ?_);dsimp only;refine aad (jq S.at_ S.dat S.tab.fit ?_);rw[aal (by simp)];refine aad (hn _ _ _ ?_);cases r with
 |some p=>
  obtain⟨v,nx⟩:=p;dsimp only;refine aad (wpAny_setField Iu hdi (by simp) ?_);have h1:=get?_update_self (Obj.mapFields (·.setIfInBounds 0 (rawInt nx))) Iu (Obj.isFreed_of_fields (Obj.data_mapFields hdi _));have d1:=Obj.data_mapFields hdi (·.setIfInBounds 0 (rawInt nx));refine aad (wpAny_setField h1 d1 (by simp) ?_);have h2:=get?_update_self (Obj.mapFields (·.setIfInBounds 1 (rawInt ((i:Int)+1)))) h1 (Obj.isFreed_of_fields (Obj.data_mapFields d1 _));refine aaj ⟨_,rfl,aaj (hQ v nx rfl _ ⟨_,h2,?_,?_⟩ ((Heap.SameBut.update ..).trans (Heap.SameBut.update ..)))⟩
  ·rw[Obj.cls_mapFields,Obj.cls_mapFields];exact Wr
  ·rw[Obj.data_mapFields d1];simp[rawInt]
 |none=>dsimp only;refine aad (wpAny_setField Iu hdi (by simp) ?_);refine aad ?_;simp only[newExc,newTuple];refine aad (aaV ?_ (by size_fits));refine aad (m:=firstArgMember _ _) (wpAny_of_eq (a:=Value.none) (by first|rfl|(simp only[firstArgMember];rfl)) ?_);refine aaV ?_ (by size_fits);simp only[raiseNew];refine aad (wpAny_handled ?_);rw[show A.in1.handled=none from hh];refine aad (aaj (wpAny_throw ?_));refine aad (wpAny_isInstance (T:="StopIteration") (b:=true) ⟨_,aav _ rfl,rfl⟩ isSubtype_stop ?_);exact aaj (hE rfl _ (((Heap.SameBut.update ..).extBut.push _).push _))
end
theorem mO{α:Type}:∀(l:List α) (i:Nat) (h:i<l.length),(l[i]::l.eraseIdx i).Perm l
 |x::l,0,_=>List.Perm.refl _
 | x::l,i+1,h=>by
  simp only[List.getElem_cons_succ,List.eraseIdx_cons_succ];exact(List.Perm.swap _ _ _).trans (List.Perm.cons x (mO l i (by simpa using h)))
section
variable {prog:Program} {w:World} {A:Around} {E:Value->Shared->Prop} {s:Shared}
theorem CH{n:Nat}(hn:n≠0)(h:∀i d,i<n->Q i { s with drawn:=d }):wpAny (model prog w) A (choose src n) Q E s:=fun Γ p hΓ=>by
 show Sem.wp _ _ (Sem.choose src n Sem.pure) _ _ _ _;rw[Sem.wp];exact⟨hn,h _ _ (mod_lt _ (Nat.pos_of_ne_zero hn))⟩
theorem AW{α:Type}:∀(n:Nat) (xs:List α) (s:Shared) (Q:List α -> Shared->Prop),xs.length=n->(∀ys d,ys.Perm xs->Q ys { s with drawn:=d })->wpAny (model prog w) A (drawOrder n xs) Q E s
 | 0,xs,s,Q,hl,h=>by
  have:xs=[]:=List.eq_nil_of_length_eq_zero hl;subst this;unfold drawOrder;exact aaj (h [] s.drawn (List.Perm.refl _))
 |n+1,[],s,Q,hl,h=>by simp at hl
 | n+1,x::xs,s,Q,hl,h=>by
  unfold drawOrder;refine aad (CH (by simp) λi d hi=>?_);have hx:(x::xs)[i]?=some ((x::xs)[i]):=aay hi;rw[hx];dsimp only;refine aad (AW n ((x::xs).eraseIdx i) _ _ (by rw[List.length_eraseIdx,aai hi];simp at hl |-;omega) λys d' p=>aaj ?_);exact h _ d' (((List.Perm.cons _ p).trans (mO _ i hi)))
theorem qT{ep c:Nat}{ks:List Int}{i:Nat}{ps:List Nat}(hh:A.handled=none)(x:fY s.heap it (.ref td) i a es.size ep)(S:fh prog w s.heap a o es ep t ks)
  (hT:s.heap.get? td=some oT) (U9:oT.data=.seq (ps.map λ(j:Nat)=>rawInt j).toArray c) (hlt:∀j∈ps,j<es.size)
  (hQ:∀j e,ps[i]?=some j->es[j]?=some e->∀h',fY h' it (.ref td) (i+1) a es.size ep->Heap.SameBut it s.heap h'->Q (some e.2) { s with heap:=h' })
  (hE:ps[i]?=none->∀h',Heap.ExtBut it s.heap h'->Q none { s with heap:=h' }):wpAny (model prog w) A (pyNext (.ref it)) Q E s:=by
 obtain⟨oi,Iu,Wr,hdi⟩:=id x;unfold pyNext;refine aad (wpAny_attempt (wpAny_callSpecial?_slot (name:=Str.ofString "__next__") x.typeIs SI.slot_next (wpAny_call_entry SI.slot_next x.typeIs SI.entry_next ?_ (SI.args_next _))));unfold Builtin.«set_iterator.__next__»;refine aad (aaj ?_);refine aad (wpAny_fieldsOf Iu hdi ?_);dsimp only;refine aad (jq S.at_ S.dat S.tab.fit ?_);rw[aal (by simp)];refine aad (wpAny_seqItems hT U9 ?_);dsimp only;have hg:((ps.map λ(j:Nat)=>rawInt j).toArray)[((i:Nat):Int).toNat]?=(ps[i]?).map λ(j:Nat)=>rawInt j:=by simp
 rw[hg];cases hp:ps[i]? with
 |some j=>
  have hj:j<es.size:=hlt j (aaE hp);simp only[map_some,rawInt];refine aad ?_;unfold setNextDrawn;refine aad (wpAny_setState_of S.at_ S.dat S.tab.fit ?_);dsimp only;rw[aal (by simp)];have Zv:es[((j:Nat):Int).toNat]?=some es[j]:=by simp[hj]
  rw[Zv];refine aaj ?_;refine aad (wpAny_setField Iu hdi (by simp) ?_);have h2:=get?_update_self (Obj.mapFields (·.setIfInBounds 1 (.int ((i:Int)+1) 0))) Iu (Obj.isFreed_of_fields (Obj.data_mapFields hdi _));refine aaj ⟨_,rfl,aaj (hQ j _ hp (Array.getElem?_eq_getElem hj) _ ⟨_,h2,?_,?_⟩ (Heap.SameBut.update ..))⟩
  ·rw[Obj.cls_mapFields];exact Wr
  ·rw[Obj.data_mapFields hdi];simp
 |none=>simp only[Option.map_none];refine aad (wpAny_setField Iu hdi (by simp) ?_);have h1:=get?_update_self (Obj.mapFields (·.setIfInBounds 0 (rawInt 0))) Iu (Obj.isFreed_of_fields (Obj.data_mapFields hdi _));have d1:=Obj.data_mapFields hdi (·.setIfInBounds 0 (rawInt 0));refine aad (wpAny_setField h1 d1 (by simp) ?_);refine aad ?_;simp only[newExc,newTuple];refine aad (aaV ?_ (by size_fits));refine aad (m:=firstArgMember _ _) (wpAny_of_eq (a:=Value.none) (by first|rfl|(simp only[firstArgMember];rfl)) ?_);refine aaV ?_ (by size_fits);simp only[raiseNew];refine aad (wpAny_handled ?_);rw[show A.in1.handled=none from hh];refine aad (aaj (wpAny_throw ?_));refine aad (wpAny_isInstance (T:="StopIteration") (b:=true) ⟨_,aav _ rfl,rfl⟩ isSubtype_stop ?_);exact aaj (hE hp _ ((((Heap.SameBut.update ..).trans (Heap.SameBut.update ..)).extBut.push _).push _))
end
theorem uC{α:Type}(f:Nat->Nat):∀(n k:Nat) (l:List α) (out:Array α),l.length=n->(pickOrder.go f n k l out).toList.Perm (out.toList++l)
 | 0,k,l,out,h=>by
  have:l=[]:=List.eq_nil_of_length_eq_zero h;subst this;unfold pickOrder.go;simp
 | n+1,k,l,out,h=>by
  unfold pickOrder.go;have hl:0<l.length:=by omega
  have hi:f k%l.length<l.length:=mod_lt _ hl;rw[aay hi];dsimp only;refine(uC f n (k+1) _ _ (by rw[List.length_eraseIdx,aai hi];omega)).trans ?_;rw[Array.toList_push,List.append_assoc];exact List.Perm.append_left _ (mO l _ hi)
theorem uD{t:SetTable}{n:Nat}(h:t.fits n=true):t.place.size=n:=by
 simp only[SetTable.fits,and_eq_true,beq_iff_eq]at h;exact h.1
def Va(t:SetTable):Nat->Nat
 |0=>0
 |i+1=>t.place.getD i 0+1
theorem uE(r:ux t.place):∀i,i<=t.place.size->SetTable.below t.place (Va t i)=i
 |0,_=>zS r
 | i+1,h=>by
  have hi:i<t.place.size:=h;have e:Va t (i+1)=t.place[i]+1:=by simp[Va,Array.getD,hi]
  rw[e];exact zT r hi
section
variable {prog:Program} {w:World} {A:Around} {E:Value->Shared->Prop} {s:Shared}
theorem fh.keep{ep:Nat}{ks:List Int}(S:fh prog w h a o es ep t ks)(k:∀o,h.get? a=some o->h'.get? a=some o):fh prog w h' a o es ep t ks:={ S with at_:=k o S.at_ }
theorem fY.keep{i:Nat}{n ep:Nat}(x:fY h it f i a n ep)(k:∀o,h.get? it=some o->h'.get? it=some o):fY h' it f i a n ep:=by
 obtain⟨o,ho,r⟩:=x;exact⟨o,k o ho,r⟩
def PL(L:List (Int×Value))(i:Nat)(v:Value):Prop:=∃e,L[i]?=some e/\v=e.2
theorem CI(hh:A.handled=none){ep:Nat}{ks:List Int}(hne:a≠I)(hb:tM w=false)(hp:(!t.plain&&decide (es.size>1))=false) :
  Walks prog w A I [I,a] [I] es.toList.length (PL es.toList) (λi h=>fh prog w h a o es ep t ks/\fY h I (.int (Va t i) 0) i a es.size ep) where
 sub:=λb hb=>by simp at hb;simp[hb]
 frame:=λ_ _ _ st hk=>⟨st.1.keep λo e=>hk a (by simp) o e,st.2.keep λo e=>hk I (by simp) o e⟩
 item:=λi s Q E hi st hQ=>by
  have hi:i<es.size:=by simpa using hi
  have hz:=uD st.1.tab.fit;have hb':=uE st.1.tab.rs i (by rw[hz];exact le_of_lt hi);refine nj (r:=some (es[i].2,t.place.getD i 0+1)) hh st.2 st.1 (λA E Q q=>uA st.1 hb hp ?_) (λv nx e h' x' sb=>?_) (λe=>nomatch e)
  ·rw[hb',Array.getElem?_eq_getElem hi,Array.getElem?_eq_getElem (by rw[hz];exact hi)]
   have e1:t.place[i]'(by rw[hz];exact hi)=t.place.getD i 0:=by simp[Array.getD,hz,hi]
   dsimp only;rw[e1];exact q
  ·cases e;exact hQ _ h' s.toks ⟨es[i],by simp[hi],rfl⟩ ⟨st.1.keep λo e=>sb.extBut a o hne e,x'⟩ λb o hb e=>sb.extBut b o (λz=>hb (by simp[z])) e
 done:=λs Q E st hQ=>by
  have hz:=uD st.1.tab.fit;have hb':=uE st.1.tab.rs es.toList.length (by rw[hz];simp);refine nj (r:=none) hh st.2 st.1 (λA E Q q=>uA st.1 hb hp ?_) (λv nx e=>nomatch e) (λ_ h' sb=>hQ h' s.toks λb o hb e=>sb b o (λz=>hb (by simp[z])) e);rw[hb',Array.getElem?_eq_none (by simp)];exact q
 self:=λ_ _ _ _ st hQ=>oz st.2 hQ
theorem CJ(hh:A.handled=none){ep:Nat}{ks:List Int}(hne:a≠I)(hb:tM w=true) :
  Walks prog w A I [I,a] [I] (pickOrder (w.params.setOrder a ep) es).toList.length (PL (pickOrder (w.params.setOrder a ep) es).toList) (λi h=>fh prog w h a o es ep t ks/\fY h I (.int (0:Nat) 0) i a es.size ep) where
 sub:=λb hb=>by simp at hb;simp[hb]
 frame:=λ_ _ _ st hk=>⟨st.1.keep λo e=>hk a (by simp) o e,st.2.keep λo e=>hk I (by simp) o e⟩
 item:=λi s Q E hi st hQ=>by
  have hi:i<(pickOrder (w.params.setOrder a ep) es).size:=by simpa using hi
  refine nj (r:=some ((pickOrder (w.params.setOrder a ep) es)[i].2,0)) hh st.2 st.1 (λA E Q q=>uB st.1 hb ?_) (λv nx e h' x' sb=>?_) (λe=>nomatch e)
  ·rw[Array.getElem?_eq_getElem hi];exact q
  ·cases e;exact hQ _ h' s.toks ⟨(pickOrder (w.params.setOrder a ep) es)[i],by simp[hi],rfl⟩ ⟨st.1.keep λo e=>sb.extBut a o hne e,x'⟩ λb o hb e=>sb.extBut b o (λz=>hb (by simp[z])) e
 done:=λs Q E st hQ=>by
  refine nj (r:=none) hh st.2 st.1 (λA E Q q=>uB st.1 hb ?_) (λv nx e=>nomatch e) (λ_ h' sb=>hQ h' s.toks λb o hb e=>sb b o (λz=>hb (by simp[z])) e);rw[Array.getElem?_eq_none (by simp)];exact q
 self:=λ_ _ _ _ st hQ=>oz st.2 hQ
theorem zW(hh:A.handled=none){ep c:Nat}{ks:List Int}{ps:List Nat}(hne:a≠I)(hnt:td≠I)(hlt:∀j∈ps,j<es.size)(U9:oT.data=.seq (ps.map λ(j:Nat)=>rawInt j).toArray c) :
  Walks prog w A I [I,a,td] [I] ps.length (PL (ps.map λj=>es.getD j (0,.none))) (λi h=>fh prog w h a o es ep t ks/\fY h I (.ref td) i a es.size ep/\h.get? td=some oT) where
 sub:=λb hb=>by simp at hb;simp[hb]
 frame:=λ_ _ _ st hk=>⟨st.1.keep λo e=>hk a (by simp) o e,st.2.1.keep λo e=>hk I (by simp) o e,hk td (by simp) _ st.2.2⟩
 item:=λi s Q E hi st hQ=>by
  refine qT hh st.2.1 st.1 st.2.2 U9 hlt (λj e hj he h' x' sb=>?_) (λhn=>absurd hn (by rw[aay hi];simp));refine hQ _ h' s.toks ⟨e,?_,rfl⟩ ⟨st.1.keep λo e=>sb.extBut a o hne e,x',sb.extBut td _ hnt st.2.2⟩ λb o hb e=>sb.extBut b o (λz=>hb (by simp[z])) e;rw[aaD,hj];have hjl:j<es.size:=(Array.getElem?_eq_some_iff.mp he).1;have:=(Array.getElem?_eq_some_iff.mp he).2;simp[Array.getD,hjl,this]
 done:=λs Q E st hQ=>qT hh st.2.1 st.1 st.2.2 U9 hlt (λj e hj=>absurd hj (by simp)) (λ_ h' sb=>hQ h' s.toks λb o hb e=>sb b o (λz=>hb (by simp[z])) e)
 self:=λ_ _ _ _ st hQ=>oz st.2.1 hQ
end
section
variable {prog:Program} {w:World} {A:Around} {E:Value->Shared->Prop} {s:Shared}
theorem Ep{ep:Nat}{ks:List Int}(S:fh prog w s.heap a o es ep t ks)(h:Q (!tM w&&(!t.plain&&decide (es.size>1))) s):wpAny (model prog w) A (setDrawn a) Q E s:=by
 unfold setDrawn;refine aad (wpAny_setState_of S.at_ S.dat S.tab.fit ?_);dsimp only;exact aad (lP (aaj h))
theorem xC{ep:Nat}{ks:List Int}(S:fh prog w s.heap a o es ep t ks)(h:Q ep s):wpAny (model prog w) A (setEpoch a) Q E s:=wpAny_setEpoch_of S.at_ S.dat S.tab.fit h
theorem Er(hh:A.handled=none){ep:Nat}{ks:List Int}(S:fh prog w s.heap a o es ep t ks)
  (hQ:∀(h':Heap) d (I:Addr) (fp:List Addr) (L:List (Int×Value)) (St:Nat->Heap->Prop),L.Perm es.toList->Walks prog w A I fp [I] L.length (PL L) St->St 0 h'->s.heap.objs.size<=I->I<h'.objs.size->(∀b∈fp,b=a\/s.heap.objs.size<=b)->(∀b o,s.heap.get? b=some o->h'.get? b=some o)->Q (.ref I) { s with heap:=h',drawn:=d }) :
  wpAny (model prog w) A (pyIter (.ref a)) Q E s:=by
 have hT:s.TypeIs (.ref a) "set":=⟨o,S.at_,S.ex.1⟩;have hlt:a<s.heap.objs.size:=aar S.at_;refine wpAny_pyIter_slot hT PySem.F.slot_set_iter (wpAny_call_entry PySem.F.slot_set_iter hT SI.zV ?_ (PySem.F.args_set_iter_1 _));unfold Builtin.«frozenset.__iter__» Builtin.Frozenset.slot0 Builtin.Frozenset.sizeOf;refine aad (aad (aaj (aaj ?_)));refine aad (aad (jq S.at_ S.dat S.tab.fit (aaj ?_)));refine aad (Ep S ?_);cases hd:(!tM w&&(!t.plain&&decide (es.size>1))) with
 |false=>
  simp only[false_eq_true,↓reduceIte];refine aad (aaj ?_);refine aad (xC S ?_);refine aad (aaV (aaj ⟨_,rfl,"set_iterator",_,⟨_,aav _ rfl,rfl⟩,SI.slot_next.lookup,?_⟩));have e:s={ s with drawn:=s.drawn }:=by cases s;rfl
  have XI:∀b∈[s.heap.objs.size,a],b=a\/s.heap.objs.size<=b:=λb hb=>by
   simp only[mem_cons,not_mem_nil,or_false]at hb
   rcases hb with rfl|rfl
   ·exact .inr (aao _)
   ·exact .inl rfl
  have sz:s.heap.objs.size<(s.heap.push { cls:=.type "set_iterator",data:=.fields ([rawInt 0,rawInt 0,.ref a,rawInt es.size,rawInt ep]:List Value).toArray }).objs.size:=by rw[size_push];exact lt_succ_self _
  cases hb:tM w with
  |true=>exact hQ _ s.drawn _ _ _ _ (uC _ _ 0 es.toList #[] (by simp)) (CJ hh (aaA hlt) hb) ⟨S.keep λo e=>aag _ e,⟨_,aav _ rfl,rfl,rfl⟩⟩ (aao _) sz XI λb o e=>aag _ e
  |false=>rw[hb]at hd;exact hQ _ s.drawn _ _ _ _ (List.Perm.refl _) (CI hh (aaA hlt) hb (by simpa using hd)) ⟨S.keep λo e=>aag _ e,⟨_,aav _ rfl,rfl,rfl⟩⟩ (aao _) sz XI λb o e=>aag _ e
 |true=>
  simp only[↓reduceIte];refine aad (AW es.size (List.range es.size) s _ (by simp) λps d pp=>?_);refine aad ?_;simp only[newTuple];refine aaV ?_ (by show (toArray _).size<=sizeLine;rw[aaq,aah,pp.length_eq,length_range];exact fits_of_scanBound S.tab.few);have S1:fh prog w (s.heap.push { cls:=.type "tuple",data:=.seq (ps.map λ(i:Nat)=>rawInt i).toArray }) a o es ep t ks:=S.keep λo e=>aag _ e;refine aad (xC S1 ?_);refine aad (aaV (aaj ⟨_,rfl,"set_iterator",_,⟨_,aav _ rfl,rfl⟩,SI.slot_next.lookup,?_⟩));have hpl:∀j∈ps,j<es.size:=λj hj=>by simpa using pp.mem_iff.mp hj
  have perm:(ps.map λj=>es.getD j (0,Value.none)).Perm es.toList:=by
   have e2:(List.range es.size).map (λj=>es.getD j (0,Value.none))=es.toList:=by
    apply ext_getElem
    ·simp
    ·intro i h1 h2
     have hi:i<es.size:=by simpa using h2
     simp[Array.getD,hi]
   rw[<-e2];exact pp.map _
  have z1:(s.heap.push { cls:=.type "tuple",data:=.seq (ps.map λ(i:Nat)=>rawInt i).toArray }).objs.size=s.heap.objs.size+1:=size_push _ _;have W:=zW (prog:=prog) (w:=w) (A:=A) (o:=o) (ep:=ep) (t:=t) (ks:=ks) hh (I:=s.heap.objs.size+1) (a:=a) (td:=s.heap.objs.size) (oT:={ cls:=.type "tuple",data:=.seq (ps.map λ(i:Nat)=>rawInt i).toArray }) (es:=es) (c:=0) (ps:=ps) (aaA (lt_succ_of_lt hlt)) (aaA (lt_succ_self _)) hpl rfl;rw[show ps.length=(ps.map λj=>es.getD j (0,Value.none)).length by simp] at W;rw[z1];refine hQ _ d _ _ _ _ perm W ⟨S1.keep λo e=>aag _ e,⟨{ cls:=.type "set_iterator",data:=.fields ([.ref s.heap.objs.size,rawInt 0,.ref a,rawInt es.size,rawInt ep]:List Value).toArray },?_,rfl,rfl⟩,aag _ (aav _ rfl)⟩ (le_succ _) ?_ ?_ λb o e=>aag _ (aag _ e)
  ·rw[<-z1];exact aav _ rfl
  ·rw[size_push,z1];exact lt_succ_self _
  ·intro b hb
   simp only[mem_cons,not_mem_nil,or_false]at hb
   rcases hb with rfl|rfl|rfl
   ·exact .inr (le_succ _)
   ·exact .inl rfl
   ·exact .inr (aao _)
end
section
variable {prog:Program} {w:World} {A:Around} {E:Value->Shared->Prop} {s:Shared}
theorem Es(hT:s.TypeIs (.ref r) "set")(h:Q false s):wpAny (model prog w) A (Builtin.List.listLengthHint (.ref r)) Q E s:=by
 unfold Builtin.List.listLengthHint;refine aad (wpAny_specialOf hT PySem.F.slot_set_len.lookup ?_);generalize hid:("set.__len__":String)=Zw
 wp_delta
 rw[show splitId Zw=some ("set","__len__") from by subst hid;decide +kernel];subst hid;refine aad (wpAny_isInstance (T:="set") (b:=true) hT sub_set_self ?_);refine wpAny_ite_split (λz=>absurd z (by decide)) (λ_=>?_);refine wpAny_ite_split (λ_=>?_) (λz=>absurd (by decide +kernel) z);exact aad (wpAny_typeOf hT (aaj h))
theorem xD(hh:A.handled=none){ep:Nat}{ks:List Int}(S:fh prog w s.heap a o es ep t ks)
  (h:∀(h':Heap) (tk:Nat) d (L:List (Int×Value)),(∀b o,s.heap.get? b=some o->h'.get? b=some o)->s.heap.objs.size<h'.objs.size->L.Perm es.toList->R (L.map (·.2)) { s with heap:=h',toks:=tk,drawn:=d }) :
  wpAny (model prog w) A (collect (.ref a)) R E s:=by
 have hlt:a<s.heap.objs.size:=aar S.at_;unfold collect;refine aad (wpAny_runValue (codeAny_builtin entry_proto_collect' ?_));rw[Around.under_plainId PySem.F.plain_proto_collect _];show wpAny _ A.in1 (newList [] >>= λl=>again (.builtin "list.__iadd__" ⟨[l,.ref a],[]⟩)) _ _ s;refine aad (aaV ?_);refine aaj ⟨plainId_quiet PySem.F.plain_list_iadd _,codeAny_builtin entry_list_iadd' ?_⟩;rw[Around.under_plainId PySem.F.plain_list_iadd _]
 let s1:Shared:={ s with heap:=s.heap.push { cls:=.type "list",data:=.seq ([]:List Value).toArray } }
 have l1:s1.heap.get? s.heap.objs.size=some { cls:=.type "list",data:=.seq #[] }:=aav _ rfl;have S1:fh prog w s1.heap a o es ep t ks:=S.keep λo e=>aag _ e;have z1:s1.heap.objs.size=s.heap.objs.size+1:=size_push _ _;have hT:s1.TypeIs (.ref a) "set":=⟨o,S1.at_,S1.ex.1⟩;show wpAny _ A.in1 (Builtin.List.listExtendWith (.ref s.heap.objs.size) (.ref a) (.ref s.heap.objs.size)) _ _ s1;unfold Builtin.List.listExtendWith;refine aad (wpAny_typeOf hT ?_);have n1:Builtin.List.listSameRef (.ref s.heap.objs.size) (.ref a)=false:=by simp[Builtin.List.listSameRef,ne_of_gt hlt]
 simp only[n1,show (Value.type "set" == Value.type "list")=false by decide,show (Value.type "set" == Value.type "tuple")=false by decide,Bool.or_false,false_eq_true,if_false];refine aad (Er (A:=A.in1) (by simp[hh]) S1 λh2 d I fp L St perm W st zI zI2 hfp k2=>?_);have l2:h2.get? s.heap.objs.size=some { cls:=.type "list",data:=.seq #[] }:=k2 _ _ l1;have nfp:s.heap.objs.size∉fp:=λz=>by
  rcases hfp _ z with e|e
  ·exact absurd e (ne_of_gt hlt)
  ·rw[z1]at e;exact absurd e (Nat.not_succ_le_self _)
 have hl:L.length<=sizeLine:=by rw[perm.length_eq,aaQ];exact fits_of_scanBound S.tab.few
 have key:∀(hp:Heap) (c₁:Nat) (Rr:Result->Shared->Prop),St 0 hp->(∀b o,b≠s.heap.objs.size->h2.get? b=some o->hp.get? b=some o)->hp.get? s.heap.objs.size=some { cls:=.type "list",data:=.seq #[] c₁ } ->
   (∀(s':Shared) (acc:Array Value) (c:Nat),s'.heap.get? s.heap.objs.size=some { cls:=.type "list",dict:=none,data:=.seq acc c,slots:=#[] }->R acc.toList s'->Rr (.ok (.ret (.ref s.heap.objs.size))) s') ->
   codeAny (model prog w) A (.builtin "list.extend.loop" ⟨[.ref s.heap.objs.size,.ref I,.ref s.heap.objs.size],[]⟩) Rr { s1 with heap:=hp,drawn:=d }:=by
  intro hp c₁ Rr hst hk hS hR;refine codeAny_extend_loopS W.toS hl s.heap.objs.size nfp (.ref s.heap.objs.size) L.length 0 _ #[] c₁ rfl (zero_le _) hst hS (ItemsOf.nil _) λs' acc c hm hS' hacc=>?_;refine hR s' acc c hS' ?_;have ea:acc.toList=L.map (·.2):=by
   apply ext_getElem
   ·rw[aaQ,hacc.1,aah]
   ·intro j h1 h2
    have hj:j<acc.size:=by simpa using h1
    obtain⟨e,he,hv⟩:=hacc.2 j acc[j] (Array.getElem?_eq_getElem hj);rw[Array.getElem_toList,hv,getElem_map];obtain⟨hj2,e2⟩:=aae.mp he;rw[e2]
  rw[ea,Moved.eq_with hm];refine h s'.heap s'.toks d L (λb o e=>?_) (aar hS') perm;have hb:b<s.heap.objs.size:=aar e;refine hm.heap b o (λz=>?_) (hk b o (aaA hb) (k2 b o (aag _ e)))
  rcases aaG.mp z with z|z
  ·exact absurd z (aaA hb)
  ·rw[aau]at z;rw[z]at hb;rw[z1]at zI;exact absurd (aas hb (Nat.le_of_succ_le zI)) (lt_irrefl _)
 have fin:∀(s':Shared) (acc:Array Value) (c:Nat),s'.heap.get? s.heap.objs.size=some { cls:=.type "list",dict:=none,data:=.seq acc c,slots:=#[] }->R acc.toList s'->wpAny (model prog w) A (load s.heap.objs.size >>= λob=>(match ob.data with|.seq xs _=>pure xs.toList|_=>unsupported "internal:collect")) R E s':=λs' acc c e q=>aad (wpAny_load e (aaj q));refine aad (wpAny_holding (Es ⟨o,k2 _ _ S1.at_,S1.ex.1⟩ ?_));refine wpAny_ite_split (λ_=>?_) (λ_=>aaj ⟨plainId_quiet PySem.F.plain_extend_loop _,key _ 0 _ st (λb o _ e=>e) l2 fin⟩);refine aad (wpAny_rule ?_);refine aad ?_;show wpAny _ _ (updateSeq s.heap.objs.size (·.push .none) >>= λ_=>updateSeq s.heap.objs.size (·.pop)) _ _ _;refine aad (wpAny_updateSeq l2 rfl ?_);have l3:=get?_update_self (Obj.mapSeq (·.push Value.none)) l2 rfl;refine wpAny_updateSeq (hz:=by seq_fits) l3 rfl ?_;have l4:=get?_update_self (Obj.mapSeq (·.pop)) l3 rfl;have oth:∀b o,b≠s.heap.objs.size->h2.get? b=some o->((h2.update s.heap.objs.size (Obj.mapSeq (·.push Value.none))).update s.heap.objs.size (Obj.mapSeq (·.pop))).get? b=some o:=λb o hb e=>(get?_update_other _ _ (Ne.symm hb)).trans ((get?_update_other _ _ (Ne.symm hb)).trans e);exact aaj ⟨plainId_quiet PySem.F.plain_extend_loop _,key _ _ _ (W.frame 0 _ _ st λb hb o e=>oth b o (λz=>nfp (z▸hb)) e) oth l4 fin⟩
end
theorem xE:∀(ks ns:List Int),ks.Nodup->(∀k∈ks,k∈ns)->ks.length=ns.length->ks.Perm ns
 | [],ns,_,_,h=>by
  have:ns=[]:=List.eq_nil_of_length_eq_zero h.symm;subst this;exact List.Perm.refl _
 | k::ks,ns,nd,hs,hl=>by
  have hk:=hs k aan;have XJ:=aaP.mp nd;have p:=List.perm_cons_erase hk;refine(List.Perm.cons k (xE ks (ns.erase k) XJ.2 (λx hx=>?_) ?_)).trans p.symm
  ·exact(List.mem_erase_of_ne λz=>XJ.1 (by rw[<-z];exact hx)).mpr (hs x (aam _ hx))
  ·rw[List.length_erase_of_mem hk];simp only[length_cons]at hl;omega
def xF:Value->Int
 |.int i _=>i
 |_=>0
section
variable {prog:Program} {w:World} {A:Around} {E:Value->Shared->Prop} {s:Shared}
theorem qU:∀{L:List (Int×Value)},ElemsOf (intKind prog w) L->IntsAre (L.map (·.2)) (L.map λe=>xF e.2)
 |[],_=>.nil
 | (h,v)::L,el=>by
  obtain⟨⟨k,hk,_⟩,_⟩:=el _ aan;obtain⟨t,e⟩:=Value.isInt_shape (k:=k) (v:=v) hk;subst e;exact .cons k t (qU λx hx=>el x (aam _ hx))
theorem Et{h:Heap}{a:Addr}{o:Obj}{es:Array (Int×Value)}{ep:Nat}{t:SetTable}{ks:List Int}(S:fh prog w h a o es ep t ks){L:List (Int×Value)}(p:L.Perm es.toList):(L.map λe=>xF e.2).Perm ks:=by
 refine(xE ks _ S.XD (λk hk=>?_) ?_).symm
 ·obtain⟨e,he,q⟩:=(S.mem k).mp hk;obtain⟨t',ev⟩:=Value.isInt_shape (k:=k) (v:=e.2) q;exact aaX.mpr ⟨e,p.mem_iff.mpr he,by rw[ev];rfl⟩
 ·have:=S.num;rw[aah,p.length_eq,aaQ];exact this.symm
theorem zX(hh:A.handled=none){ep:Nat}{ks:List Int}(S:fh prog w s.heap a o es ep t ks)(h64:ks.length<64)
  (hQ:∀(h':Heap) (tk:Nat) d (D:Addr) (out:List Value) (e:Nat),(∀b o,s.heap.get? b=some o->h'.get? b=some o)->s.heap.objs.size<=D->h'.get? D=some (seqObj "list" out.toArray e)->IntsAre out (sortI ks)->Q (.ref D) { s with heap:=h',toks:=tk,drawn:=d }) :
  wpAny (model prog w) A (call (.builtin "sorted") [.ref a]) Q E s:=by
 refine pW.iD (O:=pW.qN) (xD (A:=A.in1) (by simp[hh]) S λh' tk d L hk hz perm=>?_);have el:ElemsOf (intKind prog w) L:=S.el.perm perm;have hI:=qU el;have pk:=Et S perm;have hl:(L.map (·.2)).length<64:=by rw[aah];have:=pk.length_eq;rw[aah]at this;omega
 refine⟨hl,λi=>(L.map λe=>xF e.2).getD i 0,λh2 h6 _=>pW.qO hI h2,λp h'' outs k2 he=>?_⟩;obtain⟨e,he⟩:=he;have lv:(L.map (·.2)).length=(L.map λe=>xF e.2).length:=by rw[aah,aah]
 have mem:∀i∈p,i<L.length:=λi hi=>by have:=outs.perm.mem_iff.mp hi;simpa using this
 have pn:(p.map λi=>(L.map λe=>xF e.2).getD i 0).Perm ks:=by have:=outs.perm.map λi=>(L.map λe=>xF e.2).getD i 0;rw[lv,pW.cO]at this;exact this.trans pk
 have up:(p.map λi=>(L.map λe=>xF e.2).getD i 0).Pairwise (· <= ·):=by refine List.Pairwise.imp (R:=pW.qN.kle) (λ{x y:Int} hxy=>?_) outs.up;have hxy:(decide (y<x):Bool)=false:=hxy;exact not_lt.mp (of_decide_eq_false hxy)
 have es:=eq_sortI pn up;refine hQ h'' tk d h'.objs.size _ e (λb o z=>k2 b o (hk b o z)) (le_of_lt hz) he ?_;rw[<-es];clear he es up pn outs
 induction p with
 |nil=>exact .nil
 |cons i r ih=>
  have hi:=mem i aan;have hi2:i<(L.map (·.2)).length:=by simpa using hi
  obtain⟨t',ev⟩:=IntsAre.int_at hI i _ (aay hi2);rw[aap,aap];have e1:(L.map (·.2)).getD i Value.none=.int ((L.map λe=>xF e.2).getD i 0) t':=by rw[<-ev];simp[List.getD,List.getElem?_eq_getElem hi]
  rw[e1];exact .cons _ t' (ih λj hj=>mem j (aam _ hj))
end
end L2
end
section
namespace L2
open PySem PySem.Spec PyProof.Rows
section
variable {X:Cx}
theorem Inv.draws(I:Inv X pins σ H s)(d:Drawn):Inv X pins σ H { s with drawn:=d }:=⟨I.ok,I.os,I.bare,I.base,I.loc,I.cell,I.free,I.iZ,I.pin,I.hok,I.len⟩
def Zx(K:Frag)(te:TE):TE:=λσ H Q=>te σ H λx H1=>∃p ns,x=.ref p/\iu K H1 p (ns.map V.int)/\ns.length<64/\∀l,H1 l=none->Q (.ref l) (upd H1 l (.lst ((sortI (eV [] ns)).map V.int)))
theorem xG:∀(ns ks:List Int),(eV ks ns).length<=ks.length+ns.length
 |[],ks=>by simp[eV]
 | n::ns,ks=>by
  rw[eV,aaz];have:=xG ns (fj ks n);have:=qR ks n;omega
theorem JG{p1 p2 pos1 pos2:Pos}(hh:X.A.handled=none)(hg:Gl X "sorted")(hm:X.mg "sorted" = none)(Zy:Gl X "set")(hm2:X.mg "set" = none)(hv:bootBuiltins "sorted" = some (.builtin "sorted"))(hv2:bootBuiltins "set" = some (.type "set"))(he:PE X e te)
  (hs:starEach [e] X.env=[(false,eval e X.env)]):PE X (.Call (.Name "sorted" p1) [.Call (.Name "set" p2) [e] [] pos2] [] pos1) (Zx X.K te):=by
 intro pins s σ H Q I h;refine wpAny_Call_Name_kw (jm I hg hm hv ?_ (by decide) (by decide));refine PyProof.Rows.callWith_builtin1 ?_ rfl rfl;show wpAny _ _ (spliced [(false,eval (.Call (.Name "set" p2) [e] [] pos2) X.env)]) _ _ s;refine Calls.spliced_cons ?_;refine wpAny_Call_Name_kw (jm I Zy hm2 hv2 ?_ (by decide) (by decide));refine PyProof.Rows.callWith_type1 ?_ hs rfl;show wpAny _ _ (spliced (backTo pos2 (starEach [e] X.env))) _ _ s;rw[hs];show wpAny _ _ (spliced [(false,eval e X.env)]) _ _ s;refine Calls.spliced_cons (cj (he pins s σ H _ I h) λu s1 ⟨x,H1,I1,r1,p,ns,ex,hq,h64,q⟩=>Calls.spliced_nil ?_);subst ex;cases r1;obtain⟨its,rv,pl,hz⟩:=I1.list hq;have hi:=intsAre_of rv;have hl:=hi.length;refine xB hh pl.isList (by simpa using hi) (by show its.toArray.size+1<4096;rw[aaq,hl];omega) λh2 tk S k2=>?_;obtain⟨o,es,ep,t,S⟩:=S;refine Calls.spliced_nil ?_;have hk:=xG ns [];have Ws:(eV [] ns).length<64:=by simp at hk;omega
 refine zX (s:={ s1 with heap:=h2,toks:=tk }) hh S Ws λh3 Zz d D out e k3 zD eD hout=>?_;have hD:s1.heap.objs.size<=D:=aaM (le_of_lt (aar S.at_)) zD;have hn:H1 D=none:=I1.hok.fresh hD;refine⟨.ref D,_,(I1.draws d).laid (t':=Zz) (λb o z=>k3 b o (k2 b o (aar z) z)) hD (show bR X.prog X.w _ _ _ (.lst ((sortI (eV [] ns)).map V.int)) from⟨?_,out,e,jH hout,eD⟩),rfl,q _ hn⟩;rw[aah,(aaF _).length_eq,sizeLine_eq];omega
end
end L2
end
section
namespace L2
open PySem PySem.Spec PyProof.Rows PySem.W
section
variable {X:Cx}
def XM(to:TE):TE:=λσ H Q=>to σ H λx H1=>∃a kvs,x=.ref a/\H1 a=some (.dK kvs)/\∀l,H1 l=none->Q (.ref l) (upd H1 l (.lst (kvs.map λkv=>kV kv.1)))
theorem Eu(e:(aY P w).is k u=true):RelV (kV k) u:=by
 rw[zh]at e
 rcases bP e with ⟨i,t,rfl,rfl⟩|⟨x,t,rfl,rfl⟩
 ·exact⟨t,rfl⟩
 ·exact⟨t,rfl⟩
theorem oA:∀{kvs:List (Key×V)} {vs:List (Key×Value)} {out:List Value},KV kvs vs->out.length=vs.length->(∀(j:Nat) (v:Value),out[j]?=some v->∃(k:Key) (x:Value),vs[j]?=some (k,x)/\(aY P w).is k v=true)->Vals (kvs.map λkv=>kV kv.1) out
 | [],vs,out,r,hl,h=>by
  cases r;cases out with
  |nil=>exact .nil
  |cons _ _=>simp at hl
 | p::kvs,vs,out,r,hl,h=>by
  cases r with
  |@cons _ q _ qs hq t=>
   cases out with
   |nil=>simp at hl
   |cons v out=>
    obtain⟨k,x,e1,e2⟩:=h 0 v rfl;simp at e1;refine .cons ?_ (oA t (by simpa using hl) λj u hu=>h (j+1) u hu);have:p.1=k:=by rw[hq.1,e1]
    show RelV (kV p.1) v;rw[this];exact Eu e2
end
end L2
end
section
namespace L2
open PySem PySem.Spec PyProof.Rows
end L2
end
section
namespace L2
open PySem PySem.Spec PyProof.Rows PySem.W
section
variable {X:Cx}
def XO(to:TE):TE:=λσ H Q=>to σ H λx H1=>∃(a:Addr) (kvs:List (Key×V)) (ns:List Int),x=.ref a/\H1 a=some (.dK kvs)/\kvs.map (·.1)=ns.map Sum.inl/\ns.length<64/\∀l,H1 l=none->Q (.ref l) (upd H1 l (.lst ((sortI ns).map V.int)))
theorem uF{ns:List Int}(hI:IntsAre vs ns):∀(p:List Nat),(∀i∈p,i<ns.length)->IntsAre (p.map λi=>vs.getD i Value.none) (p.map λi=>ns.getD i 0)
 |[],_=>.nil
 | i::r,mem=>by
  have hi:=mem i aan;have hi2:i<vs.length:=by rw[hI.length];exact hi
  obtain⟨t',ev⟩:=IntsAre.int_at hI i _ (aay hi2);rw[aap,aap];have e1:vs.getD i Value.none=.int (ns.getD i 0) t':=by rw[<-ev];simp[List.getD,List.getElem?_eq_getElem hi2]
  rw[e1];exact .cons _ t' (uF hI r λj hj=>mem j (aam _ hj))
end
end L2
end
section
namespace L2
open PySem PySem.Spec PyProof.Rows
section
variable {X:Cx}
theorem oE
  (hbase:attributeBase o m env (eval o env)=eval o env)
  (hfew:((backTo cp (starEach args env)).all (λx=>!x.1)&&(backToKw cp (keywordEach [] env)).all (λx=>x.1.isSome)
   && decide (args.length+([]:List Keyword).length+(if ([]:List Keyword).isEmpty then 0 else 1)<30))=true) (hline:(ap.endLine==cp.line)=true)
  (h:wpAny M A (eval o env) (λov s₁=>∀pl,wpAny M A (getMethod ov m pl) (λfx s₂=>wpAny M A (callWith cp fx.1 fx.2 (backTo cp (starEach args env)) (backToKw cp (keywordEach [] env))) Q E s₂) E s₁) E s) :
  wpAny M A (eval (.Call (.Attribute o m ap) args [] cp) env) Q E s:=by
 rw[arm_eval_Call,hbase];refine aad (wpAny_mono h (λov s₁ h₁=>?_) λ_ _ e=>e);refine aad (wpAny_standAt ?_);have Sa:methodCallForm (args.length+([]:List Keyword).length) (backTo cp (starEach args env)) (backToKw cp (keywordEach [] env))=true:=hfew;have hpos:methodCallPos true o env ap cp=pure cp:=by unfold methodCallPos;simp[hline]
 unfold methodCall;rw[Sa];refine aad (wpAny_holding (wpAny_mono (h₁ _) (λfx s₂ h₂=>?_) λ_ _ e=>e));exact aad (wpAny_of_eq hpos h₂)
theorem pe_mthD{k:Nat}(he:PE X o ta)(ha:PA X (l::ls) t)(hbase:attributeBase o m X.env (eval o X.env)=eval o X.env)
  (hfew:((backTo cp (starEach (l::ls) X.env)).all (λx=>!x.1)&&(backToKw cp (keywordEach [] X.env)).all (λx=>x.1.isSome)
   && decide ((l::ls).length+([]:List Keyword).length+(if ([]:List Keyword).isEmpty then 0 else 1)<30))=true) (hline:(ap.endLine==cp.line)=true) (hr:dw k X.A)
  (st:starEach (l::ls) X.env=(false,eval l X.env)::starEach ls X.env) (an:(backTo cp (starEach ls X.env)).any (·.1)=false) :
  PE X (.Call (.Attribute o m ap) (l::ls) [] cp) (λσ H Q=>ta σ H λx H1=>∃a C dx fs f fd ps sp,x=.ref a/\H1 a=some (.ins C dx fs)/\Dy X.K C/\Meth X.K C m f/\fs.lookup m=none/\Binds X.K fd ps [] /\
   fW X.prog X.w X.K X.mg X.base zd k f fd ps sp/\t σ H1 λvs H2=>sp (x::vs) H2 Q E0):=by
 intro pins s σ H Q I h;refine oE hbase hfew hline (cj (he pins s σ H _ I h) λu s1 aI pl=>?_);obtain⟨x,H1,I1,rx,a,C,dx,fs,f,fd,ps,sp,ex,ea,c,hm,ln,hb,F,q⟩:=aI;subst ex;obtain rfl:u=Value.ref a:=rx;refine qC I1 ea c hm ln ?_;refine callWith_K (first:=[.ref a]) (h₀:=X.base) I.ok.mod.QH hm.kp (cj (ha cp pins s1 σ H1 _ I1 q) λus s2 ⟨vs,H2,I2,r,q2⟩=>⟨I2.n8,?_⟩) st an;exact qD (us:=.ref a::us) (vs:=.ref a::vs) (tw:=[]) (ds:=[]) F hr hb .nil qJ I2 (.cons rfl r) (by rw[append_nil];exact q2)
theorem pe_mth0{k:Nat}(he:PE X o ta)(hbase:attributeBase o m X.env (eval o X.env)=eval o X.env)
  (hline:(ap.endLine==cp.line)=true) (hr:dw k X.A) :
  PE X (.Call (.Attribute o m ap) [] [] cp) (λσ H Q=>ta σ H λx H1=>∃a C dx fs f fd ps sp,x=.ref a/\H1 a=some (.ins C dx fs)/\Dy X.K C/\Meth X.K C m f/\fs.lookup m=none/\Binds X.K fd ps [] /\
   fW X.prog X.w X.K X.mg X.base zd k f fd ps sp/\sp [x] H1 Q E0):=by
 intro pins s σ H Q I h;refine oE hbase rfl hline (cj (he pins s σ H _ I h) λu s1 aI pl=>?_);obtain⟨x,H1,I1,rx,a,C,dx,fs,f,fd,ps,sp,ex,ea,c,hm,ln,hb,F,q⟩:=aI;subst ex;obtain rfl:u=Value.ref a:=rx;refine qC I1 ea c hm ln ?_;exact callWith_K0 (first:=[.ref a]) I1.n8 hm.kp (qD (us:=[.ref a]) (vs:=[.ref a]) (tw:=[]) (ds:=[]) F hr hb .nil qJ I1 #[rfl] q)
theorem Np:kR X (compareOp .Is) (λx y H Q=>∃b c,x=.bl b/\y=.bl c/\Q (.bl (b==c)) H):=by
 intro pins s σ H x y v u Q I rx ry h;obtain⟨b,c,rfl,rfl,q⟩:=h;cases rx;cases ry;refine wpAny_is_plain rfl (u9 I q ?_);cases b<;>cases c<;>rfl
theorem JH:kR X (compareOp .IsNot) (λx y H Q=>∃b c,x=.bl b/\y=.bl c/\Q (.bl (!(b==c))) H):=by
 intro pins s σ H x y v u Q I rx ry h;obtain⟨b,c,rfl,rfl,q⟩:=h;cases rx;cases ry;refine wpAny_isNot_plain rfl (u9 I q ?_);cases b<;>cases c<;>rfl
end
end L2
end
section
namespace L2
open PySem PySem.Spec PyProof.Rows PySem.W
section
variable {X:Cx}
theorem Sb{t':Nat}(I:Inv X pins σ H s)(k:∀b u,s.heap.get? b=some u->h'.get? b=some u)(hp:s.heap.get? a=none)(hn:H a=none)(new:bR X.prog X.w (upd H a o) h' a o) :
  Inv X pins σ (upd H a o) { s with heap:=h',toks:=t' }:=by
 refine I.un ⟨λb u q _ _ _=>k b u q,λb u q _ _ _=>⟨u.slots,k b u q⟩,λb u q n _=>?_,λb u q _=>⟨u,k b u q⟩,λb xs q=>by rw[au (aM q hn)];exact q,λb u xs q=>by rw[au (aM q hn)];exact q,λb ps q=>⟨#[],by rw[au (aM q hn),q];simp⟩⟩ λb u e=>?_
 ·rw[au λz=>by rw[z,hp]at q;cases q];exact n
 ·by_cases hb:b=a
  ·subst hb;rw[aP]at e;cases e;exact new
  ·rw[au hb]at e;exact(I.hok b u e).stay (λc v _ q=>k c v q) (λc q=>by rw[au (aM q hn)];exact q) λc xs q=>by rw[au (aM q hn)];exact q
def ZA(K:Frag)(te:TE)(ts:TO):TE:=λσ H Q=>te σ H λx H1=>ts σ H1 λi H2=>i=some (-1)/\∃a xs,x=.ref a/\iu K H2 a xs/\∀p,H2 p=none->Q (.ref p) (upd H2 p (.lst xs.reverse))
theorem xH:∀{xs:List V} {its:List Value},Vals xs its->Vals xs.reverse its.reverse
 |[],_,h=>by cases h;exact .nil
 | x::r,_,h=>by
  cases h with
  |cons a t=>rw[reverse_cons,reverse_cons];exact Vals.append (xH t) #[a]
theorem Nq{e st:Expr}{te:TE}{ts:TO}{p2 pos:Pos}(he:PE X e te)(hs:PO X (some st) ts):PE X (.Subscript e (.Slice none none (some st) p2) pos) (ZA X.K te ts):=by
 intro pins s σ H Q I h;refine Subscript_ (cj (he pins s σ H _ I h) λv s1 aI=>?_);obtain⟨x,H1,I1,r1,q1⟩:=aI;refine wpAny_Slice ?_;rw[evalPart_none];refine aaj ?_;refine aaj ?_;refine cj (hs pins s1 σ H1 _ I1 q1) λvk s3 aI=>?_;obtain⟨k,H3,I3,pk,q3⟩:=aI;obtain⟨rfl,a,xs,rfl,hx,q⟩:=q3;cases r1;have I4:Inv X pins σ H3 { s3 with heap:=s3.heap.push { cls:=.type "slice",data:=.fields [.none,.none,vk].toArray } }:=I3.kept (t':=s3.toks) λb ob q=>aag _ q;obtain⟨its,r,ht,hz⟩:=I4.list hx;have hlen:=r.length;show wpAny (model X.prog X.w) X.A (subscriptTail e (.Slice none none (some st) p2) (.ref a) (.ref s3.heap.objs.size)) (EP X pins σ Q) X.xe { s3 with heap:=s3.heap.push { cls:=.type "slice",data:=.fields [.none,.none,vk].toArray } };refine tail_any (ops:=[.ref a,.ref s3.heap.objs.size]) ht.isList.typeIs slot_list_getitem.lookup ?_ (by with_unfolding_all rfl);refine wpAny_getItem_list_slice ht.isList (Heap.IsSliceOf.new ..) .none .none pk (by decide) ?_ (by rw[aaq]<;>omega);rw[PySem.W.krv_pick];refine⟨.ref _,_,I4.laid (t':=s3.toks) (o:=.lst xs.reverse) (λb ob q=>aag _ q) (aao _) ?_,rfl,q _ (I4.hok.fresh (aao _))⟩;exact⟨by rw[List.length_reverse];exact hz,_,0,xH r,aav _ rfl⟩
theorem CK(hh:X.A.handled=none)(hst:starEach [o] X.env=[(false,eval o X.env)])(hg:Gl X "list")(hm:X.mg "list" = none)(hv:bootBuiltins "list" = some (.type "list"))(ho:PE X o to):PE X (.Call (.Name "list" p) [o] [] pos) (XM to):=by
 intro pins s σ H Q I h;refine wpAny_Call_Name_kw (jm I hg hm hv ?_ (by decide) (by decide));refine PyProof.Rows.callWith_type1 ?_ hst rfl;rw[hst];show wpAny _ _ (spliced [(false,eval o X.env)]) _ _ s;refine Calls.spliced_cons ?_;refine cj (ho pins s σ H _ I h) λu s1 aI=>?_;obtain⟨x,H1,I1,r1,a,kvs,ex,ea,q⟩:=aI;subst ex;cases r1;obtain⟨t1,t2,hd⟩:=zK I1 (.inl ⟨kvs,.inl ea⟩);obtain⟨hz,_,vs,rel,dd⟩:=xg I1.hok ea;refine Calls.spliced_nil ?_;obtain⟨ep,da⟩:=dd.dictAt;have hlen:=rel.length;refine kdl_call (kdl_dict (knd:=aY X.prog X.w) (kvs:=vs) (ep:=ep) (d:=a) hd) hh da (by rw[<-hlen];exact hz) λh' tk acc c k2 eD hacc=>?_;have hn:H1 s1.heap.objs.size=none:=I1.hok.fresh (aao _);refine⟨.ref _,_,I1.laid (t':=tk) (λb o z=>k2 b o z) (aao _) (show bR X.prog X.w _ _ _ (.lst (kvs.map λkv=>kV kv.1)) from⟨?_,acc.toList,c,?_,?_⟩),rfl,q _ hn⟩
 ·rw[aah];exact hz
 ·exact oA (P:=X.prog) (w:=X.w) rel (by rw[aaQ];exact hacc.1) λj v e=>hacc.2 j v (by rw[<-getElem?_toList];exact e)
 ·first|(rw[Array.toArray_toList];exact eD)|simpa using eD
theorem CL(hh:X.A.handled=none)(hst:starEach [o] X.env=[(false,eval o X.env)])(hg:Gl X "sorted")(hm:X.mg "sorted" = none)(hv:bootBuiltins "sorted" = some (.builtin "sorted"))(ho:PE X o to):PE X (.Call (.Name "sorted" p) [o] [] pos) (XO to):=by
 intro pins s σ H Q I h;refine wpAny_Call_Name_kw (jm I hg hm hv ?_ (by decide) (by decide));refine PyProof.Rows.callWith_builtin1 ?_ hst rfl;rw[hst];show wpAny _ _ (spliced [(false,eval o X.env)]) _ _ s;refine Calls.spliced_cons ?_;refine cj (ho pins s σ H _ I h) λu s1 aI=>?_;obtain⟨x,H1,I1,r1,a,kvs,ns,ex,ea,ens,h64,q⟩:=aI;subst ex;cases r1;obtain⟨t1,t2,hd⟩:=zK I1 (.inl ⟨kvs,.inl ea⟩);obtain⟨hz,_,vs,rel,dd⟩:=xg I1.hok ea;refine Calls.spliced_nil ?_;obtain⟨ep,da⟩:=dd.dictAt;have hlen:=rel.length;refine pW.iD (O:=pW.qN) (kdu_collect (A:=X.A.in1) (kdl_dict (knd:=aY X.prog X.w) (kvs:=vs) (ep:=ep) (d:=a) hd) (by simp[hh]) da (by rw[<-hlen];exact hz) λh' tk acc k1 hacc=>?_);have hV:Vals (kvs.map λkv=>kV kv.1) acc.toList:=oA (P:=X.prog) (w:=X.w) rel (by rw[aaQ];exact hacc.1) λj v e=>hacc.2 j v (by rw[<-getElem?_toList];exact e);have hk:(kvs.map λkv=>kV kv.1)=ns.map V.int:=by have:=congrArg (List.map kV) ens;rw[aaW,aaW]at this;exact this
 rw[hk]at hV;have hI:=intsAre_of hV;have lv:=hI.length;have hN:∀b o,s1.heap.get? b=some o->b≠h'.objs.size:=λb o e z=>by
  have q:=aar (k1 b o e);rw[z]at q;exact lt_irrefl _ q
 refine⟨by rw[lv];exact h64,λi=>ns.getD i 0,λh2 h6 _=>pW.qO hI h2,λpp h'' outs k' he=>?_⟩;obtain⟨e,he⟩:=he;have mem:∀i∈pp,i<ns.length:=λi hi=>by have:=outs.perm.mem_iff.mp hi;rw[lv]at this;simpa using this
 have pn:(pp.map λi=>ns.getD i 0).Perm ns:=by have:=outs.perm.map λi=>ns.getD i 0;rw[lv,pW.cO]at this;exact this
 have up:(pp.map λi=>ns.getD i 0).Pairwise (· <= ·):=by refine List.Pairwise.imp (R:=pW.qN.kle) (λ{x y:Int} hxy=>?_) outs.up;have hxy:(decide (y<x):Bool)=false:=hxy;exact not_lt.mp (of_decide_eq_false hxy)
 have es:=eq_sortI pn up;have hout:=uF hI pp mem;rw[es]at hout;dsimp only at k' he |-;have hl:s1.heap.get? h'.objs.size=none:=by
  cases e:s1.heap.get? h'.objs.size with
  |none=>rfl
  |some o=>exact absurd rfl (hN _ o e)
 have hn:H1 h'.objs.size=none:=(mG.kept I1.hok k1).fresh (aao _);refine⟨.ref h'.objs.size,_,Sb I1 (t':=tk) (λb o z=>k' b o (k1 b o z)) hl hn (show bR X.prog X.w _ _ _ (.lst ((sortI ns).map V.int)) from⟨?_,_,e,jH hout,he⟩),rfl,q _ hn⟩;rw[aah,(aaF _).length_eq,sizeLine_eq];omega
end
section
variable {X:Cx}
theorem Inv.freeze(I:Inv X pins σ H s)(e:H a=some (.dK kvs))(ho:s.heap.get? a=some o):Inv X pins σ (upd H a (.kI o (.dK kvs))) s :=
 I.write (x:=a) (e:=a) (o:=.kI o (.dK kvs)) (h':=s.heap) (t':=s.toks) (by rw[e];trivial) (.inl rfl) (λb u _ q=>q) ⟨o,ho⟩ ⟨ho,I.hok a _ e⟩
theorem Inv.Sd{pins Se:List (Addr×Obj)}{σ σ0:St}{H H0:Hp}{s s0:Shared}{kvs k0:List (Key×V)}(I0:Inv X Se σ0 H0 s0)(e0:H0 a=some (.dK k0))(I:Inv X pins σ H s)(e:H a=some (.kI o (.dK kvs))):Inv X pins σ (upd H a (.dK kvs)) s:=by
 have nf:∀b,H b=none->b≠a:=λb z y=>by rw[y,e]at z;cases z
 refine⟨I.ok,I.os,I.bare,⟨I.base.keep,I.base.slot,λb ob q n hx=>?_,I.base.there,λb xs q=>?_,λb ob u q=>?_,λb ps q=>?_⟩,I.loc,I.cell,?_,λx c q=>?_,λp hp=>?_,λb u q=>?_,I.len⟩
 ·have z:=I.base.free b ob q n hx;rw[au (nf b z)];exact z
 ·have z:=I.base.tups b xs q;rw[au (λy=>by rw[y,e]at z;cases z)];exact z
 ·have z:=I.base.frzs b ob u q;have z0:=I0.base.frzs b ob u q;rw[au (λy=>by rw[y,e0]at z0;cases z0)];exact z
 ·obtain⟨more,z⟩:=I.base.tB b ps q;exact⟨more,by rw[au (λy=>by rw[y,e]at z;cases z)];exact z⟩
 ·rw[au (nf _ I.free)];exact I.free
 ·rw[au (nf _ (I.iZ x c q))];exact I.iZ x c q
 ·obtain⟨q1,q2,q3⟩:=I.pin p hp;exact⟨q1,by rw[au (nf _ q2)];exact q2,q3⟩
 ·by_cases hb:b=a
  ·subst hb;rw[aP]at q;cases q;obtain⟨_,z⟩:=(show bR X.prog X.w H s.heap b (.kI o (.dK kvs)) from I.hok b _ e);exact z
  ·rw[au hb]at q;exact(I.hok b u q).stay (λc v _ z=>z) (λc z=>by rw[au (λy=>by rw[y,e]at z;cases z)];exact z) λc xs z=>by rw[au (λy=>by rw[y,e]at z;cases z)];exact z
def Ew(t:TE):TE:=λσ H Q=>∃a kvs,H a=some (.dK kvs)/\t σ H λv H'=>∃o,H' a=some (.kI o (.dK kvs))/\Q v (upd H' a (.dK kvs))
theorem JI(h:PE X e t):PE X e (Ew t):=by
 intro pins s σ H Q I hh;obtain⟨a,kvs,ea,ht⟩:=hh;exact cj (h pins s σ H _ I ht) λv s1 ⟨x,H1,I1,r1,o,e1,q⟩=>⟨x,_,Inv.Sd I ea I1 e1,r1,q⟩
def Sf(t:TS):TS:=λD σ H=>∃a kvs,H a=some (.dK kvs)/\t { D with nx:=λσ' H'=>∃o,H' a=some (.kI o (.dK kvs))/\D.nx σ' (upd H' a (.dK kvs)) } σ H
theorem JJ{st:Stmt}{t:TS}(h:PS X st t):PS X st (Sf t):=by
 intro pins s σ H D I hh;obtain⟨a,kvs,ea,ht⟩:=hh;refine cj (h pins s σ H _ I ht) λf s1 q=>?_;cases f with
 |next=>obtain⟨σ1,H1,I1,o,e1,q⟩:=q;exact⟨σ1,_,Inv.Sd I ea I1 e1,q⟩
 |brk=>exact q
 |cont=>exact q
 |ret u=>exact q
def XQ(a:Addr)(o:Obj)(kvs:List (Key×V)):It :=
 ⟨λi H=>H a=some (.kI o (.dK kvs))/\i<kvs.length,λi H x H'=>H'=H/\∃kv,kvs[i]?=some kv/\x=kV kv.1,λi H=>H a=some (.kI o (.dK kvs))/\kvs.length<=i⟩
theorem Ex:∀{kvs:List (Key×V)} {vs:List (Key×Value)} {i:Nat} {kv:Key×V},KV kvs vs->kvs[i]?=some kv->∃v,vs[i]?=some (kv.1,v)
 |[],_,_,_,_,e=>by simp at e
 | p::kvs,_,0,kv,r,e=>by
  cases r with
  |@cons _ q _ qs hq t=>simp at e;subst e;exact⟨q.2,by rw[hq.1];rfl⟩
 | p::kvs,_,i+1,kv,r,e=>by
  cases r with
  |@cons _ q _ qs hq t=>obtain⟨v,hv⟩:=Ex t (by simpa using e);exact⟨v,by simpa using hv⟩
theorem CM{P:Program}{w:World}{K:Frag}{tg:Expr}(a it:Addr){o:Obj}{es:Array DictEntry}{ep:Nat}{kvs:List (Key×V)}{vs:List (Key×Value)}(rel:KV kvs vs)
  (hd:o.ExactDict/\o.data=.dict es ep/\KeysOf (aY P w) es/\Pairs (aY P w) es.toList vs/\(vs.map (·.1)).Nodup) :
  Turn P w K tg (XQ a o kvs) [it] it (λi h=>h.IsKeyIter it a i vs.length ep) where
 mem:=by simp
 obj:=λi h st b hb=>by
  have e:b=it:=by simpa using hb
  subst e;obtain⟨o,e,c,d⟩:=st;exact⟨o,e,λv z=>by rw[d]at z;cases z⟩
 keep:=λi h h' st k=>st.at λo e=>k it (by simp) o e
 item:=by intro X hP hw hK hc i pins s σ H E I hf st hg;subst hP hw hK;obtain⟨ha,hi⟩:=hg;obtain⟨hob,_⟩:=(show bR X.prog X.w H s.heap a (.kI o (.dK kvs)) from I.hok a _ ha);have hm:s.heap.DictAt (aY X.prog X.w) a vs ep:=⟨o,es,hob,hd⟩;obtain⟨v,hv⟩:=Ex rel (aay hi);obtain⟨f0,f1,f2,f3,f4,f5⟩:=hf it (by simp);refine wpAny_pyNext_dict_item st hm hv λkey h' hkey st' sb=>?_;have I1:Inv X pins σ H { s with heap:=h' }:=I.turned (t':=s.toks) (λb o hb e=>(sb.2 b hb).trans e) f0 f1 f3 f4 f5;obtain⟨o',e,c,d⟩:=id st';exact⟨key,rfl,AE (s:={ s with heap:=h' }) e c d (by decide) ⟨kV kvs[i].1,H,I1,Eu hkey,⟨rfl,kvs[i],aay hi,rfl⟩,st',λb hb=>(hf b hb).1⟩⟩
 done:=by intro X hP hw hK hc i pins s σ H E I hf st hg;subst hP hw hK;obtain⟨ha,hi⟩:=hg;obtain⟨hob,_⟩:=(show bR X.prog X.w H s.heap a (.kI o (.dK kvs)) from I.hok a _ ha);have hm:s.heap.DictAt (aY X.prog X.w) a vs ep:=⟨o,es,hob,hd⟩;obtain⟨f0,f1,f2,f3,f4,f5⟩:=hf it (by simp);exact wpAny_pyNext_dict_end (I.ok.hd hc) st hm (List.getElem?_eq_none (by rw[<-rel.length];exact hi)) λh' eb=>⟨rfl,I.turned (t':=s.toks) (λb o hb e=>eb b o hb e) f0 f1 f3 f4 f5⟩
 self:=λ_ _ _ _ _ st h=>wpAny_pyIter_keyiter st h
def Ey(tl:TE):TI:=λσ H R=>tl σ H λx H1=>∃a kvs,x=.ref a/\H1 a=some (.dK kvs)/\∀o,R (XQ a o kvs) (upd H1 a (.kI o (.dK kvs)))
theorem JK(hl:PE X l tl):PI X tg l (Ey tl):=by
 intro pins s σ H R I h;refine cj (hl pins s σ H _ I h) λv s1 aI=>?_;obtain⟨x,H1,I1,r1,q1⟩:=aI;obtain⟨a,kvs,e,ea,q⟩:=q1;subst e;cases r1;obtain⟨hz,hsm,vs,rel,dd⟩:=xg I1.hok ea;obtain⟨ep,da⟩:=dd.dictAt;obtain⟨o,es,ho,r⟩:=id da;have I2:=I1.freeze ea ho;refine wpAny_pyIter_dict hsm da ?_;refine⟨s1.heap.objs.size,[s1.heap.objs.size],_,_,_,rfl,I2.kept (t':=s1.toks) λb o e=>aag _ e,CM a _ rel r,⟨_,aav _ rfl,rfl,rfl⟩,λb hb=>?_,q o⟩;have e:b=s1.heap.objs.size:=by simpa using hb
 subst e;exact I2.DP (aao _) (I2.hok.fresh (aao _))
def ZC(K:Frag)(js:List (Option Nat))(d q:Nat):TE:=λσ H Q=>∃a kvs b ys,σ[d]?=some (some (.ref a))/\H a=some (.dK kvs)/\kvs.length<=sizeLine/\(iC js σ)[q]?=some (some (.ref b))/\iu K H b ys/\ys.all aJ=true /\
 ∀D,H D=none->Q (.ref D) (upd H D (.lst ((kvs.map λkv=>kV kv.1).filter λk=>!Io k ys)))
theorem Ez{K:Frag}{H:Hp}{a b:Addr}{ys:List V}{u:HO}(q:iu K H b ys)(h:∀v,H a=some v->(∀xs,v≠.lst xs)/\∀o xs,v≠.kI o (.lst xs)):iu K (upd H a u) b ys:=by
 rcases q with (q|⟨o,q⟩)|q
 ·exact .inl (.inl (by rw[au (λy=>by subst y;exact(h _ q).1 _ rfl)];exact q))
 ·exact .inl (.inr ⟨o,by rw[au (λy=>by subst y;exact(h _ q).2 _ _ rfl)];exact q⟩)
 ·exact .inr q
theorem Nr{K:Frag}{js:List (Option Nat)}{d p q:Nat}(hpq:p≠q)(hp:p<js.length){σ:St}{H:Hp}{Q:VK}(h:ZC K js d q σ H Q):Ew (xu (Ey (tD d)) js (pB p) (DR (QL (V6 K true) (tD p) (tD q))) (tD p)) σ H Q:=by
 obtain⟨a,kvs,b,ys,hd,ha,hz,hb,hs,hf,hQ⟩:=h;refine⟨a,kvs,ha,.ref a,hd,a,kvs,rfl,ha,λo D hD=>?_⟩;have Wt:D≠a:=λz=>by rw[z,aP]at hD;cases hD
 have ZD:H D=none:=by rw[au Wt]at hD;exact hD
 have hs1:iu K (upd H a (.kI o (.dK kvs))) b ys:=Ez hs λv hv=>by rw[ha]at hv;cases hv;exact⟨λ_ z=>(nomatch z),λ_ _ z=>(nomatch z)⟩
 let L:Nat->List V:=λi=>((kvs.take i).map λkv=>kV kv.1).filter λk=>!Io k ys
 have hlL:∀i,(L i).length<=i:=λi=>by
  refine aaM (length_filter_le _ _) ?_;rw[aah,length_take];omega
 refine⟨λi m σ' H'=>i+m=kvs.length/\H'=upd (upd H a (.kI o (.dK kvs))) D (.lst (L i)) /\ σ'.length=js.length /\ σ'[q]?=some (some (.ref b)),⟨kvs.length,by omega,rfl,jn js σ,hb⟩,?_⟩;rintro i m σ' H' ⟨e1,rfl,e3,e4⟩;have Sg:upd (upd H a (.kI o (.dK kvs))) D (.lst (L i)) a=some (.kI o (.dK kvs)):=by rw[au Wt.symm,aP]
 cases m with
 |zero=>
  refine .inl ⟨⟨Sg,by omega⟩,o,Sg,?_⟩;have:upd (upd (upd H a (.kI o (.dK kvs))) D (.lst (L i))) a (.dK kvs)=upd H D (.lst (L i)):=by
   funext c;unfold upd
   by_cases c1:c=a
   ·rw[aai c1,aal (by rw[c1];exact Wt.symm),c1];exact ha.symm
   ·rw[aal c1]
    by_cases c2:c=D
    ·rw[aai c2,aai c2]
    ·rw[aal c2,aal c2,aal c1]
  rw[this];have:=hQ D ZD;show Q _ (upd H D (.lst (((kvs.take i).map λkv=>kV kv.1).filter λk=>!Io k ys)));rw[List.take_of_length_le (by omega)];exact this
 |succ m=>
  have hi:i<kvs.length:=by omega
  refine .inr ⟨⟨Sg,hi⟩,_,λAO JB w=>⟨m,lt_succ_self _,w⟩,λx H2 hy=>?_⟩;obtain⟨rfl,kv,hkv,rfl⟩:=hy;have fx:aJ (kV kv.1)=true:=by cases kv.1<;>rfl
  have g1:(σ'.set p (some (kV kv.1)))[p]?=some (some (kV kv.1)):=aak (by omega);have g2:(σ'.set p (some (kV kv.1)))[q]?=some (some (.ref b)):=by rw[aaf hpq];exact e4
  have hs2:iu K (upd (upd H a (.kI o (.dK kvs))) D (.lst (L i))) b ys:=Ez hs1 λv hv=>by rw[hD]at hv;cases hv
  have hL:L (i+1)=if (!Io (kV kv.1) ys)=true then L i++[kV kv.1] else L i:=by
   show ((kvs.take (i+1)).map λkv=>kV kv.1).filter _=_;rw[List.take_succ,hkv];simp only[Option.toList,map_append,List.filter_append,map_cons,map_nil,List.filter_cons,List.filter_nil]
   split<;>simp[L]
  refine⟨kV kv.1,g1,.ref b,g2,b,ys,rfl,.inl hs2,fx,hf,_,rfl,?_⟩;simp only[if_true]
  by_cases hin:(!Io (kV kv.1) ys)=true
  ·rw[aai hin];refine⟨kV kv.1,g1,L i,aP,by have:=hlL i;omega,by omega,?_,by rw[length_set];exact e3,g2⟩;rw[IJ,hL,aai hin]
  ·rw[aal hin];exact⟨by omega,by rw[hL,aal hin],by rw[length_set];exact e3,g2⟩
structure Nt (K:Frag) (C:Addr) (m:Str) (f:Addr):Prop where
 ga:specialIn K (.ref C) "__getattribute__" = some (some (.builtin "type.__getattribute__"))
 rd:readsIn K C (.type "type")=true
 at_:findCls K (.ref C) (.type "type") m=some (.val (.ref f))
 kp:keepIn K (.ref f)=true
theorem Nu{k:Nat}(F:fW X.prog X.w X.K X.mg X.base zd k f fd ps sp)(hr:dw k X.A)(hg:Gl X x)(hm:X.mg x=some (.ref C))(c:Nt X.K C m f)(hb:Binds X.K fd ps [])
  (ha:PA X (l::ls) t) (hd:(x==("__debug__":Str))=false)
  (hfew:((backTo cp (starEach (l::ls) X.env)).all (λx=>!x.1)&&(backToKw cp (keywordEach [] X.env)).all (λx=>x.1.isSome)
   && decide ((l::ls).length+([]:List Keyword).length+(if ([]:List Keyword).isEmpty then 0 else 1)<30))=true) (hline:(ap.endLine==cp.line)=true)
  (st:starEach (l::ls) X.env=(false,eval l X.env)::starEach ls X.env) (an:(backTo cp (starEach ls X.env)).any (·.1)=false) :
  PE X (.Call (.Attribute (.Name x np) m ap) (l::ls) [] cp) (λσ H Q=>t σ H λvs H1=>sp vs H1 Q E0):=by
 intro pins s σ H Q I h;refine oE rfl hfew hline (lM I hg hm (λpl=>?_) hd);refine PySem.W.method_cls I.n8 c.ga (PySem.W.cls_value I.n8 c.rd c.at_ rfl ?_);refine callWith_K (first:=[]) (h₀:=X.base) I.ok.mod.QH c.kp (cj (ha cp pins _ σ H _ (I.tok _) h) λus s2 ⟨vs,H2,I2,r,q2⟩=>⟨I2.n8,?_⟩) st an;exact qD (us:=us) (vs:=vs) (tw:=[]) (ds:=[]) F hr hb .nil qJ I2 r (by rw[append_nil];exact q2)
structure XR (K:Frag) (C:Addr):Prop where
 ha:findIn K (.ref C) "__class__" = some (some (.builtin "object.__class__"))
 hn:specialIn K (.builtin "object.__class__") "__get__" = some (some (.builtin "getset_descriptor.__get__"))
 htk:PySem.W.takesIn K (.builtin "object.__class__")=some true
 hm:PySem.W.mroIn K C (.type "object")=some true
end
end L2
end
section
namespace L2
open PySem PySem.Spec PyProof.Rows
section
variable {X:Cx}
def XS(k:Int):Value->Bool
 |.int a _=>a==k
 |_=>false
def JL:V->List V->Hp->VK->Prop:=λx vs H Q=>∃(l:Addr) (ks:List Int) (i:Int),x=.ref l/\vs=[.int i]/\H l=some (.lst (ks.map V.int))/\i∈ks/\Q .non (upd H l (.lst ((ks.map V.int).eraseIdx (ks.idxOf i))))
theorem CN:U7 X "list.remove" JL:=by
 intro pins s σ H x vs v us Q I rx rv h;obtain⟨l,ks,i,rfl,rfl,hH,hi,q⟩:=h;cases rx;obtain⟨u,rfl,ru⟩:=rv.one;obtain⟨t,rfl⟩:=ru;obtain⟨z,its,n,r,hl,e⟩:=I.D4 hH;have hk:ks.length=its.length:=by rw[<-hl,aah]
 have at':∀m (hm:m<ks.length),∃t,its[m]?=some (.int ks[m] t):=λm hm=>by
  obtain⟨w,hw,t,rfl⟩:=r.get (i:=m) (x:=V.int ks[m]) (by rw[aaD,aay hm];rfl);exact⟨t,hw⟩
 have hj:ks.idxOf i<ks.length:=List.idxOf_lt_length_of_mem hi;have sz:its.toArray.size=ks.length:=by rw[aaq,hk]
 have val:∀m (hm:m<its.toArray.size),XS i its.toArray[m]=(ks[m]'(sz▸hm)==i):=λm hm=>by
  obtain⟨t,q⟩:=at' m (sz▸hm);have q2:its.toArray[m]=.int (ks[m]'(sz▸hm)) t:=by have:=Array.getElem?_eq_getElem hm;rw[List.getElem?_toArray,q]at this;exact(aaH this).symm
  rw[q2];rfl
 refine call_meets F.slot_list_remove ⟨_,e,rfl⟩ F.entry_list_remove (F.args_list_remove_2 _ _)
  (MeetsSeq.list_remove l its.toArray n (.int i t) (XS i) (λy hy=>?_) (ks.idxOf i) (by rw[sz];exact hj) ?_ ?_ (by rw[aaq];omega)) ⟨e,?_⟩
 ·obtain⟨m,hm,rfl⟩:=List.mem_iff_getElem.mp (List.mem_toArray.mp hy);obtain⟨t',q⟩:=at' m (by omega);rw[aay hm]at q;rw[aaH q];exact MeetsSeq.EqGives.int _ _ _ _
 ·rw[val];exact beq_iff_eq.mpr (List.getElem_idxOf hj)
 ·intro m hm h2
  rw[val];exact aaU.mpr λe=>by
   have:=List.not_of_lt_findIdx (p:=(· == i)) (xs:=ks) (i:=m) h2;exact nomatch this.symm.trans (beq_iff_eq.mpr e)
 refine⟨.non,_,I.Jt (its':=its.eraseIdx (ks.idxOf i)) hH e ?_ (r.eraseIdx _) ?_,rfl,q⟩
 ·show its.toArray.eraseIdxIfInBounds _=(its.eraseIdx _).toArray;rw[List.eraseIdxIfInBounds_toArray]
 ·have:=uh (ks.map V.int) (ks.idxOf i);omega
end
end L2
end
section
namespace Hv
open PySem L2 PyProof.Rows
inductive Val
 |non|bl (b:Bool)|int (i:Int)|str (x:Str)|tup (vs:List Val)|rl (vs:List Val)|dc (ks:List Key) (vs:List Val)|ob (c:Nat) (xs:List Str) (vs:List Val)|ref (i:Nat)
inductive Ob
 |lst (xs:List Val)|dct (kvs:List (Key×Val))|ins (c:Nat) (fs:List (Str×Val))
abbrev Hs:=List Ob
inductive Out (α:Type)
 |ok (a:α) (h:Hs)|exc (c:Nat) (vs:List Val) (h:Hs)|no
abbrev M(α:Type):=Hs->Out α
def ret{α:Type}(a:α):M α:=λh=>.ok a h
def bnd{α β:Type}(m:M α)(f:α -> M β):M β:=λh=>match m h with
 |.ok a h'=>f a h'
 |.exc c vs h'=>.exc c vs h'
 |.no=>.no
def bD{α:Type}(o:Option α):M α:=λh=>match o with
 |some a=>.ok a h
 |none=>.no
def ask{α:Type}(f:Hs->Option α):M α:=λh=>bD (f h) h
def new(o:Ob):M Val:=λh=>.ok (.ref h.length) (h++[o])
def put(i:Nat)(o:Ob):M Unit:=λh=>.ok () (h.set i o)
def bS{α β:Type}(f:α -> Option β):List α -> Option (List β)
 |[]=>some []
 |a::r=>(f a).bind λb=>(bS f r).bind λbs=>some (b::bs)
inductive JM|add|sub|mul|fdiv|mod|pow
 deriving DecidableEq
inductive Nv|eq|ne|lt|le|gt|ge|isn|ntn|ze|nin
 deriving DecidableEq
inductive Bl|len|min|max|sorted|list|tuple|str|int|all|any|isin (T:String)
 deriving DecidableEq
inductive Me|join|append|extend|remove
 deriving DecidableEq
inductive zY|one (i:Nat)|tup (is:List Nat)
 deriving DecidableEq
inductive Ik|seq|range|enum|zip
 deriving DecidableEq
mutual
inductive IE
 |var (i:Nat)|cst (d:Val)|con (x:Str) (d:Val)|no
 |bin (o:JM) (a b:IE)|neg (a:IE)|cmp (o:Nv) (a b:IE)|chn (o p:Nv) (a b c:IE)
 |and (a b:IE)|or (a b:IE)|not (a:IE)|ite (c a b:IE)
 |tup (es:mP)|lst (es:mP)|idx (a b:IE)|slc (a lo hi:IE)
 |call (j:Nat) (es:mP)|blt (b:Bl) (es:mP)|met (m:Me) (a:IE) (es:mP)
 |comp (N:List Str) (js:List (Option Nat)) (pat:zY) (k:Ik) (it:mP) (c elt:IE)
 |dct0
 |sset (a:IE)
 |dget (d k x:IE)
 |dct1 (k v:IE)
 |lkeys (d:IE)
 |sdef (d k x:IE)
 |svals (d:IE)
 |skeys (d:IE)
 |fld (n:Nat) (a:IE) (x:Str)
 |mth (a:IE) (m:Str) (js:List (Nat×Nat)) (es:mP)
 |rev (a s:IE)
 |dflt (N:List Str) (js:List (Option Nat)) (p q:Nat) (d w:IE)
 |isc (a:IE) (x:Str) (bs:List Bool)
inductive mP|nil|cons (e:IE) (es:mP)
end
abbrev Env:=List (Option Val)
mutual
inductive IS
 |expr (e:IE)|asg (p:zY) (e:IE)|aug (i:Nat) (o:JM) (e:IE)|eW (o i v:IE)
 |iff (c:IE) (a b:di)|for (p:zY) (k:Ik) (it:mP) (body:di)|whl (n:Nat) (c:IE) (body:di)
 |ret (e:IE)|EA|brk|cnt|pass|never|setF (n:Nat) (a:IE) (x:Str) (v:IE)
inductive di|nil|cons (s:IS) (r:di)
end
def aG(h:Hs):Val->Option (List Val)
 |.rl vs=>some vs
 | .ref i=>match h[i]? with
  |some (.lst xs)=>some xs
  |_=>none
 |_=>none
def mq(h:Hs):Val->Option (List Val)
 |.tup vs=>some vs
 |v=>aG h v
def uG(h:Hs):Val->Option (List Val)
 |.tup vs=>some vs
 |.ref i=>aG h (.ref i)
 |_=>none
def bT:List Val->Option (List Int):=bS λv=>match v with
 |.int i=>some i
 |_=>none
def fZ:List Val->Option (List Bool):=bS λv=>match v with
 |.bl i=>some i
 |_=>none
def mw:List Val->Option (List (List Int)):=bS λv=>match v with
 |.tup vs=>if vs.isEmpty then none else bT vs
 |_=>none
def toD:Nat->Hs->Val->Option PyData
 |0,_,_=>none
 |_+1,_,.non=>some .none
 |_+1,_,.bl b=>some (.bool b)
 |_+1,_,.int i=>some (.int i)
 |_+1,_,.str x=>if PyData.strOk x=true then some (.str x) else none
 |n+1,h,.tup vs=>(bS (toD n h) vs).bind λds=>some (.tuple ds)
 |n+1,h,.rl vs=>(bS (toD n h) vs).bind λds=>some (.list ds)
 |_+1,_,.dc _ _=>none
 |_+1,_,.ob _ _ _=>none
 |n+1,h,.ref i=>(aG h (.ref i)).bind λxs=>(bS (toD n h) xs).bind λds=>some (.list ds)
def AX(h:Hs)(v w:Val):Option Bool:=(toD 16 h v).bind λd=>(toD 16 h w).bind λe=>some (PyData.eqv d e)
def vC(x:List Int):List (List Int)->List (List Int)
 |[]=>[x]
 |y::r=>if HT.lexLt y x=true then y::vC x r else x::y::r
def nk:List (List Int)->List (List Int)
 |[]=>[]
 |x::r=>vC x (nk r)
def nq(ks:List Int):Val:=.tup (ks.map .int)
def fR(xs:List Val):Option (List Val) :=
 if xs.length<64 then
  match bT xs with
  |some ns=>some ((sortI ns).map .int)
  |none=>(mw xs).bind λqf=>some ((nk qf).map nq)
 else none
def fk(i j:Int):Bool:=(decide (-(2 ^ 64)<i)&&decide (i<2 ^ 64))||(decide (-(2 ^ 64)<j)&&decide (j<2 ^ 64))
def aH{α:Type}(c:Bool)(m:M α):M α:=λh=>if c=true then m h else .no
def j7(b:Int):Bool:=decide (0<b/\b<1606938044258990275541962092341162602522202993782792835301376)
def LG:JM->Val->Val->M Val
 |.add,.int a,.int b=>ret (.int (a+b))
 |.add,.str a,.str b=>aH (decide (a.length+b.length<=sizeLine)) (ret (.str (a++b)))
 |.add,.tup a,.tup b=>aH (!a.isEmpty&&decide (a.length+b.length<=sizeLine)) (ret (.tup (a++b)))
 |.add,v,w=>bnd (ask λh=>aG h v) λa=>bnd (ask λh=>aG h w) λb=>aH (decide (a.length+b.length<=sizeLine)) (new (.lst (a++b)))
 |.sub,.int a,.int b=>ret (.int (a-b))
 |.mul,.int a,.int b=>aH (fk a b) (ret (.int (a*b)))
 |.fdiv,.int a,.int b=>aH (j7 b) (ret (.int (a/b)))
 |.mod,.int a,.int b=>aH (decide (0<b)) (ret (.int (a%b)))
 |.pow,.int a,.int b=>aH (decide (0<=b/\b<=1000000/\a.natAbs<2 ^ 64)) (ret (.int (a ^ b.toNat)))
 |_,_,_=>bD none
def qV:Val->Bool
 |.non=>true
 |_=>false
def cL(kvs:List (Key×Val))(k:Key):Option Val:=(kvs.find? λkv=>decide (kv.1=k)).map (·.2)
def iW(kvs:List (Key×Val))(k:Key)(v:Val):List (Key×Val) :=
 if (kvs.any λkv=>decide (kv.1=k))=true then kvs.map (λkv=>if kv.1=k then (kv.1,v) else kv) else kvs++[(k,v)]
def keyOf:Val->Option Key
 |.int i=>some (.inl i)
 |.str x=>some (.inr x)
 |_=>none
def Sh(f d:PyData):Option Bool:=match f with
 |.list ds=>some (ds.any λy=>PyData.eqv y d)
 |.tuple ds=>some (ds.any λy=>PyData.eqv y d)
 |_=>none
def memD(h:Hs)(v w:Val):Option Bool:=(toD 16 h w).bind λf=>(toD 16 h v).bind λd=>Sh f d
def xK(h:Hs)(v w:Val):Option Bool:=memD h v w
def LH(v w:Val):Option Bool:=match w with
 |.non=>some (qV v)
 | .bl b=>(match v with
  |.bl a=>some (a==b)
  |_=>none)
 |_=>none
def cop(h:Hs):Nv->Val->Val->Option Bool
 |.eq,v,w=>AX h v w
 |.ne,v,w=>(AX h v w).map (!·)
 |.lt,.int a,.int b=>some (decide (a<b))
 |.le,.int a,.int b=>some (decide (a<=b))
 |.gt,.int a,.int b=>some (decide (b<a))
 |.ge,.int a,.int b=>some (decide (b<=a))
 |.isn,v,w=>LH v w
 |.ntn,v,w=>(LH v w).map (!·)
 |.ze,v,w=>xK h v w
 |.nin,v,w=>(xK h v w).map (!·)
 |_,_,_=>none
def ck(h:Hs):Val->Option Bool
 |.non=>some false
 |.bl b=>some b
 |.int i=>some (i != 0)
 |.str x=>if x.length<=sizeLine then some ((x.length:Int) != 0) else none
 |.tup vs=>some (!vs.isEmpty)
 |.rl vs=>some (!vs.isEmpty)
 |.dc ks _=>some (!ks.isEmpty)
 |.ob _ _ _=>none
 | .ref i=>match h[i]? with
  |some (.lst xs)=>some (!xs.isEmpty)
  |some (.dct xs)=>some (!xs.isEmpty)
  |_=>none
def ju(h:Hs):Val->Val->Option Val
 |.str x,.int i=>if x.length<=sizeLine then (iV x.cps.toList i).map λc=>.str ⟨[c].toArray⟩ else none
 |.tup vs,.int i=>iV vs i
 |.rl vs,.int i=>iV vs i
 | .ref j,.int i=>match h[j]? with
  |some (.dct kvs)=>cL kvs (.inl i)
  |_=>(aG h (.ref j)).bind λxs=>iV xs i
 | .ref j,.str x=>match h[j]? with
  |some (.dct kvs)=>cL kvs (.inr x)
  |_=>none
 |.dc ks vs,.int i=>cL (ks.zip vs) (.inl i)
 |.dc ks vs,.str x=>cL (ks.zip vs) (.inr x)
 |_,_=>none
def EB(h:Hs)(o:Val):Option Unit:=match o with
 | .ref i=>(match h[i]? with
  |some (.dct _)=>some ()
  |_=>none)
 |.dc _ _=>some ()
 |_=>none
def zZ(h:Hs)(o:Val)(k:Key):Option (Option Val):=match o with
 | .ref i=>(match h[i]? with
  |some (.dct kvs)=>some (cL kvs k)
  |_=>none)
 |.dc ks vs=>some (cL (ks.zip vs) k)
 |_=>none
def nt(h:Hs)(o:Val):Option (List Key):=match o with
 | .ref i=>(match h[i]? with
  |some (.dct kvs)=>some (kvs.map (·.1))
  |_=>none)
 |.dc ks _=>some ks
 |_=>none
def CO:Key->Val
 |.inl i=>.int i
 |.inr x=>.str x
def qW:List Key->Option (List Int):=bS λk=>match k with
 |.inl i=>some i
 |.inr _=>none
def mQ(h:Hs)(o:Val):Option (List Int):=(nt h o).bind λks=>(qW ks).bind λns=>if ns.length<64 then some (sortI ns) else none
def qX(h:Hs)(ks:List Key)(w:Val):Option (List Int):=(qW ks).bind λns=>(aG h w).bind λxs=>(bT xs).bind λms=>if ns.length<=100000 then some (ns.filter λn=>!(ms.any λm=>m==n)) else none
def bZ{α:Type}(ds:List α)(lo hi:Option Int):List α:=(ds.drop (HT.eN ds.length 0 lo)).take (HT.eN ds.length ds.length hi-HT.eN ds.length 0 lo)
def tN(v:Val)(lo hi:Option Int):M Val:=match v with
 |.tup vs=>aH (!(decide (HT.eN vs.length 0 lo=0)&&decide (HT.eN vs.length vs.length hi=vs.length))) (ret (.tup (bZ vs lo hi)))
 |v=>bnd (ask λh=>aG h v) λxs=>new (.lst (bZ xs lo hi))
def xN(h:Hs):Val->Option String
 |.non=>some "NoneType" | .bl _=>some "bool" | .int _=>some "int" | .str _=>some "str" | .tup _=>some "tuple" | .rl _=>some "list" | .dc _ _=>some "dict" | .ob _ _ _=>none
 | .ref i=>match h[i]? with
  |some (.lst _)=>some "list"
  |some (.dct _)=>some "dict"
  |_=>none
def xP(T:String)(t:String):Option Bool :=
 if ["list","tuple","str","bool","int","dict"].contains T=true then some (decide (T=t\/(T = "int" /\ t = "bool"))) else none
def nu(h:Hs):Val->Option Nat
 |.str x=>if x.length<=sizeLine then some x.length else none
 |.tup vs=>some vs.length
 |.rl vs=>some vs.length
 |.dc ks _=>some ks.length
 | .ref i=>match h[i]? with
  |some (.lst xs)=>some xs.length
  |some (.dct xs)=>some xs.length
  |_=>none
 |_=>none
def blt:Bl->List Val->M Val
 |.len,[v]=>bnd (ask λh=>nu h v) λn=>ret (.int n)
 |.min,[.int a,.int b]=>ret (.int (if b<a then b else a))
 |.max,[.int a,.int b]=>ret (.int (if b>a then b else a))
 |.sorted,[v]=>bnd (ask λh=>aG h v) λxs=>bnd (bD (fR xs)) λys=>new (.lst ys)
 |.list,[v]=>bnd (ask λh=>mq h v) λxs=>new (.lst xs)
 |.int,[.bl b]=>ret (.int (if b=true then 1 else 0))
 |.int,[.int i]=>ret (.int i)
 |.all,[v]=>bnd (ask λh=>aG h v) λxs=>bnd (bD (fZ xs)) λbs=>ret (.bl (bs.all id))
 |.isin T,[v]=>bnd (ask λh=>xN h v) λt=>bnd (bD (xP T t)) λb=>ret (.bl b)
 |_,_=>bD none
def met:Me->Val->List Val->M Val
 |.append,.ref i,[v]=>bnd (ask λh=>match h[i]? with|some (.lst xs)=>some xs|_=>none) λxs=>aH (decide (xs.length<sizeLine)) (bnd (put i (.lst (xs++[v]))) λ_=>ret .non)
 |.extend,.ref i,[v]=>bnd (ask λh=>match h[i]? with|some (.lst xs)=>some xs|_=>none) λxs=>bnd (ask λh=>uG h v) λys=>aH (decide (xs.length+ys.length<=sizeLine)) (bnd (put i (.lst (xs++ys))) λ_=>ret .non)
 |.remove,.ref i,[.int k]=>bnd (ask λh=>match h[i]? with|some (.lst xs)=>some xs|_=>none) λxs=>bnd (bD (bT xs)) λks=>aH (decide (k∈ks)) (bnd (put i (.lst (xs.eraseIdx (ks.idxOf k)))) λ_=>ret .non)
 |_,_,_=>bD none
def recv(h:Hs):Me->Val->Option Unit
 |.join,.str _=>some ()
 |.append,.ref i=>match h[i]? with|some (.lst _)=>some ()|_=>none
 |.extend,.ref i=>match h[i]? with|some (.lst _)=>some ()|_=>none
 |.remove,.ref i=>match h[i]? with|some (.lst _)=>some ()|_=>none
 |_,_=>none
inductive Src
 |fix (xs:List Val)|live (i:Nat)|enum (i:Nat)|zip (v w:Val)
def cM:Nat->List Val->List Val
 |_,[]=>[]
 |i,d::r=>.tup [.int i,d]::cM (i+1) r
def Si:List Val->List Val->List Val
 |a::r,b::t=>.tup [a,b]::Si r t
 |_,_=>[]
def bU(lo:Int)(n:Nat):List Val:=(List.range n).map λ(i:Nat)=>Val.int (lo+(i:Int))
def inR(i:Int):Bool:=decide (-(2 ^ 62)<=i)&&decide (i<2 ^ 62)
def srcOf:Ik->List Val->Option Src
 |.seq,[.tup vs]=>some (.fix vs)
 |.seq,[.rl vs]=>some (.fix vs)
 |.seq,[.ref i]=>some (.live i)
 |.range,[.int n]=>if inR n then some (.fix (bU 0 n.toNat)) else none
 |.range,[.int a,.int b]=>if inR a&&inR b then some (.fix (bU a (b-a).toNat)) else none
 |.enum,[.rl vs]=>some (.fix (cM 0 vs))
 |.enum,[.ref i]=>some (.enum i)
 |.zip,[v,w]=>some (.zip v w)
 |_,_=>none
def Src.items(h:Hs):Src->Option (List Val)
 |.fix xs=>some xs
 |.live i=>aG h (.ref i)
 |.enum i=>(aG h (.ref i)).map (cM 0)
 |.zip v w=>(aG h v).bind λxs=>(aG h w).map λys=>Si xs ys
def bindAll:List Nat->List Val->Env->Option Env
 |[],[],env=>some env
 |i::is,d::ds,env=>bindAll is ds (env.set i (some d))
 |_,_,_=>none
def fS:zY->Val->Env->Option Env
 |.one i,d,env=>some (env.set i (some d))
 |.tup is,.tup ds,env=>bindAll is ds env
 |_,_,_=>none
def kW(js:List (Option Nat))(env:Env):Env:=js.map λo=>match o with
 |none=>none
 | some j=>match env[j]? with
  |some (some d)=>some d
  |_=>none
def gx(src:Src)(f:Val->M (Option Val)):Nat->Nat->List Val->M (List Val)
 |0,i,acc=>bnd (ask λh=>src.items h) λxs=>aH (decide (xs.length<=i)) (ret acc)
 | n+1,i,acc=>bnd (ask λh=>src.items h) λxs=>match xs[i]? with
  |none=>ret acc
  |some x=>bnd (f x) λo=>gx src f n (i+1) (match o with|some e=>acc++[e]|none=>acc)
def cN:IE->Bool
 |.no=>true
 |_=>false
def fu:Val->Option Int
 |.int i=>some i
 |_=>none
def qY:Val->M Bool
 |.bl b=>ret b
 |_=>bD none
def jv(n:Nat)(h:Hs)(o:Val)(x:Str):Option Val:=match o with
 | .ref i=>(match h[i]? with
  |some (.ins c fs)=>if c<n then fs.lookup x else none
  |_=>none)
 |.ob c xs vs=>if c<n then (xs.zip vs).lookup x else none
 |_=>none
def lY(h:Hs)(o:Val)(m:Str)(js:List (Nat×Nat)):Option Nat:=match o with
 | .ref i=>(match h[i]? with
  |some (.ins c fs)=>if (fs.lookup m).isNone=true then js.lookup c else none
  |_=>none)
 |.ob c xs vs=>if ((xs.zip vs).lookup m).isNone=true then js.lookup c else none
 |_=>none
def qZ(f:Str)(v:Val):List (Str×Val)->List (Str×Val)
 |[]=>[(f,v)]
 |(g,x)::r=>if g=f then (g,v)::r else (g,x)::qZ f v r
def AY(n:Nat)(o:Val)(x:Str)(v:Val):M Unit:=match o with
 |.ref i=>bnd (ask λh=>match h[i]? with|some (.ins c fs)=>if c<n then some (c,fs) else none|_=>none) λp=>aH (decide (p.2.length<1000)) (put i (.ins p.1 (qZ x v p.2)))
 |_=>bD none
def Dz(c:Nat)(φ:List Val->M Val)(vs:List Val):M Val:=bnd (new (.ins c [])) λo=>bnd (φ (o::vs)) λr=>match r with
 |.non=>ret o
 |_=>bD none
mutual
noncomputable def aD(Φ:Nat->List Val->M Val):IE->Env->M Val
 | .var i,env=>bD (match env[i]? with
  |some (some d)=>some d
  |_=>none)
 |.cst d,_=>ret d
 |.con _ d,_=>ret d
 |.no,_=>bD none
 |.bin o a b,env=>bnd (aD Φ a env) λx=>bnd (aD Φ b env) λy=>LG o x y
 | .neg a,env=>bnd (aD Φ a env) λx=>match x with
  |.int i=>ret (.int (-i))
  |_=>bD none
 |.cmp o a b,env=>bnd (aD Φ a env) λx=>bnd (aD Φ b env) λy=>bnd (ask λh=>cop h o x y) λt=>ret (.bl t)
 |.chn _ _ _ _ _,_=>bD none
 |.and a b,env=>bnd (aD Φ a env) λx=>bnd (qY x) λt=>if t=true then bnd (aD Φ b env) λy=>bnd (qY y) λu=>ret (.bl u) else ret (.bl false)
 |.or a b,env=>bnd (aD Φ a env) λx=>bnd (qY x) λt=>if t=true then ret (.bl true) else bnd (aD Φ b env) λy=>bnd (qY y) λu=>ret (.bl u)
 |.not a,env=>bnd (aD Φ a env) λx=>bnd (qY x) λt=>ret (.bl (!t))
 |.ite _ _ _,_=>bD none
 |.tup es,env=>bnd (aU Φ es env) λds=>aH (decide (ds.length<=sizeLine)) (ret (.tup ds))
 |.lst es,env=>bnd (aU Φ es env) λds=>aH (decide (ds.length<=sizeLine)) (new (.lst ds))
 |.idx a b,env=>bnd (aD Φ a env) λx=>bnd (aD Φ b env) λy=>ask λh=>ju h x y
 |.slc a lo hi,env=>bnd (aD Φ a env) λx=>bnd (if cN lo=true then ret none else bnd (aD Φ lo env) λv=>bnd (bD (fu v)) λi=>ret (some i)) λl=>
   bnd (if cN hi=true then ret none else bnd (aD Φ hi env) λv=>bnd (bD (fu v)) λi=>ret (some i)) λu=>tN x l u
 |.call j es,env=>bnd (aU Φ es env) λds=>Φ j ds
 |.blt b es,env=>bnd (aU Φ es env) λds=>blt b ds
 |.met m a es,env=>bnd (aD Φ a env) λx=>bnd (ask λh=>recv h m x) λ_=>bnd (aU Φ es env) λds=>met m x ds
 | .comp _ js pat k it c elt,env=>bnd (aU Φ it env) λits=>bnd (bD (srcOf k its)) λsrc=>bnd (ask λh=>src.items h) λxs=>aH (decide (xs.length<=100000))
   (bnd (gx src (λd=>bnd (bD (fS pat d (kW js env))) λenv'=>bnd (if cN c=true then ret true else bnd (aD Φ c env') λv=>ask λh=>ck h v) λt=>
    if t=true then bnd (aD Φ elt env') λe=>ret (some e) else ret none) xs.length 0 []) λys=>new (.lst ys))
 |.dct0,_=>new (.dct [])
 |.sset a,env=>bnd (aD Φ a env) λv=>bnd (ask λh=>aG h v) λxs=>bnd (bD (bT xs)) λns=>aH (decide (ns.length<64)) (new (.lst ((sortI (L2.eV [] ns)).map .int)))
 |.dget d k x,env=>bnd (aD Φ d env) λo=>bnd (ask λh=>EB h o) λ_=>bnd (aD Φ k env) λi=>bnd (bD (keyOf i)) λkk=>bnd (aD Φ x env) λz=>bnd (ask λh=>zZ h o kk) λr=>ret (r.getD z)
 |.dct1 k v,env=>bnd (aD Φ k env) λx=>bnd (bD (keyOf x)) λkk=>bnd (aD Φ v env) λy=>new (.dct [(kk,y)])
 |.lkeys d,env=>bnd (aD Φ d env) λo=>bnd (ask λh=>nt h o) λks=>new (.lst (ks.map CO))
 |.sdef _ _ _,_=>bD none
 |.svals _,_=>bD none
 |.skeys d,env=>bnd (aD Φ d env) λo=>bnd (ask λh=>mQ h o) λns=>new (.lst (ns.map .int))
 |.fld n a x,env=>bnd (aD Φ a env) λo=>ask λh=>jv n h o x
 |.mth a m js es,env=>bnd (aD Φ a env) λo=>bnd (ask λh=>lY h o m js) λj=>bnd (aU Φ es env) λds=>Φ j (o::ds)
 |.rev a s,env=>bnd (aD Φ a env) λx=>bnd (if cN s=true then ret none else bnd (aD Φ s env) λv=>bnd (bD (fu v)) λi=>ret (some i)) λk=>
   aH (decide (k=some (-1))) (bnd (ask λh=>aG h x) λxs=>new (.lst xs.reverse))
 |.dflt _ _ _ _ d w,env=>bnd (aD Φ d env) λo=>bnd (ask λh=>nt h o) λks=>bnd (aD Φ w env) λv=>bnd (ask λh=>qX h ks v) λns=>new (.lst (ns.map .int))
 |.isc _ _ _,_=>bD none
noncomputable def aU(Φ:Nat->List Val->M Val):mP->Env->M (List Val)
 |.nil,_=>ret []
 |.cons e es,env=>bnd (aD Φ e env) λd=>bnd (aU Φ es env) λds=>ret (d::ds)
end
inductive Fl
 |nx (env:Env)|rt (v:Val)|bk (env:Env)|ct (env:Env)
def forM(src:Src)(body:Val->Env->M Fl):Nat->Nat->Env->M Fl
 |0,i,env=>bnd (ask λh=>src.items h) λxs=>aH (decide (xs.length<=i)) (ret (.nx env))
 | n+1,i,env=>bnd (ask λh=>src.items h) λxs=>match xs[i]? with
  |none=>ret (.nx env)
  | some x=>bnd (body x env) λf=>match f with
   |.nx env'=>forM src body n (i+1) env'
   |.ct env'=>forM src body n (i+1) env'
   |.bk env'=>ret (.nx env')
   |.rt v=>ret (.rt v)
def CP(c:Env->M Bool)(body:Env->M Fl):Nat->Env->M Fl
 |0,_=>bD none
 | n+1,env=>bnd (c env) λt=>if t=true then bnd (body env) λf=>(match f with
   |.nx env'=>CP c body n env'
   |.ct env'=>CP c body n env'
   |.bk env'=>ret (.nx env')
   |.rt v=>ret (.rt v)) else ret (.nx env)
def uH(o i v:Val):M Unit:=match o with
 | .ref j=>bnd (ask λh=>h[j]?) λob=>match ob,i with
  |.lst xs,.int k=>bnd (bD (vf xs.length k)) λn=>put j (.lst (xs.set n v))
  |.dct kvs,i=>bnd (bD (keyOf i)) λk=>aH (decide (kvs.length<sizeLine)) (put j (.dct (iW kvs k v)))
  |_,_=>bD none
 |_=>bD none
mutual
noncomputable def dX(Φ:Nat->List Val->M Val):IS->Env->M Fl
 |.expr e,env=>bnd (aD Φ e env) λ_=>ret (.nx env)
 |.asg p e,env=>bnd (aD Φ e env) λv=>bnd (bD (fS p v env)) λenv'=>ret (.nx env')
 |.aug i o e,env=>bnd (bD (match env[i]? with|some (some (.int x))=>some x|_=>none)) λx=>bnd (aD Φ e env) λv=>bnd (bD (fu v)) λy=>bnd (LG o (.int x) (.int y)) λz=>ret (.nx (env.set i (some z)))
 |.eW o i v,env=>bnd (aD Φ v env) λx=>bnd (aD Φ o env) λy=>bnd (aD Φ i env) λz=>bnd (uH y z x) λ_=>ret (.nx env)
 |.iff c a b,env=>bnd (aD Φ c env) λx=>bnd (ask λh=>ck h x) λt=>if t=true then dj Φ a env else dj Φ b env
 |.for p k it body,env=>bnd (aU Φ it env) λits=>bnd (bD (srcOf k its)) λsrc=>bnd (ask λh=>src.items h) λxs=>
   forM src (λx env=>bnd (bD (fS p x env)) λenv'=>dj Φ body env') xs.length 0 env
 |.whl n c body,env=>CP (λenv=>bnd (aD Φ c env) λx=>ask λh=>ck h x) (dj Φ body) n env
 |.ret e,env=>bnd (aD Φ e env) λv=>ret (.rt v)
 |.EA,_=>ret (.rt .non)
 |.brk,env=>ret (.bk env)
 |.cnt,env=>ret (.ct env)
 |.pass,env=>ret (.nx env)
 |.never,_=>bD none
 |.setF n a x v,env=>bnd (aD Φ v env) λy=>bnd (aD Φ a env) λo=>bnd (AY n o x y) λ_=>ret (.nx env)
noncomputable def dj(Φ:Nat->List Val->M Val):di->Env->M Fl
 |.nil,env=>ret (.nx env)
 | .cons s r,env=>bnd (dX Φ s env) λf=>match f with
  |.nx env'=>dj Φ r env'
  |f=>ret f
end
def fT(Φ:Nat->List Val->M Val)(n:Nat)(body:di)(vs:List Val):M Val :=
 bnd (dj Φ body (vs.map some++replicate (n-vs.length) none)) λf=>match f with
  |.nx _=>ret .non
  |.rt v=>ret v
  |_=>bD none
theorem kX{b:Bool}(ho:o=.lt\/o=.le\/o=.gt\/o=.ge)(e:cop h o v w=some b):∃i j,v=.int i/\w=.int j:=by
 cases v with
 |int i=>
  cases w with
  |int j=>exact⟨i,j,rfl,rfl⟩
  |_=>rcases ho with rfl|rfl|rfl|rfl<;>cases e
 |_=>rcases ho with rfl|rfl|rfl|rfl<;>cases e
structure Bd where
 K:Frag
 cl:Nat->Addr
def LJ(K:Frag)(H:Hp)(a:Addr)(xs:List V):Prop :=
 (∃o,H a=some (.kI o (.lst xs)))\/iu K (λ_=>none) a xs
theorem LJ.sq{K:Frag}{H:Hp}{a:Addr}{xs:List V}(h:LJ K H a xs):iu K H a xs:=by
 rcases h with ⟨o,h⟩|(h|⟨o,h⟩)|h
 ·exact .inl (.inr ⟨o,h⟩)
 ·cases h
 ·cases h
 ·exact .inr h
mutual
noncomputable def VR(K:Frag)(ρ:List Addr)(H:Hp):Val->V->Prop
 |.non,x=>x=.non
 |.bl b,x=>x=.bl b
 |.int i,x=>x=.int i
 |.str s,x=>x=.str s
 |.tup vs,x=>∃a xs,x=.ref a/\kO K H a xs/\az K ρ H vs xs
 |.rl vs,x=>∃a xs,x=.ref a/\LJ K H a xs/\az K ρ H vs xs
 |.dc _ _,_=>False
 |.ob _ _ _,_=>False
 |.ref i,x=>∃a,x=.ref a /\ ρ[i]?=some a
noncomputable def az(K:Frag)(ρ:List Addr)(H:Hp):List Val->List V->Prop
 |[],xs=>xs=[]
 |v::vs,xs=>∃x r,xs=x::r/\VR K ρ H v x/\az K ρ H vs r
end
def iw(K:Frag)(ρ:List Addr)(H:Hp):List (Key×Val)->List (Key×V)->Prop
 |[],xs=>xs=[]
 |(k,v)::vs,xs=>∃x r,xs=(k,x)::r/\VR K ρ H v x/\iw K ρ H vs r
def nv(K:Frag)(ρ:List Addr)(H:Hp):List (Str×Val)->List (Str×V)->Prop
 |[],xs=>xs=[]
 |(k,v)::vs,xs=>∃x r,xs=(k,x)::r/\VR K ρ H v x/\nv K ρ H vs r
def OR(B:Bd)(ρ:List Addr)(H:Hp)(a:Addr):Ob->Prop
 |.lst xs=>∃ys,H a=some (.lst ys)/\az B.K ρ H xs ys
 |.dct kvs=>∃ks,H a=some (.dK ks)/\iw B.K ρ H kvs ks
 |.ins c fs=>∃dx gs,H a=some (.ins (B.cl c) dx gs)/\nv B.K ρ H fs gs
structure HR (B:Bd) (ρ:List Addr) (h:Hs) (H:Hp):Prop where
 len:ρ.length=h.length
 nd:ρ.Nodup
 ob:∀(i:Nat) (o:Ob) (a:Addr),h[i]?=some o -> ρ[i]?=some a->OR B ρ H a o
def Mu:HO->Bool
 |.lst _=>true|.dK _=>true|.ins ..=>true
 |_=>false
structure Gw (ρ:List Addr) (H:Hp) (ρ':List Addr) (H':Hp):Prop where
 pre:ρ <+: ρ'
 firm:∀a o,H a=some o->Mu o=false->H' a=some o
structure Gr (ρ:List Addr) (H:Hp) (ρ':List Addr) (H':Hp):Prop where
 pre:ρ <+: ρ'
 keep:∀a o,H a=some o->a ∉ ρ -> H' a=some o
 firm:∀a o,H a=some o->Mu o=false->H' a=some o
 fresh:∀a,a ∈ ρ'->a ∉ ρ -> H a=none
section
variable {K:Frag} {B:Bd} {ρ ρ' ρ1 ρ2:List Addr} {H H' H1 H2:Hp} {h h':Hs}
theorem Gr.w(g:Gr ρ H ρ' H'):Gw ρ H ρ' H':=⟨g.pre,g.firm⟩
theorem Gr.refl:Gr ρ H ρ H:=⟨aaw _,λ_ _ e _=>e,λ_ _ e _=>e,λ_ e n=>absurd e n⟩
theorem Gr.trans(g:Gr ρ H ρ1 H1)(k:Gr ρ1 H1 ρ2 H2):Gr ρ H ρ2 H2 where
 pre:=g.pre.trans k.pre
 keep a o e n:=k.keep a o (g.keep a o e n) λz=>by rw[g.fresh a z n]at e;cases e
 firm a o e n:=k.firm a o (g.firm a o e n) n
 fresh a z n:=by
  by_cases hb:a ∈ ρ1
  ·exact g.fresh a hb n
  ·cases e:H a with
   |none=>rfl
   |some o=>have e1:=g.keep a o e n;rw[k.fresh a z hb]at e1;cases e1
theorem qg{i:Nat}(p:ρ <+: ρ')(e:ρ[i]?=some a):ρ'[i]?=some a:=by
 obtain⟨t,rfl⟩:=p;have hi:i < ρ.length:=(aae.mp e).1;rw[aat hi];exact e
theorem Gw.Vb(g:Gw ρ H ρ' H')(e:kO K H a xs):kO K H' a xs:=by
 rcases e with (e|⟨o,e⟩)|e
 ·exact .inl (.inl (g.firm _ _ e rfl))
 ·exact .inl (.inr ⟨o,g.firm _ _ e rfl⟩)
 ·exact .inr e
theorem Gw.Nx(g:Gw ρ H ρ' H')(e:LJ K H a xs):LJ K H' a xs:=by
 rcases e with ⟨o,e⟩|e
 ·exact .inl ⟨o,g.firm _ _ e rfl⟩
 ·exact .inr e
mutual
theorem VR.lZ(g:Gw ρ H ρ' H'):∀(v:Val) (x:V),VR K ρ H v x->VR K ρ' H' v x
 |.non,x,e=>by rw[VR]at e |-;exact e
 |.bl b,x,e=>by rw[VR]at e |-;exact e
 |.int b,x,e=>by rw[VR]at e |-;exact e
 |.str b,x,e=>by rw[VR]at e |-;exact e
 | .tup vs,x,e=>by
  rw[VR]at e |-;obtain⟨a,xs,rfl,q1,q2⟩:=e;exact⟨a,xs,rfl,g.Vb q1,az.lZ g vs xs q2⟩
 | .rl vs,x,e=>by
  rw[VR]at e |-;obtain⟨a,xs,rfl,q1,q2⟩:=e;exact⟨a,xs,rfl,g.Nx q1,az.lZ g vs xs q2⟩
 |.dc _ _,x,e=>by rw[VR]at e;exact e.elim
 |.ob _ _ _,x,e=>by rw[VR]at e;exact e.elim
 | .ref i,x,e=>by
  rw[VR]at e |-;obtain⟨a,rfl,q⟩:=e;exact⟨a,rfl,qg g.pre q⟩
theorem az.lZ(g:Gw ρ H ρ' H'):∀(vs:List Val) (xs:List V),az K ρ H vs xs->az K ρ' H' vs xs
 |[],xs,e=>by rw[az]at e |-;exact e
 | v::vs,xs,e=>by
  rw[az]at e |-;obtain⟨x,r,rfl,q1,q2⟩:=e;exact⟨x,r,rfl,VR.lZ g v x q1,az.lZ g vs r q2⟩
end
theorem iw.lZ(g:Gw ρ H ρ' H'):∀(vs:List (Key×Val)) (xs:List (Key×V)),iw K ρ H vs xs->iw K ρ' H' vs xs
 |[],xs,e=>e
 |(k,v)::vs,xs,⟨x,r,e,q1,q2⟩=>⟨x,r,e,VR.lZ g v x q1,iw.lZ g vs r q2⟩
theorem nv.lZ(g:Gw ρ H ρ' H'):∀(vs:List (Str×Val)) (xs:List (Str×V)),nv K ρ H vs xs->nv K ρ' H' vs xs
 |[],xs,e=>e
 |(k,v)::vs,xs,⟨x,r,e,q1,q2⟩=>⟨x,r,e,VR.lZ g v x q1,nv.lZ g vs r q2⟩
theorem nv.look:∀{vs:List (Str×Val)} {xs:List (Str×V)},nv K ρ H vs xs->(vs.lookup x=none->xs.lookup x=none)/\∀v,vs.lookup x=some v->∃y,xs.lookup x=some y/\VR K ρ H v y
 |[],xs,e=>by rw[nv]at e;subst e;exact⟨λ_=>rfl,λv z=>by cases z⟩
 | (k,v)::vs,xs,e=>by
  rw[nv]at e;obtain⟨y,r,rfl,q1,q2⟩:=e;rw[aaR,aaR];cases hb:x==k with
  |true=>exact⟨λz=>(by cases z),λw z=>by cases z;exact⟨y,rfl,q1⟩⟩
  |false=>exact nv.look q2
theorem nv.length:∀{vs:List (Str×Val)} {xs:List (Str×V)},nv K ρ H vs xs->vs.length=xs.length
 |[],xs,e=>by rw[nv]at e;subst e;rfl
 |(k,v)::vs,xs,e=>by rw[nv]at e;obtain⟨y,r,rfl,_,q⟩:=e;simp[nv.length q]
theorem nv.put(hw:VR K ρ H w y):∀{vs:List (Str×Val)} {xs:List (Str×V)},nv K ρ H vs xs->nv K ρ H (qZ x w vs) (j5 x y xs)
 |[],xs,e=>by rw[nv]at e;subst e;exact⟨y,[],rfl,hw,rfl⟩
 | (k,v)::vs,xs,e=>by
  rw[nv]at e;obtain⟨z,r,rfl,q1,q2⟩:=e;rw[qZ,j5]
  by_cases hk:k=x
  ·rw[aai hk,aai hk];exact⟨y,r,rfl,hw,q2⟩
  ·rw[aal hk,aal hk];exact⟨z,_,rfl,q1,nv.put hw q2⟩
theorem VR.up(g:Gr ρ H ρ' H')(v:Val)(x:V)(e:VR K ρ H v x):VR K ρ' H' v x:=VR.lZ g.w v x e
theorem az.up(g:Gr ρ H ρ' H')(v:List Val)(x:List V)(e:az K ρ H v x):az K ρ' H' v x:=az.lZ g.w v x e
theorem iw.up(g:Gr ρ H ρ' H')(v:List (Key×Val))(x:List (Key×V))(e:iw K ρ H v x):iw K ρ' H' v x:=iw.lZ g.w v x e
theorem nv.up(g:Gr ρ H ρ' H')(v:List (Str×Val))(x:List (Str×V))(e:nv K ρ H v x):nv K ρ' H' v x:=nv.lZ g.w v x e
theorem az.nil:az K ρ H [] []:=by rw[az]
theorem az.cons{v:Val}{vs:List Val}{x:V}{xs:List V}(a:VR K ρ H v x)(b:az K ρ H vs xs):az K ρ H (v::vs) (x::xs):=by rw[az];exact⟨x,xs,rfl,a,b⟩
theorem az.length:∀{vs:List Val} {xs:List V},az K ρ H vs xs->vs.length=xs.length
 |[],xs,e=>by rw[az]at e;subst e;rfl
 |v::vs,xs,e=>by rw[az]at e;obtain⟨x,r,rfl,_,q⟩:=e;simp[az.length q]
theorem az.get:∀{vs:List Val} {xs:List V} {i:Nat} {v:Val},az K ρ H vs xs->vs[i]?=some v->∃x,xs[i]?=some x/\VR K ρ H v x
 |[],xs,i,v,e,q=>by simp at q
 | w::vs,xs,0,v,e,q=>by
  rw[az]at e;obtain⟨x,r,rfl,a,_⟩:=e;simp at q;subst q;exact⟨x,rfl,a⟩
 | w::vs,xs,i+1,v,e,q=>by
  rw[az]at e;obtain⟨x,r,rfl,_,b⟩:=e;simp at q;obtain⟨y,q1,q2⟩:=az.get b q;exact⟨y,by simpa using q1,q2⟩
theorem az.append:∀{vs ws:List Val} {xs ys:List V},az K ρ H vs xs->az K ρ H ws ys->az K ρ H (vs++ws) (xs++ys)
 |[],ws,xs,ys,e,q=>by rw[az]at e;subst e;exact q
 | w::vs,ws,xs,ys,e,q=>by
  rw[az]at e;obtain⟨x,r,rfl,a,b⟩:=e;exact az.cons a (az.append b q)
theorem az.take:∀{vs:List Val} {xs:List V} (n:Nat),az K ρ H vs xs->az K ρ H (vs.take n) (xs.take n)
 |_,_,0,_=>by simp;exact az.nil
 |[],xs,n+1,e=>by rw[az]at e;subst e;simp;exact az.nil
 | w::vs,xs,n+1,e=>by
  rw[az]at e;obtain⟨x,r,rfl,a,b⟩:=e;exact az.cons a (az.take n b)
theorem az.drop:∀{vs:List Val} {xs:List V} (n:Nat),az K ρ H vs xs->az K ρ H (vs.drop n) (xs.drop n)
 |_,_,0,e=>by simpa using e
 |[],xs,n+1,e=>by rw[az]at e;subst e;simp;exact az.nil
 | w::vs,xs,n+1,e=>by
  rw[az]at e;obtain⟨x,r,rfl,a,b⟩:=e;exact az.drop n b
theorem az.cut(lo hi:Option Int)(e:az K ρ H vs xs):az K ρ H (bZ vs lo hi) (wW xs lo hi):=by
 unfold bZ wW;rw[e.length];exact az.take _ (az.drop _ e)
theorem az.app:∀{vs ws:List Val} {xs ys:List V},az K ρ H vs xs->az K ρ H ws ys->az K ρ H (vs++ws) (xs++ys)
 |[],_,xs,_,e,q=>by rw[az]at e;subst e;exact q
 | v::vs,_,xs,_,e,q=>by
  rw[az]at e;obtain⟨x,r,rfl,a,b⟩:=e;rw[cons_append,cons_append,az];exact⟨x,_,rfl,a,az.app b q⟩
theorem az.rev:∀{vs:List Val} {xs:List V},az K ρ H vs xs->az K ρ H vs.reverse xs.reverse
 |[],xs,e=>by rw[az]at e;subst e;rw[List.reverse_nil,List.reverse_nil,az]
 | v::vs,xs,e=>by
  rw[az]at e;obtain⟨x,r,rfl,a,b⟩:=e;rw[reverse_cons,reverse_cons];refine az.app (az.rev b) ?_;rw[az];exact⟨x,[],rfl,a,by rw[az]⟩
theorem az.iV{i:Int}(e:az K ρ H vs xs)(q:L2.iV vs i=some v):∃x,L2.iV xs i=some x/\VR K ρ H v x:=by
 unfold L2.iV at q |-;rw[e.length]at q;cases hi:L2.vf xs.length i with
 |none=>rw[hi]at q;cases q
 |some n=>rw[hi]at q;exact az.get e q
theorem az.set:∀{vs:List Val} {xs:List V} (n:Nat) {v:Val} {x:V},az K ρ H vs xs->VR K ρ H v x->az K ρ H (vs.set n v) (xs.set n x)
 |[],xs,n,v,x,e,q=>by rw[az]at e;subst e;simp;exact az.nil
 | w::vs,xs,0,v,x,e,q=>by
  rw[az]at e;obtain⟨y,r,rfl,a,b⟩:=e;exact az.cons q b
 | w::vs,xs,n+1,v,x,e,q=>by
  rw[az]at e;obtain⟨y,r,rfl,a,b⟩:=e;exact az.cons a (az.set n b q)
theorem az.one(e:az K ρ H [v] xs):∃x,xs=[x]/\VR K ρ H v x:=by
 rw[az]at e;obtain⟨x,r,rfl,a,b⟩:=e;rw[az]at b;subst b;exact⟨x,rfl,a⟩
theorem az.two(e:az K ρ H [v,w] xs):∃x y,xs=[x,y]/\VR K ρ H v x/\VR K ρ H w y:=by
 rw[az]at e;obtain⟨x,r,rfl,a,b⟩:=e;obtain⟨y,rfl,c⟩:=az.one b;exact⟨x,y,rfl,a,c⟩
theorem VR.int{i:Int}:VR K ρ H (.int i) (.int i):=by rw[VR]
theorem VR.str:VR K ρ H (.str i) (.str i):=by rw[VR]
theorem VR.bl{i:Bool}:VR K ρ H (.bl i) (.bl i):=by rw[VR]
theorem VR.non:VR K ρ H .non .non:=by rw[VR]
theorem VR.tup(q:kO K H a xs)(e:az K ρ H vs xs):VR K ρ H (.tup vs) (.ref a):=by rw[VR];exact⟨a,xs,rfl,q,e⟩
theorem VR.ref{i:Nat}(q:ρ[i]?=some a):VR K ρ H (.ref i) (.ref a):=by rw[VR];exact⟨a,rfl,q⟩
theorem az.ints:∀{ns:List Int} {xs:List V},az K ρ H (ns.map Val.int) xs↔xs=ns.map V.int
 |[],xs=>by simp[az]
 | n::ns,xs=>by
  simp only[map_cons];rw[az];constructor
  ·rintro⟨x,r,rfl,a,b⟩;rw[VR]at a;subst a;rw[(az.ints (ns:=ns)).mp b]
  ·rintro rfl;exact⟨_,_,rfl,VR.int,(az.ints (ns:=ns)).mpr rfl⟩
theorem az.bools:∀{ns:List Bool} {xs:List V},az K ρ H (ns.map Val.bl) xs↔xs=ns.map V.bl
 |[],xs=>by simp[az]
 | n::ns,xs=>by
  simp only[map_cons];rw[az];constructor
  ·rintro⟨x,r,rfl,a,b⟩;rw[VR]at a;subst a;rw[(az.bools (ns:=ns)).mp b]
  ·rintro rfl;exact⟨_,_,rfl,VR.bl,(az.bools (ns:=ns)).mpr rfl⟩
theorem az.tups:∀{qf:List (List Int)} {xs:List V},az K ρ H (qf.map nq) xs->∃rs:List (Addr×List Int),xs=rs.map (λr=>V.ref r.1)/\qf=rs.map (·.2)/\∀r∈rs,kO K H r.1 (r.2.map V.int)
 |[],xs,e=>by simp only[map_nil]at e;rw[az]at e;exact⟨[],e,rfl,λ_ z=>nomatch z⟩
 | ks::qf,xs,e=>by
  simp only[map_cons]at e;rw[az]at e;obtain⟨x,r,rfl,a,b⟩:=e;obtain⟨rs,e1,e2,e3⟩:=az.tups b;unfold nq at a;rw[VR]at a;obtain⟨p,ys,rfl,g1,g2⟩:=a;rw[az.ints.mp g2]at g1;refine⟨(p,ks)::rs,by rw[e1];rfl,by rw[e2];rfl,λr hr=>?_⟩
  rcases aaG.mp hr with z|z
  ·rw[z];exact g1
  ·exact e3 r z
theorem az.AZ:∀{rs:List (Addr×List Int)},(∀r∈rs,kO K H r.1 (r.2.map V.int))->az K ρ H ((rs.map (·.2)).map nq) (rs.map λr=>V.ref r.1)
 |[],_=>az.nil
 |r::rs,e=>az.cons (VR.tup (e r aan) (az.ints.mpr rfl)) (az.AZ λq hq=>e q (aam _ hq))
theorem OR.mu(q:OR B ρ H a o):∃u,H a=some u/\Mu u=true:=by
 cases o with
 |lst xs=>obtain⟨ys,e,_⟩:=q;exact⟨_,e,rfl⟩
 |dct xs=>obtain⟨ys,e,_⟩:=q;exact⟨_,e,rfl⟩
 |ins c fs=>obtain⟨dx,ys,e,_⟩:=q;exact⟨_,e,rfl⟩
theorem HR.mu(r:HR B ρ h H)(e:a ∈ ρ):∃u,H a=some u/\Mu u=true:=by
 obtain⟨i,hi,rfl⟩:=getElem_of_mem e;have hi':i<h.length:=by rw[<-r.len];exact hi
 exact(r.ob i _ _ (aay hi') (aay hi)).mu
theorem HR.out(r:HR B ρ h H)(e:H p=none):p ∉ ρ:=λz=>by
 obtain⟨u,q,_⟩:=r.mu z;rw[e]at q;cases q
theorem OR.lZ(g:Gw ρ H ρ' H')(e:H' a=H a)(q:OR B ρ H a o):OR B ρ' H' a o:=by
 cases o with
 |lst xs=>obtain⟨ys,e1,e2⟩:=q;exact⟨ys,e.trans e1,az.lZ g _ _ e2⟩
 |dct xs=>obtain⟨ys,e1,e2⟩:=q;exact⟨ys,e.trans e1,iw.lZ g _ _ e2⟩
 |ins c fs=>obtain⟨dx,ys,e1,e2⟩:=q;exact⟨dx,ys,e.trans e1,nv.lZ g _ _ e2⟩
theorem OR.up(g:Gr ρ H ρ' H')(e:H' a=H a)(q:OR B ρ H a o):OR B ρ' H' a o:=OR.lZ g.w e q
theorem Gr.side(e:H p=none):Gr ρ H ρ (upd H p o) where
 pre:=aaw _
 keep a u q _:=by rw[au (aM q e)];exact q
 firm a u q _:=by rw[au (aM q e)];exact q
 fresh a z n:=absurd z n
theorem HR.side(r:HR B ρ h H)(e:H p=none):HR B ρ h (upd H p o) where
 len:=r.len
 nd:=r.nd
 ob i u a q1 q2:=by refine OR.up (Gr.side e) ?_ (r.ob i u a q1 q2);refine au λz=>?_;subst z;exact r.out e (aaE q2)
theorem Gw.other(e:H p=some u)(hm:Mu u=true):Gw ρ H ρ (upd H p o) where
 pre:=aaw _
 firm a w q n:=by
  have:a≠p:=λz=>by subst z;rw[e]at q;cases q;rw[hm]at n;cases n
  rw[au this];exact q
theorem HR.other(r:HR B ρ h H)(hp:p ∉ ρ)(e:H p=some u)(hm:Mu u=true):HR B ρ h (upd H p o) where
 len:=r.len
 nd:=r.nd
 ob i w a q1 q2:=OR.lZ (Gw.other e hm) (au λz=>by subst z;exact hp (aaE q2)) (r.ob i w a q1 q2)
theorem Gr.new(e:H p=none):Gr ρ H (ρ ++ [p]) (upd H p o) where
 pre:=aaY _ _
 keep a u q _:=by rw[au (aM q e)];exact q
 firm a u q _:=by rw[au (aM q e)];exact q
 fresh a z n:=by
  rcases aaL.mp z with z|z
  ·exact absurd z n
  ·rw[aau.mp z];exact e
theorem HR.new(r:HR B ρ h H)(e:H p=none)(q:OR B (ρ ++ [p]) (upd H p o) p u):HR B (ρ ++ [p]) (h++[u]) (upd H p o) where
 len:=by simp[r.len]
 nd:=by rw[aaN];refine⟨r.nd,by simp,λa ha b hb=>?_⟩;rw[aau.mp hb];rintro rfl;exact r.out e ha
 ob i v a q1 q2:=by
  by_cases hi:i<h.length
  ·rw[aat hi]at q1;rw[aat (by rw[r.len];exact hi)]at q2;refine OR.up (Gr.new e) (au λz=>?_) (r.ob i v a q1 q2);subst z;exact r.out e (aaE q2)
  ·rw[aaO (by omega)]at q1
   rw[aaO (by rw[r.len];omega)]at q2;have hi0:i-h.length=0:=by have:=(aae.mp q1).1;simp at this;omega
   rw[hi0]at q1;rw[r.len,hi0]at q2;simp at q1 q2;subst q1;subst q2;exact q
theorem Ba(r:HR B ρ h H):VR K (ρ ++ [p]) H' (.ref h.length) (.ref p):=VR.ref (by rw[<-r.len];simp)
theorem LK{α:Type}:∀{l:List α} {i j:Nat} {a:α},l.Nodup->l[i]?=some a->l[j]?=some a->i=j
 |[],i,j,a,_,e,_=>by simp at e
 |b::l,0,0,a,_,_,_=>rfl
 | b::l,0,j+1,a,n,e,f=>by
  simp at e f;subst e;exact absurd (aaE f) (aaP.mp n).1
 | b::l,i+1,0,a,n,e,f=>by
  simp at e f;subst f;exact absurd (aaE e) (aaP.mp n).1
 | b::l,i+1,j+1,a,n,e,f=>by
  simp at e f;rw[LK (aaP.mp n).2 e f]
theorem Gr.put(hp:p ∈ ρ)(e:H p=some u)(hm:Mu u=true):Gr ρ H ρ (upd H p o) where
 pre:=aaw _
 keep a w q n:=by rw[au λz=>n (by rw[z];exact hp)];exact q
 firm a w q n:=by
  have:a≠p:=λz=>by subst z;rw[e]at q;cases q;rw[hm]at n;cases n
  rw[au this];exact q
 fresh a z n:=absurd z n
theorem HR.put{i:Nat}(r:HR B ρ h H)(hi:ρ[i]?=some p)(e:h[i]?=some w)(q:OR B ρ (upd H p o) p u):HR B ρ (h.set i u) (upd H p o) where
 len:=by simp[r.len]
 nd:=r.nd
 ob j v a q1 q2:=by
  obtain⟨z,k1,k2⟩:=(r.ob i w p e hi).mu
  by_cases hj:j=i
  ·subst hj;rw[hi]at q2;cases q2;have hlt:j<h.length:=(aae.mp e).1;rw[aak hlt]at q1;cases q1;exact q
  ·rw[aaf (λz=>hj z.symm)]at q1;refine OR.up (Gr.put (aaE hi) k1 k2) (au λz=>?_) (r.ob j v a q1 q2);subst z;exact hj (LK r.nd q2 hi)
theorem dS(r:HR B ρ h H)(q:VR B.K ρ H v x)(e:aG h v=some xs):∃a ys,x=.ref a/\iu B.K H a ys/\az B.K ρ H xs ys:=by
 cases v with
 |rl vs=>simp only[aG]at e;cases e;rw[VR]at q;obtain⟨a,ys,rfl,k1,k2⟩:=q;exact⟨a,ys,rfl,k1.sq,k2⟩
 |ref i=>
  simp only[aG]at e;split at e
  ·rename_i zs e1;cases e;rw[VR]at q;obtain⟨a,rfl,k1⟩:=q;obtain⟨ys,k2,k3⟩:=r.ob i _ a e1 k1;exact⟨a,ys,rfl,.inl (.inl k2),k3⟩
  ·cases e
 |_=>cases e
theorem lQ{i:Nat}(r:HR B ρ h H)(q:VR B.K ρ H (.ref i) x)(e:h[i]?=some (.lst xs)):∃a ys,x=.ref a /\ ρ[i]?=some a/\H a=some (.lst ys)/\az B.K ρ H xs ys:=by
 rw[VR]at q;obtain⟨a,rfl,k1⟩:=q;obtain⟨ys,k2,k3⟩:=r.ob i _ a e k1;exact⟨a,ys,rfl,k1,k2,k3⟩
theorem Ny(r:HR B ρ h H)(q:VR B.K ρ H v x)(e:mq h v=some xs):∃a ys,x=.ref a/\(iu B.K H a ys\/kO B.K H a ys)/\az B.K ρ H xs ys:=by
 cases v with
 |tup vs=>simp only[mq]at e;cases e;rw[VR]at q;obtain⟨a,ys,rfl,k1,k2⟩:=q;exact⟨a,ys,rfl,.inr k1,k2⟩
 |rl vs=>obtain⟨a,ys,e1,k1,k2⟩:=dS r q (show aG h (.rl vs)=some xs from e);exact⟨a,ys,e1,.inl k1,k2⟩
 |ref vs=>obtain⟨a,ys,e1,k1,k2⟩:=dS r q (show aG h (.ref vs)=some xs from e);exact⟨a,ys,e1,.inl k1,k2⟩
 |_=>cases e
theorem oF(r:HR B ρ h H):∀(n:Nat) (v:Val) (x:V) (d:PyData),VR B.K ρ H v x->toD n h v=some d->Den B.K H d x/\d.canLay0=true/\d.depth<=n:=by
 intro n
 induction n with
 |zero=>intro v x d _ e;simp only[toD]at e;cases e
 |succ n ih=>
  have all:∀(vs:List Val) (xs:List V) (ds:List PyData),az B.K ρ H vs xs->bS (toD n h) vs=some ds->eO B.K H ds xs/\PyData.canLayAll0 ds=true/\PyData.depthAll ds<=n:=by
   intro vs
   induction vs with
   |nil=>intro xs ds q e;simp only[bS]at e;cases e;rw[az]at q;subst q;exact⟨eO.nil,rfl,by simp[PyData.depthAll]⟩
   |cons v vs ZE=>intro xs ds q e;simp only[bS]at e;obtain⟨d,e1,e⟩:=aab.mp e;obtain⟨ds',e2,e⟩:=aab.mp e;cases e;rw[az]at q;obtain⟨x,r,rfl,q1,q2⟩:=q;obtain⟨a1,a2,a3⟩:=ih v x d q1 e1;obtain⟨b1,b2,b3⟩:=ZE r ds' q2 e2;refine⟨eO.cons a1 b1,by simp[PyData.canLayAll0,a2,b2],?_⟩;simp only[PyData.depthAll];omega
  intro v x d q e;cases v with
  |non=>simp only[toD]at e;cases e;rw[VR]at q;subst q;exact⟨Den.none,rfl,by simp[PyData.depth]⟩
  |bl b=>simp only[toD]at e;cases e;rw[VR]at q;subst q;exact⟨Den.bool,rfl,by simp[PyData.depth]⟩
  |int b=>simp only[toD]at e;cases e;rw[VR]at q;subst q;exact⟨Den.int,rfl,by simp[PyData.depth]⟩
  |str b=>
   simp only[toD]at e;split at e
   ·rename_i hs;cases e;rw[VR]at q;subst q;exact⟨Den.str,by simp[PyData.canLay0,hs],by simp[PyData.depth]⟩
   ·cases e
  |tup vs=>simp only[toD]at e;obtain⟨ds,e1,e⟩:=aab.mp e;cases e;rw[VR]at q;obtain⟨a,xs,rfl,q1,q2⟩:=q;obtain⟨b1,b2,b3⟩:=all vs xs ds q2 e1;exact⟨Den.tuple q1 b1,by simp[PyData.canLay0,b2],by simp only[PyData.depth];omega⟩
  |rl vs=>simp only[toD]at e;obtain⟨ds,e1,e⟩:=aab.mp e;cases e;rw[VR]at q;obtain⟨a,xs,rfl,q1,q2⟩:=q;obtain⟨b1,b2,b3⟩:=all vs xs ds q2 e1;exact⟨Den.list q1.sq b1,by simp[PyData.canLay0,b2],by simp only[PyData.depth];omega⟩
  |dc _ _=>rw[VR]at q;exact q.elim
  |ob _ _ _=>rw[VR]at q;exact q.elim
  |ref i=>simp only[toD]at e;obtain⟨vs,e0,e⟩:=aab.mp e;obtain⟨ds,e1,e⟩:=aab.mp e;cases e;obtain⟨a,xs,rfl,q1,q2⟩:=dS r q e0;obtain⟨b1,b2,b3⟩:=all vs xs ds q2 e1;exact⟨Den.list q1 b1,by simp[PyData.canLay0,b2],by simp only[PyData.depth];omega⟩
end
theorem oG(x:List Int):∀l,(vC x l).Perm (x::l)
 |[]=>.refl _
 | y::r=>by
  unfold vC;split
  ·exact((oG x r).cons y).trans (.swap _ _ _)
  ·exact .refl _
theorem rj:∀l,(nk l).Perm l
 |[]=>.refl _
 |x::r=>(oG x _).trans ((rj r).cons x)
theorem xQ{a b c:List Int}(h1:HT.lexLt b a=false)(h2:HT.lexLt c b=false):HT.lexLt c a=false:=by
 cases e:HT.lexLt c a with
 |false=>rfl
 |true=>
  rcases pW.uw c b a e with z|z
  ·rw[h2]at z;cases z
  ·rw[h1]at z;cases z
theorem xR{a b:List Int}(h:HT.lexLt a b=true):HT.lexLt b a=false:=by
 cases e:HT.lexLt b a with
 |false=>rfl
 |true=>have:=pW.jc _ _ _ h e;rw[pW.j6]at this;cases this
theorem Bb(x:List Int):∀l:List (List Int),l.Pairwise (λa b=>HT.lexLt b a=false)->(vC x l).Pairwise (λa b=>HT.lexLt b a=false)
 |[],_=>by simp[vC]
 | y::r,h=>by
  obtain⟨h1,h2⟩:=aa2.mp h;unfold vC
  split
  ·rename_i hlt
   refine aa2.mpr ⟨λz hz=>?_,Bb x r h2⟩
   rcases aaG.mp ((oG x r).mem_iff.mp hz) with rfl|hz
   ·exact xR hlt
   ·exact h1 z hz
  ·rename_i hlt
   refine aa2.mpr ⟨λz hz=>?_,h⟩;have hxy:HT.lexLt y x=false:=by simpa using hlt
   rcases aaG.mp hz with rfl|hz
   ·exact hxy
   ·exact xQ hxy (h1 z hz)
theorem xS:∀l,(nk l).Pairwise (λa b=>HT.lexLt b a=false)
 |[]=>.nil
 |x::r=>Bb x _ (xS r)
theorem EC(hp:l.Perm qf)(hs:l.Pairwise (λa b=>HT.lexLt b a=false)):l=nk qf :=
 List.Perm.eq_of_pairwise (λa b _ _ h1 h2=>pW.jb a b h2 h1) hs (xS qf) (hp.trans (rj qf).symm)
def Post(B:Bd)(EX:Nat->List V->Hp->Prop)(ρ:List Addr)(H:Hp){α:Type}(W:α -> Hs->List Addr->Hp->Prop):Out α -> Prop
 |.ok a h'=>∀ρ' H',Gr ρ H ρ' H'->HR B ρ' h' H'->W a h' ρ' H'
 |.exc c vs h'=>∀ρ' H' xs,Gr ρ H ρ' H'->HR B ρ' h' H'->az B.K ρ' H' vs xs->EX c xs H'
 |.no=>False
def WV(K:Frag)(Q:VK):Val->Hs->List Addr->Hp->Prop:=λv _ ρ' H'=>∀x,VR K ρ' H' v x->Q x H'
section
variable {B:Bd} {EX:Nat->List V->Hp->Prop} {ρ ρ':List Addr} {H H':Hp} {α β:Type} {W:β -> Hs->List Addr->Hp->Prop} {h h':Hs} {Q:VK}
theorem Post.up(g:Gr ρ H ρ' H')(p:Post B EX ρ H W o):Post B EX ρ' H' W o:=by
 cases o with
 |ok a h'=>exact λρ2 H2 g2 r=>p ρ2 H2 (g.trans g2) r
 |exc c vs h'=>exact λρ2 H2 xs g2 r=>p ρ2 H2 xs (g.trans g2) r
 |no=>exact p
theorem aK{c:Bool}(p:Post B EX ρ H W (aH c m h)):c=true/\Post B EX ρ H W (m h):=by
 unfold aH at p;split at p
 ·rename_i e;exact⟨e,p⟩
 ·exact p.elim
theorem aF(p:Post B EX ρ H W (bnd (ask f) g h)):∃a,f h=some a/\Post B EX ρ H W (g a h):=by
 unfold bnd ask bD at p;cases e:f h with
 |none=>rw[e]at p;exact p.elim
 |some a=>rw[e]at p;exact⟨a,rfl,p⟩
theorem cW(r:HR B ρ h H)(p:Post B EX ρ H W (ask f h)):∃a,f h=some a/\W a h ρ H:=by
 unfold ask bD at p;cases e:f h with
 |none=>rw[e]at p;exact p.elim
 |some a=>rw[e]at p;exact⟨a,rfl,p ρ H Gr.refl r⟩
theorem bJ(p:Post B EX ρ H W (bnd (bD o) g h)):∃a,o=some a/\Post B EX ρ H W (g a h):=by
 unfold bnd bD at p;cases e:o with
 |none=>rw[e]at p;exact p.elim
 |some a=>rw[e]at p;exact⟨a,rfl,p⟩
theorem dY(r:HR B ρ h H)(p:Post B EX ρ H W (bD o h)):∃a,o=some a/\W a h ρ H:=by
 unfold bD at p;cases e:o with
 |none=>rw[e]at p;exact p.elim
 |some a=>rw[e]at p;exact⟨a,rfl,p ρ H Gr.refl r⟩
theorem aj(r:HR B ρ h H)(p:Post B EX ρ H W (ret a h)):W a h ρ H:=p ρ H Gr.refl r
theorem xT(r:HR B ρ h H)(hp:H p=none)(q:OR B (ρ ++ [p]) (upd H p O) p o)(w:Post B EX ρ H (WV B.K Q) (new o h)):Q (.ref p) (upd H p O) :=
 w (ρ ++ [p]) (upd H p O) (Gr.new hp) (r.new hp q) _ (Ba r)
theorem cu(r:HR B ρ h H)(hp:H p=none)(q:az B.K ρ H xs ys)(w:Post B EX ρ H (WV B.K Q) (new (.lst xs) h)):Q (.ref p) (upd H p (.lst ys)) :=
 xT (o:=.lst xs) (O:=.lst ys) r hp ⟨ys,aP,az.up (Gr.new hp) _ _ q⟩ w
theorem rm(r:HR B ρ h H)(hp:H p=none)(q:az B.K ρ H xs ys)(w:Post B EX ρ H (WV B.K Q) (ret (Val.tup xs) h)):Q (.ref p) (upd H p (.tup ys)) :=
 w ρ (upd H p (.tup ys)) (Gr.side hp) (r.side hp) _ (VR.tup (kO.of aP) (az.up (Gr.side hp) _ _ q))
theorem av(p:Post B EX ρ H W (bnd m f h))(k:∀v h1 ρ1 x H1,Gr ρ H ρ1 H1->HR B ρ1 h1 H1->VR B.K ρ1 H1 v x->Post B EX ρ1 H1 W (f v h1)->Q x H1):Post B EX ρ H (WV B.K Q) (m h):=by
 unfold bnd at p;cases e:m h with
 |ok v h1=>rw[e]at p;exact λρ1 H1 g r x q=>k v h1 ρ1 x H1 g r q (Post.up g p)
 |exc c vs h1=>rw[e]at p;exact p
 |no=>rw[e]at p;exact p
theorem bw(p:Post B EX ρ H W (bnd m f h))(k:∀v h1 ρ1 H1,Gr ρ H ρ1 H1->HR B ρ1 h1 H1->Post B EX ρ1 H1 W (f v h1)->W' v h1 ρ1 H1):Post B EX ρ H W' (m h):=by
 unfold bnd at p;cases e:m h with
 |ok v h1=>rw[e]at p;exact λρ1 H1 g r=>k v h1 ρ1 H1 g r (Post.up g p)
 |exc c vs h1=>rw[e]at p;exact p
 |no=>rw[e]at p;exact p
end
theorem f6:∀{ds:List Val} {ns:List Int},bT ds=some ns->ds=ns.map .int
 |[],ns,e=>by simp only[bT,bS]at e;cases e;rfl
 | v::r,ns,e=>by
  simp only[bT,bS]at e;obtain⟨i,e1,e⟩:=aab.mp e;obtain⟨is,e2,e⟩:=aab.mp e;cases e;cases v<;>first|cases e1|skip
  rw[f6 (show bT r=some is from e2)];rfl
theorem rq:∀{ds:List Val} {ns:List Bool},fZ ds=some ns->ds=ns.map .bl
 |[],ns,e=>by simp only[fZ,bS]at e;cases e;rfl
 | v::r,ns,e=>by
  simp only[fZ,bS]at e;obtain⟨i,e1,e⟩:=aab.mp e;obtain⟨is,e2,e⟩:=aab.mp e;cases e;cases v<;>first|cases e1|skip
  rw[rq (show fZ r=some is from e2)];rfl
theorem uI:∀{ds:List Val} {qf:List (List Int)},mw ds=some qf->ds=qf.map nq/\∀ks∈qf,ks≠[]
 |[],ns,e=>by simp only[mw,bS]at e;cases e;exact⟨rfl,λ_ z=>nomatch z⟩
 | v::r,ns,e=>by
  simp only[mw,bS]at e;obtain⟨i,e1,e⟩:=aab.mp e;obtain⟨is,e2,e⟩:=aab.mp e;cases e;cases v<;>first|cases e1|skip
  rename_i vs;dsimp only at e1;split at e1
  ·cases e1
  ·rename_i hne
   obtain⟨q1,q2⟩:=uI (show mw r=some is from e2);have e3:=f6 e1;subst e3;refine⟨by rw[q1];rfl,λks hk=>?_⟩
   rcases aaG.mp hk with z|z
   ·subst z;intro z;subst z;exact hne rfl
   ·exact q2 ks z
section
variable {X:Cx} {cl:Nat->Addr} {EX:Nat->List V->Hp->Prop}
abbrev bd(X:Cx)(cl:Nat->Addr):Bd:=⟨X.K,cl⟩
theorem JN:kR X (binaryOp .Add) (λx y H Q=>∃a b xs ys,x=.ref a/\y=.ref b/\iu X.K H a xs/\iu X.K H b ys/\xs.length+ys.length<=sizeLine/\∀p,H p=none->Q (.ref p) (upd H p (.lst (xs++ys)))):=by
 intro pins s σ H x y v u Q I rx ry h;obtain⟨l,l',xs,ys,rfl,rfl,q1,q3,hl,q⟩:=h;cases rx;cases ry;obtain⟨its,r1,ZF,z1⟩:=I.list q1;obtain⟨its',r2,ZG,z2⟩:=I.list q3;have l1:=r1.length;have l2:=r2.length;obtain⟨⟨oc,od,Zr,osl⟩,n1,e1,e2,_,e4⟩:=ZF;obtain⟨⟨oc',od',ZH,Wu⟩,n2,f1,f2,_,f4⟩:=ZG;cases e2;cases e4;cases f2;cases f4;refine concat_meets ⟨_,e1,rfl⟩ ⟨_,f1,rfl⟩ noFill_list_add seq_list_add PySem.F.slot_list_add PySem.F.entry_list_add (PySem.F.args_list_add_2 _ _) (list_addW l l' its.toArray its'.toArray n1 n2 od od' osl Wu (by simp only[size_toArray];omega)) ⟨e1,f1,?_⟩;have ea:its.toArray++its'.toArray=(its++its').toArray:=by simp
 rw[ea];have hn:H s.heap.objs.size=none:=I.hok.fresh (aao _);exact⟨.ref s.heap.objs.size,_,I.V8 (t':=s.toks) (its:=its++its') (r1.append r2) (by rw[aaB];omega),rfl,q _ hn⟩
def z4:JM->Operator
 |.add=>.Add|.sub=>.Sub|.mul=>.Mult|.fdiv=>.FloorDiv|.mod=>.Mod|.pow=>.Pow
def Bc:Nv->CmpOp
 |.eq=>.Eq|.ne=>.NotEq|.lt=>.Lt|.le=>.LtE|.gt=>.Gt|.ge=>.GtE|.isn=>.Is|.ntn=>.IsNot|.ze=>.In|.nin=>.NotIn
def rB(B:Bd)(EX:Nat->List V->Hp->Prop)(o:JM):R2:=λx y H Q=>∃ρ h v w,HR B ρ h H/\VR B.K ρ H v x/\VR B.K ρ H w y/\Post B EX ρ H (WV B.K Q) (LG o v w h)
theorem j7.log{j:Int}(h:j7 j=true):0<j/\j.natAbs.log2<9000:=by
 have h:=aax h;refine⟨h.1,(Nat.log2_lt (by omega)).mpr ?_⟩;have e:j.natAbs<2 ^ 200:=by
  have:(2:Nat) ^ 200=1606938044258990275541962092341162602522202993782792835301376:=by decide
  omega
 exact aas e (Nat.pow_le_pow_right (by decide) (by decide))
theorem ED:kR X (binaryOp .FloorDiv) (rI (λ_ j=>j7 j=true) λi j=>.int (i/j)):=MQ λi j _ _ _ _ _ hc q=>by
 obtain⟨h1,h2⟩:=j7.log hc;exact PyProof.Rows.floordiv_int (by omega) (by rw[Int.fdiv_eq_ediv_of_nonneg i (by omega)];exact q) (.inl (PyProof.noPylong_of_log2 h2))
theorem CQ:kR X (inplaceOp .FloorDiv) (rI (λ_ j=>j7 j=true) λi j=>.int (i/j)):=MQ λi j _ _ _ _ _ hc q=>by
 obtain⟨h1,h2⟩:=j7.log hc;exact PyProof.Rows.ifloordiv_int (by omega) (by rw[Int.fdiv_eq_ediv_of_nonneg i (by omega)];exact q) (.inl (PyProof.noPylong_of_log2 h2))
theorem rA(ho:o≠.add)(v w:Val)(h:Hs):(∃i j,v=.int i/\w=.int j)\/LG o v w h=.no:=by
 cases v with
 |int i=>
  cases w with
  |int j=>exact .inl ⟨i,j,rfl,rfl⟩
  |_=>right;cases o<;>first|rfl|exact absurd rfl ho
 |_=>right;cases o<;>first|rfl|exact absurd rfl ho
theorem Nz(o:JM):kR X (binaryOp (z4 o)) (rB (bd X cl) EX o):=by
 intro pins s σ H x y v' u' Q I rx ry hh;obtain⟨ρ,h,v,w,r,hv,hw,p⟩:=hh;have lists:Post (bd X cl) EX ρ H (WV X.K Q) (bnd (ask λh=>aG h v) (λa=>bnd (ask λh=>aG h w) λb=>aH (decide (a.length+b.length<=sizeLine)) (new (.lst (a++b)))) h)->wpAny (model X.prog X.w) X.A (binaryOp .Add v' u') (EP X pins σ Q) X.xe s:=by intro p;obtain⟨a,e1,p⟩:=aF p;obtain⟨b,e2,p⟩:=aF p;obtain⟨e3,p⟩:=aK p;have e3:=aax e3;obtain⟨a1,Sj,rfl,k1,k2⟩:=dS r hv e1;obtain⟨a2,Wv,rfl,k3,k4⟩:=dS r hw e2;exact JN pins s σ H _ _ v' u' Q I rx ry ⟨a1,a2,Sj,Wv,rfl,rfl,k1,k3,by rw[<-k2.length,<-k4.length];exact e3,λq hq=>cu r hq (az.append k2 k4) p⟩
 cases o with
 |add=>
  cases v<;>cases w<;>first
   |exact lists p
   |skip
  ·rename_i a b;rw[VR]at hv hw;subst hv;subst hw;exact MR pins s σ H _ _ _ _ Q I rx ry ⟨a,b,rfl,rfl,aj r p _ VR.int⟩
  ·rename_i a b;rw[VR]at hv hw;subst hv;subst hw;obtain⟨e,p⟩:=aK p;exact zq pins s σ H _ _ _ _ Q I rx ry ⟨a,b,rfl,rfl,aax e,aj r p _ VR.str⟩
  ·rename_i a b
   rw[VR]at hv hw;obtain⟨a1,Sj,rfl,k1,k2⟩:=hv;obtain⟨a2,Wv,rfl,k3,k4⟩:=hw;obtain⟨e,p⟩:=aK p;simp only[and_eq_true,not_eq_true',decide_eq_true_eq]at e;refine Jq pins s σ H _ _ _ _ Q I rx ry ⟨a1,a2,Sj,Wv,rfl,rfl,k1,k3,?_,by rw[<-k2.length,<-k4.length];exact e.2,λz=>?_,λ_ q hq=>rm r hq (az.append k2 k4) p⟩
   ·intro z;subst z
    have:=k2.length;cases a with
    |nil=>simp at e
    |cons _ _=>simp at this
   ·subst z
    have hb:b=[]:=by cases b with|nil=>rfl|cons _ _=>have:=k4.length;simp at this
    subst hb;rw[append_nil]at p;exact aj r p _ (VR.tup k1 k2)
 |sub=>
  rcases rA (o:=.sub) (by intro z;cases z) v w h with ⟨i,j,rfl,rfl⟩|z
  case inr=>rw[z]at p;exact p.elim
  rw[VR]at hv hw;subst hv;subst hw;exact MS pins s σ H _ _ _ _ Q I rx ry ⟨_,_,rfl,rfl,aj r p _ VR.int⟩
 |mul=>
  rcases rA (o:=.mul) (by intro z;cases z) v w h with ⟨i,j,rfl,rfl⟩|z
  case inr=>rw[z]at p;exact p.elim
  rw[VR]at hv hw;subst hv;subst hw;obtain⟨hm,p⟩:=aK p;refine MT pins s σ H _ _ _ _ Q I rx ry ⟨_,_,rfl,rfl,?_,aj r p _ VR.int⟩;unfold fk at hm;simp only[or_eq_true,and_eq_true,decide_eq_true_eq]at hm;exact hm
 |fdiv=>
  rcases rA (o:=.fdiv) (by intro z;cases z) v w h with ⟨i,j,rfl,rfl⟩|z
  case inr=>rw[z]at p;exact p.elim
  rw[VR]at hv hw;subst hv;subst hw;obtain⟨hm,p⟩:=aK p;exact ED pins s σ H _ _ _ _ Q I rx ry ⟨_,_,rfl,rfl,hm,aj r p _ VR.int⟩
 |mod=>
  rcases rA (o:=.mod) (by intro z;cases z) v w h with ⟨i,j,rfl,rfl⟩|z
  case inr=>rw[z]at p;exact p.elim
  rw[VR]at hv hw;subst hv;subst hw;obtain⟨hm,p⟩:=aK p;exact MU pins s σ H _ _ _ _ Q I rx ry ⟨_,_,rfl,rfl,aax hm,aj r p _ VR.int⟩
 |pow=>
  rcases rA (o:=.pow) (by intro z;cases z) v w h with ⟨i,j,rfl,rfl⟩|z
  case inr=>rw[z]at p;exact p.elim
  rw[VR]at hv hw;subst hv;subst hw;obtain⟨hm,p⟩:=aK p;have hm:=aax hm;exact MV pins s σ H _ _ _ _ Q I rx ry ⟨_,_,rfl,rfl,hm,aj r p _ VR.int⟩
end
section
variable {X:Cx} {cl:Nat->Addr} {EX:Nat->List V->Hp->Prop}
theorem xU{b:Bool}(e:AX h v w=some b):∃d f,toD 16 h v=some d/\toD 16 h w=some f/\b=PyData.eqv d f:=by
 unfold AX at e;obtain⟨d,e1,e⟩:=aab.mp e;obtain⟨f,e2,e⟩:=aab.mp e;exact⟨d,f,e1,e2,(aaH e).symm⟩
theorem Be{K:Frag}{ρ:List Addr}{H:Hp}{v:Val}{x:V}(q:VR K ρ H v x):decide (x=.non)=qV v:=by
 cases v<;>rw[VR]at q
 ·subst q;rfl
 ·subst q;rfl
 ·subst q;rfl
 ·subst q;rfl
 ·obtain⟨a,xs,rfl,_⟩:=q;rfl
 ·obtain⟨a,xs,rfl,_⟩:=q;rfl
 ·exact q.elim
 ·exact q.elim
 ·obtain⟨a,rfl,_⟩:=q;rfl
theorem NB(hu:X.A.units+64<cLine)(neg:Bool):kR X (compareOp (if neg=true then .NotIn else .In)) (λx y H Q=>∃d f ds,Den X.K H d x/\Den X.K H f y/\d.canLay0=true/\f.canLay0=true/\d.depth<=16/\(f=.list ds\/f=.tuple ds)/\Q (.bl (if neg=true then !(ds.any λy=>PyData.eqv y d) else ds.any λy=>PyData.eqv y d)) H):=by
 intro pins s σ H x y v u Q I rx ry hh;obtain⟨d,f,ds,hd,hf,c1,c2,hz,e,q⟩:=hh;obtain⟨as,ra⟩:=Den.reads I d x v c1 hd rx;obtain⟨bs,rb⟩:=Den.reads I f y u c2 hf ry;have Vc:X.A.units+1+min (PyData.depthAll ds) d.depth<cLine:=by have:=Nat.min_le_right (PyData.depthAll ds) d.depth;omega
 rcases e with rfl|rfl
 ·have c3:PyData.canLayAll0 ds=true:=by simpa [PyData.canLay0] using c2
  cases neg with
  |true=>exact SeqAt.notIn_list_reads rb ra c3 c1 Vc ⟨.bl _,H,I,rfl,q⟩
  |false=>exact SeqAt.in_list_reads rb ra c3 c1 Vc ⟨.bl _,H,I,rfl,q⟩
 ·have c3:PyData.canLayAll0 ds=true:=by simpa [PyData.canLay0] using c2
  cases neg with
  |true=>exact SeqAt.notIn_tuple_reads rb ra c3 c1 Vc ⟨.bl _,H,I,rfl,q⟩
  |false=>exact SeqAt.in_tuple_reads rb ra c3 c1 Vc ⟨.bl _,H,I,rfl,q⟩
theorem iw.val{K:Frag}{ρ:List Addr}{H:Hp}(k:Key):∀{kvs:List (Key×Val)} {ks:List (Key×V)},iw K ρ H kvs ks->(cL kvs k=none->jG ks k=none)/\∀v,cL kvs k=some v->∃x,jG ks k=some x/\VR K ρ H v x
 | [],ks,e=>by
  have:ks=[]:=e;subst this;exact⟨λ_=>rfl,λv z=>by simp[cL]at z⟩
 | (k',v')::kvs,ks,⟨x,r,e,q1,q2⟩=>by
  subst e;obtain⟨a,b⟩:=iw.val k q2
  by_cases hk:k'=k
  ·subst hk;refine⟨λz=>by simp[cL]at z,λv z=>⟨x,by simp[jG],?_⟩⟩;simp[cL]at z;subst z;exact q1
  ·have e1:cL ((k',v')::kvs) k=cL kvs k:=by simp[cL,hk]
   have e2:jG ((k',x)::r) k=jG r k:=by simp[jG,hk]
   rw[e1,e2];exact⟨a,b⟩
theorem iw.length{K:Frag}{ρ:List Addr}{H:Hp}:∀{kvs:List (Key×Val)} {ks:List (Key×V)},iw K ρ H kvs ks->kvs.length=ks.length
 |[],ks,e=>by have:ks=[]:=e;subst this;rfl
 |(k',v')::kvs,ks,⟨x,r,e,q1,q2⟩=>by subst e;simp[iw.length q2]
theorem iw.any{K:Frag}{ρ:List Addr}{H:Hp}(k:Key):∀{kvs:List (Key×Val)} {ks:List (Key×V)},iw K ρ H kvs ks->(kvs.any λkv=>decide (kv.1=k))=(ks.any λkv=>decide (kv.1=k))
 |[],ks,e=>by have:ks=[]:=e;subst this;rfl
 |(k',v')::kvs,ks,⟨x,r,e,q1,q2⟩=>by subst e;simp only[any_cons];rw[iw.any k q2]
theorem iw.repl{K:Frag}{ρ:List Addr}{H:Hp}(k:Key){v:Val}{y:V}(q:VR K ρ H v y):∀{kvs:List (Key×Val)} {ks:List (Key×V)},iw K ρ H kvs ks->iw K ρ H (kvs.map λkv=>if kv.1=k then (kv.1,v) else kv) (ks.map λkv=>if kv.1=k then (kv.1,y) else kv)
 |[],ks,e=>by have:ks=[]:=e;subst this;rfl
 | (k',v')::kvs,ks,⟨x,r,e,q1,q2⟩=>by
  subst e;simp only[map_cons]
  by_cases hk:k'=k
  ·rw[aai hk,aai hk];exact⟨y,_,rfl,q,iw.repl k q q2⟩
  ·rw[aal hk,aal hk];exact⟨x,_,rfl,q1,iw.repl k q q2⟩
theorem iw.snoc{K:Frag}{ρ:List Addr}{H:Hp}(k:Key){v:Val}{y:V}(q:VR K ρ H v y):∀{kvs:List (Key×Val)} {ks:List (Key×V)},iw K ρ H kvs ks->iw K ρ H (kvs++[(k,v)]) (ks++[(k,y)])
 |[],ks,e=>by have:ks=[]:=e;subst this;exact⟨y,[],rfl,q,rfl⟩
 |(k',v')::kvs,ks,⟨x,r,e,q1,q2⟩=>by subst e;exact⟨x,_,rfl,q1,iw.snoc k q q2⟩
theorem iw.put{K:Frag}{ρ:List Addr}{H:Hp}(k:Key){v:Val}{y:V}(q:VR K ρ H v y){kvs:List (Key×Val)}{ks:List (Key×V)}(e:iw K ρ H kvs ks):iw K ρ H (iW kvs k v) (putK ks k y):=by
 unfold iW putK;rw[iw.any k e]
 split
 ·exact iw.repl k q e
 ·exact iw.snoc k q e
theorem NC{K:Frag}{ρ:List Addr}{H:Hp}{v:Val}{x:V}{k:Key}(q:VR K ρ H v x)(e:keyOf v=some k):x=kV k:=by
 cases v<;>simp only[keyOf]at e<;>first|cases e|skip
 ·rw[VR]at q;exact q
 ·rw[VR]at q;exact q
theorem Bf(hu:X.A.units+64<cLine):QM X (λx y H Q=>∃a v,x=.ref a/\pU H a y (some v)/\Q v H):=by
 intro value slice pins s σ H x y v u Q I rx ry h hs;obtain⟨a,z,rfl,g,q⟩:=h;cases rx;have hT:=xj I g;unfold subscriptTail;refine aad ?_;rw[getitemInPython_of_ne hT.not_modules];refine aad (wpAny_specialOf hT PySem.F.slot_dict_getitem.lookup ?_);have fin:wpAny (model X.prog X.w) X.A (subscripted slice false (.ref a) u) (λr s₃=>wpAny (model X.prog X.w) X.A (letTemporaryGo value (.ref a) r >>= λ_=>pure r) (EP X pins σ Q) X.xe s₃) X.xe s:=by rw[hs];exact wpAny_operating (Ct (by omega) I g ry λw' s' I' r'=>aad (wpAny_letTemporaryGo (aaj ⟨z,H,I',r',q⟩)))
 first
  |exact aaj (aad fin)
  |exact aad (aaj (aad fin))
  |exact aad fin
def rC(B:Bd)(o:Nv):R2:=λx y H Q=>∃ρ h v w b,HR B ρ h H/\VR B.K ρ H v x/\VR B.K ρ H w y/\cop h o v w=some b/\Q (.bl b) H
theorem EE{b:Bool}(e:memD h v w=some b):∃d f ds,toD 16 h v=some d/\toD 16 h w=some f/\(f=.list ds\/f=.tuple ds)/\b=ds.any λy=>PyData.eqv y d:=by
 unfold memD at e;obtain⟨f,e1,e⟩:=aab.mp e;obtain⟨d,e2,e⟩:=aab.mp e;cases f<;>simp only[Sh]at e<;>first|cases e|skip
 ·exact⟨d,_,_,e2,e1,.inl rfl,rfl⟩
 ·exact⟨d,_,_,e2,e1,.inr rfl,rfl⟩
theorem EF(hu:X.A.units+64<cLine)(o:Nv):kR X (compareOp (Bc o)) (rC (bd X cl) o):=by
 intro pins s σ H x y v' u' Q I rx ry hh;obtain⟨ρ,h,v,w,b,r,hv,hw,e,q⟩:=hh;have mem:∀(neg:Bool),xK h v w=some (if neg=true then !b else b)->wpAny (model X.prog X.w) X.A (compareOp (if neg=true then .NotIn else .In) v' u') (EP X pins σ Q) X.xe s:=by
  intro neg e;obtain⟨d,f,ds,e1,e2,e3,eb⟩:=EE e
  ·obtain⟨a1,a2,a3⟩:=oF r 16 v x d hv e1
   obtain⟨b1,b2,b3⟩:=oF r 16 w y f hw e2;refine NB hu neg pins s σ H x y v' u' Q I rx ry ⟨d,f,ds,a1,b1,a2,b2,a3,e3,?_⟩;cases neg with
   |true=>rw[aai rfl]at eb |-;rw[<-eb,Bool.not_not];exact q
   |false=>rw[aal aac]at eb |-;rw[<-eb];exact q
 cases o with
 |eq=>obtain⟨d,f,e1,e2,rfl⟩:=xU (show AX h v w=some b by exact e);obtain⟨a1,a2,a3⟩:=oF r 16 v x d hv e1;obtain⟨b1,b2,b3⟩:=oF r 16 w y f hw e2;exact Nl hu pins s σ H x y v' u' Q I rx ry ⟨d,f,a1,b1,a2,b2,by omega,q⟩
 |ne=>have e':(AX h v w).map (!·)=some b:=e;obtain⟨c,e3,rfl⟩:=aaJ.mp e';obtain⟨d,f,e1,e2,rfl⟩:=xU e3;obtain⟨a1,a2,a3⟩:=oF r 16 v x d hv e1;obtain⟨b1,b2,b3⟩:=oF r 16 w y f hw e2;exact Nn hu pins s σ H x y v' u' Q I rx ry ⟨d,f,a1,b1,a2,b2,by omega,q⟩
 |lt=>obtain⟨i,j,rfl,rfl⟩:=kX (.inl rfl) e;cases e;rw[VR]at hv;rw[VR]at hw;subst hv;subst hw;exact RB pins s σ H _ _ v' u' Q I rx ry ⟨_,_,rfl,rfl,q⟩
 |le=>obtain⟨i,j,rfl,rfl⟩:=kX (.inr (.inl rfl)) e;cases e;rw[VR]at hv;rw[VR]at hw;subst hv;subst hw;exact RC pins s σ H _ _ v' u' Q I rx ry ⟨_,_,rfl,rfl,q⟩
 |gt=>obtain⟨i,j,rfl,rfl⟩:=kX (.inr (.inr (.inl rfl))) e;cases e;rw[VR]at hv;rw[VR]at hw;subst hv;subst hw;exact RD pins s σ H _ _ v' u' Q I rx ry ⟨_,_,rfl,rfl,q⟩
 |ge=>obtain⟨i,j,rfl,rfl⟩:=kX (.inr (.inr (.inr rfl))) e;cases e;rw[VR]at hv;rw[VR]at hw;subst hv;subst hw;exact RE pins s σ H _ _ v' u' Q I rx ry ⟨_,_,rfl,rfl,q⟩
 |isn=>
  have e:LH v w=some b:=e;cases w<;>first|(cases e;done)|skip
  ·cases e;rw[VR]at hw;subst hw;refine MW pins s σ H x _ v' u' Q I rx ry ⟨rfl,?_⟩;rw[Be hv];exact q
  ·cases v<;>first|(cases e;done)|skip
   cases e;rw[VR]at hv;rw[VR]at hw;subst hv;subst hw;exact Np pins s σ H _ _ v' u' Q I rx ry ⟨_,_,rfl,rfl,q⟩
 |ntn=>
  have e:(LH v w).map (!·)=some b:=e;cases w<;>first|(cases e;done)|skip
  ·cases e;rw[VR]at hw;subst hw;refine Jg pins s σ H x _ v' u' Q I rx ry ⟨rfl,?_⟩;rw[Be hv];exact q
  ·cases v<;>first|(cases e;done)|skip
   cases e;rw[VR]at hv;rw[VR]at hw;subst hv;subst hw;exact JH pins s σ H _ _ v' u' Q I rx ry ⟨_,_,rfl,rfl,q⟩
 |ze=>exact mem false (by rw[aal aac];exact e)
 |nin=>have e':(xK h v w).map (!·)=some b:=e;obtain⟨c,e3,rfl⟩:=aaJ.mp e';exact mem true (by rw[e3];simp)
theorem ND{b:Bool}(r:HR B ρ h H)(q:VR B.K ρ H v x)(e:ck h v=some b):MX B.K x H b:=by
 cases v with
 |non=>rw[VR]at q;subst q;exact(aaH e).symm
 |bl c=>rw[VR]at q;subst q;exact(aaH e).symm
 |int i=>rw[VR]at q;subst q;exact(aaH e).symm
 |str z=>
  rw[VR]at q;subst q;simp only[ck]at e;split at e
  ·rename_i hl;exact⟨hl,(aaH e).symm⟩
  ·cases e
 |tup vs=>rw[VR]at q;obtain⟨a,xs,rfl,q1,q2⟩:=q;refine .inr (.inl ⟨xs,q1,?_⟩);rw[<-aaH e];have:=q2.length;cases vs<;>cases xs<;>simp_all
 |rl vs=>rw[VR]at q;obtain⟨a,xs,rfl,q1,q2⟩:=q;refine .inl ⟨xs,q1.sq,?_⟩;rw[<-aaH e];have:=q2.length;cases vs<;>cases xs<;>simp_all
 |dc _ _=>rw[VR]at q;exact q.elim
 |ob _ _ _=>rw[VR]at q;exact q.elim
 |ref i=>
  rw[VR]at q;obtain⟨a,rfl,q1⟩:=q;simp only[ck]at e;split at e
  ·rename_i vs e1;obtain⟨xs,k1,k2⟩:=r.ob i _ a e1 q1;refine .inl ⟨xs,.inl (.inl k1),?_⟩;rw[<-aaH e];have:=k2.length;cases vs<;>cases xs<;>simp_all
  ·rename_i vs e1;obtain⟨xs,k1,k2⟩:=r.ob i _ a e1 q1;refine .inr (.inr ⟨xs,k1,?_⟩);rw[<-aaH e];have:=k2.length;cases vs<;>cases xs<;>simp_all
  ·cases e
def Ww(B:Bd):R2:=λx y H Q=>∃ρ h v w z,HR B ρ h H/\VR B.K ρ H v x/\VR B.K ρ H w y/\ju h v w=some z/\∀u,VR B.K ρ H z u->Q u H
theorem NG(hu:X.A.units+64<cLine):QM X (Ww (bd X cl)):=by
 intro value slice pins s σ H x y v' u' Q I rx ry hh hs;obtain⟨ρ,h,v,w,z,r,hv,hw,e,q⟩:=hh;cases v with
 |str t=>
  cases w<;>first|cases e|skip
  rename_i i;change (if t.length<=sizeLine then (iV t.cps.toList i).map (λc=>Val.str ⟨[c].toArray⟩) else none)=some z at e;split at e
  ·rename_i hl;obtain⟨c,e1,rfl⟩:=aaJ.mp e;rw[VR]at hv;rw[VR]at hw;subst hv;subst hw;exact M8 value slice pins s σ H _ _ v' u' Q I rx ry ⟨t,i,c,rfl,rfl,hl,e1,q _ VR.str⟩ hs
  ·cases e
 |tup vs=>
  cases w<;>first|cases e|skip
  rename_i i;rw[VR]at hv;rw[VR]at hw;subst hw;obtain⟨a,xs,rfl,q1,q2⟩:=hv;obtain⟨t,e2,q3⟩:=az.iV q2 e;exact M7 value slice pins s σ H _ _ v' u' Q I rx ry ⟨a,xs,i,t,rfl,rfl,q1,e2,q _ q3⟩ hs
 |rl vs=>
  cases w<;>first|cases e|skip
  rename_i i;rw[VR]at hv;rw[VR]at hw;subst hw;obtain⟨a,xs,rfl,q1,q2⟩:=hv;obtain⟨t,e2,q3⟩:=az.iV q2 e;exact AL value slice pins s σ H _ _ v' u' Q I rx ry ⟨a,xs,i,t,rfl,rfl,q1.sq,e2,q _ q3⟩ hs
 |ref j=>
  cases w with
  |int i=>
   change (match h[j]? with|some (.dct kvs)=>cL kvs (.inl i)|_=>(aG h (.ref j)).bind λxs=>iV xs i)=some z at e;split at e
   ·rename_i kvs e1;rw[VR]at hv;obtain⟨a,rfl,q1⟩:=hv;obtain⟨ks,k1,k2⟩:=r.ob j _ a e1 q1;obtain⟨t,e2,q3⟩:=(iw.val (.inl i) k2).2 z e;have g:pU H a (kV (.inl i)) (jG ks (.inl i)):=pU.k k1;rw[e2]at g;rw[VR]at hw;subst hw;exact Bf hu value slice pins s σ H _ _ v' u' Q I rx ry ⟨a,t,rfl,g,q _ q3⟩ hs
   ·obtain⟨vs,e1,e⟩:=aab.mp e;obtain⟨a,xs,rfl,q1,q2⟩:=dS r hv e1;rw[VR]at hw;subst hw;obtain⟨t,e2,q3⟩:=az.iV q2 e;exact AL value slice pins s σ H _ _ v' u' Q I rx ry ⟨a,xs,i,t,rfl,rfl,q1,e2,q _ q3⟩ hs
  |str y=>
   change (match h[j]? with|some (.dct kvs)=>cL kvs (.inr y)|_=>none)=some z at e;split at e
   ·rename_i kvs e1;rw[VR]at hv;obtain⟨a,rfl,q1⟩:=hv;obtain⟨ks,k1,k2⟩:=r.ob j _ a e1 q1;obtain⟨t,e2,q3⟩:=(iw.val (.inr y) k2).2 z e;have g:pU H a (kV (.inr y)) (jG ks (.inr y)):=pU.k k1;rw[e2]at g;rw[VR]at hw;subst hw;exact Bf hu value slice pins s σ H _ _ v' u' Q I rx ry ⟨a,t,rfl,g,q _ q3⟩ hs
   ·cases e
  |_=>cases e
 |dc _ _=>rw[VR]at hv;exact hv.elim
 |_=>cases w<;>cases e
def ZI(B:Bd)(EX:Nat->List V->Hp->Prop):V->Option Int->Option Int->Hp->VK->Prop:=λx lo hi H Q=>∃ρ h v,HR B ρ h H/\VR B.K ρ H v x/\Post B EX ρ H (WV B.K Q) (tN v lo hi h)
theorem NH:U6 X (ZI (bd X cl) EX):=by
 intro pins s σ H x v' vl vu lo hi sl Q I rx hs pl pu hh;obtain⟨ρ,h,v,r,hv,p⟩:=hh;have lists:Post (bd X cl) EX ρ H (WV X.K Q) (bnd (ask λh=>aG h v) (λxs=>new (.lst (bZ xs lo hi))) h)->∃T id,typeLookup (.type T) "__getitem__" = pure (some (.builtin id))/\s.TypeIs v' T/\wpAny (model X.prog X.w) X.A (getItem v' (.ref sl)) (EP X pins σ Q) X.xe s:=by intro p;obtain⟨a,e1,p⟩:=aF p;obtain⟨a1,Sj,rfl,k1,k2⟩:=dS r hv e1;exact Jr pins s σ H _ v' vl vu lo hi sl Q I rx hs pl pu ⟨a1,Sj,rfl,k1,λq hq=>cu r hq (az.cut lo hi k2) p⟩
 cases v with
 |tup vs=>simp only[tN]at p;rw[VR]at hv;obtain⟨a,xs,rfl,q1,q2⟩:=hv;obtain⟨e,p⟩:=aK p;refine M6 pins s σ H _ v' vl vu lo hi sl Q I rx hs pl pu ⟨a,xs,rfl,q1,?_,λq hq=>rm r hq (az.cut lo hi q2) p⟩;rw[<-q2.length];simp only[not_eq_true',Bool.and_eq_false_iff,decide_eq_false_iff_not]at e;rintro⟨z1,z2⟩;exact e.elim (λk=>k z1) λk=>k z2
 |_=>exact lists p
end
end Hv
end
section
set_option backward.match.sparseCases false
namespace Hv
open PySem L2 PyProof.Rows
section
variable {X:Cx} {cl:Nat->Addr} {EX:Nat->List V->Hp->Prop}
def Iv(B:Bd)(EX:Nat->List V->Hp->Prop)(b:Bl):List V->Hp->VK->Prop:=λxs H Q=>∃ρ h vs,HR B ρ h H/\az B.K ρ H vs xs/\Post B EX ρ H (WV B.K Q) (blt b vs h)
theorem NI:cZ X (.builtin "len") (Iv (bd X cl) EX .len):=by
 intro pins s σ H xs us Q I rr hh;obtain⟨ρ,h,vs,r,hv,p⟩:=hh
 match vs,p with
 |[v],p=>
  obtain⟨n,e,p⟩:=aF p;obtain⟨x,rfl,hx⟩:=az.one hv;have fin:=aj r p _ VR.int;cases v with
  |str z=>
   simp only[nu]at e;split at e
   ·rename_i hl;cases e;rw[VR]at hx;subst hx;exact L2.m7 pins s σ H _ us Q I rr ⟨_,z.length,rfl,⟨hl,rfl⟩,fin⟩
   ·cases e
  |tup vs=>simp only[nu]at e;cases e;rw[VR]at hx;obtain⟨a,ys,rfl,q1,q2⟩:=hx;refine L2.m7 pins s σ H _ us Q I rr ⟨_,ys.length,rfl,.inr ⟨ys,q1,rfl⟩,?_⟩;rw[<-q2.length];exact fin
  |rl vs=>simp only[nu]at e;cases e;rw[VR]at hx;obtain⟨a,ys,rfl,q1,q2⟩:=hx;refine L2.m7 pins s σ H _ us Q I rr ⟨_,ys.length,rfl,.inl ⟨ys,q1.sq,rfl⟩,?_⟩;rw[<-q2.length];exact fin
  |dc _ _=>rw[VR]at hx;exact hx.elim
  |ob _ _ _=>rw[VR]at hx;exact hx.elim
  |ref i=>
   rw[VR]at hx;obtain⟨a,rfl,q1⟩:=hx;simp only[nu]at e;split at e
   ·rename_i vs e1;cases e;obtain⟨ys,k1,k2⟩:=r.ob i _ a e1 q1;refine L2.m7 pins s σ H _ us Q I rr ⟨_,ys.length,rfl,.inl ⟨ys,.inl (.inl k1),rfl⟩,?_⟩;rw[<-k2.length];exact fin
   ·rename_i vs e1;cases e;obtain⟨ks,k1,k2⟩:=r.ob i _ a e1 q1;refine Cy pins s σ H _ us Q I rr ⟨a,ks,rfl,k1,?_⟩;rw[<-k2.length];exact fin
   ·cases e
  |_=>simp only[nu]at e;cases e
theorem NJ(hc:X.calm=true):cZ X (.builtin "min") (Iv (bd X cl) EX .min):=by
 intro pins s σ H xs us Q I rr hh;obtain⟨ρ,h,vs,r,hv,p⟩:=hh
 match vs,p with
 |[.int a,.int b],p=>obtain⟨x,y,rfl,hx,hy⟩:=az.two hv;rw[VR]at hx;rw[VR]at hy;subst hx;subst hy;exact Cm hc pins s σ H _ us Q I rr ⟨a,b,rfl,aj r p _ VR.int⟩
theorem NK(hc:X.calm=true):cZ X (.builtin "max") (Iv (bd X cl) EX .max):=by
 intro pins s σ H xs us Q I rr hh;obtain⟨ρ,h,vs,r,hv,p⟩:=hh
 match vs,p with
 |[.int a,.int b],p=>obtain⟨x,y,rfl,hx,hy⟩:=az.two hv;rw[VR]at hx;rw[VR]at hy;subst hx;subst hy;exact Ck hc pins s σ H _ us Q I rr ⟨a,b,rfl,aj r p _ VR.int⟩
theorem CS:cZ X (.builtin "sorted") (Iv (bd X cl) EX .sorted):=by
 intro pins s σ H xs us Q I rr hh;obtain⟨ρ,h,vs,r,hv,p⟩:=hh
 match vs,p with
 |[v],p=>
  obtain⟨zs,e,p⟩:=aF p;obtain⟨out,e1,p⟩:=bJ p;obtain⟨x,rfl,hx⟩:=az.one hv;obtain⟨a,ys,rfl,q1,q2⟩:=dS r hx e;unfold fR at e1;split at e1
  ·rename_i h64
   cases e2:bT zs with
   |some ns=>rw[e2]at e1;cases e1;rw[f6 e2]at q2 h64;rw[az.ints.mp q2]at q1;rw[aah]at h64;exact oq pins s σ H _ us Q I rr ⟨a,ns,rfl,q1,h64,λl hl=>cu r hl (az.ints.mpr rfl) p⟩
   |none=>rw[e2]at e1;obtain⟨qf,e3,e4⟩:=aab.mp e1;cases e4;obtain⟨g1,g2⟩:=uI e3;rw[g1]at q2 h64;obtain⟨rs,r1,r2,r3⟩:=az.tups q2;rw[r1]at q1;rw[aah,r2,aah]at h64;refine ou pins s σ H _ us Q I rr ⟨a,rs,rfl,q1,h64,λp hp=>⟨r3 p hp,g2 _ (by rw[r2];exact mem_map_of_mem hp)⟩,λl qs hl hp hs=>?_⟩;have e4:qs.map (·.2)=nk qf:=EC (by rw[r2];exact hp.map _) (pairwise_map.mpr hs);rw[<-e4]at p;exact cu r hl (az.AZ λz hz=>r3 z (hp.mem_iff.mp hz)) p
  ·cases e1
theorem JO:cZ X (.type "list") (Iv (bd X cl) EX .list):=by
 intro pins s σ H xs us Q I rr hh;obtain⟨ρ,h,vs,r,hv,p⟩:=hh
 match vs,p with
 |[v],p=>obtain⟨zs,e,p⟩:=aF p;obtain⟨x,rfl,hx⟩:=az.one hv;obtain⟨a,ys,rfl,q1,q2⟩:=Ny r hx e;exact vo pins s σ H _ us Q I rr ⟨a,ys,rfl,q1,λl hl=>cu r hl q2 p⟩
theorem EG:cZ X (.type "tuple") (Iv (bd X cl) EX .tuple):=by
 intro pins s σ H xs us Q I rr hh;obtain⟨ρ,h,vs,r,hv,p⟩:=hh;exact(show False from p).elim
theorem NL:cZ X (.type "str") (Iv (bd X cl) EX .str):=by
 intro pins s σ H xs us Q I rr hh;obtain⟨ρ,h,vs,r,hv,p⟩:=hh;exact(show False from p).elim
theorem NO:cZ X (.type "int") (Iv (bd X cl) EX .int):=by
 intro pins s σ H xs us Q I rr hh;obtain⟨ρ,h,vs,r,hv,p⟩:=hh
 match vs,p with
 |[.int i],p=>obtain⟨x,rfl,hx⟩:=az.one hv;rw[VR]at hx;subst hx;exact uc pins s σ H _ us Q I rr (.inl ⟨i,rfl,aj r p _ VR.int⟩)
 |[.bl i],p=>obtain⟨x,rfl,hx⟩:=az.one hv;rw[VR]at hx;subst hx;exact uc pins s σ H _ us Q I rr (.inr ⟨i,rfl,aj r p _ VR.int⟩)
theorem NP(hc:X.calm=true):cZ X (.builtin "all") (Iv (bd X cl) EX .all):=by
 intro pins s σ H xs us Q I rr hh;obtain⟨ρ,h,vs,r,hv,p⟩:=hh
 match vs,p with
 |[v],p=>obtain⟨zs,e,p⟩:=aF p;obtain⟨bs,e1,p⟩:=bJ p;obtain⟨x,rfl,hx⟩:=az.one hv;obtain⟨a,ys,rfl,q1,q2⟩:=dS r hx e;rw[rq e1]at q2;rw[az.bools.mp q2]at q1;exact tK hc pins s σ H _ us Q I rr ⟨a,bs,rfl,q1,aj r p _ VR.bl⟩
theorem NR(hc:X.calm=true):cZ X (.builtin "any") (Iv (bd X cl) EX .any):=by
 intro pins s σ H xs us Q I rr hh;obtain⟨ρ,h,vs,r,hv,p⟩:=hh;exact(show False from p).elim
def ZJ(B:Bd)(EX:Nat->List V->Hp->Prop)(T:String):List V->Hp->VK->Prop:=λxs H Q=>∃ρ h v x,xs=[x,.ty T]/\HR B ρ h H/\VR B.K ρ H v x/\Post B EX ρ H (WV B.K Q) (blt (.isin T) [v] h)
theorem JP(K:Frag)(t T:String)(ht:t∈["NoneType","bool","int","str","list","tuple","dict"])(hT:T∈["list","tuple","str","bool","int","dict"]) :
  kitOne K (.type t) (.type T)=some (decide (T=t\/(T = "int" /\ t = "bool"))):=by
 simp only[mem_cons,not_mem_nil,or_false]at ht hT
 rcases ht with rfl|rfl|rfl|rfl|rfl|rfl|rfl<;>rcases hT with rfl|rfl|rfl|rfl|rfl|rfl<;>rfl
theorem JQ{T:String}:cZ X (.builtin "isinstance") (ZJ (bd X cl) EX T):=by
 intro pins s σ H xs us Q I rr hh;obtain⟨ρ,h,v,x,rfl,r,hx,p⟩:=hh;obtain⟨u,w',rfl,r1,r2⟩:=vals2 rr;cases r2;obtain⟨t,e,p⟩:=aF p;obtain⟨b,e1,p⟩:=bJ p;have q:=aj r p _ VR.bl;unfold xP at e1;split at e1
 ·rename_i ZK
  have hT:T∈["list","tuple","str","bool","int","dict"]:=by simpa using ZK
  cases e1;have fin:∀tk,EP X pins σ Q (.bool (decide (T=t\/(T = "int" /\ t = "bool")))) { s with toks:=tk }:=λtk=>⟨.bl _,H,I.tok _,rfl,q⟩;have tab:=λht=>JP X.K t T ht hT;cases v with
  |non=>rw[VR]at hx;subst hx;cases r1;simp only[xN]at e;cases e;exact kia_one PySem.W.kitx_none I.n8 True.intro (tab (by simp)) (λz=>nomatch z) fin
  |bl c=>rw[VR]at hx;subst hx;cases r1;simp only[xN]at e;cases e;exact kia_one PySem.W.kitx_bool I.n8 True.intro (tab (by simp)) (λz=>nomatch z) fin
  |int i=>rw[VR]at hx;subst hx;obtain⟨t',rfl⟩:=r1;simp only[xN]at e;cases e;exact kia_one PySem.W.kitx_int I.n8 True.intro (tab (by simp)) (λz=>nomatch z) fin
  |str i=>rw[VR]at hx;subst hx;obtain⟨t',rfl⟩:=r1;simp only[xN]at e;cases e;exact kia_one PySem.W.kitx_str I.n8 True.intro (tab (by simp)) (λz=>nomatch z) fin
  |tup vs=>rw[VR]at hx;obtain⟨a,ys,rfl,q1,_⟩:=hx;cases r1;simp only[xN]at e;cases e;obtain⟨_,_,⟨o,e1,e2,_⟩,_⟩:=I.tuple q1;exact kia_one PySem.W.kitx_tuple I.n8 ⟨o,e1,e2⟩ (tab (by simp)) (λz=>nomatch z) fin
  |rl vs=>rw[VR]at hx;obtain⟨a,ys,rfl,q1,_⟩:=hx;cases r1;simp only[xN]at e;cases e;obtain⟨_,_,⟨o,n,e1,e2,_⟩,_⟩:=I.list q1.sq;exact kia_one kitx_list I.n8 ⟨o,e1,e2⟩ (tab (by simp)) (λz=>nomatch z) fin
  |dc _ _=>rw[VR]at hx;exact hx.elim
  |ob _ _ _=>rw[VR]at hx;exact hx.elim
  |ref i=>
   rw[VR]at hx;obtain⟨a,rfl,q1⟩:=hx;cases r1;simp only[xN]at e;split at e
   ·rename_i vs e1;cases e;obtain⟨ys,k1,k2⟩:=r.ob i _ a e1 q1;obtain⟨_,_,⟨o,n,e1,e2,_⟩,_⟩:=I.list (xs:=ys) (.inl (.inl k1));exact kia_one kitx_list I.n8 ⟨o,e1,e2⟩ (tab (by simp)) (λz=>nomatch z) fin
   ·rename_i vs e1;cases e;obtain⟨ks,k1,k2⟩:=r.ob i _ a e1 q1;obtain⟨_,_,vs,_,p⟩:=(show bR X.prog X.w H s.heap a (.dK ks) from I.hok a _ k1);obtain⟨o,es,ep,h1,h2,_⟩:=p;exact kia_one PySem.W.kitx_dict I.n8 ⟨o,h1,h2.1⟩ (tab (by simp)) (λz=>nomatch z) fin
   ·cases e
 ·cases e1
def Sk(B:Bd)(EX:Nat->List V->Hp->Prop)(m:Me):V->List V->Hp->VK->Prop:=λx xs H Q=>∃ρ h v vs,HR B ρ h H/\VR B.K ρ H v x/\az B.K ρ H vs xs/\Post B EX ρ H (WV B.K Q) (met m v vs h)
theorem JR:QN X "str.join" (Sk (bd X cl) EX .join):=by
 intro pins s σ H x xs u us Q I ru rr hh;obtain⟨ρ,h,v,vs,r,hv,hvs,p⟩:=hh;exact(show False from p).elim
theorem rD{i:Nat}(r:HR B ρ h H)(hi:ρ[i]?=some a)(e:h[i]?=some u)(eU:H a=some U)(hm:Mu U=true)(q:OR B ρ (upd H a O) a o)
  (p:Post B EX ρ H (WV B.K Q) (bnd (put i o) (λ_=>ret Val.non) h)):Q .non (upd H a O) :=
 p ρ (upd H a O) (Gr.put (aaE hi) eU hm) (r.put hi e q) _ VR.non
theorem CT:QN X "list.append" (Sk (bd X cl) EX .append):=by
 intro pins s σ H x xs v' us Q I rx rv hh;obtain⟨ρ,h,v,vs,r,hv,hvs,p⟩:=hh
 match v,vs,p with
 |.ref i,[w],p=>
  obtain⟨zs,e,p⟩:=aF p;split at e
  ·rename_i zs' e1;cases e;obtain⟨e2,p⟩:=aK p;obtain⟨a,ys,rfl,q0,q1,q2⟩:=lQ r hv e1;obtain⟨y,rfl,hy⟩:=az.one hvs;refine um pins s σ H _ _ v' us Q I rx rv ⟨a,ys,y,rfl,rfl,q1,by rw[<-q2.length];exact aax e2,?_⟩;have g:Gr ρ H ρ (upd H a (.lst (ys++[y]))):=Gr.put (aaE q0) q1 rfl;exact rD (o:=.lst (zs++[w])) r q0 e1 q1 rfl ⟨_,aP,az.append (az.up g _ _ q2) (az.up g _ _ (az.cons hy az.nil))⟩ p
  ·cases e
theorem CU:QN X "list.extend" (Sk (bd X cl) EX .extend):=by
 intro pins s σ H x xs v' us Q I rx rv hh;obtain⟨ρ,h,v,vs,r,hv,hvs,p⟩:=hh
 match v,vs,p with
 |.ref i,[w],p=>
  obtain⟨zs,e,p⟩:=aF p;split at e
  ·rename_i zs' e1;cases e
   obtain⟨ws,e3,p⟩:=aF p;obtain⟨e2,p⟩:=aK p;have e2:=aax e2;obtain⟨a,ys,rfl,q0,q1,q2⟩:=lQ r hv e1;obtain⟨y,rfl,hy⟩:=az.one hvs;have fin:∀(bs:List V),az X.K ρ H ws bs->Q .non (upd H a (.lst (ys++bs))):=λbs hb=>by
    have g:Gr ρ H ρ (upd H a (.lst (ys++bs))):=Gr.put (aaE q0) q1 rfl;exact rD (o:=.lst (zs++ws)) r q0 e1 q1 rfl ⟨_,aP,az.append (az.up g _ _ q2) (az.up g _ _ hb)⟩ p
   cases w with
   |tup ts=>simp only[uG]at e3;cases e3;rw[VR]at hy;obtain⟨b,bs,rfl,k1,k2⟩:=hy;exact zQ pins s σ H _ _ v' us Q I rx rv ⟨a,b,ys,bs,rfl,rfl,q1,k1,by rw[<-q2.length,<-k2.length];exact e2,fin bs k2⟩
   |ref j=>
    simp only[uG,aG]at e3;split at e3
    ·rename_i ts e4;cases e3;obtain⟨b,bs,rfl,k0,k1,k2⟩:=lQ r hy e4;exact Cr pins s σ H _ _ v' us Q I rx rv ⟨a,b,ys,bs,rfl,rfl,q1,k1,by rw[<-q2.length,<-k2.length];exact e2,fin bs k2⟩
    ·cases e3
   |_=>simp only[uG]at e3;cases e3
  ·cases e
theorem az.era{K:Frag}{ρ:List Addr}{H:Hp}:∀{vs:List Val} {xs:List V} (n:Nat),az K ρ H vs xs->az K ρ H (vs.eraseIdx n) (xs.eraseIdx n)
 |[],_,n,e=>by rw[az]at e;subst e;exact az.nil
 | _::_,_,n,e=>by
  rw[az]at e;obtain⟨x,r,rfl,e1,e2⟩:=e;cases n with
  |zero=>exact e2
  |succ n=>exact az.cons e1 (az.era n e2)
theorem CV:QN X "list.remove" (Sk (bd X cl) EX .remove):=by
 intro pins s σ H x xs v' us Q I rx rv hh;obtain⟨ρ,h,v,vs,r,hv,hvs,p⟩:=hh
 match v,vs,p with
 |.ref i,[.int k],p=>
  obtain⟨zs,e,p⟩:=aF p;split at e
  ·rename_i zs' e1;cases e;obtain⟨ks,e3,p⟩:=bJ p;obtain⟨e2,p⟩:=aK p;have e3:=f6 e3;subst e3;obtain⟨a,ys,rfl,q0,q1,q2⟩:=lQ r hv e1;have hys:=az.ints.mp q2;subst hys;obtain⟨y,rfl,hy⟩:=az.one hvs;rw[VR]at hy;subst hy;refine CN pins s σ H _ _ v' us Q I rx rv ⟨a,ks,k,rfl,rfl,q1,aax e2,?_⟩;have g:Gr ρ H ρ (upd H a (.lst ((ks.map V.int).eraseIdx (ks.idxOf k)))):=Gr.put (aaE q0) q1 rfl;exact rD (o:=.lst ((ks.map Val.int).eraseIdx (ks.idxOf k))) r q0 e1 q1 rfl ⟨_,aP,az.era _ (az.up g _ _ q2)⟩ p
  ·cases e
end
def jI(f:Str->Pos->Bool):Expr->Bool
 |.Name a b=>f a b
 |_=>false
theorem dR{f:Str->Pos->Bool}{P:Expr->Prop}{e:Expr}(h:jI f e=true)(H:∀a b,f a b=true->P (.Name a b)):P e:=by
 cases e<;>first|exact H _ _ h|exact(aac h).elim
def z5(f:Const->Nat->Pos->Bool):Expr->Bool
 |.Constant a b c=>f a b c
 |_=>false
theorem xW{f:Const->Nat->Pos->Bool}{P:Expr->Prop}{e:Expr}(h:z5 f e=true)(H:∀a b c,f a b c=true->P (.Constant a b c)):P e:=by
 cases e<;>first|exact H _ _ _ h|exact(aac h).elim
def Sm(f:Expr->Operator->Expr->Pos->Bool):Expr->Bool
 |.BinOp a b c d=>f a b c d
 |_=>false
theorem NS{f:Expr->Operator->Expr->Pos->Bool}{P:Expr->Prop}{e:Expr}(h:Sm f e=true)(H:∀a b c d,f a b c d=true->P (.BinOp a b c d)):P e:=by
 cases e<;>first|exact H _ _ _ _ h|exact(aac h).elim
def Wx(f:UnaryOp->Expr->Pos->Bool):Expr->Bool
 |.UnaryOp a b c=>f a b c
 |_=>false
theorem LL{f:UnaryOp->Expr->Pos->Bool}{P:Expr->Prop}{e:Expr}(h:Wx f e=true)(H:∀a b c,f a b c=true->P (.UnaryOp a b c)):P e:=by
 cases e<;>first|exact H _ _ _ h|exact(aac h).elim
def NU(f:Expr->List CmpOp->List Expr->Pos->Bool):Expr->Bool
 |.Compare a b c d=>f a b c d
 |_=>false
theorem EH{f:Expr->List CmpOp->List Expr->Pos->Bool}{P:Expr->Prop}{e:Expr}(h:NU f e=true)(H:∀a b c d,f a b c d=true->P (.Compare a b c d)):P e:=by
 cases e<;>first|exact H _ _ _ _ h|exact(aac h).elim
def vD(f:BoolOp->List Expr->Pos->Bool):Expr->Bool
 |.BoolOp a b c=>f a b c
 |_=>false
theorem uJ{f:BoolOp->List Expr->Pos->Bool}{P:Expr->Prop}{e:Expr}(h:vD f e=true)(H:∀a b c,f a b c=true->P (.BoolOp a b c)):P e:=by
 cases e<;>first|exact H _ _ _ h|exact(aac h).elim
def Sn(f:List Expr->Nat->Pos->Bool):Expr->Bool
 |.Tuple a b c=>f a b c
 |_=>false
theorem NV{f:List Expr->Nat->Pos->Bool}{P:Expr->Prop}{e:Expr}(h:Sn f e=true)(H:∀a b c,f a b c=true->P (.Tuple a b c)):P e:=by
 cases e<;>first|exact H _ _ _ h|exact(aac h).elim
def So(f:List Expr->Pos->Bool):Expr->Bool
 |.List a b=>f a b
 |_=>false
theorem NW{f:List Expr->Pos->Bool}{P:Expr->Prop}{e:Expr}(h:So f e=true)(H:∀a b,f a b=true->P (.List a b)):P e:=by
 cases e<;>first|exact H _ _ h|exact(aac h).elim
def EI(f:Expr->Expr->Pos->Bool):Expr->Bool
 |.Subscript a b c=>f a b c
 |_=>false
theorem vF{f:Expr->Expr->Pos->Bool}{P:Expr->Prop}{e:Expr}(h:EI f e=true)(H:∀a b c,f a b c=true->P (.Subscript a b c)):P e:=by
 cases e<;>first|exact H _ _ _ h|exact(aac h).elim
def NX(f:Option Expr->Option Expr->Option Expr->Pos->Bool):Expr->Bool
 |.Slice a b c d=>f a b c d
 |_=>false
theorem EJ{f:Option Expr->Option Expr->Option Expr->Pos->Bool}{P:Expr->Prop}{e:Expr}(h:NX f e=true)(H:∀a b c d,f a b c d=true->P (.Slice a b c d)):P e:=by
 cases e<;>first|exact H _ _ _ _ h|exact(aac h).elim
def EK(f:Expr->List Expr->List Keyword->Pos->Bool):Expr->Bool
 |.Call a b c d=>f a b c d
 |_=>false
theorem Bg{f:Expr->List Expr->List Keyword->Pos->Bool}{P:Expr->Prop}{e:Expr}(h:EK f e=true)(H:∀a b c d,f a b c d=true->P (.Call a b c d)):P e:=by
 cases e<;>first|exact H _ _ _ _ h|exact(aac h).elim
def Bh(f:Expr->Str->Pos->Bool):Expr->Bool
 |.Attribute a b c=>f a b c
 |_=>false
theorem vG{f:Expr->Str->Pos->Bool}{P:Expr->Prop}{e:Expr}(h:Bh f e=true)(H:∀a b c,f a b c=true->P (.Attribute a b c)):P e:=by
 cases e<;>first|exact H _ _ _ h|exact(aac h).elim
def EL(f:Expr->List Comprehension->Scope->Pos->Bool):Expr->Bool
 |.ListComp a b c d=>f a b c d
 |_=>false
theorem Bj{f:Expr->List Comprehension->Scope->Pos->Bool}{P:Expr->Prop}{e:Expr}(h:EL f e=true)(H:∀a b c d,f a b c d=true->P (.ListComp a b c d)):P e:=by
 cases e<;>first|exact H _ _ _ _ h|exact(aac h).elim
def EM(f:List (Option Expr)->List Expr->Pos->Bool):Expr->Bool
 |.Dict a b c=>f a b c
 |_=>false
theorem Bk{f:List (Option Expr)->List Expr->Pos->Bool}{P:Expr->Prop}{e:Expr}(h:EM f e=true)(H:∀a b c,f a b c=true->P (.Dict a b c)):P e:=by
 cases e<;>first|exact H _ _ _ h|exact(aac h).elim
section
variable {α:Type} {f:α -> Bool} {g:α -> List α -> Bool} {P:List α -> Prop} {Q:Option α -> Prop} {l:List α} {b:Bool} {o:Option α}
def xY(l:List α)(b:Bool):Bool:=l.isEmpty&&b
theorem mT(h:xY l b=true)(H:b=true->P []):P l:=by
 cases l with
 |nil=>exact H h
 |cons _ _=>cases h
def kC(f:α -> List α -> Bool):List α -> Bool
 |a::r=>f a r
 |[]=>false
theorem z6(h:kC g l=true)(H:∀a r,g a r=true->P (a::r)):P l:=by
 cases l with
 |nil=>cases h
 |cons a r=>exact H a r h
def k1(f:α -> Bool):List α -> Bool:=kC λa r=>xY r (f a)
theorem kJ(h:k1 f l=true)(H:∀a,f a=true->P [a]):P l:=by
 apply z6 h;intro a r h;apply mT h;intro h;exact H a h
def k2(f:α -> α -> Bool):List α -> Bool:=kC λa r=>k1 (f a) r
theorem Wz{f:α -> α -> Bool}(h:k2 f l=true)(H:∀a b,f a b=true->P [a,b]):P l:=by
 apply z6 h;intro a r h;apply kJ h;intro b h;exact H a b h
def xZ(l:Option α)(b:Bool):Bool:=l.isNone&&b
theorem qh(h:xZ o b=true)(H:b=true->Q none):Q o:=by
 cases o with
 |none=>exact H h
 |some _=>cases h
def EO(f:α -> Bool)(l:Option α):Bool:=l.any f
theorem Bm(h:EO f o=true)(H:∀a,f a=true->Q (some a)):Q o:=by
 cases o with
 |none=>cases h
 |some a=>exact H a h
def LM[DecidableEq α](a b:α)(c:Bool):Bool:=decide (a=b)&&c
theorem uK[DecidableEq α]{P:α -> Prop}{a d:α}(h:LM a d b=true)(H:b=true->P d):P a:=by
 rw[LM,and_eq_true,aaZ]at h;rw[h.1];exact H h.2
end
def JS(f:Str->Pos->List Expr->Pos->Bool):Expr->Bool:=EK λg l k p=>jI (λx q=>xY k (f x q l p)) g
theorem nC{f:Str->Pos->List Expr->Pos->Bool}{P:Expr->Prop}{e:Expr}(h:JS f e=true)(H:∀x q l p,f x q l p=true->P (.Call (.Name x q) l [] p)):P e:=by
 apply Bg h;intro g l k p h;apply dR h;intro x q h;apply mT h;intro h;exact H x q l p h
def Sq(f:Expr->Str->Pos->List Expr->Pos->Bool):Expr->Bool:=EK λg l k p=>Bh (λo x q=>xY k (f o x q l p)) g
theorem Bo{f:Expr->Str->Pos->List Expr->Pos->Bool}{P:Expr->Prop}{e:Expr}(h:Sq f e=true)(H:∀o x q l p,f o x q l p=true->P (.Call (.Attribute o x q) l [] p)):P e:=by
 apply Bg h;intro g l k p h;apply vG h;intro o x q h;apply mT h;intro h;exact H o x q l p h
def NY(f:Expr->Expr->List Expr->Int->Bool)(c:Comprehension):Bool:=f c.target c.iter c.ifs c.is_async
theorem ES{f:Expr->Expr->List Expr->Int->Bool}{P:Comprehension->Prop}{c:Comprehension}(h:NY f c=true)(H:∀a b d i,f a b d i=true->P ⟨a,b,d,i⟩):P c:=by
 cases c;exact H _ _ _ _ h
def Ss(f:Str->Bool):Const->Bool
 |.str s=>f s
 |_=>false
theorem NZ{f:Str->Bool}{P:Const->Prop}{e:Const}(h:Ss f e=true)(H:∀s,f s=true->P (.str s)):P e:=by
 cases e<;>first|exact H _ h|exact(aac h).elim
theorem XT{a b:Bool}(h:(a||b)=true):a=true\/b=true:=by
 cases a with
 |true=>exact .inl rfl
 |false=>exact .inr h
def ET(f:Expr->Pos->Bool):Stmt->Bool
 |.Expr a b=>f a b
 |_=>false
theorem Bp{f:Expr->Pos->Bool}{P:Stmt->Prop}{e:Stmt}(h:ET f e=true)(H:∀a b,f a b=true->P (.Expr a b)):P e:=by
 cases e<;>first|exact H _ _ h|exact(aac h).elim
def JT(f:List Expr->Expr->Pos->Bool):Stmt->Bool
 |.Assign a b c=>f a b c
 |_=>false
theorem z7{f:List Expr->Expr->Pos->Bool}{P:Stmt->Prop}{e:Stmt}(h:JT f e=true)(H:∀a b c,f a b c=true->P (.Assign a b c)):P e:=by
 cases e<;>first|exact H _ _ _ h|exact(aac h).elim
def Su(f:Expr->Operator->Expr->Pos->Bool):Stmt->Bool
 |.AugAssign a b c d=>f a b c d
 |_=>false
theorem N1{f:Expr->Operator->Expr->Pos->Bool}{P:Stmt->Prop}{e:Stmt}(h:Su f e=true)(H:∀a b c d,f a b c d=true->P (.AugAssign a b c d)):P e:=by
 cases e<;>first|exact H _ _ _ _ h|exact(aac h).elim
def XU(f:Expr->List Stmt->List Stmt->Pos->Bool):Stmt->Bool
 |.If a b c d=>f a b c d
 |_=>false
theorem Sv{f:Expr->List Stmt->List Stmt->Pos->Bool}{P:Stmt->Prop}{e:Stmt}(h:XU f e=true)(H:∀a b c d,f a b c d=true->P (.If a b c d)):P e:=by
 cases e<;>first|exact H _ _ _ _ h|exact(aac h).elim
def Sw(f:Expr->Expr->List Stmt->List Stmt->Pos->Bool):Stmt->Bool
 |.For a b c d i=>f a b c d i
 |_=>false
theorem N2{f:Expr->Expr->List Stmt->List Stmt->Pos->Bool}{P:Stmt->Prop}{e:Stmt}(h:Sw f e=true)(H:∀a b c d i,f a b c d i=true->P (.For a b c d i)):P e:=by
 cases e<;>first|exact H _ _ _ _ _ h|exact(aac h).elim
def EU(f:Expr->List Stmt->List Stmt->Pos->Bool):Stmt->Bool
 |.While a b c d=>f a b c d
 |_=>false
theorem EW{f:Expr->List Stmt->List Stmt->Pos->Bool}{P:Stmt->Prop}{e:Stmt}(h:EU f e=true)(H:∀a b c d,f a b c d=true->P (.While a b c d)):P e:=by
 cases e<;>first|exact H _ _ _ _ h|exact(aac h).elim
def N3(f:Option Expr->Pos->Bool):Stmt->Bool
 |.Return a b=>f a b
 |_=>false
theorem EY{f:Option Expr->Pos->Bool}{P:Stmt->Prop}{e:Stmt}(h:N3 f e=true)(H:∀a b,f a b=true->P (.Return a b)):P e:=by
 cases e<;>first|exact H _ _ h|exact(aac h).elim
def Sx(f:Pos->Bool):Stmt->Bool
 |.Break a=>f a
 |_=>false
theorem N4{f:Pos->Bool}{P:Stmt->Prop}{e:Stmt}(h:Sx f e=true)(H:∀a,f a=true->P (.Break a)):P e:=by
 cases e<;>first|exact H _ h|exact(aac h).elim
def Sy(f:Pos->Bool):Stmt->Bool
 |.Continue a=>f a
 |_=>false
theorem N5{f:Pos->Bool}{P:Stmt->Prop}{e:Stmt}(h:Sy f e=true)(H:∀a,f a=true->P (.Continue a)):P e:=by
 cases e<;>first|exact H _ h|exact(aac h).elim
def LN(f:Pos->Bool):Stmt->Bool
 |.Pass a=>f a
 |_=>false
theorem JU{f:Pos->Bool}{P:Stmt->Prop}{e:Stmt}(h:LN f e=true)(H:∀a,f a=true->P (.Pass a)):P e:=by
 cases e<;>first|exact H _ h|exact(aac h).elim
def N6(f:Nat->Bool):IE->Bool
 |.var i=>f i
 |_=>false
theorem EZ{f:Nat->Bool}{P:IE->Prop}{e:IE}(h:N6 f e=true)(H:∀i,f i=true->P (.var i)):P e:=by
 cases e<;>first|exact H _ h|exact(aac h).elim
end Hv
end
section
namespace Hv
open PySem L2 PyProof.Rows
structure Tb where
 nc:Nat
 JV:List Str
 JW:List (Nat×Str×Nat)
 Iw:List (Str×Str×Nat)
 isc:List (Str×List Bool)
structure qi where
 N:List Str
 sc:Scope
 fns:List (Str×Nat)
 cons:List (Str×Val)
 tb:Tb
def pY(sc:Scope)(x:Str):Bool:=(sc.names.lookup x==some .local||sc.names.lookup x==some .cell||sc.names.lookup x==some .free) && !(x==("__debug__":Str)) && !(x==("__classdict__":Str))
def z8(sc:Scope)(x:Str):Bool:=sc.names.lookup x==some .globalImplicit && !(x==("__debug__":Str)) && !(x==("__name__":Str))
def E1:Const->Val->Bool
 |.none,.non=>true
 |.bool a,.bl b=>a==b
 |.int a,.int b=>a==b
 |.str a,.str b=>a==b
 |_,_=>false
def N7(o:JM)(op:Operator):Bool:=decide (op=z4 o)
def Sz(o:Nv)(op:CmpOp):Bool:=decide (op=Bc o)
def SA:Bl->Str
 |.len=>"len" | .min=>"min" | .max=>"max" | .sorted=>"sorted" | .list=>"list" | .tuple=>"tuple" | .str=>"str" | .int=>"int" | .all=>"all" | .any=>"any" | .isin _=>"isinstance"
def noStar:Expr->Bool
 |.Starred ..=>false
 |_=>true
def qj:Expr->Bool
 |.Slice ..=>false
 |_=>true
def JX:Expr->Bool
 |.Name ..=>true|.Call ..=>true|.Subscript ..=>true|.List ..=>true|.Tuple ..=>true|.ListComp ..=>true|.Attribute ..=>true|.BinOp ..=>true
 |_=>false
def superB:Expr->Bool
 |.Call (.Name _ _) [] [] _=>false
 |_=>true
def LO(scope xsc:Scope):Scope :=
 { scope with names:=scope.names.map λ(n,k)=>if (k==.free&&xsc.kind==.function&&xsc.names.lookup n==some .cell) then (n,.cell) else (n,k) }
def qi.vH(Γ:qi)(scope:Scope)(N':List Str):qi:={ Γ with N:=N',sc:=LO scope Γ.sc }
def x6(Γ:qi):zY->Expr->Bool
 |.one i,.Name x _=>Γ.N[i]?==some x && Γ.sc.names.lookup x==some .local
 | .tup is,.Tuple es _ _=>es.length==is.length&&(is.zip es).all λp=>match p.2 with
  |.Name x _=>Γ.N[p.1]?==some x && Γ.sc.names.lookup x==some .local
  |_=>false
 |_,_=>false
def x8:zY->List Nat
 |.one i=>[i]
 |.tup is=>is
def ZL:Me->Str
 |.join=>"join" | .append=>"append" | .extend=>"extend" | .remove=>"remove"
def z9:Val->Val->Bool
 |.non,.non=>true
 |.bl a,.bl b=>a==b
 |.int a,.int b=>a==b
 |.str a,.str b=>a==b
 |_,_=>false
def LP(Γ:qi)(N':List Str)(js:List (Option Nat))(p q i j:Nat):Expr->Bool:=EL λe1 q1 scope _=>jI (λy1 _=>k1 (NY λtg iter ifs ia=>jI (λy2 yp=>jI (λdn _=>k1 (NU λl ops rs _=>jI (λy3 _=>k1 (λop=>LM op .NotIn (k1 (jI λen ep=>
  ia==0&&gW Γ.N Γ.sc scope N' js&&decide (N'.Nodup)&&x6 (Γ.vH scope N') (.one p) (.Name y2 yp)&&js[p]?==some none&&js[q]?==some (some j)&&p != q && !behindInMarks .NotIn (.Name en ep) &&
   (N'[p]?==some y1&&pY (Γ.vH scope N').sc y1)&&(N'[p]?==some y3&&pY (Γ.vH scope N').sc y3)&&(N'[q]?==some en&&pY (Γ.vH scope N').sc en)&&(Γ.N[i]?==some dn&&pY Γ.sc dn)) rs)) ops) l) ifs) iter) tg) q1) e1
def N8:mP->Bool
 |.nil=>true
 |.cons ..=>false
theorem E2{b:Bool}(h:(N8 es&&b)=true):es=.nil/\b=true:=by
 cases es with
 |nil=>exact⟨rfl,h⟩
 |cons _ _=>cases h
mutual
noncomputable def bI(Γ:qi):IE->Expr->Bool
 |.var i,e=>jI (λx _=>Γ.N[i]?==some x&&pY Γ.sc x) e
 |.cst d,e=>z5 (λc _ _=>E1 c d) e
 |.con x d,e=>jI (λy _=>x==y&&z8 Γ.sc x && Γ.cons.any λp=>p.1==x&&z9 p.2 d) e
 |.no,_=>false
 |.bin o a b,e=>Sm (λl op r _=>N7 o op&&bI Γ a l&&bI Γ b r) e
 |.neg a,e=>Wx (λq1 l _=>LM q1 .USub (bI Γ a l)) e
 |.cmp o a b,e=>NU (λl q1 q2 _=>k1 (λop=>k1 (λr=>Sz o op && !behindInMarks op r&&bI Γ a l&&bI Γ b r) q2) q1) e
 |.chn _ _ _ _ _,_=>false
 |.and a b,e=>vD (λq1 q2 pos=>LM q1 .And (kC (λl q3=>kC (λm r=>bI Γ a l&&(match r with|[]=>bI Γ b m|n::r'=>bI Γ b (.BoolOp .And (m::n::r') pos))) q3) q2)) e
 |.or a b,e=>vD (λq1 q2 pos=>LM q1 .Or (kC (λl q3=>kC (λm r=>bI Γ a l&&(match r with|[]=>bI Γ b m|n::r'=>bI Γ b (.BoolOp .Or (m::n::r') pos))) q3) q2)) e
 |.not a,e=>Wx (λq1 l _=>LM q1 .Not (bI Γ a l)) e
 |.ite _ _ _,_=>false
 |.tup es,e=>Sn (λls _ _=>aR Γ es ls) e
 |.lst es,e=>So (λls _=>aR Γ es ls) e
 |.idx a b,e=>EI (λl r _=>qj r&&bI Γ a l&&bI Γ b r) e
 |.slc a lo hi,e=>EI (λl q1 _=>NX (λl' h' q2 _=>xZ q2 (bI Γ a l&&(match l' with|none=>cN lo|some e=>!cN lo&&bI Γ lo e)&&(match h' with|none=>cN hi|some e=>!cN hi&&bI Γ hi e))) q1) e
 |.call j es,e=>JS (λx _ args _=>z8 Γ.sc x && Γ.fns[j]?==some (x,args.length)&&decide (args.length<1000)&&aR Γ es args) e||Sq (λq1 m ap args cp=>jI (λx _=>z8 Γ.sc x && Γ.tb.Iw.contains (x,m,j)&&(match Γ.fns[j]? with|some (_,n)=>n==1000+args.length|none=>false)&&decide (args.length<29)&&ap.endLine==cp.line&&aR Γ es args && !args.isEmpty) q1) e
 | .blt b es,e=>JS (λx _ args _=>z8 Γ.sc x&&x==SA b&&(match b with
   |.isin T=>(match args with|[a,.Name y _]=>z8 Γ.sc y&&y==(T:Str)&&["list","tuple","str","bool","int","dict"].contains T&&aR Γ es [a]|_=>false)
   |_=>!args.isEmpty&&aR Γ es args)) e
 |.met m a es,e=>Sq (λo x ap args cp=>x==ZL m&&superB o && !args.isEmpty&&decide (args.length<29)&&ap.endLine==cp.line&&bI Γ a o&&aR Γ es args) e
 | .comp N' js pat k it c elt,e=>EL (λe q1 scope _=>k1 (λq2=>NY (λtg iter ifs q3=>LM q3 0 (gW Γ.N Γ.sc scope N' js&&Bq Γ k it iter&&decide (N'.Nodup)&&x6 (Γ.vH scope N') pat tg&&((x8 pat).all λi=>js[i]?==some none)&&(match k,pat with|.enum,.one _=>false|.zip,.one _=>false|_,_=>true) &&
   (match ifs with|[]=>cN c|[t]=>!cN c&&bI (Γ.vH scope N') c t|_=>false)&&bI (Γ.vH scope N') elt e)) q2) q1) e
 |.dct0,e=>EM (λq1 q2 _=>xY q1 (xY q2 (true))) e
 |.sset a,e=>JS (λx _ q1 _=>k1 (λq2=>JS (λy _ q3 _=>k1 (λl=>x==("sorted":Str)&&y==("set":Str)&&z8 Γ.sc x&&z8 Γ.sc y&&noStar l&&bI Γ a l) q3) q2) q1) e
 |.dget d k x,e=>Sq (λo m ap q1 cp=>k2 (λa b=>m==("get":Str)&&superB o&&noStar a&&noStar b&&ap.endLine==cp.line&&bI Γ d o&&bI Γ k a&&bI Γ x b) q1) e
 |.dct1 k v,e=>EM (λq1 q2 _=>k1 (λq3=>EO (λa=>k1 (λb=>bI Γ k a&&bI Γ v b) q2) q3) q1) e
 |.lkeys d,e=>JS (λx _ q1 _=>k1 (λq2=>jI (λy q=>x==("list":Str)&&z8 Γ.sc x&&bI Γ d (.Name y q)) q2) q1) e
 |.sdef _ _ _,_=>false
 |.svals _,_=>false
 |.skeys d,e=>JS (λx _ q1 _=>k1 (λq2=>jI (λy q=>x==("sorted":Str)&&z8 Γ.sc x&&bI Γ d (.Name y q)) q2) q1) e
 |.fld n a x,e=>Bh (λo y _=>x==y&&superB o&&n == Γ.tb.nc && Γ.tb.JV.contains x&&bI Γ a o) e
 |.rev a s,e=>EI (λl q1 _=>NX (λq2 q3 st _=>xZ q2 (xZ q3 (bI Γ a l&&st.isSome&&(match st with|none=>cN s|some e=>!cN s&&bI Γ s e)))) q1) e
 |.dflt N' js p q d w,e=>N6 (λi=>N6 (λj=>LP Γ N' js p q i j e) w) d
 |.isc _ _ _,_=>false
 |.mth a m js es,e=>Sq (λo x ap args cp=>x==m&&superB o&&decide (args.length<29)&&ap.endLine==cp.line&&(js.all λp=>decide (p.1 < Γ.tb.nc) && Γ.tb.JW.contains (p.1,m,p.2)&&(match Γ.fns[p.2]? with|some (_,n)=>n==1001+args.length|none=>false))&&bI Γ a o&&aR Γ es args) e
noncomputable def aR(Γ:qi):mP->List Expr->Bool
 |.nil,ls=>ls.isEmpty
 | .cons e es,ls=>match ls with
  |l::ls=>noStar l&&bI Γ e l&&aR Γ es ls
  |[]=>false
noncomputable def Bq(Γ:qi)(k:Ik):mP->Expr->Bool
 |.nil,_=>false
 | .cons e es,l=>match k with
  |.seq=>N8 es&&(JX l&&bI Γ e l)
  |.range=>JS (λx _ as _=>kC (λa args=>x==("range":Str)&&z8 Γ.sc x&&noStar a&&bI Γ e a&&aR Γ es args&&decide (args.length<2)) as) l
  |.enum=>N8 es&&JS (λx _ as _=>k1 (λa=>x==("enumerate":Str)&&z8 Γ.sc x&&noStar a&&bI Γ e a) as) l
  |.zip=>false
end
abbrev Fn:=Nat->List Val->M Val
def cP(K:Frag)(ρ:List Addr)(env:Env)(σ:L2.St)(H:Hp):Prop:=∀(i:Nat) (v:Val),env[i]?=some (some v)->∃x,σ[i]?=some (some x)/\VR K ρ H v x
theorem cP.lZ{K:Frag}{ρ ρ':List Addr}{env:Env}{σ:L2.St}{H H':Hp}(e:cP K ρ env σ H)(g:Gw ρ H ρ' H'):cP K ρ' env σ H':=λi v q=>by
 obtain⟨x,q1,q2⟩:=e i v q;exact⟨x,q1,VR.lZ g v x q2⟩
theorem cP.up{K:Frag}{ρ ρ':List Addr}{env:Env}{σ:L2.St}{H H':Hp}(e:cP K ρ env σ H)(g:Gr ρ H ρ' H'):cP K ρ' env σ H':=e.lZ g.w
def ZM(K:Frag)(Q:List V->Hp->Prop):List Val->Hs->List Addr->Hp->Prop:=λvs _ ρ' H'=>∀xs,az K ρ' H' vs xs->Q xs H'
def WT(Q:Bool->Hp->Prop):Bool->Hs->List Addr->Hp->Prop:=λb _ _ H'=>Q b H'
def N9(Φ:Fn)(ir:IE)(env:Env):M Bool:=bnd (aD Φ ir env) λx=>ask λh=>ck h x
def tV(Φ:Fn)(B:Bd)(EX:Nat->List V->Hp->Prop)(ir:IE):TE:=λσ H Q=>∃ρ env h,cP B.K ρ env σ H/\HR B ρ h H/\Post B EX ρ H (WV B.K Q) (aD Φ ir env h)
def XW(Φ:Fn)(B:Bd)(EX:Nat->List V->Hp->Prop)(eZ:mP):TA:=λσ H Q=>∃ρ env h,cP B.K ρ env σ H/\HR B ρ h H/\Post B EX ρ H (ZM B.K Q) (aU Φ eZ env h)
def tT(Φ:Fn)(B:Bd)(EX:Nat->List V->Hp->Prop)(ir:IE):TT:=λσ H Q=>∃ρ env h,cP B.K ρ env σ H/\HR B ρ h H/\Post B EX ρ H (WT Q) (N9 Φ ir env h)
theorem _root_.L2.PE.imp(h:PE X e t)(i:∀σ H Q,t' σ H Q->t σ H Q):PE X e t':=λpins s σ H Q I hw=>h pins s σ H Q I (i σ H Q hw)
theorem _root_.L2.PT.imp(h:PT X e t)(i:∀σ H Q,t' σ H Q->t σ H Q):PT X e t':=λpins s σ H Q I hw=>h pins s σ H Q I (i σ H Q hw)
theorem _root_.L2.PA.imp(h:PA X es t)(i:∀σ H Q,t' σ H Q->t σ H Q):PA X es t':=λpos pins s σ H Q I hw=>h pos pins s σ H Q I (i σ H Q hw)
theorem _root_.L2.PO.imp(h:PO X e t)(i:∀σ H Q,t' σ H Q->t σ H Q):PO X e t':=λpins s σ H Q I hw=>h pins s σ H Q I (i σ H Q hw)
theorem _root_.L2.PI.imp(h:PI X tg iter t)(i:∀σ H R,t' σ H R->t σ H R):PI X tg iter t':=λpins s σ H R I hw=>h pins s σ H R I (i σ H R hw)
theorem bx{α β γ:Type}(m:M α)(f:α -> M β)(g:β -> M γ):bnd (bnd m f) g=bnd m λx=>bnd (f x) g:=by
 funext h;show (match (match m h with|.ok a h'=>f a h'|.exc c vs h'=>.exc c vs h'|.no=>.no) with|.ok a h'=>g a h'|.exc c vs h'=>.exc c vs h'|.no=>.no)=(match m h with|.ok a h'=>bnd (f a) g h'|.exc c vs h'=>.exc c vs h'|.no=>.no);cases m h<;>rfl
theorem cQ{α β:Type}(a:α)(f:α -> M β):bnd (ret a) f=f a:=rfl
def vI(B:Bd)(n:Nat)(φ:List Val->M Val):Sp:=λxs H Q _=>∃ρ h vs,vs.length=n/\HR B ρ h H/\az B.K ρ H vs xs/\Post B (λ_ _ _=>False) ρ H (WV B.K Q) (φ vs h)
def QO(P:Program)(w:World)(B:Bd)(mg:Str->Option Value)(base:Heap)(k:Nat)(j:Nat)(x:Str)(n:Nat)(φ:List Val->M Val):Prop :=
 (n<1000/\((∃(f:Addr) (fd:FuncData) (ps:List Str),ps.length=n/\mg x=some (.ref f)/\keepIn B.K (.ref f)=true/\Binds B.K fd ps []/\fW P w B.K mg base zd k f fd ps (vI B n φ)) \/
  ∃(c:Nat) (f:Addr) (fd:FuncData) (ps:List Str) (φ0:List Val->M Val),φ = Dz c φ0/\ps.length=n+1/\mg x=some (.ref (B.cl c))/\Mk B.K (B.cl c) f/\Binds B.K fd ps []/\fW P w B.K mg base zd k f fd ps (vI B (n+1) φ0))) \/
 (1000<=n/\∃(fd:FuncData) (ps:List Str),ps.length=n-1000/\Binds B.K fd ps []/\fW P w B.K mg base zd k (B.cl (1000+j)) fd ps (vI B (n-1000) φ))
def bltNames:List Str:=["len","min","max","sorted","list","tuple","str","all","any","isinstance","range","enumerate","int","bool","dict","set","zip"]
structure Ctx (Φ:Fn) (Γ:qi) (k:Nat) (X:Cx) (cl:Nat->Addr) (EX:Nat->List V->Hp->Prop):Prop where
 N:X.N = Γ.N
 sc:X.env.scope = Γ.sc
 calm:X.calm=true
 room:dw (k+1) X.A
 mH:∀c xs H,¬ EX c xs H
 fns:∀j x n,Γ.fns[j]?=some (x,n)->QO X.prog X.w (bd X cl) X.mg X.base k j x n (Φ j)
 cls:∀c,c < Γ.tb.nc->Dy X.K (cl c)/\∀x ∈ Γ.tb.JV,kT X.K (cl c) x
 JW:∀p ∈ Γ.tb.JW,Meth X.K (cl p.1) p.2.1 (cl (1000+p.2.2))
 Iw:∀p ∈ Γ.tb.Iw,∃C,X.mg p.1=some (.ref C)/\Nt X.K C p.2.1 (cl (1000+p.2.2))
 isc:∀p ∈ Γ.tb.isc,∃C,X.mg p.1=some (.ref C)/\∀c b,p.2[c]?=some b->XR X.K (cl c)/\kitOne X.K (.ref (cl c)) (.ref C)=some b
 cons:∀p ∈ Γ.cons,∃v u,X.mg p.1=some u/\RelV v u/\∀K ρ H,VR K ρ H p.2 v
 blt:∀x∈bltNames,X.mg x=none
section
variable {Φ:Fn} {Γ:qi} {k:Nat} {X:Cx} {cl:Nat->Addr} {EX:Nat->List V->Hp->Prop}
theorem Ctx.units(c:Ctx Φ Γ k X cl EX):X.A.units+64<cLine:=c.room.units
theorem Ctx.vis(c:Ctx Φ Γ k X cl EX)(h:pY Γ.sc x=true):Q6 X.env.scope x/\(x==("__debug__":Str))=false/\(x==("__classdict__":Str))=false:=by
 unfold pY at h;simp only[and_eq_true,or_eq_true,beq_iff_eq,not_eq_true']at h;obtain⟨⟨h1,h2⟩,h3⟩:=h;refine⟨?_,h2,h3⟩;unfold Q6;rw[c.sc]
 rcases h1 with (z|z)|z
 ·exact .inl z
 ·exact .inr (.inl z)
 ·exact .inr (.inr z)
theorem Ctx.gl(c:Ctx Φ Γ k X cl EX)(h:z8 Γ.sc x=true):Gl X x/\(x==("__debug__":Str))=false/\x ≠ "__name__":=by
 unfold z8 at h;simp only[and_eq_true,beq_iff_eq,not_eq_true']at h;obtain⟨⟨h1,h2⟩,h3⟩:=h;refine⟨?_,h2,λz=>by rw[z]at h3;simp at h3⟩;show X.env.scope.names.lookup x=_;rw[c.sc];exact h1
theorem Ctx.vH(c:Ctx Φ Γ k X cl EX)(scope:Scope)(N':List Str)(cls:List (Str×Addr))(C:Addr)(s:Shared)(H:Hp)(fp:List Addr):Ctx Φ (Γ.vH scope N') k (bE X scope N' cls C s H fp) cl EX:=by
 refine⟨rfl,?_,c.calm,c.room,c.mH,c.fns,c.cls,c.JW,c.Iw,c.isc,c.cons,c.blt⟩;show relabel scope X.env=LO scope Γ.sc;rw[<-c.sc];rfl
theorem bz(h:noStar e=true):starEach (e::es) env=(false,eval e env)::starEach es env:=by
 cases e<;>first|rfl|(simp[noStar]at h)
theorem gy:∀{es:List Expr} {eZ:mP},aR Γ eZ es=true->(backTo pos (starEach es env)).any (·.1)=false
 |[],_,_=>rfl
 |e::es,.nil,h=>by simp[aR]at h
 | e::es,.cons i eZ,h=>by
  simp only[aR,and_eq_true]at h;rw[bz h.1.1];show (false||(backTo pos (starEach es env)).any (·.1))=false;rw[gy (eZ:=eZ) h.2];rfl
theorem rE(h:aR Γ eZ es=true):(backTo pos (starEach es env)).all (λx=>!x.1)=true:=by
 have q:=gy (pos:=pos) (env:=env) h;rw[all_eq_true];intro x hx;have:=List.any_eq_false.mp q x hx;simpa using this
theorem Aa(h:qj e=true):AK e:=by
 intro o i;cases e<;>first|rfl|(simp[qj]at h)
theorem super_ok(h:superB e=true):attributeBase e x env whole=whole:=by
 cases e<;>first
  |rfl
  |skip
 rename_i f args kws pos;cases f<;>first
  |rfl
  |skip
 cases args with
 |cons a r=>rfl
 |nil=>
  cases kws with
  |cons a r=>rfl
  |nil=>simp[superB]at h
theorem cC(q:PE X e (tV Φ (bd X cl) EX ir))(he:∀whole,isTrue e X.env whole=(do let v <-whole;standAt e.pos;holding [v] (truthy v))):PT X e (tT Φ (bd X cl) EX ir) :=
 (DS q he).imp λσ H Q ⟨ρ,env,h,hE,r,p⟩=>⟨ρ,env,h,hE,r,av p λv h1 ρ1 x H1 g1 r1 q1 p1=>by
  obtain⟨b,e,w⟩:=cW r1 p1;exact⟨b,ND r1 q1 e,w⟩⟩
theorem DQ:U5 X (unaryOp .USub) (λx H Q=>∃i,x=.int i/\Q (.int (-i)) H):=by
 intro pins s σ H x v Q I rx h;obtain⟨i,rfl,q⟩:=h;obtain⟨t,rfl⟩:=rx;exact neg_int ⟨.int (-i),H,I.tok _,⟨_,rfl⟩,q⟩
theorem LQ(h:PT X (.BoolOp op vs pos) t):PW X (.BoolOp op vs pos) t:=λwhole pins s σ H Q I hw=>h pins s σ H Q I hw
def cg(Φ:Fn)(ir:IE):Prop:=∀(Γ:qi) (k:Nat) (X:Cx) (cl:Nat->Addr) (EX:Nat->List V->Hp->Prop) (e:Expr),Ctx Φ Γ k X cl EX->bI Γ ir e=true->PE X e (tV Φ (bd X cl) EX ir)/\PT X e (tT Φ (bd X cl) EX ir)
def kY(Φ:Fn)(eZ:mP):Prop:=(∀(Γ:qi) (k:Nat) (X:Cx) (cl:Nat->Addr) (EX:Nat->List V->Hp->Prop) (es:List Expr),Ctx Φ Γ k X cl EX->aR Γ eZ es=true->PA X es (XW Φ (bd X cl) EX eZ))/\match eZ with
 |.nil=>True
 | .cons e r=>cg Φ e/\match r with
  |.nil=>True
  |.cons e' _=>cg Φ e'
theorem Br(h:N7 o op=true):op=z4 o:=aax h
theorem JY(h:Sz o op=true):op=Bc o:=aax h
theorem rF(hs:∀env h,aD Φ ir env h=.no):cg Φ ir:=by
 intro Γ k X cl EX e c h;exact⟨λpins s σ H Q I ⟨ρ,env,h,hE,r,p⟩=>by rw[hs]at p;exact p.elim,λpins s σ H Q I ⟨ρ,env,h,hE,r,p⟩=>by unfold N9 bnd at p;rw[hs]at p;exact p.elim⟩
theorem Oa{i:Nat}:cg Φ (.var i):=by
 intro Γ k X cl EX e c h;apply dR h;intro x pos h;simp only[and_eq_true,beq_iff_eq]at h;obtain⟨v1,v2,v3⟩:=c.vis h.2;have q:PE X (.Name x pos) (tV Φ (bd X cl) EX (.var i)):=by refine(zk (by rw[c.N];exact h.1) v1 v2 v3).imp λσ H Q aI=>?_;obtain⟨ρ,env,h,hE,r,p⟩:=aI;rw[aD.eq_def]at p;dsimp only at p;obtain⟨d,e1,w⟩:=dY r p;split at e1<;>cases e1;rename_i e1;obtain⟨x,e2,e3⟩:=hE i d e1;exact⟨x,e2,w x e3⟩
 exact⟨q,cC q λ_=>rfl⟩
theorem Oc:cg Φ (.cst d):=by
 intro Γ k X cl EX e c h;apply xW h;intro cc j pos h;have q:PE X (.Constant cc j pos) (tV Φ (bd X cl) EX (.cst d)):=by
  unfold E1 at h;split at h<;>first|cases h|skip
  ·refine Mx.imp λσ H Q aI=>?_;obtain⟨ρ,env,h,hE,r,p⟩:=aI;simp only[aD]at p;exact aj r p _ VR.non
  ·cases eq_of_beq h;refine Rc.imp λσ H Q aI=>?_;obtain⟨ρ,env,h,hE,r,p⟩:=aI;simp only[aD]at p;exact aj r p _ VR.bl
  ·cases eq_of_beq h;refine Mw.imp λσ H Q aI=>?_;obtain⟨ρ,env,h,hE,r,p⟩:=aI;simp only[aD]at p;exact aj r p _ VR.int
  ·cases eq_of_beq h;refine My.imp λσ H Q aI=>?_;obtain⟨ρ,env,h,hE,r,p⟩:=aI;simp only[aD]at p;exact aj r p _ VR.str
 exact⟨q,cC q λ_=>rfl⟩
theorem CW(h:z9 a b=true):a=b:=by
 unfold z9 at h;split at h<;>first|rfl|(cases eq_of_beq h;rfl)|cases h
theorem Od:cg Φ (.con x d):=by
 intro Γ k X cl EX e c h;apply dR h;intro y pos h;simp only[and_eq_true,beq_iff_eq]at h;obtain⟨⟨h1,h2⟩,h3⟩:=h;subst h1;obtain⟨g1,g2,g3⟩:=c.gl h2;obtain⟨p,hp,h4⟩:=List.any_eq_true.mp h3;simp only[and_eq_true,beq_iff_eq]at h4;obtain⟨v,u,m1,m2,m3⟩:=c.cons p hp;rw[h4.1]at m1;have q:PE X (.Name x pos) (tV Φ (bd X cl) EX (.con x d)):=by refine(IM g1 m1 m2 g2).imp λσ H Q aI=>?_;obtain⟨ρ,env,h,hE,r,p⟩:=aI;simp only[aD]at p;exact aj r p _ (by rw[<-CW h4.2];exact m3 _ _ _)
 exact⟨q,cC q λ_=>rfl⟩
theorem SD:cg Φ .no:=by
 intro Γ k X cl EX e c h
 (conv at h=>lhs;whnf);cases h
theorem E4:kY Φ .nil:=by
 refine⟨fun Γ k X cl EX es c h=>?_,trivial⟩;rw[aR]at h;cases es with
 |cons a r=>cases h
 |nil=>refine DV.imp λσ H Q aI=>?_;obtain⟨ρ,env,h,hE,r,p⟩:=aI;simp only[aU]at p;exact aj r p _ az.nil
theorem Bs(h1:cg Φ e)(h2:kY Φ es):kY Φ (.cons e es):=by
 refine⟨fun Γ k X cl EX ls c h=>?_,h1,?_⟩
 ·rw[aR.eq_def]at h;dsimp only at h
  cases ls with
  |nil=>cases h
  |cons l ls=>simp only[and_eq_true]at h;refine(vd (h1 Γ k X cl EX l c h.1.2).1 (h2.1 Γ k X cl EX ls c h.2) (bz h.1.1)).imp λσ H Q aI=>?_;obtain⟨ρ,env,h,hE,r,p⟩:=aI;simp only[aU]at p;refine⟨ρ,env,h,hE,r,av p λv h1 ρ1 x H1 g1 r1 q1 p1=>⟨ρ1,env,h1,hE.up g1,r1,bw p1 λvs h2 ρ2 H2 g2 r2 p2 xs q2=>?_⟩⟩;exact aj r2 p2 _ (az.cons (VR.up g2 _ _ q1) q2)
 ·cases es with
  |nil=>trivial
  |cons e' r=>exact h2.2.1
theorem Oe(ha:cg Φ a)(hb:cg Φ b):cg Φ (.bin o a b):=by
 intro Γ k X cl EX e c h;apply NS h;intro l op r pos h;simp only[and_eq_true]at h;obtain⟨⟨h1,h2⟩,h3⟩:=h;have eo:op=z4 o:=Br h1;subst eo;have q:PE X (.BinOp l (z4 o) r pos) (tV Φ (bd X cl) EX (.bin o a b)):=by refine(Rz (Nz (cl:=cl) (EX:=EX) o) (ha Γ k X cl EX l c h2).1 (hb Γ k X cl EX r c h3).1).imp λσ H Q aI=>?_;obtain⟨ρ,env,h,hE,r,p⟩:=aI;simp only[aD]at p;exact⟨ρ,env,h,hE,r,av p λv h1 ρ1 x H1 g1 r1 q1 p1=>⟨ρ1,env,h1,hE.up g1,r1,av p1 λw h2 ρ2 y H2 g2 r2 q2 p2=>⟨ρ2,h2,v,w,r2,VR.up g2 _ _ q1,q2,p2⟩⟩⟩
 exact⟨q,cC q λ_=>rfl⟩
theorem Of(ha:cg Φ a):cg Φ (.neg a):=by
 intro Γ k X cl EX e c h;apply LL h;intro q1 l pos h;apply uK h;intro h;have q:PE X (.UnaryOp .USub l pos) (tV Φ (bd X cl) EX (.neg a)):=by
  refine(RA DQ (ha Γ k X cl EX l c h).1).imp λσ H Q aI=>?_;obtain⟨ρ,env,h,hE,r,p⟩:=aI;simp only[aD]at p;refine⟨ρ,env,h,hE,r,av p λv h1 ρ1 x H1 g1 r1 q1 p1=>?_⟩;cases v<;>first|exact p1.elim|skip
  rw[VR]at q1;exact⟨_,q1,aj r1 p1 _ VR.int⟩
 exact⟨q,cC q λ_=>rfl⟩
theorem Og(ha:cg Φ a)(hb:cg Φ b):cg Φ (.cmp o a b):=by
 intro Γ k X cl EX e c h;apply EH h;intro l q1 q2 pos h;apply kJ h;intro op h;apply kJ h;intro r h;simp only[and_eq_true,not_eq_true']at h;obtain⟨⟨⟨h1,h4⟩,h2⟩,h3⟩:=h;have eo:op=Bc o:=JY h1;subst eo;refine⟨(Jh (EF (cl:=cl) c.units o) (ha Γ k X cl EX l c h2).1 (hb Γ k X cl EX r c h3).1 h4).imp λσ H Q ⟨ρ,env,h,hE,r,p⟩=>?_,(AF (EF (cl:=cl) c.units o) (ha Γ k X cl EX l c h2).1 (hb Γ k X cl EX r c h3).1 h4).imp λσ H Q ⟨ρ,env,h,hE,r,p⟩=>?_⟩
 ·simp only[aD]at p;refine⟨ρ,env,h,hE,r,av p λv h1 ρ1 x H1 g1 r1 q1 p1=>⟨ρ1,env,h1,hE.up g1,r1,av p1 λw h2 ρ2 y H2 g2 r2 q2 p2=>?_⟩⟩;obtain⟨t,e,p3⟩:=aF p2;exact⟨ρ2,h2,v,w,t,r2,VR.up g2 _ _ q1,q2,e,aj r2 p3 _ VR.bl⟩
 ·simp only[N9,aD,bx,cQ]at p;refine⟨ρ,env,h,hE,r,av p λv h1 ρ1 x H1 g1 r1 q1 p1=>⟨ρ1,env,h1,hE.up g1,r1,av p1 λw h2 ρ2 y H2 g2 r2 q2 p2=>?_⟩⟩;obtain⟨t,e,p3⟩:=aF p2;obtain⟨t',e',w'⟩:=cW r2 p3;cases (show some t=some t' from e');exact⟨ρ2,h2,v,w,t,r2,VR.up g2 _ _ q1,q2,e,t,rfl,w'⟩
theorem Oh(ha:cg Φ a)(hb:cg Φ b)(hd:cg Φ d):cg Φ (.chn o o' a b d):=rF λ_ _=>rfl
end
section
variable {B:Bd} {EX:Nat->List V->Hp->Prop} {ρ:List Addr} {H:Hp} {β:Type} {W:β -> Hs->List Addr->Hp->Prop} {h:Hs}
theorem post_bool(p:Post B EX ρ H W (bnd (qY v) f h)):∃t,v=.bl t/\Post B EX ρ H W (f t h):=by
 cases v with
 |bl t=>exact⟨t,rfl,p⟩
 |_=>exact p.elim
theorem oH(p:Post B EX ρ H W (bnd m F h))(k:∀v h1,Post B EX ρ H W (F v h1)->∃t,ck h1 v=some t/\∀ρ1 H1,Gr ρ H ρ1 H1->HR B ρ1 h1 H1->Q t H1) :
  Post B EX ρ H (WT Q) (bnd m (λx=>ask λh=>ck h x) h):=by
 unfold bnd at p |-;cases e:m h with
 |ok v h1=>
  rw[e]at p;obtain⟨t,e1,q⟩:=k v h1 p;show Post B EX ρ H (WT Q) (ask (λh=>ck h v) h1);have e2:ask (λh=>ck h v) h1=.ok t h1:=by unfold ask bD;dsimp only;rw[e1]
  rw[e2];exact λρ1 H1 g r=>q ρ1 H1 g r
 |exc c vs h1=>rw[e]at p;exact p
 |no=>rw[e]at p;exact p
end
section
variable {Φ:Fn} {Γ:qi} {k:Nat} {X:Cx} {cl:Nat->Addr} {EX:Nat->List V->Hp->Prop}
theorem Oi(ha:cg Φ a)(hb:cg Φ b):cg Φ (.and a b):=by
 intro Γ k X cl EX e c h;apply uJ h;intro q1 q2 pos h;apply uK h;intro h;apply z6 h;intro l q3 h;apply z6 h;intro m r h;simp only[and_eq_true]at h;obtain⟨h1,h2⟩:=h;have hB:PE X (.BoolOp .And (m::r) pos) (tV Φ (bd X cl) EX b)/\PW X (.BoolOp .And (m::r) pos) (tT Φ (bd X cl) EX b):=by
  cases r with
  |nil=>exact⟨DG (hb Γ k X cl EX m c h2).1,IQ (hb Γ k X cl EX m c h2).2⟩
  |cons n r'=>exact⟨(hb Γ k X cl EX _ c h2).1,LQ (hb Γ k X cl EX _ c h2).2⟩
 refine⟨(MC (ha Γ k X cl EX l c h1).1 hB.1).imp λσ H Q ⟨ρ,env,h,hE,r,p⟩=>?_,(MA (ha Γ k X cl EX l c h1).2 hB.2).pt.imp λσ H Q ⟨ρ,env,h,hE,r,p⟩=>?_⟩
 ·simp only[aD]at p
  refine⟨ρ,env,h,hE,r,av p λv h1 ρ1 x H1 g1 r1 q1 p1=>?_⟩;obtain⟨t,rfl,p2⟩:=post_bool p1;rw[VR]at q1;refine⟨t,q1,?_⟩;cases t with
  |true=>rw[aai rfl]at p2 |-;refine⟨ρ1,env,h1,hE.up g1,r1,av p2 λw h2 ρ2 y H2 g2 r2 q2 p3=>?_⟩;obtain⟨u,rfl,p4⟩:=post_bool p3;exact aj r2 p4 _ q2
  |false=>rw[aal aac]at p2 |-;exact aj r1 p2 _ VR.bl
 ·simp only[N9,aD,bx]at p
  refine⟨ρ,env,h,hE,r,oH p λv h1 p1=>?_⟩;obtain⟨t,rfl,p2⟩:=post_bool p1;refine⟨t,rfl,λρ1 H1 g1 r1=>?_⟩;have p2:=Post.up g1 p2;cases t with
  |true=>rw[aai rfl]at p2 |-;simp only[bx,cQ]at p2;refine⟨ρ1,env,h1,hE.up g1,r1,oH p2 λw h2 p3=>?_⟩;obtain⟨u,rfl,p4⟩:=post_bool p3;exact⟨u,rfl,λρ2 H2 g2 r2=>by obtain⟨t',e',w'⟩:=cW r2 (Post.up g2 p4);cases (show some u=some t' from e');exact w'⟩
  |false=>rw[aal aac]at p2 |-;obtain⟨t',e',w'⟩:=cW r1 (show Post _ _ ρ1 H1 _ (ask (λh=>ck h (.bl false)) h1) from p2);cases (show some false=some t' from e');exact w'
theorem SE(ha:cg Φ a)(hb:cg Φ b):cg Φ (.or a b):=by
 intro Γ k X cl EX e c h;apply uJ h;intro q1 q2 pos h;apply uK h;intro h;apply z6 h;intro l q3 h;apply z6 h;intro m r h;simp only[and_eq_true]at h;obtain⟨h1,h2⟩:=h;have hB:PE X (.BoolOp .Or (m::r) pos) (tV Φ (bd X cl) EX b)/\PW X (.BoolOp .Or (m::r) pos) (tT Φ (bd X cl) EX b):=by
  cases r with
  |nil=>exact⟨DG (hb Γ k X cl EX m c h2).1,Mz (hb Γ k X cl EX m c h2).2⟩
  |cons n r'=>exact⟨(hb Γ k X cl EX _ c h2).1,LQ (hb Γ k X cl EX _ c h2).2⟩
 refine⟨(Ri (ha Γ k X cl EX l c h1).1 hB.1).imp λσ H Q ⟨ρ,env,h,hE,r,p⟩=>?_,(Rf (ha Γ k X cl EX l c h1).2 hB.2).pt.imp λσ H Q ⟨ρ,env,h,hE,r,p⟩=>?_⟩
 ·simp only[aD]at p
  refine⟨ρ,env,h,hE,r,av p λv h1 ρ1 x H1 g1 r1 q1 p1=>?_⟩;obtain⟨t,rfl,p2⟩:=post_bool p1;rw[VR]at q1;refine⟨t,q1,?_⟩;cases t with
  |false=>rw[aal aac]at p2 |-;refine⟨ρ1,env,h1,hE.up g1,r1,av p2 λw h2 ρ2 y H2 g2 r2 q2 p3=>?_⟩;obtain⟨u,rfl,p4⟩:=post_bool p3;exact aj r2 p4 _ q2
  |true=>rw[aai rfl]at p2 |-;exact aj r1 p2 _ VR.bl
 ·simp only[N9,aD,bx]at p
  refine⟨ρ,env,h,hE,r,oH p λv h1 p1=>?_⟩;obtain⟨t,rfl,p2⟩:=post_bool p1;refine⟨t,rfl,λρ1 H1 g1 r1=>?_⟩;have p2:=Post.up g1 p2;cases t with
  |false=>rw[aal aac]at p2 |-;simp only[bx,cQ]at p2;refine⟨ρ1,env,h1,hE.up g1,r1,oH p2 λw h2 p3=>?_⟩;obtain⟨u,rfl,p4⟩:=post_bool p3;exact⟨u,rfl,λρ2 H2 g2 r2=>by obtain⟨t',e',w'⟩:=cW r2 (Post.up g2 p4);cases (show some u=some t' from e');exact w'⟩
  |true=>rw[aai rfl]at p2 |-;obtain⟨t',e',w'⟩:=cW r1 (show Post _ _ ρ1 H1 _ (ask (λh=>ck h (.bl true)) h1) from p2);cases (show some true=some t' from e');exact w'
theorem Oj(ha:cg Φ a):cg Φ (.not a):=by
 intro Γ k X cl EX e c h;apply LL h;intro q1 l pos h;apply uK h;intro h;refine⟨(MD (ha Γ k X cl EX l c h).1).imp λσ H Q ⟨ρ,env,h,hE,r,p⟩=>?_,(MB (ha Γ k X cl EX l c h).2).imp λσ H Q ⟨ρ,env,h,hE,r,p⟩=>?_⟩
 ·simp only[aD]at p;refine⟨ρ,env,h,hE,r,av p λv h1 ρ1 x H1 g1 r1 q1 p1=>?_⟩;obtain⟨t,rfl,p2⟩:=post_bool p1;rw[VR]at q1;exact⟨t,q1,aj r1 p2 _ VR.bl⟩
 ·simp only[N9,aD,bx]at p;refine⟨ρ,env,h,hE,r,oH p λv h1 p1=>?_⟩;obtain⟨t,rfl,p2⟩:=post_bool p1;refine⟨t,rfl,λρ1 H1 g1 r1=>?_⟩;obtain⟨t',e',w'⟩:=cW r1 (show Post _ _ ρ1 H1 _ (ask (λh=>ck h (.bl (!t))) h1) from Post.up g1 p2);cases (show some (!t)=some t' from e');exact w'
theorem Ol(ht:cg Φ t)(ha:cg Φ a)(hb:cg Φ b):cg Φ (.ite t a b):=rF λ_ _=>rfl
theorem Om(hs:kY Φ es):cg Φ (.tup es):=by
 intro Γ k X cl EX e c h;apply NV h;intro ls x1 pos h;have q:PE X (.Tuple ls x1 pos) (tV Φ (bd X cl) EX (.tup es)):=by refine(M1 (hs.1 Γ k X cl EX ls c h)).imp λσ H Q aI=>?_;obtain⟨ρ,env,h,hE,r,p⟩:=aI;simp only[aD]at p;refine⟨ρ,env,h,hE,r,bw p λvs h1 ρ1 H1 g1 r1 p1 xs q1=>?_⟩;obtain⟨e1,p2⟩:=aK p1;exact⟨by rw[<-q1.length];exact aax e1,λq hq=>rm r1 hq q1 p2⟩
 exact⟨q,cC q λ_=>rfl⟩
theorem Oo(hs:kY Φ es):cg Φ (.lst es):=by
 intro Γ k X cl EX e c h;apply NW h;intro ls pos h;have q:PE X (.List ls pos) (tV Φ (bd X cl) EX (.lst es)):=by refine(M3 (hs.1 Γ k X cl EX ls c h)).imp λσ H Q aI=>?_;obtain⟨ρ,env,h,hE,r,p⟩:=aI;simp only[aD]at p;refine⟨ρ,env,h,hE,r,bw p λvs h1 ρ1 H1 g1 r1 p1 xs q1=>?_⟩;obtain⟨e1,p2⟩:=aK p1;exact⟨by rw[<-q1.length];exact aax e1,λq hq=>cu r1 hq q1 p2⟩
 exact⟨q,cC q λ_=>rfl⟩
theorem JZ:cg Φ .dct0:=by
 intro Γ k X cl EX e c h;apply Bk h;intro q1 q2 pos h;apply mT h;intro h;apply mT h;intro h;have q:PE X (.Dict [] [] pos) (tV Φ (bd X cl) EX .dct0):=by refine(D7 (X:=X) (pos:=pos)).imp λσ H Q aI=>?_;obtain⟨ρ,env,h,hE,r,p⟩:=aI;simp only[aD]at p;exact λa ha=>xT (o:=.dct []) (O:=.dK []) r ha ⟨[],aP,(by rw[iw])⟩ p
 exact⟨q,cC q λ_=>rfl⟩
theorem Oq(ha:cg Φ a)(hb:cg Φ b):cg Φ (.idx a b):=by
 intro Γ k X cl EX e c h;apply vF h;intro l r pos h;simp only[and_eq_true]at h;have q:PE X (.Subscript l r pos) (tV Φ (bd X cl) EX (.idx a b)):=by refine(RM (NG (cl:=cl) c.units) (ha Γ k X cl EX l c h.1.2).1 (hb Γ k X cl EX r c h.2).1 (Aa h.1.1)).imp λσ H Q aI=>?_;obtain⟨ρ,env,h,hE,r,p⟩:=aI;simp only[aD]at p;refine⟨ρ,env,h,hE,r,av p λv h1 ρ1 x H1 g1 r1 q1 p1=>⟨ρ1,env,h1,hE.up g1,r1,av p1 λw h2 ρ2 y H2 g2 r2 q2 p2=>?_⟩⟩;obtain⟨z,e,w'⟩:=cW r2 p2;exact⟨ρ2,h2,v,w,z,r2,VR.up g2 _ _ q1,q2,e,w'⟩
 exact⟨q,cC q λ_=>rfl⟩
def QS(Φ:Fn)(ir:IE)(env:Env):M (Option Int):=if cN ir=true then ret none else bnd (aD Φ ir env) λv=>bnd (bD (fu v)) λi=>ret (some i)
def tP(Φ:Fn)(B:Bd)(EX:Nat->List V->Hp->Prop)(ir:IE):TO:=λσ H Q=>∃ρ env h,cP B.K ρ env σ H/\HR B ρ h H/\Post B EX ρ H (λo _ _ H'=>Q o H') (QS Φ ir env h)
theorem uL{i:Int}(h:fu d=some i):d=.int i:=by cases d<;>cases h;rfl
theorem vJ(hi:cg Φ ir)(c:Ctx Φ Γ k X cl EX)(h:(match o with|none=>cN ir|some e=>!cN ir&&bI Γ ir e)=true):PO X o (tP Φ (bd X cl) EX ir):=by
 cases o with
 |none=>refine Jo.imp λσ H Q aI=>?_;obtain⟨ρ,env,h',hE,r,p⟩:=aI;unfold QS at p;rw[aai h]at p;exact aj r p
 |some e=>simp only[and_eq_true,not_eq_true']at h;refine(Jp (hi Γ k X cl EX e c h.2).1).imp λσ H Q aI=>?_;obtain⟨ρ,env,h',hE,r,p⟩:=aI;unfold QS at p;rw[aal (by rw[h.1];exact aac)]at p;refine⟨ρ,env,h',hE,r,av p λv h1 ρ1 x H1 g1 r1 q1 p1=>?_⟩;obtain⟨i,e1,p2⟩:=bJ p1;cases uL e1;rw[VR]at q1;exact⟨i,q1,aj r1 p2⟩
theorem Ot{a lo hi:IE}(ha:cg Φ a)(hl:cg Φ lo)(hh:cg Φ hi):cg Φ (.slc a lo hi):=by
 intro Γ k X cl EX e c h;apply vF h;intro l q1 pos h;apply EJ h;intro l' h' q2 p2 h;apply qh h;intro h;simp only[and_eq_true]at h;have q:PE X (.Subscript l (.Slice l' h' none p2) pos) (tV Φ (bd X cl) EX (.slc a lo hi)):=by refine(DZ (NH (cl:=cl) (EX:=EX)) (ha Γ k X cl EX l c h.1.1).1 (vJ hl c h.1.2) (vJ hh c h.2)).imp λσ H Q aI=>?_;obtain⟨ρ,env,h,hE,r,p⟩:=aI;simp only[aD]at p;refine⟨ρ,env,h,hE,r,av p λv h1 ρ1 x H1 g1 r1 q1 p1=>⟨ρ1,env,h1,hE.up g1,r1,bw (m:=QS Φ lo env) p1 λlo' h2 ρ2 H2 g2 r2 p3=>⟨ρ2,env,h2,(hE.up g1).up g2,r2,bw (m:=QS Φ hi env) p3 λhi' h3 ρ3 H3 g3 r3 p4=>?_⟩⟩⟩;exact⟨ρ3,h3,v,r3,VR.up (g2.trans g3) _ _ q1,p4⟩
 exact⟨q,cC q λ_=>rfl⟩
theorem Ou(ha:cg Φ a)(hs:cg Φ sx):cg Φ (.rev a sx):=by
 intro Γ k X cl EX e c h;apply vF h;intro l q1 pos h;apply EJ h;intro q2 q3 st p2 h;apply qh h;intro h;apply qh h;intro h;simp only[and_eq_true]at h;obtain⟨⟨h1,h2⟩,h3⟩:=h;obtain⟨st,rfl⟩:=Option.isSome_iff_exists.mp h2;have q:PE X (.Subscript l (.Slice none none (some st) p2) pos) (tV Φ (bd X cl) EX (.rev a sx)):=by refine(Nq (ha Γ k X cl EX l c h1).1 (vJ hs c h3)).imp λσ H Q aI=>?_;obtain⟨ρ,env,h,hE,r,p⟩:=aI;simp only[aD]at p;refine⟨ρ,env,h,hE,r,av p λv h1 ρ1 x H1 g1 r1 q1 p1=>⟨ρ1,env,h1,hE.up g1,r1,bw (m:=QS Φ sx env) p1 λlo' h2 ρ2 H2 g2 r2 p3=>?_⟩⟩;obtain⟨e1,p4⟩:=aK p3;obtain⟨xs,e2,p5⟩:=aF p4;obtain⟨ad,ys,rfl,k1,k2⟩:=dS r2 (VR.up g2 _ _ q1) e2;exact⟨aax e1,ad,ys,rfl,k1,λq hq=>cu r2 hq (az.rev k2) p5⟩
 exact⟨q,cC q λ_=>rfl⟩
theorem jJ:∀{eZ:mP} {ls:List Expr} {vs:List Val} {h h':Hs},aR Γ eZ ls=true->aU Φ eZ env h=.ok vs h'->vs.length=ls.length:=by
 intro eZ
 induction eZ using mP.rec (motive_1:=λ_=>True) with
 |nil=>
  intro ls ds h h' a b;rw[aR]at a;simp only[aU,ret]at b;cases b;cases ls with
  |nil=>rfl
  |cons _ _=>cases a
 |cons e es _ ih=>
  intro ls ds h h' a b;rw[aR.eq_def]at a;dsimp only at a;cases ls with
  |nil=>cases a
  |cons l ls=>
   simp only[and_eq_true]at a;simp only[aU,bnd]at b;cases e1:aD Φ e env h with
   |ok v h1=>
    rw[e1]at b;dsimp only at b;cases e2:aU Φ es env h1 with
    |ok vs h2=>rw[e2]at b;cases b;simp[ih a.2 e2]
    |exc _ _ _=>rw[e2]at b;cases b
    |no=>rw[e2]at b;cases b
   |exc _ _ _=>rw[e1]at b;cases b
   |no=>rw[e1]at b;cases b
 |_=>trivial
theorem dZ{α β:Type}{W:β -> Hs->List Addr->Hp->Prop}{W':α -> Hs->List Addr->Hp->Prop}{m:M α}{f:α -> M β}(p:Post B EX ρ H W (bnd m f h))(k:∀v h1 ρ1 H1,m h=.ok v h1->Gr ρ H ρ1 H1->HR B ρ1 h1 H1->Post B EX ρ1 H1 W (f v h1)->W' v h1 ρ1 H1):Post B EX ρ H W' (m h):=by
 unfold bnd at p;cases e:m h with
 |ok v h1=>rw[e]at p;exact λρ1 H1 g r=>k v h1 ρ1 H1 e g r (Post.up g p)
 |exc c vs h1=>rw[e]at p;exact p
 |no=>rw[e]at p;exact p
theorem dU{α:Type}{h:Hs}{W:α -> Hs->List Addr->Hp->Prop}{o:Out α}(n:∀c xs H,¬ EX c xs H)(p:Post B EX ρ H W o):Post B (λ_ _ _=>False) ρ H W o:=by
 cases o with
 |ok a h'=>exact p
 |exc c vs h'=>exact λρ' H' xs g r q=>n _ _ _ (p ρ' H' xs g r q)
 |no=>exact p
theorem Bt{n c:Nat}{φ0:List Val->M Val}(r:HR B ρ h H)(hv:az B.K ρ H vs xs)(hl:vs.length=n)(p:Post B (λ_ _ _=>False) ρ H (WV B.K Q) (Dz c φ0 vs h))
  (nx:H x=none) (nd:H dx=none) (ne:dx≠x):vI B (n+1) φ0 (.ref x::xs) (upd (upd H dx (.own x)) x (.ins (B.cl c) dx [])) (λv H2=>v=.non/\Q (.ref x) H2) E:=by
 have r1:HR B ρ h (upd H dx (.own x)):=r.side nd;have XX:(upd H dx (.own x)) x=none:=by rw[au λz=>ne z.symm];exact nx
 have g:Gr ρ H (ρ ++ [x]) (upd (upd H dx (.own x)) x (.ins (B.cl c) dx [])):=(Gr.side nd).trans (Gr.new XX);have r2:HR B (ρ ++ [x]) (h++[.ins c []]) (upd (upd H dx (.own x)) x (.ins (B.cl c) dx [])):=r1.new XX ⟨dx,[],aP,rfl⟩;have hx:(ρ ++ [x])[h.length]?=some x:=by rw[<-r.len];simp
 refine⟨ρ ++ [x],h++[.ins c []],.ref h.length::vs,by simp[hl],r2,az.cons (VR.ref hx) (az.up g _ _ hv),?_⟩;have p2:Post B (λ_ _ _=>False) (ρ ++ [x]) (upd (upd H dx (.own x)) x (.ins (B.cl c) dx [])) (WV B.K Q) (bnd (φ0 (.ref h.length::vs)) (λr=>match r with|.non=>ret (.ref h.length)|_=>bD none) (h++[.ins c []])):=Post.up g p;refine bw p2 λv h1 ρ1 H1 g1 r3 p3 y hy=>?_;cases v<;>first|exact p3.elim|skip
 rw[VR]at hy;exact⟨hy,aj r3 p3 _ (VR.ref (qg g1.pre hx))⟩
theorem J0{j:Nat}{k:Nat}(hs:kY Φ es)(c:Ctx Φ Γ k X cl EX)
  (h:(z8 Γ.sc x && Γ.fns[j]?==some (x,args.length)&&decide (args.length<1000)&&aR Γ es args)=true):PE X (.Call (.Name x p) args [] pos) (tV Φ (bd X cl) EX (.call j es))/\PT X (.Call (.Name x p) args [] pos) (tT Φ (bd X cl) EX (.call j es)):=by
 simp only[and_eq_true,beq_iff_eq,decide_eq_true_eq]at h;obtain⟨⟨⟨h1,h2⟩,h3⟩,h4⟩:=h;obtain⟨g1,g2,g3⟩:=c.gl h1;have room:dw k X.A:=c.room.mono (le_succ k);have q:PE X (.Call (.Name x p) args [] pos) (tV Φ (bd X cl) EX (.call j es)):=by
  rcases c.fns j x _ h2 with ⟨_,⟨f,fd,ps,f1,f2,f3,f4,f5⟩|⟨cc,f,fd,ps,φ0,f0,f1,f2,f3,f4,f5⟩⟩|⟨z,_⟩
  ·cases args with
   |nil=>
    cases es with
    |cons i eZ=>rw[aR.eq_def]at h4;cases h4
    |nil=>refine(DW f5 room g1 f2 f3 f4 .nil qJ g2).imp λσ H Q aI=>?_;obtain⟨ρ,env,h,hE,r,p⟩:=aI;simp only[aD,aU,cQ]at p;exact⟨ρ,h,[],rfl,r,az.nil,dU (h:=h) c.mH p⟩
   |cons l ls=>
    cases es with
    |nil=>rw[aR]at h4;cases h4
    |cons i eZ=>have h5:=h4;rw[aR.eq_def]at h5;dsimp only at h5;simp only[and_eq_true]at h5;refine(Jj f5 room g1 f2 f3 f4 .nil qJ (hs.1 Γ k X cl EX _ c h4) g2 (bz h5.1.1) (gy h5.2)).imp λσ H Q aI=>?_;obtain⟨ρ,env,h,hE,r,p⟩:=aI;simp only[aD]at p;refine⟨ρ,env,h,hE,r,dZ p λvs h1 ρ1 H1 e1 g1 r1 p1 xs q1=>⟨ρ1,h1,vs,jJ h4 e1,r1,by rw[append_nil];exact q1,dU (h:=h1) c.mH p1⟩⟩
  ·cases args with
   |nil=>
    cases es with
    |cons i eZ=>rw[aR.eq_def]at h4;cases h4
    |nil=>refine(DX f3 f5 c.room g1 f2 f4 .nil qJ g2).imp λσ H Q aI=>?_;obtain⟨ρ,env,h,hE,r,p⟩:=aI;simp only[aD,aU,cQ]at p;intro y dy ny WA WB;rw[f0]at p;exact Bt (B:=bd X cl) r az.nil rfl (dU (h:=h) c.mH p) ny WA WB
   |cons l ls=>
    cases es with
    |nil=>rw[aR]at h4;cases h4
    |cons i eZ=>have h5:=h4;rw[aR.eq_def]at h5;dsimp only at h5;simp only[and_eq_true]at h5;refine(Jk f3 f5 c.room g1 f2 f4 .nil qJ (hs.1 Γ k X cl EX _ c h4) g2 (bz h5.1.1) (gy h5.2)).imp λσ H Q aI=>?_;obtain⟨ρ,env,h,hE,r,p⟩:=aI;simp only[aD]at p;refine⟨ρ,env,h,hE,r,dZ p λvs h1 ρ1 H1 e1 g1 r1 p1 xs q1 y dy ny WA WB=>?_⟩;rw[f0]at p1;rw[append_nil];exact Bt (B:=bd X cl) r1 q1 (jJ h4 e1) (dU (h:=h1) c.mH p1) ny WA WB
  ·omega
 exact⟨q,cC q λ_=>rfl⟩
theorem J1{j:Nat}{k:Nat}(hs:kY Φ es)(c:Ctx Φ Γ k X cl EX)
  (h:(z8 Γ.sc x && Γ.tb.Iw.contains (x,m,j)&&(match Γ.fns[j]? with|some (_,n)=>n==1000+args.length|none=>false)&&decide (args.length<29)&&ap.endLine==cp.line&&aR Γ es args && !args.isEmpty)=true) :
  PE X (.Call (.Attribute (.Name x p) m ap) args [] cp) (tV Φ (bd X cl) EX (.call j es))/\PT X (.Call (.Attribute (.Name x p) m ap) args [] cp) (tT Φ (bd X cl) EX (.call j es)):=by
 simp only[and_eq_true,beq_iff_eq,decide_eq_true_eq,contains_iff_mem]at h;obtain⟨⟨⟨⟨⟨⟨h1,h2⟩,h3⟩,h4⟩,h5⟩,h6⟩,h7⟩:=h;obtain⟨g1,g2,g3⟩:=c.gl h1;obtain⟨C,hm,cm⟩:=c.Iw _ h2;have hf:∃xx,Γ.fns[j]?=some (xx,1000+args.length):=by
  cases ef:Γ.fns[j]? with
  |none=>rw[ef]at h3;cases h3
  |some q=>rw[ef]at h3;obtain⟨q1,q2⟩:=q;exact⟨q1,by rw[show q2=_ from eq_of_beq h3]⟩
 obtain⟨xx,hf⟩:=hf;have room:dw k X.A:=c.room.mono (le_succ k)
 rcases c.fns j xx _ hf with ⟨z,_⟩|⟨_,fd,ps,f1,f4,f5⟩
 ·omega
 rw[show 1000+args.length-1000=args.length by omega]at f5;have few:((backTo cp (starEach args X.env)).all (λx=>!x.1)&&(backToKw cp (keywordEach [] X.env)).all (λx=>x.1.isSome)
   && decide (args.length+([]:List Keyword).length+(if ([]:List Keyword).isEmpty then 0 else 1)<30))=true:=by
  rw[rE h6];simp only[Bool.true_and,and_eq_true];exact⟨rfl,decide_eq_true (by simp;omega)⟩
 have hl:(ap.endLine==cp.line)=true:=by rw[h5];exact beq_self_eq_true _
 have q:PE X (.Call (.Attribute (.Name x p) m ap) args [] cp) (tV Φ (bd X cl) EX (.call j es)):=by
  cases args with
  |nil=>exact absurd h7 (by simp)
  |cons l ls=>
   cases es with
   |nil=>rw[aR]at h6;cases h6
   |cons i eZ=>have h8:=h6;rw[aR.eq_def]at h8;dsimp only at h8;simp only[and_eq_true]at h8;refine(Nu (k:=k) f5 room g1 hm cm f4 (hs.1 Γ k X cl EX _ c h6) g2 few hl (bz h8.1.1) (gy h8.2)).imp λσ H Q aI=>?_;obtain⟨ρ,env,h,hE,r,p⟩:=aI;simp only[aD]at p;refine⟨ρ,env,h,hE,r,dZ p λvs h1 ρ1 H1 e1 g1 r1 p1 xs q1=>⟨ρ1,h1,vs,jJ h6 e1,r1,q1,dU (h:=h1) c.mH p1⟩⟩
 exact⟨q,cC q λ_=>rfl⟩
theorem J2{j:Nat}(hs:kY Φ es):cg Φ (.call j es):=by
 intro Γ k X cl EX e c h
 rcases XT h with h|h
 ·apply nC h;intro x _ args _ h;exact J0 hs c h
 ·apply Bo h;intro q1 m ap args cp h;apply dR h;intro x _ h;exact J1 hs c h
theorem Ov{n:Nat}(ha:cg Φ a):cg Φ (.fld n a x):=by
 intro Γ k X cl EX e c h;apply vG h;intro o y pos h;simp only[and_eq_true,beq_iff_eq,contains_iff_mem]at h;obtain⟨⟨⟨⟨h1,h2⟩,h3⟩,h4⟩,h5⟩:=h;subst h1;have q:PE X (.Attribute o x pos) (tV Φ (bd X cl) EX (.fld n a x)):=by
  refine(pe_fld (ha Γ k X cl EX o c h5).1 (super_ok h2)).imp λσ H Q aI=>?_;obtain⟨ρ,env,h,hE,r,p⟩:=aI;simp only[aD]at p;refine⟨ρ,env,h,hE,r,av p λv h1 ρ1 y H1 g1 r1 q1 p1=>?_⟩;obtain⟨z,e1,w⟩:=cW r1 p1;cases v<;>first|(cases e1;done)|(rw[VR]at q1;exact q1.elim)|skip
  rename_i i;rw[VR]at q1;obtain⟨ad,rfl,q1⟩:=q1;have hx:∃c0 fs,h1[i]?=some (.ins c0 fs)/\c0<n/\fs.lookup x=some z:=by
   change (match h1[i]? with|some (.ins c fs)=>if c<n then fs.lookup x else none|_=>none)=some z at e1;split at e1
   ·rename_i c0 fs e2
    split at e1
    ·rename_i hc;exact⟨c0,fs,e2,hc,e1⟩
    ·cases e1
   ·cases e1
  obtain⟨c0,fs,e2,hc,e3⟩:=hx;obtain⟨dx,gs,k1,k2⟩:=r1.ob i _ ad e2 q1;obtain⟨y,l1,l2⟩:=k2.look.2 z e3;obtain⟨cc,nn⟩:=c.cls c0 (by omega);exact⟨ad,cl c0,dx,gs,y,rfl,k1,cc,nn x h4,l1,w y l2⟩
 exact⟨q,cC q λ_=>rfl⟩
theorem x9:∀{js:List (Nat×Nat)} {c j:Nat},js.lookup c=some j->(c,j)∈js
 | (a,b)::r,c,j,e=>by
  rw[aaR]at e;cases hb:c==a with
  |true=>rw[hb]at e;cases e;rw[eq_of_beq hb];exact aan
  |false=>rw[hb]at e;exact aam _ (x9 e)
theorem Ow(ha:cg Φ a)(hs:kY Φ es):cg Φ (.mth a m js es):=by
 intro Γ k X cl EX e c h;apply Bo h;intro o x ap args cp h;simp only[and_eq_true,beq_iff_eq,all_eq_true,decide_eq_true_eq,contains_iff_mem]at h;obtain⟨⟨⟨⟨⟨⟨h1,h2⟩,h3⟩,h4⟩,h5⟩,h6⟩,h7⟩:=h;subst h1;have few:((backTo cp (starEach args X.env)).all (λx=>!x.1)&&(backToKw cp (keywordEach [] X.env)).all (λx=>x.1.isSome)
   && decide (args.length+([]:List Keyword).length+(if ([]:List Keyword).isEmpty then 0 else 1)<30))=true:=by
  rw[rE h7];simp only[Bool.true_and,and_eq_true];exact⟨rfl,decide_eq_true (by simp;omega)⟩
 have hl:(ap.endLine==cp.line)=true:=by rw[h4];exact beq_self_eq_true _
 have room:dw k X.A:=c.room.mono (le_succ k);have main:∀(σ:L2.St) (H:Hp) (Q:VK) (v:Val) (h1:Hs) (ρ1:List Addr) (y:V) (H1:Hp) (F:Nat->M Val),HR (bd X cl) ρ1 h1 H1->VR X.K ρ1 H1 v y->Post (bd X cl) EX ρ1 H1 (WV X.K Q) (bnd (ask λh=>lY h v x js) F h1) ->
   ∃j i ad c0 dx gs fd ps,v=.ref i/\y=.ref ad/\H1 ad=some (.ins (cl c0) dx gs)/\Dy X.K (cl c0)/\Meth X.K (cl c0) x (cl (1000+j))/\gs.lookup x=none/\Binds X.K fd ps [] /\
    fW X.prog X.w X.K X.mg X.base zd k (cl (1000+j)) fd ps (vI (bd X cl) (1+args.length) (Φ j))/\Post (bd X cl) EX ρ1 H1 (WV X.K Q) (F j h1):=by
  intro σ H Q v h1 ρ1 y H1 F r1 q1 p1;obtain⟨j,e1,p2⟩:=aF p1;cases v<;>first|(cases e1;done)|(rw[VR]at q1;exact q1.elim)|skip
  rename_i i;rw[VR]at q1;obtain⟨ad,rfl,q1⟩:=q1;have hx:∃c0 fs,h1[i]?=some (.ins c0 fs)/\fs.lookup x=none/\js.lookup c0=some j:=by
   change (match h1[i]? with|some (.ins c fs)=>if (fs.lookup x).isNone=true then js.lookup c else none|_=>none)=some j at e1;split at e1
   ·rename_i c0 fs e2
    split at e1
    ·rename_i hc;exact⟨c0,fs,e2,by simpa using hc,e1⟩
    ·cases e1
   ·cases e1
  obtain⟨c0,fs,e2,hn,e3⟩:=hx;obtain⟨dx,gs,k1,k2⟩:=r1.ob i _ ad e2 q1;obtain⟨⟨m1,m2⟩,m3⟩:=h5 _ (x9 e3);dsimp only at m1 m2 m3;have cc:=(c.cls c0 m1).1;have mm:=c.JW _ m2;dsimp only at mm;have hf:∃xx,Γ.fns[j]?=some (xx,1001+args.length):=by
   cases ef:Γ.fns[j]? with
   |none=>rw[ef]at m3;cases m3
   |some q=>rw[ef]at m3;obtain⟨q1,q2⟩:=q;exact⟨q1,by rw[show q2=_ from eq_of_beq m3]⟩
  obtain⟨xx,hf⟩:=hf
  rcases c.fns j xx _ hf with ⟨z,_⟩|⟨_,fd,ps,f1,f4,f5⟩
  ·omega
  ·rw[show 1001+args.length-1000=1+args.length by omega]at f5;exact⟨j,i,ad,c0,dx,gs,fd,ps,rfl,rfl,k1,cc,mm,k2.look.1 hn,f4,f5,p2⟩
 have q:PE X (.Call (.Attribute o x ap) args [] cp) (tV Φ (bd X cl) EX (.mth a x js es)):=by
  cases args with
  |nil=>
   cases es with
   |cons i eZ=>rw[aR.eq_def]at h7;cases h7
   |nil=>refine(pe_mth0 (k:=k) (ha Γ k X cl EX o c h6).1 (super_ok h2) hl room).imp λσ H Q aI=>?_;obtain⟨ρ,env,h,hE,r,p⟩:=aI;simp only[aD,aU,cQ]at p;refine⟨ρ,env,h,hE,r,av p λv h1 ρ1 y H1 g1 r1 q1 p1=>?_⟩;obtain⟨j,i,ad,c0,dx,gs,fd,ps,rfl,rfl,k1,cc,mm,k2,f4,f5,p2⟩:=main σ H Q v h1 ρ1 y H1 _ r1 q1 p1;exact⟨ad,cl c0,dx,gs,cl (1000+j),fd,ps,_,rfl,k1,cc,mm,k2,f4,f5,ρ1,h1,[.ref i],rfl,r1,az.cons q1 az.nil,dU (h:=h1) c.mH p2⟩
  |cons l ls=>
   cases es with
   |nil=>rw[aR]at h7;cases h7
   |cons i eZ=>have h8:=h7;rw[aR.eq_def]at h8;dsimp only at h8;simp only[and_eq_true]at h8;refine(pe_mthD (k:=k) (ha Γ k X cl EX o c h6).1 (hs.1 Γ k X cl EX _ c h7) (super_ok h2) few hl room (bz h8.1.1) (gy h8.2)).imp λσ H Q aI=>?_;obtain⟨ρ,env,h,hE,r,p⟩:=aI;simp only[aD]at p;refine⟨ρ,env,h,hE,r,av p λv h1 ρ1 y H1 g1 r1 q1 p1=>?_⟩;obtain⟨j,i,ad,c0,dx,gs,fd,ps,rfl,rfl,k1,cc,mm,k2,f4,f5,p2⟩:=main σ H Q v h1 ρ1 y H1 _ r1 q1 p1;refine⟨ad,cl c0,dx,gs,cl (1000+j),fd,ps,_,rfl,k1,cc,mm,k2,f4,f5,ρ1,env,h1,hE.up g1,r1,dZ p2 λvs h2 ρ2 H2 e4 g2 r2 p3 xs q2=>?_⟩;refine⟨ρ2,h2,.ref i::vs,?_,r2,az.cons (VR.up g2 _ _ q1) q2,dU (h:=h2) c.mH p3⟩;rw[aaz,jJ h7 e4];omega
 exact⟨q,cC q λ_=>rfl⟩
end
section
variable {Φ:Fn} {Γ:qi} {k:Nat} {X:Cx} {cl:Nat->Addr} {EX:Nat->List V->Hp->Prop}
theorem Ox:bootBuiltins "all" = some (.builtin "all"):=by decide +kernel
theorem Oz:bootBuiltins "any" = some (.builtin "any"):=by decide +kernel
theorem oJ:bootBuiltins "sorted" = some (.builtin "sorted"):=by decide +kernel
theorem OA:bootBuiltins "min" = some (.builtin "min"):=by decide +kernel
theorem OC:bootBuiltins "max" = some (.builtin "max"):=by decide +kernel
theorem vK:bootBuiltins "list" = some (.type "list"):=by decide +kernel
theorem ya:bootBuiltins "tuple" = some (.type "tuple"):=by decide +kernel
theorem E5:bootBuiltins "str" = some (.type "str"):=by decide +kernel
theorem E6:bootBuiltins "int" = some (.type "int"):=by decide +kernel
theorem J3:bootBuiltins "bool" = some (.type "bool"):=by decide +kernel
theorem J4:bootBuiltins "dict" = some (.type "dict"):=by decide +kernel
theorem J5:bootBuiltins "isinstance" = some (.builtin "isinstance"):=by decide +kernel
theorem yb:aU Φ #[e] env=bnd (aD Φ e env) λd=>ret [d]:=by
 simp only[aU,cQ]
theorem six{T:String}(h:["list","tuple","str","bool","int","dict"].contains T=true):T = "list" \/ T = "tuple" \/ T = "str" \/ T = "bool" \/ T = "int" \/ T = "dict":=by simpa using h
theorem J6{T:String}(h:["list","tuple","str","bool","int","dict"].contains T=true):(T:Str)∈bltNames/\bootBuiltins (T:Str)=some (.type T)/\(T:Str) ≠ "__name__" /\ ((T:Str)==("__debug__":Str))=false:=by
 rcases six h with rfl|rfl|rfl|rfl|rfl|rfl
 ·exact⟨by decide,vK,by decide,by decide⟩
 ·exact⟨by decide,ya,by decide,by decide⟩
 ·exact⟨by decide,E5,by decide,by decide⟩
 ·exact⟨by decide,J3,by decide,by decide⟩
 ·exact⟨by decide,E6,by decide,by decide⟩
 ·exact⟨by decide,J4,by decide,by decide⟩
theorem J7{T:String}(hs:kY Φ es):cg Φ (.blt (.isin T) es):=by
 intro Γ k X cl EX e c h;apply nC h;intro x p args pos h;simp only[and_eq_true,beq_iff_eq]at h;obtain⟨⟨h1,h2⟩,h3⟩:=h;subst h2;obtain⟨g1,g2,g3⟩:=c.gl h1;split at h3<;>first|cases h3|skip
 rename_i a y yp;simp only[and_eq_true,beq_iff_eq]at h3;obtain⟨⟨⟨k1,k2⟩,k3⟩,k4⟩:=h3;obtain⟨b1,b2,b3,b4⟩:=J6 k3;obtain⟨y1,y2,y3⟩:=c.gl k1;subst k2;cases es with
 |nil=>rw[aR]at k4;cases k4
 |cons i eZ=>
  rw[aR.eq_def]at k4;dsimp only at k4;simp only[and_eq_true]at k4;cases eZ with
  |cons j eZ=>have:=k4.2;rw[aR.eq_def]at this;cases this
  |nil=>
   have q:PE X (.Call (.Name (SA (.isin T)) p) [a,.Name (T:Str) yp] [] pos) (tV Φ (bd X cl) EX (.blt (.isin T) #[i])):=by refine(iz (JQ (cl:=cl) (EX:=EX) (T:=T)) g1 (c.blt _ (show ("isinstance":Str)∈bltNames by decide)) J5 (vd (hs.2.1 Γ k X cl EX a c k4.1.2).1 (vd (IP (v:=.ty T) y1 (c.blt _ b1) b2 rfl b3 b4) DV) (bz k4.1.1)) g3 g2 (bz k4.1.1)).imp λσ H Q aI=>?_;obtain⟨ρ,env,h,hE,r,p⟩:=aI;simp only[aD,yb,bx,cQ]at p;exact⟨ρ,env,h,hE,r,av p λv h1 ρ1 x H1 g1 r1 q1 p1=>⟨ρ1,h1,v,x,rfl,r1,q1,p1⟩⟩
   exact⟨q,cC q λ_=>rfl⟩
theorem OE:bootBuiltins "set" = some (.type "set"):=by decide +kernel
theorem J8(ha:cg Φ a):cg Φ (.sset a):=by
 intro Γ k X cl EX e c h;apply nC h;intro x p1 q1 pos1 h;apply kJ h;intro q2 h;apply nC h;intro y p2 q3 pos2 h;apply kJ h;intro l h;simp only[and_eq_true,beq_iff_eq]at h;obtain⟨⟨⟨⟨⟨h1,h2⟩,h3⟩,h4⟩,h5⟩,h6⟩:=h;subst h1;subst h2;have q:PE X (.Call (.Name "sorted" p1) [.Call (.Name "set" p2) [l] [] pos2] [] pos1) (tV Φ (bd X cl) EX (.sset a)):=by have qe:=(ha Γ k X cl EX l c h6).1;intro pins s σ H Q I hh;have hd:X.A.handled=none:=I.ok.hd c.calm;refine((JG hd (c.gl h3).1 (c.blt _ (by decide)) (c.gl h4).1 (c.blt _ (by decide)) oJ OE qe (bz (env:=X.env) (es:=[]) h5)).imp λσ H Q ⟨ρ,env,h,hE,r,p⟩=>?_) pins s σ H Q I hh;simp only[aD]at p;refine⟨ρ,env,h,hE,r,av p λv h1 ρ1 x H1 g1 r1 q1 p1=>?_⟩;obtain⟨zs,e,p1⟩:=aF p1;obtain⟨ns,e1,p1⟩:=bJ p1;obtain⟨e2,p1⟩:=aK p1;obtain⟨b,ys,rfl,q2,q3⟩:=dS r1 q1 e;rw[f6 e1]at q3;rw[az.ints.mp q3]at q2;exact⟨b,ns,rfl,q2,aax e2,λl hl=>cu r1 hl (az.ints.mpr rfl) p1⟩
 exact⟨q,cC q λ_=>rfl⟩
theorem J9{d k x:IE}(hd:cg Φ d)(hk:cg Φ k)(hx:cg Φ x):cg Φ (.dget d k x):=by
 intro Γ n X cl EX e c h;apply Bo h;intro o m ap q1 cp h;apply Wz h;intro a b h;simp only[and_eq_true,beq_iff_eq]at h;obtain⟨⟨⟨⟨⟨⟨⟨h1,h2⟩,h3⟩,h4⟩,h5⟩,h6⟩,h7⟩,h8⟩:=h;subst h1;have st:starEach [a,b] X.env=[(false,eval a X.env),(false,eval b X.env)]:=by rw[bz h3,bz h4];rfl
 have m2:M2 X o "get" ap a b cp:=⟨super_ok h2,by rw[st];rfl,by rw[h5];exact beq_self_eq_true _,by rw[st];rfl⟩;have q:PE X (.Call (.Attribute o "get" ap) [a,b] [] cp) (tV Φ (bd X cl) EX (.dget d k x)):=by
  refine(D9 (by have:=c.units;omega) (hd Γ n X cl EX o c h6).1 (hk Γ n X cl EX a c h7).1 (hx Γ n X cl EX b c h8).1 m2).imp λσ H Q aI=>?_;obtain⟨ρ,env,h,hE,r,p⟩:=aI;simp only[aD]at p;refine⟨ρ,env,h,hE,r,av p λv h1 ρ1 y H1 g1 r1 q1 p1=>?_⟩;obtain⟨u0,e1,pA⟩:=aF p1;clear p1;cases v<;>first|(cases e1;done)|(rw[VR]at q1;exact q1.elim)|skip
  rename_i i;rw[VR]at q1;obtain⟨ad,rfl,q1⟩:=q1;have hdc:∃kvs,h1[i]?=some (.dct kvs):=by
   change (match h1[i]? with|some (.dct _)=>some ()|_=>none)=some _ at e1;split at e1
   ·rename_i kvs e2;exact⟨kvs,e2⟩
   ·cases e1
  obtain⟨kvs,e2⟩:=hdc;obtain⟨ks,k1,k2⟩:=r1.ob i _ ad e2 q1;refine⟨ad,rfl,.inl ⟨ks,.inl k1⟩,ρ1,env,h1,hE.up g1,r1,av pA λw h2 ρ2 y2 H2 g2 r2 q2 p2=>?_⟩;obtain⟨kk,e3,p2⟩:=bJ p2;refine⟨ρ2,env,h2,(hE.up g1).up g2,r2,av p2 λz h3 ρ3 y3 H3 g3 r3 q3 p3=>?_⟩;obtain⟨rr,e4,p3⟩:=aF p3;have q4:ρ3[i]?=some ad:=qg (g2.trans g3).pre q1;have ZN:∃kvs,h3[i]?=some (.dct kvs)/\rr=cL kvs kk:=by
   change (match h3[i]? with|some (.dct kvs)=>some (cL kvs kk)|_=>none)=some rr at e4;split at e4
   ·rename_i kvs e2;cases e4;exact⟨kvs,e2,rfl⟩
   ·cases e4
  obtain⟨WC,e5,rfl⟩:=ZN;obtain⟨ZO,k3,k4⟩:=r3.ob i _ ad e5 q4;have ek:y2=kV kk:=by
   cases w<;>first|(cases e3;done)|skip
   ·cases e3;rw[VR]at q2;exact q2
   ·cases e3;rw[VR]at q2;exact q2
  refine⟨jG ZO kk,by rw[ek];exact pU.k k3,?_⟩;cases ev:cL WC kk with
  |none=>rw[ev]at p3;rw[(iw.val kk k4).1 ev];exact aj r3 p3 _ q3
  |some z'=>obtain⟨t,e6,q6⟩:=(iw.val kk k4).2 z' ev;rw[ev]at p3;rw[e6];exact aj r3 p3 _ q6
 exact⟨q,cC q λ_=>rfl⟩
theorem Bu{K:Frag}{ρ:List Addr}{H:Hp}:∀{kvs:List (Key×Val)} {ks:List (Key×V)},iw K ρ H kvs ks->az K ρ H ((kvs.map (·.1)).map CO) (ks.map λkv=>kV kv.1)
 |[],ks,q=>by rw[iw]at q;subst q;exact rfl
 | (k,v)::kvs,ks,q=>by
  rw[iw]at q;obtain⟨x,r,rfl,_,q⟩:=q;refine⟨kV k,_,rfl,?_,Bu q⟩;cases k with
  |inl i=>exact VR.int
  |inr s=>exact VR.str
theorem CY{mJ:Unit}:∀(σ:L2.St) (H:Hp) (Q:VK),tV Φ (bd X cl) EX (.lkeys d) σ H Q->XM (tV Φ (bd X cl) EX d) σ H Q:=λσ H Q ⟨ρ,env,h,hE,r,p⟩=>by
 simp only[aD]at p;refine⟨ρ,env,h,hE,r,av p λv h1 ρ1 y H1 g1 r1 q1 p1=>?_⟩;obtain⟨WD,e1,pA⟩:=aF p1;clear p1;cases v<;>first|(cases e1;done)|(rw[VR]at q1;exact q1.elim)|skip
 rename_i i;rw[VR]at q1;obtain⟨ad,rfl,q1⟩:=q1;have hdc:∃kvs,h1[i]?=some (.dct kvs)/\WD=kvs.map (·.1):=by
  change (match h1[i]? with|some (.dct kvs)=>some (kvs.map (·.1))|_=>none)=some _ at e1;split at e1
  ·rename_i kvs e2;cases e1;exact⟨kvs,e2,rfl⟩
  ·cases e1
 obtain⟨kvs,e2,rfl⟩:=hdc;obtain⟨ks,k1,k2⟩:=r1.ob i _ ad e2 q1;exact⟨ad,ks,rfl,k1,λl hl=>cu r1 hl (Bu k2) pA⟩
theorem E7(hd:cg Φ d):cg Φ (.lkeys d):=by
 intro Γ n X cl EX e c h
 ·apply nC h;intro x p q1 pos h
  apply kJ h;intro q2 h;apply dR h;intro y qp h;simp only[and_eq_true,beq_iff_eq]at h;obtain⟨⟨h1,h3⟩,h6⟩:=h;subst h1;have q:PE X (.Call (.Name "list" p) [.Name y qp] [] pos) (tV Φ (bd X cl) EX (.lkeys d)):=by have qe:=(hd Γ n X cl EX _ c h6).1;intro pins s σ H Q I hh;have hdl:X.A.handled=none:=I.ok.hd c.calm;exact((CK hdl (bz rfl) (c.gl h3).1 (c.blt _ (by decide)) vK qe).imp (CY (mJ:=()))) pins s σ H Q I hh
  exact⟨q,cC q λ_=>rfl⟩
theorem Ka{d k x:IE}(hd:cg Φ d)(hk:cg Φ k)(hx:cg Φ x):cg Φ (.sdef d k x):=rF λ_ _=>rfl
theorem vL{K:Frag}{ρ:List Addr}{H:Hp}:∀{kvs:List (Key×Val)} {ks:List (Key×V)},iw K ρ H kvs ks->ks.map (·.1)=kvs.map (·.1)
 |[],ks,q=>by rw[iw]at q;subst q;rfl
 | (k,v)::kvs,ks,q=>by
  rw[iw]at q;obtain⟨x,r,rfl,_,q⟩:=q;rw[aap,aap,vL q]
theorem vM:∀{ks:List Key} {ns:List Int},qW ks=some ns->ks=ns.map Sum.inl
 |[],ns,e=>by cases e;rfl
 | k::ks,ns,e=>by
  unfold qW at e;rw[bS]at e;obtain⟨i,e1,e⟩:=aab.mp e;obtain⟨r,e2,e⟩:=aab.mp e;cases e;cases k with
  |inl j=>cases e1;rw[vM e2];rfl
  |inr _=>cases e1
theorem CZ{mJ:Unit}:∀(σ:L2.St) (H:Hp) (Q:VK),tV Φ (bd X cl) EX (.skeys d) σ H Q->XO (tV Φ (bd X cl) EX d) σ H Q:=λσ H Q ⟨ρ,env,h,hE,r,p⟩=>by
 simp only[aD]at p;refine⟨ρ,env,h,hE,r,av p λv h1 ρ1 y H1 g1 r1 q1 p1=>?_⟩;obtain⟨ns0,e1,pA⟩:=aF p1;clear p1;unfold mQ at e1;obtain⟨WD,e5,e6⟩:=aab.mp e1;clear e1;obtain⟨ns,e3,e4⟩:=aab.mp e6;clear e6;have e1:=e5;clear e5;cases v<;>first|(cases e1;done)|(rw[VR]at q1;exact q1.elim)|skip
 rename_i i;rw[VR]at q1;obtain⟨ad,rfl,q1⟩:=q1;have hdc:∃kvs,h1[i]?=some (.dct kvs)/\WD=kvs.map (·.1):=by
  change (match h1[i]? with|some (.dct kvs)=>some (kvs.map (·.1))|_=>none)=some _ at e1;split at e1
  ·rename_i kvs e2;cases e1;exact⟨kvs,e2,rfl⟩
  ·cases e1
 obtain⟨kvs,e2,rfl⟩:=hdc;obtain⟨ks,k1,k2⟩:=r1.ob i _ ad e2 q1
 by_cases hl:ns.length<64
 ·rw[aai hl]at e4;cases e4;exact⟨ad,ks,ns,rfl,k1,(vL k2).trans (vM e3),hl,λl hl=>cu r1 hl (az.ints.mpr rfl) pA⟩
 ·rw[aal hl]at e4;cases e4
theorem E8(hd:cg Φ d):cg Φ (.skeys d):=by
 intro Γ n X cl EX e c h
 ·apply nC h;intro x p q1 pos h
  apply kJ h;intro q2 h;apply dR h;intro y qp h;simp only[and_eq_true,beq_iff_eq]at h;obtain⟨⟨h1,h3⟩,h6⟩:=h;subst h1;have q:PE X (.Call (.Name "sorted" p) [.Name y qp] [] pos) (tV Φ (bd X cl) EX (.skeys d)):=by have qe:=(hd Γ n X cl EX _ c h6).1;intro pins s σ H Q I hh;have hdl:X.A.handled=none:=I.ok.hd c.calm;exact((CL hdl (bz rfl) (c.gl h3).1 (c.blt _ (by decide)) oJ qe).imp (CZ (mJ:=()))) pins s σ H Q I hh
  exact⟨q,cC q λ_=>rfl⟩
theorem E9(hd:cg Φ d):cg Φ (.svals d):=rF λ_ _=>rfl
theorem OF(hs:kY Φ es):cg Φ (.blt b es):=by
 cases b with
 |isin T=>exact J7 hs
 |_=>
  intro Γ k X cl EX e c h;apply nC h;intro x p args pos h;simp only[and_eq_true,beq_iff_eq]at h;obtain⟨⟨h1,h2⟩,h3⟩:=h;subst h2;obtain⟨g1,g2,g3⟩:=c.gl h1;cases args with
  |nil=>cases h3.1
  |cons l ls=>
   cases es with
   |nil=>have:=h3.2;rw[aR]at this;cases this
   |cons i eZ=>
    have h5:=h3.2;rw[aR.eq_def]at h5;dsimp only at h5;simp only[and_eq_true]at h5;have hA:=hs.1 Γ k X cl EX _ c h3.2;have st:=bz (env:=X.env) (es:=ls) h5.1.1;have an:=gy (pos:=pos) (env:=X.env) h5.2;refine(λq=>⟨q,cC q λ_=>rfl⟩) ?_
    first
     |refine(iz (NI (cl:=cl) (EX:=EX)) g1 (c.blt _ (by decide)) PySem.boot_len hA g3 g2 st an).imp λσ H Q ⟨ρ,env,h,hE,r,p⟩=>?_
     |refine(iz (NJ (cl:=cl) (EX:=EX) c.calm) g1 (c.blt _ (by decide)) OA hA g3 g2 st an).imp λσ H Q ⟨ρ,env,h,hE,r,p⟩=>?_
     |refine(iz (NK (cl:=cl) (EX:=EX) c.calm) g1 (c.blt _ (by decide)) OC hA g3 g2 st an).imp λσ H Q ⟨ρ,env,h,hE,r,p⟩=>?_
     |refine(iz (CS (cl:=cl) (EX:=EX)) g1 (c.blt _ (by decide)) oJ hA g3 g2 st an).imp λσ H Q ⟨ρ,env,h,hE,r,p⟩=>?_
     |refine(iz (NP (cl:=cl) (EX:=EX) c.calm) g1 (c.blt _ (by decide)) Ox hA g3 g2 st an).imp λσ H Q ⟨ρ,env,h,hE,r,p⟩=>?_
     |refine(iz (NR (cl:=cl) (EX:=EX) c.calm) g1 (c.blt _ (by decide)) Oz hA g3 g2 st an).imp λσ H Q ⟨ρ,env,h,hE,r,p⟩=>?_
     |refine(lN (JO (cl:=cl) (EX:=EX)) g1 (c.blt _ (by decide)) vK hA g3 g2 st an).imp λσ H Q ⟨ρ,env,h,hE,r,p⟩=>?_
     |refine(lN (EG (cl:=cl) (EX:=EX)) g1 (c.blt _ (by decide)) ya hA g3 g2 st an).imp λσ H Q ⟨ρ,env,h,hE,r,p⟩=>?_
     |refine(lN (NL (cl:=cl) (EX:=EX)) g1 (c.blt _ (by decide)) E5 hA g3 g2 st an).imp λσ H Q ⟨ρ,env,h,hE,r,p⟩=>?_
     |refine(lN (NO (cl:=cl) (EX:=EX)) g1 (c.blt _ (by decide)) E6 hA g3 g2 st an).imp λσ H Q ⟨ρ,env,h,hE,r,p⟩=>?_
    simp only[aD]at p;exact⟨ρ,env,h,hE,r,bw p λvs h1 ρ1 H1 g1 r1 p1 xs q1=>⟨ρ1,h1,vs,r1,q1,p1⟩⟩
def XY:Me->String
 |.join=>"str" | .append=>"list" | .extend=>"list" | .remove=>"list"
theorem Kc(r:HR B ρ h H)(q:VR B.K ρ H v x)(e:recv h m v=some ()):V7 B.K (XY m) x H:=by
 cases m<;>cases v<;>simp only[recv]at e<;>first|cases e|skip
 ·rw[VR]at q;subst q;rfl
 all_goals
  split at e
  ·rename_i xs e1;obtain⟨a,ys,rfl,q0,q1,q2⟩:=lQ r q e1;exact .inl ⟨rfl,ys,.inl (.inl q1)⟩
  ·cases e
theorem OG(ha:cg Φ a)(hs:kY Φ es):cg Φ (.met m a es):=by
 intro Γ k X cl EX e c h;apply Bo h;intro o x ap args cp h;simp only[and_eq_true,beq_iff_eq]at h;obtain⟨⟨⟨⟨⟨⟨h1,h2⟩,h3⟩,h4⟩,h5⟩,h6⟩,h7⟩:=h;subst h1;cases args with
 |nil=>cases h3
 |cons l ls=>
  have hA:=hs.1 Γ k X cl EX _ c h7;have h8:noStar l=true/\∃eZ,aR Γ eZ ls=true:=by
   cases es with
   |nil=>rw[aR]at h7;cases h7
   |cons i eZ=>rw[aR.eq_def]at h7;dsimp only at h7;simp only[and_eq_true]at h7;exact⟨h7.1.1,eZ,h7.2⟩
  obtain⟨n1,eZ,n2⟩:=h8;have st:=bz (env:=X.env) (es:=ls) n1;have an:=gy (pos:=cp) (env:=X.env) n2;have few:((backTo cp (starEach (l::ls) X.env)).all (λx=>!x.1)&&(backToKw cp (keywordEach [] X.env)).all (λx=>x.1.isSome)
   && decide ((l::ls).length+([]:List Keyword).length+(if ([]:List Keyword).isEmpty then 0 else 1)<30))=true:=by
   rw[rE h7];have:(l::ls).length<29:=aax h4;simp only[Bool.true_and,and_eq_true];exact⟨rfl,decide_eq_true (by simp at this |-;omega)⟩
  have hl:(ap.endLine==cp.line)=true:=by rw[h5];exact beq_self_eq_true _
  refine(λq=>⟨q,cC q λ_=>rfl⟩) ?_;have fin:∀(T:String) (r:V->List V->Hp->VK->Prop),(∀x xs H Q,Sk (bd X cl) EX m x xs H Q->r x xs H Q)->T=XY m->∀σ H Q,tV Φ (bd X cl) EX (.met m a es) σ H Q->Xu X.K T r (tV Φ (bd X cl) EX a) (XW Φ (bd X cl) EX es) σ H Q:=by rintro T rr hr rfl σ H Q ⟨ρ,env,h,hE,r,p⟩;simp only[aD]at p;refine⟨ρ,env,h,hE,r,av p λv h1 ρ1 x H1 g1 r1 q1 p1=>?_⟩;obtain⟨_,e1,p2⟩:=aF p1;refine⟨Kc r1 q1 e1,ρ1,env,h1,hE.up g1,r1,bw p2 λvs h2 ρ2 H2 g2 r2 p3 xs q2=>hr _ _ _ _ ⟨ρ2,h2,v,vs,r2,VR.up g2 _ _ q1,q2,p3⟩⟩
  cases m with
  |join=>exact(AM PySem.F.plainAttrs_str PySem.F.slot_str_join PySem.F.type_str_join (JR (cl:=cl) (EX:=EX)) (ha Γ k X cl EX o c h6).1 hA (super_ok h2) few hl st an).imp (fin _ _ (λ_ _ _ _ z=>z) rfl)
  |append=>exact(AM PySem.F.plainAttrs_list PySem.F.slot_list_append PySem.F.type_list_append (CT (cl:=cl) (EX:=EX)) (ha Γ k X cl EX o c h6).1 hA (super_ok h2) few hl st an).imp (fin _ _ (λ_ _ _ _ z=>z) rfl)
  |extend=>exact(AM PySem.F.plainAttrs_list PySem.F.slot_list_extend PySem.F.type_list_extend (CU (cl:=cl) (EX:=EX)) (ha Γ k X cl EX o c h6).1 hA (super_ok h2) few hl st an).imp (fin _ _ (λ_ _ _ _ z=>z) rfl)
  |remove=>exact(AM PySem.F.plainAttrs_list PySem.F.slot_list_remove PySem.F.type_list_remove (CV (cl:=cl) (EX:=EX)) (ha Γ k X cl EX o c h6).1 hA (super_ok h2) few hl st an).imp (fin _ _ (λ_ _ _ _ z=>z) rfl)
end
theorem _root_.L2.PI.or(h:PI X tg iter t)(h':PI X tg iter t'):PI X tg iter (λσ H R=>t σ H R\/t' σ H R):=λpins s σ H R I hw=>hw.elim (h pins s σ H R I) (h' pins s σ H R I)
structure Walks (B:Bd) (src:Src) (J:It) (ρ1:List Addr) (H1:Hp):Prop where
 stop:∀{ρ h H i xs},Gw ρ1 H1 ρ H->HR B ρ h H->src.items h=some xs->xs.length<=i->J.stop i H
 go:∀{ρ h H i xs v},Gw ρ1 H1 ρ H->HR B ρ h H->src.items h=some xs->xs[i]?=some v->J.go i H
 zl:∀{ρ h H i xs v y H'},Gw ρ1 H1 ρ H->HR B ρ h H->src.items h=some xs->xs[i]?=some v->J.zl i H y H'->Gr ρ H ρ H'/\HR B ρ h H'/\VR B.K ρ H' v y
section
variable {B:Bd} {ρ1:List Addr} {H1:Hp} {a:Addr}
theorem C0(q:kO B.K H1 a xs)(e:az B.K ρ1 H1 vs xs):Walks B (.fix vs) (VM B.K a) ρ1 H1 where
 stop:=λg r hi hl=>by
  cases hi;exact⟨xs,g.Vb q,by rw[<-e.length];exact hl⟩
 go:=λg r hi hv=>by
  cases hi;obtain⟨x,k1,_⟩:=e.get hv;exact⟨xs,x,g.Vb q,k1⟩
 zl:=λg r hi hv y=>by
  cases hi;obtain⟨rfl,y⟩:=y;obtain⟨x,k1,k2⟩:=e.get hv;have:=y xs (g.Vb q);rw[k1]at this;cases this;exact⟨Gr.refl,r,VR.lZ g _ _ k2⟩
theorem Fb(q:LJ B.K H1 a xs)(e:az B.K ρ1 H1 vs xs):Walks B (.fix vs) (U3 B.K a) ρ1 H1 where
 stop:=λg r hi hl=>by
  cases hi;exact⟨xs,(g.Nx q).sq,by rw[<-e.length];exact hl⟩
 go:=λg r hi hv=>by
  cases hi;obtain⟨x,k1,_⟩:=e.get hv;exact⟨xs,x,(g.Nx q).sq,k1⟩
 zl:=λg r hi hv y=>by
  cases hi;obtain⟨rfl,y⟩:=y;obtain⟨x,k1,k2⟩:=e.get hv;have:=y xs (g.Nx q).sq;rw[k1]at this;cases this;exact⟨Gr.refl,r,VR.lZ g _ _ k2⟩
theorem lT{i:Nat}(q:ρ1[i]?=some a)(g:Gw ρ1 H1 ρ H)(r:HR B ρ h H)(hi:(Src.live i).items h=some xs):∃ys,iu B.K H a ys/\az B.K ρ H xs ys:=by
 obtain⟨b,ys,e,k1,k2⟩:=dS r (VR.ref (qg g.pre q)) (show aG h (.ref i)=some xs from hi);cases e;exact⟨ys,k1,k2⟩
theorem Ab{i:Nat}(q:ρ1[i]?=some a):Walks B (.live i) (U3 B.K a) ρ1 H1 where
 stop:=λg r hi hl=>by
  obtain⟨ys,k1,k2⟩:=lT q g r hi;exact⟨ys,k1,by rw[<-k2.length];exact hl⟩
 go:=λg r hi hv=>by
  obtain⟨ys,k1,k2⟩:=lT q g r hi;obtain⟨x,k3,_⟩:=k2.get hv;exact⟨ys,x,k1,k3⟩
 zl:=λg r hi hv y=>by
  obtain⟨ys,k1,k2⟩:=lT q g r hi;obtain⟨rfl,y⟩:=y;obtain⟨x,k3,k4⟩:=k2.get hv;have:=y ys k1;rw[k3]at this;cases this;exact⟨Gr.refl,r,k4⟩
theorem jw(lo:Int)(n:Nat):(bU lo n).length=n:=by unfold bU;simp
theorem pH{lo:Int}{n:Nat}:Walks B (.fix (bU lo n)) (Ru lo n) ρ1 H1 where
 stop:=λg r hi hl=>by
  cases hi;rw[jw]at hl;exact hl
 go:=λg r hi hv=>by
  cases hi;have:=(aae.mp hv).1;rw[jw]at this;exact this
 zl:=λ{ρ h H i xs v y H'} g r hi hv y'=>by
  cases hi;obtain⟨rfl,rfl⟩:=y';have hl:=(aae.mp hv).1;rw[jw]at hl;have e:(bU lo n)[i]?=some (.int (lo+i)):=by unfold bU;simp[hl]
  rw[e]at hv;cases hv;exact⟨Gr.refl,r,VR.int⟩
theorem gX:∀(i:Nat) (ds:List Val),(cM i ds).length=ds.length
 |_,[]=>rfl
 |i,d::r=>by simp[cM,gX (i+1) r]
theorem uM:∀(k:Nat) (ds:List Val) (i:Nat) (d:Val),ds[i]?=some d->(cM k ds)[i]?=some (.tup [.int ((k+i:Nat):Int),d])
 |_,[],_,_,h=>by simp at h
 |k,e::r,0,d,h=>by simp at h;subst h;simp[cM]
 | k,e::r,i+1,d,h=>by
  have:=uM (k+1) r i d (by simpa using h);simp only[cM,List.getElem?_cons_succ];rw[this];have e1:k+1+i=k+(i+1):=by omega
  rw[e1]
theorem oK{i:Nat}(e:(cM 0 ds)[i]?=some v):∃d,ds[i]?=some d/\v=.tup [.int (i:Int),d]:=by
 have hl:=(aae.mp e).1;rw[gX]at hl;have e1:=uM 0 ds i ds[i] (aay hl);rw[e]at e1;cases e1;exact⟨ds[i],aay hl,by rw[Nat.zero_add]⟩
theorem yc{i:Nat}(r:HR B ρ h H)(k1:iu B.K H a ys)(k2:az B.K ρ H xs ys)(hv:(cM 0 xs)[i]?=some v)(hy:(R3 B.K a).zl i H y H'):Gr ρ H ρ H'/\HR B ρ h H'/\VR B.K ρ H' v y:=by
 obtain⟨p,w,hn,rfl,rfl,hy⟩:=hy;obtain⟨d,e1,rfl⟩:=oK hv;obtain⟨x,k3,k4⟩:=k2.get e1;have:=hy ys k1;rw[k3]at this;cases this;exact⟨Gr.side hn,r.side hn,VR.tup (kO.of aP) (az.cons VR.int (az.cons (VR.up (Gr.side hn) _ _ k4) az.nil))⟩
theorem yd(q:LJ B.K H1 a xs)(e:az B.K ρ1 H1 vs xs):Walks B (.fix (cM 0 vs)) (R3 B.K a) ρ1 H1 where
 stop:=λg r hi hl=>by
  cases hi;rw[gX]at hl;exact⟨xs,(g.Nx q).sq,by rw[<-e.length];exact hl⟩
 go:=λg r hi hv=>by
  cases hi;obtain⟨d,e1,_⟩:=oK hv;obtain⟨x,k1,_⟩:=e.get e1;exact⟨xs,x,(g.Nx q).sq,k1⟩
 zl:=λg r hi hv y=>by
  cases hi;exact yc r (g.Nx q).sq (az.lZ g _ _ e) hv y
theorem ye{i:Nat}(q:ρ1[i]?=some a):Walks B (.enum i) (R3 B.K a) ρ1 H1 where
 stop:=λg r hi hl=>by
  obtain⟨zs,e1,rfl⟩:=aaJ.mp hi;obtain⟨ys,k1,k2⟩:=lT q g r e1;rw[gX]at hl;exact⟨ys,k1,by rw[<-k2.length];exact hl⟩
 go:=λg r hi hv=>by
  obtain⟨zs,e1,rfl⟩:=aaJ.mp hi;obtain⟨ys,k1,k2⟩:=lT q g r e1;obtain⟨d,e2,_⟩:=oK hv;obtain⟨x,k3,_⟩:=k2.get e2;exact⟨ys,x,k1,k3⟩
 zl:=λg r hi hv y=>by
  obtain⟨zs,e1,rfl⟩:=aaJ.mp hi;obtain⟨ys,k1,k2⟩:=lT q g r e1;exact yc r k1 k2 hv y
end
section
variable {Φ:Fn} {Γ:qi} {k:Nat} {X:Cx} {cl:Nat->Addr} {EX:Nat->List V->Hp->Prop}
def QT(Φ:Fn)(ik:Ik)(it:mP)(env:Env):M Src:=bnd (aU Φ it env) λits=>bD (srcOf ik its)
def tI(Φ:Fn)(B:Bd)(EX:Nat->List V->Hp->Prop)(ik:Ik)(it:mP):TI:=λσ H R=>∃ρ env h,cP B.K ρ env σ H/\HR B ρ h H /\
 Post B EX ρ H (λsrc h' ρ' H'=>(∃xs,src.items h'=some xs)/\∀J,Walks B src J ρ' H'->R J H') (QT Φ ik it env h)
theorem LR(hs:kY Φ it)(c:Ctx Φ Γ k X cl EX)(h:Bq Γ ik it iter=true)(ht:ik=.enum\/ik=.zip->∃es kk pos,tg=.Tuple es kk pos):PI X tg iter (tI Φ (bd X cl) EX ik it)/\∀x,foldedSetIterable iter X.env x=pure x:=by
 cases it with
 |nil=>rw[Bq]at h;cases h
 |cons e es=>
  cases ik with
  |seq=>
   replace h:=E2 h;obtain⟨rfl,h⟩:=h;simp only[and_eq_true]at h;have q:=(hs.2.1 Γ k X cl EX iter c h.2).1;refine⟨((IY q).or (MN q)).imp λσ H R ⟨ρ,env,h,hE,r,p⟩=>?_,λx=>?_⟩
   ·simp only[QT,yb,bx,cQ]at p
    have key:∀(Q:VK),(∀v h1 ρ1 x H1,aD Φ e env h=.ok v h1->Gr ρ H ρ1 H1->HR (bd X cl) ρ1 h1 H1->VR X.K ρ1 H1 v x->Post (bd X cl) EX ρ1 H1 (λsrc h' ρ' H'=>(∃xs,src.items h'=some xs)/\∀J,Walks (bd X cl) src J ρ' H'->R J H') (bD (srcOf .seq [v]) h1)->Q x H1)->tV Φ (bd X cl) EX e σ H Q:=λQ kk=>
     ⟨ρ,env,h,hE,r,dZ p λv h1 ρ1 H1 e1 g1 r1 p1 x q1=>kk v h1 ρ1 x H1 e1 g1 r1 q1 p1⟩
    cases ev:aD Φ e env h with
    |ok v h1=>
     cases v with
     |tup vs=>refine .inr (key _ λv h1 ρ1 x H1 e1 g1 r1 q1 p1=>?_);rw[ev]at e1;cases e1;obtain⟨src,e2,w1,w2⟩:=dY r1 p1;cases e2;rw[VR]at q1;obtain⟨a,xs,rfl,k1,k2⟩:=q1;exact⟨a,rfl,⟨xs,k1⟩,w2 _ (C0 k1 k2)⟩
     |rl vs=>refine .inl (key _ λv h1 ρ1 x H1 e1 g1 r1 q1 p1=>?_);rw[ev]at e1;cases e1;obtain⟨src,e2,w1,w2⟩:=dY r1 p1;cases e2;rw[VR]at q1;obtain⟨a,xs,rfl,k1,k2⟩:=q1;exact⟨a,rfl,⟨xs,k1.sq⟩,w2 _ (Fb k1 k2)⟩
     |ref i=>refine .inl (key _ λv h1 ρ1 x H1 e1 g1 r1 q1 p1=>?_);rw[ev]at e1;cases e1;obtain⟨src,e2,⟨zs,w1⟩,w2⟩:=dY r1 p1;cases e2;have q0:=q1;rw[VR]at q1;obtain⟨a,rfl,k1⟩:=q1;obtain⟨b,ys,e3,k2,k3⟩:=dS r1 q0 (show aG h1 (.ref i)=some zs from w1);cases e3;exact⟨a,rfl,⟨ys,k2⟩,w2 _ (Ab k1)⟩
     |_=>refine .inl (key _ λv h1 ρ1 x H1 e1 g1 r1 q1 p1=>?_);rw[ev]at e1;cases e1;obtain⟨src,e2,_⟩:=dY r1 p1;cases e2
    |exc _ _ _=>exact .inl (key _ λv h1 ρ1 x H1 e1=>by rw[ev]at e1;cases e1)
    |no=>exact .inl (key _ λv h1 ρ1 x H1 e1=>by rw[ev]at e1;cases e1)
   ·cases iter<;>first|rfl|(exact absurd h.1 aac)
  |range=>
   apply nC h;intro x xp q1 pos h;apply z6 h;intro a args h;simp only[and_eq_true,beq_iff_eq]at h;obtain⟨⟨⟨⟨⟨h1,h2⟩,h3⟩,h4⟩,h5⟩,h6⟩:=h;subst h1;obtain⟨g1,g2,g3⟩:=c.gl h2;have hm:=c.blt _ (show ("range":Str)∈bltNames by decide);refine⟨?_,λx=>rfl⟩;have hA:=hs.1 Γ k X cl EX (a::args) c (by rw[aR.eq_def];simp[h3,h4,h5]);cases args with
   |nil=>
    cases es with
    |cons i eZ=>rw[aR.eq_def]at h5;cases h5
    |nil=>
     refine(Cg g1 hm hA (bz h3)).imp λσ H R aI=>?_;obtain⟨ρ,env,h,hE,r,p⟩:=aI;refine⟨ρ,env,h,hE,r,dZ p λvs h1 ρ1 H1 e1 XZ r1 p1 xs q1=>?_⟩;obtain⟨src,e2,w1,w2⟩:=dY r1 p1
     match vs,e2 with
     |[.int n],e2=>
      change (if inR n=true then some (Src.fix (bU 0 n.toNat)) else none)=some src at e2;split at e2
      ·rename_i hn;cases e2;simp only[inR,and_eq_true,decide_eq_true_eq]at hn;obtain⟨x,rfl,hx⟩:=az.one q1;rw[VR]at hx;subst hx;exact⟨n,rfl,hn.1,hn.2,w2 _ pH⟩
      ·cases e2
     |[.int _,.int _],e2=>have:=jJ (Γ:=Γ) (ls:=[a]) (by rw[aR.eq_def];simp[h3,h4,aR]) e1;simp at this
   |cons b args=>
    cases args with
    |cons _ _=>have:=aax h6;simp only[length_cons]at this;omega
    |nil=>
     have hb:noStar b=true:=by
      cases es with
      |nil=>rw[aR]at h5;cases h5
      |cons i eZ=>rw[aR.eq_def]at h5;dsimp only at h5;simp only[and_eq_true]at h5;exact h5.1.1
     refine(Ci g1 hm hA (by rw[bz h3,bz hb];rfl) (by rw[bz hb];rfl)).imp λσ H R aI=>?_;obtain⟨ρ,env,h,hE,r,p⟩:=aI;refine⟨ρ,env,h,hE,r,dZ p λvs h1 ρ1 H1 e1 XZ r1 p1 xs q1=>?_⟩;obtain⟨src,e2,w1,w2⟩:=dY r1 p1
     match vs,e2 with
     |[.int _],e2=>have:=jJ (Γ:=Γ) (ls:=[a,b]) (by rw[aR.eq_def];simp[h3,h4,h5]) e1;simp at this
     |[.int lo,.int hi],e2=>
      change (if (inR lo&&inR hi)=true then some (Src.fix (bU lo (hi-lo).toNat)) else none)=some src at e2;split at e2
      ·rename_i hn;cases e2;simp only[inR,and_eq_true,decide_eq_true_eq]at hn;obtain⟨x,y,rfl,hx,hy⟩:=az.two q1;rw[VR]at hx;rw[VR]at hy;subst hx;subst hy;exact⟨lo,hi,rfl,⟨hn.1.1,hn.1.2,hn.2.1,hn.2.2⟩,w2 _ pH⟩
      ·cases e2
  |enum=>
   replace h:=E2 h;obtain⟨rfl,h⟩:=h;apply nC h;intro x xp q1 pos h;apply kJ h;intro a h;simp only[and_eq_true,beq_iff_eq]at h;obtain⟨⟨⟨h1,h2⟩,h3⟩,h4⟩:=h;subst h1;obtain⟨g1,g2,g3⟩:=c.gl h2;have hm:=c.blt _ (show ("enumerate":Str)∈bltNames by decide);obtain⟨tes,tk,tp,rfl⟩:=ht (.inl rfl);refine⟨?_,λx=>rfl⟩;have hA:=hs.1 Γ k X cl EX [a] c (by rw[aR.eq_def];simp[h3,h4,aR]);refine(JC g1 hm hA (bz h3)).imp λσ H R aI=>?_;obtain⟨ρ,env,h,hE,r,p⟩:=aI;refine⟨ρ,env,h,hE,r,dZ p λvs h1 ρ1 H1 e1 XZ r1 p1 xs q1=>?_⟩;obtain⟨src,e2,⟨zs,w1⟩,w2⟩:=dY r1 p1
   match vs,e2 with
   |[.rl ws],e2=>cases e2;obtain⟨x,rfl,hx⟩:=az.one q1;rw[VR]at hx;obtain⟨b,ys,rfl,k1,k2⟩:=hx;exact⟨b,rfl,⟨ys,k1.sq⟩,w2 _ (yd k1 k2)⟩
   |[.ref i],e2=>cases e2;obtain⟨x,rfl,hx⟩:=az.one q1;obtain⟨us,w3,_⟩:=aaJ.mp w1;obtain⟨b,ys,rfl,k2,k3⟩:=dS r1 hx w3;rw[VR]at hx;obtain⟨b',e3,k1⟩:=hx;cases e3;exact⟨b,rfl,⟨ys,k2⟩,w2 _ (ye k1)⟩
  |zip=>cases h
end
section
variable {Φ:Fn} {Γ:qi} {k:Nat} {X:Cx} {cl:Nat->Addr} {EX:Nat->List V->Hp->Prop}
def rG:List Nat->QI
 |[]=>Rp
 |i::is=>Lz (pB i) (rG is)
def C1(K:Frag):zY->TG
 |.one i=>pB i
 |.tup is=>Rq K is.length (rG is)
def jx:List Nat->List V->L2.St->L2.St
 |i::is,v::vs,σ=>jx is vs (σ.set i (some v))
 |_,_,σ=>σ
theorem oM:∀{is:List Nat} {vs:List V} {σ:L2.St} {H:Hp} {Q:L2.St->Hp->Prop},vs.length=is.length->Q (jx is vs σ) H->rG is vs σ H Q
 |[],[],_,_,_,_,h=>⟨rfl,h⟩
 |i::is,v::vs,σ,H,Q,hl,h=>⟨v,vs,rfl,oM (by simpa using hl) h⟩
theorem uN(hnd:X.N.Nodup):∀{is:List Nat} {es:List Expr},es.length=is.length->(∀p∈is.zip es,∃x pos,p.2=.Name x pos/\X.N[p.1]?=some x/\X.env.scope.names.lookup x=some .local)->QJ X es (rG is)
 |[],[],_,_=>AD
 | i::is,e::es,hl,h=>by
  obtain⟨x,pos,rfl,h1,h2⟩:=h (i,e) (by simp);exact wO (qc hnd h1 (.inl h2) (.inr h2)) (uN hnd (by simpa using hl) λp hp=>h p (by simp[hp]))
theorem iF:∀{es:List Expr},(∀e∈es,∃x pos,e=.Name x pos)->(assignEach es env).length=es.length/\(assignEach es env).findIdx? (·.1)=none
 |[],_=>⟨rfl,rfl⟩
 | e::es,h=>by
  obtain⟨x,pos,rfl⟩:=h e aan;obtain⟨h1,h2⟩:=iF (env:=env) (es:=es) λe he=>h e (aam _ he);have e1:assignEach (Expr.Name x pos::es) env=(false,assign (Expr.Name x pos) env)::assignEach es env:=rfl;rw[e1];refine⟨by simp[h1],?_⟩;rw[List.findIdx?_cons,h2];rfl
theorem Fc{i:Nat}(h:x6 Γ (.one i) tg=true):∃x p,tg=.Name x p:=by
 cases tg<;>first|exact⟨_,_,rfl⟩|exact absurd h aac
theorem yf{is:List Nat}(h:x6 Γ (.tup is) tg=true):∃es k p,tg=.Tuple es k p:=by
 cases tg<;>first|exact⟨_,_,_,rfl⟩|exact absurd h aac
theorem Fd(c:Ctx Φ Γ k X cl EX)(hnd:X.N.Nodup)(h:x6 Γ pat tg=true):PG X tg (C1 X.K pat):=by
 cases pat with
 |one i=>obtain⟨x,xp,rfl⟩:=Fc h;simp only[x6,and_eq_true,beq_iff_eq]at h;obtain⟨h1,h2⟩:=h;exact qc hnd (by rw[c.N];exact h1) (.inl (by rw[c.sc];exact h2)) (.inr (by rw[c.sc];exact h2))
 |tup is=>
  obtain⟨es,kk,pos,rfl⟩:=yf h
  ·
   simp only[x6,and_eq_true,beq_iff_eq,all_eq_true]at h;obtain⟨h1,h2⟩:=h;have names:∀p∈is.zip es,∃x pos,p.2=.Name x pos/\X.N[p.1]?=some x/\X.env.scope.names.lookup x=some .local:=λp hp=>by
    have q:=h2 p hp;cases ep:p.2<;>rw[ep]at q<;>simp at q;rename_i x pos';exact⟨x,pos',rfl,by rw[c.N];exact q.1,by rw[c.sc];exact q.2⟩
   have all:∀e∈es,∃x pos,e=.Name x pos:=λe he=>by
    obtain⟨n,hn,rfl⟩:=getElem_of_mem he;have hm:(is[n]'(by omega),es[n])∈is.zip es:=List.mem_iff_getElem?.mpr ⟨n,by rw[List.getElem?_zip_eq_some];simp[hn]⟩;obtain⟨x,pos,q,_⟩:=names _ hm;exact⟨x,pos,q⟩
   obtain⟨l1,l2⟩:=iF (env:=X.env) all;exact DL c.calm (uN hnd h1 names) (by rw[l1,h1]) l2
def yg(Γ:qi):zY->Expr->Bool
 |.one i,.Name x _=>Γ.N[i]?==some x&&(Γ.sc.names.lookup x==some .local || Γ.sc.names.lookup x==some .cell)
 | .tup is,.Tuple es _ _=>es.length==is.length&&(is.zip es).all λp=>match p.2 with
  |.Name x _=>Γ.N[p.1]?==some x&&(Γ.sc.names.lookup x==some .local || Γ.sc.names.lookup x==some .cell)
  |_=>false
 |_,_=>false
theorem rH(hfn:∀x,X.fn x=true)(hnd:X.N.Nodup):∀{is:List Nat} {es:List Expr},es.length=is.length->(∀p∈is.zip es,∃x pos,p.2=.Name x pos/\X.N[p.1]?=some x/\Loc X.env.scope x)->QJ X es (rG is)
 |[],[],_,_=>AD
 | i::is,e::es,hl,h=>by
  obtain⟨x,pos,rfl,h1,h2⟩:=h (i,e) (by simp);exact wO (qc hnd h1 h2 (.inl (hfn x))) (rH hfn hnd (by simpa using hl) λp hp=>h p (by simp[hp]))
theorem rJ{i:Nat}(h:yg Γ (.one i) tg=true):∃x p,tg=.Name x p:=by
 cases tg<;>first|exact⟨_,_,rfl⟩|exact absurd h aac
theorem nD{is:List Nat}(h:yg Γ (.tup is) tg=true):∃es k p,tg=.Tuple es k p:=by
 cases tg<;>first|exact⟨_,_,_,rfl⟩|exact absurd h aac
theorem Bv(c:Ctx Φ Γ k X cl EX)(hfn:∀x,X.fn x=true)(hnd:X.N.Nodup)(h:yg Γ pat tg=true):PG X tg (C1 X.K pat):=by
 have loc:∀x,(Γ.sc.names.lookup x==some .local || Γ.sc.names.lookup x==some .cell)=true->Loc X.env.scope x:=λx e=>by
  unfold L2.Loc;rw[c.sc];simpa using e
 cases pat with
 |one i=>obtain⟨x,pos,rfl⟩:=rJ h;simp only[yg,and_eq_true,beq_iff_eq]at h;obtain⟨h1,h2⟩:=h;exact qc hnd (by rw[c.N];exact h1) (loc _ h2) (.inl (hfn _))
 |tup is=>
  obtain⟨es,kk,pos,rfl⟩:=nD h
  ·
   simp only[yg,and_eq_true,beq_iff_eq,all_eq_true]at h;obtain⟨h1,h2⟩:=h;have names:∀p∈is.zip es,∃x pos,p.2=.Name x pos/\X.N[p.1]?=some x/\Loc X.env.scope x:=λp hp=>by
    have q:=h2 p hp;cases ep:p.2<;>rw[ep]at q<;>first|cases q|skip
    rename_i x pos';simp only[and_eq_true,beq_iff_eq]at q;exact⟨x,pos',rfl,by rw[c.N];exact q.1,loc _ q.2⟩
   have all:∀e∈es,∃x pos,e=.Name x pos:=λe he=>by
    obtain⟨n,hn,rfl⟩:=getElem_of_mem he;have hm:(is[n]'(by omega),es[n])∈is.zip es:=List.mem_iff_getElem?.mpr ⟨n,by rw[List.getElem?_zip_eq_some];simp[hn]⟩;obtain⟨x,pos,q,_⟩:=names _ hm;exact⟨x,pos,q⟩
   obtain⟨l1,l2⟩:=iF (env:=X.env) all;exact DL c.calm (rH hfn hnd h1 names) (by rw[l1,h1]) l2
theorem cP.set{K:Frag}{ρ:List Addr}{env:Env}{σ:L2.St}{H:Hp}{i:Nat}{v:Val}{x:V}(e:cP K ρ env σ H)(hl:env.length = σ.length)(q:VR K ρ H v x):cP K ρ (env.set i (some v)) (σ.set i (some x)) H:=λj w hj=>by
 by_cases hij:i=j
 ·subst hij
  have hi:i<env.length:=by have:=(aae.mp hj).1;simpa using this
  rw[aak hi]at hj;cases hj;exact⟨x,by rw[aak (by rw[<-hl];exact hi)],q⟩
 ·rw[aaf hij]at hj;rw[aaf hij];exact e j w hj
theorem mU{K:Frag}{ρ:List Addr}{H:Hp}:∀{is:List Nat} {ds:List Val} {xs:List V} {env env':Env} {σ:L2.St},bindAll is ds env=some env'->az K ρ H ds xs->cP K ρ env σ H->env.length = σ.length->cP K ρ env' (jx is xs σ) H/\env'.length=(jx is xs σ).length/\(jx is xs σ).length = σ.length/\xs.length=is.length
 | [],[],xs,env,env',σ,e,q,hE,hl=>by
  rw[az]at q;subst q;simp only[bindAll]at e;cases e;exact⟨hE,hl,rfl,rfl⟩
 | i::is,d::ds,xs,env,env',σ,e,q,hE,hl=>by
  rw[az]at q;obtain⟨x,r,rfl,q1,q2⟩:=q;simp only[bindAll]at e;obtain⟨a1,a2,a3,a4⟩:=mU e q2 (hE.set hl q1) (by simp[hl]);exact⟨a1,a2,by rw[show jx (i::is) (x::r) σ = jx is r (σ.set i (some x)) from rfl,a3];simp,by simp[a4]⟩
 |[],_::_,_,_,_,_,e,_,_,_=>by simp[bindAll]at e
 |_::_,[],_,_,_,_,e,_,_,_=>by simp[bindAll]at e
theorem Bw{K:Frag}{ρ:List Addr}{H:Hp}{pat:zY}{v:Val}{x:V}{env env':Env}{σ:L2.St}{Q:L2.St->Hp->Prop}(e:fS pat v env=some env')(q:VR K ρ H v x)(hE:cP K ρ env σ H)(hl:env.length = σ.length)
  (kk:∀σ',cP K ρ env' σ' H->env'.length = σ'.length -> σ'.length = σ.length->Q σ' H):C1 K pat x σ H Q:=by
 cases pat with
 |one i=>simp only[fS]at e;cases e;exact kk _ (hE.set hl q) (by simp[hl]) (by simp)
 |tup is=>
  cases v<;>simp only[fS]at e<;>first|cases e|skip
  rw[VR]at q;obtain⟨a,xs,rfl,q1,q2⟩:=q;obtain⟨a1,a2,a3,a4⟩:=mU e q2 hE hl;exact⟨a,xs,rfl,q1,a4,oM a4 (kk _ a1 a2 a3)⟩
theorem lU{α β:Type}{W:β -> Hs->List Addr->Hp->Prop}{W':α -> Hs->List Addr->Hp->Prop}{m:M α}{f:α -> M β}(g:Gr ρ H ρ' H')(p:Post B EX ρ H W (bnd m f h))
  (kk:∀v h1 ρ2 H2,m h=.ok v h1->Post B EX ρ H W (f v h1)->Gr ρ' H' ρ2 H2->HR B ρ2 h1 H2->W' v h1 ρ2 H2):Post B EX ρ' H' W' (m h):=by
 unfold bnd at p;cases e:m h with
 |ok v h1=>rw[e]at p;exact λρ2 H2 g2 r2=>kk v h1 ρ2 H2 e p g2 r2
 |exc c vs h1=>rw[e]at p;exact λρ2 H2 xs g2 r2 q=>p ρ2 H2 xs (g.trans g2) r2 q
 |no=>rw[e]at p;exact p
theorem HR.adopt(r:HR B ρ h H)(hD:D ∉ ρ)(q:OR B (ρ ++ [D]) H D u):HR B (ρ ++ [D]) (h++[u]) H where
 len:=by simp[r.len]
 nd:=by rw[aaN];refine⟨r.nd,by simp,λa ha b hb=>?_⟩;rw[aau.mp hb];rintro rfl;exact hD ha
 ob i v a q1 q2:=by
  by_cases hi:i<h.length
  ·rw[aat hi]at q1;rw[aat (by rw[r.len];exact hi)]at q2;exact OR.lZ ⟨aaY _ _,λ_ _ e _=>e⟩ rfl (r.ob i v a q1 q2)
  ·rw[aaO (by omega)]at q1
   rw[aaO (by rw[r.len];omega)]at q2;have hi0:i-h.length=0:=by have:=(aae.mp q1).1;simp at this;omega
   rw[hi0]at q1;rw[r.len,hi0]at q2;simp at q1 q2;subst q1;subst q2;exact q
theorem Gr.over(g:Gr ρ H ρ' H')(hD:H D=none):Gr ρ H ρ' (upd H' D o) where
 pre:=g.pre
 keep a u e n:=by rw[au (aM e hD)];exact g.keep a u e n
 firm a u e n:=by rw[au (aM e hD)];exact g.firm a u e n
 fresh:=g.fresh
theorem Gr.adopt(g:Gr ρ H ρ' H')(hD:H D=none):Gr ρ H (ρ'++[D]) H' where
 pre:=g.pre.trans (aaY _ _)
 keep:=g.keep
 firm:=g.firm
 fresh a z n:=by
  rcases aaL.mp z with z|z
  ·exact g.fresh a z n
  ·rw[aau.mp z];exact hD
theorem Kd{K:Frag}{ρ:List Addr}{env:Env}{σ:L2.St}{H:Hp}{js:List (Option Nat)}(e:cP K ρ env σ H):cP K ρ (kW js env) (iC js σ) H:=λi v q=>by
 unfold kW at q;rw[aaD]at q;cases hj:js[i]? with
 |none=>rw[hj]at q;cases q
 |some o=>
  rw[hj]at q;simp only[map_some]at q;cases o with
  |none=>cases q
  |some j=>
   dsimp only at q;cases ej:env[j]? with
   |none=>rw[ej]at q;cases q
   |some w=>
    cases w with
    |none=>rw[ej]at q;cases q
    |some d=>rw[ej]at q;cases q;obtain⟨x,q1,q2⟩:=e j _ ej;refine⟨x,?_,q2⟩;unfold iC;rw[aaD,hj];simp only[map_some];rw[q1]
theorem Fe{K:Frag}{ρ:List Addr}{env:Env}{σ σ':L2.St}{H:Hp}{js:List (Option Nat)}{pat:zY}(hp:(x8 pat).all (λi=>js[i]?==some none)=true)(e:cP K ρ (kW js env) σ H)(hs:∀i,i∉x8 pat -> σ'[i]? = σ[i]?):cP K ρ (kW js env) σ' H:=λi v q=>by
 have hi:i∉x8 pat:=λz=>by
  have h1:=all_eq_true.mp hp i z;have h2:js[i]?=some none:=eq_of_beq h1;unfold kW at q;rw[aaD,h2]at q;cases q
 obtain⟨x,q1,q2⟩:=e i v q;exact⟨x,(hs i hi).trans q1,q2⟩
theorem rK:∀{is:List Nat} {xs:List V} {σ:L2.St} {i:Nat},i∉is->(jx is xs σ)[i]? = σ[i]?
 |[],xs,σ,i,_=>by cases xs<;>rfl
 |j::is,[],σ,i,_=>rfl
 | j::is,x::xs,σ,i,h=>by
  rw[show jx (j::is) (x::xs) σ = jx is xs (σ.set j (some x)) from rfl,rK λz=>h (aam _ z),aaf λz=>h (by rw[z];exact aan)]
theorem Ff{K:Frag}{ρ:List Addr}{H:Hp}{pat:zY}{v:Val}{x:V}{env env':Env}{σ:L2.St}{Q:L2.St->Hp->Prop}(e:fS pat v env=some env')(q:VR K ρ H v x)(hE:cP K ρ env σ H)(hl:env.length = σ.length)
  (kk:∀σ',cP K ρ env' σ' H -> σ'.length = σ.length->(∀i,i∉x8 pat -> σ'[i]? = σ[i]?)->Q σ' H):C1 K pat x σ H Q:=by
 cases pat with
 |one i=>simp only[fS]at e;cases e;exact kk _ (hE.set hl q) (by simp) λj hj=>aaf λz=>hj (by rw[z];exact aau.mpr rfl)
 |tup is=>
  cases v<;>simp only[fS]at e<;>first|cases e|skip
  rw[VR]at q;obtain⟨a,xs,rfl,q1,q2⟩:=q;obtain⟨a1,a2,a3,a4⟩:=mU e q2 hE hl;exact⟨a,xs,rfl,q1,a4,oM a4 (kk _ a1 a3 λj hj=>rK hj)⟩
theorem rL(hs:kY Φ it)(hc:cg Φ t)(he:cg Φ elt)(c:Ctx Φ Γ k X cl EX)(h:bI Γ (.comp N' js pat ik it t elt) e=true) :
  ∃e' tg iter ifs scope pos wi g tt te,e=.ListComp e' [⟨tg,iter,ifs,0⟩] scope pos/\gW X.N X.env.scope scope N' js=true/\PI X tg iter wi/\(∀cls C s H fp,PG (bE X scope N' cls C s H fp) tg g)/\(∀cls C s H fp,Iq (bE X scope N' cls C s H fp) ifs tt) /\
   (∀cls C s H fp,PE (bE X scope N' cls C s H fp) e' te)/\(∀x,foldedSetIterable iter X.env x=pure x)/\∀σ H Q,tV Φ (bd X cl) EX (.comp N' js pat ik it t elt) σ H Q->xu wi js g tt te σ H Q:=by
 apply Bj h;intro e' q1 scope pos h;apply kJ h;intro q2 h;apply ES h;intro tg iter ifs q3 h;apply uK h;intro h;simp only[and_eq_true]at h;obtain⟨⟨⟨⟨⟨⟨⟨h1,h2⟩,h3⟩,h4⟩,h5⟩,h6⟩,h7⟩,h8⟩:=h;have hnd:N'.Nodup:=aax h3;have hen:ik=.enum\/ik=.zip->∃es kk pos,tg=.Tuple es kk pos:=by
  intro hz;cases pat with
  |one i=>rcases hz with rfl|rfl<;>cases h6
  |tup is=>exact yf h4
 obtain⟨hi,hf⟩:=LR hs c h2 hen
 let tt:TT:=if cN t=true then xr else tT Φ (bd X cl) EX t
 have VX:∀cls C s H fp,Iq (bE X scope N' cls C s H fp) ifs tt:=λcls C s H fp=>by
  have c':=c.vH scope N' cls C s H fp;cases ifs with
  |nil=>have:cN t=true:=h7;show Iq _ [] (if cN t=true then xr else tT Φ (bd X cl) EX t);rw[aai this];exact JA
  |cons a r=>
   cases r with
   |cons _ _=>cases h7
   |nil=>simp only[and_eq_true,not_eq_true']at h7;show Iq _ [a] (if cN t=true then xr else tT Φ (bd X cl) EX t);rw[aal (by rw[h7.1];exact aac)];exact AN (hc _ _ _ _ _ _ c' h7.2).2
 refine⟨e',tg,iter,ifs,scope,pos,_,C1 X.K pat,tt,tV Φ (bd X cl) EX elt,rfl,by rw[c.N,c.sc];exact h1,hi,λcls C s H fp=>Fd (c.vH scope N' cls C s H fp) hnd h4,VX,λcls C s H fp=>(he _ _ _ _ _ _ (c.vH scope N' cls C s H fp) h8).1,hf,λσ H Q ⟨ρ,env,h,hE,r,p⟩=>?_⟩
 ·skip
  simp only[aD]at p
  let f:Val->M (Option Val):=λd=>bnd (bD (fS pat d (kW js env))) λenv'=>bnd (if cN t=true then ret true else bnd (aD Φ t env') λv=>ask λh=>ck h v) λt=>
    if t=true then bnd (aD Φ elt env') λe=>ret (some e) else ret none
  have p':Post (bd X cl) EX ρ H (WV X.K Q) (bnd (QT Φ ik it env) (λsrc=>bnd (ask λh=>src.items h) λxs=>aH (decide (xs.length<=100000)) (bnd (gx src f xs.length 0 []) λys=>new (.lst ys))) h):=by unfold QT;rw[bx];exact p
  refine⟨ρ,env,h,hE,r,bw p' λsrc h1 ρ1 H1 g1 r1 p1=>?_⟩;obtain⟨xs,e1,p2⟩:=aF p1;obtain⟨e2,p3⟩:=aK p2;have e2:=aax e2;refine⟨⟨xs,e1⟩,λJ wk D hD=>?_⟩;have hDl:(100000:Nat)<sizeLine:=by rw[sizeLine_eq];decide
  refine⟨λi m σ' H'=>∃ρ' h' acc ys,Gr ρ1 H1 ρ' H'/\HR (bd X cl) ρ' h' H'/\D ∉ ρ'/\H' D=some (.lst ys)/\az X.K ρ' H' acc ys/\cP X.K ρ' (kW js env) σ' H' /\ σ'.length=js.length/\acc.length<=i/\i+m=xs.length /\
   Post (bd X cl) EX ρ1 H1 (WV X.K Q) (bnd (gx src f m i acc) (λys=>new (.lst ys)) h'),⟨xs.length,ρ1,h1,[],[],Gr.side hD,r1.side hD,r1.out hD,aP,az.nil,(Kd (hE.up g1)).up (Gr.side hD),jn js σ,aao _,by omega,p3⟩,?_⟩
  rintro i m σ' H' ⟨ρ',h',acc,ys,w1,w2,w3,w4,w5,w6,w7,w8,w9,vN⟩;have fin:∀p:Post (bd X cl) EX ρ1 H1 (WV X.K Q) (new (.lst acc) h'),Q (.ref D) H':=λp=>by
   refine p (ρ'++[D]) H' (w1.adopt hD) (w2.adopt w3 ⟨ys,w4,az.lZ ⟨aaY _ _,λ_ _ e _=>e⟩ _ _ w5⟩) _ (VR.ref (by rw[<-w2.len];simp))
  cases m with
  |zero=>
   simp only[gx,bx]at vN;obtain⟨xs',k1,vN⟩:=aF vN;have SG:Post (bd X cl) EX ρ1 H1 (WV X.K Q) (bnd (aH (decide (xs'.length<=i)) (ret acc)) (λys=>new (.lst ys)) h'):=vN;unfold aH at SG
   by_cases hl:xs'.length<=i
   ·have:bnd (λh=>if decide (xs'.length<=i)=true then ret acc h else Out.no) (λys=>new (.lst ys)) h'=new (.lst acc) h':=by
     unfold bnd;dsimp only;rw[aai (decide_eq_true hl)];rfl
    rw[this] at SG;exact .inl ⟨wk.stop w1.w w2 k1 hl,fin SG⟩
   ·have:bnd (λh=>if decide (xs'.length<=i)=true then ret acc h else Out.no) (λys=>new (.lst ys)) h'=Out.no:=by
     unfold bnd;dsimp only;rw[aal (by rw[decide_eq_false hl];exact aac)]
    rw[this] at SG;exact SG.elim
  |succ m=>
   simp only[gx,bx]at vN;obtain⟨xs',k1,vN⟩:=aF vN;cases hx:xs'[i]? with
   |none=>rw[hx]at vN;exact .inl ⟨wk.stop w1.w w2 k1 (List.getElem?_eq_none_iff.mp hx),fin vN⟩
   |some v=>
    rw[hx]at vN;dsimp only at vN;refine .inr ⟨wk.go w1.w w2 k1 hx,_,λAO JB w=>⟨m,lt_succ_self _,w⟩,λy H2 hy=>?_⟩;obtain⟨z1,z2,z3⟩:=wk.zl w1.w w2 k1 hx hy;simp only[bx]at vN;simp only[f,bx]at vN;obtain⟨env',k2,vN⟩:=bJ vN;refine Ff k2 z3 (w6.up z1) (by rw[w7];simp[kW]) λσ2 Vd hl2 hout=>?_;have OH:H2 D=some (.lst ys):=z1.keep _ _ w4 w3;have G2:Gr ρ1 H1 ρ' H2:=w1.trans z1;have body:∀(b:Bool) (h3:Hs) (ρ3:List Addr) (H3:Hp),Gr ρ' H2 ρ3 H3->HR (bd X cl) ρ3 h3 H3->Post (bd X cl) EX ρ1 H1 (WV X.K Q) (bnd (if b=true then bnd (aD Φ elt env') λe=>ret (some e) else ret none) (λo=>bnd (gx src f m (i+1) (match o with|some e=>acc++[e]|none=>acc)) λys=>new (.lst ys)) h3) ->
      (if b=true then tV Φ (bd X cl) EX elt σ2 H3 (λy H4=>∃ys,H4 D=some (.lst ys)/\ys.length<sizeLine/\(λσ' H'=>∃ρ' h' acc ys,Gr ρ1 H1 ρ' H'/\HR (bd X cl) ρ' h' H'/\D ∉ ρ'/\H' D=some (.lst ys)/\az X.K ρ' H' acc ys/\cP X.K ρ' (kW js env) σ' H' /\ σ'.length=js.length/\acc.length<=i+1/\i+1+m=xs.length /\
       Post (bd X cl) EX ρ1 H1 (WV X.K Q) (bnd (gx src f m (i+1) acc) (λys=>new (.lst ys)) h')) σ2 (upd H4 D (.lst (ys++[y]))))
      else (λσ' H'=>∃ρ' h' acc ys,Gr ρ1 H1 ρ' H'/\HR (bd X cl) ρ' h' H'/\D ∉ ρ'/\H' D=some (.lst ys)/\az X.K ρ' H' acc ys/\cP X.K ρ' (kW js env) σ' H' /\ σ'.length=js.length/\acc.length<=i+1/\i+1+m=xs.length /\
       Post (bd X cl) EX ρ1 H1 (WV X.K Q) (bnd (gx src f m (i+1) acc) (λys=>new (.lst ys)) h')) σ2 H3):=by
     intro b h3 ρ3 H3 g3 r3 p5;have WE:D ∉ ρ3:=λz=>by have:=g3.fresh D z w3;rw[OH]at this;cases this
     have QU:H3 D=some (.lst ys):=g3.keep _ _ OH w3;have E3:cP X.K ρ3 (kW js env) σ2 H3:=(Fe h5 (w6.up z1) hout).up g3;cases b with
     |true=>
      rw[aai rfl]at p5 |-;simp only[bx,cQ]at p5;refine⟨ρ3,env',h3,Vd.up g3,r3,lU (G2.trans g3) p5 λv4 h4 ρ4 H4 _ p6 g4 r4 y4 q4=>?_⟩;have X0:D ∉ ρ4:=λz=>by have:=g4.fresh D z WE;rw[QU]at this;cases this
      have SH:H4 D=some (.lst ys):=g4.keep _ _ QU WE;have gw:Gw ρ4 H4 ρ4 (upd H4 D (.lst (ys++[y4]))):=Gw.other SH rfl;have la:=w5.length;refine⟨ys,SH,by omega,ρ4,h4,acc++[v4],ys++[y4],((G2.trans g3).trans g4).over hD,r4.other X0 SH rfl,X0,aP,az.append (az.lZ gw _ _ (az.up ((z1.trans g3).trans g4) _ _ w5)) (az.lZ gw _ _ (az.cons q4 az.nil)),(E3.up g4).lZ gw,by rw[hl2,w7],by simp;omega,by omega,p6⟩
     |false=>rw[aal aac]at p5 |-;exact⟨ρ3,h3,acc,ys,G2.trans g3,r3,WE,QU,az.up (z1.trans g3) _ _ w5,E3,by rw[hl2,w7],by omega,by omega,p5⟩
    show (if cN t=true then xr else tT Φ (bd X cl) EX t) σ2 H2 _
    by_cases hn:cN t=true
    ·rw[aai hn];rw[aai hn,cQ]at vN;exact body true h' ρ' H2 Gr.refl z2 vN
    ·rw[aal hn];rw[aal hn]at vN;exact⟨ρ',env',h',Vd,z2,lU G2 vN λb h3 ρ3 H3 _ p5 g3 r3=>body b h3 ρ3 H3 g3 r3 p5⟩
theorem Ke(hs:kY Φ it)(hc:cg Φ t)(he:cg Φ elt):cg Φ (.comp N' js pat ik it t elt):=by
 intro Γ k X cl EX e c h;obtain⟨e',tg,iter,ifs,scope,pos,wi,g,tt,te,rfl,h1,h2,h3,h4,h5,h6,h7⟩:=rL hs hc he c h;have q:=(AQ (pos:=pos) h1 c.calm h2 h3 h4 h5 h6).imp h7;exact⟨q,cC q λ_=>rfl⟩
theorem Kf{k v:IE}(hk:cg Φ k)(hv:cg Φ v):cg Φ (.dct1 k v):=by
 intro Γ n X cl EX e c h;apply Bk h;intro q1 q2 pos h;apply kJ h;intro q3 h;apply Bm h;intro a h;apply kJ h;intro b h;simp only[and_eq_true]at h;have q:PE X (.Dict [some a] [b] pos) (tV Φ (bd X cl) EX (.dct1 k v)):=by
  refine(Jy (D8 (hk Γ n X cl EX a c h.1).1 (hv Γ n X cl EX b c h.2).1 Jx) rfl rfl (by simp) (by simp)).imp λσ H Q aI=>?_;obtain⟨ρ,env,h,hE,r,p⟩:=aI;intro D hD;have g0:Gr ρ H ρ (upd H D (.dK [])):=Gr.side hD;simp only[aD]at p;refine⟨ρ,env,h,hE.up g0,r.side hD,lU g0 p λx h1 ρ1 H1 _ p1 g1 r1 y1 q1=>?_⟩;obtain⟨kk,e1,p1⟩:=bJ p1;refine⟨ρ1,env,h1,(hE.up g0).up g1,r1,lU (g0.trans g1) p1 λy h2 ρ2 H2 _ p2 g2 r2 y2 q2=>?_⟩;have X3:D ∉ ρ:=r.out hD;have OH:D ∉ ρ2:=λz=>by have:=(g1.trans g2).fresh D z X3;rw[aP]at this;cases this
  have e2:H2 D=some (.dK []):=(g1.trans g2).keep D _ aP X3;have ek:y1=kV kk:=by
   cases x<;>first|(cases e1;done)|skip
   ·cases e1;rw[VR]at q1;exact q1
   ·cases e1;rw[VR]at q1;exact q1
  refine⟨e2,[(kk,y2)],by rw[ek];rfl,by simp,?_⟩;have gw:Gw ρ2 H2 (ρ2++[D]) (upd H2 D (.dK (om [] [(kk,y2)]))):=⟨aaY _ _,(Gw.other (ρ:=ρ2) e2 rfl).firm⟩;exact p2 (ρ2++[D]) _ ((((g0.trans g1).trans g2).over hD).adopt hD) ((r2.other OH e2 rfl).adopt OH ⟨[(kk,y2)],aP,y2,[],rfl,VR.lZ gw _ _ q2,rfl⟩) _ (Ba r2)
 exact⟨q,cC q λ_=>rfl⟩
theorem Fg{ns ms:List Int}{kvs:List (Key×V)}(e:kvs.map (·.1)=ns.map Sum.inl):((kvs.map λkv=>kV kv.1).filter λk=>!Io k (ms.map V.int))=(ns.filter λn=>!(ms.any λm=>m==n)).map V.int:=by
 have hk:(kvs.map λkv=>kV kv.1)=ns.map V.int:=by have:=congrArg (List.map kV) e;rw[aaW,aaW]at this;exact this
 rw[hk,List.filter_map]
 congr 1
 refine filter_congr λn _=>?_;show (!Io (V.int n) (ms.map V.int))=_;unfold Io;rw[any_map];rfl
def ZP(Γ:qi)(N':List Str)(js:List (Option Nat))(p q i j:Nat)(e:Expr):Prop:=∃y1 p1 y2 yp dn dp y3 p3 en ep cp ia scope pos,e=.ListComp (.Name y1 p1) [⟨.Name y2 yp,.Name dn dp,[.Compare (.Name y3 p3) [.NotIn] [.Name en ep] cp],ia⟩] scope pos/\(ia==0&&gW Γ.N Γ.sc scope N' js&&decide (N'.Nodup)&&x6 (Γ.vH scope N') (.one p) (.Name y2 yp)&&js[p]?==some none&&js[q]?==some (some j)&&p != q && !behindInMarks .NotIn (.Name en ep) &&
   (N'[p]?==some y1&&pY (Γ.vH scope N').sc y1)&&(N'[p]?==some y3&&pY (Γ.vH scope N').sc y3)&&(N'[q]?==some en&&pY (Γ.vH scope N').sc en)&&(Γ.N[i]?==some dn&&pY Γ.sc dn))=true
theorem C2{p q i j:Nat}(h:LP Γ N' js p q i j e=true):ZP Γ N' js p q i j e:=by
 apply Bj h;intro e1 q1 scope pos h;apply dR h;intro y1 p1 h;apply kJ h;intro g h;apply ES h;intro tg iter ifs ia h;apply dR h;intro y2 yp h;apply dR h;intro dn dp h;apply kJ h;intro c0 h;apply EH h;intro l ops rs cp h;apply dR h;intro y3 p3 h;apply kJ h;intro op h;apply uK h;intro h;apply kJ h;intro r h;apply dR h;intro en ep h;exact⟨_,_,_,_,_,_,_,_,_,_,_,_,_,_,rfl,h⟩
theorem rM{p q:Nat}(c:Ctx Φ Γ k X cl EX)(h:bI Γ (.dflt N' js p q d w) e=true) :
  ∃e' tg iter ifs scope pos wi g tt te,e=.ListComp e' [⟨tg,iter,ifs,0⟩] scope pos/\gW X.N X.env.scope scope N' js=true/\PI X tg iter wi/\(∀cls C s H fp,PG (bE X scope N' cls C s H fp) tg g)/\(∀cls C s H fp,Iq (bE X scope N' cls C s H fp) ifs tt) /\
   (∀cls C s H fp,PE (bE X scope N' cls C s H fp) e' te)/\(∀x,foldedSetIterable iter X.env x=pure x)/\∀σ H Q,tV Φ (bd X cl) EX (.dflt N' js p q d w) σ H Q->Ew (xu wi js g tt te) σ H Q:=by
 apply EZ h;intro i h;apply EZ h;intro j h;obtain⟨y1,p1,y2,yp,dn,dp,y3,p3,en,ep,cp,ia,scope,pos,e0,hh⟩:=C2 h;clear h;subst e0;have h:=hh;simp only[and_eq_true,beq_iff_eq,bne_iff_ne,ne_eq,not_eq_true']at h;obtain⟨⟨⟨⟨⟨⟨⟨⟨⟨⟨⟨h0,h1⟩,h2⟩,h3⟩,h4⟩,h5⟩,h6⟩,h7⟩,h8⟩,h9⟩,OI⟩,h11⟩:=h;subst h0;have hnd:N'.Nodup:=aax h2;have nm:∀{x:Str} {i:Nat} {pos:Pos} (_:N'[i]?=some x/\pY (Γ.vH scope N').sc x=true) cls C s H fp,PE (bE X scope N' cls C s H fp) (.Name x pos) (tD i):=λhx cls C s H fp=>by
  obtain⟨v1,v2,v3⟩:=(c.vH scope N' cls C s H fp).vis hx.2;exact zk hx.1 v1 v2 v3
 obtain⟨v1,v2,v3⟩:=c.vis h11.2;have hpl:p<js.length:=(aae.mp h4).1;refine⟨_,_,_,_,_,_,Ey (tD i),pB p,DR (QL (V6 X.K true) (tD p) (tD q)),tD p,rfl,by rw[c.N,c.sc];exact h1,JK (zk (by rw[c.N];exact h11.1) v1 v2 v3),λcls C s H fp=>Fd (c.vH scope N' cls C s H fp) hnd h3,
  λcls C s H fp=>AN (AF (X:=bE X scope N' cls C s H fp) vn (nm h9 cls C s H fp) (nm OI cls C s H fp) h7),nm h8,λx=>rfl,λσ H Q ⟨ρ,env,h,hE,r,pp⟩=>?_⟩
 simp only[aD]at pp;obtain⟨o,e1,pp⟩:=bJ pp;obtain⟨ks,e2,pp⟩:=aF pp;obtain⟨u,e3,pp⟩:=bJ pp;obtain⟨zs,e4,pp⟩:=aF pp;split at e1<;>cases e1;rename_i e1;split at e3<;>cases e3;rename_i e3;obtain⟨x,s1,q1⟩:=hE i o e1;obtain⟨y,s2,q2⟩:=hE j u e3;cases o<;>first|(cases e2;done)|(rw[VR]at q1;exact q1.elim)|skip
 rename_i n;rw[VR]at q1;obtain⟨ad,rfl,q1⟩:=q1;have hdc:∃kvs,h[n]?=some (.dct kvs)/\ks=kvs.map (·.1):=by
  change (match h[n]? with|some (.dct kvs)=>some (kvs.map (·.1))|_=>none)=some _ at e2;split at e2
  ·rename_i kvs e5;cases e2;exact⟨kvs,e5,rfl⟩
  ·cases e2
 obtain⟨kvs,e5,rfl⟩:=hdc;obtain⟨X4,k1,k2⟩:=r.ob n _ ad e5 q1;unfold qX at e4;obtain⟨ns,e6,e4⟩:=aab.mp e4;obtain⟨xs,e7,e4⟩:=aab.mp e4;obtain⟨ms,e8,e4⟩:=aab.mp e4;obtain⟨b,ys,rfl,sq,vr⟩:=dS r q2 e7
 by_cases hl:ns.length<=100000
 ·rw[aai hl]at e4
  cases e4;rw[f6 e8]at vr;have ey:=az.ints.mp vr;subst ey;have ek:=(vL k2).trans (vM e6);have el:X4.length=ns.length:=by have:=congrArg length ek;simpa using this
  refine Nr h6 hpl ⟨ad,X4,b,_,s1,k1,by rw[el,sizeLine_eq];omega,?_,sq,?_,λD hD=>?_⟩
  ·unfold iC;rw[aaD,h5];show some (match σ[j]? with|some (some v)=>some v|_=>none)=_;rw[s2]
  ·rw[all_map];exact all_eq_true.mpr λ_ _=>rfl
  ·rw[Fg ek];exact cu r hD (az.ints.mpr rfl) pp
 ·rw[aal hl]at e4;cases e4
theorem Kg{p q:Nat}:cg Φ (.dflt N' js p q d w):=by
 intro Γ k X cl EX e c h;obtain⟨e2,WG,iter,ifs,Ac,pos2,wi,g,tt,te,rfl,q1,q2,q3,q4,q5,q6,q7⟩:=rM c h;have q:PE X (.ListComp e2 [⟨WG,iter,ifs,0⟩] Ac pos2) (tV Φ (bd X cl) EX (.dflt N' js p q d w)):=(JI (AQ q1 c.calm q2 q3 q4 q5 q6)).imp q7;exact⟨q,cC q λ_=>rfl⟩
theorem OJ(ha:cg Φ a):cg Φ (.isc a x bs):=rF λ_ _=>rfl
theorem oN:(∀ir,cg Φ ir)/\∀eZ,kY Φ eZ:=by
 have one:∀ir,cg Φ ir:=by
  intro ir;exact IE.rec (motive_1:=λir=>cg Φ ir) (motive_2:=λeZ=>kY Φ eZ) (λ_=>Oa) (λ_=>Oc) (λ_ _=>Od) SD (λ_ _ _ a b=>Oe a b) (λ_ a=>Of a) (λ_ _ _ a b=>Og a b) (λ_ _ _ _ _ a b c=>Oh a b c)
   (λ_ _ a b=>Oi a b) (λ_ _ a b=>SE a b) (λ_ a=>Oj a) (λ_ _ _ a b c=>Ol a b c) (λ_ a=>Om a) (λ_ a=>Oo a) (λ_ _ a b=>Oq a b) (λ_ _ _ a b c=>Ot a b c) (λ_ _ a=>J2 a) (λ_ _ a=>OF a)
   (λ_ _ _ a b=>OG a b) (λ_ _ _ _ _ _ _ a b c=>Ke a b c) JZ (λ_ a=>J8 a) (λ_ _ _ a b c=>J9 a b c) (λ_ _ a b=>Kf a b) (λ_ a=>E7 a) (λ_ _ _ a b c=>Ka a b c) (λ_ a=>E9 a) (λ_ a=>E8 a) (λ_ _ _ a=>Ov a) (λ_ _ _ _ a b=>Ow a b) (λ_ _ a b=>Ou a b) (λ_ _ _ _ _ _ _ _=>Kg) (λ_ _ _ a=>OJ a) E4 (λ_ _ a b=>Bs a b) ir
 refine⟨one,λeZ=>?_⟩
 induction eZ using mP.rec (motive_1:=λ_=>True) with
 |nil=>exact E4
 |cons e es _ ih=>exact Bs (one e) ih
 |_=>trivial
end
def oO:Expr->Bool
 |.ListComp ..=>false|.SetComp ..=>false|.DictComp ..=>false
 |_=>true
def SJ:Expr->Bool
 |.Tuple ..=>false
 |_=>true
def WH:Expr->Bool
 |.SetComp ..=>false|.DictComp ..=>false
 |_=>true
mutual
noncomputable def SK(Γ:qi):IS->Stmt->Bool
 |.expr e,s=>ET (λx _=>oO x&&bI Γ e x) s
 |.asg p e,s=>JT (λq1 x _=>k1 (λtg=>yg Γ p tg&&bI Γ e x&&(match p with|.one _=>WH x|.tup _=>oO x&&SJ x)) q1) s
 |.aug i o e,s=>Su (λq1 op v _=>jI (λx _=>Γ.N[i]?==some x&&(Γ.sc.names.lookup x==some .local || Γ.sc.names.lookup x==some .cell)&&N7 o op&&(match o with|.pow=>false|_=>true)&&bI Γ e v) q1) s
 |.eW o i v,s=>JT (λq1 x _=>k1 (λq2=>EI (λa b _=>qj b&&oO x&&bI Γ o a&&bI Γ i b&&bI Γ v x) q2) q1) s
 |.iff c a b,s=>XU (λt x y _=>bI Γ c t&&bg Γ a x&&bg Γ b y) s
 |.for p k it body,s=>Sw (λtg iter x q1 _=>xY q1 (yg Γ p tg&&Bq Γ k it iter&&(match k,p with|.enum,.one _=>false|.zip,.one _=>false|_,_=>true)&&bg Γ body x)) s
 |.whl _ c body,s=>EU (λt x q1 _=>xY q1 (bI Γ c t&&bg Γ body x)) s
 |.ret e,s=>N3 (λq1 _=>EO (λx=>bI Γ e x) q1) s
 |.EA,s=>N3 (λq1 _=>xZ q1 (true)) s
 |.brk,s=>Sx (λ_=>true) s
 |.cnt,s=>Sy (λ_=>true) s
 |.pass,s=>LN (λ_=>true) s||ET (λq1 _=>z5 (λq2 _ _=>Ss (λ_=>true) q2) q1) s
 |.never,_=>true
 |.setF n a x v,s=>JT (λq1 e _=>k1 (λq2=>Bh (λo y _=>x==y&&oO e&&n == Γ.tb.nc && Γ.tb.JV.contains x&&bI Γ a o&&bI Γ v e) q2) q1) s
noncomputable def bg(Γ:qi):di->List Stmt->Bool
 |.nil,ls=>ls.isEmpty
 | .cons s r,ls=>match ls with
  |l::ls=>SK Γ s l&&bg Γ r ls
  |[]=>false
end
structure OL (Φ:Fn) (Γ:qi) (k:Nat) (X:Cx) (cl:Nat->Addr) (EX:Nat->List V->Hp->Prop):Prop extends Ctx Φ Γ k X cl EX where
 fn:∀x,X.fn x=true
 nd:X.N.Nodup
 kind:X.env.scope.kind=.function
 xe:PassesOwn (model X.prog X.w) X.A X.env X.xe
def WF(K:Frag)(D:Ends):Fl->Hs->List Addr->Hp->Prop
 |.nx env',_,ρ',H'=>∀σ',cP K ρ' env' σ' H'->env'.length = σ'.length->D.nx σ' H'
 |.rt v,_,ρ',H'=>∀x,VR K ρ' H' v x->D.rt x H'
 |.bk env',_,ρ',H'=>∀σ',cP K ρ' env' σ' H'->env'.length = σ'.length->D.bk σ' H'
 |.ct env',_,ρ',H'=>∀σ',cP K ρ' env' σ' H'->env'.length = σ'.length->D.ct σ' H'
def tS(Φ:Fn)(B:Bd)(EX:Nat->List V->Hp->Prop)(ir:IS):TS:=λD σ H=>∃ρ env h,cP B.K ρ env σ H/\env.length = σ.length/\HR B ρ h H/\Post B EX ρ H (WF B.K D) (dX Φ ir env h)
def ZQ(Φ:Fn)(B:Bd)(EX:Nat->List V->Hp->Prop)(ir:di):TS:=λD σ H=>∃ρ env h,cP B.K ρ env σ H/\env.length = σ.length/\HR B ρ h H/\Post B EX ρ H (WF B.K D) (dj Φ ir env h)
theorem _root_.L2.PS.imp(h:PS X e t)(i:∀D σ H,t' D σ H->t D σ H):PS X e t':=λpins s σ H D I hw=>h pins s σ H D I (i D σ H hw)
theorem _root_.L2.zc.imp(h:zc X e t)(i:∀D σ H,t' D σ H->t D σ H):zc X e t':=λpins s σ H D I hw=>h pins s σ H D I (i D σ H hw)
section
variable {Φ:Fn} {Γ:qi} {k:Nat} {X:Cx} {cl:Nat->Addr} {EX:Nat->List V->Hp->Prop}
def zf(Φ:Fn)(ir:IS):Prop:=∀(Γ:qi) (k:Nat) (X:Cx) (cl:Nat->Addr) (EX:Nat->List V->Hp->Prop) (st:Stmt),OL Φ Γ k X cl EX->SK Γ ir st=true->PS X st (tS Φ (bd X cl) EX ir)
def vO(Φ:Fn)(eZ:di):Prop:=∀(Γ:qi) (k:Nat) (X:Cx) (cl:Nat->Addr) (EX:Nat->List V->Hp->Prop) (st:List Stmt),OL Φ Γ k X cl EX->bg Γ eZ st=true->zc X st (ZQ Φ (bd X cl) EX eZ)
theorem kZ{n:Nat}(h:oO e=true):swapsWith e t n env=pure false:=by
 cases e<;>first|rfl|(exact absurd h aac)
theorem Kh(ir:IE)(c:Ctx Φ Γ k X cl EX)(h:bI Γ ir e=true):PE X e (tV Φ (bd X cl) EX ir):=(oN.1 ir Γ k X cl EX e c h).1
theorem X5(ir:IE)(c:Ctx Φ Γ k X cl EX)(h:bI Γ ir e=true):PT X e (tT Φ (bd X cl) EX ir):=(oN.1 ir Γ k X cl EX e c h).2
theorem OM:zf Φ (.expr e):=by
 intro Γ k X cl EX st c h;apply Bp h;intro x _ h;simp only[and_eq_true]at h;refine(IV (Kh e c.toCtx h.2) (kZ h.1)).imp λD σ H aI=>?_;obtain⟨ρ,env,h,hE,hl,r,p⟩:=aI;simp only[dX]at p;exact⟨ρ,env,h,hE,r,av p λv h1 ρ1 x H1 g1 r1 q1 p1=>aj r1 p1 σ (hE.up g1) hl⟩
theorem SM:zf Φ (.asg p e):=by
 intro Γ k X cl EX st c h;apply z7 h;intro q1 x pos h;apply kJ h;intro tg h;simp only[and_eq_true]at h;obtain⟨⟨h1,h2⟩,h3⟩:=h;have hg:=Bv c.toCtx c.fn c.nd h1;have he:=Kh e c.toCtx h2;have fin:∀D σ H,tS Φ (bd X cl) EX (.asg p e) D σ H->IX (tV Φ (bd X cl) EX e) (C1 X.K p) D σ H:=λD σ H ⟨ρ,env,h,hE,hl,r,pp⟩=>by
  simp only[dX]at pp;refine⟨ρ,env,h,hE,r,av pp λv h1 ρ1 x H1 g1 r1 q1 p1=>?_⟩;obtain⟨env',e1,p2⟩:=bJ p1;exact Bw e1 q1 (hE.up g1) hl λσ' WI hl' _=>aj r1 p2 σ' WI hl'
 have ZR:(assignEach [tg] X.env).map (·.2)=[assign tg X.env]:=by
  cases p with
  |one i=>obtain⟨t,tp,rfl⟩:=rJ h1;rfl
  |tup is=>obtain⟨es,kk,tp,rfl⟩:=nD h1;rfl
 cases p with
 |tup is=>
  simp only[and_eq_true]at h3;refine(DM he hg ?_ ?_ ZR).imp fin
  ·show swapsWith x (some tg) _ _=_;exact kZ h3.1
  ·obtain⟨es,kk,tp,rfl⟩:=nD h1;cases x<;>first|rfl|(exact absurd h3.2 aac)
 |one i=>
  obtain⟨t,tp,rfl⟩:=rJ h1
  ·
   simp only[yg,and_eq_true,beq_iff_eq]at h1;have loc:L2.Loc X.env.scope t:=by unfold L2.Loc;rw[c.sc];simpa using h1.2
   have pl:oO x=true->PS X (.Assign [.Name t tp] x pos) (tS Φ (bd X cl) EX (.asg (.one i) e)):=λhx=>(DN c.nd (by rw[c.N];exact h1.1) loc he (kZ hx) (.inl (c.fn t))).imp fin;cases x with
   |ListComp e' gens scope p2=>
    cases hb:(X.env.kindOf t==some .local&&tp.line==p2.line && !(scope.names.any λ(n,k)=>n==t&&(k==.local||k==.cell))) with
    |false=>
     refine(DN c.nd (by rw[c.N];exact h1.1) loc he ?_ (.inl (c.fn t))).imp fin;have bk:(X.env.blockKind==.function)=true:=by unfold Env.blockKind;rw[c.kind];rfl
     show (pure (X.env.blockKind==.function&&X.env.kindOf t==some .local&&tp.line==p2.line && !(scope.names.any λ(n,k)=>n==t&&(k==.local||k==.cell))):Sem Bool)=pure false;rw[bk,Bool.true_and,hb]
    |true=>
     have bk:(X.env.blockKind==.function)=true:=by unfold Env.blockKind;rw[c.kind];rfl
     have hsw:swapsWith (.ListComp e' gens scope p2) (some (.Name t tp)) pos.line X.env=pure true:=by show (pure (X.env.blockKind==.function&&X.env.kindOf t==some .local&&tp.line==p2.line && !(scope.names.any λ(n,k)=>n==t&&(k==.local||k==.cell))):Sem Bool)=pure true;rw[bk,Bool.true_and,hb]
     cases e with
     |comp N' js pat ik it SN elt=>obtain⟨e2,WG,iter,ifs,Ac,pos2,wi,g,tt,te,q0,q1,q2,q3,q4,q5,q6,q7⟩:=rL (oN.2 it) (oN.1 SN) (oN.1 elt) c.toCtx h2;cases q0;refine(AR c.nd (by rw[c.N];exact h1.1) loc q1 c.calm q2 q3 q4 q5 hsw (.inl (c.fn t)) q6).imp λD σ H hh=>?_;exact q7 σ H _ (fin D σ H hh)
     |dflt N' js p q d w=>obtain⟨e2,WG,iter,ifs,Ac,pos2,wi,g,tt,te,q0,q1,q2,q3,q4,q5,q6,q7⟩:=rM c.toCtx h2;cases q0;refine(JJ (AR c.nd (by rw[c.N];exact h1.1) loc q1 c.calm q2 q3 q4 q5 hsw (.inl (c.fn t)) q6)).imp λD σ H hh=>?_;exact q7 σ H _ (fin D σ H hh)
     |_=>first|exact absurd h2 aac|(rw[bI.eq_def]at h2;cases h2)
   |SetComp _ _ _ _=>exact absurd h3 aac
   |DictComp _ _ _ _ _=>exact absurd h3 aac
   |_=>exact pl rfl
def X6(B:Bd)(EX:Nat->List V->Hp->Prop)(o:JM):R2:=λx y H Q=>∃ρ h i j,HR B ρ h H/\x=.int i/\y=.int j/\Post B EX ρ H (WV B.K Q) (LG o (.int i) (.int j) h)
theorem ON(ho:(match o with|.pow=>false|_=>true)=true):kR X (inplaceOp (z4 o)) (X6 (bd X cl) EX o):=by
 intro pins s σ H x y v' u' Q I rx ry hh;obtain⟨ρ,h,i,j,r,rfl,rfl,p⟩:=hh;cases o with
 |add=>exact Jc pins s σ H _ _ _ _ Q I rx ry ⟨_,_,rfl,rfl,aj r p _ VR.int⟩
 |sub=>exact Jd pins s σ H _ _ _ _ Q I rx ry ⟨_,_,rfl,rfl,aj r p _ VR.int⟩
 |mul=>obtain⟨hm,p⟩:=aK p;refine Je pins s σ H _ _ _ _ Q I rx ry ⟨_,_,rfl,rfl,?_,aj r p _ VR.int⟩;unfold fk at hm;simp only[or_eq_true,and_eq_true,decide_eq_true_eq]at hm;exact hm
 |fdiv=>obtain⟨hm,p⟩:=aK p;exact CQ pins s σ H _ _ _ _ Q I rx ry ⟨_,_,rfl,rfl,hm,aj r p _ VR.int⟩
 |mod=>obtain⟨hm,p⟩:=aK p;have hm:=aax hm;exact Jf pins s σ H _ _ _ _ Q I rx ry ⟨_,_,rfl,rfl,hm,aj r p _ VR.int⟩
 |pow=>cases ho
theorem SO{i:Nat}:zf Φ (.aug i o e):=by
 intro Γ k X cl EX st c h;apply N1 h;intro q1 op v pos h;apply dR h;intro x xp h;simp only[and_eq_true,beq_iff_eq]at h;obtain⟨⟨⟨⟨h1,h2⟩,h3⟩,h4⟩,h5⟩:=h;have eo:op=z4 o:=Br h3;subst eo;have loc:L2.Loc X.env.scope x:=by unfold L2.Loc;rw[c.sc];simpa using h2
 refine(ML (ti:=X6 (bd X cl) EX o) c.nd (by rw[c.N];exact h1) loc (Kh e c.toCtx h5) (ON h4) (.inl (c.fn x))).imp λD σ H aI=>?_;obtain⟨ρ,env,h,hE,hl,r,p⟩:=aI;simp only[dX]at p;obtain⟨n,e1,p⟩:=bJ p;split at e1<;>cases e1;rename_i e1;obtain⟨y,k1,k2⟩:=hE i _ e1;rw[VR]at k2;subst k2;refine⟨_,k1,ρ,env,h,hE,r,av p λv h1 ρ1 z H1 g1 r1 q1 p1=>?_⟩;obtain⟨m,e2,p2⟩:=bJ p1;cases uL e2;rw[VR]at q1;subst q1;refine⟨ρ1,h1,n,m,r1,rfl,rfl,av p2 λw h2 ρ2 u H2 g2 r2 q2 p3=>?_⟩;exact aj r2 p3 _ (((hE.up g1).up g2).set hl q2) (by simp[hl])
def SQ(B:Bd)(EX:Nat->List V->Hp->Prop):MI:=λo i v H Q=>∃ρ h a b w,HR B ρ h H/\VR B.K ρ H a o/\VR B.K ρ H b i/\VR B.K ρ H w v/\Post B EX ρ H (λ_ _ _ H'=>Q H') (uH a b w h)
theorem OO(hu:X.A.units+64<cLine):MJ X (SQ (bd X cl) EX):=by
 intro pins s σ H o i v ov iv u Q I ro ri rv hh;obtain⟨ρ,h,a,b,w,r,ha,hb,hw,p⟩:=hh;cases a with
 |ref j=>
  simp only[uH]at p;obtain⟨ob,e1,p⟩:=aF p;have dict:∀kvs,ob=.dct kvs->Post (bd X cl) EX ρ H (λ_ _ _ H'=>Q H') (bnd (bD (keyOf b)) (λk=>aH (decide (kvs.length<sizeLine)) (put j (.dct (iW kvs k w)))) h)->wpAny (model X.prog X.w) X.A (setItem ov iv u) (λ_ s'=>∃H',L2.Inv X pins σ H' s'/\Q H') X.xe s:=by rintro kvs rfl p;obtain⟨kk,e2,p⟩:=bJ p;obtain⟨e3,p⟩:=aK p;have e3:=aax e3;rw[VR]at ha;obtain⟨A,rfl,k1⟩:=ha;obtain⟨ks,k2,k3⟩:=r.ob j _ A e1 k1;cases ro;have ek:=NC hb e2;subst ek;refine Cu (by omega) I (Jw.k (v:=v) k2 (by rw[<-k3.length];exact e3)) ri rv λs' I'=>⟨_,I',?_⟩;have g:Gr ρ H ρ (upd H A (.dK (putK ks kk v))):=Gr.put (aaE k1) k2 rfl;exact p ρ _ g (r.put k1 e1 (u:=.dct (iW kvs kk w)) ⟨_,aP,iw.put kk (VR.up g _ _ hw) (iw.up g _ _ k3)⟩)
  cases ob with
  |lst xs=>
   cases b<;>first|(exact p.elim)|skip
   rename_i n _;obtain⟨jj,e2,p⟩:=bJ p;obtain⟨A,ys,rfl,k1,k2,k3⟩:=lQ r ha e1;rw[VR]at hb;subst hb;refine set_list pins s σ H _ _ v ov iv u Q I ro ri rv ⟨A,ys,n,jj,rfl,rfl,k2,by rw[<-k3.length];exact e2,?_⟩;have g:Gr ρ H ρ (upd H A (.lst (ys.set jj v))):=Gr.put (aaE k1) k2 rfl;exact p ρ _ g (r.put k1 e1 (u:=.lst (xs.set jj w)) ⟨_,aP,az.set jj (az.up g _ _ k3) (VR.up g _ _ hw)⟩)
  |dct kvs=>exact dict kvs rfl (by cases b<;>exact p)
  |ins c fs=>cases b<;>exact p.elim
 |_=>exact p.elim
theorem OP:zf Φ (.eW o i v):=by
 intro Γ k X cl EX st c h;apply z7 h;intro q1 x pos h;apply kJ h;intro q2 h;apply vF h;intro a b sp h;simp only[and_eq_true]at h;obtain⟨⟨⟨⟨h1,h2⟩,h3⟩,h4⟩,h5⟩:=h;have ZS:PG X (.Subscript a b sp) (Rt (tV Φ (bd X cl) EX o) (tV Φ (bd X cl) EX i) (SQ (bd X cl) EX)):=MK (Kh o c.toCtx h3) (Kh i c.toCtx h4) (OO c.units) (by
  intro v;cases b<;>first|rfl|(exact absurd h1 aac))
 refine(DM (Kh v c.toCtx h5) ZS (kZ (t:=some (.Subscript a b sp)) (n:=pos.line) (env:=X.env) h2) (by cases x<;>rfl) rfl).imp λD σ H aI=>?_;obtain⟨ρ,env,h,hE,hl,r,p⟩:=aI;simp only[dX]at p;refine⟨ρ,env,h,hE,r,av p λw h1 ρ1 x1 H1 g1 r1 q1 p1=>⟨ρ1,env,h1,hE.up g1,r1,av p1 λw2 h2 ρ2 x2 H2 g2 r2 q2 p2=>⟨ρ2,env,h2,(hE.up g1).up g2,r2,av p2 λw3 h3 ρ3 x3 H3 g3 r3 q3 p3=>?_⟩⟩⟩;refine⟨ρ3,h3,w2,w3,w,r3,VR.up g3 _ _ q2,q3,VR.up (g2.trans g3) _ _ q1,bw p3 λ_ h4 ρ4 H4 g4 r4 p4=>?_⟩;exact aj r4 p4 σ (((hE.up g1).up g2).up g3 |>.up g4) hl
theorem SS(ha:vO Φ a)(hb:vO Φ b):zf Φ (.iff t a b):=by
 intro Γ k X cl EX st c h;apply Sv h;intro tt x y pos h;simp only[and_eq_true]at h;refine(Ro (X5 t c.toCtx h.1.1) (ha Γ k X cl EX x c h.1.2) (hb Γ k X cl EX y c h.2)).imp λD σ H aI=>?_;obtain⟨ρ,env,h,hE,hl,r,p⟩:=aI;simp only[dX]at p;refine⟨ρ,env,h,hE,r,oH p λv h1 p1=>?_⟩;obtain⟨s,e1,p2⟩:=aF p1;refine⟨s,e1,λρ1 H1 g1 r1=>?_⟩;have p2:=Post.up g1 p2;cases s with
 |true=>rw[aai rfl]at p2 |-;exact⟨ρ1,env,h1,hE.up g1,hl,r1,p2⟩
 |false=>rw[aal aac]at p2 |-;exact⟨ρ1,env,h1,hE.up g1,hl,r1,p2⟩
theorem SV(hb:vO Φ body):zf Φ (.for p ik it body):=by
 intro Γ k X cl EX st c h;apply N2 h;intro tg iter x q1 pos h;apply mT h;intro h;simp only[and_eq_true]at h;obtain⟨⟨⟨h1,h2⟩,h3⟩,h4⟩:=h;have hen:ik=.enum\/ik=.zip->∃es kk pos,tg=.Tuple es kk pos:=by
  intro hz;cases p with
  |one i=>rcases hz with rfl|rfl<;>cases h3
  |tup is=>exact nD h1
 obtain⟨hi,hf⟩:=LR (oN.2 it) c.toCtx h2 hen;refine(MO c.xe c.calm hi (Bv c.toCtx c.fn c.nd h1) (hb Γ k X cl EX x c h4) hf).imp λD σ H aI=>?_;obtain⟨ρ,env,h,hE,hl,r,pp⟩:=aI;simp only[dX]at pp;have p':Post (bd X cl) EX ρ H (WF X.K D) (bnd (QT Φ ik it env) (λsrc=>bnd (ask λh=>src.items h) λxs=>forM src (λx env=>bnd (bD (fS p x env)) λenv'=>dj Φ body env') xs.length 0 env) h):=by unfold QT;rw[bx];exact pp
 refine⟨ρ,env,h,hE,r,bw p' λsrc h1 ρ1 H1 g1 r1 p1=>?_⟩;obtain⟨xs,e1,p2⟩:=aF p1;refine⟨⟨xs,e1⟩,λJ wk=>?_⟩;refine⟨λi m σ' H'=>∃ρ' env' h',Gr ρ1 H1 ρ' H'/\cP X.K ρ' env' σ' H'/\env'.length = σ'.length/\HR (bd X cl) ρ' h' H'/\Post (bd X cl) EX ρ' H' (WF X.K D) (forM src (λx env=>bnd (bD (fS p x env)) λenv'=>dj Φ body env') m i env' h'),
  ⟨xs.length,ρ1,env,h1,Gr.refl,hE.up g1,hl,r1,p2⟩,?_⟩
 rintro i m σ' H' ⟨ρ',env',h',w1,w2,w3,w4,w5⟩;cases m with
 |zero=>simp only[forM]at w5;obtain⟨xs',k1,w5⟩:=aF w5;obtain⟨k2,w5⟩:=aK w5;exact .inl ⟨wk.stop w1.w w4 k1 (aax k2),aj w4 w5 σ' w2 w3⟩
 |succ m=>
  simp only[forM]at w5;obtain⟨xs',k1,w5⟩:=aF w5;cases hx:xs'[i]? with
  |none=>rw[hx]at w5;exact .inl ⟨wk.stop w1.w w4 k1 (List.getElem?_eq_none_iff.mp hx),aj w4 w5 σ' w2 w3⟩
  |some v=>
   rw[hx]at w5;dsimp only at w5;refine .inr ⟨wk.go w1.w w4 k1 hx,_,λAO JB w=>⟨m,lt_succ_self _,w⟩,λy H2 hy=>?_⟩;obtain⟨z1,z2,z3⟩:=wk.zl w1.w w4 k1 hx hy;rw[bx]at w5;obtain⟨iG,k2,w5⟩:=bJ w5;refine Bw k2 z3 (w2.up z1) w3 λσ2 Vd hl2 _=>⟨ρ',iG,h',Vd,hl2,z2,bw (Post.up z1 w5) λf h3 ρ3 H3 g3 r3 p3=>?_⟩;cases f with
   |nx vP=>exact λσ3 Fi hl3=>⟨ρ3,vP,h3,(w1.trans z1).trans g3,Fi,hl3,r3,p3⟩
   |ct vP=>exact λσ3 Fi hl3=>⟨ρ3,vP,h3,(w1.trans z1).trans g3,Fi,hl3,r3,p3⟩
   |bk vP=>exact λσ3 Fi hl3=>aj r3 p3 σ3 Fi hl3
   |rt v=>exact(aj r3 p3:WF X.K D (.rt v) h3 ρ3 H3)
theorem SW{n:Nat}(hb:vO Φ body):zf Φ (.whl n t body):=by
 intro Γ k X cl EX st c h;apply EW h;intro tt x q1 pos h;apply mT h;intro h;simp only[and_eq_true]at h;refine(DO c.xe (X5 t c.toCtx h.1) (hb Γ k X cl EX x c h.2)).imp λD σ H aI=>?_;obtain⟨ρ,env,h,hE,hl,r,p⟩:=aI;simp only[dX]at p;refine⟨λm σ H=>∃ρ env h,cP X.K ρ env σ H/\env.length = σ.length/\HR (bd X cl) ρ h H/\Post (bd X cl) EX ρ H (WF X.K D) (CP (λenv=>bnd (aD Φ t env) λx=>ask λh=>ck h x) (dj Φ body) m env h),⟨n,ρ,env,h,hE,hl,r,p⟩,?_⟩;rintro m σ' H' ⟨ρ',env',h',w1,w2,w3,w4⟩;cases m with
 |zero=>exact w4.elim
 |succ m=>
  simp only[CP]at w4;refine⟨ρ',env',h',w1,w3,bw (m:=N9 Φ t env') w4 λb h1 ρ1 H1 g1 r1 p1=>?_⟩;show if b=true then _ else _
  cases b with
  |true=>
   rw[aai rfl]at p1 |-;refine⟨_,λAO JB w=>⟨m,lt_succ_self _,w⟩,ρ1,env',h1,w1.up g1,w2,r1,bw p1 λf h3 ρ3 H3 g3 r3 p3=>?_⟩;cases f with
   |nx vP=>exact λσ3 Fi hl3=>⟨ρ3,vP,h3,Fi,hl3,r3,p3⟩
   |ct vP=>exact λσ3 Fi hl3=>⟨ρ3,vP,h3,Fi,hl3,r3,p3⟩
   |bk vP=>exact λσ3 Fi hl3=>aj r3 p3 σ3 Fi hl3
   |rt v=>exact(aj r3 p3:WF X.K D (.rt v) h3 ρ3 H3)
  |false=>rw[aal aac]at p1 |-;exact aj r1 p1 σ' (w1.up g1) w2
theorem SX:zf Φ (.ret e):=by
 intro Γ k X cl EX st c h;apply EY h;intro q1 _ h;apply Bm h;intro x h;refine(MG (Kh e c.toCtx h)).imp λD σ H aI=>?_;obtain⟨ρ,env,h,hE,hl,r,p⟩:=aI;simp only[dX]at p;exact⟨ρ,env,h,hE,r,av p λv h1 ρ1 x H1 g1 r1 q1 p1=>aj r1 p1 x q1⟩
theorem OQ:zf Φ .EA:=by
 intro Γ k X cl EX st c h;apply EY h;intro q1 _ h;apply qh h;intro h;refine IW.imp λD σ H aI=>?_;obtain⟨ρ,env,h,hE,hl,r,p⟩:=aI;simp only[dX]at p;exact aj r p _ VR.non
theorem SY:zf Φ .brk:=by
 intro Γ k X cl EX st c h;apply N4 h;intro _ h;refine DJ.imp λD σ H aI=>?_;obtain⟨ρ,env,h,hE,hl,r,p⟩:=aI;simp only[dX]at p;exact aj r p σ hE hl
theorem S0:zf Φ .cnt:=by
 intro Γ k X cl EX st c h;apply N5 h;intro _ h;refine wN.imp λD σ H aI=>?_;obtain⟨ρ,env,h,hE,hl,r,p⟩:=aI;simp only[dX]at p;exact aj r p σ hE hl
theorem OS:zf Φ .pass:=by
 intro Γ k X cl EX st c h
 rcases XT h with h|h
 ·apply JU h;intro _ h;refine IU.imp λD σ H aI=>?_;obtain⟨ρ,env,h,hE,hl,r,p⟩:=aI;simp only[dX]at p;exact aj r p σ hE hl
 ·apply Bp h;intro q1 _ h;apply xW h;intro q2 _ _ h;apply NZ h;intro _ h;refine MF.imp λD σ H aI=>?_;obtain⟨ρ,env,h,hE,hl,r,p⟩:=aI;simp only[dX]at p;exact aj r p σ hE hl
theorem Kl:zf Φ .never:=by
 intro Γ k X cl EX st c h;refine DK.imp λD σ H aI=>?_;obtain⟨ρ,env,h,hE,hl,r,p⟩:=aI;simp only[dX]at p;exact p.elim
theorem C3{α β:Type}(c:Bool)(m:M α)(f:α -> M β):bnd (aH c m) f=aH c (bnd m f):=by
 funext h;unfold bnd aH;cases c<;>rfl
theorem OT{n:Nat}:zf Φ (.setF n a x v):=by
 intro Γ k X cl EX st c h;apply z7 h;intro q1 e pos h;apply kJ h;intro q2 h;apply vG h;intro o y ap h;simp only[and_eq_true,beq_iff_eq,contains_iff_mem]at h;obtain⟨⟨⟨⟨⟨h1,h2⟩,h3⟩,h4⟩,h5⟩,h6⟩:=h;subst h1;refine(MZ (Kh a c.toCtx h5) (Kh v c.toCtx h6) (kZ (t:=some (.Attribute o x ap)) (n:=pos.line) (env:=X.env) h2)).imp λD σ H aI=>?_;obtain⟨ρ,env,h,hE,hl,r,p⟩:=aI;simp only[dX]at p;refine⟨ρ,env,h,hE,r,av p λw h1 ρ1 x1 H1 g1 r1 q1 p1=>⟨ρ1,env,h1,hE.up g1,r1,av p1 λw2 h2 ρ2 x2 H2 g2 r2 q2 p2=>?_⟩⟩;cases w2<;>first|exact p2.elim|skip
 rename_i i;rw[VR]at q2;obtain⟨ad,rfl,q2⟩:=q2;unfold AY at p2;dsimp only at p2;rw[bx]at p2;obtain⟨pr,e1,p3⟩:=aF p2;have hx:h2[i]?=some (.ins pr.1 pr.2)/\pr.1<n:=by
  split at e1
  ·rename_i c0 fs e2
   split at e1
   ·rename_i hc;cases e1;exact⟨e2,hc⟩
   ·cases e1
  ·cases e1
 obtain⟨dx,gs,k1,k2⟩:=r2.ob i _ ad hx.1 q2;obtain⟨cc,nn⟩:=c.cls pr.1 (by omega);have p4:Post (bd X cl) EX ρ2 H2 (WF X.K D) (aH (decide (pr.2.length<1000)) (bnd (put i (.ins pr.1 (qZ x w pr.2))) λ_=>ret (.nx env)) h2):=by rw[<-C3];exact p3
 obtain⟨el,p5⟩:=aK p4;refine⟨ad,cl pr.1,dx,gs,rfl,k1,cc,nn x h4,by rw[<-k2.length];exact aax el,?_⟩;have g:Gr ρ2 H2 ρ2 (upd H2 ad (.ins (cl pr.1) dx (j5 x x1 gs))):=Gr.put (aaE q2) k1 rfl;exact p5 ρ2 _ g (r2.put q2 hx.1 (u:=.ins pr.1 (qZ x w pr.2)) ⟨dx,_,aP,nv.put (VR.up (g2.trans g) _ _ q1) (nv.up g _ _ k2)⟩) σ (((hE.up g1).up g2).up g) hl
theorem OU:vO Φ .nil:=by
 intro Γ k X cl EX st c h;rw[bg]at h;cases st with
 |cons _ _=>cases h
 |nil=>refine IT.imp λD σ H aI=>?_;obtain⟨ρ,env,h,hE,hl,r,p⟩:=aI;simp only[dj]at p;exact aj r p σ hE hl
theorem Km(h1:zf Φ s)(h2:vO Φ ss):vO Φ (.cons s ss):=by
 intro Γ k X cl EX st c h;rw[bg.eq_def]at h;dsimp only at h;cases st with
 |nil=>cases h
 |cons l ls=>
  simp only[and_eq_true]at h;refine(DI (h1 Γ k X cl EX l c h.1) (h2 Γ k X cl EX ls c h.2)).imp λD σ H aI=>?_;obtain⟨ρ,env,h,hE,hl,r,p⟩:=aI;simp only[dj]at p;refine⟨ρ,env,h,hE,hl,r,bw p λf h1 ρ1 H1 g1 r1 p1=>?_⟩;cases f with
  |nx env'=>exact λσ' WI hl'=>⟨ρ1,env',h1,WI,hl',r1,p1⟩
  |rt v=>exact(aj r1 p1:WF X.K D (.rt v) h1 ρ1 H1)
  |bk env'=>exact(aj r1 p1:WF X.K D (.bk env') h1 ρ1 H1)
  |ct env'=>exact(aj r1 p1:WF X.K D (.ct env') h1 ρ1 H1)
theorem Fj:∀eZ,vO Φ eZ:=by
 intro eZ;exact di.rec (motive_1:=λs=>zf Φ s) (motive_2:=λss=>vO Φ ss) (λ_=>OM) (λ_ _=>SM) (λ_ _ _=>SO) (λ_ _ _=>OP) (λ_ _ _ a b=>SS a b) (λ_ _ _ _ a=>SV a) (λ_ _ _ a=>SW a) (λ_=>SX) OQ SY S0 OS Kl (λ_ _ _ _=>OT)
  OU (λ_ _ a b=>Km a b) eZ
end
abbrev Row:=Str×Nat×(List Val->M Val)
def look(fs:List Row)(j:Nat):List Val->M Val:=match fs[j]? with
 |some r=>r.2.2
 |none=>λ_=>bD none
def b6(P:Program)(w:World)(B:Bd)(mg:Str->Option Value)(base:Heap)(k:Nat)(fs:List Row):Prop:=∀(j:Nat) (r:Row),fs[j]?=some r->QO P w B mg base k j r.1 r.2.1 r.2.2
def aN(N P:List Str)(sc:Scope):Bool :=
 sc.kind==.function && !sc.isCoroutine && !sc.isGenerator&&decide N.Nodup&&N.take P.length==P&&(P.all λx=>sc.names.lookup x==some .local||sc.names.lookup x==some .cell)&&(sc.names.all λy=>y.2 != .free)
theorem Fo(h:aN N P sc=true):qd N P sc:=by
 unfold aN at h;simp only[and_eq_true,beq_iff_eq,not_eq_true',decide_eq_true_eq,all_eq_true,or_eq_true,bne_iff_ne]at h;obtain⟨⟨⟨⟨⟨⟨h1,h2⟩,h3⟩,h4⟩,h5⟩,h6⟩,h7⟩:=h;exact⟨h1,h2,h3,h4,h5,h6,h7⟩
structure Base (K:Frag) (cl:Nat->Addr) (mg:Str->Option Value) (cons:List (Str×Val)) (tb:Tb):Prop where
 blt:∀x∈bltNames,mg x=none
 cons:∀p∈cons,∃v u,mg p.1=some u/\RelV v u/\∀K ρ H,VR K ρ H p.2 v
 cls:∀c,c<tb.nc->Dy K (cl c)/\∀x∈tb.JV,kT K (cl c) x
 JW:∀p∈tb.JW,Meth K (cl p.1) p.2.1 (cl (1000+p.2.2))
 Iw:∀p∈tb.Iw,∃C,mg p.1=some (.ref C)/\Nt K C p.2.1 (cl (1000+p.2.2))
 isc:∀p∈tb.isc,∃C,mg p.1=some (.ref C)/\∀c b,p.2[c]?=some b->XR K (cl c)/\kitOne K (.ref (cl c)) (.ref C)=some b
section
variable {P:Program} {w:World} {K:Frag} {cl:Nat->Addr} {mg:Str->Option Value} {base:Heap} {k:Nat} {fs:List Row} {cons:List (Str×Val)} {tb:Tb}
theorem Bx{x qual:Str}{st:Stmt}{f:Addr}{fd:FuncData}{N ps:List Str}{body:di}(T:Base K cl mg cons tb)(A:b6 P w ⟨K,cl⟩ mg base k fs)(F:Ip K x qual st f fd)(hS:aN N ps (af st)=true)
  (hc:bg ⟨N,af st,fs.map (λr=>(r.1,r.2.1)),cons,tb⟩ body (aA st)=true):fW P w K mg base zd (k+2) f fd ps (vI ⟨K,cl⟩ ps.length (fT (look fs) N.length body)):=by
 have S:=Fo hS;refine F.ok S (λvs H Q E h=>?_) (λcdv A' outer s H vs Q E hr h=>?_)
 ·obtain⟨ρ,h,ws,h1,_,h2,_⟩:=h;rw[<-h2.length,h1]
 ·obtain⟨ρ,h,ws,hl,r,hv,p⟩:=h
  have lv:=hv.length
  let X:Cx:=(zC zd P w K mg base N qual (af st) f cdv A' outer s H E).Rj
  have c:OL (look fs) ⟨N,af st,fs.map (λr=>(r.1,r.2.1)),cons,tb⟩ k X cl (λ_ _ _=>False):=by
   refine { N:=rfl,sc:=rfl,calm:=rfl,room:=hr,mH:=λ_ _ _ z=>z,fns:=λj x n e=>?_,cls:=T.cls,JW:=T.JW,Iw:=T.Iw,isc:=T.isc,cons:=T.cons,blt:=T.blt,fn:=λ_=>rfl,nd:=S.nd,kind:=S.kind,xe:=PassesOwn.never };have e':(fs.map (λr=>(r.1,r.2.1)))[j]?=some (x,n):=e;rw[aaD]at e';cases er:fs[j]? with
   |none=>rw[er]at e';cases e'
   |some r=>rw[er]at e';cases e';have:=A j r er;unfold look;rw[er];exact this
  refine⟨_,Fj body _ k X cl _ (aA st) c hc,ρ,ws.map some++replicate (N.length-ws.length) none,h,λi v e=>?_,?_,r,bw p λfl h1 ρ1 H1 g1 r1 p1=>?_⟩
  ·by_cases hi:i<ws.length
   ·rw[aat (by simpa using hi)]at e
    rw[aaD]at e;cases ei:ws[i]? with
    |none=>rw[ei]at e;cases e
    |some w'=>rw[ei]at e;cases e;obtain⟨y,q1,q2⟩:=hv.get ei;refine⟨y,?_,q2⟩;show (vs.map some++_)[i]?=_;rw[aat (by rw[aah,<-lv];exact hi),aaD,q1];rfl
   ·rw[aaO (by simp;omega)]at e;have:=aaE e;rw[mem_replicate]at this;exact absurd this.2 (by simp)
  ·show _=(vs.map some++_).length;simp[lv]
  ·cases fl with
   |nx env'=>exact λσ' _ _=>aj r1 p1 _ VR.non
   |rt v=>exact(aj r1 p1:WV K Q v h1 ρ1 H1)
   |bk env'=>exact p1.elim
   |ct env'=>exact p1.elim
theorem _root_.Hv.QO.mono{j:Nat}{n:Nat}(g:QO P w B mg base k j x n φ):QO P w B mg base (k+2) j x n φ:=by
 have le:k<=k+2:=Nat.le_add_right _ _
 rcases g with ⟨h,⟨f,fd,ps,q1,q2,q3,q4,q5⟩|⟨c,f,fd,ps,φ0,q0,q1,q2,q3,q4,q5⟩⟩|⟨h,fd,ps,q1,q4,q5⟩
 ·exact .inl ⟨h,.inl ⟨f,fd,ps,q1,q2,q3,q4,q5.mono le⟩⟩
 ·exact .inl ⟨h,.inr ⟨c,f,fd,ps,φ0,q0,q1,q2,q3,q4,q5.mono le⟩⟩
 ·exact .inr ⟨h,fd,ps,q1,q4,q5.mono le⟩
theorem all_nil:b6 P w ⟨K,cl⟩ mg base k []:=λj r e=>by simp at e
theorem vQ{r0:Row}(A:b6 P w ⟨K,cl⟩ mg base k fs)(g:QO P w ⟨K,cl⟩ mg base (k+2) fs.length r0.1 r0.2.1 r0.2.2):b6 P w ⟨K,cl⟩ mg base (k+2) (fs++[r0]):=λj r e=>by
 by_cases hj:j<fs.length
 ·rw[aat hj]at e;exact(A j r e).mono
 ·rw[aaO (by omega)]at e
  have hj0:j-fs.length=0:=by have:=(aae.mp e).1;simp at this;omega
  rw[hj0]at e;simp at e;subst e;rw[show j=fs.length by omega];exact g
theorem Fp{x qual:Str}{st:Stmt}{f:Addr}{fd:FuncData}{N ps:List Str}{body:di}(T:Base K cl mg cons tb)(A:b6 P w ⟨K,cl⟩ mg base k fs)(F:Ip K x qual st f fd)(hm:mg x=some (.ref f))(hb:Binds K fd ps [])(rN:ps.length<1000)(hS:aN N ps (af st)=true)
  (hc:bg ⟨N,af st,fs.map (λr=>(r.1,r.2.1)),cons,tb⟩ body (aA st)=true):b6 P w ⟨K,cl⟩ mg base (k+2) (fs++[(x,ps.length,fT (look fs) N.length body)]) :=
 vQ (r0:=(x,ps.length,fT (look fs) N.length body)) A (.inl ⟨rN,.inl ⟨f,fd,ps,rfl,hm,F.kp,hb,Bx T A F hS hc⟩⟩)
theorem Fq{x qual y:Str}{st:Stmt}{f:Addr}{fd:FuncData}{N ps:List Str}{body:di}(T:Base K cl mg cons tb)(A:b6 P w ⟨K,cl⟩ mg base k fs)(F:Ip K x qual st f fd)(hf:cl (1000+fs.length)=f)(hb:Binds K fd ps [])(hS:aN N ps (af st)=true)
  (hc:bg ⟨N,af st,fs.map (λr=>(r.1,r.2.1)),cons,tb⟩ body (aA st)=true):b6 P w ⟨K,cl⟩ mg base (k+2) (fs++[(y,1000+ps.length,fT (look fs) N.length body)]):=by
 refine vQ (r0:=(y,1000+ps.length,fT (look fs) N.length body)) A (.inr ⟨Nat.le_add_right _ _,fd,ps,?_,hb,?_⟩)
 ·show ps.length=1000+ps.length-1000;omega
 ·show fW P w K mg base zd (k+2) (cl (1000+fs.length)) fd ps (vI ⟨K,cl⟩ (1000+ps.length-1000) _);rw[hf,show 1000+ps.length-1000=ps.length by omega];exact Bx T A F hS hc
theorem all_class{x i qual:Str}{st:Stmt}{f:Addr}{fd:FuncData}{N ps:List Str}{n c:Nat}{body:di}(T:Base K cl mg cons tb)(A:b6 P w ⟨K,cl⟩ mg base k fs)(F:Ip K i qual st f fd)(hm:mg x=some (.ref (cl c)))(M:Mk K (cl c) f)(hb:Binds K fd ps [])(hn:ps.length=n+1)(rN:n<1000)(hS:aN N ps (af st)=true)
  (hc:bg ⟨N,af st,fs.map (λr=>(r.1,r.2.1)),cons,tb⟩ body (aA st)=true):b6 P w ⟨K,cl⟩ mg base (k+2) (fs++[(x,n,Dz c (fT (look fs) N.length body))]):=by
 refine vQ (r0:=(x,n,Dz c (fT (look fs) N.length body))) A (.inl ⟨rN,.inr ⟨c,f,fd,ps,_,rfl,hn,hm,M,hb,?_⟩⟩);rw[<-hn];exact Bx T A F hS hc
end
def k7(K:Frag)(x qual:Str)(st:Stmt)(f:Addr):Prop:=∃fd,Ip K x qual st f fd
theorem k7.kp{K:Frag}{x qual:Str}{st:Stmt}{f:Addr}(F:k7 K x qual st f):keepIn K (.ref f)=true:=F.elim λ_ F=>F.kp
section
variable {α:Type} {p:List α -> Prop}
theorem QV:∀{us:List α},us.length=1->(∀a,p [a])->p us
 |[a],_,h=>h a
theorem ln2:∀{us:List α},us.length=2->(∀a b,p [a,b])->p us
 |[a,b],_,h=>h a b
theorem S4:∀{us:List α},us.length=3->(∀a b c,p [a,b,c])->p us
 |[a,b,c],_,h=>h a b c
theorem ZT:∀{us:List α},us.length=4->(∀a b c d,p [a,b,c,d])->p us
 |[a,b,c,d],_,h=>h a b c d
theorem ZU:∀{us:List α},us.length=5->(∀a b c d e,p [a,b,c,d,e])->p us
 |[a,b,c,d,e],_,h=>h a b c d e
end
def WJ(x qual:Str)(st:Stmt)(ps:List Str):Prop:=∀(kV doc pm:Value) (an:Option Addr) (cdv ct:Value) (us:List Value),us.length=ps.length->bindArgs (fnOf x qual (ng st) (aA st) (af st) .none kV doc pm an cdv ct) ⟨us,[]⟩=pure (ps.zip us)
section
variable {P:Program} {w:World} {K:Frag} {cl:Nat->Addr} {mg:Str->Option Value} {base:Heap} {k:Nat} {fs:List Row} {cons:List (Str×Val)} {tb:Tb} {x i y qual:Str} {st:Stmt} {f:Addr} {N ps:List Str} {body:di} (T:Base K cl mg cons tb) (A:b6 P w ⟨K,cl⟩ mg base k fs)
include T A
theorem fz(F:k7 K x qual st f)(hm:mg x=some (.ref f))(hS:aN N ps (af st)=true)
  (hc:bg ⟨N,af st,fs.map (λr=>(r.1,r.2.1)),cons,tb⟩ body (aA st)=true) (rN:ps.length<1000) (hb:WJ x qual st ps):b6 P w ⟨K,cl⟩ mg base (k+2) (fs++[(x,ps.length,fT (look fs) N.length body)]):=F.elim λ_ F=>Fp T A F hm (F.binds hb) rN hS hc
theorem rO(F:k7 K x qual st f)(hf:cl (1000+fs.length)=f)(hS:aN N ps (af st)=true)
  (hc:bg ⟨N,af st,fs.map (λr=>(r.1,r.2.1)),cons,tb⟩ body (aA st)=true) (hb:WJ x qual st ps):b6 P w ⟨K,cl⟩ mg base (k+2) (fs++[(y,1000+ps.length,fT (look fs) N.length body)]):=F.elim λ_ F=>Fq T A F hf (F.binds hb) hS hc
theorem Ad{n c:Nat}(F:k7 K i qual st f)(hm:mg x=some (.ref (cl c)))(M:Mk K (cl c) f)(hS:aN N ps (af st)=true)
  (hc:bg ⟨N,af st,fs.map (λr=>(r.1,r.2.1)),cons,tb⟩ body (aA st)=true) (hn:ps.length=n+1) (rN:n<1000) (hb:WJ i qual st ps):b6 P w ⟨K,cl⟩ mg base (k+2) (fs++[(x,n,Dz c (fT (look fs) N.length body))]):=F.elim λ_ F=>all_class T A F hm M (F.binds hb) hn rN hS hc
end
theorem OV{K:Frag}{cl:Nat->Addr}{φ:List Val->M Val}{H:Hp}{a:Addr}{ns:List Int}(hO:Ea H)(hS:iu K H a (ns.map V.int))(h:∃h',φ [.rl (ns.map .int)] []=.ok (.bl true) h') :
  vI ⟨K,cl⟩ 1 φ [.ref a] H (λv _=>v=.bl true) λ_ _ _=>False:=by
 obtain⟨h',e⟩:=h;have sr:LJ K H a (ns.map V.int):=by
  rcases hS with (z|z)|z
  ·rcases hO a with y|⟨o,xs,y⟩
   ·rw[y]at z;cases z
   ·rw[y]at z;cases z
  ·exact .inl z
  ·exact .inr (.inr z)
 refine⟨[],[],[.rl (ns.map .int)],rfl,⟨rfl,nodup_nil,λi o a e=>by simp at e⟩,az.cons (by rw[VR];exact⟨a,_,rfl,sr,az.ints.mpr rfl⟩) az.nil,?_⟩;rw[e];intro ρ' H' g r x q;rw[VR]at q;exact q
def Ve(K:Frag):Sp:=λvs H Q _=>∃(a:Addr) (ns:List Int),vs=[.ref a]/\Ea H/\iu K H a (ns.map V.int)/\ns.length<=63/\∀H',Q (.bl true) H'
theorem OW{K:Frag}{cl:Nat->Addr}{φ:List Val->M Val}(hφ:∀ns:List Int,ns.length<=63->∃h',φ [.rl (ns.map .int)] []=.ok (.bl true) h')(vs:List V)(H:Hp)(Q:VK)(E:XK)(h:Ve K vs H Q E):vI ⟨K,cl⟩ 1 φ vs H Q E:=by
 obtain⟨a,ns,rfl,hO,hS,hl,hq⟩:=h;obtain⟨ρ,h,vs,q1,q2,q3,q4⟩:=OV (cl:=cl) hO hS (hφ ns hl);refine⟨ρ,h,vs,q1,q2,q3,?_⟩;revert q4;cases φ vs h with
 |ok v h'=>exact λq4 ρ' H' g r x hx=>by rw[show x=_ from q4 ρ' H' g r x hx];exact hq H'
 |exc c ws h'=>exact λq4=>q4
 |no=>exact λq4=>q4
theorem walk{l:PySem.W.OpenLaw}{q:Program}{loose:List Str}{XP:(Str->Option Value)->Heap->Prop}{YP:World->Heap->Prop}{d:DefRec}{K:Params->Frag}{k:Nat}{x:Str}(hn:l.most=some 63)(hdf:d.params.defaults=[])(hr:dw k callerA)
  (hY:∀(w:World) (h:Heap),YP w h->(K w.params).In h)
  (F:∀(w:World) (mg:Str->Option Value) (fa:Addr) (h:Heap),(K w.params).In h->h.Ns mainGlobals mg->mg d.name=some (.ref fa) ->
   ∃fd:FuncData,(∀(s:Shared) (u:Value),BindsTo s fd ⟨[u],[]⟩ [(x,u)])/\∀base:Heap,(K w.params).In base->base.Ns mainGlobals mg->fW l.prog w (K w.params) mg base zd k fa fd [x] (Ve (K w.params))) :
  PySem.W.WalkO q loose XP YP l.row.toRowW d [] (λf vs=>PySem.call f vs) :=
 L2.Jz (n:=63) (k:=k) (x:=x) (CX:=λ_=>zd) (sp:=λw=>Ve (K w.params)) hn (by decide) hdf hr hY F (λ_ _ a ns hl hO hS=>⟨a,ns,rfl,hO,hS,hl,λ_=>rfl⟩) λ_ _ _ _ _ z=>z
end Hv
end
section
namespace Hv
open PySem L2
inductive Pr (α:Type)
 |ok (a:α)|exc (c:Nat) (ds:List Val)|no
def pb{α β:Type}(m:Pr α)(f:α -> Pr β):Pr β:=match m with
 |.ok a=>f a
 |.exc c ds=>.exc c ds
 |.no=>.no
def pl{α:Type}(o:Option α):Pr α:=match o with
 |some a=>.ok a
 |none=>.no
def pg{α:Type}(c:Bool)(m:Pr α):Pr α:=if c=true then m else .no
inductive Mk
 |sh|nw|ow
def uO:Mk->Bool
 |.ow=>false
 |_=>true
def QW:Mk->Bool
 |.nw=>true
 |_=>false
abbrev aO:=List (Option (Mk×Val))
abbrev FV:=Bool×Val
mutual
noncomputable def j8:Val->Bool
 |.rl _=>false
 |.dc _ _=>false
 |.ob _ _ _=>false
 |.ref _=>false
 |.tup vs=>bK vs
 |.non=>true
 |.bl _=>true
 |.int _=>true
 |.str _=>true
noncomputable def bK:List Val->Bool
 |[]=>true
 |v::vs=>j8 v&&bK vs
end
def mV(f:Bool)(d:Val):Mk:=if (f && !j8 d)=true then .nw else .sh
def putD(ks:List Key)(ds:List Val)(k:Key)(d:Val):Val:=.dc ((iW (ks.zip ds) k d).map (·.1)) ((iW (ks.zip ds) k d).map (·.2))
def kK:JM->Val->Val->Pr FV
 |.add,.int a,.int b=>.ok (true,.int (a+b))
 |.add,.str a,.str b=>pg (decide (a.length+b.length<=sizeLine)) (.ok (true,.str (a++b)))
 |.add,.tup a,.tup b=>pg (!a.isEmpty&&decide (a.length+b.length<=sizeLine)) (.ok (bK (a++b),.tup (a++b)))
 |.add,.rl a,.rl b=>pg (decide (a.length+b.length<=sizeLine)) (.ok (bK (a++b),.rl (a++b)))
 |.sub,.int a,.int b=>.ok (true,.int (a-b))
 |.mul,.int a,.int b=>pg (fk a b) (.ok (true,.int (a*b)))
 |.fdiv,.int a,.int b=>pg (j7 b) (.ok (true,.int (a/b)))
 |.mod,.int a,.int b=>pg (decide (0<b)) (.ok (true,.int (a%b)))
 |.pow,.int a,.int b=>pg (decide (0<=b/\b<=1000000/\a.natAbs<2 ^ 64)) (.ok (true,.int (a ^ b.toNat)))
 |_,_,_=>.no
def C4(v:Val)(lo hi:Option Int):Pr FV:=match v with
 |.tup vs=>pg (!(decide (HT.eN vs.length 0 lo=0)&&decide (HT.eN vs.length vs.length hi=vs.length))) (.ok (bK (bZ vs lo hi),.tup (bZ vs lo hi)))
 |.rl vs=>.ok (bK (bZ vs lo hi),.rl (bZ vs lo hi))
 |_=>.no
def jy:Bl->List Val->Pr FV
 |.len,[v]=>pb (pl (nu [] v)) λn=>.ok (true,.int n)
 |.min,[.int a,.int b]=>.ok (true,.int (if b<a then b else a))
 |.max,[.int a,.int b]=>.ok (true,.int (if b>a then b else a))
 |.sorted,[.rl xs]=>pb (pl (fR xs)) λys=>.ok (true,.rl ys)
 |.list,[v]=>pb (pl (mq [] v)) λxs=>.ok (bK xs,.rl xs)
 |.int,[.bl b]=>.ok (true,.int (if b=true then 1 else 0))
 |.int,[.int i]=>.ok (true,.int i)
 |.all,[.rl xs]=>pb (pl (fZ xs)) λbs=>.ok (true,.bl (bs.all id))
 |.isin T,[v]=>pb (pl (xN [] v)) λt=>pb (pl (xP T t)) λb=>.ok (true,.bl b)
 |_,_=>.no
def iH:Ik->List Val->Option (List Val)
 |.seq,[.tup vs]=>some vs
 |.seq,[.rl vs]=>some vs
 |.range,[.int n]=>if inR n then some (bU 0 n.toNat) else none
 |.range,[.int a,.int b]=>if inR a&&inR b then some (bU a (b-a).toNat) else none
 |.enum,[.rl vs]=>some (cM 0 vs)
 |_,_=>none
def Ft(k:Ik)(ds:List Val):Option (List Val):=match k with
 |.zip=>none
 |k=>iH k ds
def bL:List Nat->List Val->aO->Option aO
 |[],[],env=>some env
 |i::is,d::ds,env=>bL is ds (env.set i (some (.sh,d)))
 |_,_,_=>none
def cD:zY->Val->aO->Option aO
 |.one i,d,env=>some (env.set i (some (.sh,d)))
 |.tup is,.tup ds,env=>bL is ds env
 |_,_,_=>none
def gS(js:List (Option Nat))(env:aO):aO:=js.map λo=>match o with
 |none=>none
 | some j=>match env[j]? with
  |some (some d)=>some d
  |_=>none
def ku(f:Val->Pr (Option FV)):List Val->Pr (Bool×List Val)
 |[]=>.ok (true,[])
 |x::r=>pb (f x) λo=>pb (ku f r) λp=>.ok (match o with|some e=>(e.1&&p.1,e.2::p.2)|none=>p)
def rP:Val->Pr Bool
 |.bl b=>.ok b
 |_=>.no
def gY(env:aO):IE->Option FV
 | .var i=>match env[i]? with
  |some (some (_,d))=>some (j8 d,d)
  |_=>none
 |_=>none
def isVar:IE->Bool
 |.var _=>true
 |_=>false
mutual
noncomputable def aV(Ψ:Nat->List Val->Pr FV):IE->aO->Pr FV
 | .var i,env=>match env[i]? with
  |some (some (m,d))=>pg (uO m) (.ok (j8 d,d))
  |_=>.no
 |.cst d,_=>.ok (j8 d,d)
 |.con _ d,_=>.ok (j8 d,d)
 |.no,_=>.no
 |.bin o a b,env=>pb (if isVar a=true then pl (gY env a) else aV Ψ a env) λx=>pb (if isVar b=true then pl (gY env b) else aV Ψ b env) λy=>kK o x.2 y.2
 | .neg a,env=>pb (aV Ψ a env) λx=>match x.2 with
  |.int i=>.ok (true,.int (-i))
  |_=>.no
 |.cmp o a b,env=>pb (if isVar a=true then pl (gY env a) else aV Ψ a env) λx=>pb (if isVar b=true then pl (gY env b) else aV Ψ b env) λy=>pb (pl (cop [] o x.2 y.2)) λt=>.ok (true,.bl t)
 |.chn _ _ _ _ _,_=>.no
 |.and a b,env=>pb (aV Ψ a env) λx=>pb (rP x.2) λt=>if t=true then pb (aV Ψ b env) λy=>pb (rP y.2) λu=>.ok (true,.bl u) else .ok (true,.bl false)
 |.or a b,env=>pb (aV Ψ a env) λx=>pb (rP x.2) λt=>if t=true then .ok (true,.bl true) else pb (aV Ψ b env) λy=>pb (rP y.2) λu=>.ok (true,.bl u)
 |.not a,env=>pb (aV Ψ a env) λx=>pb (rP x.2) λt=>.ok (true,.bl (!t))
 |.ite _ _ _,_=>.no
 |.tup es,env=>pb (vR Ψ es env) λp=>pg (decide (p.2.length<=sizeLine)) (.ok (p.1,.tup p.2))
 |.lst es,env=>pb (vR Ψ es env) λp=>pg (decide (p.2.length<=sizeLine)) (.ok (p.1,.rl p.2))
 |.idx a b,env=>pb (if isVar a=true then pl (gY env a) else aV Ψ a env) λx=>pb (aV Ψ b env) λy=>pb (pl (ju [] x.2 y.2)) λz=>.ok (j8 z,z)
 |.slc a lo hi,env=>pb (if isVar a=true then pl (gY env a) else aV Ψ a env) λx=>pb (if cN lo=true then .ok none else pb (aV Ψ lo env) λv=>pb (pl (fu v.2)) λi=>.ok (some i)) λl=>
   pb (if cN hi=true then .ok none else pb (aV Ψ hi env) λv=>pb (pl (fu v.2)) λi=>.ok (some i)) λu=>C4 x.2 l u
 |.call j es,env=>pb (vR Ψ es env) λp=>Ψ j p.2
 |.blt b es,env=>pb (jz Ψ es env) λds=>jy b ds
 | .met m a es,env=>match m with
  |.join=>.no
  |_=>.no
 | .comp _ js pat k it c elt,env=>pb (jz Ψ it env) λits=>pb (pl (Ft k its)) λxs=>pg (decide (xs.length<=100000))
   (pb (ku (λd=>pb (pl (cD pat d (gS js env))) λenv'=>pb (if cN c=true then .ok true else pb (aV Ψ c env') λv=>pl (ck [] v.2)) λt=>
    if t=true then pb (aV Ψ elt env') λe=>.ok (some e) else .ok none) xs) λp=>.ok (p.1,.rl p.2))
 |.dct0,_=>.ok (true,.dc [] [])
 | .sset a,env=>pb (if isVar a=true then pl (gY env a) else aV Ψ a env) λx=>match x.2 with
  |.rl xs=>pb (pl (bT xs)) λns=>pg (decide (ns.length<64)) (.ok (true,.rl ((sortI (L2.eV [] ns)).map .int)))
  |_=>.no
 |.dget d k x,env=>pb (if isVar d=true then pl (gY env d) else aV Ψ d env) λo=>pb (pl (EB [] o.2)) λ_=>pb (aV Ψ k env) λi=>pb (pl (keyOf i.2)) λkk=>pb (aV Ψ x env) λz=>pb (pl (zZ [] o.2 kk)) λr=>.ok (j8 (r.getD z.2),r.getD z.2)
 |.dct1 k v,env=>pb (aV Ψ k env) λx=>pb (pl (keyOf x.2)) λkk=>pb (aV Ψ v env) λy=>.ok (y.1,.dc [kk] [y.2])
 |.lkeys d,env=>pb (if isVar d=true then pl (gY env d) else aV Ψ d env) λo=>pb (pl (nt [] o.2)) λks=>.ok (true,.rl (ks.map CO))
 |.sdef ..,_=>.no
 |.svals _,_=>.no
 |.skeys d,env=>pb (if isVar d=true then pl (gY env d) else aV Ψ d env) λo=>pb (pl (mQ [] o.2)) λns=>.ok (true,.rl (ns.map .int))
 |.fld n a x,env=>pb (if isVar a=true then pl (gY env a) else aV Ψ a env) λo=>pb (pl (jv n [] o.2 x)) λz=>.ok (j8 z,z)
 |.mth a m js es,env=>pb (aV Ψ a env) λo=>pb (pl (lY [] o.2 m js)) λj=>pb (vR Ψ es env) λp=>Ψ j (o.2::p.2)
 |.rev a s,env=>pb (if isVar a=true then pl (gY env a) else aV Ψ a env) λx=>pb (if cN s=true then .ok none else pb (aV Ψ s env) λv=>pb (pl (fu v.2)) λi=>.ok (some i)) λk=>
   pg (decide (k=some (-1))) (match x.2 with
    |.rl vs=>.ok (bK vs.reverse,.rl vs.reverse)
    |_=>.no)
 |.dflt _ _ _ _ d w,env=>pb (if isVar d=true then pl (gY env d) else aV Ψ d env) λo=>pb (pl (nt [] o.2)) λks=>pb (if isVar w=true then pl (gY env w) else aV Ψ w env) λv=>pb (pl (qX [] ks v.2)) λns=>.ok (true,.rl (ns.map .int))
 |.isc _ _ _,_=>.no
noncomputable def vR(Ψ:Nat->List Val->Pr FV):mP->aO->Pr (Bool×List Val)
 |.nil,_=>.ok (true,[])
 |.cons e es,env=>pb (aV Ψ e env) λd=>pb (vR Ψ es env) λp=>.ok (d.1&&p.1,d.2::p.2)
noncomputable def jz(Ψ:Nat->List Val->Pr FV):mP->aO->Pr (List Val)
 |.nil,_=>.ok []
 |.cons e es,env=>pb (if isVar e=true then pl (gY env e) else aV Ψ e env) λd=>pb (jz Ψ es env) λp=>.ok (d.2::p)
end
def C5(Ψ:Nat->List Val->Pr FV)(e:IE)(env:aO):Pr FV:=if isVar e=true then pl (gY env e) else aV Ψ e env
inductive wI
 |nx (env:aO)|rt (p:FV)|bk (env:aO)|ct (env:aO)
mutual
noncomputable def tO:IS->List Nat
 |.expr (.met .append (.var i) _)=>[i]
 |.expr (.met .extend (.var i) _)=>[i]
 |.eW (.var i) _ _=>[i]
 |.iff _ a b=>jd a++jd b
 |.for _ _ _ b=>jd b
 |.whl _ _ b=>jd b
 |_=>[]
noncomputable def jd:di->List Nat
 |.nil=>[]
 |.cons s r=>tO s++jd r
end
def stored:zY->List Nat
 |.one i=>[i]
 |.tup is=>is
mutual
noncomputable def oQ:IS->List Nat
 |.asg p _=>stored p
 |.aug i _ _=>[i]
 |.iff _ a b=>mz a++mz b
 |.for p _ _ b=>stored p++mz b
 |.whl _ _ b=>mz b
 |_=>[]
noncomputable def mz:di->List Nat
 |.nil=>[]
 |.cons s r=>oQ s++mz r
end
def WK:IE->Bool
 |.lst _=>true
 |.comp ..=>true
 |.slc ..=>true
 |.blt .list _=>true
 |.blt .sorted _=>true
 |.dct0=>true
 |.dct1 ..=>true
 |_=>false
def jA(body:Val->aO->Pr wI):List Val->aO->Pr wI
 |[],env=>.ok (.nx env)
 | x::r,env=>pb (body x env) λf=>match f with
  |.nx env'=>jA body r env'
  |.ct env'=>jA body r env'
  |.bk env'=>.ok (.nx env')
  |.rt p=>.ok (.rt p)
def oR(c:aO->Pr Bool)(body:aO->Pr wI):Nat->aO->Pr wI
 |0,_=>.no
 | n+1,env=>pb (c env) λt=>if t=true then pb (body env) λf=>(match f with
   |.nx env'=>oR c body n env'
   |.ct env'=>oR c body n env'
   |.bk env'=>.ok (.nx env')
   |.rt p=>.ok (.rt p)) else .ok (.nx env)
def X7:Mk->Mk
 |.ow=>.sh
 |m=>m
def X8:Option (Mk×Val)->Option (Mk×Val)
 |none=>none
 |some (m,d)=>some (X7 m,d)
def kI(env:aO):aO:=env.map X8
def Kn(env:aO):mP->Option (Val×Val)
 | .cons (.var i) #[.var j]=>match env[i]?,env[j]? with
  |some (some (.nw,d)),some (some (.nw,e))=>some (d,e)
  |_,_=>none
 |_=>none
def Ko(Ψ:Nat->List Val->Pr FV)(es:mP)(env:aO):Pr FV:=match Kn env es with
 |some p=>.ok (true,.tup [p.1,p.2])
 |none=>aV Ψ (.tup es) (kI env)
def Vf(Ψ:Nat->List Val->Pr FV)(e:IE)(env:aO):Pr FV:=match e with
 | .var i=>match env[i]? with
  | some (some (m,d))=>if uO m=true then .ok (j8 d||QW m,d) else match d with
   |.rl ds=>.ok (bK ds,.rl ds)
   |.dc ks ds=>.ok (bK ds,.dc ks ds)
   |_=>.no
  |_=>.no
 |.call j es=>aV Ψ (.call j es) (kI env)
 |.tup es=>Ko Ψ es env
 |e=>aV Ψ e env
def Fv(p:zY)(it:mP)(body:di):Bool:=match it with
 |.cons (.var i) .nil=>!(jd body).contains i && !(mz body).contains i && !(stored p).contains i
 |_=>true
mutual
noncomputable def bY(Ψ:Nat->List Val->Pr FV)(ms:List Nat):IS->aO->Pr wI
 | .expr e,env=>match e with
  | .met .append (.var i) #[a]=>match env[i]? with
   |some (some (.ow,.rl ds))=>pb (aV Ψ a env) λx=>pg (decide (ds.length<sizeLine)) (.ok (.nx (env.set i (some (.ow,.rl (ds++[x.2]))))))
   |_=>.no
  | .met .extend (.var i) #[a]=>match env[i]? with
   | some (some (.ow,.rl ds))=>pb (aV Ψ a env) λx=>match x.2 with
    |.tup vs=>pg (decide (ds.length+vs.length<=sizeLine)) (.ok (.nx (env.set i (some (.ow,.rl (ds++vs))))))
    |_=>.no
   |_=>.no
  |e=>pb (aV Ψ e env) λ_=>.ok (.nx env)
 | .asg p e,env=>match p with
  | .one i=>if ms.contains i=true then pg (WK e) (pb (aV Ψ e env) λx=>match x.2 with
    |.rl ds=>.ok (.nx (env.set i (some (.ow,.rl ds))))
    |.dc ks ds=>.ok (.nx (env.set i (some (.ow,.dc ks ds))))
    |_=>.no) else pb (aV Ψ e env) λx=>.ok (.nx (env.set i (some (mV x.1 x.2,x.2))))
  |.tup is=>pg (is.all λi=>!ms.contains i) (pb (aV Ψ e env) λx=>pb (pl (cD (.tup is) x.2 env)) λenv'=>.ok (.nx env'))
 |.aug i o e,env=>pg (!ms.contains i) (pb (pl (match env[i]? with|some (some (_,.int x))=>some x|_=>none)) λx=>pb (aV Ψ e env) λv=>pb (pl (fu v.2)) λy=>pb (kK o (.int x) (.int y)) λz=>.ok (.nx (env.set i (some (.sh,z.2)))))
 | .eW o i v,env=>match o with
  | .var j=>pb (aV Ψ v env) λx=>match env[j]? with
   |some (some (.ow,.rl ds))=>pb (aV Ψ i env) λz=>pb (pl (fu z.2)) λk=>pb (pl (vf ds.length k)) λn=>.ok (.nx (env.set j (some (.ow,.rl (ds.set n x.2)))))
   |some (some (.ow,.dc ks ds))=>pb (aV Ψ i env) λz=>pb (pl (keyOf z.2)) λk=>pg (decide (ks.length<sizeLine)) (.ok (.nx (env.set j (some (.ow,putD ks ds k x.2)))))
   |_=>.no
  |_=>.no
 |.iff c a b,env=>pb (C5 Ψ c env) λx=>pb (pl (ck [] x.2)) λt=>if t=true then dD Ψ ms a env else dD Ψ ms b env
 |.for p k it body,env=>pg (Fv p it body&&(stored p).all λi=>!ms.contains i) (pb (jz Ψ it env) λits=>pb (pl (iH k its)) λxs=>
   jA (λx env=>pb (pl (cD p x env)) λenv'=>dD Ψ ms body env') xs env)
 |.whl n c body,env=>oR (λenv=>pb (C5 Ψ c env) λx=>pl (ck [] x.2)) (dD Ψ ms body) n env
 |.ret e,env=>pb (Vf Ψ e env) λp=>.ok (.rt p)
 |.EA,_=>.ok (.rt (true,.non))
 |.brk,env=>.ok (.bk env)
 |.cnt,env=>.ok (.ct env)
 |.pass,env=>.ok (.nx env)
 |.never,_=>.no
 |.setF _ _ _ _,_=>.no
noncomputable def dD(Ψ:Nat->List Val->Pr FV)(ms:List Nat):di->aO->Pr wI
 |.nil,env=>.ok (.nx env)
 | .cons s r,env=>pb (bY Ψ ms s env) λf=>match f with
  |.nx env'=>dD Ψ ms r env'
  |f=>.ok f
end
def fP(Ψ:Nat->List Val->Pr FV)(n:Nat)(body:di)(ds:List Val):Pr FV :=
 pb (dD Ψ (jd body) body (ds.map (λd=>some (.sh,d))++replicate (n-ds.length) none)) λf=>match f with
  |.nx _=>.ok (true,.non)
  |.rt p=>.ok p
  |_=>.no
abbrev AP:=Option Nat->Prop
def Fr(n:Nat):AP:=λo=>match o with
 |none=>False
 |some k=>n<=k
theorem Fr.le{n m:Nat}(h:n<=m):∀o,Fr m o->Fr n o
 |none,e=>e
 |some k,e=>aaM h e
mutual
noncomputable def Dn(A:AP)(h:Hs):Val->Val->Prop
 |.non,v=>v=.non
 |.bl b,v=>v=.bl b
 |.int i,v=>v=.int i
 |.str x,v=>v=.str x
 |.tup ds,v=>∃vs,v=.tup vs/\aq A h ds vs
 |.rl ds,v=>(∃vs,v=.rl vs/\A none/\aq A h ds vs)\/∃i vs,v=.ref i/\A (some i)/\h[i]?=some (.lst vs)/\aq A h ds vs
 |.dc ks ds,v=>∃i kvs,v=.ref i/\A (some i)/\h[i]?=some (.dct kvs)/\kvs.map (·.1)=ks/\aq A h ds (kvs.map (·.2))
 |.ob c xs ds,v=>∃i fs,v=.ref i/\A (some i)/\h[i]?=some (.ins c fs)/\fs.map (·.1)=xs/\aq A h ds (fs.map (·.2))
 |.ref _,_=>False
noncomputable def aq(A:AP)(h:Hs):List Val->List Val->Prop
 |[],vs=>vs=[]
 |d::ds,vs=>∃v r,vs=v::r/\Dn A h d v/\aq A h ds r
end
section
variable {A A':AP} {h h' h1:Hs}
mutual
theorem Dn.mono(hA:∀i,A i->A' i)(hh:∀(i:Nat) (o:Ob),A (some i)->h[i]?=some o->h'[i]?=some o):∀(d v:Val),Dn A h d v->Dn A' h' d v
 |.non,v,e=>by rw[Dn]at e |-;exact e
 |.bl _,v,e=>by rw[Dn]at e |-;exact e
 |.int _,v,e=>by rw[Dn]at e |-;exact e
 |.str _,v,e=>by rw[Dn]at e |-;exact e
 | .tup ds,v,e=>by
  rw[Dn]at e |-;obtain⟨vs,rfl,q⟩:=e;exact⟨vs,rfl,aq.mono hA hh ds vs q⟩
 | .rl ds,v,e=>by
  rw[Dn]at e |-
  rcases e with ⟨vs,rfl,n,q⟩|⟨i,vs,rfl,a,g,q⟩
  ·exact .inl ⟨vs,rfl,hA _ n,aq.mono hA hh ds vs q⟩
  ·exact .inr ⟨i,vs,rfl,hA _ a,hh i _ a g,aq.mono hA hh ds vs q⟩
 | .dc ks ds,v,e=>by
  rw[Dn]at e |-;obtain⟨i,kvs,rfl,a,g,k,q⟩:=e;exact⟨i,kvs,rfl,hA _ a,hh i _ a g,k,aq.mono hA hh ds _ q⟩
 | .ob c xs ds,v,e=>by
  rw[Dn]at e |-;obtain⟨i,kvs,rfl,a,g,k,q⟩:=e;exact⟨i,kvs,rfl,hA _ a,hh i _ a g,k,aq.mono hA hh ds _ q⟩
 |.ref _,v,e=>by rw[Dn]at e;exact e.elim
theorem aq.mono(hA:∀i,A i->A' i)(hh:∀(i:Nat) (o:Ob),A (some i)->h[i]?=some o->h'[i]?=some o):∀(ds vs:List Val),aq A h ds vs->aq A' h' ds vs
 |[],vs,e=>by rw[aq]at e |-;exact e
 | d::ds,vs,e=>by
  rw[aq]at e |-;obtain⟨v,r,rfl,q1,q2⟩:=e;exact⟨v,r,rfl,Dn.mono hA hh d v q1,aq.mono hA hh ds r q2⟩
end
theorem aW{i:Nat}(p:h<+:h')(e:h[i]?=some o):h'[i]?=some o:=by
 obtain⟨t,rfl⟩:=p;have hi:i<h.length:=(aae.mp e).1;rw[aat hi];exact e
theorem Dn.ext(p:h<+:h')(e:Dn A h d v):Dn A h' d v:=Dn.mono (λ_ a=>a) (λ_ _ _ q=>aW p q) d v e
theorem aq.ext(p:h<+:h')(e:aq A h d v):aq A h' d v:=aq.mono (λ_ a=>a) (λ_ _ _ q=>aW p q) d v e
theorem Dn.fc(hA:∀i,A i->A' i)(e:Dn A h d v):Dn A' h d v:=Dn.mono hA (λ_ _ _ q=>q) d v e
theorem aq.fc(hA:∀i,A i->A' i)(e:aq A h d v):aq A' h d v:=aq.mono hA (λ_ _ _ q=>q) d v e
mutual
theorem gP:∀(d v:Val),j8 d=true->(Dn A h d v↔v=d)
 |.non,v,_=>by rw[Dn]
 |.bl _,v,_=>by rw[Dn]
 |.int _,v,_=>by rw[Dn]
 |.str _,v,_=>by rw[Dn]
 | .tup ds,v,e=>by
  rw[j8]at e;rw[Dn];constructor
  ·rintro⟨vs,rfl,q⟩;rw[(aQ ds vs e).mp q]
  ·rintro rfl;exact⟨ds,rfl,(aQ ds ds e).mpr rfl⟩
 |.rl _,v,e=>by rw[j8]at e;cases e
 |.dc _ _,v,e=>by rw[j8]at e;cases e
 |.ob _ _ _,v,e=>by rw[j8]at e;cases e
 |.ref _,v,e=>by rw[j8]at e;cases e
theorem aQ:∀(ds vs:List Val),bK ds=true->(aq A h ds vs↔vs=ds)
 |[],vs,_=>by rw[aq]
 | d::ds,vs,e=>by
  rw[bK,and_eq_true]at e;rw[aq];constructor
  ·rintro⟨v,r,rfl,q1,q2⟩;rw[(gP d v e.1).mp q1,(aQ ds r e.2).mp q2]
  ·rintro rfl;exact⟨d,ds,rfl,(gP d d e.1).mpr rfl,(aQ ds ds e.2).mpr rfl⟩
end
theorem aq.nil:aq A h [] []:=by rw[aq]
theorem aq.cons{d v:Val}{ds vs:List Val}(a:Dn A h d v)(b:aq A h ds vs):aq A h (d::ds) (v::vs):=by rw[aq];exact⟨v,vs,rfl,a,b⟩
theorem aq.length:∀{ds vs:List Val},aq A h ds vs->ds.length=vs.length
 |[],vs,e=>by rw[aq]at e;subst e;rfl
 |d::ds,vs,e=>by rw[aq]at e;obtain⟨v,r,rfl,_,q⟩:=e;simp[aq.length q]
theorem aq.get:∀{ds vs:List Val} {i:Nat} {d:Val},aq A h ds vs->ds[i]?=some d->∃v,vs[i]?=some v/\Dn A h d v
 |[],vs,i,d,e,q=>by simp at q
 | c::ds,vs,0,d,e,q=>by
  rw[aq]at e;obtain⟨v,r,rfl,a,_⟩:=e;simp at q;subst q;exact⟨v,rfl,a⟩
 | c::ds,vs,i+1,d,e,q=>by
  rw[aq]at e;obtain⟨v,r,rfl,_,b⟩:=e;simp at q;obtain⟨w,q1,q2⟩:=aq.get b q;exact⟨w,by simpa using q1,q2⟩
theorem aq.append:∀{ds es vs ws:List Val},aq A h ds vs->aq A h es ws->aq A h (ds++es) (vs++ws)
 |[],es,vs,ws,e,q=>by rw[aq]at e;subst e;exact q
 | d::ds,es,vs,ws,e,q=>by
  rw[aq]at e;obtain⟨v,r,rfl,a,b⟩:=e;exact aq.cons a (aq.append b q)
theorem aq.take:∀{ds vs:List Val} (n:Nat),aq A h ds vs->aq A h (ds.take n) (vs.take n)
 |_,_,0,_=>by simp;exact aq.nil
 |[],vs,n+1,e=>by rw[aq]at e;subst e;simp;exact aq.nil
 | d::ds,vs,n+1,e=>by
  rw[aq]at e;obtain⟨v,r,rfl,a,b⟩:=e;exact aq.cons a (aq.take n b)
theorem aq.drop:∀{ds vs:List Val} (n:Nat),aq A h ds vs->aq A h (ds.drop n) (vs.drop n)
 |_,_,0,e=>by simpa using e
 |[],vs,n+1,e=>by rw[aq]at e;subst e;simp;exact aq.nil
 | d::ds,vs,n+1,e=>by
  rw[aq]at e;obtain⟨v,r,rfl,a,b⟩:=e;exact aq.drop n b
theorem aq.cut(lo hi:Option Int)(e:aq A h ds vs):aq A h (bZ ds lo hi) (bZ vs lo hi):=by
 unfold bZ;rw[e.length];exact aq.take _ (aq.drop _ e)
theorem aq.app:∀{ds es vs ws:List Val},aq A h ds vs->aq A h es ws->aq A h (ds++es) (vs++ws)
 |[],_,vs,_,e,q=>by rw[aq]at e;subst e;exact q
 | d::ds,_,vs,_,e,q=>by
  rw[aq]at e;obtain⟨v,r,rfl,a,b⟩:=e;rw[cons_append,cons_append,aq];exact⟨v,_,rfl,a,aq.app b q⟩
theorem aq.rev:∀{ds vs:List Val},aq A h ds vs->aq A h ds.reverse vs.reverse
 |[],vs,e=>by rw[aq]at e;subst e;exact aq.nil
 | d::ds,vs,e=>by
  rw[aq]at e;obtain⟨v,r,rfl,a,b⟩:=e;rw[reverse_cons,reverse_cons];refine aq.app (aq.rev b) ?_;rw[aq];exact⟨v,[],rfl,a,by rw[aq]⟩
theorem aq.set:∀{ds vs:List Val} (n:Nat) {d v:Val},aq A h ds vs->Dn A h d v->aq A h (ds.set n d) (vs.set n v)
 |[],vs,n,d,v,e,q=>by rw[aq]at e;subst e;simp;exact aq.nil
 | c::ds,vs,0,d,v,e,q=>by
  rw[aq]at e;obtain⟨w,r,rfl,a,b⟩:=e;exact aq.cons q b
 | c::ds,vs,n+1,d,v,e,q=>by
  rw[aq]at e;obtain⟨w,r,rfl,a,b⟩:=e;exact aq.cons a (aq.set n b q)
theorem aq.iV{i:Int}(e:aq A h ds vs)(q:L2.iV ds i=some d):∃v,L2.iV vs i=some v/\Dn A h d v:=by
 unfold L2.iV at q |-;rw[e.length]at q;cases hi:L2.vf vs.length i with
 |none=>rw[hi]at q;cases q
 |some n=>rw[hi]at q;exact aq.get e q
theorem aq.one(e:aq A h [d] vs):∃v,vs=[v]/\Dn A h d v:=by
 rw[aq]at e;obtain⟨v,r,rfl,a,b⟩:=e;rw[aq]at b;subst b;exact⟨v,rfl,a⟩
def OD(A:AP)(h:Hs)(d:Val)(a:Nat):Prop:=match d with
 |.rl ds=>∃vs,h[a]?=some (.lst vs)/\aq A h ds vs
 |.dc ks ds=>∃kvs,h[a]?=some (.dct kvs)/\kvs.map (·.1)=ks/\aq A h ds (kvs.map (·.2))
 |_=>False
theorem OD.mono{a:Nat}(e:OD A h d a)(ho:∀o,h[a]?=some o->h'[a]?=some o)(hq:∀ds vs,aq A h ds vs->aq A' h' ds vs):OD A' h' d a:=by
 cases d with
 |rl ds=>obtain⟨vs,g,q⟩:=e;exact⟨vs,ho _ g,hq _ _ q⟩
 |dc ks ds=>obtain⟨kvs,g,k,q⟩:=e;exact⟨kvs,ho _ g,k,hq _ _ q⟩
 |_=>exact False.elim e
theorem OD.ext{a:Nat}(p:h<+:h')(e:OD A h d a):OD A h' d a:=e.mono (λ_ g=>aW p g) λ_ _ q=>q.ext p
theorem OD.lt{a:Nat}(e:OD A h d a):a<h.length:=by
 cases d with
 |rl ds=>obtain⟨vs,g,q⟩:=e;exact(aae.mp g).1
 |dc ks ds=>obtain⟨kvs,g,k,q⟩:=e;exact(aae.mp g).1
 |_=>exact False.elim e
theorem OD.dn{a:Nat}(e:OD A h d a)(ha:A (.some a)):Dn A h d (.ref a):=by
 cases d with
 |rl ds=>obtain⟨vs,g,q⟩:=e;rw[Dn];exact .inr ⟨a,vs,rfl,ha,g,q⟩
 |dc ks ds=>obtain⟨kvs,g,k,q⟩:=e;rw[Dn];exact⟨a,kvs,rfl,ha,g,k,q⟩
 |_=>exact False.elim e
def OB(A:AP)(h:Hs)(d:Val)(o:Ob):Prop:=match d with
 |.rl ds=>∃vs,o=.lst vs/\aq A h ds vs
 |.dc ks ds=>∃kvs,o=.dct kvs/\kvs.map (·.1)=ks/\aq A h ds (kvs.map (·.2))
 |_=>False
theorem OB.od{a:Nat}(e:OB A h d o)(g:h'[a]?=.some o)(hq:∀ds vs,aq A h ds vs->aq A' h' ds vs):OD A' h' d a:=by
 cases d with
 |rl ds=>obtain⟨vs,rfl,q⟩:=e;exact⟨vs,g,hq _ _ q⟩
 |dc ks ds=>obtain⟨kvs,rfl,k,q⟩:=e;exact⟨kvs,g,k,hq _ _ q⟩
 |_=>exact False.elim e
def DB(A:AP)(h:Hs)(d v:Val):Prop:=Dn A h d v\/∃i,v=.ref i/\OD A h d i
theorem DB.all(e:DB A h d v):Dn (λ_=>True) h d v:=by
 rcases e with e|⟨i,rfl,q⟩
 ·exact e.fc λ_ _=>trivial
 ·exact(q.mono (A':=λ_=>True) (λ_ g=>g) λ_ _ z=>z.fc λ_ _=>trivial).dn trivial
theorem DB.ext(p:h<+:h')(e:DB A h d v):DB A h' d v:=by
 rcases e with e|⟨i,rfl,q⟩
 ·exact .inl (e.ext p)
 ·exact .inr ⟨i,rfl,q.ext p⟩
theorem DB.dc(e:DB A h (.dc ks ds) v):∃i kvs,v=.ref i/\h[i]?=some (.dct kvs)/\kvs.map (·.1)=ks/\aq A h ds (kvs.map (·.2)):=by
 rcases e with e|⟨i,rfl,kvs,g,k,q⟩
 ·rw[Dn]at e;obtain⟨i,kvs,rfl,_,g,k,q⟩:=e;exact⟨i,kvs,rfl,g,k,q⟩
 ·exact⟨i,kvs,rfl,g,k,q⟩
theorem DB.lst(e:DB A h (.rl ds) v):∃vs,aG h v=some vs/\aq A h ds vs:=by
 rcases e with e|⟨i,rfl,vs,g,q⟩
 ·rw[Dn]at e
  rcases e with ⟨vs,rfl,_,q⟩|⟨i,vs,rfl,_,g,q⟩
  ·exact⟨vs,rfl,q⟩
  ·exact⟨vs,by simp[aG,g],q⟩
 ·exact⟨vs,by simp[aG,g],q⟩
theorem DB.seq(e:DB A h d v)(q:mq [] d=some ds):∃vs,mq h v=some vs/\aq A h ds vs:=by
 cases d with
 |tup es=>
  simp only[mq]at q;cases q
  rcases e with e|⟨_,_,e1⟩
  ·rw[Dn]at e;obtain⟨vs,rfl,q⟩:=e;exact⟨vs,rfl,q⟩
  ·exact False.elim e1
 |rl es=>simp only[mq,aG]at q;cases q;obtain⟨vs,q1,q2⟩:=e.lst;refine⟨vs,?_,q2⟩;cases v<;>first|(simp[aG]at q1;done)|exact q1
 |ref i=>simp[mq,aG]at q
 |_=>simp[mq,aG]at q
theorem DB.int{i:Int}(e:DB A h (.int i) v):v=.int i:=by
 rcases e with e|⟨_,_,e1⟩
 ·rw[Dn]at e;exact e
 ·exact False.elim e1
theorem DB.str(e:DB A h (.str i) v):v=.str i:=by
 rcases e with e|⟨_,_,e1⟩
 ·rw[Dn]at e;exact e
 ·exact False.elim e1
theorem DB.bl{i:Bool}(e:DB A h (.bl i) v):v=.bl i:=by
 rcases e with e|⟨_,_,e1⟩
 ·rw[Dn]at e;exact e
 ·exact False.elim e1
theorem DB.tup(e:DB A h (.tup ds) v):∃vs,v=.tup vs/\aq A h ds vs:=by
 rcases e with e|⟨_,_,e1⟩
 ·rw[Dn]at e;exact e
 ·exact False.elim e1
theorem vS:∀(n:Nat) (d v:Val) (p:PyData),Dn (λ_=>True) h d v->toD n [] d=some p->toD n h v=some p:=by
 intro n
 induction n with
 |zero=>intro d v p _ e;simp[toD]at e
 |succ n ih=>
  have all:∀(ds vs:List Val) (ps:List PyData),aq (λ_=>True) h ds vs->bS (toD n []) ds=some ps->bS (toD n h) vs=some ps:=by
   intro ds
   induction ds with
   |nil=>intro vs ps q e;rw[aq]at q;subst q;exact e
   |cons d ds ZV=>intro vs ps q e;rw[aq]at q;obtain⟨v,r,rfl,q1,q2⟩:=q;simp only[bS]at e |-;obtain⟨x,e1,e⟩:=aab.mp e;obtain⟨xs,e2,e⟩:=aab.mp e;rw[ih d v x q1 e1,ZV r xs q2 e2];exact e
  intro d v p q e;cases d with
  |non=>rw[Dn]at q;subst q;exact e
  |bl b=>rw[Dn]at q;subst q;exact e
  |int b=>rw[Dn]at q;subst q;exact e
  |str b=>rw[Dn]at q;subst q;exact e
  |tup ds=>rw[Dn]at q;obtain⟨vs,rfl,q⟩:=q;simp only[toD]at e |-;obtain⟨ps,e1,e⟩:=aab.mp e;rw[all ds vs ps q e1];exact e
  |rl ds=>
   rw[Dn]at q;simp only[toD]at e;obtain⟨ps,e1,e⟩:=aab.mp e
   rcases q with ⟨vs,rfl,_,q⟩|⟨i,vs,rfl,_,g,q⟩
   ·simp only[toD];rw[all ds vs ps q e1];exact e
   ·simp only[toD,aG,g,bind_some];rw[all ds vs ps q e1];exact e
  |dc ks ds=>simp[toD]at e
  |ob c xs ds=>simp[toD]at e
  |ref i=>rw[Dn]at q;exact q.elim
theorem LS{b:Bool}(a:DB A h d v)(c:DB A h e w)(q:AX [] d e=some b):AX h v w=some b:=by
 unfold AX at q |-;obtain⟨x,e1,q⟩:=aab.mp q;obtain⟨y,e2,q⟩:=aab.mp q;rw[vS 16 d v x a.all e1,vS 16 e w y c.all e2];exact q
theorem Fw(a:DB A h d v):qV v=qV d:=by
 rcases a with a|⟨i,rfl,q⟩
 ·cases d<;>rw[Dn]at a
  ·subst a;rfl
  ·subst a;rfl
  ·subst a;rfl
  ·subst a;rfl
  ·obtain⟨vs,rfl,_⟩:=a;rfl
  ·rcases a with ⟨vs,rfl,_⟩|⟨i,vs,rfl,_⟩<;>rfl
  ·obtain⟨i,kvs,rfl,_⟩:=a;rfl
  ·obtain⟨i,kvs,rfl,_⟩:=a;rfl
  ·exact a.elim
 ·cases d<;>first|exact False.elim q|rfl
theorem Fy{b:Bool}(a:DB A h d v)(c:DB A h e w)(q:xK [] d e=some b):xK h v w=some b:=by
 have data:memD [] d e=some b->memD h v w=some b:=λq=>by
  unfold memD at q |-;obtain⟨x,e1,q⟩:=aab.mp q;obtain⟨y,e2,q⟩:=aab.mp q;rw[vS 16 e w x c.all e1,vS 16 d v y a.all e2];exact q
 exact data q
theorem Fz{b:Bool}(a:DB A h d v)(c:DB A h e w)(q:LH d e=some b):LH v w=some b:=by
 cases e<;>first|(cases q;done)|skip
 ·have:w=.non:=by
   rcases c with c|⟨_,_,e1⟩
   ·rw[Dn]at c;exact c
   ·exact False.elim e1
  subst this;show some (qV v)=_;rw[Fw a];exact q
 ·have:=c.bl;subst this
  cases d<;>first|(cases q;done)|skip
  have:=a.bl;subst this;exact q
theorem OX{b:Bool}(a:DB A h d v)(c:DB A h e w)(q:cop [] o d e=some b):cop h o v w=some b:=by
 cases o with
 |eq=>exact LS a c q
 |ne=>obtain⟨x,e1,e2⟩:=aaJ.mp (show (AX [] d e).map _=some b from q);show (AX h v w).map _=_;rw[LS a c e1];exact congrArg some e2
 |isn=>exact Fz a c q
 |ntn=>obtain⟨x,e1,e2⟩:=aaJ.mp (show (LH d e).map _=some b from q);show (LH v w).map _=_;rw[Fz a c e1];exact congrArg some e2
 |ze=>exact Fy a c q
 |nin=>obtain⟨x,e1,e2⟩:=aaJ.mp (show (xK [] d e).map _=some b from q);show (xK h v w).map _=_;rw[Fy a c e1];exact congrArg some e2
 |lt=>obtain⟨i,j,rfl,rfl⟩:=kX (.inl rfl) q;have:=a.int;subst this;have:=c.int;subst this;exact q
 |le=>obtain⟨i,j,rfl,rfl⟩:=kX (.inr (.inl rfl)) q;have:=a.int;subst this;have:=c.int;subst this;exact q
 |gt=>obtain⟨i,j,rfl,rfl⟩:=kX (.inr (.inr (.inl rfl))) q;have:=a.int;subst this;have:=c.int;subst this;exact q
 |ge=>obtain⟨i,j,rfl,rfl⟩:=kX (.inr (.inr (.inr rfl))) q;have:=a.int;subst this;have:=c.int;subst this;exact q
theorem rQ{b:Bool}(a:DB A h d v)(q:ck [] d=some b):ck h v=some b:=by
 cases d with
 |rl ds=>
  obtain⟨vs,q1,q2⟩:=a.lst;have l:=q2.length;have e:(!ds.isEmpty) = !vs.isEmpty:=by cases ds<;>cases vs<;>simp_all
  simp only[ck]at q;rw[e]at q;cases v<;>simp only[aG]at q1<;>first|(cases q1;done)|skip
  ·cases q1;exact q
  ·split at q1<;>cases q1;rename_i g;simp only[ck,g];exact q
 |tup ds=>
  obtain⟨vs,rfl,q2⟩:=a.tup;have l:=q2.length;have e:(!ds.isEmpty) = !vs.isEmpty:=by cases ds<;>cases vs<;>simp_all
  simp only[ck]at q |-;rw[<-e];exact q
 |dc ks ds=>obtain⟨i,kvs,rfl,g,hk,_⟩:=a.dc;subst hk;simp only[ck,g]at q |-;rw[<-q];cases kvs<;>rfl
 |ob c xs ds=>cases q
 |ref i=>
  rcases a with a|⟨_,_,e1⟩
  ·rw[Dn]at a;exact a.elim
  ·exact False.elim e1
 |non=>
  rcases a with a|⟨_,_,e1⟩
  ·rw[Dn]at a;subst a;exact q
  ·exact False.elim e1
 |bl b=>have:=a.bl;subst this;exact q
 |int b=>have:=a.int;subst this;exact q
 |str b=>have:=a.str;subst this;exact q
theorem OY{n:Nat}(a:DB A h d v)(q:nu [] d=some n):nu h v=some n:=by
 cases d with
 |rl ds=>
  obtain⟨vs,q1,q2⟩:=a.lst;have l:=q2.length;simp only[nu]at q;rw[l]at q;cases v<;>simp only[aG]at q1<;>first|(cases q1;done)|skip
  ·cases q1;exact q
  ·split at q1<;>cases q1;rename_i g;simp only[nu,g];exact q
 |tup ds=>obtain⟨vs,rfl,q2⟩:=a.tup;simp only[nu]at q |-;rw[<-q2.length];exact q
 |dc ks ds=>obtain⟨i,kvs,rfl,g,hk,_⟩:=a.dc;subst hk;simp only[nu,g]at q |-;rw[<-q];simp
 |str b=>have:=a.str;subst this;exact q
 |_=>simp[nu]at q
theorem S5{t:String}(a:DB A h d v)(q:xN [] d=some t):xN h v=some t:=by
 cases d with
 |rl ds=>
  obtain⟨vs,q1,q2⟩:=a.lst;cases v<;>simp only[aG]at q1<;>first|(cases q1;done)|skip
  ·exact q
  ·split at q1<;>cases q1;rename_i g;simp only[xN,g];exact q
 |tup ds=>obtain⟨vs,rfl,q2⟩:=a.tup;exact q
 |dc ks ds=>obtain⟨i,kvs,rfl,g,hk,_⟩:=a.dc;simp only[xN,g]at q |-;exact q
 |ob c xs ds=>cases q
 |ref i=>
  rcases a with a|⟨_,_,e1⟩
  ·rw[Dn]at a;exact a.elim
  ·exact False.elim e1
 |non=>
  rcases a with a|⟨_,_,e1⟩
  ·rw[Dn]at a;subst a;exact q
  ·exact False.elim e1
 |bl b=>have:=a.bl;subst this;exact q
 |int b=>have:=a.int;subst this;exact q
 |str b=>have:=a.str;subst this;exact q
theorem qk:∀{kvs:List (Key×Val)} {ks:List Key} {ds:List Val} {z:Val},kvs.map (·.1)=ks->aq A h ds (kvs.map (·.2))->cL (ks.zip ds) k=some z->∃v,cL kvs k=some v/\Dn A h z v
 |[],ks,ds,z,hk,q,e=>by subst hk;simp[cL]at e
 | (k',v')::kvs,ks,ds,z,hk,q,e=>by
  subst hk;have l:=q.length;cases ds with
  |nil=>simp at l
  |cons d ds=>
   simp only[map_cons]at q;rw[aq]at q;obtain⟨v,r,e1,q1,q2⟩:=q;cases e1
   by_cases hkk:k'=k
   ·subst hkk;simp[cL]at e |-;subst e;exact q1
   ·have e':cL ((kvs.map (·.1)).zip ds) k=some z:=by simpa [cL,hkk] using e
    obtain⟨w,a1,a2⟩:=qk rfl q2 e';exact⟨w,by simpa [cL,hkk] using a1,a2⟩
theorem DB.pI{j:Nat}(c:DB A h (.ref j) v):False:=by
 rcases c with c|⟨_,_,e1⟩
 ·rw[Dn]at c;exact c
 ·exact e1
theorem By:∀{kvs:List (Key×Val)} {ds:List Val},aq A h ds (kvs.map (·.2))->cL ((kvs.map (·.1)).zip ds) k=none->cL kvs k=none
 |[],ds,q,e=>rfl
 | (k',v')::kvs,ds,q,e=>by
  cases ds with
  |nil=>rw[aq]at q;cases q
  |cons d ds=>
   rw[aap,aq]at q;obtain⟨v,r,eq,q1,q2⟩:=q;cases eq;unfold cL at e |-;rw[aap,zip_cons_cons,find?_cons]at e;rw[find?_cons]
   by_cases hk:k'=k
   ·simp[hk]at e
   ·simp only[hk,decide_false]at e |-;exact By q2 e
theorem Ae(a:Dn A h d v)(e:keyOf d=some kk):keyOf v=some kk:=by
 cases d<;>first|(cases e;done)|skip
 ·rw[Dn]at a;subst a;exact e
 ·rw[Dn]at a;subst a;exact e
theorem OZ(a:DB A h o v)(e:zZ [] o k=some r):∃r',zZ h v k=some r'/\∀z z',Dn A h z z'->Dn A h (r.getD z) (r'.getD z'):=by
 cases o<;>first|(cases e;done)|(exact(DB.pI a).elim)|skip
 rename_i ks ds;obtain⟨i,kvs,rfl,g,hk,q⟩:=a.dc;cases e;have eg:zZ h (.ref i) k=some (cL kvs k):=by show (match h[i]? with|some (.dct kvs)=>some (cL kvs k)|_=>none)=_;rw[g]
 refine⟨_,eg,λz z' hz=>?_⟩;cases ev:cL (ks.zip ds) k with
 |none=>subst hk;rw[By q ev];exact hz
 |some d=>obtain⟨u,e1,e2⟩:=qk hk q ev;rw[e1];exact e2
theorem rR(a:DB A h o v)(e:nt [] o=some ks):nt h v=some ks:=by
 cases o<;>first|(cases e;done)|(exact(DB.pI a).elim)|skip
 obtain⟨i,kvs,rfl,g,hk,q⟩:=a.dc;cases e;show (match h[i]? with|some (.dct kvs)=>some (kvs.map (λkv:Key×Val=>kv.1))|_=>none)=_;rw[g];exact congrArg some hk
theorem nE:∀ks:List Key,bK (ks.map CO)=true
 |[]=>rfl
 |.inl _::ks=>by rw[aap,bK,nE ks];rfl
 |.inr _::ks=>by rw[aap,bK,nE ks];rfl
theorem Kp{u:Unit}(a:DB A h o v)(e:EB [] o=some u):EB h v=some u:=by
 cases o<;>first|(cases e;done)|(exact(DB.pI a).elim)|skip
 obtain⟨i,kvs,rfl,g,hk,q⟩:=a.dc;show (match h[i]? with|some (.dct _)=>some ()|_=>none)=_;rw[g]
theorem O0(a:DB A h d v)(c:Dn A h e w)(q:ju [] d e=some z):∃u,ju h v w=some u/\Dn A h z u:=by
 cases e with
 |int i=>
  rw[Dn]at c;subst c;cases d with
  |str x=>
   have:=a.str;subst this;refine⟨z,q,?_⟩;change (if x.length<=sizeLine then (iV x.cps.toList i).map (λc=>Val.str ⟨[c].toArray⟩) else none)=some z at q;split at q
   ·obtain⟨c,_,rfl⟩:=aaJ.mp q;rw[Dn]
   ·cases q
  |tup ds=>obtain⟨vs,rfl,q2⟩:=a.tup;exact q2.iV q
  |rl ds=>
   obtain⟨vs,q1,q2⟩:=a.lst;obtain⟨u,q3,q4⟩:=q2.iV q;refine⟨u,?_,q4⟩;cases v<;>simp only[aG]at q1<;>first|(cases q1;done)|skip
   ·cases q1;exact q3
   ·split at q1<;>cases q1;rename_i g;unfold ju;simp only[aG,g,bind_some];exact q3
  |dc ks ds=>obtain⟨i',kvs,rfl,g,hk,q2⟩:=a.dc;obtain⟨u,q3,q4⟩:=qk hk q2 q;refine⟨u,?_,q4⟩;show (match h[i']? with|some (.dct kvs)=>cL kvs (.inl i)|_=>(aG h (.ref i')).bind λxs=>iV xs i)=_;rw[g];exact q3
  |ref j=>exact(DB.pI a).elim
  |_=>cases q
 |str x=>
  rw[Dn]at c;subst c;cases d with
  |dc ks ds=>obtain⟨i',kvs,rfl,g,hk,q2⟩:=a.dc;obtain⟨u,q3,q4⟩:=qk hk q2 q;refine⟨u,?_,q4⟩;show (match h[i']? with|some (.dct kvs)=>cL kvs (.inr x)|_=>none)=_;rw[g];exact q3
  |ref j=>exact(DB.pI a).elim
  |_=>cases q
 |_=>cases d<;>first|(cases q;done)|exact(DB.pI a).elim
theorem vU:∀{fs:List (Str×Val)} {ds:List Val},aq A h ds (fs.map (·.2))->(((fs.map (·.1)).zip ds).lookup x=none->fs.lookup x=none)/\∀z,((fs.map (·.1)).zip ds).lookup x=some z->∃u,fs.lookup x=some u/\Dn A h z u
 |[],ds,q=>⟨λ_=>rfl,λz e=>by simp at e⟩
 | (k,v)::fs,ds,q=>by
  cases ds with
  |nil=>rw[aq]at q;cases q
  |cons d ds=>
   rw[aap,aq]at q;obtain⟨w,r,eq,q1,q2⟩:=q;cases eq;rw[aap,zip_cons_cons,aaR,aaR];cases hb:x==k with
   |true=>exact⟨λz=>(by cases z),λz e=>(by cases e;exact⟨v,rfl,q1⟩)⟩
   |false=>exact vU q2
theorem DB.ob{c:Nat}(e:DB A h (.ob c xs ds) v):∃i fs,v=.ref i/\h[i]?=some (.ins c fs)/\fs.map (·.1)=xs/\aq A h ds (fs.map (·.2)):=by
 rcases e with e|⟨_,_,e1⟩
 ·rw[Dn]at e;obtain⟨i,fs,rfl,_,g,k,q⟩:=e;exact⟨i,fs,rfl,g,k,q⟩
 ·exact False.elim e1
theorem O3{n:Nat}(a:DB A h o v)(e:jv n [] o x=some z):∃u,jv n h v x=some u/\Dn A h z u:=by
 cases o<;>first|(cases e;done)|(exact(DB.pI a).elim)|skip
 obtain⟨i,fs,rfl,g,hk,q⟩:=a.ob;subst hk;unfold jv at e;dsimp only at e;split at e
 ·rename_i hc;obtain⟨u,e1,e2⟩:=(vU q).2 z e;refine⟨u,?_,e2⟩;unfold jv;dsimp only;rw[g];dsimp only;rw[aai hc];exact e1
 ·cases e
theorem O4{j:Nat}(a:DB A h o v)(e:lY [] o m js=some j):lY h v m js=some j:=by
 cases o<;>first|(cases e;done)|(exact(DB.pI a).elim)|skip
 obtain⟨i,fs,rfl,g,hk,q⟩:=a.ob;subst hk;unfold lY at e;dsimp only at e;split at e
 ·rename_i hc;have e1:=(vU q).1 (by simpa using hc);unfold lY;dsimp only;rw[g];dsimp only;rw[aai (by rw[e1];rfl)];exact e
 ·cases e
end
def Up(A:AP)(h:Hs):Prop:=∀k,h.length<=k->A (some k)
def Rel(A:AP)(h:Hs){α β:Type}(R:α -> Hs -> β -> Prop)(o:Out β):Pr α -> Prop
 |.ok a=>∃b h',o=.ok b h'/\h<+:h'/\R a h' b
 |.exc c es=>∃ws h',o=.exc c ws h'/\h<+:h'/\aq A h' es ws
 |.no=>True
def RV(A:AP)(h:Hs):FV->Hs->Val->Prop:=λx h' v=>Dn A h' x.2 v/\(x.1=true->Dn (Fr h.length) h' x.2 v)
def ZW(A:AP)(h:Hs):Bool×List Val->Hs->List Val->Prop:=λx h' v=>aq A h' x.2 v/\(x.1=true->aq (Fr h.length) h' x.2 v)
def WL(A:AP):FV->Hs->Val->Prop:=λx h' v=>DB A h' x.2 v
def Kq(A:AP)(h:Hs):List Val->List Val->Prop
 |[],vs=>vs=[]
 |d::ds,vs=>∃v r,vs=v::r/\DB A h d v/\Kq A h ds r
def ER(A:AP)(aa:aO)(env:Env)(h:Hs):Prop:=∀(i:Nat) (f:Mk) (d:Val),aa[i]?=some (some (f,d)) ->
 if uO f=false then ∃a,env[i]?=some (some (.ref a))/\OD A h d a else ∃v,env[i]?=some (some v)/\Dn A h d v
section
variable {A:AP} {h h1:Hs} {α β γ δ:Type}
theorem Up.ext(u:Up A h)(p:h<+:h1):Up A h1:=λk hk=>u k (aaM p.length_le hk)
theorem ER.ext(e:ER A aa env h)(p:h<+:h1):ER A aa env h1:=λi f d q=>by
 have:=e i f d q;revert this;generalize uO f=t;intro this;cases t with
 |false=>rw[aai rfl]at this |-;obtain⟨a,k2,k3⟩:=this;exact⟨a,k2,k3.ext p⟩
 |true=>rw[aal (by decide)]at this |-;obtain⟨v,k1,k2⟩:=this;exact⟨v,k1,k2.ext p⟩
theorem ah(r:Rel A h R (m h) p)(k:∀a h1 b,h<+:h1->R a h1 b->Rel A h1 R' (f b h1) (F a)):Rel A h R' (bnd m f h) (pb p F):=by
 unfold bnd;cases p with
 |ok a=>
  obtain⟨b,h1,e,q,r⟩:=r;rw[e];show Rel A h R' (f b h1) (F a);have:=k a h1 b q r;cases e2:F a with
  |ok c=>rw[e2]at this;obtain⟨d,h2,e3,q2,r2⟩:=this;exact⟨d,h2,e3,q.trans q2,r2⟩
  |exc c es=>rw[e2]at this;obtain⟨d,h2,e3,q2,r2⟩:=this;exact⟨d,h2,e3,q.trans q2,r2⟩
  |no=>trivial
 |exc c es=>obtain⟨ws,h1,e,q,r⟩:=r;rw[e];exact⟨ws,h1,rfl,q,r⟩
 |no=>trivial
theorem aE(r:R a h b):Rel A h R (ret b h) (.ok a):=⟨b,h,rfl,aaw _,r⟩
theorem bG(r:∀a,o=some a->∃b,o'=some b/\R a h b):Rel A h R (bD o' h) (pl o):=by
 cases o with
 |none=>trivial
 |some a=>obtain⟨b,rfl,q⟩:=r a rfl;exact⟨b,h,rfl,aaw _,q⟩
theorem bW(r:∀a,o=some a->∃b,f h=some b/\R a h b):Rel A h R (ask f h) (pl o):=bG r
theorem bQ{c c':Bool}(e:c=true->c'=true)(r:c=true->Rel A h R (m h) p):Rel A h R (aH c' m h) (pg c p):=by
 unfold aH pg;cases c with
 |true=>rw[aai (e rfl),aai rfl];exact r rfl
 |false=>rw[aal aac];trivial
theorem yh(r:Rel A h R o p)(k:∀a h' b,h<+:h'->R a h' b->R' a h' b):Rel A h R' o p:=by
 cases p with
 |ok a=>obtain⟨b,h',e,q,r⟩:=r;exact⟨b,h',e,q,k a h' b q r⟩
 |exc c es=>exact r
 |no=>trivial
theorem dH(o:Ob):h<+:h++[o]:=aaY _ _
theorem jK(o:Ob):(h++[o])[h.length]?=some o:=by simp
theorem fD{f:Bool}{h0:Hs}(u:Up A h)(p:h0<+:h)(q:aq A h xs vs)(g:f=true->aq (Fr h0.length) h xs vs):Rel A h (RV A h0) (new (.lst vs) h) (.ok (f,.rl xs)):=by
 refine⟨_,_,rfl,dH _,?_,λhf=>?_⟩
 ·show Dn A _ (.rl xs) _;rw[Dn];exact .inr ⟨_,vs,rfl,u _ (aao _),jK _,q.ext (dH _)⟩
 ·show Dn _ _ (.rl xs) _;rw[Dn];exact .inr ⟨_,vs,rfl,p.length_le,jK _,(g hf).ext (dH _)⟩
theorem oS{h0:Hs}(q:Dn A h d v):RV A h0 (j8 d,d) h v:=⟨q,λhi=>(gP d v hi).mpr ((gP d v hi).mp q)⟩
theorem gz(q:aq A h ds vs)(hi:bK ds=true):aq A' h' ds vs:=(aQ ds vs hi).mpr ((aQ ds vs hi).mp q)
theorem j9{i:Int}{h0:Hs}{f:Bool}:RV A h0 (f,.int i) h (.int i):=⟨by rw[Dn],λ_=>by rw[Dn]⟩
theorem pJ{i:Bool}{h0:Hs}{f:Bool}:RV A h0 (f,.bl i) h (.bl i):=⟨by rw[Dn],λ_=>by rw[Dn]⟩
theorem O5{h0:Hs}{f:Bool}:RV A h0 (f,.str i) h (.str i):=⟨by rw[Dn],λ_=>by rw[Dn]⟩
theorem RV.br{h0:Hs}(r:RV A h0 x h v):WL A x h v:=.inl r.1
theorem Kr(ho:o≠.add)(v w:Val):(∃i j,v=.int i/\w=.int j)\/kK o v w=.no:=by
 cases v with
 |int i=>
  cases w with
  |int j=>exact .inl ⟨i,j,rfl,rfl⟩
  |_=>right;cases o<;>first|rfl|exact absurd rfl ho
 |_=>right;cases o<;>first|rfl|exact absurd rfl ho
theorem BA{h0:Hs}(u:Up A h)(p:h0<+:h)(a:DB A h d v)(c:DB A h e w):Rel A h (RV A h0) (LG o v w h) (kK o d e):=by
 have ii:o≠.add->(∃i j,d=.int i/\e=.int j)\/kK o d e=.no:=λho=>Kr ho d e;cases o with
 |add=>
  cases d<;>cases e<;>first|trivial|skip
  ·have:=a.int;subst this;have:=c.int;subst this;exact aE j9
  ·have:=a.str;subst this;have:=c.str;subst this;exact bQ (λz=>z) λ_=>aE O5
  ·rename_i xs ys
   obtain⟨vs,rfl,q1⟩:=a.tup;obtain⟨ws,rfl,q2⟩:=c.tup;have l1:=q1.length;have l2:=q2.length;refine bQ (λz=>?_) λ_=>aE ⟨?_,λhi=>?_⟩
   ·rw[l1,l2]at z
    have:xs.isEmpty=vs.isEmpty:=by cases xs<;>cases vs<;>simp_all
    rw[<-this];exact z
   ·show Dn A h (.tup _) _;rw[Dn];exact⟨_,rfl,q1.append q2⟩
   ·show Dn _ h (.tup _) _;rw[Dn];exact⟨_,rfl,gz (q1.append q2) hi⟩
  ·rename_i xs ys
   obtain⟨vs,e1,q1⟩:=a.lst;obtain⟨ws,e2,q2⟩:=c.lst;have eb:LG .add v w=bnd (ask λh=>aG h v) λa=>bnd (ask λh=>aG h w) λb=>aH (decide (a.length+b.length<=sizeLine)) (new (.lst (a++b))):=by
    cases v<;>simp only[aG]at e1<;>first|(cases e1;done)|skip
    all_goals cases w<;>simp only[aG]at e2<;>first|(cases e2;done)|rfl
   have ev:LG .add v w h=aH (decide (vs.length+ws.length<=sizeLine)) (new (.lst (vs++ws))) h:=by rw[eb];unfold bnd ask bD;dsimp only;rw[e1];dsimp only;rw[e2]
   rw[ev];refine bQ (λz=>?_) λ_=>fD u p (q1.append q2) λhi=>gz (q1.append q2) hi;rw[<-q1.length,<-q2.length];exact z
 |_=>
  rcases ii (by intro z;cases z) with ⟨i,j,rfl,rfl⟩|z
  case inr=>rw[z];trivial
  have:=a.int;subst this;have:=c.int;subst this
  first
   |exact aE j9
   |exact bQ (λz=>z) λ_=>aE j9
theorem Ks{lo hi:Option Int}{h0:Hs}(u:Up A h)(p:h0<+:h)(a:DB A h d v):Rel A h (RV A h0) (tN v lo hi h) (C4 d lo hi):=by
 cases d with
 |tup ds=>
  obtain⟨vs,rfl,q⟩:=a.tup;have l:=q.length;simp only[C4,tN];refine bQ (λz=>?_) λ_=>aE ⟨?_,λhi=>?_⟩
  ·rw[l]at z;exact z
  ·show Dn A h (.tup _) _;rw[Dn];exact⟨_,rfl,q.cut lo hi⟩
  ·show Dn _ h (.tup _) _;rw[Dn];exact⟨_,rfl,gz (q.cut _ _) hi⟩
 |rl ds=>
  obtain⟨vs,e1,q⟩:=a.lst;have ev:tN v lo hi h=new (.lst (bZ vs lo hi)) h:=by
   have:tN v lo hi=bnd (ask λh=>aG h v) λxs=>new (.lst (bZ xs lo hi)):=by cases v<;>simp only[aG]at e1<;>first|(cases e1;done)|rfl
   rw[this];unfold bnd ask bD;dsimp only;rw[e1]
  rw[ev];exact fD u p (q.cut lo hi) λhh=>gz (q.cut lo hi) hh
 |_=>trivial
theorem Kq.one(e:Kq A h [d] vs):∃v,vs=[v]/\DB A h d v:=by
 obtain⟨v,r,rfl,a,b⟩:=e;cases (show r=[] from b);exact⟨v,rfl,a⟩
theorem FA(q:aq A h ds vs)(e:fZ ds=some ns):vs=ds:=by
 have:bK ds=true:=by
  clear q
  induction ds generalizing ns with
  |nil=>rfl
  |cons d ds ih=>
   simp only[fZ,bS]at e;obtain⟨i,e1,e⟩:=aab.mp e;obtain⟨is,e2,e⟩:=aab.mp e;cases d<;>first|(cases e1;done)|skip
   rw[bK,j8,Bool.true_and];exact ih e2
 exact(aQ ds vs this).mp q
theorem rT:∀{ds:List Val} {ns:List Int},bT ds=some ns->bK ds=true
 |[],_,_=>rfl
 | d::ds,ns,e=>by
  simp only[bT,bS]at e;obtain⟨i,e1,e⟩:=aab.mp e;obtain⟨is,e2,e⟩:=aab.mp e;cases d<;>first|(cases e1;done)|skip
  rw[bK,j8,Bool.true_and];exact rT (show bT ds=some is from e2)
theorem yi:∀{ds:List Val} {ns:List (List Int)},mw ds=some ns->bK ds=true
 |[],_,_=>rfl
 | d::ds,ns,e=>by
  simp only[mw,bS]at e;obtain⟨i,e1,e⟩:=aab.mp e;obtain⟨is,e2,e⟩:=aab.mp e;cases d<;>first|(cases e1;done)|skip
  rename_i vs;dsimp only at e1;split at e1
  ·cases e1
  ·rw[bK,j8,rT e1,Bool.true_and];exact yi (show mw ds=some is from e2)
theorem aX:∀ns:List Int,bK (ns.map .int)=true
 |[]=>rfl
 |n::ns=>by rw[aap,bK,j8,Bool.true_and];exact aX ns
theorem nF:∀qf:List (List Int),bK (qf.map nq)=true
 |[]=>rfl
 |n::ns=>by rw[aap,bK,nq,j8,aX,Bool.true_and];exact nF ns
theorem uP(e:fR xs=some ys):bK xs=true/\bK ys=true:=by
 unfold fR at e;split at e
 ·cases e2:bT xs with
  |some ns=>rw[e2]at e;cases e;exact⟨rT e2,aX _⟩
  |none=>rw[e2]at e;obtain⟨qf,e3,e4⟩:=aab.mp e;cases e4;exact⟨yi e3,nF _⟩
 ·cases e
theorem Ku{h0:Hs}(u:Up A h)(p:h0<+:h)(a:Kq A h ds vs):Rel A h (RV A h0) (blt b vs h) (jy b ds):=by
 match ds,a with
 |[],a=>cases b<;>trivial
 |[d],a=>
  obtain⟨v,rfl,hv⟩:=a.one;cases b with
  |len=>exact ah (R:=λn _ m=>m=n) (bW λn e=>⟨n,OY hv e,rfl⟩) λn h1 m _ e=>by subst e;exact aE j9
  |min=>cases d<;>trivial
  |max=>cases d<;>trivial
  |sorted=>
   cases d<;>first|trivial|skip
   rename_i xs;obtain⟨ws,e1,q⟩:=hv.lst;have ev:bnd (ask λh=>aG h v) (λxs=>bnd (bD (fR xs)) λys=>new (.lst ys)) h=bnd (bD (fR ws)) (λys=>new (.lst ys)) h:=by unfold bnd ask bD;dsimp only;rw[e1]
   show Rel A h (RV A h0) (bnd (ask λh=>aG h v) (λxs=>bnd (bD (fR xs)) λys=>new (.lst ys)) h) _;rw[ev];refine ah (R:=λys _ zs=>zs=ys/\bK ys=true) (bG λys e=>?_) λys h1 zs q1 hz=>?_
   ·obtain⟨i1,i2⟩:=uP e;rw[(aQ xs ws i1).mp q];exact⟨ys,e,rfl,i2⟩
   ·obtain⟨rfl,hi⟩:=hz;exact fD (u.ext q1) (p.trans q1) ((aQ _ _ hi).mpr rfl) λ_=>(aQ _ _ hi).mpr rfl
  |list=>refine ah (R:=λxs h' ws=>aq A h' xs ws) (bW λxs e=>hv.seq e) λxs h1 ws q1 q=>?_;exact fD (u.ext q1) (p.trans q1) q λhi=>gz q hi
  |tuple=>trivial
  |str=>trivial
  |int=>
   cases d<;>first|trivial|skip
   ·have:=hv.bl;subst this;exact aE j9
   ·have:=hv.int;subst this;exact aE j9
  |all=>
   cases d<;>first|trivial|skip
   rename_i xs;obtain⟨ws,e1,q⟩:=hv.lst;have ev:bnd (ask λh=>aG h v) (λxs=>bnd (bD (fZ xs)) λbs=>ret (Val.bl (bs.all id))) h=bnd (bD (fZ ws)) (λbs=>ret (Val.bl (bs.all id))) h:=by unfold bnd ask bD;dsimp only;rw[e1]
   show Rel A h (RV A h0) (bnd (ask λh=>aG h v) (λxs=>bnd (bD (fZ xs)) λbs=>ret (Val.bl (bs.all id))) h) _;rw[ev];exact ah (R:=λys _ zs=>zs=ys) (bG λys e=>⟨ys,by rw[FA q e];exact e,rfl⟩) λys h1 zs q1 hz=>by subst hz;exact aE pJ
  |any=>trivial
  |isin T=>refine ah (R:=λn _ m=>m=n) (bW λn e=>⟨n,S5 hv e,rfl⟩) λn h1 m _ e=>?_;subst e;exact ah (R:=λn _ m=>m=n) (bG λn e=>⟨n,e,rfl⟩) λn h1 m _ e=>by subst e;exact aE pJ
 |[d,e],a=>
  obtain⟨v,r,rfl,hv,hr⟩:=a;obtain⟨w,rfl,hw⟩:=Kq.one hr;cases b<;>first|trivial|(cases d<;>trivial)|skip
  ·cases d<;>cases e<;>first|trivial|skip
   have:=hv.int;subst this;have:=hw.int;subst this;exact aE j9
  ·cases d<;>cases e<;>first|trivial|skip
   have:=hv.int;subst this;have:=hw.int;subst this;exact aE j9
 |x::y::z::t,a=>cases b<;>first|trivial|(cases x<;>trivial)|(cases x<;>cases y<;>trivial)
end
def Imp(φ:List Val->M Val)(ψ:List Val->Pr FV):Prop:=∀(A:AP) (h:Hs) (ds vs:List Val),Up A h->aq A h ds vs->Rel A h (RV A h) (φ vs h) (ψ ds)
section
variable {Φ:Nat->List Val->M Val} {Ψ:Nat->List Val->Pr FV} {A:AP} {h h1:Hs}
theorem cE{x y:Bool}(f:(x&&y)=true):x=true/\y=true:=Bool.and_eq_true_iff.mp f
theorem pZ{x y z:Bool}(f:(x&&y&&z)=true):(x=true/\y=true)/\z=true:=⟨cE (cE f).1,(cE f).2⟩
def bM(Φ:Nat->List Val->M Val)(Ψ:Nat->List Val->Pr FV)(ir:IE):Prop:=∀(aa:aO) (env:Env) (A:AP) (h:Hs),Up A h->ER A aa env h->Rel A h (RV A h) (aD Φ ir env h) (aV Ψ ir aa)
def l0(Φ:Nat->List Val->M Val)(Ψ:Nat->List Val->Pr FV)(eZ:mP):Prop:=(∀(aa:aO) (env:Env) (A:AP) (h:Hs),Up A h->ER A aa env h->Rel A h (ZW A h) (aU Φ eZ env h) (vR Ψ eZ aa)) /\
 ∀(aa:aO) (env:Env) (A:AP) (h:Hs),Up A h->ER A aa env h->Rel A h (λds h' vs=>Kq A h' ds vs) (aU Φ eZ env h) (jz Ψ eZ aa)
theorem RV.up{h0 h':Hs}(p:h0<+:h)(r:RV A h x h' v):RV A h0 x h' v:=⟨r.1,λf=>(r.2 f).fc (Fr.le p.length_le)⟩
theorem FD{h0:Hs}(p:h0<+:h)(r:Rel A h (RV A h) o x):Rel A h (RV A h0) o x:=yh r λ_ _ _ _ q=>q.up p
theorem S6{i:Nat}(e:ER A aa env h):Rel A h (WL A) (aD Φ (.var i) env h) (pl (gY aa (.var i))):=by
 rw[aD];refine bG λx hx=>?_;simp only[gY]at hx;split at hx
 ·rename_i f d hd
  cases hx;have:=e i f d hd;revert this;generalize uO f=t;intro this;cases t with
  |false=>rw[aai rfl]at this;obtain⟨a,k2,k3⟩:=this;exact⟨.ref a,by rw[k2],.inr ⟨a,rfl,k3⟩⟩
  |true=>rw[aal (by decide)]at this;obtain⟨v,k1,k2⟩:=this;exact⟨v,by rw[k1],.inl k2⟩
 ·cases hx
theorem kL(o:bM Φ Ψ ir)(u:Up A h)(e:ER A aa env h):Rel A h (WL A) (aD Φ ir env h) (if isVar ir=true then pl (gY aa ir) else aV Ψ ir aa):=by
 by_cases hv:isVar ir=true
 ·rw[aai hv];cases ir<;>first|(cases hv;done)|exact S6 e
 ·rw[aal hv];exact yh (o aa env A h u e) λ_ _ _ _ q=>q.br
theorem Kv{α β:Type}{R:α -> Hs -> β -> Prop}{c:Bool}{o:Out β}{p:Pr α}(r:c=true->Rel A h R o p):Rel A h R o (pg c p):=by
 unfold pg;cases c with
 |true=>rw[aai rfl];exact r rfl
 |false=>rw[aal aac];trivial
theorem v_var{i:Nat}:bM Φ Ψ (.var i):=λaa env A h u e=>by
 rw[aD,aV];cases hv:aa[i]? with
 |none=>trivial
 |some o=>
  cases o with
  |none=>trivial
  |some fd=>
   obtain⟨f,d⟩:=fd;refine Kv λhf=>?_
   ·have:=e i f d hv;rw[aal (by simp[hf])]at this;obtain⟨v,k1,k2⟩:=this;rw[k1];exact⟨v,h,rfl,aaw _,oS k2⟩
theorem BB{α:Type}{f:Hs->Option α}:ask f h=bnd (ask f) (λz=>ret z) h:=by unfold bnd ask bD;cases f h<;>rfl
theorem BC(f:j8 d=true):Dn A h d d:=(gP d d f).mpr rfl
theorem S7(f:j8 d=true):bM Φ Ψ (.cst d):=λaa env A h u e=>by rw[aD,aV];exact aE (oS (BC f))
theorem S8(f:j8 d=true):bM Φ Ψ (.con x d):=λaa env A h u e=>by rw[aD,aV];exact aE (oS (BC f))
theorem WM:bM Φ Ψ .no:=λaa env A h u e=>by rw[aV];trivial
theorem S9(ha:bM Φ Ψ a)(hb:bM Φ Ψ b):bM Φ Ψ (.bin o a b):=λaa env A h u e=>by
 rw[aD,aV];exact ah (kL ha u e) λx h1 v p1 q1=>ah (kL hb (u.ext p1) (e.ext p1)) λy h2 w p2 q2=>BA ((u.ext p1).ext p2) (p1.trans p2) (DB.ext p2 q1) q2
theorem Tc(ha:bM Φ Ψ a):bM Φ Ψ (.neg a):=λaa env A h u e=>by
 rw[aD,aV];refine ah (ha aa env A h u e) λx h1 v p1 q1=>?_;obtain⟨f,d⟩:=x;have q:=q1.1;cases d<;>dsimp only<;>first|trivial|skip
 dsimp only at q;rw[Dn]at q;subst q;exact aE j9
theorem Td(ha:bM Φ Ψ a)(hb:bM Φ Ψ b):bM Φ Ψ (.cmp o a b):=λaa env A h u e=>by
 rw[aD,aV];exact ah (kL ha u e) λx h1 v p1 q1=>ah (kL hb (u.ext p1) (e.ext p1)) λy h2 w p2 q2=>
  ah (R:=λt _ t'=>t'=t) (bW λt et=>⟨t,OX (DB.ext p2 q1) q2 et,rfl⟩) λt h3 t' p3 et=>by subst et;exact aE pJ
theorem Te(ha:bM Φ Ψ a)(hb:bM Φ Ψ b)(hc:bM Φ Ψ c):bM Φ Ψ (.chn o o' a b c):=λaa env A h u e=>by rw[aV];trivial
theorem k9(q:Dn A h d v):Rel A h (λt _ t'=>t'=t) (qY v h) (rP d):=by
 cases d<;>first|trivial|skip
 rw[Dn]at q;subst q;exact aE rfl
theorem v_and(ha:bM Φ Ψ a)(hb:bM Φ Ψ b):bM Φ Ψ (.and a b):=λaa env A h u e=>by
 rw[aD,aV];refine ah (ha aa env A h u e) λx h1 v p1 q1=>ah (k9 q1.1) λt h2 t' p2 et=>?_;subst et;cases t' with
 |true=>rw[aai rfl,aai rfl];exact ah (hb aa env A h2 ((u.ext p1).ext p2) ((e.ext p1).ext p2)) λy h3 w p3 q3=>ah (k9 q3.1) λt h2 t' p2 et=>by subst et;exact aE pJ
 |false=>rw[aal aac,aal aac];exact aE pJ
theorem v_or(ha:bM Φ Ψ a)(hb:bM Φ Ψ b):bM Φ Ψ (.or a b):=λaa env A h u e=>by
 rw[aD,aV];refine ah (ha aa env A h u e) λx h1 v p1 q1=>ah (k9 q1.1) λt h2 t' p2 et=>?_;subst et;cases t' with
 |false=>rw[aal aac,aal aac];exact ah (hb aa env A h2 ((u.ext p1).ext p2) ((e.ext p1).ext p2)) λy h3 w p3 q3=>ah (k9 q3.1) λt h2 t' p2 et=>by subst et;exact aE pJ
 |true=>rw[aai rfl,aai rfl];exact aE pJ
theorem v_not(ha:bM Φ Ψ a):bM Φ Ψ (.not a):=λaa env A h u e=>by
 rw[aD,aV];exact ah (ha aa env A h u e) λx h1 v p1 q1=>ah (k9 q1.1) λt h2 t' p2 et=>by subst et;exact aE pJ
theorem v_ite(hc:bM Φ Ψ c)(ha:bM Φ Ψ a)(hb:bM Φ Ψ b):bM Φ Ψ (.ite c a b):=λaa env A h u e=>by rw[aV];trivial
theorem LU:l0 Φ Ψ .nil:=⟨λaa env A h u e=>by rw[aU,vR];exact aE ⟨aq.nil,λ_=>aq.nil⟩,λaa env A h u e=>by rw[aU,jz];exact aE rfl⟩
theorem FE(he:bM Φ Ψ e)(hs:l0 Φ Ψ es):l0 Φ Ψ (.cons e es):=by
 refine⟨λaa env A h u er=>?_,λaa env A h u er=>?_⟩
 ·rw[aU,vR]
  refine ah (he aa env A h u er) λx h1 v p1 q1=>ah (hs.1 aa env A h1 (u.ext p1) (er.ext p1)) λy h2 vs p2 q2=>?_;refine aE ⟨aq.cons (q1.1.ext p2) q2.1,λhf=>?_⟩;have hf':x.1=true/\y.1=true:=by simpa using hf
  exact aq.cons ((q1.2 hf'.1).ext p2) ((q2.2 hf'.2).fc (Fr.le p1.length_le))
 ·rw[aU,jz];refine ah (kL he u er) λx h1 v p1 q1=>ah (hs.2 aa env A h1 (u.ext p1) (er.ext p1)) λy h2 vs p2 q2=>?_;exact aE ⟨v,vs,rfl,DB.ext p2 q1,q2⟩
theorem Tf(hs:l0 Φ Ψ es):bM Φ Ψ (.tup es):=λaa env A h u e=>by
 rw[aD,aV];refine ah (hs.1 aa env A h u e) λx h1 vs p1 q1=>bQ (λz=>by rw[<-q1.1.length];exact z) λ_=>aE ⟨?_,λhf=>?_⟩
 ·show Dn A h1 (.tup _) _;rw[Dn];exact⟨vs,rfl,q1.1⟩
 ·show Dn _ h1 (.tup _) _;rw[Dn];exact⟨vs,rfl,q1.2 hf⟩
theorem O6:bM Φ Ψ .dct0:=λaa env A h u e=>by
 rw[aD,aV];refine⟨_,_,rfl,dH _,?_,λhf=>?_⟩
 ·show Dn A _ (.dc [] []) _;rw[Dn];exact⟨_,[],rfl,u _ (aao _),jK _,rfl,aq.nil⟩
 ·show Dn _ _ (.dc [] []) _;rw[Dn];exact⟨_,[],rfl,aao _,jK _,rfl,aq.nil⟩
theorem O7(hk:bM Φ Ψ k)(hv:bM Φ Ψ v):bM Φ Ψ (.dct1 k v):=λaa env A h u e=>by
 rw[aD,aV];refine ah (hk aa env A h u e) λx h1 w p1 q1=>ah (R:=λkk _ kk'=>kk'=kk) (bG λkk ek=>⟨kk,Ae q1.1 ek,rfl⟩) λkk h2 kk' p2 hkk=>?_;subst hkk;refine ah (hv aa env A h2 ((u.ext p1).ext p2) ((e.ext p1).ext p2)) λy h3 z p3 q3=>?_;have p:=(p1.trans p2).trans p3;refine⟨_,_,rfl,dH _,?_,λhf=>?_⟩
 ·show Dn A _ (.dc [kk'] [y.2]) _;rw[Dn];exact⟨_,[(kk',z)],rfl,u _ p.length_le,jK _,rfl,aq.cons (q3.1.ext (dH _)) aq.nil⟩
 ·show Dn _ _ (.dc [kk'] [y.2]) _;rw[Dn];exact⟨_,[(kk',z)],rfl,p.length_le,jK _,rfl,aq.cons (((q3.2 hf).fc (Fr.le (p1.trans p2).length_le)).ext (dH _)) aq.nil⟩
theorem O8(hd:bM Φ Ψ d)(hk:bM Φ Ψ k)(hx:bM Φ Ψ x):bM Φ Ψ (.dget d k x):=λaa env A h u e=>by
 rw[aD,aV];refine ah (kL hd u e) λo h1 v p1 q1=>ah (R:=λ_ _ _=>True) (bW λt et=>⟨t,Kp q1 et,trivial⟩) λ_ h2 _ p2 _=>?_;refine ah (hk aa env A h2 ((u.ext p1).ext p2) ((e.ext p1).ext p2)) λi h3 w p3 q3=>ah (R:=λkk _ kk'=>kk'=kk) (bG λkk ek=>⟨kk,Ae q3.1 ek,rfl⟩) λkk h4 kk' p4 hkk=>?_;subst hkk;have Yb:=((p1.trans p2).trans p3).trans p4;refine ah (hx aa env A h4 (u.ext Yb) (e.ext Yb)) λz h5 z' p5 q5=>?_;refine ah (R:=λr h' r'=>∀a b,Dn A h5 a b->Dn A h' (r.getD a) (r'.getD b)) (bW λr er=>?_) λr h6 r' p6 hr=>aE (oS (hr _ _ q5.1));obtain⟨r',e1,e2⟩:=OZ (DB.ext ((p2.trans p3).trans (p4.trans p5)) q1) er;exact⟨r',e1,e2⟩
theorem Kw(hd:bM Φ Ψ d):bM Φ Ψ (.lkeys d):=λaa env A h u e=>by
 rw[aD,aV];refine ah (kL hd u e) λo h1 v p1 q1=>ah (R:=λks _ ks'=>ks'=ks) (bW λks ek=>⟨ks,rR q1 ek,rfl⟩) λks h2 ks' p2 hk=>?_;subst hk;exact fD ((u.ext p1).ext p2) (p1.trans p2) ((aQ _ _ (nE ks')).mpr rfl) λ_=>(aQ _ _ (nE ks')).mpr rfl
theorem Ky(hd:bM Φ Ψ d):bM Φ Ψ (.skeys d):=λaa env A h u e=>by
 rw[aD,aV];refine ah (kL hd u e) λo h1 v p1 q1=>ah (R:=λns _ ns'=>ns'=ns) (bW λns en=>⟨ns,?_,rfl⟩) λns h2 ns' p2 hk=>?_
 ·unfold mQ at en |-;obtain⟨ks,e1,e2⟩:=aab.mp en;rw[rR q1 e1];exact e2
 ·subst hk;exact fD ((u.ext p1).ext p2) (p1.trans p2) ((aQ _ _ (aX ns')).mpr rfl) λ_=>(aQ _ _ (aX ns')).mpr rfl
theorem nG:∀{xs:List Val} {ns:List Int},bT xs=some ns->xs=ns.map .int
 |[],ns,e=>by cases e;rfl
 | x::xs,ns,e=>by
  unfold bT at e;rw[bS]at e;obtain⟨i,e1,e⟩:=aab.mp e;obtain⟨r,e2,e⟩:=aab.mp e;cases e;cases x<;>simp at e1;subst e1;rw[nG e2];rfl
theorem O9{p q:Nat}(hd:bM Φ Ψ d)(hw:bM Φ Ψ w):bM Φ Ψ (.dflt N' js p q d w):=λaa env A h u e=>by
 rw[aD,aV];refine ah (kL hd u e) λo h1 v p1 q1=>ah (R:=λks _ ks'=>ks'=ks) (bW λks ek=>⟨ks,rR q1 ek,rfl⟩) λks h2 ks' p2 hk=>?_;subst hk;refine ah (kL hw ((u.ext p1).ext p2) ((e.ext p1).ext p2)) λx h3 z p3 q3=>ah (R:=λns _ ns'=>ns'=ns) (bW λns en=>⟨ns,?_,rfl⟩) λns h4 ns' p4 hk=>?_
 ·unfold qX at en |-
  obtain⟨ks1,e1,Yc⟩:=aab.mp en;obtain⟨xs,e2,Yd⟩:=aab.mp Yc;obtain⟨ms,e3,ZX⟩:=aab.mp Yd;clear en Yc Yd;obtain⟨f,d⟩:=x;cases d<;>first|(cases e2;done)|skip
  cases e2;obtain⟨vs,e4,e5⟩:=DB.lst q3;rw[nG e3]at e5;rw[e1,e4,(aQ _ _ (aX ms)).mp e5,<-nG e3];show ((bT _).bind _)=_;rw[e3];exact ZX
 ·subst hk;exact fD ((((u.ext p1).ext p2).ext p3).ext p4) (((p1.trans p2).trans p3).trans p4) ((aQ _ _ (aX ns')).mpr rfl) λ_=>(aQ _ _ (aX ns')).mpr rfl
theorem Tg(ha:bM Φ Ψ a):bM Φ Ψ (.isc a x bs):=λaa env A h u e=>by rw[aV];trivial
theorem Pa(ha:bM Φ Ψ a):bM Φ Ψ (.sset a):=λaa env A h u e=>by
 rw[aD,aV];refine ah (kL ha u e) λx h1 v p1 q1=>?_;obtain⟨f,d⟩:=x;cases d<;>first|trivial|skip
 rename_i xs;obtain⟨vs,e1,e2⟩:=DB.lst q1;have ea:∀(F:List Val->M Val),bnd (ask λh=>aG h v) F h1=F vs h1:=λF=>by unfold bnd ask bD;dsimp only;rw[e1]
 rw[ea];show Rel A h1 _ _ (pb (pl (bT xs)) _);refine ah (R:=λns h' ns'=>ns'=ns) (bG λns en=>⟨ns,?_,rfl⟩) λns h2 ns' p2 en=>?_
 ·have ei:=nG en;subst ei;rw[(aQ _ _ (aX ns)).mp e2];exact en
 ·subst en;refine bQ (λz=>z) λ_=>?_;have hi:∀ms:List Int,aq A h2 (ms.map Val.int) (ms.map Val.int):=λms=>(aQ _ _ (aX ms)).mpr rfl;exact fD ((u.ext p1).ext p2) (p1.trans p2) (hi _) λ_=>(aQ _ _ (aX _)).mpr rfl
theorem Th(hs:l0 Φ Ψ es):bM Φ Ψ (.lst es):=λaa env A h u e=>by
 rw[aD,aV];exact ah (hs.1 aa env A h u e) λx h1 vs p1 q1=>bQ (λz=>by rw[<-q1.1.length];exact z) λ_=>fD (u.ext p1) p1 q1.1 q1.2
theorem Ti(ha:bM Φ Ψ a)(hb:bM Φ Ψ b):bM Φ Ψ (.idx a b):=λaa env A h u e=>by
 rw[aD,aV];refine ah (kL ha u e) λx h1 v p1 q1=>ah (hb aa env A h1 (u.ext p1) (e.ext p1)) λy h2 w p2 q2=>?_;rw[BB];exact ah (R:=λz h' z'=>Dn A h' z z') (bW λz ez=>O0 (DB.ext p2 q1) q2.1 ez) λz h3 z' p3 q3=>aE (oS q3)
theorem lg(o:bM Φ Ψ ir)(u:Up A h)(e:ER A aa env h) :
  Rel A h (λ(t:Option Int) _ t'=>t'=t) ((if cN ir=true then ret none else bnd (aD Φ ir env) λv=>bnd (bD (fu v)) λi=>ret (some i)) h) (if cN ir=true then .ok none else pb (aV Ψ ir aa) λv=>pb (pl (fu v.2)) λi=>.ok (some i)):=by
 by_cases hn:cN ir=true
 ·rw[aai hn,aai hn];exact aE rfl
 ·rw[aal hn,aal hn]
  refine ah (o aa env A h u e) λx h1 v p1 q1=>ah (R:=λt _ t'=>t'=t) (bG λi ei=>?_) λt h2 t' p2 et=>by subst et;exact aE rfl
  obtain⟨f,d⟩:=x;have q:=q1.1;cases d<;>first|(cases ei;done)|skip
  dsimp only at q;rw[Dn]at q;subst q;exact⟨i,ei,rfl⟩
theorem Tj(ha:bM Φ Ψ a)(hl:bM Φ Ψ lo)(hh:bM Φ Ψ hi):bM Φ Ψ (.slc a lo hi):=λaa env A h u e=>by
 rw[aD,aV];refine ah (kL ha u e) λx h1 v p1 q1=>ah (lg hl (u.ext p1) (e.ext p1)) λl h2 l' p2 el=>ah (lg hh ((u.ext p1).ext p2) ((e.ext p1).ext p2)) λr h3 r' p3 er=>?_;subst el;subst er;exact Ks (((u.ext p1).ext p2).ext p3) ((p1.trans p2).trans p3) (DB.ext (p2.trans p3) q1)
theorem Tn(ha:bM Φ Ψ a)(hs:bM Φ Ψ sx):bM Φ Ψ (.rev a sx):=λaa env A h u e=>by
 rw[aD,aV];refine ah (kL ha u e) λx h1 v p1 q1=>ah (lg hs (u.ext p1) (e.ext p1)) λl h2 l' p2 el=>?_;subst el;refine bQ (λz=>z) λ_=>?_;obtain⟨f,d⟩:=x;cases d with
 |rl ds=>
  obtain⟨vs,e1,q⟩:=DB.lst (DB.ext p2 q1);have ev:bnd (ask λh=>aG h v) (λxs=>new (.lst xs.reverse)) h2=new (.lst vs.reverse) h2:=by unfold bnd ask bD;dsimp only;rw[e1]
  rw[ev];exact fD ((u.ext p1).ext p2) (p1.trans p2) (aq.rev q) λhh=>gz (aq.rev q) hh
 |_=>trivial
theorem Pb{j:Nat}(hΦ:∀j,Imp (Φ j) (Ψ j))(hs:l0 Φ Ψ es):bM Φ Ψ (.call j es):=λaa env A h u e=>by
 rw[aD,aV];exact ah (hs.1 aa env A h u e) λx h1 vs p1 q1=>FD p1 (hΦ j A h1 x.2 vs (u.ext p1) q1.1)
theorem To{n:Nat}(ha:bM Φ Ψ a):bM Φ Ψ (.fld n a x):=λaa env A h u e=>by
 rw[aD,aV];refine ah (kL ha u e) λo h1 v p1 q1=>?_;rw[BB];exact ah (R:=λz h' z'=>Dn A h' z z') (bW λz ez=>O3 q1 ez) λz h3 z' p3 q3=>aE (oS q3)
theorem Tp(hΦ:∀j,Imp (Φ j) (Ψ j))(ha:bM Φ Ψ a)(hs:l0 Φ Ψ es):bM Φ Ψ (.mth a m js es):=λaa env A h u e=>by
 rw[aD,aV];refine ah (ha aa env A h u e) λo h1 v p1 q1=>ah (R:=λj _ j'=>j'=j) (bW λj ej=>⟨j,O4 (.inl q1.1) ej,rfl⟩) λj h2 j' p2 hj=>?_;subst hj;exact ah (hs.1 aa env A h2 ((u.ext p1).ext p2) ((e.ext p1).ext p2)) λx h3 vs p3 q3=>FD ((p1.trans p2).trans p3) (hΦ j' A h3 (o.2::x.2) (v::vs) (((u.ext p1).ext p2).ext p3) (aq.cons (q1.1.ext (p2.trans p3)) q3.1))
theorem Tq(hs:l0 Φ Ψ es):bM Φ Ψ (.blt b es):=λaa env A h u e=>by
 rw[aD,aV];exact ah (hs.2 aa env A h u e) λx h1 vs p1 q1=>Ku (u.ext p1) p1 q1
theorem Tr(ha:bM Φ Ψ a)(hs:l0 Φ Ψ es):bM Φ Ψ (.met m a es):=λaa env A h u e=>by
 cases m with
 |join=>rw[aV];trivial
 |_=>rw[aV]<;>first|trivial|(intro z;cases z)
def SrcR(A:AP)(h:Hs)(xs:List Val)(src:Src):Prop:=∃ws,aq A h xs ws/\∀h',h<+:h'->src.items h'=some ws
theorem jL{lo:Int}{n:Nat}:aq A h (bU lo n) (bU lo n):=by
 unfold bU;generalize List.range n=l
 induction l with
 |nil=>exact aq.nil
 |cons a l ih=>exact aq.cons (by rw[Dn]) ih
theorem gA:∀{xs ws:List Val} (i:Nat),aq A h xs ws->aq A h (cM i xs) (cM i ws)
 |[],ws,i,q=>by rw[aq]at q;subst q;exact aq.nil
 | x::xs,ws,i,q=>by
  rw[aq]at q;obtain⟨w,r,rfl,a,b⟩:=q;exact aq.cons (by rw[Dn];exact⟨_,rfl,aq.cons (by rw[Dn]) (aq.cons a aq.nil)⟩) (gA (i+1) b)
theorem BD{ds vs:List Val}(a:DB A h (.rl ds) v):∃ws,aq A h ds ws/\((v=.rl ws)\/∃i,v=.ref i/\∀h',h<+:h'->aG h' (.ref i)=some ws):=by
 rcases a with a|⟨i,rfl,vs,g,q⟩
 ·rw[Dn]at a
  rcases a with ⟨vs,rfl,_,q⟩|⟨i,vs,rfl,_,g,q⟩
  ·exact⟨vs,q,.inl rfl⟩
  ·exact⟨vs,q,.inr ⟨i,rfl,λh' p=>by simp[aG,aW p g]⟩⟩
 ·exact⟨vs,q,.inr ⟨i,rfl,λh' p=>by simp[aG,aW p g]⟩⟩
theorem BE(a:Kq A h ds vs):Rel A h (λxs h' src=>SrcR A h' xs src) (bD (srcOf k vs) h) (pl (Ft k ds)):=by
 refine bG λxs e=>?_;cases k with
 |seq=>
  match ds,e with
  |[.tup es],e=>cases e;obtain⟨v,rfl,hv⟩:=a.one;obtain⟨ws,rfl,q⟩:=hv.tup;exact⟨.fix ws,rfl,ws,q,λ_ _=>rfl⟩
  |[.rl es],e=>
   cases e;obtain⟨v,rfl,hv⟩:=a.one;obtain⟨ws,q,rfl|⟨i,rfl,g⟩⟩:=BD (vs:=[]) hv
   ·exact⟨.fix ws,rfl,ws,q,λ_ _=>rfl⟩
   ·exact⟨.live i,rfl,ws,q,λh' p=>g h' p⟩
 |range=>
  match ds,e with
  |[.int n],e=>
   obtain⟨v,rfl,hv⟩:=a.one;have:=hv.int;subst this;change (if inR n=true then some (bU 0 n.toNat) else none)=some _ at e;split at e
   ·rename_i hn;cases e;exact⟨.fix _,aai hn,_,jL,λ_ _=>rfl⟩
   ·cases e
  |[.int n,.int m],e=>
   obtain⟨v,r,rfl,hv,hr⟩:=a;obtain⟨w,rfl,hw⟩:=Kq.one hr;have:=hv.int;subst this;have:=hw.int;subst this;change (if (inR n&&inR m)=true then some (bU n (m-n).toNat) else none)=some _ at e;split at e
   ·rename_i hn;cases e;exact⟨.fix _,aai hn,_,jL,λ_ _=>rfl⟩
   ·cases e
 |enum=>
  match ds,e with
  |[.rl es],e=>
   cases e;obtain⟨v,rfl,hv⟩:=a.one;obtain⟨ws,q,rfl|⟨i,rfl,g⟩⟩:=BD (vs:=[]) hv
   ·exact⟨.fix _,rfl,_,gA 0 q,λ_ _=>rfl⟩
   ·exact⟨.enum i,rfl,_,gA 0 q,λh' p=>by simp[Src.items,g h' p]⟩
 |zip=>cases e
theorem BF:∀{is:List Nat} {ds vs:List Val} {aa ay:aO} {env:Env},bL is ds aa=some ay->aq A h ds vs->ER A aa env h->(∀i∈is,i<aa.length->i<env.length)->∃env',bindAll is vs env=some env'/\ER A ay env' h
 | [],[],vs,aa,ay,env,e,q,er,_=>by
  rw[aq]at q;subst q;simp only[bL]at e;cases e;exact⟨env,rfl,er⟩
 | i::is,d::ds,vs,aa,ay,env,e,q,er,hl=>by
  rw[aq]at q;obtain⟨v,r,rfl,q1,q2⟩:=q;simp only[bL]at e;have WN:ER A (aa.set i (some (.sh,d))) (env.set i (some v)) h:=λj f d' hj=>by
   by_cases hij:i=j
   ·subst hij
    have hi:i<aa.length:=by have:=(aae.mp hj).1;simpa using this
    rw[aak hi]at hj;cases hj;rw[aal (by decide)];exact⟨v,by rw[aak (hl i aan hi)],q1⟩
   ·rw[aaf hij]at hj;rw[aaf hij];exact er j f d' hj
  simp only[bindAll];exact BF e q2 WN λj hj hl'=>by simpa using hl j (aam _ hj) (by simpa using hl')
 |[],_::_,_,_,_,_,e,_,_,_=>by simp[bL]at e
 |_::_,[],_,_,_,_,e,_,_,_=>by simp[bL]at e
theorem yj(e:cD p d aa=some ay)(q:Dn A h d v)(er:ER A aa env h)(hl:aa.length<=env.length):∃env',fS p v env=some env'/\ER A ay env' h:=by
 cases p with
 |one i=>
  simp only[cD]at e;cases e;refine⟨_,rfl,λj f d' hj=>?_⟩
  by_cases hij:i=j
  ·subst hij
   have hi:i<aa.length:=by have:=(aae.mp hj).1;simpa using this
   rw[aak hi]at hj;cases hj;rw[aal (by decide)];exact⟨v,by rw[aak (by omega)],q⟩
  ·rw[aaf hij]at hj;rw[aaf hij];exact er j f d' hj
 |tup is=>
  cases d<;>simp only[cD]at e<;>first|(cases e;done)|skip
  rw[Dn]at q;obtain⟨vs,rfl,q⟩:=q;exact BF e q er λi _ hi=>by omega
theorem BG(e:ER A aa env h):ER A (gS js aa) (kW js env) h:=λi f d q=>by
 unfold gS at q;rw[aaD]at q;cases hj:js[i]? with
 |none=>rw[hj]at q;cases q
 |some o=>
  rw[hj]at q;simp only[map_some]at q;cases o with
  |none=>cases q
  |some j=>
   dsimp only at q;cases ej:aa[j]? with
   |none=>rw[ej]at q;cases q
   |some w=>
    cases w with
    |none=>rw[ej]at q;cases q
    |some fd=>
     rw[ej]at q;cases q;have:=e j f d ej;revert this;generalize uO f=t;intro this;cases t with
     |false=>rw[aai rfl]at this |-;obtain⟨a,k2,k3⟩:=this;refine⟨a,?_,k3⟩;unfold kW;rw[aaD,hj];simp only[map_some];rw[k2]
     |true=>rw[aal (by decide)]at this |-;obtain⟨v,k1,k2⟩:=this;refine⟨v,?_,k2⟩;unfold kW;rw[aaD,hj];simp only[map_some];rw[k1]
theorem rV :
  ∀(xs:List Val) (vs:List Val) (i:Nat) (acc:List Val) (h:Hs),hb<+:h->Up A h->(∀h',h<+:h'->src.items h'=some ws)->ws.drop i=vs->aq A h xs vs ->
   (∀x v h',h<+:h'->Dn A h' x v->Rel A h' (λo h'' o'=>match o,o' with|some e,some e'=>RV A hb e h'' e'|none,none=>True|_,_=>False) (f v h') (g x)) ->
   Rel A h (λp h' ys=>∃zs,ys=acc++zs/\aq A h' p.2 zs/\(p.1=true->aq (Fr hb.length) h' p.2 zs)) (gx src f vs.length i acc h) (ku g xs)
 | [],vs,i,acc,h,Tt,u,hi,hd,q,hf=>by
  rw[aq]at q;subst q;have hl:ws.length<=i:=List.drop_eq_nil_iff.mp hd;have ev:gx src f ([]:List Val).length i acc h=.ok acc h:=by show gx src f 0 i acc h=_;simp only[gx];unfold bnd ask bD aH;dsimp only;rw[hi h (aaw _)];dsimp only;rw[aai (decide_eq_true hl)];rfl
  rw[ev,ku];exact⟨acc,h,rfl,aaw _,[],by simp,aq.nil,λ_=>aq.nil⟩
 | x::xs,vs,i,acc,h,Tt,u,hi,hd,q,hf=>by
  rw[aq]at q;obtain⟨v,r,rfl,q1,q2⟩:=q;have hv:ws[i]?=some v:=by have:=congrArg (λl=>l[0]?) hd;simpa using this
  have hr:ws.drop (i+1)=r:=by
   have:ws.drop (i+1)=(ws.drop i).drop 1:=by rw[drop_drop]
   rw[this,hd];rfl
  have ev:gx src f (v::r).length i acc h=bnd (f v) (λo=>gx src f r.length (i+1) (match o with|some e=>acc++[e]|none=>acc)) h:=by show gx src f (r.length+1) i acc h=_;simp only[gx];unfold bnd ask bD;dsimp only;rw[hi h (aaw _)];dsimp only;rw[hv];try rfl
  rw[ev,ku];refine ah (hf x v h (aaw _) q1) λo h1 o' p1 ho=>?_;have ih:=λacc'=>rV xs r (i+1) acc' h1 (Tt.trans p1) (u.ext p1) (λh' p=>hi h' (p1.trans p)) hr (q2.ext p1) λx v h' p=>hf x v h' (p1.trans p);cases o' with
  |some e'=>
   cases o with
   |none=>exact ho.elim
   |some e=>
    have ih:=ih (acc++[e']);cases e2:ku g xs with
    |ok p=>
     rw[e2]at ih;obtain⟨ys,h2,e3,p2,zs,rfl,z1,z2⟩:=ih;refine⟨_,h2,e3,p2,e'::zs,by simp,aq.cons (ho.1.ext p2) z1,λhp=>?_⟩;have Ye:e.1=true/\p.1=true:=by simpa using hp
     exact aq.cons ((ho.2 Ye.1).ext p2) (z2 Ye.2)
    |exc c es=>rw[e2]at ih;exact ih
    |no=>trivial
  |none=>
   cases o with
   |some e'=>exact ho.elim
   |none=>
    have ih:=ih acc;cases e2:ku g xs with
    |ok p=>rw[e2]at ih;obtain⟨ys,h2,e3,p2,zs,rfl,z1,z2⟩:=ih;exact⟨_,h2,e3,p2,zs,rfl,z1,z2⟩
    |exc c es=>rw[e2]at ih;exact ih
    |no=>trivial
theorem Pc(hs:l0 Φ Ψ it)(hc:bM Φ Ψ c)(he:bM Φ Ψ elt):bM Φ Ψ (.comp N js pat k it c elt):=λaa env A h u e=>by
 rw[aD,aV];refine ah (hs.2 aa env A h u e) λds h1 vs p1 q1=>ah (BE q1) λxs h2 src p2 q2=>?_;obtain⟨ws,q3,q4⟩:=q2;have l:=q3.length;have ev:∀(F:List Val->M Val),bnd (ask λh=>src.items h) F h2=F ws h2:=λF=>by unfold bnd ask bD;dsimp only;rw[q4 h2 (aaw _)]
 rw[ev];refine bQ (λz=>by rw[<-l];exact z) λ_=>?_;have u2:=(u.ext p1).ext p2;have e2:=(e.ext p1).ext p2;refine ah (rV (hb:=h) xs ws 0 [] h2 (p1.trans p2) u2 q4 rfl q3 λx v h' p' qx=>?_) λp h3 ys p3 hp=>?_
 ·refine ah (R:=λay _ env'=>∃_:ER A ay env' h',True) (bG λay ev'=>?_) λay h4 env' p4 he'=>?_
  ·obtain⟨env',a1,a2⟩:=yj ev' qx (BG (e2.ext p')) (by simp[gS,kW]);exact⟨env',a1,a2,trivial⟩
  ·obtain⟨er,_⟩:=he'
   have er:=er.ext p4;have u4:=(u2.ext p').ext p4;have SN:Rel A h4 (λt _ t'=>t'=t) ((if cN c=true then ret true else bnd (aD Φ c env') λv=>ask λh=>ck h v) h4) (if cN c=true then .ok true else pb (aV Ψ c ay) λv=>pl (ck [] v.2)):=by
    by_cases hn:cN c=true
    ·rw[aai hn,aai hn];exact aE rfl
    ·rw[aal hn,aal hn];exact ah (hc ay env' A h4 u4 er) λy h5 w p5 q5=>bW λt et=>⟨t,rQ q5.br et,rfl⟩
   refine ah SN λt h5 t' p5 et=>?_;subst et;cases t' with
   |true=>rw[aai rfl,aai rfl];exact ah (he ay env' A h5 (u4.ext p5) (er.ext p5)) λy h6 w p6 q6=>aE (q6.up ((p1.trans p2).trans (p'.trans (p4.trans p5))))
   |false=>rw[aal aac,aal aac];exact aE trivial
 ·obtain⟨zs,rfl,z1,z2⟩:=hp;exact fD (u2.ext p3) ((p1.trans p2).trans p3) z1 z2
mutual
noncomputable def dm:IE->Bool
 |.cst d=>j8 d
 |.con _ d=>j8 d
 |.bin _ a b=>dm a&&dm b
 |.neg a=>dm a
 |.cmp _ a b=>dm a&&dm b
 |.chn _ _ a b c=>dm a&&dm b&&dm c
 |.and a b=>dm a&&dm b
 |.or a b=>dm a&&dm b
 |.not a=>dm a
 |.ite a b c=>dm a&&dm b&&dm c
 |.tup es=>nH es
 |.lst es=>nH es
 |.idx a b=>dm a&&dm b
 |.slc a b c=>dm a&&dm b&&dm c
 |.call _ es=>nH es
 |.blt _ es=>nH es
 |.met _ a es=>dm a&&nH es
 |.comp _ _ _ _ es a b=>nH es&&dm a&&dm b
 |.var _=>true
 |.no=>true
 |.dct0=>true
 |.sset a=>dm a
 |.dget a b c=>dm a&&dm b&&dm c
 |.dct1 a b=>dm a&&dm b
 |.lkeys a=>dm a
 |.sdef ..=>false
 |.svals _=>false
 |.skeys a=>dm a
 |.fld _ a _=>dm a
 |.mth a _ _ es=>dm a&&nH es
 |.rev a b=>dm a&&dm b
 |.dflt _ _ _ _ a b=>dm a&&dm b
 |.isc a _ _=>dm a
noncomputable def nH:mP->Bool
 |.nil=>true
 |.cons e es=>dm e&&nH es
end
theorem v_all(hΦ:∀j,Imp (Φ j) (Ψ j)):(∀ir,dm ir=true->bM Φ Ψ ir)/\∀eZ,nH eZ=true->l0 Φ Ψ eZ:=by
 have one:∀ir,dm ir=true->bM Φ Ψ ir:=by
  intro ir;refine IE.rec (motive_1:=λir=>dm ir=true->bM Φ Ψ ir) (motive_2:=λeZ=>nH eZ=true->l0 Φ Ψ eZ) ?_ ?_ ?_ ?_ ?_ ?_ ?_ ?_ ?_ ?_ ?_ ?_ ?_ ?_ ?_ ?_ ?_ ?_ ?_ ?_ ?_ ?_ ?_ ?_ ?_ ?_ ?_ ?_ ?_ ?_ ?_ ?_ ?_ ?_ ?_ ir
  ·exact λ_ _=>v_var
  ·exact λ_ f=>S7 f
  ·exact λ_ _ f=>S8 f
  ·exact λ_=>WM
  ·intro _ _ _ a b f;have f:=cE f;exact S9 (a f.1) (b f.2)
  ·intro _ a f;exact Tc (a f)
  ·intro _ _ _ a b f;have f:=cE f;exact Td (a f.1) (b f.2)
  ·intro _ _ _ _ _ a b c f;have f:=pZ f;exact Te (a f.1.1) (b f.1.2) (c f.2)
  ·intro _ _ a b f;have f:=cE f;exact v_and (a f.1) (b f.2)
  ·intro _ _ a b f;have f:=cE f;exact v_or (a f.1) (b f.2)
  ·intro _ a f;exact v_not (a f)
  ·intro _ _ _ a b c f;have f:=pZ f;exact v_ite (a f.1.1) (b f.1.2) (c f.2)
  ·intro _ a f;exact Tf (a f)
  ·intro _ a f;exact Th (a f)
  ·intro _ _ a b f;have f:=cE f;exact Ti (a f.1) (b f.2)
  ·intro _ _ _ a b c f;have f:=pZ f;exact Tj (a f.1.1) (b f.1.2) (c f.2)
  ·intro _ _ a f;exact Pb hΦ (a f)
  ·intro _ _ a f;exact Tq (a f)
  ·intro _ _ _ a b f;have f:=cE f;exact Tr (a f.1) (b f.2)
  ·intro _ _ _ _ _ _ _ a b c f;have f:=pZ f;exact Pc (a f.1.1) (b f.1.2) (c f.2)
  ·exact λ_=>O6
  ·intro _ a f;exact Pa (a f)
  ·intro _ _ _ a b c f;have f:=pZ f;exact O8 (a f.1.1) (b f.1.2) (c f.2)
  ·intro _ _ a b f;have f:=cE f;exact O7 (a f.1) (b f.2)
  ·intro _ a f;exact Kw (a f)
  ·intro _ _ _ _ _ _ f;exact nomatch (show false=true from f)
  ·intro _ _ f;exact nomatch (show false=true from f)
  ·intro _ a f;exact Ky (a f)
  ·intro _ _ _ a f;exact To (a f)
  ·intro _ _ _ _ a b f;have f:=cE f;exact Tp hΦ (a f.1) (b f.2)
  ·intro _ _ a b f;have f:=cE f;exact Tn (a f.1) (b f.2)
  ·intro _ _ _ _ _ _ a b f;have f:=cE f;exact O9 (a f.1) (b f.2)
  ·intro _ _ _ a f;exact Tg (a f)
  ·exact λ_=>LU
  ·intro _ _ a b f;have f:=cE f;exact FE (a f.1) (b f.2)
 refine⟨one,λeZ=>?_⟩
 induction eZ using mP.rec (motive_1:=λ_=>True) with
 |nil=>exact λ_=>LU
 |cons e es _ ih=>exact λf=>by have f:=cE f;exact FE (one e f.1) (ih f.2)
 |_=>trivial
end
section
variable {A A':AP} {h h':Hs}
mutual
theorem Dn.move(hn:A none->A' none)(hh:∀(i:Nat) (o:Ob),A (some i)->h[i]?=some o->A' (some i)/\h'[i]?=some o):∀(d v:Val),Dn A h d v->Dn A' h' d v
 |.non,v,e=>by rw[Dn]at e |-;exact e
 |.bl _,v,e=>by rw[Dn]at e |-;exact e
 |.int _,v,e=>by rw[Dn]at e |-;exact e
 |.str _,v,e=>by rw[Dn]at e |-;exact e
 | .tup ds,v,e=>by
  rw[Dn]at e |-;obtain⟨vs,rfl,q⟩:=e;exact⟨vs,rfl,aq.move hn hh ds vs q⟩
 | .rl ds,v,e=>by
  rw[Dn]at e |-
  rcases e with ⟨vs,rfl,n,q⟩|⟨i,vs,rfl,a,g,q⟩
  ·exact .inl ⟨vs,rfl,hn n,aq.move hn hh ds vs q⟩
  ·exact .inr ⟨i,vs,rfl,(hh i _ a g).1,(hh i _ a g).2,aq.move hn hh ds vs q⟩
 | .dc ks ds,v,e=>by
  rw[Dn]at e |-;obtain⟨i,kvs,rfl,a,g,k,q⟩:=e;exact⟨i,kvs,rfl,(hh i _ a g).1,(hh i _ a g).2,k,aq.move hn hh ds _ q⟩
 | .ob c xs ds,v,e=>by
  rw[Dn]at e |-;obtain⟨i,kvs,rfl,a,g,k,q⟩:=e;exact⟨i,kvs,rfl,(hh i _ a g).1,(hh i _ a g).2,k,aq.move hn hh ds _ q⟩
 |.ref _,v,e=>by rw[Dn]at e;exact e.elim
theorem aq.move(hn:A none->A' none)(hh:∀(i:Nat) (o:Ob),A (some i)->h[i]?=some o->A' (some i)/\h'[i]?=some o):∀(ds vs:List Val),aq A h ds vs->aq A' h' ds vs
 |[],vs,e=>by rw[aq]at e |-;exact e
 | d::ds,vs,e=>by
  rw[aq]at e |-;obtain⟨v,r,rfl,q1,q2⟩:=e;exact⟨v,r,rfl,Dn.move hn hh d v q1,aq.move hn hh ds r q2⟩
end
end
def Al(A0:AP)(O:Nat->Option Nat):AP:=λo=>A0 o/\∀i,o.isSome=true->O i≠o
structure SR (A0:AP) (h0:Hs) (aa:aO) (env:Env) (h:Hs) (O:Nat->Option Nat):Prop where
 len:aa.length=env.length
 sh:∀(i:Nat) (m:Mk) (d:Val),aa[i]?=some (some (m,d))->uO m=true->∃v,env[i]?=some (some v)/\Dn (Al A0 O) h d v/\(QW m=true->Dn (Al (Fr h0.length) O) h d v)
 ow:∀(i:Nat) (d:Val),aa[i]?=some (some (.ow,d))->∃a,env[i]?=some (some (.ref a))/\O i=some a/\OD (Al A0 O) h d a
 own:∀i a,O i=some a->h0.length<=a/\a<h.length/\∃d,aa[i]?=some (some (.ow,d))
 inj:∀i j a,O i=some a->O j=some a->i=j
 pre:h0<+:h
 up:Up A0 h0
structure Fm (m:List Nat) (aa:aO) (env:Env) (h:Hs) (O:Nat->Option Nat) (ay:aO) (env':Env) (h':Hs) (O':Nat->Option Nat):Prop where
 le:h.length<=h'.length
 keep:∀k,k<h.length->(∀i,O i≠some k)->h'[k]?=h[k]?/\∀i,O' i≠some k
 stay:∀i,i∉m->O' i=O i/\ay[i]?=aa[i]?/\env'[i]?=env[i]?/\∀a,O i=some a->h'[a]?=h[a]?
def RF(A0:AP)(h0:Hs)(m:List Nat)(aa:aO)(env:Env)(h:Hs)(O:Nat->Option Nat):wI->Hs->Fl->Prop
 |.nx ay,h',.nx env'=>∃O',SR A0 h0 ay env' h' O'/\Fm m aa env h O ay env' h' O'
 |.bk ay,h',.bk env'=>∃O',SR A0 h0 ay env' h' O'/\Fm m aa env h O ay env' h' O'
 |.ct ay,h',.ct env'=>∃O',SR A0 h0 ay env' h' O'/\Fm m aa env h O ay env' h' O'
 |.rt p,h',.rt v=>Dn A0 h' p.2 v/\(p.1=true->Dn (Fr h0.length) h' p.2 v)/\h0<+:h'
 |_,_,_=>False
def iX(A0:AP)(h0:Hs){α β:Type}(R:α -> Hs -> β -> Prop)(o:Out β):Pr α -> Prop
 |.ok f=>∃g h',o=.ok g h'/\R f h' g
 |.exc c es=>∃ws h',o=.exc c ws h'/\h0<+:h'/\aq A0 h' es ws
 |.no=>True
section
variable {A0:AP} {h0:Hs} {aa:aO} {env:Env} {h h1:Hs} {O:Nat->Option Nat} {m:List Nat}
theorem SR.er(s:SR A0 h0 aa env h O):ER (Al A0 O) aa env h:=λi f d e=>by
 cases f with
 |ow=>rw[aai (show uO .ow=false by decide)];obtain⟨a,k2,_,k3⟩:=s.ow i d e;exact⟨a,k2,k3⟩
 |sh=>rw[aal (by decide)];obtain⟨v,k1,k2,_⟩:=s.sh i _ d e rfl;exact⟨v,k1,k2⟩
 |nw=>rw[aal (by decide)];obtain⟨v,k1,k2,_⟩:=s.sh i _ d e rfl;exact⟨v,k1,k2⟩
theorem SR.zg(s:SR A0 h0 aa env h O):Up (Al A0 O) h:=λk hk=>⟨s.up k (aaM s.pre.length_le hk),λi _ e=>by have:=(s.own i k e).2.1;omega⟩
theorem SR.ext(s:SR A0 h0 aa env h O)(p:h<+:h1):SR A0 h0 aa env h1 O where
 len:=s.len
 sh i m d e hm:=by obtain⟨v,k1,k2,k3⟩:=s.sh i m d e hm;exact⟨v,k1,k2.ext p,λz=>(k3 z).ext p⟩
 ow i d e:=by obtain⟨a,k2,k3,k4⟩:=s.ow i d e;exact⟨a,k2,k3,k4.ext p⟩
 own i a e:=by obtain⟨k1,k2,k3⟩:=s.own i a e;exact⟨k1,aas k2 p.length_le,k3⟩
 inj:=s.inj
 pre:=s.pre.trans p
 up:=s.up
theorem gB(p:h<+:h1){k:Nat}(hk:k<h.length):h1[k]?=h[k]?:=by
 obtain⟨t,rfl⟩:=p;rw[aat hk]
theorem Fm.refl(s:SR A0 h0 aa env h O)(p:h<+:h1):Fm m aa env h O aa env h1 O where
 le:=p.length_le
 keep k hk n:=⟨gB p hk,n⟩
 stay i _:=⟨rfl,rfl,rfl,λa e=>gB p (s.own i a e).2.1⟩
theorem Fm.trans{nI jM:aO}{gZ iG:Env}{h2:Hs}{O1 O2:Nat->Option Nat}(a:Fm m aa env h O nI gZ h1 O1)(b:Fm m nI gZ h1 O1 jM iG h2 O2):Fm m aa env h O jM iG h2 O2 where
 le:=aaM a.le b.le
 keep k hk n:=by obtain⟨a1,a2⟩:=a.keep k hk n;obtain⟨b1,b2⟩:=b.keep k (aas hk a.le) a2;exact⟨b1.trans a1,b2⟩
 stay i hi:=by obtain⟨a1,a2,a3,a4⟩:=a.stay i hi;obtain⟨b1,b2,b3,b4⟩:=b.stay i hi;exact⟨b1.trans a1,b2.trans a2,b3.trans a3,λc e=>(b4 c (a1.trans e)).trans (a4 c e)⟩
theorem Fm.fc{m':List Nat}(hm:∀i∈m,i∈m')(a:Fm m aa env h O ay env' h1 O'):Fm m' aa env h O ay env' h1 O':=⟨a.le,a.keep,λi hi=>a.stay i λz=>hi (hm i z)⟩
theorem RF.pre(s:SR A0 h0 aa env h O)(p:h<+:h1)(r:RF A0 h0 m aa env h1 O f h' g):RF A0 h0 m aa env h O f h' g:=by
 cases f<;>cases g<;>first|exact r.elim|exact r|(obtain⟨O',a,b⟩:=r;exact⟨O',a,(Fm.refl s p).trans b⟩)
theorem RF.fc{m':List Nat}(hm:∀i∈m,i∈m')(r:RF A0 h0 m aa env h O f h' g):RF A0 h0 m' aa env h O f h' g:=by
 cases f<;>cases g<;>first|exact r.elim|exact r|(obtain⟨O',a,b⟩:=r;exact⟨O',a,b.fc hm⟩)
theorem RF.seq{nI:aO}{gZ:Env}{O1:Nat->Option Nat}(a:Fm m aa env h O nI gZ h1 O1)(r:RF A0 h0 m nI gZ h1 O1 f h' g):RF A0 h0 m aa env h O f h' g:=by
 cases f<;>cases g<;>first|exact r.elim|exact r|(obtain⟨O',b,c⟩:=r;exact⟨O',b,a.trans c⟩)
theorem bA{α β γ δ:Type}{R:α -> Hs -> β -> Prop}{R':γ -> Hs -> δ -> Prop}{mm:M β}{f:β -> M δ}{p:Pr α}{F:α -> Pr γ}(s:SR A0 h0 aa env h O)(r:Rel (Al A0 O) h R (mm h) p)(k:∀a h1 b,h<+:h1->R a h1 b->iX A0 h0 R' (f b h1) (F a)):iX A0 h0 R' (bnd mm f h) (pb p F):=by
 unfold bnd;cases p with
 |ok a=>obtain⟨b,h1,e,q,r⟩:=r;rw[e];exact k a h1 b q r
 |exc c es=>obtain⟨ws,h1,e,q,r⟩:=r;rw[e];exact⟨ws,h1,rfl,s.pre.trans q,r.fc λ_ z=>z.1⟩
 |no=>trivial
theorem bh{α β:Type}{R:α -> Hs -> β -> Prop}{a:α}{b:β}(r:R a h b):iX A0 h0 R (ret b h) (.ok a):=⟨b,h,rfl,r⟩
theorem f7{α β:Type}{R R':α -> Hs -> β -> Prop}{o:Out β}{p:Pr α}(r:iX A0 h0 R o p)(k:∀a h' b,R a h' b->R' a h' b):iX A0 h0 R' o p:=by
 cases p with
 |ok a=>obtain⟨b,h',e,r⟩:=r;exact⟨b,h',e,k a h' b r⟩
 |exc c es=>exact r
 |no=>trivial
theorem nJ{α β γ δ:Type}{R:α -> Hs -> β -> Prop}{R':γ -> Hs -> δ -> Prop}{mm:M β}{f:β -> M δ}{p:Pr α}{F:α -> Pr γ}(r:iX A0 h0 R (mm h) p)(k:∀a h1 b,R a h1 b->iX A0 h0 R' (f b h1) (F a)):iX A0 h0 R' (bnd mm f h) (pb p F):=by
 unfold bnd;cases p with
 |ok a=>obtain⟨b,h1,e,r⟩:=r;rw[e];exact k a h1 b r
 |exc c es=>obtain⟨ws,h1,e,q,r⟩:=r;rw[e];exact⟨ws,h1,rfl,q,r⟩
 |no=>trivial
theorem kc{α β:Type}{R:α -> Hs -> β -> Prop}{c:Bool}{o:Out β}{p:Pr α}(r:c=true->iX A0 h0 R o p):iX A0 h0 R o (pg c p):=by
 unfold pg;cases c with
 |true=>rw[aai rfl];exact r rfl
 |false=>rw[aal aac];trivial
def gT(O:Nat->Option Nat)(i:Nat):Nat->Option Nat:=λj=>if j=i then none else O j
theorem ql:Al A0 O none->Al A0 O none:=id
theorem lq:Al A0 O none->Al A0 O' none:=λh=>⟨h.1,λ_ z=>by cases z⟩
theorem kg{i:Nat}:∀k,Al A0 O k->Al A0 (gT O i) k:=λk ⟨a,b⟩=>⟨a,λj z=>by unfold gT;split;(cases k<;>simp_all);exact b j z⟩
theorem SR.setM(s:SR A0 h0 aa env h O){i:Nat}{mk:Mk}{d v:Val}(ZY:uO mk=true)(q:Dn (Al A0 O) h d v)(qn:QW mk=true->Dn (Al (Fr h0.length) O) h d v):SR A0 h0 (aa.set i (some (mk,d))) (env.set i (some v)) h (gT O i)/\Fm [i] aa env h O (aa.set i (some (mk,d))) (env.set i (some v)) h (gT O i):=by
 refine⟨⟨by simp[s.len],λj m' d' e hm'=>?_,λj d' e=>?_,λj a e=>?_,λj l a e1 e2=>?_,s.pre,s.up⟩,aao _,λk hk n=>⟨rfl,λj=>?_⟩,λj hj=>?_⟩
 ·by_cases hij:i=j
  ·subst hij
   have hi:i<aa.length:=by have:=(aae.mp e).1;simpa using this
   rw[aak hi]at e;cases e;exact⟨v,by rw[aak (by rw[<-s.len];exact hi)],q.fc kg,λz=>(qn z).fc kg⟩
  ·rw[aaf hij]at e;rw[aaf hij];obtain⟨w,k1,k2,k3⟩:=s.sh j m' d' e hm';exact⟨w,k1,k2.fc kg,λz=>(k3 z).fc kg⟩
 ·by_cases hij:i=j
  ·subst hij
   have hi:i<aa.length:=by have:=(aae.mp e).1;simpa using this
   rw[aak hi]at e;cases e;cases ZY
  ·rw[aaf hij]at e;rw[aaf hij];obtain⟨a,k2,k3,k4⟩:=s.ow j d' e;exact⟨a,k2,by unfold gT;rw[aal (λz=>hij z.symm)];exact k3,k4.mono (λ_ g=>g) λ_ _ z=>z.fc kg⟩
 ·unfold gT at e
  split at e
  ·cases e
  ·rename_i hj;obtain⟨k1,k2,d',k3⟩:=s.own j a e;exact⟨k1,k2,d',by rw[aaf (λz=>hj z.symm)];exact k3⟩
 ·unfold gT at e1 e2
  split at e1
  ·cases e1
  ·split at e2
   ·cases e2
   ·exact s.inj j l a e1 e2
 ·unfold gT;split;simp;exact n j
 ·have hj':j≠i:=by simpa using hj
  exact⟨by unfold gT;rw[aal hj'],aaf (λz=>hj' z.symm),aaf (λz=>hj' z.symm),λ_ _=>rfl⟩
theorem SR.set(s:SR A0 h0 aa env h O){i:Nat}(q:Dn (Al A0 O) h d v):SR A0 h0 (aa.set i (some (.sh,d))) (env.set i (some v)) h (gT O i)/\Fm [i] aa env h O (aa.set i (some (.sh,d))) (env.set i (some v)) h (gT O i):=s.setM rfl q λz=>nomatch z
theorem SR.binds:∀{is:List Nat} {ds vs:List Val} {aa:aO} {env:Env} {O:Nat->Option Nat} {ay:aO},SR A0 h0 aa env h O->bL is ds aa=some ay->aq (Al A0 O) h ds vs ->
  ∃env' O',bindAll is vs env=some env'/\SR A0 h0 ay env' h O'/\Fm is aa env h O ay env' h O'
 | [],[],vs,aa,env,O,ay,s,e,q=>by
  rw[aq]at q;subst q;simp only[bL]at e;cases e;exact⟨env,O,rfl,s,Fm.refl s (aaw _)⟩
 | i::is,d::ds,vs,aa,env,O,ay,s,e,q=>by
  rw[aq]at q;obtain⟨v,r,rfl,q1,q2⟩:=q;simp only[bL]at e;obtain⟨s1,f1⟩:=s.set (i:=i) q1;obtain⟨env',O',b1,b2,b3⟩:=SR.binds s1 e (q2.fc kg);refine⟨env',O',by simp only[bindAll];exact b1,b2,(f1.fc λj hj=>?_).trans (b3.fc λj hj=>aam _ hj)⟩;rw[aau.mp hj];exact aan
 |[],_::_,_,_,_,_,_,_,e,_=>by simp[bL]at e
 |_::_,[],_,_,_,_,_,_,e,_=>by simp[bL]at e
theorem SR.bind(s:SR A0 h0 aa env h O)(e:cD p d aa=some ay)(q:Dn (Al A0 O) h d v):∃env' O',fS p v env=some env'/\SR A0 h0 ay env' h O'/\Fm (stored p) aa env h O ay env' h O':=by
 cases p with
 |one i=>simp only[cD]at e;cases e;obtain⟨s1,f1⟩:=s.set (i:=i) q;exact⟨_,_,rfl,s1,f1⟩
 |tup is=>
  cases d<;>simp only[cD]at e<;>first|(cases e;done)|skip
  rw[Dn]at q;obtain⟨vs,rfl,q⟩:=q;exact s.binds e q
theorem Kz{a:Nat}(p:h0<+:h)(ha:h0.length<=a):h0<+:h.set a o:=by
 obtain⟨t,rfl⟩:=p;rw[List.set_append_right _ _ ha];exact aaY _ _
theorem SR.put(s:SR A0 h0 aa env h O){i a:Nat}{d d1:Val}(e:aa[i]?=some (some (.ow,d)))(ha:O i=some a)(q:OB (Al A0 O) h d1 ob) :
  SR A0 h0 (aa.set i (some (.ow,d1))) env (h.set a ob) O/\Fm [i] aa env h O (aa.set i (some (.ow,d1))) env (h.set a ob) O:=by
 obtain⟨o1,o2,_⟩:=s.own i a ha;have hi:i<aa.length:=(aae.mp e).1;have mv:∀{A0:AP} (k:Nat) (o:Ob),Al A0 O k->h[k]?=some o->Al A0 O k/\(h.set a ob)[k]?=some o:=λk o hk g=>⟨hk,by rw[aaf λz=>hk.2 i rfl (by rw[<-z];exact ha)];exact g⟩;obtain⟨a0,e2,e3,_⟩:=s.ow i d e;refine⟨⟨by simp[s.len],λj m' d' ej hm'=>?_,λj d' ej=>?_,λj b ej=>?_,s.inj,Kz s.pre o1,s.up⟩,by simp,λk hk n=>⟨?_,n⟩,λj hj=>?_⟩
 ·by_cases hij:i=j
  ·subst hij;rw[aak hi]at ej;cases ej;cases hm'
  ·rw[aaf hij]at ej;obtain⟨w,k1,k2,k3⟩:=s.sh j m' d' ej hm';exact⟨w,k1,Dn.move ql mv _ _ k2,λz=>Dn.move ql mv _ _ (k3 z)⟩
 ·by_cases hij:i=j
  ·subst hij;rw[aak hi]at ej;cases ej;rw[ha]at e3;cases e3;exact⟨a,e2,ha,q.od (by rw[aak o2]) λ_ _ z=>aq.move ql mv _ _ z⟩
  ·rw[aaf hij]at ej;obtain⟨a1,k2,k3,k4⟩:=s.ow j d' ej;have:a≠a1:=λz=>hij (s.inj i j a ha (by rw[z];exact k3));exact⟨a1,k2,k3,k4.mono (λ_ g=>by rw[aaf this];exact g) λ_ _ z=>aq.move ql mv _ _ z⟩
 ·obtain⟨k1,k2,d',k3⟩:=s.own j b ej
  refine⟨k1,by simp[k2],?_⟩
  by_cases hij:i=j
  ·subst hij;exact⟨_,by rw[aak hi]⟩
  ·exact⟨d',by rw[aaf hij];exact k3⟩
 ·rw[aaf λz=>n i (by rw[<-z];exact ha)]
 ·have hj':j≠i:=by simpa using hj
  exact⟨rfl,aaf (λz=>hj' z.symm),rfl,λb eb=>by rw[aaf λz=>hj' (s.inj j i b eb (by rw[<-z];exact ha))]⟩
def tQ(O:Nat->Option Nat)(i a:Nat):Nat->Option Nat:=λj=>if j=i then some a else O j
theorem SR.fresh(s:SR A0 h0 aa env h O){i:Nat}{d1:Val}{h2:Hs}(p:h<+:h2)(q:OB (Al A0 O) h2 d1 ob) :
  SR A0 h0 (aa.set i (some (.ow,d1))) (env.set i (some (.ref h2.length))) (h2++[ob]) (if i<aa.length then tQ O i h2.length else gT O i) /\
   Fm [i] aa env h O (aa.set i (some (.ow,d1))) (env.set i (some (.ref h2.length))) (h2++[ob]) (if i<aa.length then tQ O i h2.length else gT O i):=by
 have pp:h<+:h2++[ob]:=p.trans (aaY _ _);have s2:=s.ext p;have mv:∀{A0:AP} (j:Nat),∀(k:Nat) (o:Ob),Al A0 O k->h2[k]?=some o->Al A0 (if i<aa.length then tQ O i h2.length else gT O i) k/\(h2++[ob])[k]?=some o:=λ{A0} j k o hk g=>by
  have hlt:k<h2.length:=(aae.mp g).1;refine⟨?_,by rw[aat hlt];exact g⟩
  split
  ·refine⟨hk.1,λl _=>?_⟩
   unfold tQ
   split
   ·intro z;cases z;omega
   ·exact hk.2 l rfl
  ·exact kg k hk
 by_cases hi:i<aa.length
 ·rw[aai hi]at mv |-
  refine⟨⟨by simp[s.len],λj m' d' ej hm'=>?_,λj d' ej=>?_,λj b ej=>?_,λj l b e1 e2=>?_,s.pre.trans pp,s.up⟩,pp.length_le,λk hk n=>⟨gB pp hk,λl=>?_⟩,λj hj=>?_⟩
  ·by_cases hij:i=j
   ·subst hij;rw[aak hi]at ej;cases ej;cases hm'
   ·rw[aaf hij]at ej;rw[aaf hij];obtain⟨w,k1,k2,k3⟩:=s2.sh j m' d' ej hm';exact⟨w,k1,Dn.move lq (mv 0) _ _ k2,λz=>Dn.move lq (mv 0) _ _ (k3 z)⟩
  ·by_cases hij:i=j
   ·subst hij;rw[aak hi]at ej;cases ej;exact⟨h2.length,by rw[aak (by rw[<-s.len];exact hi)],by unfold tQ;rw[aai rfl],q.od (by simp) λ_ _ z=>aq.move lq (mv 0) _ _ z⟩
   ·rw[aaf hij]at ej;rw[aaf hij];obtain⟨a1,k2,k3,k4⟩:=s2.ow j d' ej;have hlt:a1<h2.length:=k4.lt;exact⟨a1,k2,by unfold tQ;rw[aal λz=>hij z.symm];exact k3,k4.mono (λ_ g=>by rw[aat hlt];exact g) λ_ _ z=>aq.move lq (mv 0) _ _ z⟩
  ·unfold tQ at ej
   split at ej
   ·rename_i hj;cases ej;subst hj;exact⟨aaM s.pre.length_le p.length_le,by simp,_,by rw[aak hi]⟩
   ·rename_i hj;obtain⟨k1,k2,d',k3⟩:=s2.own j b ej;exact⟨k1,by simp;omega,d',by rw[aaf λz=>hj z.symm];exact k3⟩
  ·unfold tQ at e1 e2
   split at e1
   ·rename_i h1;cases e1
    split at e2
    ·rename_i h3;rw[h1,h3]
    ·have:=(s2.own l _ e2).2.1;omega
   ·split at e2
    ·cases e2;have:=(s2.own j _ e1).2.1;omega
    ·exact s.inj j l b e1 e2
  ·unfold tQ;split
   ·intro z;cases z;have:=p.length_le;omega
   ·exact n l
  ·have hj':j≠i:=by simpa using hj
   exact⟨by unfold tQ;rw[aal hj'],aaf (λz=>hj' z.symm),aaf (λz=>hj' z.symm),λb eb=>gB pp (s.own j b eb).2.1⟩
 ·rw[aal hi]at mv |-
  have e1:aa.set i (some (.ow,d1))=aa:=List.set_eq_of_length_le (by omega);have e2:env.set i (some (.ref h2.length))=env:=List.set_eq_of_length_le (by rw[<-s.len];omega);have e3:gT O i=O:=by
   funext j;unfold gT;split
   ·rename_i hj;subst hj
    cases e:O j with
    |none=>rfl
    |some a=>obtain⟨_,_,d,k⟩:=s.own j a e;exact absurd (aae.mp k).1 hi
   ·rfl
  rw[e1,e2,e3];exact⟨s.ext pp,Fm.refl s pp⟩
end
section
variable {Φ:Nat->List Val->M Val} {Ψ:Nat->List Val->Pr FV} {A:AP} {h h1:Hs}
def isRef:Val->Bool
 |.rl _=>true
 |.dc _ _=>true
 |_=>false
def RN(A:AP)(h:Hs):FV->Hs->Val->Prop:=λx h' v=>isRef x.2=true->∃h2 o,h'=h2++[o]/\v=.ref h2.length/\h<+:h2/\OB A h2 x.2 o
def LV(Φ:Nat->List Val->M Val)(Ψ:Nat->List Val->Pr FV)(ir:IE):Prop:=∀(aa:aO) (env:Env) (A:AP) (h:Hs),Up A h->ER A aa env h->Rel A h (RN A h) (aD Φ ir env h) (aV Ψ ir aa)
theorem lu{f:Bool}{h0:Hs}(p:h0<+:h)(q:aq A h xs vs):Rel A h (RN A h0) (new (.lst vs) h) (.ok (f,.rl xs)) :=
 ⟨_,_,rfl,dH _,λ_=>⟨h,.lst vs,rfl,rfl,p,vs,rfl,q⟩⟩
theorem Pd:LV Φ Ψ .dct0:=λaa env A h u e=>by
 rw[aD,aV];exact⟨_,_,rfl,dH _,λ_=>⟨h,.dct [],rfl,rfl,aaw _,[],rfl,rfl,aq.nil⟩⟩
theorem Pe(hk:bM Φ Ψ k)(hv:bM Φ Ψ v):LV Φ Ψ (.dct1 k v):=λaa env A h u e=>by
 rw[aD,aV];refine ah (hk aa env A h u e) λx h1 w p1 q1=>ah (R:=λkk _ kk'=>kk'=kk) (bG λkk ek=>⟨kk,Ae q1.1 ek,rfl⟩) λkk h2 kk' p2 hkk=>?_;subst hkk;refine ah (hv aa env A h2 ((u.ext p1).ext p2) ((e.ext p1).ext p2)) λy h3 z p3 q3=>?_;exact⟨_,_,rfl,dH _,λ_=>⟨h3,.dct [(kk',z)],rfl,rfl,(p1.trans p2).trans p3,[(kk',z)],rfl,rfl,aq.cons q3.1 aq.nil⟩⟩
theorem Tu(hs:l0 Φ Ψ es):LV Φ Ψ (.lst es):=λaa env A h u e=>by
 rw[aD,aV];exact ah (hs.1 aa env A h u e) λx h1 vs p1 q1=>bQ (λz=>by rw[<-q1.1.length];exact z) λ_=>lu p1 q1.1
theorem Tv(ha:bM Φ Ψ a)(hl:bM Φ Ψ lo)(hh:bM Φ Ψ hi):LV Φ Ψ (.slc a lo hi):=λaa env A h u e=>by
 rw[aD,aV];refine ah (kL ha u e) λx h1 v p1 q1=>ah (lg hl (u.ext p1) (e.ext p1)) λl h2 l' p2 el=>ah (lg hh ((u.ext p1).ext p2) ((e.ext p1).ext p2)) λr h3 r' p3 er=>?_;subst el;subst er;have q1:=DB.ext (p2.trans p3) q1;obtain⟨f,d⟩:=x;cases d with
 |tup ds=>obtain⟨vs,rfl,q⟩:=DB.tup q1;have l:=q.length;simp only[C4,tN];exact bQ (λz=>by rw[l]at z;exact z) λ_=>aE λe=>by cases e
 |rl ds=>
  obtain⟨vs,e1,q⟩:=DB.lst q1;have ev:tN v l' r' h3=new (.lst (bZ vs l' r')) h3:=by
   have:tN v l' r'=bnd (ask λh=>aG h v) λxs=>new (.lst (bZ xs l' r')):=by cases v<;>simp only[aG]at e1<;>first|(cases e1;done)|rfl
   rw[this];unfold bnd ask bD;dsimp only;rw[e1]
  rw[ev];exact lu ((p1.trans p2).trans p3) (q.cut l' r')
 |_=>trivial
theorem Pf(hs:l0 Φ Ψ es):LV Φ Ψ (.blt .list es):=λaa env A h u e=>by
 rw[aD,aV];refine ah (hs.2 aa env A h u e) λds h1 vs p1 q1=>?_
 match ds,q1 with
 |[],q1=>trivial
 |[d],q1=>obtain⟨v,rfl,hv⟩:=q1.one;exact ah (R:=λxs h' ws=>aq A h' xs ws) (bW λxs e=>hv.seq e) λxs h2 ws p2 q=>lu (p1.trans p2) q
 |_::_::_,_=>trivial
theorem FF(hs:l0 Φ Ψ es):LV Φ Ψ (.blt .sorted es):=λaa env A h u e=>by
 rw[aD,aV];refine ah (hs.2 aa env A h u e) λds h1 vs p1 q1=>?_
 match ds,q1 with
 |[],q1=>trivial
 |[d],q1=>
  obtain⟨v,rfl,hv⟩:=q1.one;cases d<;>first|trivial|skip
  rename_i xs;obtain⟨ws,e1,q⟩:=hv.lst;have ev:bnd (ask λh=>aG h v) (λxs=>bnd (bD (fR xs)) λys=>new (.lst ys)) h1=bnd (bD (fR ws)) (λys=>new (.lst ys)) h1:=by unfold bnd ask bD;dsimp only;rw[e1]
  show Rel A h1 (RN A h) (bnd (ask λh=>aG h v) (λxs=>bnd (bD (fR xs)) λys=>new (.lst ys)) h1) _;rw[ev];refine ah (R:=λys _ zs=>zs=ys/\bK ys=true) (bG λys e=>?_) λys h2 zs p2 hz=>?_
  ·obtain⟨i1,i2⟩:=uP e;rw[(aQ xs ws i1).mp q];exact⟨ys,e,rfl,i2⟩
  ·obtain⟨rfl,hi⟩:=hz;exact lu (p1.trans p2) ((aQ _ _ hi).mpr rfl)
 |x::_::_,_=>cases x<;>trivial
theorem Pg(hs:l0 Φ Ψ it)(hc:bM Φ Ψ c)(he:bM Φ Ψ elt):LV Φ Ψ (.comp N js pat k it c elt):=λaa env A h u e=>by
 rw[aD,aV];refine ah (hs.2 aa env A h u e) λds h1 vs p1 q1=>ah (BE q1) λxs h2 src p2 q2=>?_;obtain⟨ws,q3,q4⟩:=q2;have l:=q3.length;have ev:∀(F:List Val->M Val),bnd (ask λh=>src.items h) F h2=F ws h2:=λF=>by unfold bnd ask bD;dsimp only;rw[q4 h2 (aaw _)]
 rw[ev];refine bQ (λz=>by rw[<-l];exact z) λ_=>?_;have u2:=(u.ext p1).ext p2;have e2:=(e.ext p1).ext p2;refine ah (rV (hb:=h) xs ws 0 [] h2 (p1.trans p2) u2 q4 rfl q3 λx v h' p' qx=>?_) λp h3 ys p3 hp=>?_
 ·refine ah (R:=λay _ env'=>∃_:ER A ay env' h',True) (bG λay ev'=>?_) λay h4 env' p4 he'=>?_
  ·obtain⟨env',a1,a2⟩:=yj ev' qx (BG (e2.ext p')) (by simp[gS,kW]);exact⟨env',a1,a2,trivial⟩
  ·obtain⟨er,_⟩:=he'
   have er:=er.ext p4;have u4:=(u2.ext p').ext p4;have SN:Rel A h4 (λt _ t'=>t'=t) ((if cN c=true then ret true else bnd (aD Φ c env') λv=>ask λh=>ck h v) h4) (if cN c=true then .ok true else pb (aV Ψ c ay) λv=>pl (ck [] v.2)):=by
    by_cases hn:cN c=true
    ·rw[aai hn,aai hn];exact aE rfl
    ·rw[aal hn,aal hn];exact ah (hc ay env' A h4 u4 er) λy h5 w p5 q5=>bW λt et=>⟨t,rQ q5.br et,rfl⟩
   refine ah SN λt h5 t' p5 et=>?_;subst et;cases t' with
   |true=>rw[aai rfl,aai rfl];exact ah (he ay env' A h5 (u4.ext p5) (er.ext p5)) λy h6 w p6 q6=>aE (q6.up ((p1.trans p2).trans (p'.trans (p4.trans p5))))
   |false=>rw[aal aac,aal aac];exact aE trivial
 ·obtain⟨zs,rfl,z1,z2⟩:=hp;exact lu ((p1.trans p2).trans p3) z1
theorem Tw(hΦ:∀j,Imp (Φ j) (Ψ j))(hf:WK e=true)(ho:dm e=true):LV Φ Ψ e:=by
 have V:=v_all hΦ;cases e<;>first|(cases hf;done)|skip
 ·exact Tu (V.2 _ ho)
 ·have ho:=pZ ho;exact Tv (V.1 _ ho.1.1) (V.1 _ ho.1.2) (V.1 _ ho.2)
 ·rename_i b es
  change nH _=true at ho;cases b<;>first|(cases hf;done)|skip
  ·exact FF (V.2 _ ho)
  ·exact Pf (V.2 _ ho)
 ·have ho:=pZ ho;exact Pg (V.2 _ ho.1.1) (V.1 _ ho.1.2) (V.1 _ ho.2)
 ·exact Pd
 ·have ho:=cE ho;exact Pe (V.1 _ ho.1) (V.1 _ ho.2)
mutual
noncomputable def WO:IS->Bool
 |.expr e=>dm e
 |.asg _ e=>dm e
 |.aug _ _ e=>dm e
 |.eW o i v=>dm o&&dm i&&dm v
 |.iff c a b=>dm c&&p7 a&&p7 b
 |.for _ _ it b=>nH it&&p7 b
 |.whl _ c b=>dm c&&p7 b
 |.ret e=>dm e
 |_=>true
noncomputable def p7:di->Bool
 |.nil=>true
 |.cons s r=>WO s&&p7 r
end
def mS(s:IS):List Nat:=tO s++oQ s
def KA(s:di):List Nat:=jd s++mz s
variable {ms:List Nat}
def BH(Φ:Nat->List Val->M Val)(Ψ:Nat->List Val->Pr FV)(ms:List Nat)(s:IS):Prop:=∀(A0:AP) (h0:Hs) (aa:aO) (env:Env) (h:Hs) (O:Nat->Option Nat),SR A0 h0 aa env h O->iX A0 h0 (RF A0 h0 (mS s) aa env h O) (dX Φ s env h) (bY Ψ ms s aa)
def vV(Φ:Nat->List Val->M Val)(Ψ:Nat->List Val->Pr FV)(ms:List Nat)(s:di):Prop:=∀(A0:AP) (h0:Hs) (aa:aO) (env:Env) (h:Hs) (O:Nat->Option Nat),SR A0 h0 aa env h O->iX A0 h0 (RF A0 h0 (KA s) aa env h O) (dj Φ s env h) (dD Ψ ms s aa)
theorem FG(he:bM Φ Ψ e)(hx:∀aa,bY Ψ ms (.expr e) aa=pb (aV Ψ e aa) λ_=>.ok (.nx aa)):BH Φ Ψ ms (.expr e):=λA0 h0 aa env h O s=>by
 rw[dX,hx];exact bA s (he aa env _ h s.zg s.er) λx h1 v p1 q1=>bh ⟨O,s.ext p1,Fm.refl s p1⟩
theorem ao{α β γ:Type}(m:M α)(f:α -> M β)(g:β -> M γ):bnd (bnd m f) g=bnd m λx=>bnd (f x) g:=by
 funext h;show (match (match m h with|.ok a h'=>f a h'|.exc c vs h'=>.exc c vs h'|.no=>.no) with|.ok a h'=>g a h'|.exc c vs h'=>.exc c vs h'|.no=>.no)=(match m h with|.ok a h'=>bnd (f a) g h'|.exc c vs h'=>.exc c vs h'|.no=>.no);cases m h<;>rfl
theorem ak{α β:Type}{m:M α}{f:α -> M β}{a:α}{h h1:Hs}(e:m h=.ok a h1):bnd m f h=f a h1:=by unfold bnd;rw[e]
theorem bF{i:Nat}(e:env[i]?=some (some v)):aD Φ (.var i) env h=.ok v h:=by rw[aD,e];rfl
theorem C6{i:Nat}(ha:bM Φ Ψ a):BH Φ Ψ ms (.expr (.met .append (.var i) #[a])):=λA0 h0 aa env h O s=>by
 rw[dX,bY];try dsimp only
 split
 ·rename_i ds hv
  obtain⟨b,e2,e3,vs,e4,e5⟩:=s.ow i _ hv;have ev:bnd (aD Φ (.met .append (.var i) #[a]) env) (λ_=>ret (Fl.nx env)) h=bnd (aD Φ a env) (λv=>bnd (met .append (.ref b) [v]) λ_=>ret (Fl.nx env)) h:=by
   rw[aD,ao,ak (bF e2)];rw[ao,ak (a:=()) (h1:=h) (by unfold ask bD;simp[recv,e4])];rw[ao,aU,ao]
   congr 1
  rw[ev];refine bA s (ha aa env _ h s.zg s.er) λx h1 v p1 q1=>kc λhg=>?_;have s1:=s.ext p1;obtain⟨s2,f2⟩:=s1.put (d1:=.rl (ds++[x.2])) (ob:=.lst (vs++[v])) hv e3 ⟨_,rfl,(e5.ext p1).append (aq.cons q1.1 aq.nil)⟩;have l:=e5.length;refine⟨.nx env,h1.set b (.lst (vs++[v])),?_,O,s2,(Fm.refl s p1).trans (f2.fc λj hj=>?_)⟩
  ·have g:=aW p1 e4;unfold met bnd ask bD aH put ret;dsimp only;rw[g];dsimp only;rw[aai (by rw[<-l];exact hg)]
  ·rw[aau.mp hj];exact aaT _ aan
 ·trivial
theorem C7{i:Nat}(ha:bM Φ Ψ a):BH Φ Ψ ms (.expr (.met .extend (.var i) #[a])):=λA0 h0 aa env h O s=>by
 rw[dX,bY];try dsimp only
 split
 ·rename_i ds hv
  obtain⟨b,e2,e3,vs,e4,e5⟩:=s.ow i _ hv;have ev:bnd (aD Φ (.met .extend (.var i) #[a]) env) (λ_=>ret (Fl.nx env)) h=bnd (aD Φ a env) (λv=>bnd (met .extend (.ref b) [v]) λ_=>ret (Fl.nx env)) h:=by
   rw[aD,ao,ak (bF e2)];rw[ao,ak (a:=()) (h1:=h) (by unfold ask bD;simp[recv,e4])];rw[ao,aU,ao]
   congr 1
  rw[ev];refine bA s (ha aa env _ h s.zg s.er) λx h1 v p1 q1=>?_;obtain⟨f,d⟩:=x;cases d<;>first|trivial|skip
  rename_i ts;have q:=q1.1;dsimp only at q;rw[Dn]at q;obtain⟨ws,rfl,q⟩:=q;refine kc λhg=>?_;have s1:=s.ext p1;obtain⟨s2,f2⟩:=s1.put (d1:=.rl (ds++ts)) (ob:=.lst (vs++ws)) hv e3 ⟨_,rfl,(e5.ext p1).append q⟩;have l:=e5.length;have l2:=q.length;refine⟨.nx env,h1.set b (.lst (vs++ws)),?_,O,s2,(Fm.refl s p1).trans (f2.fc λj hj=>?_)⟩
  ·have g:=aW p1 e4;unfold met bnd ask bD aH put ret uG;dsimp only;rw[g];dsimp only;rw[aai (by rw[<-l,<-l2];exact hg)]
  ·rw[aau.mp hj];exact aaT _ aan
 ·trivial
theorem KC(hΦ:∀j,Imp (Φ j) (Ψ j))(ho:dm e=true):BH Φ Ψ ms (.expr e):=by
 have V:=v_all hΦ;have gen:(∀aa,bY Ψ ms (.expr e) aa=pb (aV Ψ e aa) λ_=>.ok (.nx aa))->BH Φ Ψ ms (.expr e):=λhx=>FG (V.1 e ho) hx;cases e with
 |met m a es=>
  cases m with
  |join=>exact gen λaa=>by rw[bY]<;>(intros;simp_all)
  |append=>
   cases a with
   |var i=>
    cases es with
    |nil=>exact gen λaa=>by rw[bY]<;>(intros;simp_all)
    |cons x r=>
     cases r with
     |nil=>exact C6 (V.1 x (cE (cE ho).2).1)
     |cons _ _=>exact gen λaa=>by rw[bY]<;>(intros;simp_all)
   |_=>exact gen λaa=>by rw[bY]<;>(intros;simp_all)
  |extend=>
   cases a with
   |var i=>
    cases es with
    |nil=>exact gen λaa=>by rw[bY]<;>(intros;simp_all)
    |cons x r=>
     cases r with
     |nil=>exact C7 (V.1 x (cE (cE ho).2).1)
     |cons _ _=>exact gen λaa=>by rw[bY]<;>(intros;simp_all)
   |_=>exact gen λaa=>by rw[bY]<;>(intros;simp_all)
  |remove=>exact gen λaa=>by rw[bY]<;>(intros;simp_all)
 |_=>exact gen λaa=>by rw[bY]<;>(intros;simp_all)
end
section
variable {Φ:Nat->List Val->M Val} {Ψ:Nat->List Val->Pr FV} {ms:List Nat}
theorem C8{i:Nat}{l:List Nat}(h:i∈l):∀j∈[i],j∈l:=λj hj=>by rw[aau.mp hj];exact h
theorem Ph(hΦ:∀j,Imp (Φ j) (Ψ j))(ho:dm e=true):BH Φ Ψ ms (.asg p e):=λA0 h0 aa env h O s=>by
 have V:=(v_all hΦ).1 e ho;cases p with
 |one i=>
  rw[dX,bY];try dsimp only
  split
  ·refine kc λhf=>?_
   refine bA s (Tw hΦ hf ho aa env _ h s.zg s.er) λx h1 v p1 q1=>?_;obtain⟨f,d⟩:=x;cases d<;>first|trivial|skip
   ·obtain⟨h2,vs,rfl,rfl,p2,q2⟩:=q1 rfl;obtain⟨s2,f2⟩:=s.fresh (i:=i) p2 q2;exact⟨_,_,rfl,_,s2,f2.fc (C8 (by simp[mS,oQ,stored]))⟩
   ·obtain⟨h2,vs,rfl,rfl,p2,q2⟩:=q1 rfl;obtain⟨s2,f2⟩:=s.fresh (i:=i) p2 q2;exact⟨_,_,rfl,_,s2,f2.fc (C8 (by simp[mS,oQ,stored]))⟩
  ·refine bA s (V aa env _ h s.zg s.er) λx h1 v p1 q1=>?_
   have hnw:QW (mV x.1 x.2)=true->Dn (Al (Fr h0.length) O) h1 x.2 v:=λz=>by
    have hx:x.1=true:=by
     unfold mV at z;split at z
     ·rename_i hh;simp only[and_eq_true]at hh;exact hh.1
     ·cases z
    refine(q1.2 hx).fc λo ho=>?_;cases o with
    |none=>exact ho.elim
    |some k=>exact⟨aaM s.pre.length_le ho,λj _ e=>by have:=(s.own j k e).2.1;have ho':h.length<=k:=ho;omega⟩
   have hrd:uO (mV x.1 x.2)=true:=by unfold mV;split<;>rfl
   obtain⟨s2,f2⟩:=(s.ext p1).setM (i:=i) hrd q1.1 hnw;exact⟨_,_,rfl,_,s2,(Fm.refl s p1).trans (f2.fc (C8 (by simp[mS,oQ,stored])))⟩
 |tup is=>
  rw[dX,bY];try dsimp only
  refine kc λhf=>bA s (V aa env _ h s.zg s.er) λx h1 v p1 q1=>?_;have s1:=s.ext p1;refine bA s1 (R:=λay h' env'=>∃O',SR A0 h0 ay env' h' O'/\Fm (stored (.tup is)) aa env h1 O ay env' h' O') (bG λay ev=>?_) λay h2 env' p2 hh=>?_
  ·obtain⟨env',O',b1,b2,b3⟩:=s1.bind ev q1.1;exact⟨env',b1,O',b2,b3⟩
  ·obtain⟨O',b2,b3⟩:=hh;exact bh ⟨O',b2,(Fm.refl s p1).trans (b3.fc λj hj=>by simp only[mS,oQ];exact aaI _ hj)⟩
theorem Pj{i:Nat}(hΦ:∀j,Imp (Φ j) (Ψ j))(ho:dm e=true):BH Φ Ψ ms (.aug i o e):=λA0 h0 aa env h O s=>by
 have V:=(v_all hΦ).1 e ho;rw[dX,bY];refine kc λhf=>bA s (R:=λx _ y=>y=x) (bG λx hx=>?_) λx h1 y p1 ZZ=>?_
 ·split at hx<;>cases hx
  rename_i f hv;have:=s.er i f _ hv;revert this;generalize uO f=t;intro this;cases t with
  |false=>rw[aai rfl]at this;obtain⟨_,_,k⟩:=this;exact False.elim k
  |true=>rw[aal (by decide)]at this;obtain⟨v,k1,k2⟩:=this;rw[Dn]at k2;subst k2;exact⟨x,by rw[k1],rfl⟩
 ·subst ZZ
  have s1:=s.ext p1;refine bA s1 (V aa env _ h1 s1.zg s1.er) λz h2 v p2 q2=>?_;have s2:=s1.ext p2;refine bA s2 (R:=λx _ y=>y=x) (bG λn en=>?_) λn h3 n' p3 Z0=>?_
  ·obtain⟨f,d⟩:=z
   have q:=q2.1;cases d<;>first|(cases en;done)|skip
   dsimp only at q;rw[Dn]at q;subst q;exact⟨n,en,rfl⟩
  ·subst Z0;have s3:=s2.ext p3;refine bA s3 (BA (h0:=h3) s3.zg (aaw _) (.inl (by rw[Dn])) (.inl (by rw[Dn]))) λw h4 w' p4 q4=>?_;obtain⟨s5,f5⟩:=(s3.ext p4).set (i:=i) q4.1;exact bh ⟨_,s5,(Fm.refl s (((p1.trans p2).trans p3).trans p4)).trans (f5.fc (C8 (by simp[mS,oQ])))⟩
theorem BI(k:Key)(l:List (Key×Val)):(l.any λkv=>decide (kv.1=k))=((l.map (·.1)).any λx=>decide (x=k)):=by
 rw[any_map];rfl
theorem BJ(e:Dn A h d v):∀{kvs:List (Key×Val)} {ds:List Val},aq A h ds (kvs.map (·.2)) ->
  aq A h ((((kvs.map (·.1)).zip ds).map λkv=>if kv.1=k then (kv.1,d) else kv).map (·.2)) ((kvs.map λkv=>if kv.1=k then (kv.1,v) else kv).map (·.2))
 |[],ds,q=>by simp only[map_nil,List.zip_nil_left];exact aq.nil
 | (k',v')::kvs,ds,q=>by
  have l:=q.length;cases ds with
  |nil=>simp at l
  |cons d' ds=>
   simp only[map_cons]at q;rw[aq]at q;obtain⟨v1,r,e1,q1,q2⟩:=q;cases e1;simp only[map_cons,zip_cons_cons];refine aq.cons ?_ (BJ e q2)
   by_cases hk:k'=k
   ·rw[aai hk,aai hk];exact e
   ·rw[aal hk,aal hk];exact q1
theorem pK(k:Key)(d:Val)(l:List (Key×Val)):(l.map λkv=>if kv.1=k then (kv.1,d) else kv).map (·.1)=l.map (·.1):=by
 rw[aaW];refine map_congr_left λx _=>?_;show (if x.1=k then (x.1,d) else x).1=x.1
 split<;>rfl
theorem KD(hk:kvs.map (·.1)=ks)(q:aq A h ds (kvs.map (·.2)))(e:Dn A h d v) :
  (iW kvs k v).map (·.1)=(iW (ks.zip ds) k d).map (·.1)/\aq A h ((iW (ks.zip ds) k d).map (·.2)) ((iW kvs k v).map (·.2)):=by
 subst hk;have l:=q.length;rw[aah]at l;have z1:((kvs.map (·.1)).zip ds).map (·.1)=kvs.map (·.1):=List.map_fst_zip (by rw[aah];omega);have z2:((kvs.map (·.1)).zip ds).map (·.2)=ds:=List.map_snd_zip (by rw[aah];omega);unfold iW;rw[BI,BI,z1]
 split
 ·rw[pK,pK,z1];exact⟨rfl,BJ e q⟩
 ·rw[map_append,map_append,map_append,map_append,z1,z2];exact⟨rfl,q.append (aq.cons e aq.nil)⟩
theorem KG(hΦ:∀j,Imp (Φ j) (Ψ j))(ho:dm o=true)(hi:dm i=true)(hv:dm v=true):BH Φ Ψ ms (.eW o i v):=λA0 h0 aa env h O s=>by
 have V:=(v_all hΦ).1;cases o with
 |var j=>
  rw[dX,bY];refine bA s (V v hv aa env _ h s.zg s.er) λx h1 w p1 q1=>?_;have s1:=s.ext p1
  split
  ·rename_i ds hj
   obtain⟨b,e2,e3,vs,e4,e5⟩:=s1.ow j _ hj;rw[ak (bF e2)];refine bA s1 (V i hi aa env _ h1 s1.zg s1.er) λz h2 u p2 q2=>?_;have s2:=s1.ext p2;obtain⟨f,d⟩:=z;have q:=q2.1;cases d<;>first|trivial|skip
   dsimp only at q;rw[Dn]at q;subst q;rename_i kk;have g:=aW p2 e4;have l:=e5.length;show iX A0 h0 _ _ (pb (pl (vf ds.length kk)) _);cases hn:vf ds.length kk with
   |none=>trivial
   |some n=>obtain⟨s3,f3⟩:=s2.put (d1:=.rl (ds.set n x.2)) (ob:=.lst (vs.set n w)) hj e3 ⟨_,rfl,(e5.ext p2).set n (q1.1.ext p2)⟩;refine⟨.nx env,h2.set b (.lst (vs.set n w)),?_,O,s3,(Fm.refl s (p1.trans p2)).trans (f3.fc (C8 (by simp[mS,tO])))⟩;rw[l]at hn;simp only[uH];unfold bnd ask bD put ret;dsimp only;rw[g];dsimp only;rw[hn]
  ·rename_i ks ds hj
   obtain⟨b,e2,e3,kvs,e4,ek,e5⟩:=s1.ow j _ hj;rw[ak (bF e2)];refine bA s1 (V i hi aa env _ h1 s1.zg s1.er) λz h2 u p2 q2=>?_;have s2:=s1.ext p2;obtain⟨f,d⟩:=z;have q:=q2.1;dsimp only at q;show iX A0 h0 _ _ (pb (pl (keyOf d)) _);cases hk:keyOf d with
   |none=>trivial
   |some kk=>
    have hu:keyOf u=some kk:=by
     cases d<;>simp only[keyOf]at hk<;>first|(cases hk;done)|skip
     all_goals (rw[Dn]at q;subst q;exact hk)
    show iX A0 h0 _ _ (pg _ _);refine kc λhl=>?_;have g:=aW p2 e4;obtain⟨k1,k2⟩:=KD (k:=kk) ek (e5.ext p2) (q1.1.ext p2);obtain⟨s3,f3⟩:=s2.put (d1:=putD ks ds kk x.2) (ob:=.dct (iW kvs kk w)) hj e3 ⟨_,rfl,k1,k2⟩;refine⟨.nx env,h2.set b (.dct (iW kvs kk w)),?_,O,s3,(Fm.refl s (p1.trans p2)).trans (f3.fc (C8 (by simp[mS,tO])))⟩;have hl':decide (kvs.length<sizeLine)=true:=by rw[<-ek,aah]at hl;exact hl
    simp only[uH];unfold bnd ask bD put ret aH;dsimp only;rw[g];dsimp only;rw[hu];dsimp only;rw[aai hl']
  ·trivial
 |_=>rw[bY]<;>first|trivial|(intros;simp_all)
theorem Pk(hΦ:∀j,Imp (Φ j) (Ψ j))(hc:dm c=true)(ha:vV Φ Ψ ms a)(hb:vV Φ Ψ ms b):BH Φ Ψ ms (.iff c a b):=λA0 h0 aa env h O s=>by
 have V:=(v_all hΦ).1 c hc;rw[dX,bY];refine bA s (kL V s.zg s.er) λx h1 v p1 q1=>?_;have s1:=s.ext p1;refine bA s1 (R:=λt _ t'=>t'=t) (bW λt et=>⟨t,rQ q1 et,rfl⟩) λt h2 t' p2 et=>?_;subst et;have s2:=s1.ext p2;cases t' with
 |true=>
  rw[aai rfl,aai rfl];refine f7 (ha A0 h0 aa env h2 O s2) λf h' g r=>(r.pre s (p1.trans p2)).fc λi hi=>?_;simp only[KA,mS,tO,oQ,mem_append]at hi |-
  rcases hi with z|z
  ·exact .inl (.inl z)
  ·exact .inr (.inl z)
 |false=>
  rw[aal aac,aal aac];refine f7 (hb A0 h0 aa env h2 O s2) λf h' g r=>(r.pre s (p1.trans p2)).fc λi hi=>?_;simp only[KA,mS,tO,oQ,mem_append]at hi |-
  rcases hi with z|z
  ·exact .inl (.inr z)
  ·exact .inr (.inr z)
def Af(h:Hs)(O:Nat->Option Nat)(m:List Nat)(src:Src)(ws:List Val):Prop :=
 ∀h':Hs,(∀k,k<h.length->(∀i,O i≠some k)->h'[k]?=h[k]?)->(∀i,i∉m->∀a,O i=some a->h'[a]?=h[a]?)->src.items h'=some ws
theorem cB{i:Nat}(e:h[i]?=some (.lst ws)):(Src.live i).items h=some ws:=by simp[Src.items,aG,e]
theorem f9{i:Nat}(e:h[i]?=some (.lst ws)):(Src.enum i).items h=some (cM 0 ws):=by simp[Src.items,aG,e]
theorem yk{A0:AP}{h0:Hs}{m:List Nat}(hb:∀aa env h O x v,SR A0 h0 aa env h O->Dn (Al A0 O) h x v->iX A0 h0 (RF A0 h0 m aa env h O) (body v env h) (bodyV x aa))
  {nI:aO} {gZ:Env} {h1:Hs} {O1:Nat->Option Nat} (st:Af h1 O1 m src ws) :
  ∀(xs vs:List Val) (i:Nat) (aa:aO) (env:Env) (h:Hs) (O:Nat->Option Nat),SR A0 h0 aa env h O->Fm m nI gZ h1 O1 aa env h O->ws.drop i=vs->aq (Al A0 O) h xs vs ->
   iX A0 h0 (RF A0 h0 m nI gZ h1 O1) (forM src body vs.length i env h) (jA bodyV xs aa)
 | [],vs,i,aa,env,h,O,s,f,hd,q=>by
  rw[aq]at q;subst q;have hl:ws.length<=i:=List.drop_eq_nil_iff.mp hd;have hi:=st h (λk hk n=>(f.keep k hk n).1) (λj hj a e=>(f.stay j hj).2.2.2 a e);rw[jA];refine⟨.nx env,h,?_,O,s,f⟩;show forM src body 0 i env h=_;simp only[forM];unfold bnd ask bD aH;dsimp only;rw[hi];dsimp only;rw[aai (decide_eq_true hl)];rfl
 | x::xs,vs,i,aa,env,h,O,s,f,hd,q=>by
  rw[aq]at q;obtain⟨v,r,rfl,q1,q2⟩:=q;have hv:ws[i]?=some v:=by have:=congrArg (λl=>l[0]?) hd;simpa using this
  have hr:ws.drop (i+1)=r:=by
   have:ws.drop (i+1)=(ws.drop i).drop 1:=by rw[drop_drop]
   rw[this,hd];rfl
  have hi:=st h (λk hk n=>(f.keep k hk n).1) (λj hj a e=>(f.stay j hj).2.2.2 a e);have ev:forM src body (v::r).length i env h=bnd (body v env) (λf=>match f with
   |.nx env'=>forM src body r.length (i+1) env'
   |.ct env'=>forM src body r.length (i+1) env'
   |.bk env'=>ret (.nx env')
   |.rt v=>ret (.rt v)) h:=by
   show forM src body (r.length+1) i env h=_;simp only[forM];unfold bnd ask bD;dsimp only;rw[hi];dsimp only;rw[hv];try rfl
  rw[ev,jA];refine nJ (hb aa env h O x v s q1) λfl h2 gl hr2=>?_;have go:∀ay env' O',SR A0 h0 ay env' h2 O'->Fm m aa env h O ay env' h2 O'->iX A0 h0 (RF A0 h0 m nI gZ h1 O1) (forM src body r.length (i+1) env' h2) (jA bodyV xs ay):=λay env' O' s' f'=>by
   refine yk hb st xs r (i+1) ay env' h2 O' s' (f.trans f') hr (aq.move lq (λk o hk g=>?_) _ _ q2);have hlt:k<h.length:=(aae.mp g).1;obtain⟨a1,a2⟩:=f'.keep k hlt λi=>hk.2 i rfl;exact⟨⟨hk.1,λi _=>a2 i⟩,a1.trans g⟩
  cases fl<;>cases gl<;>first|exact hr2.elim|skip
  ·obtain⟨O',s',f'⟩:=hr2;exact go _ _ O' s' f'
  ·exact bh hr2
  ·obtain⟨O',s',f'⟩:=hr2;exact bh ⟨O',s',f.trans f'⟩
  ·obtain⟨O',s',f'⟩:=hr2;exact go _ _ O' s' f'
theorem FH{A0:AP}{m:List Nat}(q:Dn (Al A0 O) h d v)(e:iH k [d]=some xs):∃src ws,srcOf k [v]=some src/\aq (Al A0 O) h xs ws/\src.items h=some ws/\Af h O m src ws:=by
 have lst:∀es,d=.rl es->(∃ws,v=.rl ws/\aq (Al A0 O) h es ws)\/∃a ws,v=.ref a/\h[a]?=some (.lst ws)/\aq (Al A0 O) h es ws/\∀h':Hs,(∀k,k<h.length->(∀i,O i≠some k)->h'[k]?=h[k]?)->h'[a]?=some (Ob.lst ws):=by
  rintro es rfl;rw[Dn]at q
  rcases q with ⟨ws,rfl,_,q⟩|⟨a,ws,rfl,al,g,q⟩
  ·exact .inl ⟨ws,rfl,q⟩
  ·exact .inr ⟨a,ws,rfl,g,q,λh' hk=>(hk a (aae.mp g).1 λi=>al.2 i rfl).trans g⟩
 cases k with
 |seq=>
  cases d<;>first|(cases e;done)|skip
  ·cases e;rw[Dn]at q;obtain⟨ws,rfl,q⟩:=q;exact⟨.fix ws,ws,rfl,q,rfl,λ_ _ _=>rfl⟩
  ·cases e
   rcases lst _ rfl with ⟨ws,rfl,q'⟩|⟨a,ws,rfl,g,q',st⟩
   ·exact⟨.fix ws,ws,rfl,q',rfl,λ_ _ _=>rfl⟩
   ·exact⟨.live a,ws,rfl,q',cB g,λh' hk _=>cB (st h' hk)⟩
 |range=>
  cases d<;>first|(cases e;done)|skip
  rw[Dn]at q;subst q;rename_i n;change (if inR n=true then some (bU 0 n.toNat) else none)=some _ at e;split at e
  ·rename_i hn;cases e;exact⟨.fix _,_,aai hn,jL,rfl,λ_ _ _=>rfl⟩
  ·cases e
 |enum=>
  cases d<;>first|(cases e;done)|skip
  cases e
  rcases lst _ rfl with ⟨ws,rfl,q'⟩|⟨a,ws,rfl,g,q',st⟩
  ·exact⟨.fix _,_,rfl,gA 0 q',rfl,λ_ _ _=>rfl⟩
  ·exact⟨.enum a,_,rfl,gA 0 q',f9 g,λh' hk _=>f9 (st h' hk)⟩
 |zip=>cases e
theorem FI{α β γ δ:Type}{R:α -> Hs -> β -> Prop}{R':γ -> Hs -> δ -> Prop}{m:M β}{f:β -> M δ}{p:Pr α}{F:α -> Pr γ}(r:Rel A h R (m h) p)(k:∀a h1 b,p=.ok a->h<+:h1->R a h1 b->Rel A h1 R' (f b h1) (F a)):Rel A h R' (bnd m f h) (pb p F):=by
 unfold bnd;cases p with
 |ok a=>
  obtain⟨b,h1,e,q,r⟩:=r;rw[e];show Rel A h R' (f b h1) (F a);have:=k a h1 b rfl q r;cases e2:F a with
  |ok c=>rw[e2]at this;obtain⟨d,h2,e3,q2,r2⟩:=this;exact⟨d,h2,e3,q.trans q2,r2⟩
  |exc c es=>rw[e2]at this;obtain⟨d,h2,e3,q2,r2⟩:=this;exact⟨d,h2,e3,q.trans q2,r2⟩
  |no=>trivial
 |exc c es=>obtain⟨ws,h1,e,q,r⟩:=r;rw[e];exact⟨ws,h1,rfl,q,r⟩
 |no=>trivial
theorem FJ{e e2:IE}(h:jz Ψ (.cons e (.cons e2 r)) aa=.ok ds):2<=ds.length:=by
 rw[jz,jz]at h;cases h1:(if isVar e=true then pl (gY aa e) else aV Ψ e aa) with
 |ok a=>
  rw[h1]at h;cases h2:(if isVar e2=true then pl (gY aa e2) else aV Ψ e2 aa) with
  |ok b=>
   rw[h2]at h;cases h3:jz Ψ r aa with
   |ok c=>rw[h3]at h;cases h;simp
   |exc _ _=>rw[h3]at h;cases h
   |no=>rw[h3]at h;cases h
  |exc _ _=>rw[h2]at h;cases h
  |no=>rw[h2]at h;cases h
 |exc _ _=>rw[h1]at h;cases h
 |no=>rw[h1]at h;cases h
theorem FL{d1 d2:Val}(ex:iH k [d1,d2]=some xs):k=.range/\∃n m,d1=.int n/\d2=.int m/\(inR n&&inR m)=true/\xs=bU n (m-n).toNat:=by
 cases k with
 |seq=>cases d1<;>cases ex
 |enum=>cases d1<;>cases ex
 |zip=>cases ex
 |range=>
  cases d1<;>first|(cases ex;done)|skip
  cases d2<;>first|(cases ex;done)|skip
  rename_i n m;change (if (inR n&&inR m)=true then some (bU n (m-n).toNat) else none)=some xs at ex
  by_cases hn:(inR n&&inR m)=true
  ·rw[aai hn]at ex;cases ex;exact⟨rfl,n,m,rfl,rfl,hn,rfl⟩
  ·rw[aal hn]at ex;cases ex
theorem Ag{d1 d2 d3:Val}:iH k (d1::d2::d3::r)=none:=by
 cases k with
 |seq=>cases d1<;>rfl
 |enum=>cases d1<;>rfl
 |zip=>rfl
 |range=>cases d1<;>first|rfl|(cases d2<;>rfl)
theorem KH{A0:AP}{h0:Hs}{m:List Nat}(hΦ:∀j,Imp (Φ j) (Ψ j))(hi:nH it=true)(s:SR A0 h0 aa env h O)(hm:∀i,it=.cons (.var i) .nil->i∉m) :
  Rel (Al A0 O) h (λxs h' src=>∃ws,aq (Al A0 O) h' xs ws/\src.items h'=some ws/\Af h' O m src ws) (bnd (aU Φ it env) (λits=>bD (srcOf k its)) h) (pb (jz Ψ it aa) λits=>pl (iH k its)):=by
 have V:=v_all hΦ;cases it with
 |nil=>rw[jz];cases k<;>trivial
 |cons e es=>
  cases es with
  |nil=>
   replace hi:=cE hi
   by_cases hv:isVar e=true
   ·cases e<;>first|(cases hv;done)|skip
    rename_i i;rw[jz,jz,aai hv];simp only[gY];cases hx:aa[i]? with
    |none=>trivial
    |some o=>
     cases o with
     |none=>trivial
     |some fd=>
      obtain⟨f,d⟩:=fd;show Rel _ _ _ _ (pl (iH k [d]));cases hf:uO f with
      |false=>
       have hf:f=.ow:=by cases f<;>first|rfl|cases hf
       subst hf;obtain⟨a,e2,e3,e4⟩:=s.ow i d hx;have ev:bnd (aU Φ #[.var i] env) (λits=>bD (srcOf k its)) h=bD (srcOf k [.ref a]) h:=by rw[aU,aU,ao,ak (bF e2)];rfl
       rw[ev];refine bG λxs ex=>?_;have hd:∃ds,d=.rl ds:=by cases d<;>first|exact⟨_,rfl⟩|exact False.elim e4|(cases k<;>cases ex)
       obtain⟨ds,rfl⟩:=hd;obtain⟨vs,e4,e5⟩:=e4;have st:∀h':Hs,(∀i,i∉m->∀a,O i=some a->h'[a]?=h[a]?)->h'[a]?=some (Ob.lst vs):=λh' hs=>(hs i (hm i rfl) a e3).trans e4;cases k with
       |seq=>cases ex;exact⟨.live a,rfl,vs,e5,cB e4,λh' _ hs=>cB (st h' hs)⟩
       |range=>cases ex
       |enum=>cases ex;exact⟨.enum a,rfl,_,gA 0 e5,f9 e4,λh' _ hs=>f9 (st h' hs)⟩
       |zip=>cases ex
      |true=>
       obtain⟨v,e1,e2,_⟩:=s.sh i f d hx hf;have ev:bnd (aU Φ #[.var i] env) (λits=>bD (srcOf k its)) h=bD (srcOf k [v]) h:=by rw[aU,aU,ao,ak (bF e1)];rfl
       rw[ev];refine bG λxs ex=>?_;obtain⟨src,ws,a1,a2,a3,a4⟩:=FH (m:=m) e2 ex;exact⟨src,a1,ws,a2,a3,a4⟩
   ·rw[jz,jz,aal hv]
    have ev:bnd (aU Φ #[e] env) (λits=>bD (srcOf k its)) h=bnd (aD Φ e env) (λv=>bD (srcOf k [v])) h:=by rw[aU,aU,ao];rfl
    rw[ev];have ep:(pb (pb (aV Ψ e aa) λd=>pb (Pr.ok ([]:List Val)) λp=>Pr.ok (d.2::p)) λits=>pl (iH k its))=pb (aV Ψ e aa) λd=>pl (iH k [d.2]):=by cases aV Ψ e aa<;>rfl
    rw[ep];refine ah (V.1 e hi.1 aa env _ h s.zg s.er) λx h1 v p1 q1=>bG λxs ex=>?_;obtain⟨src,ws,a1,a2,a3,a4⟩:=FH (m:=m) q1.1 ex;exact⟨src,a1,ws,a2,a3,a4⟩
  |cons e2 r=>
   have V2:=V.2 _ hi;refine FI (V2.2 aa env _ h s.zg s.er) λds h1 vs eb p1 q1=>bG λxs ex=>?_;have hl:2<=ds.length:=FJ eb
   match ds,q1 with
   |[],q1=>cases k<;>cases ex
   |[d],q1=>simp at hl
   |[d1,d2],q1=>obtain⟨v,rr,rfl,hv,hr⟩:=q1;obtain⟨w,rfl,hw⟩:=Kq.one hr;obtain⟨rfl,n,m',rfl,rfl,hn,rfl⟩:=FL ex;have:=hv.int;subst this;have:=hw.int;subst this;exact⟨.fix _,aai hn,_,jL,rfl,λ_ _ _=>rfl⟩
   |d1::d2::d3::dr,q1=>rw[Ag]at ex;cases ex
theorem Pn(hΦ:∀j,Imp (Φ j) (Ψ j))(hi:nH it=true)(hb:vV Φ Ψ ms body):BH Φ Ψ ms (.for p k it body):=λA0 h0 aa env h O s=>by
 rw[dX,bY];refine kc λhg=>?_;rw[and_eq_true]at hg;have hm:∀i,it=.cons (.var i) .nil->i∉mS (.for p k it body):=by
  rintro i rfl z;simp only[Fv,and_eq_true,not_eq_true',List.contains_eq_mem,decide_eq_false_iff_not]at hg;simp only[mS,tO,oQ,mem_append]at z
  rcases z with z|z|z
  ·exact hg.1.1.1 z
  ·exact hg.1.2 z
  ·exact hg.1.1.2 z
 have ev:∀(F:Src->M Fl),bnd (aU Φ it env) (λits=>bnd (bD (srcOf k its)) F) h=bnd (bnd (aU Φ it env) λits=>bD (srcOf k its)) F h:=λF=>by rw[ao]
 have ep:∀(F:List Val->Pr wI),pb (jz Ψ it aa) (λits=>pb (pl (iH k its)) F)=pb (pb (jz Ψ it aa) λits=>pl (iH k its)) F:=λF=>by cases jz Ψ it aa<;>rfl
 rw[ev,ep];refine bA s (KH (m:=mS (.for p k it body)) hΦ hi s hm) λxs h1 src p1 hx=>?_;obtain⟨ws,q1,q2,st⟩:=hx;have s1:=s.ext p1;have l:=q1.length;have WQ:∀(F:List Val->M Fl),bnd (ask λh=>src.items h) F h1=F ws h1:=λF=>by unfold bnd ask bD;dsimp only;rw[q2]
 rw[WQ];refine f7 (yk (m:=mS (.for p k it body)) (λay env' h' O' x v s' qx=>?_) st xs ws 0 aa env h1 O s1 (Fm.refl s1 (aaw _)) rfl q1) λf h' g r=>r.pre s p1;refine bA s' (R:=λjM h2 iG=>∃O2,SR A0 h0 jM iG h2 O2/\Fm (stored p) ay env' h' O' jM iG h2 O2) (bG λjM e2=>?_) λjM h2 iG p2 hh=>?_
 ·obtain⟨iG,O2,b1,b2,b3⟩:=s'.bind e2 qx;exact⟨iG,b1,O2,b2,b3⟩
 ·obtain⟨O2,b2,b3⟩:=hh
  refine f7 (hb A0 h0 jM iG h2 O2 b2) λf h'' g r=>RF.seq (b3.fc λi hi=>?_) (r.fc λi hi=>?_)
  ·simp only[mS,tO,oQ,mem_append];exact .inr (.inl hi)
  ·simp only[KA,mS,tO,oQ,mem_append]at hi |-
   rcases hi with z|z
   ·exact .inl z
   ·exact .inr (.inr z)
theorem Po{n:Nat}(hΦ:∀j,Imp (Φ j) (Ψ j))(hc:dm c=true)(hb:vV Φ Ψ ms body):BH Φ Ψ ms (.whl n c body):=λA0 h0 aa env h O s=>by
 have V:=(v_all hΦ).1 c hc;rw[dX,bY]
 induction n generalizing aa env h O with
 |zero=>trivial
 |succ n ih=>
  simp only[CP,oR];have ct:Rel (Al A0 O) h (λt _ t'=>t'=t) ((bnd (aD Φ c env) λx=>ask λh=>ck h x) h) (pb (C5 Ψ c aa) λx=>pl (ck [] x.2)) :=
   ah (kL V s.zg s.er) λx h1 v p1 q1=>bW λt et=>⟨t,rQ q1 et,rfl⟩
  refine bA s ct λt h1 t' p1 et=>?_;subst et;have s1:=s.ext p1;cases t' with
  |true=>
   rw[aai rfl,aai rfl];refine nJ (hb A0 h0 aa env h1 O s1) λf h2 g r=>?_;have r:=(r.pre s p1).fc (m':=mS (.whl n c body)) λi hi=>hi;cases f<;>cases g<;>first|exact r.elim|skip
   ·obtain⟨O',s',f'⟩:=r;exact f7 (ih _ _ _ O' s') λf h' g r'=>RF.seq f' r'
   ·exact bh r
   ·obtain⟨O',s',f'⟩:=r;exact bh ⟨O',s',f'⟩
   ·obtain⟨O',s',f'⟩:=r;exact f7 (ih _ _ _ O' s') λf h' g r'=>RF.seq f' r'
  |false=>rw[aal aac,aal aac];exact bh ⟨O,s1,Fm.refl s p1⟩
theorem LW:uO (X7 m)=true:=by cases m<;>rfl
theorem SR.fr{A0:AP}{h0:Hs}(s:SR A0 h0 aa env h O):ER A0 (kI aa) env h:=λi f d e=>by
 unfold kI at e;rw[aaD]at e;cases hx:aa[i]? with
 |none=>rw[hx]at e;cases e
 |some o=>
  rw[hx]at e;cases o with
  |none=>cases e
  |some fd=>
   obtain⟨m,d'⟩:=fd;cases e;rw[aal (by rw[LW];decide)];cases hm:uO m with
   |false=>
    have hm:m=.ow:=by cases m<;>first|rfl|cases hm
    subst hm;obtain⟨a,e2,e3,e4⟩:=s.ow i d hx;exact⟨_,e2,(e4.mono (A':=A0) (λ_ g=>g) λ_ _ z=>z.fc λ_ y=>y.1).dn (s.up a (s.own i a e3).1)⟩
   |true=>obtain⟨v,e1,e2,_⟩:=s.sh i m d hx hm;exact⟨v,e1,e2.fc λ_ z=>z.1⟩
theorem uQ{A0:AP}{h0:Hs}{α β γ δ:Type}{R:α -> Hs -> β -> Prop}{R':γ -> Hs -> δ -> Prop}{mm:M β}{f:β -> M δ}{p:Pr α}{F:α -> Pr γ}(s:SR A0 h0 aa env h O)(r:Rel A0 h R (mm h) p)(k:∀a h1 b,h<+:h1->R a h1 b->iX A0 h0 R' (f b h1) (F a)):iX A0 h0 R' (bnd mm f h) (pb p F):=by
 unfold bnd;cases p with
 |ok a=>obtain⟨b,h1,e,q,r⟩:=r;rw[e];exact k a h1 b q r
 |exc c es=>obtain⟨ws,h1,e,q,r⟩:=r;rw[e];exact⟨ws,h1,rfl,s.pre.trans q,r⟩
 |no=>trivial
theorem C9(h:Kn env es=some p):∃i j,es=.cons (.var i) #[.var j]/\env[i]?=some (some (.nw,p.1))/\env[j]?=some (some (.nw,p.2)):=by
 unfold Kn at h;split at h
 ·split at h
  ·rename_i a b;cases h;exact⟨_,_,rfl,a,b⟩
  ·cases h
 ·cases h
theorem Pp(hΦ:∀j,Imp (Φ j) (Ψ j))(ho:dm e=true):BH Φ Ψ ms (.ret e):=λA0 h0 aa env h O s=>by
 have V:=(v_all hΦ).1 e ho;have gen:Vf Ψ e aa=aV Ψ e aa->iX A0 h0 (RF A0 h0 (mS (.ret e)) aa env h O) (dX Φ (.ret e) env h) (bY Ψ ms (.ret e) aa):=λhe=>by
  rw[dX,bY,he];exact bA s (V aa env _ h s.zg s.er) λx h1 v p1 q1=>bh ⟨q1.1.fc λ_ z=>z.1,λf=>(q1.2 f).fc (Fr.le s.pre.length_le),s.pre.trans p1⟩
 cases e with
 |var i=>
  rw[dX,bY];simp only[Vf];cases hx:aa[i]? with
  |none=>trivial
  |some o=>
   cases o with
   |none=>trivial
   |some fd=>
    obtain⟨f,d⟩:=fd;cases hf:uO f with
    |false=>
     have hf:f=.ow:=by cases f<;>first|rfl|cases hf
     subst hf;obtain⟨a,e2,e3,e4⟩:=s.ow i d hx;rw[ak (bF e2)];have ha:=s.own i a e3;cases d<;>first|exact False.elim e4|skip
     ·refine⟨_,h,rfl,?_,λhi=>?_,s.pre⟩
      ·exact(e4.mono (A':=A0) (λ_ g=>g) λ_ _ z=>z.fc λ_ y=>y.1).dn (s.up a ha.1)
      ·obtain⟨vs,e4,e5⟩:=e4;show Dn _ h (.rl _) (.ref a);rw[Dn];exact .inr ⟨a,vs,rfl,ha.1,e4,gz e5 hi⟩
     ·refine⟨_,h,rfl,?_,λhi=>?_,s.pre⟩
      ·exact(e4.mono (A':=A0) (λ_ g=>g) λ_ _ z=>z.fc λ_ y=>y.1).dn (s.up a ha.1)
      ·obtain⟨kvs,e4,ek,e5⟩:=e4;show Dn _ h (.dc _ _) (.ref a);rw[Dn];exact⟨a,kvs,rfl,ha.1,e4,ek,gz e5 hi⟩
    |true=>
     obtain⟨v,e1,e2,e3⟩:=s.sh i f d hx hf;rw[ak (bF e1)];dsimp only;rw[aai hf];refine⟨_,h,rfl,e2.fc λ_ z=>z.1,λhi=>?_,s.pre⟩
     rcases(or_eq_true _ _).mp hi with hi|hi
     ·exact(gP d v hi).mpr ((gP d v hi).mp e2)
     ·exact(e3 hi).fc λ_ z=>z.1
 |call j es=>rw[dX,bY];exact uQ s (V (kI aa) env A0 h (s.up.ext s.pre) s.fr) λx h1 v p1 q1=>bh ⟨q1.1,λf=>(q1.2 f).fc (Fr.le s.pre.length_le),s.pre.trans p1⟩
 |tup es=>
  rw[dX,bY];change iX A0 h0 _ _ (pb (Ko Ψ es aa) _);unfold Ko
  split
  ·rename_i pp hp
   obtain⟨i,j,he,hi,hj⟩:=C9 hp;subst he;obtain⟨v,e1,e2,e3⟩:=s.sh i .nw _ hi rfl;obtain⟨w,k1,k2,k3⟩:=s.sh j .nw _ hj rfl;have ev:aD Φ (.tup #[.var i,.var j]) env h=.ok (.tup [v,w]) h:=by rw[aD,aU,aU,aU];rw[ak (a:=[v,w]) (h1:=h) (by rw[ak (bF e1),ak (a:=[w]) (h1:=h) (by rw[ak (bF k1)];rfl)];rfl)];rfl
   rw[ak ev];refine⟨_,h,rfl,?_,λ_=>?_,s.pre⟩
   ·show Dn A0 h (.tup _) _;rw[Dn];exact⟨_,rfl,aq.cons (e2.fc λ_ z=>z.1) (aq.cons (k2.fc λ_ z=>z.1) aq.nil)⟩
   ·show Dn (Fr h0.length) h (.tup _) _;rw[Dn];exact⟨_,rfl,aq.cons ((e3 rfl).fc λ_ z=>z.1) (aq.cons ((k3 rfl).fc λ_ z=>z.1) aq.nil)⟩
  exact uQ s (V (kI aa) env A0 h (s.up.ext s.pre) s.fr) λx h1 v p1 q1=>bh ⟨q1.1,λf=>(q1.2 f).fc (Fr.le s.pre.length_le),s.pre.trans p1⟩
 |_=>exact gen rfl
theorem Pq:vV Φ Ψ ms .nil:=λA0 h0 aa env h O s=>by rw[dj,dD];exact bh ⟨O,s,Fm.refl s (aaw _)⟩
theorem KI(ha:BH Φ Ψ ms a)(hr:vV Φ Ψ ms r):vV Φ Ψ ms (.cons a r):=λA0 h0 aa env h O s=>by
 rw[dj,dD];have w1:∀i∈mS a,i∈KA (.cons a r):=λi hi=>by
  simp only[mS,KA,jd,mz,mem_append]at hi |-
  rcases hi with z|z
  ·exact .inl (.inl z)
  ·exact .inr (.inl z)
 have w2:∀i∈KA r,i∈KA (.cons a r):=λi hi=>by
  simp only[KA,jd,mz,mem_append]at hi |-
  rcases hi with z|z
  ·exact .inl (.inr z)
  ·exact .inr (.inr z)
 refine nJ (ha A0 h0 aa env h O s) λf h1 g rr=>?_;have rr:=rr.fc w1;cases f<;>cases g<;>first|exact rr.elim|skip
 ·obtain⟨O',s',f'⟩:=rr;exact f7 (hr A0 h0 _ _ h1 O' s') λf h' g r'=>RF.seq f' (r'.fc w2)
 ·exact bh rr
 ·exact bh rr
 ·exact bh rr
theorem Tz(hΦ:∀j,Imp (Φ j) (Ψ j)):∀ss,p7 ss=true->vV Φ Ψ ms ss:=by
 intro ss;refine di.rec (motive_1:=λs=>WO s=true->BH Φ Ψ ms s) (motive_2:=λss=>p7 ss=true->vV Φ Ψ ms ss) ?_ ?_ ?_ ?_ ?_ ?_ ?_ ?_ ?_ ?_ ?_ ?_ ?_ ?_ ?_ ?_ ss
 ·exact λe f=>KC hΦ f
 ·exact λp e f=>Ph hΦ f
 ·exact λi o e f=>Pj hΦ f
 ·intro o i v f;have f:=pZ f;exact KG hΦ f.1.1 f.1.2 f.2
 ·intro c a b ia ib f;have f:=pZ f;exact Pk hΦ f.1.1 (ia f.1.2) (ib f.2)
 ·intro p k it b ib f;have f:=cE f;exact Pn hΦ f.1 (ib f.2)
 ·intro n c b ib f;have f:=cE f;exact Po hΦ f.1 (ib f.2)
 ·exact λe f=>Pp hΦ f
 ·exact λ_ A0 h0 aa env h O s=>by rw[dX,bY];exact bh ⟨by rw[Dn],λ_=>by rw[Dn],s.pre⟩
 ·exact λ_ A0 h0 aa env h O s=>by rw[dX,bY];exact bh ⟨O,s,Fm.refl s (aaw _)⟩
 ·exact λ_ A0 h0 aa env h O s=>by rw[dX,bY];exact bh ⟨O,s,Fm.refl s (aaw _)⟩
 ·exact λ_ A0 h0 aa env h O s=>by rw[dX,bY];exact bh ⟨O,s,Fm.refl s (aaw _)⟩
 ·exact λ_ A0 h0 aa env h O s=>by rw[bY];trivial
 ·exact λ_ _ _ _ _ A0 h0 aa env h O s=>by rw[bY];trivial
 ·exact λ_=>Pq
 ·intro a r ia ir f;have f:=cE f;exact KI (ia f.1) (ir f.2)
theorem TF{n:Nat}(u:Up A h)(q:aq A h ds vs):SR A h (ds.map (λd=>some (.sh,d))++replicate (n-ds.length) none) (vs.map some++replicate (n-vs.length) none) h (λ_=>none):=by
 have l:=q.length;have al:∀k,A k->Al A (λ_=>none) k:=λk hk=>⟨hk,λi z e=>by subst e;cases z⟩;have get:∀(i:Nat) (f:Mk) (d:Val),(ds.map (λd=>some (.sh,d))++replicate (n-ds.length) none:aO)[i]?=some (some (f,d))->f=.sh/\ds[i]?=some d:=λi f d e=>by
  by_cases hi:i<ds.length
  ·rw[aat (by simpa using hi),aaD]at e
   cases ei:ds[i]? with
   |none=>rw[ei]at e;cases e
   |some d'=>rw[ei]at e;cases e;exact⟨rfl,rfl⟩
  ·rw[aaO (by simp;omega)]at e;have:=aaE e;rw[mem_replicate]at this;exact absurd this.2 (by simp)
 refine⟨by simp[l],λi m d e hm=>?_,λi d e=>?_,(λi a e=>nomatch e),(λi j a e=>nomatch e),aaw _,u⟩
 ·obtain⟨hm',e⟩:=get i m d e;obtain⟨v,k1,k2⟩:=q.get e;have hi:i<vs.length:=(aae.mp k1).1;exact⟨v,by rw[aat (by simpa using hi),aaD,k1];rfl,k2.fc al,λz=>by subst hm';cases z⟩
 ·obtain⟨z,_⟩:=get i .ow d e;cases z
theorem bO{n:Nat}(hΦ:∀j,Imp (Φ j) (Ψ j))(ho:p7 body=true):Imp (fT Φ n body) (fP Ψ n body):=λA h ds vs u q=>by
 have l:=q.length;have s:=TF (n:=n) u q;unfold fT fP;have r:=nJ (R':=λx h' v=>h<+:h'/\RV A h x h' v) (Tz (ms:=jd body) hΦ body ho A h _ _ h _ s) (f:=λf=>match f with
  |.nx _=>ret .non
  |.rt v=>ret v
  |_=>bD none) (F:=λf=>match f with
  |.nx _=>.ok (true,.non)
  |.rt p=>.ok p
  | _=>.no) λf h1 g rr=>by
   cases f<;>cases g<;>first|exact rr.elim|skip
   ·obtain⟨O',s',_⟩:=rr;exact bh ⟨s'.pre,by show Dn _ _ Val.non _;rw[Dn],λ_=>by show Dn _ _ Val.non _;rw[Dn]⟩
   ·exact bh ⟨rr.2.2,rr.1,rr.2.1⟩
   ·trivial
   ·trivial
 revert r;generalize (pb (dD Ψ (jd body) body (ds.map (λd=>some (.sh,d))++replicate (n-ds.length) none)) _)=p;intro r;cases p with
 |ok x=>obtain⟨v,h',e,a,b⟩:=r;exact⟨v,h',e,a,b⟩
 |exc c es=>exact r
 |no=>trivial
end
abbrev bu:=List Val->Pr FV
def ai(gs:List bu)(j:Nat):bu:=match gs[j]? with
 |some g=>g
 |none=>λ_=>.no
def cX(fs:List Row)(gs:List bu):Prop:=fs.length=gs.length/\∀(j:Nat) (r:Row) (g:bu),fs[j]?=some r->gs[j]?=some g->Imp r.2.2 g
theorem FN:cX [] []:=⟨rfl,λj r g e=>by simp at e⟩
theorem aB(a:cX fs gs)(j:Nat):Imp (look fs j) (ai gs j):=by
 unfold look ai;cases e:fs[j]? with
 |none=>
  have:gs[j]?=none:=by have:=List.getElem?_eq_none_iff.mp e;exact List.getElem?_eq_none_iff.mpr (by rw[<-a.1];exact this)
  rw[this];exact λ_ _ _ _ _ _=>trivial
 |some r=>
  cases e2:gs[j]? with
  |none=>exact λ_ _ _ _ _ _=>trivial
  |some g=>exact a.2 j r g e e2
theorem aC{k:Nat}(a:cX fs gs)(i:Imp f g):cX (fs++[(x,k,f)]) (gs++[g]):=by
 refine⟨by simp[a.1],λj r g' e1 e2=>?_⟩
 by_cases hj:j<fs.length
 ·rw[aat hj]at e1;rw[aat (by rw[<-a.1];exact hj)]at e2;exact a.2 j r g' e1 e2
 ·rw[aaO (by omega)]at e1
  rw[aaO (by rw[<-a.1];omega)]at e2;have hj0:j-fs.length=0:=by have:=(aae.mp e1).1;simp at this;omega
  rw[<-a.1]at e2;rw[hj0]at e1 e2;simp at e1 e2;subst e1;subst e2;exact i
section
variable {α β γ:Type}
theorem aS(a:α)(f:α -> Pr β):pb (.ok a) f=f a:=rfl
theorem TH(f:α -> Pr β):pb .no f=.no:=rfl
theorem Pu(c:Prop)[Decidable c](m n:Pr α)(f:α -> Pr β):pb (if c then m else n) f=if c then pb m f else pb n f:=by split<;>rfl
theorem mC(m:Pr α)(f:α -> Pr β)(g:β -> Pr γ):pb (pb m f) g=pb m λx=>pb (f x) g:=by cases m<;>rfl
theorem bX(a:α):pl (some a)=.ok a:=rfl
theorem KJ:pl (none:Option α)=.no:=rfl
theorem KL(m:Pr α):pg true m=m:=rfl
theorem Pw(c:Prop)[Decidable c](m:Pr α):pg (decide c) m=if c then m else .no:=by unfold pg;simp
theorem vW{c:Bool}(h:c=true)(m:Pr α):pg c m=m:=by rw[h];rfl
end
theorem LX{f:Bool}:uO (mV f d)=true:=by unfold mV;split<;>rfl
theorem TJ:uO .sh=true:=rfl
theorem TL:uO .nw=true:=rfl
theorem TM:uO .ow=false:=rfl
theorem TN:QW .sh=false:=rfl
theorem TR:QW .nw=true:=rfl
theorem Px{f:Bool}{i:Int}:mV f (.int i)=.sh:=by cases f<;>rfl
theorem TU{f:Bool}{i:Bool}:mV f (.bl i)=.sh:=by cases f<;>rfl
theorem Py{f:Bool}:mV f (.str i)=.sh:=by cases f<;>rfl
theorem Pz{f:Bool}:mV f .non=.sh:=by cases f<;>rfl
theorem WR:mV false d=.sh:=rfl
theorem TV:mV true (.rl ds)=.nw:=rfl
theorem TX:mV true (.dc ks ds)=.nw:=rfl
section
variable {a b:Int} {x y:Str} {t:Bool} {vs ws:List Val} {v:Val}
theorem TY:kK .add (.int a) (.int b)=.ok (true,.int (a+b)):=rfl
theorem TZ:kK .sub (.int a) (.int b)=.ok (true,.int (a-b)):=rfl
theorem BK(h:fk a b=true):kK .mul (.int a) (.int b)=.ok (true,.int (a*b)):=by simp only[kK];exact vW h _
theorem kh(h:j7 b=true):kK .fdiv (.int a) (.int b)=.ok (true,.int (a/b)):=by simp only[kK];exact vW h _
theorem jN(h:decide (0<b)=true):kK .mod (.int a) (.int b)=.ok (true,.int (a%b)):=by simp only[kK];exact vW h _
theorem LY(h:decide (0<=b/\b<=1000000/\a.natAbs<2 ^ 64)=true):kK .pow (.int a) (.int b)=.ok (true,.int (a ^ b.toNat)):=by simp only[kK];exact vW h _
theorem WS:cop [] .lt (.int a) (.int b)=some (decide (a<b)):=rfl
theorem WU:cop [] .le (.int a) (.int b)=some (decide (a<=b)):=rfl
theorem WW:cop [] .gt (.int a) (.int b)=some (decide (b<a)):=rfl
theorem WX:cop [] .ge (.int a) (.int b)=some (decide (b<=a)):=rfl
theorem WY:cop [] .eq (.int a) (.int b)=some (decide (a=b)):=by
 show some (a==b)=_
 congr 1
theorem KN:cop [] .ne (.int a) (.int b)=some (!decide (a=b)):=by
 show some (!(a==b))=_
 congr 1
theorem T4:cop [] .isn v .non=some (qV v):=by cases v<;>rfl
theorem T5:cop [] .ntn v .non=some (!qV v):=by cases v<;>rfl
theorem FO:ck [] (.bl t)=some t:=rfl
theorem T6:ck [] (.int a)=some (a != 0):=rfl
theorem T7:ck [] (.rl vs)=some (!vs.isEmpty):=rfl
theorem T8:ck [] (.tup vs)=some (!vs.isEmpty):=rfl
theorem T9:jy .len [.rl vs]=.ok (true,.int vs.length):=rfl
theorem Ua:jy .len [.tup vs]=.ok (true,.int vs.length):=rfl
theorem Ub:jy .min [.int a,.int b]=.ok (true,.int (if b<a then b else a)):=rfl
theorem Uc:jy .max [.int a,.int b]=.ok (true,.int (if b>a then b else a)):=rfl
theorem PB:jy .list [.rl vs]=.ok (bK vs,.rl vs):=rfl
theorem PC:jy .list [.tup vs]=.ok (bK vs,.rl vs):=rfl
theorem Ud:jy .int [.bl t]=.ok (true,.int (if t=true then 1 else 0)):=rfl
theorem fU(h:iV vs a=some v):ju [] (.rl vs) (.int a)=some v:=h
theorem jO(h:iV vs a=some v):ju [] (.tup vs) (.int a)=some v:=h
end
theorem oU:iV (v::vs) (0:Int)=some v:=by
 have:=m9 (xs:=v::vs) (j:=0) (v:=v) rfl;exact this
theorem oV:iV (u::v::vs) (1:Int)=some v:=by
 have:=m9 (xs:=u::v::vs) (j:=1) (v:=v) rfl;exact this
theorem oW{T:String}{t:String}(h1:xN [] v=some t)(h2:xP T t=some true):jy (.isin T) [v]=.ok (true,.bl true):=by
 show pb (pl (xN [] v)) _=_;rw[h1,bX,aS,h2];rfl
theorem Ah{T:String}{t:String}(h1:xN [] v=some t)(h2:xP T t=some false):jy (.isin T) [v]=.ok (true,.bl false):=by
 show pb (pl (xN [] v)) _=_;rw[h1,bX,aS,h2];rfl
theorem ne_self(h:toD 16 [] d=some p)(hp:p.canLay0=true):cop [] .ne d d=some false:=by
 simp only[cop,AX,h,bind_some];rw[SeqAt.eqv_refl p hp];rfl
theorem eE:iH .seq [.rl vs]=some vs:=rfl
theorem PD:Ft .seq ds=iH .seq ds:=rfl
theorem PF:Ft .range ds=iH .range ds:=rfl
theorem PJ:Ft .enum ds=iH .enum ds:=rfl
theorem Ue:iH .enum [.rl vs]=some (cM 0 vs):=rfl
theorem LZ{lo hi:Option Int}:C4 (.rl vs) lo hi=.ok (bK (bZ vs lo hi),.rl (bZ vs lo hi)):=rfl
theorem bq{i:Nat}:cD (.one i) d env=some (env.set i (some (.sh,d))):=rfl
theorem PK{i j:Nat}:cD (.tup [i,j]) (.tup [d,e]) env=some ((env.set i (some (.sh,d))).set j (some (.sh,e))):=rfl
theorem yl{α β:Type}(f:α -> β)(ds:List α)(lo hi:Option Int):bZ (ds.map f) lo hi=(bZ ds lo hi).map f:=by
 unfold bZ;simp only[length_map,List.map_take,List.map_drop]
theorem ym{α:Type}(ds:List α)(lo hi:Option Int):(bZ ds lo hi).length<=ds.length:=by
 unfold bZ;simp only[length_take,length_drop];omega
theorem lV:∀(i:Nat) (ds:List Val),(cM i ds).length=ds.length
 |_,[]=>rfl
 |i,d::r=>by rw[cM,aaz,lV (i+1) r,aaz]
theorem jP{α β γ:Type}{f:β -> Option γ}{g:α -> β}{k:α -> γ}:∀(xs:List α),(∀x∈xs,f (g x)=some (k x))->bS f (xs.map g)=some (xs.map k)
 |[],_=>rfl
 | x::r,h=>by
  rw[aap,bS,h x aan,jP r λy hy=>h y (aam _ hy)];rfl
theorem ints_map(xs:List Int):bT (xs.map .int)=some xs:=by
 have:=jP (f:=λv=>match v with|.int i=>some i|_=>none) (g:=Val.int) (k:=id) xs λ_ _=>rfl;rw[map_id]at this;exact this
theorem Ai(qf:List (List Int))(h:∀k∈qf,k≠[])(hl:qf.length<64):fR (qf.map nq)=some ((nk qf).map nq):=by
 unfold fR;rw[aai (by rw[aah];exact hl)];cases qf with
 |nil=>rfl
 |cons k r=>
  have e:bT (List.map nq (k::r))=none:=by unfold bT ;rw[aap,bS];rfl
  rw[e];have e2:mw (List.map nq (k::r))=some (k::r):=by
   have:=jP (f:=λv=>match v with|.tup vs=>if vs.isEmpty then none else bT vs|_=>none) (g:=nq) (k:=id) (k::r) λx hx=>by
    have hx:=h x hx;show (if (x.map Val.int).isEmpty=true then none else bT (x.map .int))=some x;rw[aal (by simpa using hx),ints_map]
   rw[map_id]at this;exact this
  show (mw (List.map nq (k::r))).bind _=_;rw[e2];rfl
theorem Aj{α:Type}(xs:List α):fZ (xs.map λ_=>Val.bl true)=some (xs.map λ_=>true):=jP (g:=λ_=>Val.bl true) (k:=λ_=>true) xs λ_ _=>rfl
theorem all_true{α:Type}(xs:List α):jy .all [.rl (xs.map λ_=>Val.bl true)]=.ok (true,.bl true):=by
 show pb (pl (fZ _)) _=_;rw[Aj,bX,aS]
 congr 3
 simp
theorem rW{α:Type}{n:Nat}(f:α -> Val)(g:α -> PyData)(xs:List α)(e:∀x∈xs,toD n h (f x)=some (g x)):toD (n+1) h (.rl (xs.map f))=some (.list (xs.map g)):=by
 show (bS (toD n h) _).bind _=_;rw[jP xs e];rfl
theorem KO{α:Type}{n:Nat}(f:α -> Val)(g:α -> PyData)(xs:List α)(e:∀x∈xs,toD n h (f x)=some (g x)):toD (n+1) h (.tup (xs.map f))=some (.tuple (xs.map g)):=by
 show (bS (toD n h) _).bind _=_;rw[jP xs e];rfl
theorem gb{α:Type}(g:α -> PyData):∀(xs:List α),(∀x∈xs,(g x).canLay0=true)->PyData.canLayAll0 (xs.map g)=true
 |[],_=>by simp[PyData.canLayAll0]
 | x::r,h=>by
  rw[aap,PyData.canLayAll0,h x aan,gb g r λy hy=>h y (aam _ hy)];rfl
theorem Dc{n:Nat}(hc:c env=.ok true)(hb:body env=.ok (.nx env')):oR c body (n+1) env=oR c body n env':=by
 rw[oR,hc,aS,aai rfl,hb,aS]
theorem FP{n:Nat}(hc:c env=.ok false):oR c body (n+1) env=.ok (.nx env):=by
 rw[oR,hc,aS,aal (by decide)]
theorem uR{α:Type}(enc:α -> Val)(Q:List α -> aO->Prop):∀(us done:List α) (env:aO),Q done env->(∀(pre:List α) (u:α) (post:List α) (env:aO),done++us=pre++u::post->Q pre env->∃env',body (enc u) env=.ok (.nx env')/\Q (pre++[u]) env')->∃env',jA body (us.map enc) env=.ok (.nx env')/\Q (done++us) env'
 |[],done,env,q,_=>⟨env,rfl,by rw[append_nil];exact q⟩
 | x::xs,done,env,q,h=>by
  obtain⟨env',e,q'⟩:=h done x xs env rfl q;have eq:done++x::xs=done++[x]++xs:=by simp
  obtain⟨iG,e2,q2⟩:=uR enc Q xs (done++[x]) env' q' (by rw[<-eq];exact h);refine⟨iG,?_,by rw[eq];exact q2⟩;rw[aap,jA,e,aS];exact e2
theorem cy{α:Type}(enc:α -> Val){us:List α}{mJ:aO}{β:Type}{k:wI->Pr β}(G:Pr β -> Prop)(Q:List α -> aO->Prop)(h0:Q [] mJ)
  (step:∀(pre:List α) (u:α) (post:List α) (env:aO),us=pre++u::post->Q pre env->∃env',body (enc u) env=.ok (.nx env')/\Q (pre++[u]) env')
  (post:∀env',Q us env'->G (k (.nx env'))):G (pb (jA body (us.map enc) mJ) k):=by
 obtain⟨env',e,q⟩:=uR enc Q us [] mJ h0 (λpre x post env ep q=>step pre x post env ep q);rw[e,aS];exact post env' q
theorem yo(Q:Nat->aO->Prop)
  (step:∀m env,Q m env->(c env=.ok false)\/(c env=.ok true/\∃m' env',body env=.ok (.nx env')/\Q m' env'/\m'<m)) :
  ∀(n m:Nat) (env:aO),m<n->Q m env->∃m' env',oR c body n env=.ok (.nx env')/\Q m' env'/\c env'=.ok false
 |0,m,env,h,_=>absurd h (Nat.not_lt_zero _)
 | n+1,m,env,h,q=>by
  rcases step m env q with e|⟨e,m',env',eb,q',hm⟩
  ·exact⟨m,env,FP e,q,e⟩
  ·obtain⟨m2,iG,e2,q2,c2⟩:=yo Q step n m' env' (by omega) q';exact⟨m2,iG,by rw[Dc e eb];exact e2,q2,c2⟩
theorem KP{n:Nat}{mJ:aO}{β:Type}{k:wI->Pr β}(G:Pr β -> Prop)(Q:Nat->aO->Prop)(m:Nat)(hn:m<n)(h0:Q m mJ)
  (step:∀m env,Q m env->(c env=.ok false)\/(c env=.ok true/\∃m' env',body env=.ok (.nx env')/\Q m' env'/\m'<m))
  (post:∀m env',Q m env'->c env'=.ok false->G (k (.nx env'))):G (pb (oR c body n mJ) k):=by
 obtain⟨m',env',e,q,hc⟩:=yo Q step n m mJ hn h0;rw[e,aS];exact post m' env' q hc
theorem cY:∀{l m:List Int},l.Nodup->(∀x∈l,x∈m)->l.length<=m.length
 |[],_,_,_=>zero_le _
 | x::r,m,h,hs=>by
  rw[aaP]at h;have hx:x∈m:=hs x aan;have:=cY (m:=m.erase x) h.2 λy hy=>(List.mem_erase_of_ne (λe:y=x=>h.1 (e▸hy))).mpr (hs y (aam _ hy));rw[List.length_erase_of_mem hx]at this;have:=List.length_pos_of_mem hx;rw[aaz];omega
abbrev mD(xs:List Int)(g:Int->Val):Val:=.dc (xs.map Sum.inl) (xs.map g)
def oX(g:Int->Val)(x:Int)(v:Val):Int->Val:=λy=>if y=x then v else g y
theorem vX(xs:List Int)(g:Int->Val):(xs.map (Sum.inl:Int->Key)).zip (xs.map g)=xs.map λx=>((Sum.inl x:Key),g x):=by
 induction xs with
 |nil=>rfl
 |cons x r ih=>simp only[map_cons,zip_cons_cons,ih]
theorem oY{xs:List Int}{x:Int}(h:x∈xs):ju [] (mD xs g) (.int x)=some (g x):=by
 show cL _ _=_;rw[vX];unfold cL
 induction xs with
 |nil=>simp at h
 |cons y r ih=>
  rw[aap,find?_cons]
  by_cases e:y=x
  ·subst e;simp
  ·have:((Sum.inl y:Key)=Sum.inl x)=False:=by simp[e]
   simp only[this,decide_false];exact ih (by rcases aaG.mp h with h|h;exact absurd h.symm e;exact h)
theorem Ak(xs:List Int)(g:Int->Val)(x:Int):((xs.map λx=>((Sum.inl x:Key),g x)).any λkv=>decide (kv.1=Sum.inl x))=decide (x∈xs):=by
 induction xs with
 |nil=>rfl
 |cons y r ih=>
  rw[aap,any_cons,ih]
  by_cases e:y=x
  ·subst e;simp
  ·have e':¬ x=y:=λh=>e h.symm;simp[e,e']
theorem vY{xs:List Int}{x:Int}(h:x∈xs):putD (xs.map Sum.inl) (xs.map g) (.inl x) v=mD xs (oX g x v):=by
 unfold putD iW;rw[vX,Ak,aai (by simpa using h)];unfold mD;rw[aaW,aaW]
 congr 1
 ·refine map_congr_left λy _=>?_
  show ((if (Sum.inl y:Key)=Sum.inl x then ((Sum.inl y:Key),v) else (Sum.inl y,g y)).1)=_
  split<;>rfl
 ·rw[aaW,aaW]
  refine map_congr_left λy _=>?_;show ((if (Sum.inl y:Key)=Sum.inl x then ((Sum.inl y:Key),v) else (Sum.inl y,g y)).2)=_;unfold oX
  by_cases e:y=x
  ·rw[aai (by rw[e]),aai e]
  ·rw[aal (by simpa using e),aal e]
theorem vZ{xs:List Int}{x:Int}(h:x∉xs):putD (xs.map Sum.inl) (xs.map g) (.inl x) v=mD (xs++[x]) (oX g x v):=by
 unfold putD iW;rw[vX,Ak,aal (by simpa using h)];unfold mD;simp only[map_append,List.map_map,map_cons,map_nil]
 congr 1
 congr 1
 ·refine map_congr_left λy hy=>?_;show g y=oX g x v y;unfold oX;rw[aal (λe:y=x=>h (e▸hy))]
 ·simp[oX]
theorem cH{xs:List Int}(h:∀x∈xs,g x=g' x):mD xs g=mD xs g':=by
 unfold mD;rw[map_congr_left h]
theorem rX{x:Int}:keyOf (.int x)=some (.inl x):=rfl
theorem KQ(a b:Int):PyData.eqv (.int a) (.int b)=decide (a=b):=by
 show (a==b)=_
 by_cases h:a=b<;>simp[h]
theorem FQ{xs:List Int}{x:Int}:cop [] .ze (.int x) (.rl (xs.map .int))=some (decide (x∈xs)):=by
 show (toD 16 [] (.rl (xs.map .int))).bind _=_;rw[rW Val.int PyData.int xs λ_ _=>rfl];show some ((xs.map PyData.int).any λy=>PyData.eqv y (.int x))=_
 congr 1
 induction xs with
 |nil=>rfl
 |cons y r ih=>
  rw[aap,any_cons,ih,KQ]
  by_cases e:y=x
  ·subst e;simp
  ·have e':¬ x=y:=λh=>e h.symm;simp[e,e']
theorem FT{xs:List Int}{x:Int}:cop [] .nin (.int x) (.rl (xs.map .int))=some (!decide (x∈xs)):=by
 show (cop [] .ze (.int x) (.rl (xs.map .int))).map _=_;rw[FQ];rfl
theorem rY(x:Int):∀(ns ks:List Int),x∈eV ks ns↔x∈ks\/x∈ns
 |[],ks=>by simp[eV]
 | k::r,ks=>by
  rw[eV,rY x r,fj]
  split
  ·rename_i h
   constructor
   ·rintro(h'|h')
    ·exact .inl h'
    ·exact .inr (aam _ h')
   ·rintro(h'|h')
    ·exact .inl h'
    ·rcases aaG.mp h' with h'|h'
     ·exact .inl (h'▸h)
     ·exact .inr h'
  ·simp[or_assoc]
theorem gf:∀(ns ks:List Int),ks.Nodup->(eV ks ns).Nodup
 |[],ks,h=>h
 | k::r,ks,h=>by
  rw[eV];refine gf r _ ?_;rw[fj]
  split
  ·exact h
  ·rename_i hk;rw[aaN];exact⟨h,by simp,λa ha b hb=>by simp at hb;subst hb;exact λe=>hk (e▸ha)⟩
def eW(ns:List Int):List Int:=sortI (eV [] ns)
theorem FU(x:Int)(ns:List Int):x∈eW ns↔x∈ns:=by
 unfold eW;rw[(aaF _).mem_iff,rY];simp
theorem gg(ns:List Int):(eW ns).Nodup:=by
 unfold eW;rw[(aaF _).nodup_iff];exact gf ns [] nodup_nil
inductive Way (es:List (Int×Int)):Int->Int->Prop
 |refl (a:Int):Way es a a
 |fwd {a b c:Int}:Way es a b->(b,c)∈es->Way es a c
 |bwd {a b c:Int}:Way es a b->(c,b)∈es->Way es a c
theorem Way.trans{a b c:Int}(h:Way es a b)(k:Way es b c):Way es a c:=by
 induction k with
 |refl=>exact h
 |fwd _ m ih=>exact .fwd ih m
 |bwd _ m ih=>exact .bwd ih m
theorem Way.symm{a b:Int}(h:Way es a b):Way es b a:=by
 induction h with
 |refl=>exact .refl _
 |fwd _ m ih=>exact(Way.bwd (.refl _) m).trans ih
 |bwd _ m ih=>exact(Way.fwd (.refl _) m).trans ih
theorem Way.mono(hs:∀e∈es,e∈fs){a b:Int}(h:Way es a b):Way fs a b:=by
 induction h with
 |refl=>exact .refl _
 |fwd _ m ih=>exact .fwd ih (hs _ m)
 |bwd _ m ih=>exact .bwd ih (hs _ m)
theorem Way.const{α:Type}(f:Int -> α)(hf:∀e∈es,f e.1=f e.2){a b:Int}(h:Way es a b):f a=f b:=by
 induction h with
 |refl=>rfl
 |fwd _ m ih=>exact ih.trans (hf _ m)
 |bwd _ m ih=>exact ih.trans (hf _ m).symm
structure kP (ps:List Int) (es:List (Int×Int)) (f:Int->Int):Prop where
 ze:∀x∈ps,f x∈ps
 way:∀x∈ps,Way es x (f x)
 same:∀e∈es,f e.1=f e.2
theorem kP.iff{ps:List Int}(h:kP ps es f){x y:Int}(hx:x∈ps)(hy:y∈ps):f x=f y↔Way es x y:=by
 constructor
 ·intro e;have:=(h.way y hy).symm;rw[<-e]at this;exact(h.way x hx).trans this
 ·exact λw=>w.const f h.same
theorem kP.start(ps:List Int):kP ps [] id:=⟨λx h=>h,λx _=>.refl x,λe h=>by simp at h⟩
theorem kP.step{ps:List Int}(h:kP ps es f){a b:Int}(ha:a∈ps)(hb:b∈ps)(kept gone:Int)(hk:(kept=f a/\gone=f b)\/(kept=f b/\gone=f a)):kP ps (es++[(a,b)]) (λx=>if f x=gone then kept else f x):=by
 have up:∀{x y},Way es x y->Way (es++[(a,b)]) x y:=λw=>w.mono λe he=>aaT _ he;have ab:Way (es++[(a,b)]) a b:=.fwd (.refl _) (by simp);refine⟨λx hx=>?_,λx hx=>?_,λe he=>?_⟩
 ·split
  ·rcases hk with ⟨k,_⟩|⟨k,_⟩<;>rw[k]<;>exact h.ze _ (by assumption)
  ·exact h.ze x hx
 ·split
  ·rename_i e
   have w1:=up (h.way x hx);rw[e]at w1;refine w1.trans ?_
   rcases hk with ⟨k,g⟩|⟨k,g⟩
   ·rw[k,g];exact((up (h.way b hb)).symm.trans ab.symm).trans (up (h.way a ha))
   ·rw[k,g];exact((up (h.way a ha)).symm.trans ab).trans (up (h.way b hb))
  ·exact up (h.way x hx)
 ·rcases aaL.mp he with he|he
  ·rw[h.same e he]
  ·rw[aau]at he
   subst he
   rcases hk with ⟨k,g⟩|⟨k,g⟩
   ·rw[k,g];rw[aai (rfl:f b=f b)];split<;>rfl
   ·rw[k,g];rw[aai (rfl:f a=f a)];split<;>rfl
abbrev T3:=Int×Int×Int
def l3(t:T3):List Int:=[t.1,t.2.1,t.2.2]
def fE(t:T3):Val:=.tup [.int t.1,.int t.2.1,.int t.2.2]
def rZ(x:T3):List T3->List T3
 |[]=>[x]
 |y::r=>if HT.lexLt (l3 y) (l3 x)=true then y::rZ x r else x::y::r
def kB:List T3->List T3
 |[]=>[]
 |x::r=>rZ x (kB r)
theorem yq(x:T3):∀l:List T3,vC (l3 x) (l.map l3)=(rZ x l).map l3
 |[]=>rfl
 | y::r=>by
  rw[aap,vC,rZ]
  split
  ·rw[aap,yq x r]
  ·rfl
theorem uS:∀l:List T3,nk (l.map l3)=(kB l).map l3
 |[]=>rfl
 |x::r=>by rw[aap,nk,uS r,yq];rfl
theorem oZ(x:T3):∀l:List T3,(rZ x l).Perm (x::l)
 |[]=>.refl _
 | y::r=>by
  rw[rZ]
  split
  ·exact((oZ x r).cons y).trans (List.Perm.swap ..)
  ·exact .refl _
theorem gh:∀l:List T3,(kB l).Perm l
 |[]=>.refl _
 |x::r=>(oZ x _).trans ((gh r).cons x)
theorem KR(ts:List T3)(hl:ts.length<64):fR (ts.map fE)=some ((kB ts).map fE):=by
 have e:∀us:List T3,us.map fE=(us.map l3).map nq:=λus=>by rw[aaW];rfl
 rw[e,Ai _ (λk hk=>by obtain⟨t,_,rfl⟩:=aaX.mp hk;simp[l3]) (by rw[aah];exact hl),uS,e]
theorem yr(hl:ts.length<64):jy .sorted [.rl (ts.map fE)]=.ok (true,.rl ((kB ts).map fE)):=by
 show pb (pl (fR _)) _=_;rw[KR ts hl];rfl
def Iz(ts:List T3):Prop:=ts.Pairwise λa b=>a.1<b.1
theorem BL(x:T3):∀l:List T3,Iz l->(∀y∈l,y.1≠x.1)->Iz (rZ x l)
 |[],_,_=>by simp[rZ,Iz]
 | y::r,h,hn=>by
  unfold Iz at *;rw[aa2]at h;have ny:y.1≠x.1:=hn y aan;rw[rZ];have lx:HT.lexLt (l3 y) (l3 x)=decide (y.1<x.1):=by show HT.lexLt (y.1::_) (x.1::_)=_;rw[HT.fX,aal ny]
  rw[lx]
  by_cases c:y.1<x.1
  ·rw[aai (by simpa using c),aa2]
   refine⟨λz hz=>?_,BL x r h.2 λz hz=>hn z (aam _ hz)⟩
   rcases aaG.mp ((oZ x r).mem_iff.mp hz) with hz|hz
   ·rw[hz];exact c
   ·exact h.1 z hz
  ·rw[aal (by simpa using c),aa2,aa2]
   refine⟨λz hz=>?_,h⟩;have:x.1<y.1:=by omega
   rcases aaG.mp hz with hz|hz
   ·rw[hz];exact this
   ·have:=h.1 z hz;omega
theorem yt:∀l:List T3,(l.map (·.1)).Nodup->Iz (kB l)
 |[],_=>.nil
 | x::r,h=>by
  rw[aap,aaP]at h;refine BL x _ (yt r h.2) λy hy e=>h.1 ?_;rw[(gh r).mem_iff]at hy;exact aaX.mpr ⟨y,hy,e⟩
def turnT(t:T3):T3:=(t.1,if t.2.2<t.2.1 then t.2.2 else t.2.1,if t.2.2>t.2.1 then t.2.2 else t.2.1)
def eX(p q:Int)(ts:List T3):Val:=.tup [.tup [.int p,.int q],.rl (ts.map fE)]
theorem KS{i j k:Nat}:cD (.tup [i,j,k]) (fE t) env=some (((env.set i (some (.sh,.int t.1))).set j (some (.sh,.int t.2.1))).set k (some (.sh,.int t.2.2))):=rfl
theorem Dd{α:Type}(ds:List α)(lo:Int)(n:Nat)(h:0<=lo):(bZ ds (some lo) (some (lo+n))).length<=n:=by
 unfold bZ HT.eN;dsimp only;rw[aal (by omega),aal (by omega)];simp only[length_take,length_drop];omega
theorem PM:C4 (fE t) (some 1) none=.ok (true,.tup [.int t.2.1,.int t.2.2]):=rfl
theorem r6{α:Type}(enc:α -> Val)(g:α -> FV):∀(us:List α),(∀u∈us,f (enc u)=.ok (some (g u)))->ku f (us.map enc)=.ok (us.all λu=>(g u).1,us.map λu=>(g u).2)
 |[],_=>rfl
 | x::xs,h=>by
  rw[aap,ku,h x aan,aS,r6 enc g xs λy hy=>h y (aam _ hy),aS];rfl
theorem iI{α:Type}(enc dec:α -> Val)(us:List α)(h:∀u∈us,f (enc u)=.ok (some (true,dec u))):ku f (us.map enc)=.ok (true,us.map dec):=by
 rw[r6 enc (λu=>(true,dec u)) us h];simp
theorem dW{α:Type}(enc dec:α -> Val)(t:α -> Bool):∀(us:List α),(∀u∈us,f (enc u)=.ok (if t u=true then some (true,dec u) else none))->ku f (us.map enc)=.ok (true,(us.filter t).map dec)
 |[],_=>rfl
 | x::xs,h=>by
  rw[aap,ku,h x aan,aS,dW enc dec t xs λy hy=>h y (aam _ hy),aS]
  by_cases hx:t x=true
  ·rw[aai hx,List.filter_cons_of_pos hx];rfl
  ·rw[aal hx,List.filter_cons_of_neg hx]
theorem KW:∀m,m<67->∀d,d<67->0<m->0<d->(m*d)%67≠0:=by decide +kernel
theorem KY{m c i j:Int}(hm:0<m/\m<67)(hi:0<=i/\i<67)(hj:0<=j/\j<67)(e:(m*i+c)%67=(m*j+c)%67):i=j:=by
 have key:∀i j:Int,0<=i->j<67->i<j->(m*i+c)%67=(m*j+c)%67->False:=by
  intro i j h0 h1 hlt e;obtain⟨a,ha⟩:=eq_ofNat_of_zero_le (show 0<=m by omega);obtain⟨d,hd⟩:=eq_ofNat_of_zero_le (show 0<=j-i by omega);have p:=KW a (by omega) d (by omega) (by omega) (by omega);have:m*j=m*i+m*(j-i):=by rw[Int.mul_sub];omega
  rw[this]at e;have e2:(m*(j-i))%67=0:=by omega
  rw[ha,hd]at e2;apply p;have:((a*d:Nat):Int)%67=0:=by rw[Int.natCast_mul];exact e2
  omega
 rcases Int.lt_trichotomy i j with h|h|h
 ·exact(key i j hi.1 hj.2 h e).elim
 ·exact h
 ·exact(key j i hj.1 hi.2 h e.symm).elim
theorem r8{α:Type}{f:Hs->Option α}{a:α}(e:f h=some a):ask f h=.ok a h:=by show (match f h with|some a=>Out.ok a h|none=>Out.no)=_;rw[e]
theorem ki{α β:Type}{f:Hs->Option α}{g:α -> M β}{a:α}(e:f h=some a):bnd (ask f) g h=g a h:=ak (r8 e)
theorem qm{α β:Type}{o:Option α}{g:α -> M β}{a:α}(e:o=some a):bnd (bD o) g h=g a h:=ak (by unfold bD;rw[e])
def ID:Val->Option (Int×Int×Int)
 |.tup [.int a,.int b,.int c]=>some (a,b,c)
 |_=>none
def jQ(kvs:List (Key×Val))(t:Int×Int×Int):List (Key×Val):=iW kvs (.inl t.1) (.tup [.int t.2.1,.int t.2.2])
def bV(p q:Int)(ts:List (Int×Int×Int)):List (Key×Val):=ts.foldl jQ [(.inl (-1),.tup [.int p,.int q])]
def ly(Ψ:Nat->List Val->Pr FV)(c jo jp:Nat)(ds:List Val):Pr FV:=match ds with
 | [net]=>(match Ψ jo [net] with
  | .ok (true,.tup [.tup [.int p,.int q],.rl ts])=>pb (pl (bS ID ts)) λes=>pg (decide (es.length<1000)) (match Ψ jp [.tup [.tup [.int p,.int q],.rl ts]] with
   |.ok (true,y)=>.ok (true,.ob c ["net","places","ends"] [.tup [.tup [.int p,.int q],.rl ts],y,.dc ((bV p q es).map (·.1)) ((bV p q es).map (·.2))])
   |_=>.no)
  |_=>.no)
 |_=>.no
abbrev r9(n jo jp:Nat):di:=.cons (.setF n (!0) "net" (.call jo #[!1])) (.cons (.setF n (!0) "places" (.call jp #[.fld n (!0) "net"])) (.cons (.setF n (!0) "ends" (.dct1 (.con "THOUGHT" (.int (-1))) (.idx (.fld n (!0) "net") (¬0))))
 #[.for (.tup [2,3,4]) .seq #[.idx (.fld n (!0) "net") (¬1)] #[.eW (.fld n (!0) "ends") (!2) (.tup #[!3,!4])]]))
def BN(t:Int×Int×Int):Val:=.tup [.int t.1,.int t.2.1,.int t.2.2]
theorem KZ(e:ID v=some t):v=BN t:=by
 unfold ID at e;split at e
 ·cases e;rfl
 ·cases e
theorem yu:∀{vs:List Val} {ts:List (Int×Int×Int)},bS ID vs=some ts->vs=ts.map BN
 |[],ts,e=>by cases e;rfl
 | v::vs,ts,e=>by
  rw[bS]at e;obtain⟨t,e1,e⟩:=aab.mp e;obtain⟨r,e2,e⟩:=aab.mp e;cases e;rw[KZ e1,yu e2];rfl
theorem v5:∀ts:List (Int×Int×Int),bK (ts.map BN)=true
 |[]=>rfl
 |t::r=>by rw[aap,bK,v5 r];rfl
theorem FW(kvs:List (Key×Val))(k:Key)(v:Val):(iW kvs k v).length<=kvs.length+1:=by
 unfold iW
 split
 ·rw[aah];omega
 ·rw[aaB];simp
theorem FY(hv:j8 v=true)(kvs:List (Key×Val))(h:∀kv∈kvs,j8 kv.2=true):∀kv∈iW kvs k v,j8 kv.2=true:=by
 unfold iW;intro kv hk;split at hk
 ·obtain⟨z,hz,rfl⟩:=aaX.mp hk
  split
  ·exact hv
  ·exact h z hz
 ·rcases aaL.mp hk with hk|hk
  ·exact h kv hk
  ·rw[aau.mp hk];exact hv
theorem yv:∀(ts:List (Int×Int×Int)) (kvs:List (Key×Val)),(∀kv∈kvs,j8 kv.2=true)->∀kv∈ts.foldl jQ kvs,j8 kv.2=true
 |[],kvs,h=>h
 |t::r,kvs,h=>yv r _ (FY rfl kvs h)
theorem yw:∀{vs:List Val},(∀v∈vs,j8 v=true)->bK vs=true
 |[],_=>rfl
 |v::vs,h=>by rw[bK,h v aan,yw λw hw=>h w (aam _ hw)];rfl
section
variable {Φ:Nat->List Val->M Val} {Ψ:Nat->List Val->Pr FV}
theorem uT{n c D L E:Nat}{ts:List (Int×Int×Int)}{fs:List (Str×Val)}(hc:c<n)(hf:fs.lookup ("ends":Str)=some (Val.ref E))(PN:ts.length<1000)(Yg:D≠E)(WZ:L≠E) :
  ∀(m j:Nat) (kvs:List (Key×Val)) (env:Env) (h h':Hs),m+j=ts.length->kvs.length<=j+1->env[0]?=some (some (.ref D))->4<env.length->h[D]?=some (.ins c fs)->h[L]?=some (.lst (ts.map BN))->h'.length=h.length->(∀k,k≠E->h'[k]?=h[k]?)->h'[E]?=some (.dct kvs) ->
  ∃env' h2,forM (.live L) (λx env=>bnd (bD (fS (.tup [2,3,4]) x env)) λenv'=>dj Φ #[.eW (.fld n (!0) "ends") (!2) (.tup #[!3,!4])] env') m j env h'=.ok (.nx env') h2 /\
   h2.length=h.length/\(∀k,k≠E->h2[k]?=h[k]?)/\h2[E]?=some (.dct ((ts.drop j).foldl jQ kvs))
 | 0,j,kvs,env,h,h',hm,hk,he,hl,hD,hL,h1,h2,h3=>by
  refine⟨env,h',?_,h1,h2,?_⟩
  ·rw[forM,ki (a:=ts.map BN) (cB (by rw[h2 L WZ];exact hL))];unfold aH;rw[aai (decide_eq_true (by rw[aah];omega))];rfl
  ·rw[List.drop_of_length_le (by omega)];exact h3
 | m+1,j,kvs,env,h,h',hm,hk,he,hl,hD,hL,h1,h2,h3=>by
  have hj:j<ts.length:=by omega
  have hE:E<h'.length:=(aae.mp h3).1
  let gZ:Env:=((env.set 2 (some (.int ts[j].1))).set 3 (some (.int ts[j].2.1))).set 4 (some (.int ts[j].2.2))
  have b1:fS (.tup [2,3,4]) (BN ts[j]) env=some gZ:=rfl;have g0:gZ[0]?=some (some (.ref D)):=by show (((env.set 2 _).set 3 _).set 4 _)[0]?=_;rw[aaf (by omega),aaf (by omega),aaf (by omega)];exact he
  have g2:gZ[2]?=some (some (.int ts[j].1)):=by show (((env.set 2 _).set 3 _).set 4 _)[2]?=_;rw[aaf (by omega),aaf (by omega),aak (by omega)]
  have g3:gZ[3]?=some (some (.int ts[j].2.1)):=by show (((env.set 2 _).set 3 _).set 4 _)[3]?=_;rw[aaf (by omega),aak (by rw[length_set];omega)]
  have g4:gZ[4]?=some (some (.int ts[j].2.2)):=by show (((env.set 2 _).set 3 _).set 4 _)[4]?=_;rw[aak (by rw[length_set,length_set];omega)]
  have Z1:aD Φ (.fld n (!0) "ends") gZ h'=.ok (.ref E) h':=by rw[aD,ak (bF g0)];refine r8 (f:=λh=>jv n h (.ref D) "ends") ?_;unfold jv;dsimp only;rw[h2 D Yg,hD];dsimp only;rw[aai hc];exact hf
  have Z2:aD Φ (.tup #[!3,!4]) gZ h'=.ok (.tup [.int ts[j].2.1,.int ts[j].2.2]) h':=by
   rw[aD,ak (a:=[.int ts[j].2.1,.int ts[j].2.2]) (h1:=h')]
   ·unfold aH;rw[aai (decide_eq_true (show ([Val.int ts[j].2.1,Val.int ts[j].2.2]:List Val).length<=sizeLine from(by decide:2<=sizeLine)))];rfl
   ·rw[aU,ak (bF g3),aU];rw[show bnd (bnd (aD Φ (!4) gZ) λd=>bnd (aU Φ .nil gZ) λds=>ret (d::ds)) (λds=>ret (Val.int ts[j].2.1::ds)) h'=_ from ak (a:=[.int ts[j].2.2]) (h1:=h') (by rw[ak (bF g4),aU];rfl)];rfl
  have st:dj Φ #[.eW (.fld n (!0) "ends") (!2) (.tup #[!3,!4])] gZ h'=.ok (.nx gZ) (h'.set E (.dct (jQ kvs ts[j]))):=by
   rw[dj,ak (a:=Fl.nx gZ) (h1:=h'.set E (.dct (jQ kvs ts[j])))]
   ·dsimp only;rw[dj];rfl
   ·rw[dX,ak Z2,ak Z1,ak (bF g2)]
    rw[ak (a:=()) (h1:=h'.set E (.dct (jQ kvs ts[j])))]
    ·rfl
    ·unfold uH;dsimp only;rw[ki (f:=λh=>h[E]?) h3];dsimp only;rw[qm (o:=keyOf (.int ts[j].1)) (a:=.inl ts[j].1) rfl];unfold aH;rw[aai (decide_eq_true (by unfold sizeLine;omega))];rfl
  have hlen:(jQ kvs ts[j]).length<=j+1+1:=aaM (FW _ _ _) (by omega);obtain⟨iG,h4,r1,r2,r3,r4⟩:=uT hc hf PN Yg WZ m (j+1) (jQ kvs ts[j]) gZ h (h'.set E (.dct (jQ kvs ts[j]))) (by omega) hlen g0 (by show 4<(((env.set 2 _).set 3 _).set 4 _).length;simp;omega) hD hL (by simp[h1])
   (λk hk=>by rw[aaf λz=>hk z.symm];exact h2 k hk) (aak hE)
  refine⟨iG,h4,?_,r2,r3,?_⟩
  ·rw[forM,ki (a:=ts.map BN) (cB (by rw[h2 L WZ];exact hL))]
   rw[show (ts.map BN)[j]?=some (BN ts[j]) by rw[aaD,aay hj];rfl];dsimp only;rw[ak (a:=Fl.nx gZ) (h1:=h'.set E (.dct (jQ kvs ts[j])))]
   ·exact r1
   ·rw[qm b1];exact st
  ·rw[List.drop_eq_getElem_cons hj,List.foldl_cons];exact r4
theorem qo{n c i:Nat}(hc:c<n)(g:h[i]?=some (.ins c fs))(hl:fs.length<1000):bnd (AY n (.ref i) x v) (λ_=>ret (Fl.nx env)) h=.ok (.nx env) (h.set i (.ins c (qZ x v fs))):=by
 unfold AY;dsimp only;rw[ao,ki (a:=(c,fs)) (by rw[g];dsimp only;rw[aai hc])];dsimp only;unfold bnd aH;rw[aai (decide_eq_true hl)];rfl
theorem yx{n c jo jp:Nat}(hc:c<n)(hΦ:∀j,Imp (Φ j) (Ψ j)){p q':Int}(u:Up A h)(qn:Dn A h net v)(e1:Ψ jo [net]=.ok (true,.tup [.tup [.int p,.int q'],.rl ts]))(e2:bS ID ts=some es)(hz:es.length<1000)
  (e3:Ψ jp [.tup [.tup [.int p,.int q'],.rl ts]]=.ok (true,y)):∃(h8:Hs) (V1 v2 vE:Val),fT Φ 5 (r9 n jo jp) [.ref h.length,v] (h++[Ob.ins c []])=.ok .non h8/\h<+:h8/\h8[h.length]?=some (.ins c [("net",V1),("places",v2),("ends",vE)]) /\
   ∀B:AP,(∀k,h.length+1<=k->B (some k))->aq B h8 [.tup [.tup [.int p,.int q'],.rl ts],y,.dc ((bV p q' es).map (·.1)) ((bV p q' es).map (·.2))] [V1,v2,vE]:=by
 have et:=yu e2;have Yh:h<+:h++[Ob.ins c []]:=aaY _ _;have u1:=u.ext Yh;have R1:=hΦ jo A (h++[Ob.ins c []]) [net] [v] u1 (aq.cons (qn.ext Yh) aq.nil);rw[e1] at R1;obtain⟨v1,h2,f1,W0,_,dF⟩:=R1;have dA:=dF rfl;clear dF;have OH:h2[h.length]?=some (.ins c []):=aW W0 (by simp);have l2:h.length+1<=h2.length:=by have:=W0.length_le;simpa using this
 rw[Dn]at dA;obtain⟨ws,rfl,dB⟩:=dA;rw[aq]at dB;obtain⟨w0,r0,rfl,d0,d1⟩:=dB;obtain⟨w1,rfl,d5⟩:=aq.one d1;clear d1;have Z3:w0=.tup [.int p,.int q']:=(gP _ _ (show j8 (.tup [.int p,.int q'])=true from rfl)).mp d0;subst Z3;rw[Dn]at d5
 rcases d5 with ⟨_,_,z,_⟩|⟨L,ws,rfl,aL,gL,d6⟩
 ·exact False.elim z
 rw[et]at d6;have Z4:ws=es.map BN:=(aQ _ _ (v5 es)).mp d6;subst Z4;have hL:(h++[Ob.ins c []]).length<=L:=aL;have hL':h.length+1<=L:=by simpa using hL
 have lL:L<h2.length:=(aae.mp gL).1
 let V1:Val:=.tup [.tup [.int p,.int q'],.ref L]
 let h3:Hs:=h2.set h.length (.ins c [("net",V1)])
 have QU:h3[h.length]?=some (.ins c [("net",V1)]):=aak (by omega);have Yi:h3[L]?=some (.lst (es.map BN)):=by show (h2.set _ _)[L]?=_;rw[aaf (by omega)];exact gL
 have l3:h3.length=h2.length:=length_set;have Yj:Dn (Fr (h.length+1)) h3 (.tup [.tup [.int p,.int q'],.rl ts]) V1:=by rw[Dn];refine⟨_,rfl,aq.cons ((gP _ _ (show j8 (.tup [.int p,.int q'])=true from rfl)).mpr rfl) (aq.cons ?_ aq.nil)⟩;rw[Dn];exact .inr ⟨L,_,rfl,hL',Yi,by rw[et];exact(aQ _ _ (v5 es)).mpr rfl⟩
 have R2:=hΦ jp (Fr (h.length+1)) h3 [.tup [.tup [.int p,.int q'],.rl ts]] [V1] (λk hk=>by show h.length+1<=k;omega) (aq.cons Yj aq.nil);rw[e3] at R2;obtain⟨v2,h4,f2,Ug,_,dG⟩:=R2;have d2:=dG rfl;clear dG;have SH:h4[h.length]?=some (.ins c [("net",V1)]):=aW Ug QU;have l4:h3.length<=h4.length:=Ug.length_le
 let h5:Hs:=h4.set h.length (.ins c [("net",V1),("places",v2)])
 have Yk:h5[h.length]?=some (.ins c [("net",V1),("places",v2)]):=aak (by omega);have l5:h5.length=h4.length:=length_set
 let h6:Hs:=h5++[Ob.dct [(.inl (-1),.tup [.int p,.int q'])]]
 have Z5:h6[h.length]?=some (.ins c [("net",V1),("places",v2)]):=aW (aaY _ _) Yk;have l6:h6.length=h5.length+1:=by show (h5++[_]).length=_;simp
 let FS:List (Str×Val):=[("net",V1),("places",v2),("ends",.ref h5.length)]
 let h7:Hs:=h6.set h.length (.ins c FS)
 have W2:h7[h.length]?=some (.ins c FS):=aak (by omega);have l7:h7.length=h6.length:=length_set;have Z6:h7[h5.length]?=some (.dct [(.inl (-1),.tup [.int p,.int q'])]):=by show (h6.set _ _)[h5.length]?=_;rw[aaf (by omega)];show (h5++[_])[h5.length]?=_;simp
 have hk7:∀k,k≠h.length->k<h4.length->h7[k]?=h4[k]?:=λk n1 n2=>by
  show (h6.set _ _)[k]?=_;rw[aaf λz=>n1 z.symm];show (h5++[_])[k]?=_;rw[aat (by omega)];show (h4.set _ _)[k]?=_;rw[aaf λz=>n1 z.symm]
 have Z7:h4[L]?=some (.lst (es.map BN)):=aW Ug Yi;have Yl:h7[L]?=some (.lst (es.map BN)):=by rw[hk7 L (by omega) (by omega)];exact Z7
 let env:Env:=[some (.ref h.length),some v,none,none,none]
 have k1:("ends":Str) ≠ "net":=by decide
 obtain⟨env',h8,lp,l8,k8,d8⟩:=uT (Φ:=Φ) (fs:=FS) (ts:=es) hc (by rfl) hz (by omega) (by omega) es.length 0 [(.inl (-1),.tup [.int p,.int q'])] env h7 h7 (by omega) (by simp) rfl (by decide:4<5) W2 Yl rfl (λ_ _=>rfl) Z6;have fldN:∀(g:Hs) (fs:List (Str×Val)),g[h.length]?=some (.ins c (("net",V1)::fs))->aD Φ (.fld n (!0) "net") env g=.ok V1 g:=λg fs hg=>by
  rw[aD,ak (bF rfl)];refine r8 (f:=λh'=>jv n h' (.ref h.length) "net") ?_;unfold jv;dsimp only;rw[hg];dsimp only;rw[aai hc];rfl
 have s1:dX Φ (.setF n (!0) "net" (.call jo #[!1])) env (h++[Ob.ins c []])=.ok (.nx env) h3:=by
  have e:aD Φ (.call jo #[!1]) env (h++[Ob.ins c []])=.ok V1 h2:=by
   rw[aD,ak (a:=[v]) (h1:=h++[Ob.ins c []])]
   ·exact f1
   ·rw[aU,ak (bF rfl),aU];rfl
  rw[dX,ak e,ak (bF rfl)];exact qo hc OH (by decide)
 have s2:dX Φ (.setF n (!0) "places" (.call jp #[.fld n (!0) "net"])) env h3=.ok (.nx env) h5:=by
  have e:aD Φ (.call jp #[.fld n (!0) "net"]) env h3=.ok v2 h4:=by
   rw[aD,ak (a:=[V1]) (h1:=h3)]
   ·exact f2
   ·rw[aU,ak (fldN h3 [] QU),aU];rfl
  rw[dX,ak e,ak (bF rfl)];exact qo hc SH (by decide:1<1000)
 have s3:dX Φ (.setF n (!0) "ends" (.dct1 (.con "THOUGHT" (.int (-1))) (.idx (.fld n (!0) "net") (¬0)))) env h5=.ok (.nx env) h7:=by
  have e0:aD Φ (.idx (.fld n (!0) "net") (¬0)) env h5=.ok (.tup [.int p,.int q']) h5:=by rw[aD,ak (fldN h5 _ Yk),ak (a:=.int 0) (h1:=h5) (by rw[aD];rfl)];rfl
  have e:aD Φ (.dct1 (.con "THOUGHT" (.int (-1))) (.idx (.fld n (!0) "net") (¬0))) env h5=.ok (.ref h5.length) h6:=by rw[aD,ak (a:=.int (-1)) (h1:=h5) (by rw[aD];rfl),qm (o:=keyOf (.int (-1))) (a:=.inl (-1)) rfl,ak e0];rfl
  rw[dX,ak e,ak (bF rfl)];exact qo hc Z5 (by decide:2<1000)
 have s4:dX Φ (.for (.tup [2,3,4]) .seq #[.idx (.fld n (!0) "net") (¬1)] #[.eW (.fld n (!0) "ends") (!2) (.tup #[!3,!4])]) env h7=.ok (.nx env') h8:=by
  have e0:aD Φ (.idx (.fld n (!0) "net") (¬1)) env h7=.ok (.ref L) h7:=by rw[aD,ak (fldN h7 _ W2),ak (a:=.int 1) (h1:=h7) (by rw[aD];rfl)];rfl
  rw[dX,ak (a:=[.ref L]) (h1:=h7)]
  ·rw[qm (o:=srcOf .seq [.ref L]) (a:=.live L) rfl,ki (a:=es.map BN) (cB Yl),aah];exact lp
  ·rw[aU,ak e0,aU];rfl
 have run:fT Φ 5 (r9 n jo jp) [.ref h.length,v] (h++[Ob.ins c []])=.ok .non h8:=by
  unfold fT;rw[ak (a:=Fl.nx env') (h1:=h8)]
  ·rfl
  ·show dj Φ (r9 n jo jp) env _=_;rw[dj,ak s1];dsimp only;rw[dj,ak s2];dsimp only;rw[dj,ak s3];dsimp only;rw[dj,ak s4];dsimp only;rw[dj];rfl
 have W3:∀k,k≠h.length->k<h4.length->h8[k]?=h4[k]?:=λk n1 n2=>(k8 k (by omega)).trans (hk7 k n1 n2);have hpre:h<+:h8:=by
  refine List.prefix_iff_getElem?.mpr λi hi=>?_;have Z8:i<h4.length:=by omega
  rw[W3 i (by omega) Z8];have:(h2.set h.length (.ins c [("net",V1)]))[i]?=h2[i]?:=aaf (by omega);have Z9:h4[i]?=h3[i]?:=gB Ug (by omega);rw[Z9,this,gB W0 (by simp;omega),aat hi,aay hi]
 refine⟨h8,V1,v2,.ref h5.length,run,hpre,by rw[k8 _ (by omega)];exact W2,λB hB=>aq.cons ?_ (aq.cons ?_ (aq.cons ?_ aq.nil))⟩
 ·refine Dn.mono (A:=Fr (h.length+1)) (h:=h3) (λo z=>?_) (λk o a g=>?_) _ _ Yj
  ·cases o with
   |none=>exact False.elim z
   |some k=>exact hB k z
  ·have a:h.length+1<=k:=a;have:=(aae.mp g).1;rw[W3 k (by omega) (by omega)];exact aW Ug g
 ·refine Dn.mono (A:=Fr h3.length) (h:=h4) (λo z=>?_) (λk o a g=>?_) _ _ d2
  ·cases o with
   |none=>exact False.elim z
   |some k=>exact hB k (by have:h3.length<=k:=z;omega)
  ·have a:h3.length<=k:=a;have:=(aae.mp g).1;rw[W3 k (by omega) (by omega)];exact g
 ·rw[Dn]
  refine⟨h5.length,bV p q' es,rfl,hB _ (by omega),?_,rfl,?_⟩
  ·rw[List.drop_zero]at d8;exact d8
  ·refine(aQ _ _ (yw λw hw=>?_)).mpr rfl;obtain⟨kv,hkv,rfl⟩:=aaX.mp hw;exact yv es _ (λkv hk=>by rw[aau.mp hk];rfl) kv hkv
theorem yy{n c jo jp:Nat}(hc:c<n)(hΦ:∀j,Imp (Φ j) (Ψ j)):Imp (Dz c (fT Φ 5 (r9 n jo jp))) (ly Ψ c jo jp):=λA h ds vs u q=>by
 unfold ly
 split
 ·rename_i net
  obtain⟨v,rfl,qn⟩:=aq.one q
  split
  ·rename_i p q' ts e1
   cases e2:bS ID ts with
   |none=>trivial
   |some es=>
    show Rel A h (RV A h) _ (pg (decide (es.length<1000)) _)
    by_cases hz:es.length<1000
    ·unfold pg
     rw[aai (decide_eq_true hz)]
     split
     ·rename_i y e3
      obtain⟨h8,V1,v2,vE,r1,p8,g8,d8⟩:=yx (Ψ:=Ψ) hc hΦ u qn e1 e2 hz e3;have run:Dz c (fT Φ 5 (r9 n jo jp)) [v] h=.ok (.ref h.length) h8:=by show bnd (fT Φ 5 (r9 n jo jp) [.ref h.length,v]) _ (h++[Ob.ins c []])=_;rw[ak r1];rfl
      have dn:∀B:AP,(∀k,h.length<=k->B (some k))->Dn B h8 (.ob c ["net","places","ends"] [.tup [.tup [.int p,.int q'],.rl ts],y,.dc ((bV p q' es).map (·.1)) ((bV p q' es).map (·.2))]) (.ref h.length):=λB hB=>by
       rw[Dn];exact⟨h.length,_,rfl,hB _ (aao _),g8,rfl,d8 B λk hk=>hB k (by omega)⟩
      exact⟨_,h8,run,p8,dn A λk hk=>u k hk,λ_=>dn _ λk hk=>hk⟩
     ·trivial
    ·unfold pg;rw[aal (by simpa using hz)];trivial
  ·trivial
 ·trivial
def uU(Ψ' Ψ:Nat->List Val->Pr FV)(c jo jp jt jr:Nat)(ds:List Val):Pr FV:=match ly Ψ' c jo jp ds with
 | .ok (_,.ob c' ns vs)=>(match Ψ jt [.ob c' ns vs] with
  | .ok (_,t)=>(match Ψ jr [.ob c' ns vs,t] with
   |.ok (_,.int m)=>.ok (true,.ob c' (ns++[("whole":Str)]) (vs++[.int m]))
   |_=>.no)
  |_=>.no)
 |_=>.no
abbrev BO(n ji:Nat)(jst jsr:List (Nat×Nat)):di:=.cons (.expr (.call ji #[!0,!1])) #[.setF n (!0) "whole" (.mth (!0) "tree_rank" jsr #[.mth (!0) "ties" jst .nil])]
theorem FZ{c jo jp:Nat}(e:ly Ψ c jo jp ds=.ok fw):∃net p q ts es y,ds=[net] /\ Ψ jo [net]=.ok (true,.tup [.tup [.int p,.int q],.rl ts])/\bS ID ts=some es/\es.length<1000 /\ Ψ jp [.tup [.tup [.int p,.int q],.rl ts]]=.ok (true,y) /\
  fw=(true,.ob c ["net","places","ends"] [.tup [.tup [.int p,.int q],.rl ts],y,.dc ((bV p q es).map (·.1)) ((bV p q es).map (·.2))]):=by
 unfold ly at e;split at e
 ·rename_i net
  split at e
  ·rename_i p q ts e1
   cases e2:bS ID ts with
   |none=>rw[e2]at e;cases e
   |some es=>
    rw[e2]at e;change pg (decide (es.length<1000)) _=_ at e;unfold pg at e
    by_cases hz:es.length<1000
    ·rw[aai (decide_eq_true hz)]at e
     split at e
     ·rename_i y e3;cases e;exact⟨net,p,q,ts,es,y,rfl,e1,e2,hz,e3,rfl⟩
     ·cases e
    ·rw[aal (by simpa using hz)]at e;cases e
  ·cases e
 ·cases e
theorem Ga{c c' jo jp jt jr:Nat}{f f1 f2:Bool}{m:Int}(e0:ly Ψ' c jo jp ds=.ok (f,.ob c' ns vs))(e1:Ψ jt [.ob c' ns vs]=.ok (f1,t))(e2:Ψ jr [.ob c' ns vs,t]=.ok (f2,.int m)):uU Ψ' Ψ c jo jp jt jr ds=.ok (true,.ob c' (ns++[("whole":Str)]) (vs++[.int m])):=by
 unfold uU;rw[e0];dsimp only;rw[e1];dsimp only;rw[e2]
theorem Gb:Imp φ (λ_=>.no):=λ_ _ _ _ _ _=>trivial
theorem Gd{n c ji jo jp jt jr:Nat}(hc:c<n)(hΦ':∀j,Imp (Φ' j) (Ψ' j))(hΦ:∀j,Imp (Φ j) (Ψ j))(hji:Φ ji=fT Φ' 5 (r9 n jo jp))(ht:jst.lookup c=some jt)(hr:jsr.lookup c=some jr) :
  Imp (Dz c (fT Φ 2 (BO n ji jst jsr))) (uU Ψ' Ψ c jo jp jt jr):=λA h ds vs u q=>by
 unfold uU;cases e0:ly Ψ' c jo jp ds with
 |no=>trivial
 |exc _ _=>trivial
 |ok fw=>
  obtain⟨net,p,q',ts,es,y,rfl,e1,e2,hz,e3,rfl⟩:=FZ e0;dsimp only;obtain⟨v,rfl,qn⟩:=aq.one q;obtain⟨h8,V1,v2,vE,r1,p8,g8,d8⟩:=yx (Φ:=Φ') (Ψ:=Ψ') hc hΦ' u qn e1 e2 hz e3;have l8:=p8.length_le;have b8:h.length<h8.length:=(aae.mp g8).1;have dO:∀h',h8<+:h'->Dn (Fr h.length) h' (.ob c ["net","places","ends"] [.tup [.tup [.int p,.int q'],.rl ts],y,.dc ((bV p q' es).map (·.1)) ((bV p q' es).map (·.2))]) (.ref h.length):=λh' p'=>by
   rw[Dn];exact⟨h.length,_,rfl,aao _,aW p' g8,rfl,aq.mono (λ_ a=>a) (λ_ _ _ g=>aW p' g) _ _ (d8 (Fr h.length) λk hk=>show h.length<=k by omega)⟩
  have R1:=hΦ jt (Fr h.length) h8 _ _ (λk hk=>show h.length<=k by omega) (aq.cons (dO h8 (aaw _)) aq.nil);generalize hob:Val.ob c ["net","places","ends"] [.tup [.tup [.int p,.int q'],.rl ts],y,.dc ((bV p q' es).map (·.1)) ((bV p q' es).map (·.2))]=ob at R1 dO;cases e4:Ψ jt [ob] with
  |no=>trivial
  |exc _ _=>trivial
  |ok ft=>
   obtain⟨f1,t⟩:=ft;dsimp only;rw[e4] at R1;obtain⟨vt,h9,x1,p9,d9,_⟩:=R1;have l9:=p9.length_le;have R2:=hΦ jr (Fr h.length) h9 _ _ (λk hk=>show h.length<=k by omega) (aq.cons (dO h9 p9) (aq.cons d9 aq.nil));cases e5:Ψ jr [ob,t] with
   |no=>trivial
   |exc _ _=>trivial
   |ok fm=>
    obtain⟨f2,m⟩:=fm;rw[e5] at R2;obtain⟨vm,OI,x2,Vg,QX,dz⟩:=R2;clear dz;cases m<;>first|trivial|skip
    rename_i m;have QX:Dn (Fr h.length) OI (.int m) vm:=QX;rw[Dn] at QX;subst QX;subst hob;dsimp only;have g10:=aW (p9.trans Vg) g8;have g9:=aW p9 g8;have l10:=Vg.length_le
    let h11:Hs:=OI.set h.length (.ins c [("net",V1),("places",v2),("ends",vE),("whole",.int m)])
    let env:Env:=[some (.ref h.length),some v]
    have mt:∀(g:Hs) (x:Str) (js:List (Nat×Nat)) (jj:Nat),g[h.length]?=some (.ins c [("net",V1),("places",v2),("ends",vE)])->("net":Str)≠x->("places":Str)≠x->("ends":Str)≠x->js.lookup c=some jj->lY g (.ref h.length) x js=some jj:=λg x js jj hg n1 n2 n3 hj=>by
     unfold lY;dsimp only;rw[hg];dsimp only;rw[aai]
     ·exact hj
     ·rw[aaR,aaR,aaR,List.lookup_nil];rw[aaU.mpr n1.symm,aaU.mpr n2.symm,aaU.mpr n3.symm];rfl
    have s1:dX Φ (.expr (.call ji #[!0,!1])) env (h++[Ob.ins c []])=.ok (.nx env) h8:=by
     rw[dX,ak (a:=.non) (h1:=h8)]
     ·rfl
     ·rw[aD,ak (a:=[.ref h.length,v]) (h1:=h++[Ob.ins c []])]
      ·rw[hji];exact r1
      ·rw[aU,ak (bF rfl),aU];rw[show bnd (bnd (aD Φ (!1) env) λd=>bnd (aU Φ .nil env) λds=>ret (d::ds)) (λds=>ret (Val.ref h.length::ds)) (h++[Ob.ins c []])=_ from ak (a:=[v]) (h1:=h++[Ob.ins c []]) (by rw[ak (bF rfl),aU];rfl)];rfl
    have eT:aD Φ (.mth (!0) "ties" jst .nil) env h8=.ok vt h9:=by rw[aD,ak (bF rfl),ki (a:=jt) (mt h8 _ _ _ g8 (by decide) (by decide) (by decide) ht),aU];exact x1
    have s2:dX Φ (.setF n (!0) "whole" (.mth (!0) "tree_rank" jsr #[.mth (!0) "ties" jst .nil])) env h8=.ok (.nx env) h11:=by
     have e:aD Φ (.mth (!0) "tree_rank" jsr #[.mth (!0) "ties" jst .nil]) env h8=.ok (.int m) OI:=by
      rw[aD,ak (bF rfl),ki (a:=jr) (mt h8 _ _ _ g8 (by decide) (by decide) (by decide) hr),aU];rw[ak (a:=[vt]) (h1:=h9)]
      ·exact x2
      ·rw[ak eT,aU];rfl
     rw[dX,ak e,ak (bF rfl)];exact qo hc g10 (by decide:3<1000)
    have run:Dz c (fT Φ 2 (BO n ji jst jsr)) [v] h=.ok (.ref h.length) h11:=by
     show bnd (fT Φ 2 (BO n ji jst jsr) [.ref h.length,v]) _ (h++[Ob.ins c []])=_;rw[ak (a:=.non) (h1:=h11)]
     ·rfl
     ·unfold fT
      rw[ak (a:=Fl.nx env) (h1:=h11)]
      ·rfl
      ·show dj Φ (BO n ji jst jsr) env _=_;rw[dj,ak s1];dsimp only;rw[dj,ak s2];dsimp only;rw[dj];rfl
    have hpre:h<+:h11:=by refine List.prefix_iff_getElem?.mpr λi hi=>?_;show (OI.set _ _)[i]?=_;rw[aaf (by omega)];exact List.prefix_iff_getElem?.mp ((p8.trans p9).trans Vg) i hi
    have g11:h11[h.length]?=some (.ins c [("net",V1),("places",v2),("ends",vE),("whole",.int m)]):=aak (by omega);have dn:∀B:AP,(∀k,h.length<=k->B (some k))->Dn B h11 (.ob c ((["net","places","ends"]:List Str)++[("whole":Str)]) ([.tup [.tup [.int p,.int q'],.rl ts],y,.dc ((bV p q' es).map (·.1)) ((bV p q' es).map (·.2))]++[.int m])) (.ref h.length):=λB hB=>by
     rw[Dn];refine⟨h.length,_,rfl,hB _ (aao _),g11,rfl,?_⟩;have dd:=aq.mono (A':=B) (h':=h11) (λo z=>?_) (λk o a g=>?_) _ _ (d8 (Fr (h.length+1)) λk hk=>hk)
     ·exact aq.app dd (aq.cons ((gP _ _ rfl).mpr rfl) aq.nil)
     ·cases o with
      |none=>exact False.elim z
      |some k=>exact hB k (by have:h.length+1<=k:=z;omega)
     ·have a:h.length+1<=k:=a;show (OI.set _ _)[k]?=_;rw[aaf (by omega)];exact aW (p9.trans Vg) g
    exact⟨_,h11,run,hpre,dn A λk hk=>u k hk,λ_=>dn _ λk hk=>hk⟩
end
def cnt(φ:Int->Int)(ps:List Int):Nat:=(eV [] (ps.map φ)).length
theorem gr{ps:List Int}{v:Int}:v∈eV [] (ps.map φ)↔∃x∈ps,φ x=v:=by
 rw[rY];simp
theorem Ge{ps:List Int}(h:∀x∈ps,∀y∈ps,g x=g y->f x=f y):cnt f ps<=cnt g ps:=by
 classical
 let r:Int->Int:=λv=>if hv:∃x∈ps,f x=v then g (Classical.choose hv) else 0
 have hr:∀v∈eV [] (ps.map f),∃x∈ps,f x=v/\r v=g x:=λv hv=>by
  have e:=gr.mp hv;refine⟨Classical.choose e,(choose_spec e).1,(choose_spec e).2,?_⟩;show (if hv:∃x∈ps,f x=v then g (Classical.choose hv) else 0)=_;rw[dif_pos e]
 have nd:((eV [] (ps.map f)).map r).Nodup:=by
  have n0:=gf (ps.map f) [] nodup_nil;revert hr n0;generalize eV [] (ps.map f)=l;intro hr n0
  induction l with
  |nil=>exact nodup_nil
  |cons v l ih=>rw[aaP]at n0;rw[aap,aaP];refine⟨λhm=>?_,ih (λw hw=>hr w (aam _ hw)) n0.2⟩;obtain⟨w,hw,e⟩:=aaX.mp hm;obtain⟨x,hx,e1,e2⟩:=hr v (aan ..);obtain⟨y,hy,e3,e4⟩:=hr w (aam _ hw);have:f x=f y:=h x hx y hy (by rw[<-e2,<-e4,e]);exact n0.1 (by rw[<-e1,this,e3];exact hw)
 have:=cY nd (m:=eV [] (ps.map g)) λz hz=>by
  obtain⟨v,hv,rfl⟩:=aaX.mp hz;obtain⟨x,hx,_,e2⟩:=hr v hv;rw[e2];exact gr.mpr ⟨x,hx,rfl⟩
 rw[aah]at this;exact this
theorem PR{ps:List Int}(h:∀x∈ps,∀y∈ps,f x=f y↔g x=g y):cnt f ps=cnt g ps :=
 Nat.le_antisymm (Ge λx hx y hy=>(h x hx y hy).mpr) (Ge λx hx y hy=>(h x hx y hy).mp)
theorem cnt_join{ps:List Int}{a b:Int}(ha:a∈ps)(hb:b∈ps)(ne:ψ a ≠ ψ b):cnt (λx=>if ψ x = ψ b then ψ a else ψ x) ps+1=cnt ψ ps:=by
 have m1:ψ b∈eV [] (ps.map ψ):=gr.mpr ⟨b,hb,rfl⟩;have n1:=gf (ps.map ψ) [] nodup_nil;have n2:=gf (ps.map λx=>if ψ x = ψ b then ψ a else ψ x) [] nodup_nil;have le1:=cY n2 (m:=(eV [] (ps.map ψ)).erase (ψ b)) λv hv=>by
  obtain⟨x,hx,e⟩:=gr.mp hv;rw[List.Nodup.mem_erase_iff n1]
  by_cases c:ψ x = ψ b
  ·rw[aai c]at e;subst e;exact⟨ne,gr.mpr ⟨a,ha,rfl⟩⟩
  ·rw[aal c]at e;subst e;exact⟨c,gr.mpr ⟨x,hx,rfl⟩⟩
 have le2:=cY (n1.erase (ψ b)) (m:=eV [] (ps.map λx=>if ψ x = ψ b then ψ a else ψ x)) λv hv=>by
  rw[List.Nodup.mem_erase_iff n1]at hv;obtain⟨x,hx,e⟩:=gr.mp hv.2;subst e;exact gr.mpr ⟨x,hx,by rw[aal hv.1]⟩
 rw[List.length_erase_of_mem m1]at le1 le2;have:=List.length_pos_of_mem m1;unfold cnt;omega
theorem kP.fix{ps:List Int}(h:kP ps es φ){x:Int}(hx:x∈ps):φ (φ x) = φ x:=((h.way x hx).const φ h.same).symm
def rk(φ:Int->Int)(ps:List Int):Nat:=(ps.filter λx=>!decide (φ x=x)).length
theorem BP(t:Int->Bool):∀ps:List Int,(ps.filter t).length+(ps.filter λx=>!t x).length=ps.length
 |[]=>rfl
 | x::r=>by
  have ih:=BP t r;cases h:t x with
  |true=>rw[List.filter_cons_of_pos h,List.filter_cons_of_neg (by simp[h]),aaz,aaz];omega
  |false=>rw[List.filter_cons_of_neg (by simp[h]),List.filter_cons_of_pos (by simp[h]),aaz,aaz];omega
theorem sd{ps:List Int}(h:kP ps es φ)(hn:ps.Nodup):rk φ ps+cnt φ ps=ps.length:=by
 have e:cnt φ ps=(ps.filter λx=>decide (φ x=x)).length:=by
  unfold cnt;refine Nat.le_antisymm (cY (gf _ [] nodup_nil) λv hv=>?_) (cY (hn.filter _) λv hv=>?_)
  ·obtain⟨x,hx,rfl⟩:=gr.mp hv;exact aaC.mpr ⟨h.ze x hx,decide_eq_true (h.fix hx)⟩
  ·obtain⟨a,b⟩:=aaC.mp hv;exact gr.mpr ⟨v,a,aax b⟩
 rw[e];have:=BP (λx=>decide (φ x=x)) ps;unfold rk;omega
theorem PU{ps:List Int}(hn:ps.Nodup):cnt id ps=ps.length:=by
 have h:=sd (kP.start ps) hn;have:rk id ps=0:=by unfold rk;rw[List.filter_eq_nil_iff.mpr λx _=>by simp];rfl
 omega
theorem L1{ps:List Int}{n:Nat}(h1:kP ps es φ)(h2:kP ps es ψ)(hn:ps.Nodup)(e:n+cnt ψ ps=ps.length):n=rk φ ps:=by
 have c:cnt φ ps=cnt ψ ps:=PR λx hx y hy=>by rw[h1.iff hx hy,h2.iff hx hy]
 have:=sd h1 hn;omega
theorem kP.uV{ps:List Int}(h:kP ps es f){a b:Int}(ha:a∈ps)(hb:b∈ps)(e:f a=f b):kP ps (es++[(a,b)]) f:=by
 have:=h.step ha hb (f a) (f b) (.inl ⟨rfl,rfl⟩);have ef:(λx=>if f x=f b then f a else f x)=f:=funext λx=>by
  split
  ·rename_i c;rw[c,e]
  ·rfl
 rwa [ef]at this
theorem PV{xs:List Int}{x:Int}:zZ [] (mD xs g) (.inl x)=some (if x∈xs then some (g x) else none):=by
 unfold zZ mD;dsimp only;rw[vX]
 congr 1
 unfold cL
 induction xs with
 |nil=>simp
 |cons y r ih=>
  rw[aap,find?_cons]
  by_cases e:y=x
  ·subst e;simp
  ·have:((Sum.inl y:Key)=Sum.inl x)=False:=by simp[e]
   have e':¬ x=y:=λh=>e h.symm;simp only[this,decide_false];rw[ih];simp[e']
theorem BQ{ks:List Int}{ψ:Int->Int}{a:Int}:putD (ks.map Sum.inl) (ks.map λx=>Val.int (ψ x)) (.inl a) (.int (ψ a))=mD (fj ks a) λx=>.int (ψ x):=by
 have eu:∀y,oX (λx=>Val.int (ψ x)) a (.int (ψ a)) y=.int (ψ y):=λy=>by
  unfold oX
  split
  ·rename_i e;rw[e]
  ·rfl
 unfold fj
 by_cases h:a∈ks
 ·rw[vY h,aai h];exact cH λy _=>eu y
 ·rw[vZ h,aal h];exact cH λy _=>eu y
theorem jR{ks:List Int}{a x:Int}:x∈fj ks a↔x∈ks\/x=a:=by
 unfold fj
 split
 ·rename_i h;exact⟨.inl,λk=>k.elim id λe=>e▸h⟩
 ·simp
theorem BR{ks:List Int}{a:Int}(h:ks.Nodup):(fj ks a).Nodup:=by
 unfold fj
 split
 ·exact h
 ·rename_i n;rw[aaN];exact⟨h,by simp,λx hx y hy e=>n (by rw[aau]at hy;rw[<-hy,<-e];exact hx)⟩
theorem lz(ks:List Int)(a:Int):(fj ks a).length<=ks.length+1:=by
 unfold fj
 split
 ·omega
 ·simp
theorem se:∀ks:List Int,qW (ks.map Sum.inl)=some ks
 |[]=>rfl
 | x::r=>by
  have ih:=se r;unfold qW at ih |-;rw[aap,bS,ih];rfl
theorem Gf{ks:List Int}(h:ks.length<64):mQ [] (mD ks g)=some (sortI ks):=by
 unfold mQ;show (qW (ks.map Sum.inl)).bind _=_;rw[se];show (if ks.length<64 then some (sortI ks) else none)=_;rw[aai h]
structure De (ps ks:List Int) (es:List (Int×Int)) (ψ:Int->Int) (n:Nat):Prop where
 IF:kP ps es ψ
 nd:ks.Nodup
 off:∀x,x∉ks -> ψ x=x
 ze:∀x∈ks,ψ x∈ks
 num:n+cnt ψ ps=ps.length
 len:ks.length<=2*es.length
theorem De.start{ps:List Int}(hn:ps.Nodup):De ps [] [] id 0:=⟨kP.start ps,nodup_nil,λ_ _=>rfl,λx h=>by simp at h,by rw[PU hn];omega,aao _⟩
theorem De.stay{ps ks:List Int}{n:Nat}(m:De ps ks es ψ n){a b:Int}(ha:a∈ps)(hb:b∈ps)(e:ψ a = ψ b):De ps ks (es++[(a,b)]) ψ n :=
 ⟨m.IF.uV ha hb e,m.nd,m.off,m.ze,m.num,by have:=m.len;simp;omega⟩
theorem De.join{ps ks:List Int}{n:Nat}(m:De ps ks es ψ n){a b:Int}(ha:a∈ps)(hb:b∈ps)(ne:ψ a ≠ ψ b):De ps (fj (fj ks a) b) (es++[(a,b)]) (λx=>if ψ x = ψ b then ψ a else ψ x) (n+1):=by
 have key:∀x,x∈ks\/x=a\/x=b -> ψ x∈fj (fj ks a) b:=λx hx=>by
  rw[jR,jR]
  by_cases h:x∈ks
  ·exact .inl (.inl (m.ze x h))
  ·rw[m.off x h]
   rcases hx with hx|hx|hx
   ·exact absurd hx h
   ·exact .inl (.inr hx)
   ·exact .inr hx
 refine⟨m.IF.step ha hb (ψ a) (ψ b) (.inl ⟨rfl,rfl⟩),BR (BR m.nd),λx hx=>?_,λx hx=>?_,?_,?_⟩
 ·have hx':x∉ks:=λh=>hx (jR.mpr (.inl (jR.mpr (.inl h))));rw[m.off x hx'];rw[aal];intro e;exact hx (by rw[e];exact key b (.inr (.inr rfl)))
 ·split
  ·exact key a (.inr (.inl rfl))
  ·refine key x ?_
   rcases jR.mp hx with h|h
   ·rcases jR.mp h with h|h
    ·exact .inl h
    ·exact .inr (.inl h)
   ·exact .inr (.inr h)
 ·have:=cnt_join ha hb ne;have:=m.num;omega
 ·have h1:=lz (fj ks a) b;have h2:=lz ks a;have:=m.len;simp;omega
def QY(ps:List Int)(es:List (Int×Int)):Prop:=∀e∈es,e.1∈ps/\e.2∈ps
theorem Gg{ps:List Int}:∀(es pre:List (Int×Int)) (φ:Int->Int),kP ps pre φ -> QY ps es->∃ψ,kP ps (pre++es) ψ
 |[],pre,φ,h,_=>⟨φ,by rw[append_nil];exact h⟩
 | e::r,pre,φ,h,hi=>by
  obtain⟨h1,h2⟩:=hi e aan;have st:=h.step h1 h2 (φ e.1) (φ e.2) (.inl ⟨rfl,rfl⟩);obtain⟨ψ,k⟩:=Gg r (pre++[(e.1,e.2)]) _ st λx hx=>hi x (aam _ hx);exact⟨ψ,by rw[List.append_assoc]at k;exact k⟩
theorem Gh{ps:List Int}(hi:QY ps es):∃ψ,kP ps es ψ:=by
 obtain⟨ψ,h⟩:=Gg es [] id (kP.start ps) hi;exact⟨ψ,h⟩
theorem kP.PX{ps:List Int}(h:kP ps es φ)(hm:∀e,e∈es↔e∈es'):kP ps es' φ :=
 ⟨h.ze,λx hx=>(h.way x hx).mono λe he=>(hm e).mp he,λe he=>h.same e ((hm e).mpr he)⟩
open Classical in
def tr(ps:List Int)(es:List (Int×Int)):Nat:=if h:∃φ,kP ps es φ then rk (Classical.choose h) ps else 0
theorem nK{ps:List Int}(h:kP ps es φ)(hn:ps.Nodup):tr ps es=rk φ ps:=by
 unfold tr;have h':∃φ,kP ps es φ:=⟨φ,h⟩;rw[dif_pos h'];have h2:=choose_spec h';exact L1 h h2 hn (sd h2 hn)
theorem PY{ps:List Int}{n:Nat}(h:kP ps es ψ)(hn:ps.Nodup)(e:n+cnt ψ ps=ps.length):n=tr ps es:=by
 rw[nK h hn];exact L1 h h hn e
theorem yz{ps:List Int}(hn:ps.Nodup)(hi:QY ps es)(hm:∀e,e∈es↔e∈es'):tr ps es=tr ps es':=by
 obtain⟨φ,h⟩:=Gh hi;rw[nK h hn,nK (h.PX hm) hn]
open Classical in
theorem K0{ps:List Int}{a b:Int}(hn:ps.Nodup)(hi:QY ps es)(ha:a∈ps)(hb:b∈ps)(hm:∀e,e∈es'↔e∈es\/e=(a,b)):tr ps es'=tr ps es+if Way es a b then 0 else 1:=by
 obtain⟨φ,h⟩:=Gh hi;have hi':QY ps (es++[(a,b)]):=λe he=>by
  rcases aaL.mp he with he|he
  ·exact hi e he
  ·rw[aau.mp he];exact⟨ha,hb⟩
 rw[<-yz (es:=es++[(a,b)]) hn hi' (λe=>by rw[hm e];simp)]
 by_cases c:φ a = φ b
 ·rw[aai ((h.iff ha hb).mp c),nK (h.uV ha hb c) hn,nK h hn,Nat.add_zero]
 ·rw[aal (λw=>c ((h.iff ha hb).mpr w))];have st:=h.step ha hb (φ a) (φ b) (.inl ⟨rfl,rfl⟩);have e1:=sd st hn;have e2:=sd h hn;have e3:=cnt_join ha hb c;rw[nK st hn,nK h hn];omega
def aJ(aa:aO):aO:=aa.map λo=>match o with
 |some (.nw,.tup _)=>none
 |some (_,d)=>some (.sh,d)
 |none=>none
def dg(aa:aO):aO:=aa.map λo=>match o with
 |some (.sh,d)=>some (.sh,d)
 |_=>none
def L3(Ψ:Nat->List Val->Pr FV)(e:IE)(env:aO):Pr FV:=match aV Ψ e (dg env) with
 |.ok x=>.ok x
 |_=>pb (aV Ψ e (aJ env)) λx=>pg x.1 (.ok x)
def Gi(_:IE)(_:zY)(_:Ik)(_:di):Option (Nat×Nat):=none
def iJ:List Val->Option (List (List Int)):=bS λv=>match v with
 |.rl es=>bT es
 |_=>none
def W4(env:aO)(iq:Nat×Nat):Pr wI:=match env[iq.1]? with
 |some (some (.ow,.rl ds))=>pb (pl (iJ ds)) λls=>pg ((ls.all λl=>decide (l.length+ls.length<sizeLine))&&decide (iq.2<env.length)) (.ok (.nx ((env.set iq.1 none).set iq.2 none)))
 |_=>.no
def new2:IE->Option (IE×IE)
 |.lst #[a,b]=>some (a,b)
 |_=>none
def Am:List Val->Option Nat
 |[]=>some 0
 |.rl es::r=>(Am r).bind λn=>some (max es.length n)
 |_=>none
def K1(ds:List Val):Option (Mk×Val):=match Am ds with
 |some n=>some (.nw,.tup [.int ((n+1:Nat):Int),.int ds.length])
 |none=>none
def K2:List Val->Int->Option Int
 |[.int n,.int l],j=>if 0<=j/\j<l then some n else none
 |_,_=>none
inductive XK
 |app (i:Nat) (a:IE)
 |apI (i:Nat) (j:Int) (a:IE)
 |ext (i:Nat) (a:IE)
 |rem (i:Nat) (j a:IE)
def XK.ie:XK->IE
 |.app i a=>.met .append (.var i) #[a]
 |.apI i j a=>.met .append (.idx (.var i) (.cst (.int j))) #[a]
 |.ext i a=>.met .extend (.var i) #[a]
 |.rem i j a=>.met .remove (.idx (.var i) j) #[a]
def XK.at:XK->Nat
 |.app i _=>i
 |.apI i _ _=>i
 |.ext i _=>i
 |.rem i _ _=>i
def xV:IE->Option Nat
 |.var i=>some i
 |_=>none
def xX:IE->Option (IE×IE)
 |.idx a b=>some (a,b)
 |_=>none
def xI:IE->Option Val
 |.cst d=>some d
 |_=>none
def xM:IE->Option (Me×IE×mP)
 |.met m a es=>some (m,a,es)
 |_=>none
def xO:mP->Option IE
 |.cons a .nil=>some a
 |_=>none
def xJ(o:IE):Option (Nat×Int):=(xX o).bind λy=>(xV y.1).bind λx=>(xI y.2).bind λd=>(fu d).bind λj=>some (x,j)
def exM:Me->IE->IE->Option XK
 |.append,a,x=>(match xV a with|some i=>some (.app i x)|none=>(xJ a).bind λy=>some (.apI y.1 y.2 x))
 |.extend,a,x=>(xV a).bind λi=>some (.ext i x)
 |.remove,a,x=>(xX a).bind λy=>(xV y.1).bind λi=>some (.rem i y.2 x)
 |_,_,_=>none
def Uh(e:IE):Option XK:=(xM e).bind λm=>(xO m.2.2).bind λx=>exM m.1 m.2.1 x
section
variable {e:IE}
theorem K3{i:Nat}(h:xV e=some i):e=.var i:=by
 cases e<;>first|(cases h;rfl)|exact nomatch (show none=some _ from h)
theorem Ui(h:xX e=some y):e=.idx y.1 y.2:=by
 cases e<;>first|(cases h;rfl)|exact nomatch (show none=some _ from h)
theorem W5(h:xI e=some d):e=.cst d:=by
 cases e<;>first|(cases h;rfl)|exact nomatch (show none=some _ from h)
theorem W6(h:xM e=some y):e=.met y.1 y.2.1 y.2.2:=by
 cases e<;>first|(cases h;rfl)|exact nomatch (show none=some _ from h)
theorem W7(h:xO es=some e):es=.cons e .nil:=by
 cases es with
 |nil=>cases h
 |cons a r=>
  cases r with
  |nil=>cases h;rfl
  |cons _ _=>cases h
theorem W8(h:xJ e=some y):e=.idx (.var y.1) (.cst (.int y.2)):=by
 obtain⟨z,h1,h⟩:=aab.mp h;obtain⟨x,h2,h⟩:=aab.mp h;obtain⟨d,h3,h⟩:=aab.mp h;obtain⟨j,h4,h⟩:=aab.mp h;cases h;rw[Ui h1,K3 h2,W5 h3];cases d<;>first|(cases h4;rfl)|cases h4
theorem Uj(h:Uh e=some k):e=k.ie:=by
 obtain⟨⟨m,a,es⟩,h1,h⟩:=aab.mp h;obtain⟨x,h2,h⟩:=aab.mp h;rw[W6 h1,W7 h2];clear h1 h2;cases m with
 |append=>
  cases h3:xV a with
  |some i=>change (match xV a with|some i=>some (XK.app i x)|none=>(xJ a).bind λy=>some (XK.apI y.1 y.2 x))=some k at h;rw[h3]at h;cases h;rw[K3 h3];rfl
  |none=>change (match xV a with|some i=>some (XK.app i x)|none=>(xJ a).bind λy=>some (XK.apI y.1 y.2 x))=some k at h;rw[h3]at h;obtain⟨y,h4,h⟩:=aab.mp h;cases h;rw[W8 h4];rfl
 |extend=>obtain⟨i,h3,h⟩:=aab.mp h;cases h;rw[K3 h3];rfl
 |remove=>obtain⟨y,h3,h⟩:=aab.mp h;obtain⟨i,h4,h⟩:=aab.mp h;cases h;rw[Ui h3,K3 h4];rfl
 |_=>cases h
end
def DA(Ψ:Nat->List Val->Pr FV):XK->aO->Pr wI
 |.app _ _,_=>.no
 | .apI i j a,env=>match env[i]? with
  | some (some (.ow,.tup ds))=>match iV ds j with
   |some (.rl es)=>pb (aV Ψ a (aJ env)) λx=>pg (decide (es.length<sizeLine)) (.ok (.nx (env.set i (K1 ds))))
   |_=>.no
  |some (some (.nw,.tup ds))=>pb (pl (K2 ds j)) λn=>pb (aV Ψ a (aJ env)) λx=>pg (decide (n<sizeLine)) (.ok (.nx (env.set i none)))
  |_=>.no
 | .ext i a,env=>match env[i]? with
  | some (some (.ow,.rl ds))=>pb (aV Ψ a (aJ env)) λx=>match x.2 with
   |.rl es=>pg (x.1&&bK (ds++es)&&decide (ds.length+es.length<=sizeLine)) (.ok (.nx (env.set i (some (.ow,.rl (ds++es))))))
   |_=>.no
  |_=>.no
 | .rem i j a,env=>match env[i]? with
  |some (some (.nw,.rl ds))=>pb (aV Ψ j (aJ env)) λz=>pb (pl (fu z.2)) λk=>pb (pl (vf ds.length k)) λn=>pb (pl (iJ ds)) λls=>pb (pl ls[n]?) λl=>
    pb (aV Ψ a (aJ env)) λx=>pb (pl (fu x.2)) λm=>pg (decide (m∈l)) (.ok (.nx (env.set i (some (.nw,.rl (ds.set n (.rl ((l.eraseIdx (l.idxOf m)).map .int))))))))
  |_=>.no
mutual
noncomputable def bN(Ψ:Nat->List Val->Pr FV)(sp:List Nat):IS->aO->Pr wI
 | .expr e,env=>match Uh e with
  |some k=>DA Ψ k env
  |none=>.no
 | .asg p e,env=>match p with
  | .one i=>if sp.contains i=true then (match new2 e with
    |some ab=>pb (aV Ψ ab.1 (aJ env)) λx=>pb (aV Ψ ab.2 (aJ env)) λy=>pb (pl (iJ [x.2,y.2])) λ_=>pg (x.1&&y.1) (.ok (.nx (env.set i (some (.nw,.rl [x.2,y.2])))))
    |none=>pb (aV Ψ e (aJ env)) λx=>pg x.1 (.ok (.nx (env.set i (some (.ow,x.2))))))
    else pb (L3 Ψ e env) λx=>.ok (.nx (env.set i (some (.sh,x.2))))
  |.tup is=>pb (L3 Ψ e env) λx=>pb (pl (cD (.tup is) x.2 env)) λenv'=>.ok (.nx env')
 |.eW _ _ _,_=>.no
 |.iff c a b,env=>pb (aV Ψ c (aJ env)) λx=>pb (pl (ck [] x.2)) λt=>if t=true then bB Ψ sp a env else bB Ψ sp b env
 | .for p k it body,env=>match it with
  | .cons e .nil=>match Gi e p k body with
   |some iq=>W4 env iq
   |none=>pb (L3 Ψ e env) λx=>pb (pl (iH k [x.2])) λxs=>jA (λx env=>pb (pl (cD p x env)) λenv'=>bB Ψ sp body env') xs env
  |_=>.no
 |.ret e,env=>pb (aV Ψ e (aJ env)) λp=>.ok (.rt p)
 |.brk,env=>.ok (.bk env)
 |.cnt,env=>.ok (.ct env)
 |.pass,env=>.ok (.nx env)
 |.aug ..,_=>.no
 |.whl ..,_=>.no
 |.EA,_=>.no
 |.never,_=>.no
 |.setF ..,_=>.no
noncomputable def bB(Ψ:Nat->List Val->Pr FV)(sp:List Nat):di->aO->Pr wI
 |.nil,env=>.ok (.nx env)
 | .cons s r,env=>pb (bN Ψ sp s env) λf=>match f with
  |.nx env'=>bB Ψ sp r env'
  |f=>.ok f
end
mutual
noncomputable def W9:IS->List Nat
 |.expr e=>(match Uh e with|some k=>[k.at]|none=>[])
 |.eW o _ _=>(match xJ o with|some y=>[y.1]|none=>[])
 |.iff _ a b=>iK a++iK b
 | .for p k it b=>match it with
  | .cons e .nil=>match Gi e p k b with
   |some iq=>[iq.1]
   |none=>iK b
  |_=>iK b
 |_=>[]
noncomputable def iK:di->List Nat
 |.nil=>[]
 |.cons s r=>W9 s++iK r
end
theorem K4{sp:List Nat}(h:Uh e=some k):bN Ψ sp (.expr e) env=DA Ψ k env:=by rw[bN,h]
def Df(Ψ:Nat->List Val->Pr FV)(n:Nat)(body:di)(ds:List Val):Pr FV :=
 pb (bB Ψ (iK body) body (ds.map (λd=>some (.sh,d))++replicate (n-ds.length) none)) λf=>match f with
  |.nx _=>.ok (true,.non)
  |.rt p=>.ok p
  |_=>.no
abbrev UR:=Nat->Nat->Prop
def AU(U:UR):AP:=λo=>match o with
 |none=>True
 |some k=>∀i,¬ U i k
def RU(U:UR)(i:Nat):AP:=λo=>match o with
 |none=>False
 |some k=>U i k
def NN(U:UR)(i:Nat)(h:Hs)(d v:Val):Prop:=∃(b:Nat) (bs:List Nat) (ds:List Val) (ls:List (List Int)),v=.ref b/\d=.rl ds/\iJ ds=some ls/\U i b/\h[b]?=some (.lst (bs.map .ref))/\bs.length=ls.length/\(b::bs).Nodup /\
 ∀(k c:Nat) (l:List Int),bs[k]?=some c->ls[k]?=some l->U i c/\h[c]?=some (.lst (l.map .int))
theorem NN.move{i:Nat}(q:NN U i h d v)(m:∀(c:Nat) (o:Ob),U i c->h[c]?=some o->U' i c/\h'[c]?=some o):NN U' i h' d v:=by
 obtain⟨b,bs,ds,ls,e1,e2,e3,e4,e5,e6,e7,e8⟩:=q;exact⟨b,bs,ds,ls,e1,e2,e3,(m b _ e4 e5).1,(m b _ e4 e5).2,e6,e7,λk c l a z=>m c _ (e8 k c l a z).1 (e8 k c l a z).2⟩
theorem lA:∀{ds:List Val} {ls:List (List Int)},iJ ds=some ls->ds=ls.map λl=>.rl (l.map .int)
 |[],ls,e=>by simp only[iJ,bS]at e;cases e;rfl
 | d::ds,ls,e=>by
  simp only[iJ,bS]at e;obtain⟨x,e1,e⟩:=aab.mp e;obtain⟨y,e2,e⟩:=aab.mp e;cases e;rw[lA (show iJ ds=some y from e2)];cases d<;>first|(cases e1;done)|skip
  rw[f6 e1];rfl
theorem BS:∀(l:List Int),bT (l.map .int)=some l
 |[]=>rfl
 |a::l=>by have ih:=BS l;simp only[bT,map_cons,bS]at ih |-;rw[ih];rfl
theorem qt:∀(ls:List (List Int)),iJ (ls.map λl=>.rl (l.map .int))=some ls
 |[]=>rfl
 | l::ls=>by
  have h1:bT (l.map .int)=some l:=by
   induction l with
   |nil=>rfl
   |cons a l ih=>simp only[bT,map_cons,bS]at ih |-;rw[ih];rfl
  have h2:=qt ls;simp only[iJ,map_cons,bS]at h2 |-;rw[h1,h2];rfl
theorem NN.dn{i:Nat}(q:NN U i h d v)(hA:∀k,U i k->A (some k)):Dn A h d v:=by
 obtain⟨b,bs,ds,ls,rfl,rfl,e3,e4,e5,e6,e7,e8⟩:=q;rw[lA e3,Dn];refine .inr ⟨b,_,rfl,hA _ e4,e5,?_⟩;clear e5 e7 e3 e4
 induction ls generalizing bs with
 | nil=>cases bs with
  |nil=>rw[map_nil,map_nil,aq]
  |cons _ _=>cases e6
 |cons l ls ih=>
  cases bs with
  |nil=>cases e6
  |cons c bs=>refine aq.cons ?_ (ih bs (Nat.succ.inj e6) λk c l a z=>e8 (k+1) c l a z);rw[Dn];exact .inr ⟨c,_,rfl,hA _ (e8 0 c l rfl rfl).1,(e8 0 c l rfl rfl).2,(aQ _ _ (aX l)).mpr rfl⟩
def NT(U:UR)(i:Nat)(h:Hs)(d v:Val):Prop:=∃(n:Int) (ws:List Val),d=.tup [.int n,.int ws.length]/\v=.tup ws/\∀w∈ws,∃(b:Nat) (xs:List Val),w=.ref b/\U i b/\h[b]?=some (.lst xs)/\(xs.length:Int)<=n
def NQ(U:UR)(i:Nat)(h:Hs)(d v:Val):Prop:=NN U i h d v\/NT U i h d v
theorem NQ.move{i:Nat}(q:NQ U i h d v)(m:∀(c:Nat) (o:Ob),U i c->h[c]?=some o->U' i c/\h'[c]?=some o):NQ U' i h' d v:=by
 rcases q with q|⟨n,ws,e1,e2,e3⟩
 ·exact .inl (q.move m)
 ·refine .inr ⟨n,ws,e1,e2,λw hw=>?_⟩;obtain⟨b,xs,k1,k2,k3,k4⟩:=e3 w hw;exact⟨b,xs,k1,(m b _ k2 k3).1,(m b _ k2 k3).2,k4⟩
theorem NQ.dn{i:Nat}(q:NQ U i h d v)(n:∀ds,d≠.tup ds)(hA:∀k,U i k->A (some k)):Dn A h d v:=by
 rcases q with q|⟨_,_,e1,_⟩
 ·exact q.dn hA
 ·exact(n _ e1).elim
structure SL (aa:aO) (env:Env) (h:Hs) (U:UR):Prop where
 len:aa.length=env.length
 sh:∀(i:Nat) (d:Val),aa[i]?=some (some (.sh,d))->∃v,env[i]?=some (some v)/\Dn (AU U) h d v
 un:∀(i:Nat) (d:Val),aa[i]?=some (some (.ow,d))->∃v,env[i]?=some (some v)/\Dn (RU U i) h d v
 nn:∀(i:Nat) (d:Val),aa[i]?=some (some (.nw,d))->∃v,env[i]?=some (some v)/\NQ U i h d v
 ub:∀i k,U i k->k<h.length
 K5:∀i j k,U i k->U j k->i=j
structure KU (h:Hs) (U:UR) (h':Hs) (U':UR):Prop where
 le:h.length<=h'.length
 keep:∀k,k<h.length->(∀i,¬ U i k)->h'[k]?=h[k]?/\∀i,¬ U' i k
def Xa(U:UR)(i:Nat):UR:=λj k=>j≠i/\U j k
def Dg(U:UR)(i n m:Nat):UR:=λj k=>if j=i then n<=k/\k<m else U j k
def eY{α β:Type}(R:α -> Hs -> β -> Prop)(o:Out β):Pr α -> Prop
 |.ok a=>∃b h',o=.ok b h'/\R a h' b
 |_=>True
def RL(h:Hs)(U:UR):wI->Hs->Fl->Prop
 |.nx ay,h',.nx env'=>∃U',SL ay env' h' U'/\KU h U h' U'
 |.bk ay,h',.bk env'=>∃U',SL ay env' h' U'/\KU h U h' U'
 |.ct ay,h',.ct env'=>∃U',SL ay env' h' U'/\KU h U h' U'
 |.rt p,h',.rt v=>RV (λ_=>True) h p h' v/\∃U',KU h U h' U'
 |_,_,_=>False
section
variable {α β γ δ:Type} {h h1 h2:Hs} {U U1 U2:UR} {aa:aO} {env:Env}
theorem bC(r:eY R (m h) p)(k:∀a h1 b,R a h1 b->eY R' (f b h1) (F a)):eY R' (bnd m f h) (pb p F):=by
 unfold bnd;cases p with
 |ok a=>obtain⟨b,h1,e,q⟩:=r;rw[e];exact k a h1 b q
 |exc c es=>trivial
 |no=>trivial
theorem K6(r:Rel A h R o p):eY (λa h' b=>h<+:h'/\R a h' b) o p:=by
 cases p with
 |ok a=>exact r
 |exc c es=>trivial
 |no=>trivial
theorem cR(r:R a h b):eY R (ret b h) (.ok a):=⟨b,h,rfl,r⟩
theorem nL(r:∀a,o=some a->∃b,o'=some b/\R a h b):eY R (bD o' h) (pl o):=by
 cases o with
 |none=>trivial
 |some a=>obtain⟨b,rfl,q⟩:=r a rfl;exact⟨b,h,rfl,q⟩
theorem kj{c:Bool}(r:c=true->eY R o p):eY R o (pg c p):=by
 unfold pg;cases c with
 |true=>rw[aai rfl];exact r rfl
 |false=>rw[aal aac];trivial
theorem jS(r:eY R o p)(k:∀a h' b,R a h' b->R' a h' b):eY R' o p:=by
 cases p with
 |ok a=>obtain⟨b,h',e,r⟩:=r;exact⟨b,h',e,k a h' b r⟩
 |exc c es=>trivial
 |no=>trivial
theorem KU.refl(s:SL aa env h U)(p:h<+:h1):KU h U h1 U:=⟨p.length_le,λk hk n=>⟨gB p hk,n⟩⟩
theorem KU.trans(a:KU h U h1 U1)(b:KU h1 U1 h2 U2):KU h U h2 U2 where
 le:=aaM a.le b.le
 keep k hk n:=by obtain⟨a1,a2⟩:=a.keep k hk n;obtain⟨b1,b2⟩:=b.keep k (aas hk a.le) a2;exact⟨b1.trans a1,b2⟩
theorem RL.seq(a:KU h U h1 U1)(r:RL h1 U1 f h' g):RL h U f h' g:=by
 cases f<;>cases g<;>first|exact r.elim|(obtain⟨O',b,c⟩:=r;exact⟨O',b,a.trans c⟩)|(obtain⟨⟨b,c⟩,O',d⟩:=r;exact⟨⟨b,λz=>(c z).fc (Fr.le a.le)⟩,O',a.trans d⟩)
theorem SL.ext(s:SL aa env h U)(p:h<+:h1):SL aa env h1 U where
 len:=s.len
 sh i d e:=by obtain⟨v,k1,k2⟩:=s.sh i d e;exact⟨v,k1,k2.ext p⟩
 un i d e:=by obtain⟨v,k1,k2⟩:=s.un i d e;exact⟨v,k1,k2.ext p⟩
 nn i d e:=by obtain⟨v,k1,k2⟩:=s.nn i d e;exact⟨v,k1,k2.move λ_ _ a g=>⟨a,aW p g⟩⟩
 ub i k e:=aas (s.ub i k e) p.length_le
 K5:=s.K5
theorem SL.flat(s:SL aa env h U):ER (λ_=>True) (aJ aa) env h:=λi f d q=>by
 unfold aJ at q;rw[aaD]at q;cases e:aa[i]? with
 |none=>rw[e]at q;cases q
 |some o=>
  rw[e]at q;cases o with
  |none=>cases q
  |some fd=>
   obtain⟨g,d'⟩:=fd;cases g with
   |nw=>cases d'<;>first|(cases q;done)|(cases q;rw[aal (by decide)];obtain⟨v,k1,k2⟩:=s.nn i _ e;exact⟨v,k1,k2.dn (λ_ z=>nomatch z) λ_ _=>trivial⟩)
   |ow=>cases q;rw[aal (by decide)];obtain⟨v,k1,k2⟩:=s.un i _ e;exact⟨v,k1,k2.fc λ_ _=>trivial⟩
   |sh=>cases q;rw[aal (by decide)];obtain⟨v,k1,k2⟩:=s.sh i _ e;exact⟨v,k1,k2.fc λ_ _=>trivial⟩
theorem SL.hide(s:SL aa env h U):ER (AU U) (dg aa) env h:=λi f d q=>by
 unfold dg at q;rw[aaD]at q;cases e:aa[i]? with
 |none=>rw[e]at q;cases q
 |some o=>
  rw[e]at q;cases o with
  |none=>cases q
  |some fd=>
   obtain⟨g,d'⟩:=fd;cases g with
   |ow=>cases q
   |nw=>cases q
   |sh=>cases q;rw[aal (by decide)];exact s.sh i _ e
theorem SL.up(s:SL aa env h U):Up (AU U) h:=λk hk i z=>by have:=s.ub i k z;omega
theorem An{i:Nat}:∀o,AU U o->AU (Xa U i) o
 |none,_=>trivial
 |some k,n=>λj z=>n j z.2
theorem SL.gen(s:SL aa env h U){i:Nat}(hl:env'.length=env.length)(he:∀j,j≠i->env'[j]?=env[j]?)
  (mA:∀(k:Nat) (b:Ob),AU U (some k)->h[k]?=some b->AU U' (some k)/\h'[k]?=some b) (mR:∀j,j≠i->∀(k:Nat) (b:Ob),U j k->h[k]?=some b->U' j k/\h'[k]?=some b)
  (ub:∀j k,U' j k->k<h'.length) (K5:∀j l k,U' j k->U' l k->j=l)
  (at':∀m d,i<aa.length->o=some (m,d)->∃v,env'[i]?=some (some v)/\match m with
   |.sh=>Dn (AU U') h' d v
   |.ow=>Dn (RU U' i) h' d v
   |.nw=>NQ U' i h' d v):SL (aa.set i o) env' h' U':=by
 have off:∀(j:Nat) (m:Mk) (d:Val),(aa.set i o)[j]?=some (some (m,d))->(j=i/\i<aa.length/\o=some (m,d))\/(j≠i/\aa[j]?=some (some (m,d))):=λj m d e=>by
  by_cases hij:i=j
  ·subst hij
   have hi:i<aa.length:=by have:=(aae.mp e).1;simpa using this
   rw[aak hi]at e;cases e;exact .inl ⟨rfl,hi,rfl⟩
  ·rw[aaf hij]at e;exact .inr ⟨λz=>hij z.symm,e⟩
 refine⟨by simp[s.len,hl],λj d e=>?_,λj d e=>?_,λj d e=>?_,ub,K5⟩
 ·rcases off j _ _ e with ⟨rfl,a,b⟩|⟨n,e⟩
  ·exact at' _ _ a b
  ·obtain⟨w,k1,k2⟩:=s.sh j d e;exact⟨w,(he j n).trans k1,Dn.move (λ_=>trivial) mA _ _ k2⟩
 ·rcases off j _ _ e with ⟨rfl,a,b⟩|⟨n,e⟩
  ·exact at' _ _ a b
  ·obtain⟨w,k1,k2⟩:=s.un j d e;exact⟨w,(he j n).trans k1,Dn.move (A:=RU U j) (A':=RU U' j) (λz=>False.elim z) (λk b a g=>mR j n k b a g) _ _ k2⟩
 ·rcases off j _ _ e with ⟨rfl,a,b⟩|⟨n,e⟩
  ·exact at' _ _ a b
  ·obtain⟨w,k1,k2⟩:=s.nn j d e;exact⟨w,(he j n).trans k1,k2.move λk b=>mR j n k b⟩
theorem BU{i:Nat}:∀j,j≠i->(env.set i v)[j]?=env[j]?:=λj n=>aaf λz=>n z.symm
theorem SL.at_(s:SL aa env h U){i:Nat}(hi:i<aa.length):(env.set i (some v))[i]?=some (some v):=aak (by rw[<-s.len];exact hi)
theorem SL.set(s:SL aa env h U){i:Nat}(q:Dn (AU U) h d v):SL (aa.set i (some (.sh,d))) (env.set i (some v)) h (Xa U i)/\KU h U h (Xa U i) :=
 ⟨s.gen (by simp) BU (λk b a g=>⟨An _ a,g⟩) (λj n k b a g=>⟨⟨n,a⟩,g⟩) (λj k e=>s.ub j k e.2) (λj l k a b=>s.K5 j l k a.2 b.2) (λm d' hi e=>by cases e;exact⟨v,s.at_ hi,q.fc An⟩),aao _,λk hk n=>⟨rfl,λj z=>n j z.2⟩⟩
theorem SL.Uk(s:SL aa env h U)(p:h<+:h1){i:Nat}(q:Dn (Fr h.length) h1 d v):SL (aa.set i (some (.ow,d))) (env.set i (some v)) h1 (Dg U i h.length h1.length)/\KU h U h1 (Dg U i h.length h1.length):=by
 have no:∀k j,k<h.length->¬ U j k->¬ Dg U i h.length h1.length j k:=λk j hk n z=>by
  unfold Dg at z;split at z
  ·omega
  ·exact n z
 refine⟨s.gen (by simp) BU (λk o a g=>⟨λj=>no k j (aae.mp g).1 (a j),aW p g⟩) (λj n k b a g=>⟨?_,aW p g⟩) (λj k e=>?_) (λj l k e1 e2=>?_) (λm d' hi e=>?_),p.length_le,λk hk n=>⟨gB p hk,λj=>no k j hk (n j)⟩⟩
 ·unfold Dg;rw[aal n];exact a
 ·unfold Dg at e
  split at e
  ·exact e.2
  ·exact aas (s.ub j k e) p.length_le
 ·unfold Dg at e1 e2
  split at e1<;>split at e2
  ·rename_i a b;rw[a,b]
  ·have:=s.ub l k e2;omega
  ·have:=s.ub j k e1;omega
  ·exact s.K5 j l k e1 e2
 ·cases e;refine⟨v,s.at_ hi,Dn.move (A:=Fr h.length) (λz=>False.elim z) (λk o a g=>⟨?_,g⟩) _ _ q⟩;show Dg U i h.length h1.length i k;unfold Dg;rw[aai rfl];exact⟨a,(aae.mp g).1⟩
theorem SL.binds:∀{is:List Nat} {ds vs:List Val} {aa:aO} {env:Env} {U:UR} {ay:aO},SL aa env h U->bL is ds aa=some ay->aq (AU U) h ds vs ->
  ∃env' U',bindAll is vs env=some env'/\SL ay env' h U'/\KU h U h U'
 | [],[],vs,aa,env,U,ay,s,e,q=>by
  rw[aq]at q;subst q;simp only[bL]at e;cases e;exact⟨env,U,rfl,s,KU.refl s (aaw _)⟩
 | i::is,d::ds,vs,aa,env,U,ay,s,e,q=>by
  rw[aq]at q;obtain⟨v,r,rfl,q1,q2⟩:=q;simp only[bL]at e;obtain⟨s1,f1⟩:=s.set (i:=i) q1;obtain⟨env',U',b1,b2,b3⟩:=SL.binds s1 e (q2.fc An);exact⟨env',U',by simp only[bindAll];exact b1,b2,f1.trans b3⟩
 |[],_::_,_,_,_,_,_,_,e,_=>by simp[bL]at e
 |_::_,[],_,_,_,_,_,_,e,_=>by simp[bL]at e
theorem SL.bind(s:SL aa env h U)(e:cD p d aa=some ay)(q:Dn (AU U) h d v):∃env' U',fS p v env=some env'/\SL ay env' h U'/\KU h U h U':=by
 cases p with
 |one i=>simp only[cD]at e;cases e;obtain⟨s1,f1⟩:=s.set (i:=i) q;exact⟨_,_,rfl,s1,f1⟩
 |tup is=>
  cases d<;>simp only[cD]at e<;>first|(cases e;done)|skip
  rw[Dn]at q;obtain⟨vs,rfl,q⟩:=q;exact s.binds e q
theorem SL.Ul(s:SL aa env h U){i b:Nat}(hb:U i b) (at':∀m d,i<aa.length->x=some (m,d)->∃v,env[i]?=some (some v)/\match m with
   |.sh=>Dn (AU U) (h.set b o) d v
   |.ow=>Dn (RU U i) (h.set b o) d v
   |.nw=>NQ U i (h.set b o) d v):SL (aa.set i x) env (h.set b o) U/\KU h U (h.set b o) U :=
 ⟨s.gen rfl (λ_ _=>rfl) (λk b' a g=>⟨a,by rw[aaf λz=>a i (by rw[<-z];exact hb)];exact g⟩) (λj n k b' a g=>⟨a,by rw[aaf λz=>n (s.K5 j i k a (by rw[<-z];exact hb))];exact g⟩)
  (λj k e=>by rw[length_set];exact s.ub j k e) s.K5 at',by simp,λk hk n=>⟨by rw[aaf λz=>n i (by rw[<-z];exact hb)],n⟩⟩
theorem SL.Um(s:SL aa env h U){i b:Nat}(hb:U i b):SL (aa.set i none) env (h.set b o) U/\KU h U (h.set b o) U:=s.Ul hb λ_ _ _ e=>nomatch e
theorem SL.L4(s:SL aa env h U){i b:Nat}(hb:U i b):SL (aa.set i none) env (h.set b o) U/\KU h U (h.set b o) U:=s.Um hb
theorem SL.regrow(s:SL aa env h U){i b:Nat}{mk:Mk}{d dn w:Val}{o:Ob}(e:aa[i]?=some (some (mk,d)))(ee:env[i]?=some (some w))(hb:U i b)(nw:Dn (RU U i) (h.set b o) dn w) :
  SL (aa.set i (some (.ow,dn))) env (h.set b o) U/\KU h U (h.set b o) U:=s.Ul hb λ_ _ _ e=>by cases e;exact⟨w,ee,nw⟩
theorem SL.toN(s:SL aa env h U){i:Nat}(hlt:i<aa.length)(ee:env[i]?=some (some w))(q:NQ U i h d w):SL (aa.set i (some (.nw,d))) env h U :=
 s.gen rfl (λ_ _=>rfl) (λ_ _ a g=>⟨a,g⟩) (λ_ _ _ _ a g=>⟨a,g⟩) s.ub s.K5 λ_ _ _ e=>by cases e;exact⟨w,ee,q⟩
theorem SL.grow(s:SL aa env h U){i b:Nat}(e:aa[i]?=some (some (.ow,d)))(ee:env[i]?=some (some (.ref b)))(hb:U i b)(hi:bK ds=true)(hv:vs=ds) :
  SL (aa.set i (some (.ow,.rl ds))) env (h.set b (.lst vs)) U/\KU h U (h.set b (.lst vs)) U :=
 s.regrow e ee hb (by rw[Dn];exact .inr ⟨b,vs,rfl,hb,by rw[aak (s.ub i b hb)],(aQ _ _ hi).mpr hv⟩)
end
section
variable {Φ:Nat->List Val->M Val} {Ψ:Nat->List Val->Pr FV} {sp:List Nat} {aa:aO} {env:Env} {h:Hs} {U:UR}
theorem v7(V:bM Φ Ψ e)(s:SL aa env h U):eY (λx h' v=>h<+:h'/\Dn (AU U) h' x.2 v) (aD Φ e env h) (L3 Ψ e aa):=by
 have r1:=V (dg aa) env (AU U) h s.up s.hide;have r2:=V (aJ aa) env (λ_=>True) h (λ_ _=>trivial) s.flat
 have go:eY (λx h' v=>h<+:h'/\Dn (AU U) h' x.2 v) (aD Φ e env h) (pb (aV Ψ e (aJ aa)) λx=>pg x.1 (.ok x)):=by
  cases e2:aV Ψ e (aJ aa) with
  |ok x=>
   rw[e2]at r2;obtain⟨v,h',ev,p,q⟩:=r2;show eY _ _ (pg x.1 (.ok x));refine kj λhx=>⟨v,h',ev,p,(q.2 hx).fc λo z=>?_⟩;cases o with
   |none=>exact False.elim z
   |some k=>exact s.up k z
  |exc c es=>trivial
  |no=>trivial
 unfold L3;cases e1:aV Ψ e (dg aa) with
 |ok x=>rw[e1]at r1;obtain⟨v,h',ev,p,q⟩:=r1;exact⟨v,h',ev,p,q.1⟩
 |exc c es=>exact go
 |no=>exact go
theorem dJ(V:bM Φ Ψ e)(s:SL aa env h U):eY (λx h' v=>h<+:h'/\RV (λ_=>True) h x h' v) (aD Φ e env h) (aV Ψ e (aJ aa)):=K6 (V (aJ aa) env (λ_=>True) h (λ_ _=>trivial) s.flat)
def Dh(Φ:Nat->List Val->M Val)(Ψ:Nat->List Val->Pr FV)(sp:List Nat)(s:IS):Prop:=∀(aa:aO) (env:Env) (h:Hs) (U:UR),SL aa env h U->eY (RL h U) (dX Φ s env h) (bN Ψ sp s aa)
def yC(Φ:Nat->List Val->M Val)(Ψ:Nat->List Val->Pr FV)(sp:List Nat)(s:di):Prop:=∀(aa:aO) (env:Env) (h:Hs) (U:UR),SL aa env h U->eY (RL h U) (dj Φ s env h) (bB Ψ sp s aa)
theorem BV{b:Nat}{h1:Hs}(g:h1[b]?=some (.lst vs))(hl:decide (vs.length<sizeLine)=true):bnd (met .append (.ref b) [v]) (λ_=>ret (Fl.nx env)) h1=.ok (.nx env) (h1.set b (.lst (vs++[v]))):=by
 simp only[met];unfold bnd ask bD aH put ret;dsimp only;rw[g];dsimp only;rw[aai hl]
theorem Gj{i:Nat}(ha:bM Φ Ψ a):Dh Φ Ψ sp (.expr (.met .extend (.var i) #[a])):=λaa env h U s=>by
 rw[dX,bN];try dsimp only
 change eY (RL h U) _ (DA Ψ (.ext i a) aa);unfold DA;try dsimp only
 split
 ·rename_i ds hv
  obtain⟨w,e2,q⟩:=s.un i _ hv;rw[Dn]at q
  rcases q with ⟨_,_,n,_⟩|⟨b,vs,rfl,hb,e4,e5⟩
  ·exact False.elim n
  have ev:bnd (aD Φ (.met .extend (.var i) #[a]) env) (λ_=>ret (Fl.nx env)) h=bnd (aD Φ a env) (λv=>bnd (met .extend (.ref b) [v]) λ_=>ret (Fl.nx env)) h:=by
   rw[aD,ao,ak (bF e2)];rw[ao,ak (a:=()) (h1:=h) (by unfold ask bD;simp[recv,e4])];rw[ao,aU,ao]
   congr 1
  rw[ev];refine bC (dJ ha s) λx h1 v aI=>?_;obtain⟨p1,q1⟩:=aI;obtain⟨f,d⟩:=x;cases d<;>first|trivial|skip
  rename_i es;refine kj λhg=>?_;have hg:=pZ hg;have r:=q1.2 hg.1.1;dsimp only at r;rw[Dn]at r
  rcases r with ⟨_,_,n,_⟩|⟨c,ws,rfl,hc,e6,e7⟩
  ·exact False.elim n
  have s1:=s.ext p1;have l:=e5.length;have l2:=e7.length;have g4:=aW p1 e4;have eq:vs++ws=ds++es:=(aQ (A:=λ_=>True) (h:=h1) _ _ hg.1.2).mp (((e5.fc λ_ _=>trivial).ext p1).append (e7.fc λ_ _=>trivial));obtain⟨s2,f2⟩:=s1.grow hv e2 hb hg.1.2 eq;refine⟨.nx env,h1.set b (.lst (vs++ws)),?_,U,s2,(KU.refl s p1).trans f2⟩;unfold met bnd ask bD aH put ret uG aG;dsimp only;rw[g4];dsimp only;rw[e6];dsimp only;rw[aai (by rw[<-l,<-l2];exact hg.2)]
 ·trivial
theorem BW{α β:Type}{f:α -> β}:∀(l:List α) (n:Nat),(l.map f).eraseIdx n=(l.eraseIdx n).map f
 |[],_=>rfl
 |_::_,0=>rfl
 |a::l,n+1=>congrArg (f a :: ·) (BW l n)
theorem Gk{i:Nat}(hj:bM Φ Ψ j)(ha:bM Φ Ψ a):Dh Φ Ψ sp (.expr (.met .remove (.idx (.var i) j) #[a])):=λaa env h U s=>by
 rw[dX,bN];try dsimp only
 change eY (RL h U) _ (DA Ψ (.rem i j a) aa);unfold DA;try dsimp only
 split
 ·rename_i ds hv
  obtain⟨w,e2,q⟩:=s.nn i _ hv
  rcases q with ⟨b,bs,ds',ls,rfl,ed,el,hb,e5,e6,e7,e8⟩|⟨_,_,ed,_⟩<;>cases ed
  have ev:bnd (aD Φ (.met .remove (.idx (.var i) j) #[a]) env) (λ_=>ret (Fl.nx env)) h=bnd (aD Φ j env) (λz=>bnd (ask λh=>ju h (.ref b) z) λo=>bnd (ask λh=>recv h .remove o) λ_=>bnd (aD Φ a env) λv=>bnd (met .remove o [v]) λ_=>ret (Fl.nx env)) h:=by
   rw[aD,ao,aD,ao,ak (bF e2),ao];refine congrFun ?_ h
   congr 1;funext z
   congr 1;funext o
   rw[ao]
   congr 1;funext _
   rw[ao,aU,ao]
   congr 1
  rw[ev];refine bC (dJ hj s) λz h1 z' aI=>?_;obtain⟨p1,q1⟩:=aI;cases ek:fu z.2 with
  |none=>trivial
  |some k=>
   obtain⟨f,zz⟩:=z;cases zz<;>first|(cases ek;done)|skip
   cases ek;have ez:z'=.int k:=(gP _ _ rfl).mp q1.1;subst ez;show eY (RL h U) _ (pb (pl (vf ds.length k)) _);cases en:vf ds.length k with
   |none=>trivial
   |some n=>
    show eY (RL h U) _ (pb (pl (iJ ds)) _);rw[el];show eY (RL h U) _ (pb (pl ls[n]?) _);cases eL:ls[n]? with
    |none=>trivial
    |some l=>
     have dl:ds.length=ls.length:=by rw[lA el,aah]
     have hn:n<bs.length:=by rw[e6];exact(aae.mp eL).1
     have eb:bs[n]?=some bs[n]:=aay hn;obtain⟨hc,gc⟩:=e8 n _ l eb eL;have g1:=aW p1 e5;have Ym:=aW p1 gc;rw[ak (a:=Val.ref bs[n]) (h1:=h1) (by
      unfold ask bD ju aG;dsimp only;rw[g1];dsimp only;rw[bind_some,show iV (bs.map Val.ref) k=some (.ref bs[n]) from by unfold iV;rw[aah,e6,<-dl,en];simp[hn]])]
     rw[ak (a:=()) (h1:=h1) (by unfold ask bD recv;dsimp only;rw[Ym])];show eY (RL h U) _ (pb (aV Ψ a (aJ aa)) _);refine bC (dJ ha (s.ext p1)) λx h2 v aI=>?_;obtain⟨p2,q2⟩:=aI;cases em:fu x.2 with
     |none=>trivial
     |some m=>
      obtain⟨f2,xx⟩:=x;cases xx<;>first|(cases em;done)|skip
      cases em;have ex:v=.int m:=(gP _ _ rfl).mp q2.1;subst ex;show eY (RL h U) _ (pg (decide (m∈l)) _);refine kj λhm=>?_;have s2:=(s.ext p1).ext p2;have g2:=aW p2 g1;have Yn:=aW p2 Ym;have hl:bs[n]<h2.length:=(aae.mp Yn).1;have nd:=aaP.mp e7;have nbn:bs[n]≠b:=λz=>nd.1 (z▸List.getElem_mem hn);have nn:NN U i (h2.set bs[n] (.lst ((l.eraseIdx (l.idxOf m)).map .int))) (.rl (ds.set n (.rl ((l.eraseIdx (l.idxOf m)).map .int)))) (.ref b):=by
       refine⟨b,bs,_,ls.set n (l.eraseIdx (l.idxOf m)),rfl,rfl,?_,hb,by rw[aaf nbn];exact g2,by rw[length_set];exact e6,e7,λk' c l' a' z'=>?_⟩
       ·rw[lA el,<-qt (ls.set n (l.eraseIdx (l.idxOf m))),List.map_set]
       ·by_cases hk:n=k'
        ·subst hk;rw[eb]at a';cases a';rw[aak (by rw[<-e6];exact hn)]at z';cases z';exact⟨hc,by rw[aak hl]⟩
        ·rw[aaf hk]at z'
         obtain⟨y1,y2⟩:=e8 k' c l' a' z';refine⟨y1,?_⟩;have hk':k'<bs.length:=(aae.mp a').1;have ne:bs[n]≠c:=λz=>hk (by
          have:bs[k']=c:=(aae.mp a').2;exact(List.getElem_inj nd.2).mp (z.trans this.symm))
         rw[aaf ne];exact aW p2 (aW p1 y2)
      obtain⟨s3,f3⟩:=s2.regrow (o:=.lst ((l.eraseIdx (l.idxOf m)).map .int)) hv e2 hc (nn.dn λk hk=>hk);have hlt:i<aa.length:=(aae.mp hv).1;have s4:=s3.toN (i:=i) (by simpa using hlt) e2 (.inl nn);rw[set_set]at s4;refine⟨.nx env,_,?_,U,s4,(KU.refl s (p1.trans p2)).trans f3⟩;unfold met bnd ask bD aH put ret;dsimp only;rw[Yn];dsimp only;rw[BS];dsimp only;rw[aai hm,BW]
 ·trivial
theorem yD{i:Nat}:∀{ds vs:List Val} {m:Nat},Am ds=some m->aq (RU U i) h ds vs->∀w∈vs,∃(b:Nat) (xs:List Val),w=.ref b/\U i b/\h[b]?=some (.lst xs)/\xs.length<=m
 |[],vs,m,e,q,w,hw=>by rw[aq]at q;subst q;cases hw
 | d::ds,vs,m,e,q,w,hw=>by
  rw[aq]at q;obtain⟨v,r,rfl,q1,q2⟩:=q;cases d<;>first|(cases e;done)|skip
  rename_i es;simp only[Am]at e;obtain⟨n,e1,e⟩:=aab.mp e;cases e
  rcases aaG.mp hw with rfl|hw
  ·rw[Dn]at q1
   rcases q1 with ⟨_,_,n,_⟩|⟨b,xs,rfl,hb,e4,e5⟩
   ·exact False.elim n
   exact⟨b,xs,rfl,hb,e4,by rw[<-e5.length];exact Nat.le_max_left _ _⟩
  ·obtain⟨b,xs,k1,k2,k3,k4⟩:=yD e1 q2 w hw;exact⟨b,xs,k1,k2,k3,aaM k4 (Nat.le_max_right _ _)⟩
theorem Di{i:Nat}{j:Int}(ha:bM Φ Ψ a):Dh Φ Ψ sp (.expr (.met .append (.idx (.var i) (.cst (.int j))) #[a])):=λaa env h U s=>by
 rw[dX,bN];try dsimp only
 change eY (RL h U) _ (DA Ψ (.apI i j a) aa);unfold DA;try dsimp only
 split
 ·rename_i ds hv
  split
  ·rename_i es hj
   obtain⟨w,e2,q⟩:=s.un i _ hv;rw[Dn]at q;obtain⟨ws,rfl,q⟩:=q;have qq:=q;obtain⟨u,hu,q⟩:=q.iV hj;rw[Dn]at q
   rcases q with ⟨_,_,n,_⟩|⟨b,vs,rfl,hb,e4,e5⟩
   ·exact False.elim n
   have er:aD Φ (.idx (.var i) (.cst (.int j))) env h=.ok (.ref b) h:=by rw[aD,ak (bF e2),aD];unfold bnd ask bD ret;dsimp only;rw[show ju h (.tup ws) (.int j)=some (.ref b) from hu]
   have ev:bnd (aD Φ (.met .append (.idx (.var i) (.cst (.int j))) #[a]) env) (λ_=>ret (Fl.nx env)) h=bnd (aD Φ a env) (λv=>bnd (met .append (.ref b) [v]) λ_=>ret (Fl.nx env)) h:=by
    rw[aD,ao,ak er];rw[ao,ak (a:=()) (h1:=h) (by unfold ask bD;simp[recv,e4])];rw[ao,aU,ao]
    congr 1
   rw[ev];refine bC (dJ ha s) λx h1 v ⟨p1,q1⟩=>kj λhg=>?_;have s1:=s.ext p1;have l:=e5.length;have run:=BV (env:=env) (v:=v) (aW p1 e4) (by rw[<-l];exact hg);unfold K1;cases em:Am ds with
   |none=>obtain⟨s2,f2⟩:=s1.L4 (o:=.lst (vs++[v])) hb;exact⟨_,_,run,_,s2,(KU.refl s p1).trans f2⟩
   |some m=>
    obtain⟨s2,f2⟩:=s1.Um (i:=i) (o:=.lst (vs++[v])) hb;have hlt:i<aa.length:=(aae.mp hv).1;have hbl:b<h1.length:=s1.ub i b hb;have s3:=s2.toN (i:=i) (d:=.tup [.int ((m+1:Nat):Int),.int ds.length]) (by simpa using hlt) e2 (.inr ⟨_,ws,by rw[qq.length],rfl,λw hw=>by
     obtain⟨c,xs,k1,k2,k3,k4⟩:=yD em qq w hw
     by_cases hcb:b=c
     ·subst hcb;refine⟨b,vs++[v],k1,k2,by rw[aak hbl],?_⟩;rw[k3]at e4;cases e4;simp only[length_append,List.length_singleton];omega
     ·exact⟨c,xs,k1,k2,by rw[aaf hcb];exact aW p1 k3,by omega⟩⟩)
    rw[set_set]at s3;exact⟨_,_,run,_,s3,(KU.refl s p1).trans f2⟩
  ·trivial
 ·rename_i ds hv
  obtain⟨w,e2,q⟩:=s.nn i _ hv
  rcases q with ⟨b,bs,ds',ls,rfl,ed,_⟩|⟨n,ws,ed,rfl,q⟩
  ·cases ed
  cases ed
  by_cases hj:0<=j/\j<(ws.length:Int)
  ·have en:K2 [.int n,.int ws.length] j=some n:=aai hj
   rw[en];show eY (RL h U) _ (pb (aV Ψ a (aJ aa)) _);have hj':j.toNat<ws.length:=by omega
   have hu:iV ws j=some ws[j.toNat]:=by unfold iV vf;rw[aai hj.1,aai hj.2];simp[hj']
   obtain⟨b,xs,eb,hb,e4,e5⟩:=q _ (List.getElem_mem hj');rw[eb]at hu;have er:aD Φ (.idx (.var i) (.cst (.int j))) env h=.ok (.ref b) h:=by rw[aD,ak (bF e2),aD];unfold bnd ask bD ret;dsimp only;rw[show ju h (.tup ws) (.int j)=some (.ref b) from hu]
   have ev:bnd (aD Φ (.met .append (.idx (.var i) (.cst (.int j))) #[a]) env) (λ_=>ret (Fl.nx env)) h=bnd (aD Φ a env) (λv=>bnd (met .append (.ref b) [v]) λ_=>ret (Fl.nx env)) h:=by
    rw[aD,ao,ak er];rw[ao,ak (a:=()) (h1:=h) (by unfold ask bD;simp[recv,e4])];rw[ao,aU,ao]
    congr 1
   rw[ev];refine bC (dJ ha s) λx h1 v ⟨p1,q1⟩=>kj λhg=>?_;have s1:=s.ext p1;have hg:=aax hg;have run:=BV (env:=env) (v:=v) (aW p1 e4) (decide_eq_true (by omega));obtain⟨s2,f2⟩:=s1.L4 (o:=.lst (xs++[v])) hb;exact⟨_,_,run,_,s2,(KU.refl s p1).trans f2⟩
  ·have en:K2 [.int n,.int ws.length] j=none:=aal hj;rw[en];trivial
 ·trivial
theorem sf{n:Nat}{l:List Int}(q:Dn (Fr n) h (.rl (l.map .int)) v):∃b,v=.ref b/\n<=b/\h[b]?=some (.lst (l.map .int)):=by
 rw[Dn]at q
 rcases q with ⟨_,_,n,_⟩|⟨b,vs,rfl,hb,e4,e5⟩
 ·exact False.elim n
 exact⟨b,rfl,hb,by rw[e4,(aQ _ _ (aX l)).mp e5]⟩
theorem PZ{i:Nat}(hab:new2 e=some ab)(ha:bM Φ Ψ ab.1)(hb:bM Φ Ψ ab.2)(s:SL aa env h U):eY (RL h U) (bnd (aD Φ e env) (λv=>bnd (bD (fS (.one i) v env)) λenv'=>ret (Fl.nx env')) h)
  (pb (aV Ψ ab.1 (aJ aa)) λx=>pb (aV Ψ ab.2 (aJ aa)) λy=>pb (pl (iJ [x.2,y.2])) λ_=>pg (x.1&&y.1) (.ok (.nx (aa.set i (some (.nw,.rl [x.2,y.2])))))):=by
 have ee:e=.lst #[ab.1,ab.2]:=by
  unfold new2 at hab;split at hab
  ·cases hab;rfl
  ·cases hab
 rw[ee];have ev:∀K:Val->M Fl,bnd (aD Φ (.lst #[ab.1,ab.2]) env) K h=bnd (aD Φ ab.1 env) (λv=>bnd (aD Φ ab.2 env) λw=>bnd (new (.lst [v,w])) K) h:=λK=>by
  rw[aD,aU,aU,aU,ao,ao];refine congrFun ?_ h
  congr 1;funext v;rw[ao,ao]
  congr 1
 rw[ev];refine bC (dJ ha s) λx h1 v ⟨p1,q1⟩=>bC (dJ hb (s.ext p1)) λy h2 w ⟨p2,q2⟩=>?_;cases el:iJ [x.2,y.2] with
 |none=>trivial
 |some ls=>
  show eY _ _ (pg _ _);refine kj λhx=>?_;have hx:=cE hx;have r1:=q1.2 hx.1;have r2:=q2.2 hx.2;have em:=lA el
  match ls,em with
  |[_],em=>exact nomatch (List.cons.inj em).2
  |_::_::_::_,em=>exact nomatch (List.cons.inj (List.cons.inj em).2).2
  |[l1,l2],em=>
   have e1:x.2=.rl (l1.map .int):=(List.cons.inj em).1;have e2:y.2=.rl (l2.map .int):=(List.cons.inj (List.cons.inj em).2).1;rw[e1]at r1;rw[e2]at r2;obtain⟨b1,rfl,n1,g1⟩:=sf r1;obtain⟨b2,rfl,n2,g2⟩:=sf r2;have l1':=(aae.mp g1).1;have l2':=(aae.mp g2).1;have g1:=aW p2 g1;have z1:=p1.length_le;have z2:=p2.length_le;have p3:h2<+:h2++[.lst [.ref b1,.ref b2]]:=aaY _ _;have sz:(h2++[Ob.lst [.ref b1,.ref b2]]).length=h2.length+1:=by simp
   have nn:NN (Dg U i h.length (h2++[Ob.lst [.ref b1,.ref b2]]).length) i (h2++[.lst [.ref b1,.ref b2]]) (.rl [x.2,y.2]) (.ref h2.length):=by
    have rg:∀k,h.length<=k->k<h2.length+1->Dg U i h.length (h2++[Ob.lst [.ref b1,.ref b2]]).length i k:=λk a b=>by
     unfold Dg;rw[aai rfl,sz];exact⟨a,b⟩
    refine⟨h2.length,[b1,b2],_,_,rfl,rfl,el,rg _ (by omega) (by omega),by simp,rfl,?_,λk c l a z=>?_⟩
    ·simp only[List.nodup_cons,mem_cons,not_mem_nil,nodup_nil,or_false,not_false_eq_true,and_true,not_or];omega
    ·match k,a,z with
     |0,a,z=>cases a;cases z;exact⟨rg _ (by omega) (by omega),aW p3 g1⟩
     |1,a,z=>cases a;cases z;exact⟨rg _ (by omega) (by omega),aW p3 g2⟩
   obtain⟨s2,f2⟩:=s.Uk ((p1.trans p2).trans p3) (i:=i) (d:=.rl [x.2,y.2]) (v:=.ref h2.length) (nn.dn λk hk=>by
    unfold Dg at hk;rw[aai rfl]at hk;exact hk.1)
   by_cases hi:i<aa.length
   ·have s3:=s2.toN (i:=i) (by simpa using hi) (by rw[aak (by rw[<-s.len];exact hi)]) (.inl nn);rw[set_set]at s3;exact⟨_,_,rfl,_,s3,f2⟩
   ·rw[List.set_eq_of_length_le (by omega)]at s2 |-;exact⟨_,_,rfl,_,s2,f2⟩
theorem Uo(V:bM Φ Ψ e)(V2:∀ab,new2 e=some ab->bM Φ Ψ ab.1/\bM Φ Ψ ab.2):Dh Φ Ψ sp (.asg p e):=λaa env h U s=>by
 cases p with
 |one i=>
  rw[dX,bN];try dsimp only
  split
  ·split
   ·rename_i ab hab;exact PZ hab (V2 _ hab).1 (V2 _ hab).2 s
   ·refine bC (dJ V s) λx h1 v ⟨p1,q1⟩=>kj λhx=>?_;obtain⟨s2,f2⟩:=s.Uk p1 (i:=i) (q1.2 hx);exact⟨_,_,rfl,_,s2,f2⟩
  ·refine bC (v7 V s) λx h1 v aI=>?_;obtain⟨p1,q1⟩:=aI;obtain⟨s2,f2⟩:=(s.ext p1).set (i:=i) q1;exact⟨_,_,rfl,_,s2,(KU.refl s p1).trans f2⟩
 |tup is=>
  rw[dX,bN];try dsimp only
  refine bC (v7 V s) λx h1 v aI=>?_;obtain⟨p1,q1⟩:=aI;have s1:=s.ext p1;refine bC (R:=λay h' env'=>∃U',SL ay env' h' U'/\KU h1 U h' U') (nL λay ev=>?_) λay h2 env' hh=>?_
  ·obtain⟨env',U',b1,b2,b3⟩:=s1.bind ev q1;exact⟨env',b1,U',b2,b3⟩
  ·obtain⟨U',b2,b3⟩:=hh;exact cR ⟨U',b2,(KU.refl s p1).trans b3⟩
theorem Uq(V:bM Φ Ψ c)(ha:yC Φ Ψ sp a)(hb:yC Φ Ψ sp b):Dh Φ Ψ sp (.iff c a b):=λaa env h U s=>by
 rw[dX,bN];refine bC (dJ V s) λx h1 v aI=>?_;obtain⟨p1,q1⟩:=aI;refine bC (R:=λt h' t'=>h'=h1/\t'=t) (nL λt ht=>⟨t,rQ (.inl q1.1) ht,rfl,rfl⟩) λt h2 t' aI=>?_;obtain⟨e1,e2⟩:=aI;subst e1;subst e2;have s1:=s.ext p1;cases t' with
 |true=>rw[aai rfl,aai rfl];exact jS (ha aa env _ U s1) λf h' g r=>r.seq (KU.refl s p1)
 |false=>rw[aal aac,aal aac];exact jS (hb aa env _ U s1) λf h' g r=>r.seq (KU.refl s p1)
theorem Ur(V:bM Φ Ψ e):Dh Φ Ψ sp (.ret e):=λaa env h U s=>by
 rw[dX,bN];exact bC (dJ V s) λx h1 v ⟨p1,q1⟩=>cR ⟨q1,U,KU.refl s p1⟩
def Xb(h:Hs)(U:UR)(src:Src)(ws:List Val):Prop:=∀h':Hs,(∀k,k<h.length->(∀i,¬ U i k)->h'[k]?=h[k]?)->src.items h'=some ws
theorem Us(q:Dn (AU U) h d v)(e:iH k [d]=some xs):∃src ws,srcOf k [v]=some src/\aq (AU U) h xs ws/\src.items h=some ws/\Xb h U src ws:=by
 have lst:∀es,d=.rl es->(∃ws,v=.rl ws/\aq (AU U) h es ws)\/∃a ws,v=.ref a/\h[a]?=some (.lst ws)/\aq (AU U) h es ws/\∀h':Hs,(∀k,k<h.length->(∀i,¬ U i k)->h'[k]?=h[k]?)->h'[a]?=some (Ob.lst ws):=by
  rintro es rfl;rw[Dn]at q
  rcases q with ⟨ws,rfl,_,q⟩|⟨a,ws,rfl,al,g,q⟩
  ·exact .inl ⟨ws,rfl,q⟩
  ·exact .inr ⟨a,ws,rfl,g,q,λh' hk=>(hk a (aae.mp g).1 al).trans g⟩
 cases k with
 |seq=>
  cases d<;>simp only[iH]at e<;>first|(cases e;done)|skip
  ·cases e;rw[Dn]at q;obtain⟨ws,rfl,q⟩:=q;exact⟨.fix ws,ws,rfl,q,rfl,λ_ _=>rfl⟩
  ·cases e
   rcases lst _ rfl with ⟨ws,rfl,q'⟩|⟨a,ws,rfl,g,q',st⟩
   ·exact⟨.fix ws,ws,rfl,q',rfl,λ_ _=>rfl⟩
   ·exact⟨.live a,ws,rfl,q',cB g,λh' hk=>cB (st h' hk)⟩
 |range=>
  cases d<;>simp only[iH]at e<;>first|(cases e;done)|skip
  rw[Dn]at q;subst q;split at e
  ·rename_i hn;cases e;exact⟨.fix _,_,by simp only[srcOf];rw[aai hn],jL,rfl,λ_ _=>rfl⟩
  ·cases e
 |enum=>
  cases d<;>simp only[iH]at e<;>first|(cases e;done)|skip
  cases e
  rcases lst _ rfl with ⟨ws,rfl,q'⟩|⟨a,ws,rfl,g,q',st⟩
  ·exact⟨.fix _,_,rfl,gA 0 q',rfl,λ_ _=>rfl⟩
  ·exact⟨.enum a,_,rfl,gA 0 q',f9 g,λh' hk=>f9 (st h' hk)⟩
 |zip=>cases e
theorem yE(hb:∀aa env h U x v,SL aa env h U->Dn (AU U) h x v->eY (RL h U) (body v env h) (bodyV x aa))
  {h1:Hs} {U1:UR} (st:Xb h1 U1 src ws) :
  ∀(xs vs:List Val) (i:Nat) (aa:aO) (env:Env) (h:Hs) (U:UR),SL aa env h U->KU h1 U1 h U->ws.drop i=vs->aq (AU U) h xs vs ->
   eY (RL h1 U1) (forM src body vs.length i env h) (jA bodyV xs aa)
 | [],vs,i,aa,env,h,U,s,f,hd,q=>by
  rw[aq]at q;subst q;have hl:ws.length<=i:=List.drop_eq_nil_iff.mp hd;have hi:=st h (λk hk n=>(f.keep k hk n).1);rw[jA];refine⟨.nx env,h,?_,U,s,f⟩;show forM src body 0 i env h=_;simp only[forM];unfold bnd ask bD aH;dsimp only;rw[hi];dsimp only;rw[aai (decide_eq_true hl)];try rfl
 | x::xs,vs,i,aa,env,h,U,s,f,hd,q=>by
  rw[aq]at q;obtain⟨v,r,rfl,q1,q2⟩:=q;have hv:ws[i]?=some v:=by have:=congrArg (λl=>l[0]?) hd;simpa using this
  have hr:ws.drop (i+1)=r:=by
   have:ws.drop (i+1)=(ws.drop i).drop 1:=by rw[drop_drop]
   rw[this,hd];rfl
  have hi:=st h (λk hk n=>(f.keep k hk n).1);have ev:forM src body (v::r).length i env h=bnd (body v env) (λf=>match f with
   |.nx env'=>forM src body r.length (i+1) env'
   |.ct env'=>forM src body r.length (i+1) env'
   |.bk env'=>ret (.nx env')
   |.rt v=>ret (.rt v)) h:=by
   show forM src body (r.length+1) i env h=_;simp only[forM];unfold bnd ask bD;dsimp only;rw[hi];dsimp only;rw[hv];try rfl
  rw[ev,jA];refine bC (hb aa env h U x v s q1) λfl h2 gl hr2=>?_;have go:∀ay env' U',SL ay env' h2 U'->KU h U h2 U'->eY (RL h1 U1) (forM src body r.length (i+1) env' h2) (jA bodyV xs ay):=λay env' U' s' f'=>by
   refine yE hb st xs r (i+1) ay env' h2 U' s' (f.trans f') hr (aq.move (A:=AU U) (λ_=>trivial) (λk o hk g=>?_) _ _ q2);have hlt:k<h.length:=(aae.mp g).1;obtain⟨a1,a2⟩:=f'.keep k hlt hk;exact⟨a2,a1.trans g⟩
  cases fl<;>cases gl<;>first|exact hr2.elim|skip
  ·obtain⟨U',s',f'⟩:=hr2;exact go _ _ U' s' f'
  ·exact cR (RL.seq (f:=.rt _) (g:=.rt _) f hr2)
  ·obtain⟨U',s',f'⟩:=hr2;exact cR ⟨U',s',f.trans f'⟩
  ·obtain⟨U',s',f'⟩:=hr2;exact go _ _ U' s' f'
theorem Ut(V:bM Φ Ψ e)(hb:yC Φ Ψ sp body):Dh Φ Ψ sp (.for p k #[e] body):=λaa env h U s=>by
 rw[bN];try dsimp only
 have hsp:Gi e p k body=none:=rfl;rw[hsp];dsimp only;rw[dX];have ev:∀(F:List Val->M Fl),bnd (aU Φ #[e] env) F h=bnd (aD Φ e env) (λv=>F [v]) h:=λF=>by
  rw[aU,aU,ao];rfl
 rw[ev];refine bC (v7 V s) λx h1 v aI=>?_;obtain⟨p1,q1⟩:=aI;have s1:=s.ext p1;refine bC (R:=λxs h' src=>h'=h1/\∃ws,aq (AU U) h1 xs ws/\src.items h1=some ws/\Xb h1 U src ws) (nL λxs ex=>?_) λxs h2 src ⟨e2,ws,q2,q3,st⟩=>?_
 ·obtain⟨src,ws,a1,a2,a3,a4⟩:=Us q1 ex;exact⟨src,a1,rfl,ws,a2,a3,a4⟩
 ·subst e2
  have WQ:∀(F:List Val->M Fl),bnd (ask λh=>src.items h) F h2=F ws h2:=λF=>by unfold bnd ask bD;dsimp only;rw[q3]
  rw[WQ];refine jS (yE (λay env' h' U' x v s' qx=>?_) st xs ws 0 aa env h2 U s1 (KU.refl s1 (aaw _)) rfl q2) λf h' g r=>r.seq (KU.refl s p1);refine bC (R:=λjM h2 iG=>∃U2,SL jM iG h2 U2/\KU h' U' h2 U2) (nL λjM e2=>?_) λjM h2 iG hh=>?_
  ·obtain⟨iG,U2,b1,b2,b3⟩:=s'.bind e2 qx;exact⟨iG,b1,U2,b2,b3⟩
  ·obtain⟨U2,b2,b3⟩:=hh;exact jS (hb jM iG h2 U2 b2) λf h'' g r=>r.seq b3
theorem Uu:yC Φ Ψ sp .nil:=λaa env h U s=>by rw[dj,bB];exact cR ⟨U,s,KU.refl s (aaw _)⟩
theorem P0(ha:Dh Φ Ψ sp a)(hr:yC Φ Ψ sp r):yC Φ Ψ sp (.cons a r):=λaa env h U s=>by
 rw[dj,bB];refine bC (ha aa env h U s) λf h1 g q=>?_;cases f<;>cases g<;>first|exact q.elim|skip
 ·obtain⟨U1,s1,f1⟩:=q;exact jS (hr _ _ h1 U1 s1) λf h' g r=>r.seq f1
 ·exact cR q
 ·exact cR q
 ·exact cR q
theorem tU(e:∀aa,bN Ψ sp s aa=.no):Dh Φ Ψ sp s:=λaa env h U _=>by rw[e];trivial
theorem Gm{i:Nat}:Dh Φ Ψ sp (.expr (.met .append (.var i) #[a])):=tU λaa=>by rw[bN];rfl
theorem P1(V:∀e,dm e=true->bM Φ Ψ e)(ho:dm e=true):Dh Φ Ψ sp (.expr e):=by
 cases hk:Uh e with
 |none=>exact tU λaa=>by rw[bN,hk]
 |some k=>
  cases Uj hk;cases k with
  |app i a=>exact Gm
  |apI i j a=>exact Di (V a (cE (cE ho).2).1)
  |ext i a=>exact Gj (V a (cE (cE ho).2).1)
  |rem i j a=>exact Gk (V j (cE (cE ho).1).2) (V a (cE (cE ho).2).1)
theorem Uv(hi:bM Φ Ψ i)(hv:bM Φ Ψ v):Dh Φ Ψ sp (.eW o i v):=tU λaa=>by rw[bN]
theorem L5(hΦ:∀j,Imp (Φ j) (Ψ j)):∀ss,p7 ss=true->yC Φ Ψ sp ss:=by
 have V:=(v_all hΦ).1;intro ss;refine di.rec (motive_1:=λs=>WO s=true->Dh Φ Ψ sp s) (motive_2:=λss=>p7 ss=true->yC Φ Ψ sp ss) ?_ ?_ ?_ ?_ ?_ ?_ ?_ ?_ ?_ ?_ ?_ ?_ ?_ ?_ ?_ ?_ ss
 ·intro e f;exact P1 V f
 ·intro p e f;exact Uo (V e f) λab hab=>by
   have ee:e=.lst #[ab.1,ab.2]:=by
    unfold new2 at hab;split at hab
    ·cases hab;rfl
    ·cases hab
   subst ee;have f:(dm ab.1&&(dm ab.2&&true))=true:=f;have f:=cE f;exact⟨V _ f.1,V _ (cE f.2).1⟩
 ·intro i o e f;exact tU λaa=>by rw[bN]
 ·intro o i v f;have f:=pZ f;exact Uv (V i f.1.2) (V v f.2)
 ·intro c a b ha hb f;have f:=pZ f;exact Uq (V c f.1.1) (ha f.1.2) (hb f.2)
 ·intro p k it b hb f
  have f:=cE f;cases it with
  |nil=>exact tU λaa=>by rw[bN.eq_def]<;>rfl
  |cons e es=>
   cases es with
   |nil=>exact Ut (V e (cE f.1).1) (hb f.2)
   |cons _ _=>exact tU λaa=>by rw[bN];intro _ z;cases z
 ·intro n c b _ f;exact tU λaa=>by rw[bN]
 ·intro e f;exact Ur (V e f)
 ·intro _;exact tU λaa=>by rw[bN]
 ·intro _ aa env h U s;rw[dX,bN];exact cR ⟨U,s,KU.refl s (aaw _)⟩
 ·intro _ aa env h U s;rw[dX,bN];exact cR ⟨U,s,KU.refl s (aaw _)⟩
 ·intro _ aa env h U s;rw[dX,bN];exact cR ⟨U,s,KU.refl s (aaw _)⟩
 ·intro _;exact tU λaa=>by rw[bN]
 ·intro _ _ _ _ _;exact tU λaa=>by rw[bN]
 ·intro _;exact Uu
 ·intro a r ha hr f;have f:=cE f;exact P0 (ha f.1) (hr f.2)
theorem aq.at:∀{ds vs:List Val} {i:Nat} {d:Val},aq A h ds vs->ds[i]?=some d->∃v,vs[i]?=some v/\Dn A h d v
 |[],vs,i,d,q,e=>by cases e
 | d::ds,vs,0,d',q,e=>by
  rw[aq]at q;obtain⟨v,r,rfl,q1,q2⟩:=q;cases e;exact⟨v,rfl,q1⟩
 | d::ds,vs,i+1,d',q,e=>by
  rw[aq]at q;obtain⟨v,r,rfl,q1,q2⟩:=q;exact aq.at (i:=i) q2 e
theorem L6{n:Nat}(q:aq A h ds vs):SL (ds.map (λd=>some (.sh,d))++replicate (n-ds.length) none) (vs.map some++replicate (n-vs.length) none) h (λ_ _=>False):=by
 have l:=q.length;have here:∀(i:Nat) (m:Mk) (d:Val),(ds.map (λd=>some (Mk.sh,d))++replicate (n-ds.length) none)[i]?=some (some (m,d))->m=.sh/\ds[i]?=some d:=λi m d e=>by
  by_cases hi:i<ds.length
  ·rw[aat (by simpa using hi),aaD,aay hi]at e;cases e;exact⟨rfl,aay hi⟩
  ·rw[aaO (by simpa using hi)]at e;cases (mem_replicate.mp (aaE e)).2
 refine⟨by simp[l],λi d e=>?_,λi d e=>?_,λi d e=>?_,λ_ _ z=>z.elim,λ_ _ _ z=>z.elim⟩
 ·obtain⟨_,e⟩:=here i _ d e;obtain⟨v,e2,q2⟩:=q.at e;refine⟨v,?_,q2.fc λo _=>by cases o<;>first|trivial|exact λ_ z=>z⟩;have hi:=(aae.mp e2).1;rw[aat (by simpa using hi),aaD,e2];rfl
 ·cases (here i _ d e).1
 ·cases (here i _ d e).1
theorem Dj{n:Nat}(hΦ:∀j,Imp (Φ j) (Ψ j))(ho:p7 body=true){ns:List Int}{f:Bool}(e:Df Ψ n body [.rl (ns.map .int)]=.ok (f,.bl true)):∃h',fT Φ n body [.rl (ns.map .int)] []=.ok (.bl true) h':=by
 have s:SL ([(Val.rl (ns.map .int))].map (λd=>some (.sh,d))++replicate (n-1) none) ([(Val.rl (ns.map .int))].map some++replicate (n-1) none) [] (λ_ _=>False):=L6 (A:=λ_=>True) (h:=[]) (n:=n) (ds:=[.rl (ns.map .int)]) (vs:=[.rl (ns.map .int)]) (aq.cons (by rw[Dn];exact .inl ⟨_,rfl,trivial,(aQ _ _ (aX ns)).mpr rfl⟩) aq.nil);have r:=L5 (sp:=iK body) hΦ body ho _ _ [] _ s;unfold Df at e;show ∃h',bnd (dj Φ body ([(Val.rl (ns.map .int))].map some++replicate (n-1) none)) _ []=_;change pb (bB Ψ (iK body) body ([(Val.rl (ns.map .int))].map (λd=>some (.sh,d))++replicate (n-1) none)) _=_ at e;cases e1:bB Ψ (iK body) body ([(Val.rl (ns.map .int))].map (λd=>some (.sh,d))++replicate (n-1) none) with
 |ok fl=>
  rw[e1]at e r;obtain⟨g,h',eg,q⟩:=r;unfold bnd;rw[eg];cases fl with
  |rt p=>
   cases g<;>first|exact q.elim|skip
   change Pr.ok p=_ at e;cases e;have q:Dn (λ_=>True) h' (.bl true) _:=q.1.1;rw[Dn]at q;subst q;exact⟨h',rfl⟩
  |nx _=>cases e
  |bk _=>cases e
  |ct _=>cases e
 |exc c es=>rw[e1]at e;cases e
 |no=>rw[e1]at e;cases e
def K7(Ψ:Nat->List Val->Pr FV)(n:Nat)(body:di)(ds:List Val):Pr FV:=match Df Ψ n body ds with
 |.ok x=>pg x.1 (.ok x)
 |_=>.no
theorem Gn(k:KU h (λ_ _=>False) h' U'):h<+:h':=by
 refine List.prefix_iff_eq_take.mpr (List.ext_getElem? λi=>?_);rw[List.getElem?_take]
 by_cases hi:i<h.length
 ·rw[aai hi];exact(k.keep i hi λ_ z=>z).1.symm
 ·rw[aal hi];exact List.getElem?_eq_none (by omega)
theorem K8{n:Nat}(hΦ:∀j,Imp (Φ j) (Ψ j))(ho:p7 body=true):Imp (fT Φ n body) (K7 Ψ n body):=λA h ds vs u q=>by
 have r:=L5 (sp:=iK body) hΦ body ho _ _ h _ (L6 (n:=n) q);have up:∀o,Fr h.length o->A o:=λo z=>by
  cases o with
  |none=>exact z.elim
  |some k=>exact u k z
 unfold K7 Df fT;cases e1:bB Ψ (iK body) body (ds.map (λd=>some (.sh,d))++replicate (n-ds.length) none) with
 |ok fl=>
  rw[e1]at r;obtain⟨g,h',eg,q⟩:=r;unfold bnd;rw[eg];cases fl with
  |rt p=>
   cases g<;>first|exact q.elim|skip
   obtain⟨⟨_,b⟩,U',k⟩:=q;show Rel A h _ _ (pg p.1 (.ok p));cases hp:p.1 with
   |true=>exact⟨_,h',rfl,Gn k,(b hp).fc up,λ_=>b hp⟩
   |false=>trivial
  |nx _=>
   cases g<;>first|exact q.elim|skip
   obtain⟨U',_,k⟩:=q;exact⟨_,h',rfl,Gn k,by show Dn _ _ Val.non _;rw[Dn],λ_=>by show Dn _ _ Val.non _;rw[Dn]⟩
  |bk _=>trivial
  |ct _=>trivial
 |exc c es=>trivial
 |no=>trivial
end
end Hv
end
section
namespace K35
open PySem L2 Hv
abbrev Gp:List PySem.Str:=["_law_script","_law_k"]
abbrev P4:List PySem.Str:=["_law_one","_law_two","_law_k","_law_step","_law_shift"]
abbrev P5:List PySem.Str:=["_law_script","_law_cells","_law_one","_law_two","_law_pick","_law_many","_law_places","_law_ties","_law_k","_law_cell_here","_law_here","_law_there","_law_poles"]
abbrev P6:List PySem.Str:=["_law_net_here","_law_ends_here","_law_name","_law_one","_law_other"]
abbrev P7:List PySem.Str:=["_law_ends_here","_law_row_here","_law_part","_law_many","_law_name","_law_one","_law_other","_law_place"]
abbrev P8:List PySem.Str:=["_law_kind","_law_ends_here","_law_row_here","_law_rest"]
abbrev Uw:List PySem.Str:=["_law_kind","_law_ends_here","_law_row_here"]
abbrev P9:List PySem.Str:=["_law_kind","_law_ends_here","_law_names","_law_found","_law_name"]
abbrev Ux:List PySem.Str:=["_law_kind","_law_ends_here","_law_names"]
abbrev Qa:List PySem.Str:=["_law_kind","_law_ends_here","_law_row_here","_law_other","_law_many"]
abbrev L7:List PySem.Str:=["_law_kind","_law_ends_here","_law_row_here","_law_other"]
abbrev Gq:List PySem.Str:=["_law_kind","_law_ends_here","_law_ones","_law_others","_law_cell_here","_law_rows","_law_step","_law_loose_here","_law_k","_law_gone"]
abbrev L8:List PySem.Str:=["_law_kind","_law_ends_here","_law_ones","_law_others","_law_cell_here"]
abbrev Gs:List PySem.Str:=["poles","ties","named","name","one","other"]
abbrev Gu:List PySem.Str:=["net","places","tie"]
abbrev nM:List PySem.Str:=["self","net","name","one","other"]
abbrev lB:List PySem.Str:=["self","net"]
abbrev Gv:List PySem.Str:=["places","pairs","firsts","place","one","other","kept","gone"]
abbrev Gx:List PySem.Str:=["self","row","firsts"]
abbrev gU:List PySem.Str:=["self","row"]
abbrev yF:List PySem.Str:=["_law_kind","_law_net_here"]
abbrev Gy:List PySem.Str:=["self","row","rest"]
abbrev Gz:List PySem.Str:=["self","row","rank"]
abbrev GA:List PySem.Str:=["rule","row","other","reached"]
abbrev GB:List PySem.Str:=["rule","ones","others","left","right","many"]
abbrev GC:List PySem.Str:=["_law_names","_law_cell_here","_law_row_here","_law_name"]
abbrev yG:List PySem.Str:=["_law_found"]
abbrev Ma:List PySem.Str:=["_law_script","_law_size","_law_net_here","_law_ends_here","_law_kind","_law_names","_law_turn","_law_ones","_law_others","_law_due","_law_rule_here","_law_handed","_law_found"]
def top(i:Nat):Stmt:=PySem.Challenge.pw_linkorcut_k35_thinned_in_any_order.main.body.getD i (.Pass ⟨0,0,0,0⟩)
def cons:List (Str×Val):=[("THOUGHT",(.int (-1)))]
def tb:Tb:=⟨3,["net","places","ends","whole"],[(0,"tree_rank",16),(1,"tree_rank",16),(2,"tree_rank",16),(0,"ties",18),(1,"ties",18),(2,"ties",18),(0,"rank",21),(1,"rank",22),(2,"rank",23),(0,"reach",24),(1,"reach",24),(2,"reach",24)],[("Rule","__init__",14)],[]⟩
def fQ(i:Nat):Stmt:=match top 9 with|.ClassDef (body:=b) ..=>b.getD i (.Pass ⟨0,0,0,0⟩)|_=>.Pass ⟨0,0,0,0⟩
def BX(i:Nat):Stmt:=match top 10 with|.ClassDef (body:=b) ..=>b.getD i (.Pass ⟨0,0,0,0⟩)|_=>.Pass ⟨0,0,0,0⟩
def pL(i:Nat):Stmt:=match top 11 with|.ClassDef (body:=b) ..=>b.getD i (.Pass ⟨0,0,0,0⟩)|_=>.Pass ⟨0,0,0,0⟩
def jT:di:=#[.iff (.cmp .lt (!1) (.blt .len #[!0])) #[.ret (.idx (!0) (!1))] .nil,.ret (¬0)]
def gC:di:=#[.asg (.one 3) (¬1),.asg (.one 4) (¬0),.iff (.cmp .gt (.bin .mod (!0) (¬3)) (¬0)) #[.asg (.one 3) (.bin .add (¬1) (.bin .mod (.bin .fdiv (!0) (¬3)) (.bin .pow (¬10) (¬56)))),.asg (.one 4) (.bin .mod (.bin .fdiv (!1) (¬66)) (.bin .pow (¬10) (¬58)))] .nil,.ret (.bin .add (.bin .mul (!3) (.bin .mod (.bin .add (.bin .mul (.bin .add (¬1) (.bin .mod (!1) (¬66))) (!2)) (!0)) (¬67))) (!4))]
def lC:di:=#[.asg (.one 2) (.call 0 #[!0,¬0]),.asg (.one 3) (.call 0 #[!0,¬1]),.asg (.one 4) (.call 0 #[!0,¬2]),.asg (.one 5) (.bin .add (¬2) (.bin .mod (!4) (¬7))),.asg (.one 6) (.comp ["_law_k","_law_two","_law_one"] [none,some 3,some 2] (.one 0) .range #[!5] .no (.call 1 #[!1,!2,!0])),.asg (.one 7) (.lst .nil),.for (.tup [8,9]) .enum #[!1] #[.asg (.one 10) (.idx (!6) (.bin .mod (!9) (!5))),.asg (.one 11) (.idx (!6) (.bin .mod (.bin .fdiv (!9) (!5)) (!5))),.expr (.met .append (!7) #[.tup #[.call 1 #[!2,!3,!8],.blt .min #[!10,!11],.blt .max #[!10,!11]]])],.asg (.one 12) (.blt .sorted #[.lst #[.idx (!6) (¬0),.idx (!6) (.bin .sub (¬1) (.blt .int #[.cmp .eq (.bin .mod (.bin .fdiv (!4) (¬7)) (¬8)) (¬3)]))]]),.ret (.tup #[.tup #[.idx (!12) (¬0),.idx (!12) (¬1)],.blt .sorted #[!7]])]
def jU:di:=#[.asg (.one 1) (.dct1 (.neg (¬1)) (.idx (!0) (¬0))),.for (.tup [2,3,4]) .seq #[.idx (!0) (¬1)] #[.eW (!1) (!2) (.tup #[!3,!4])],.ret (!1)]
def gD:di:=#[.asg (.one 2) .dct0,.asg (.one 3) (¬0),.for (.one 4) .seq #[!1] #[.asg (.one 5) (.dget (!2) (.idx (.idx (!0) (!4)) (¬0)) (.idx (.idx (!0) (!4)) (¬0))),.asg (.one 6) (.dget (!2) (.idx (.idx (!0) (!4)) (¬1)) (.idx (.idx (!0) (!4)) (¬1))),.iff (.cmp .ne (!5) (!6)) #[.aug 3 .add (¬1),.eW (!2) (.idx (.idx (!0) (!4)) (¬0)) (!5),.eW (!2) (.idx (.idx (!0) (!4)) (¬1)) (!6),.for (.one 7) .seq #[.lkeys (!2)] #[.iff (.cmp .eq (.idx (!2) (!7)) (!6)) #[.eW (!2) (!7) (!5)] .nil]] .nil],.ret (!3)]
def gi:di:=#[.iff (.cmp .eq (!0) (¬0)) #[.ret (.blt .len #[!2])] .nil,.iff (.cmp .eq (!0) (¬1)) #[.ret (.call 4 #[!1,!2])] .nil,.asg (.one 3) (.dflt ["_law_name","_law_row_here"] [none,some 2] 0 1 (!1) (!2)),.ret (.bin .add (.bin .sub (.blt .len #[!2]) (.call 4 #[!1,.lkeys (!1)])) (.call 4 #[!1,!3]))]
def dM:di:=#[.asg (.one 3) (.lst .nil),.for (.one 4) .seq #[!2] #[.iff (.cmp .eq (.call 5 #[!0,!1,.bin .add (!3) (.lst #[!4])]) (.bin .add (.blt .len #[!3]) (¬1))) #[.expr (.met .append (!3) #[!4])] .nil],.ret (!3)]
def iL:di:=#[.asg (.one 4) (.call 5 #[!0,!1,!3]),.ret (.comp ["_law_name","_law_many","_law_kind","_law_ends_here","_law_other"] [none,some 4,some 0,some 1,some 3] (.one 0) .seq #[!2] (.cmp .gt (.call 5 #[!2,!3,.bin .add (!4) (.lst #[!0])]) (!1)) (!0))]
def cI:di:=#[.asg (.one 5) (.lst #[.blt .list #[!2],.blt .list #[!3]]),.for (.one 6) .range #[¬30] #[.asg (.one 7) (.lst .nil),.for (.one 8) .range #[¬2] #[.expr (.met .extend (!7) #[.comp ["_law_name","_law_k"] [none,some 8] (.one 0) .seq #[.call 7 #[!0,!1,.idx (!5) (!8),.idx (!5) (.bin .sub (¬1) (!8))]] .no (.tup #[!1,!0])])],.iff (.cmp .eq (.blt .len #[!7]) (¬0)) #[.brk] .nil,.asg (.one 9) (.idx (!7) (.bin .mod (.bin .add (!4) (.bin .mul (.bin .mul (¬7) (!6)) (!6))) (.blt .len #[!7]))),.expr (.met .remove (.idx (!5) (.idx (!9) (¬0))) #[.idx (!9) (¬1)])],.ret (.tup #[.blt .sorted #[.idx (!5) (¬0)],.blt .sorted #[.idx (!5) (¬1)]])]
def cF:di:=#[.asg (.one 2) (.lst .nil),.for (.tup [3,4,5]) .seq #[!1] #[.expr (.met .append (!2) #[.tup #[!3,.blt .min #[!4,!5],.blt .max #[!4,!5]]])],.ret (.tup #[.tup #[.blt .min #[.idx (!0) (¬0),.idx (!0) (¬1)],.blt .max #[.idx (!0) (¬0),.idx (!0) (¬1)]],.blt .sorted #[!2]])]
def iM:di:=#[.ret (.call 9 #[.idx (!0) (¬0),.idx (!0) (¬1)])]
def fF:di:=#[.asg (.one 1) (.blt .list #[.idx (!0) (¬0)]),.for (.one 2) .seq #[.idx (!0) (¬1)] #[.expr (.met .extend (!1) #[.slc (!2) (¬1) .no])],.ret (.sset (!1))]
def v8:di:=#[.setF 3 (!0) "net" (.call 10 #[!1]),.setF 3 (!0) "places" (.call 11 #[.fld 3 (!0) "net"]),.setF 3 (!0) "ends" (.dct1 (.con "THOUGHT" (.int (-1))) (.idx (.fld 3 (!0) "net") (¬0))),.for (.tup [2,3,4]) .seq #[.idx (.fld 3 (!0) "net") (¬1)] #[.eW (.fld 3 (!0) "ends") (!2) (.tup #[!3,!4])]]
def mW:di:=#[.setF 3 (!0) "net" (.call 10 #[!1]),.setF 3 (!0) "places" (.call 11 #[.fld 3 (!0) "net"]),.setF 3 (!0) "ends" (.dct1 (.con "THOUGHT" (.int (-1))) (.idx (.fld 3 (!0) "net") (¬0))),.for (.tup [2,3,4]) .seq #[.idx (.fld 3 (!0) "net") (¬1)] #[.eW (.fld 3 (!0) "ends") (!2) (.tup #[!3,!4])]]
def gj:di:=#[.setF 3 (!0) "net" (.call 10 #[!1]),.setF 3 (!0) "places" (.call 11 #[.fld 3 (!0) "net"]),.setF 3 (!0) "ends" (.dct1 (.con "THOUGHT" (.int (-1))) (.idx (.fld 3 (!0) "net") (¬0))),.for (.tup [2,3,4]) .seq #[.idx (.fld 3 (!0) "net") (¬1)] #[.eW (.fld 3 (!0) "ends") (!2) (.tup #[!3,!4])]]
def fG:di:=#[.asg (.one 2) .dct0,.for (.one 3) .seq #[!0] #[.eW (!2) (!3) (!3)],.for (.tup [4,5]) .seq #[!1] #[.asg (.one 6) (.blt .min #[.idx (!2) (!4),.idx (!2) (!5)]),.asg (.one 7) (.blt .max #[.idx (!2) (!4),.idx (!2) (!5)]),.for (.one 3) .seq #[!0] #[.iff (.cmp .eq (.idx (!2) (!3)) (!7)) #[.eW (!2) (!3) (!6)] .nil]],.ret (!2)]
def b7:di:=#[.asg (.one 2) (.call 15 #[.fld 3 (!0) "places",.comp ["tie","self"] [none,some 0] (.one 0) .seq #[!1] .no (.idx (.fld 3 (!1) "ends") (!0))]),.ret (.blt .len #[.comp ["place","firsts"] [none,some 2] (.one 0) .seq #[.fld 3 (!0) "places"] (.cmp .ne (.idx (!1) (!0)) (!0)) (!0)])]
def gF:di:=#[.ret (.comp ["tie"] [none] (.one 0) .seq #[.idx (!0) (¬1)] .no (.idx (!0) (¬0)))]
def fH:di:=#[.ret (.bin .add (.lst #[.con "THOUGHT" (.int (-1))]) (.call 17 #[.fld 3 (!0) "net"]))]
def o4:di:=#[.expr (.call 14 #[!0,!1]),.setF 3 (!0) "whole" (.mth (!0) "tree_rank" [(0,16),(1,16),(2,16)] #[.mth (!0) "ties" [(0,18),(1,18),(2,18)] .nil])]
def gk:di:=#[.iff (.cmp .eq (!0) (¬1)) #[.ret (.call 13 #[!1])] .nil,.iff (.cmp .eq (!0) (¬2)) #[.ret (.call 19 #[!1])] .nil,.ret (.call 12 #[!1])]
def fJ:di:=#[.ret (.blt .len #[!1])]
def cG:di:=#[.ret (.mth (!0) "tree_rank" [(0,16),(1,16),(2,16)] #[!1])]
def cS:di:=#[.asg (.one 2) (.comp ["tie","row"] [none,some 1] (.one 0) .seq #[.mth (!0) "ties" [(0,18),(1,18),(2,18)] .nil] (.cmp .nin (!0) (!1)) (!0)),.ret (.bin .add (.bin .sub (.blt .len #[!1]) (.fld 3 (!0) "whole")) (.mth (!0) "tree_rank" [(0,16),(1,16),(2,16)] #[!2]))]
def dN:di:=#[.asg (.one 2) (.mth (!0) "rank" [(0,21),(1,22),(2,23)] #[!1]),.ret (.comp ["tie","row","rank","self"] [none,some 1,some 2,some 0] (.one 0) .seq #[.mth (!0) "ties" [(0,18),(1,18),(2,18)] .nil] (.or (.cmp .ze (!0) (!1)) (.cmp .le (.mth (!3) "rank" [(0,21),(1,22),(2,23)] #[.bin .add (!1) (.lst #[!0])]) (!2))) (!0))]
def dP:di:=#[.asg (.one 3) (.mth (!0) "reach" [(0,24),(1,24),(2,24)] #[!2]),.ret (.comp ["name","reached"] [none,some 3] (.one 0) .seq #[!1] (.cmp .ze (!0) (!1)) (!0))]
def gm:di:=#[.asg (.one 3) (.blt .sorted #[!1]),.asg (.one 4) (.blt .sorted #[!2]),.asg (.one 5) (.cst .non),.whl 100000 (.cmp .ne (!5) (.bin .add (.blt .len #[!3]) (.blt .len #[!4]))) #[.asg (.one 5) (.bin .add (.blt .len #[!3]) (.blt .len #[!4])),.asg (.one 3) (.call 25 #[!0,!3,!4]),.asg (.one 4) (.call 25 #[!0,!4,!3])],.ret (.tup #[!3,!4])]
def lD:di:=#[.asg (.one 2) (.lst .nil),.for (.one 3) .seq #[!0] #[.iff (.cmp .eq (.bin .mod (!1) (¬2)) (¬1)) #[.expr (.met .append (!2) #[!3])] .nil,.asg (.one 1) (.bin .fdiv (!1) (¬2))],.ret (!2)]
def dQ:di:=#[.iff (.or (.not (.blt (.isin "list") #[!0])) (.cmp .ne (!0) (.blt .sorted #[!0]))) #[.ret (.cst (.bl false))] .nil,.ret (.blt .all #[.comp ["_law_one"] [none] (.one 0) .seq #[!0] .no (.and (.blt (.isin "int") #[!0]) (.not (.blt (.isin "bool") #[!0])))])]
def lE:di:=#[.asg (.one 1) (.bin .fdiv (.call 0 #[!0,¬2]) (¬56)),.asg (.one 2) (.call 2 #[!0,.slc (!0) (¬3) (.bin .add (¬3) (.bin .mod (!1) (¬15)))]),.asg (.one 3) (.call 3 #[!2]),.asg (.one 4) (.bin .add (¬1) (.bin .mod (.bin .fdiv (!1) (¬15)) (¬2))),.asg (.one 5) (.skeys (!3)),.asg (.one 6) (.bin .mod (.call 0 #[!0,¬18]) (.blt .len #[!5])),.asg (.one 5) (.bin .add (.slc (!5) (!6) .no) (.slc (!5) .no (!6))),.asg (.one 7) (.call 6 #[!4,!3,.call 27 #[!5,.call 0 #[!0,¬17]]]),.asg (.one 8) (.call 6 #[!4,!3,.comp ["_law_name","_law_ones"] [none,some 7] (.one 0) .seq #[.rev (!5) (.neg (¬1))] (.cmp .nin (!0) (!1)) (!0)]),.asg (.one 9) (.call 8 #[!4,!3,!7,!8,.call 0 #[!0,¬19]]),.asg (.one 10) (.call 20 #[!4,!2]),.iff (.cmp .ne (.call 26 #[.call 12 #[!2],.blt .list #[!7],.blt .list #[!8]]) (.tup #[.lst .nil,.lst .nil])) #[.ret (.cst (.bl false))] .nil,.asg (.one 11) (.lst #[.blt .list #[!7],.blt .list #[!8]]),.asg (.one 12) (.call 26 #[!10,.idx (!11) (¬0),.idx (!11) (¬1)]),.iff (.or (.not (.blt (.isin "tuple") #[!12])) (.or (.cmp .ne (.blt .len #[!12]) (¬2)) (.cmp .ne (!11) (.lst #[!7,!8])))) #[.ret (.cst (.bl false))] .nil,.iff (.or (.not (.call 28 #[.idx (!12) (¬0)])) (.or (.not (.call 28 #[.idx (!12) (¬1)])) (.cmp .ne (!12) (!9)))) #[.ret (.cst (.bl false))] .nil,.expr (.met .append (.idx (!12) (¬0)) #[¬0]),.expr (.met .append (.idx (!12) (¬1)) #[¬0]),.ret (.and (.cmp .eq (.call 26 #[!10,.idx (!11) (¬0),.idx (!11) (¬1)]) (!9)) (.cmp .eq (!11) (.lst #[!7,!8])))]
def Uy:List Row:=[]
def yH:List Val->M Val:=fT (look Uy) 2 jT
def Uz:List Row:=Uy++[(("_law_cell":Str),2,yH)]
def sj:List Val->M Val:=fT (look Uz) 5 gC
def UA:List Row:=Uz++[(("_law_number":Str),3,sj)]
def BY:List Val->M Val:=fT (look UA) 13 lC
def UB:List Row:=UA++[(("_law_net":Str),2,BY)]
def yI:List Val->M Val:=fT (look UB) 5 jU
def UC:List Row:=UB++[(("_law_ends":Str),1,yI)]
def su:List Val->M Val:=fT (look UC) 8 gD
def UD:List Row:=UC++[(("_law_joined":Str),2,su)]
def yJ:List Val->M Val:=fT (look UD) 4 gi
def UE:List Row:=UD++[(("_law_rank":Str),3,yJ)]
def nN:List Val->M Val:=fT (look UE) 5 dM
def UG:List Row:=UE++[(("_law_free_row":Str),3,nN)]
def uW:List Val->M Val:=fT (look UG) 5 iL
def UH:List Row:=UG++[(("_law_loose":Str),4,uW)]
def yK:List Val->M Val:=fT (look UH) 10 cI
def UI:List Row:=UH++[(("_law_left":Str),5,yK)]
def lF:List Val->M Val:=fT (look UI) 6 cF
def GD:List Row:=UI++[(("put_in_order":Str),2,lF)]
def uX:List Val->M Val:=fT (look GD) 1 iM
def GF:List Row:=GD++[(("own_net":Str),1,uX)]
def pM:List Val->M Val:=fT (look GF) 3 fF
def GG:List Row:=GF++[(("places_of":Str),1,pM)]
def GH:List Val->M Val:=Dz 0 (fT (look GG) 5 v8)
def GI:List Row:=GG++[(("Rule":Str),1,GH)]
def uY:List Val->M Val:=Dz 1 (fT (look GI) 5 mW)
def GJ:List Row:=GI++[(("ByTrees":Str),1,uY)]
def kD:List Val->M Val:=fT (look GJ) 5 gj
def GK:List Row:=GJ++[(("Rule.__init__":Str),1002,kD)]
def pN:List Val->M Val:=fT (look GK) 8 fG
def GL:List Row:=GK++[(("firsts_by":Str),2,pN)]
def jV:List Val->M Val:=fT (look GL) 3 b7
def GN:List Row:=GL++[(("Rule.tree_rank":Str),1002,jV)]
def sy:List Val->M Val:=fT (look GN) 1 gF
def GO:List Row:=GN++[(("names_of":Str),1,sy)]
def pO:List Val->M Val:=fT (look GO) 1 fH
def GP:List Row:=GO++[(("Rule.ties":Str),1001,pO)]
def yL:List Val->M Val:=Dz 2 (fT (look GP) 2 o4)
def GQ:List Row:=GP++[(("ByRest":Str),1,yL)]
def yM:List Val->M Val:=fT (look GQ) 2 gk
def GR:List Row:=GQ++[(("_law_rule":Str),2,yM)]
def pP:List Val->M Val:=fT (look GR) 2 fJ
def GS:List Row:=GR++[(("Rule.rank":Str),1002,pP)]
def lG:List Val->M Val:=fT (look GS) 2 cG
def GU:List Row:=GS++[(("ByTrees.rank":Str),1002,lG)]
def mE:List Val->M Val:=fT (look GU) 3 cS
def GV:List Row:=GU++[(("ByRest.rank":Str),1002,mE)]
def nO:List Val->M Val:=fT (look GV) 3 dN
def GW:List Row:=GV++[(("Rule.reach":Str),1002,nO)]
def nP:List Val->M Val:=fT (look GW) 4 dP
def GX:List Row:=GW++[(("reached_by":Str),3,nP)]
def uZ:List Val->M Val:=fT (look GX) 6 gm
def GY:List Row:=GX++[(("thinned":Str),3,uZ)]
def BZ:List Val->M Val:=fT (look GY) 4 lD
def GZ:List Row:=GY++[(("_law_row":Str),2,BZ)]
def nQ:List Val->M Val:=fT (look GZ) 1 dQ
def K9:List Row:=GZ++[(("_law_told_row":Str),1,nQ)]
def Hf:List Val->M Val:=fT (look K9) 13 lE
def Xc:List bu:=[]
def cz:bu:=fP (ai Xc) 2 jT
def Xd:List bu:=Xc++[cz]
def iN:bu:=fP (ai Xd) 5 gC
def UJ:List bu:=Xd++[iN]
def nR:bu:=fP (ai UJ) 13 lC
def Xe:List bu:=UJ++[nR]
def lH:bu:=fP (ai Xe) 5 jU
def Xf:List bu:=Xe++[lH]
def gn:bu:=fP (ai Xf) 8 gD
def Vh:List bu:=Xf++[gn]
def gG:bu:=fP (ai Vh) 4 gi
def Vi:List bu:=Vh++[gG]
def fK:bu:=fP (ai Vi) 5 dM
def Vj:List bu:=Vi++[fK]
def iy:bu:=fP (ai Vj) 5 iL
def mX:List bu:=Vj++[iy]
def lJ:bu:=K7 (ai mX) 10 cI
def Xg:List bu:=mX++[lJ]
def cT:bu:=fP (ai Xg) 6 cF
def La:List bu:=Xg++[cT]
def cJ:bu:=fP (ai La) 1 iM
def Qc:List bu:=La++[cJ]
def b9:bu:=fP (ai Qc) 3 fF
def Hg:List bu:=Qc++[b9]
def o5:bu:=ly (ai Hg) 0 10 11
def Hh:List bu:=Hg++[o5]
def lW:bu:=ly (ai Hh) 1 10 11
def Hi:List bu:=Hh++[lW]
def kE:bu:=λ_=>.no
def Qd:List bu:=Hi++[kE]
def eF:bu:=fP (ai Qd) 8 fG
def Lb:List bu:=Qd++[eF]
def aZ:bu:=fP (ai Lb) 3 b7
def Qe:List bu:=Lb++[aZ]
def iO:bu:=fP (ai Qe) 1 gF
def Lc:List bu:=Qe++[iO]
def cA:bu:=fP (ai Lc) 1 fH
def Hj:List bu:=Lc++[cA]
def nS:bu:=uU (ai Hi) (ai Hj) 2 10 11 18 16
def Dk:List bu:=Hj++[nS]
def iP:bu:=fP (ai Dk) 2 gk
def Qf:List bu:=Dk++[iP]
def gH:bu:=fP (ai Qf) 2 fJ
def Ld:List bu:=Qf++[gH]
def cU:bu:=fP (ai Ld) 2 cG
def Hl:List bu:=Ld++[cU]
def cK:bu:=fP (ai Hl) 3 cS
def v9:List bu:=Hl++[cK]
def fL:bu:=fP (ai v9) 3 dN
def Le:List bu:=v9++[fL]
def fM:bu:=fP (ai Le) 4 dP
def gI:List bu:=Le++[fM]
def jW:bu:=fP (ai gI) 6 gm
def Qg:List bu:=gI++[jW]
def nT:bu:=fP (ai Qg) 4 lD
def Qh:List bu:=Qg++[nT]
def fN:bu:=fP (ai Qh) 1 dQ
def jX:List bu:=Qh++[fN]
def Mb:bu:=Df (ai jX) 13 lE
theorem qa:ai UJ 0=cz:=rfl
theorem je:ai UJ 1=iN:=rfl
theorem iQ:ai Vh 4=gn:=rfl
theorem gJ:ai Vi 5=gG:=rfl
theorem jf:ai Vj 5=gG:=rfl
theorem nU:ai mX 7=iy:=rfl
theorem jY:ai La 9=cT:=rfl
theorem kF:ai Hg 10=cJ:=rfl
theorem jg:ai Hg 11=b9:=rfl
theorem mY:ai Hh 10=cJ:=rfl
theorem lK:ai Hh 11=b9:=rfl
theorem jB:ai Hi 10=cJ:=rfl
theorem iR:ai Hi 11=b9:=rfl
theorem ic:ai Lb 15=eF:=rfl
theorem kM:ai Lc 17=iO:=rfl
theorem jC:ai Hj 16=aZ:=rfl
theorem mh:ai Hj 18=cA:=rfl
theorem sD:ai Dk 12=o5:=rfl
theorem nV:ai Dk 13=lW:=rfl
theorem o6:ai Dk 19=nS:=rfl
theorem gp:ai Ld 16=aZ:=rfl
theorem gK:ai Hl 16=aZ:=rfl
theorem jD:ai Hl 18=cA:=rfl
theorem jZ:ai v9 18=cA:=rfl
theorem eG:ai v9 21=gH:=rfl
theorem cV:ai v9 22=cU:=rfl
theorem dh:ai v9 23=cK:=rfl
theorem jE:ai Le 24=fL:=rfl
theorem fV:ai gI 25=fM:=rfl
theorem gu:ai jX 0=cz:=rfl
theorem wc:ai jX 2=nR:=rfl
theorem tW:ai jX 3=lH:=rfl
theorem jh:ai jX 6=fK:=rfl
theorem tX:ai jX 8=lJ:=rfl
theorem yN:ai jX 12=o5:=rfl
theorem tY:ai jX 20=iP:=rfl
theorem iS:ai jX 26=jW:=rfl
theorem we:ai jX 27=nT:=rfl
theorem nW:ai jX 28=fN:=rfl
theorem i0:cX Uy Xc:=FN
theorem Ho:Imp yH cz:=bO (aB i0) (by decide +kernel)
theorem i1:cX Uz Xd:=aC i0 Ho
theorem Ao:Imp sj iN:=bO (aB i1) (by decide +kernel)
theorem i2:cX UA UJ:=aC i1 Ao
theorem Lf:Imp BY nR:=bO (aB i2) (by decide +kernel)
theorem i3:cX UB Xe:=aC i2 Lf
theorem Hq:Imp yI lH:=bO (aB i3) (by decide +kernel)
theorem i4:cX UC Xf:=aC i3 Hq
theorem Aq:Imp su gn:=bO (aB i4) (by decide +kernel)
theorem i5:cX UD Vh:=aC i4 Aq
theorem Hr:Imp yJ gG:=bO (aB i5) (by decide +kernel)
theorem i6:cX UE Vi:=aC i5 Hr
theorem wg:Imp nN fK:=bO (aB i6) (by decide +kernel)
theorem i7:cX UG Vj:=aC i6 wg
theorem Dl:Imp uW iy:=bO (aB i7) (by decide +kernel)
theorem i8:cX UH mX:=aC i7 Dl
theorem Ht:Imp yK lJ:=K8 (aB i8) (by decide +kernel)
theorem i9:cX UI Xg:=aC i8 Ht
theorem sE:Imp lF cT:=bO (aB i9) (by decide +kernel)
theorem Yo:cX GD La:=aC i9 sE
theorem Dm:Imp uX cJ:=bO (aB Yo) (by decide +kernel)
theorem Yp:cX GF Qc:=aC Yo Dm
theorem yO:Imp pM b9:=bO (aB Yp) (by decide +kernel)
theorem i12:cX GG Hg:=aC Yp yO
theorem Qi:Imp GH o5:=yy (n:=3) (by decide) (aB i12)
theorem Yq:cX GI Hh:=aC i12 Qi
theorem Dp:Imp uY lW:=yy (n:=3) (by decide) (aB Yq)
theorem Yr:cX GJ Hi:=aC Yq Dp
theorem qb:Imp kD kE:=Gb
theorem Ys:cX GK Qd:=aC Yr qb
theorem yP:Imp pN eF:=bO (aB Ys) (by decide +kernel)
theorem Yt:cX GL Lb:=aC Ys yP
theorem o7:Imp jV aZ:=bO (aB Yt) (by decide +kernel)
theorem Yu:cX GN Qe:=aC Yt o7
theorem Ar:Imp sy iO:=bO (aB Yu) (by decide +kernel)
theorem Yv:cX GO Lc:=aC Yu Ar
theorem yQ:Imp pO cA:=bO (aB Yv) (by decide +kernel)
theorem Yw:cX GP Hj:=aC Yv yQ
theorem Hu:Imp yL nS:=Gd (n:=3) (ji:=14) (by decide) (aB Yr) (aB Yw) rfl rfl rfl
theorem Yx:cX GQ Dk:=aC Yw Hu
theorem Hw:Imp yM iP:=bO (aB Yx) (by decide +kernel)
theorem Yy:cX GR Qf:=aC Yx Hw
theorem yR:Imp pP gH:=bO (aB Yy) (by decide +kernel)
theorem Yz:cX GS Ld:=aC Yy yR
theorem sG:Imp lG cU:=bO (aB Yz) (by decide +kernel)
theorem YA:cX GU Hl:=aC Yz sG
theorem tZ:Imp mE cK:=bO (aB YA) (by decide +kernel)
theorem YB:cX GV v9:=aC YA tZ
theorem wj:Imp nO fL:=bO (aB YB) (by decide +kernel)
theorem YC:cX GW Le:=aC YB wj
theorem wm:Imp nP fM:=bO (aB YC) (by decide +kernel)
theorem YD:cX GX gI:=aC YC wm
theorem Dq:Imp uZ jW:=bO (aB YD) (by decide +kernel)
theorem YE:cX GY Qg:=aC YD Dq
theorem Lg:Imp BZ nT:=bO (aB YE) (by decide +kernel)
theorem YF:cX GZ Qh:=aC YE Lg
theorem wo:Imp nQ fN:=bO (aB YF) (by decide +kernel)
theorem i29:cX K9 jX:=aC YF wo
theorem Lh{ns:List Int}{f:Bool}(e:Mb [.rl (ns.map .int)]=.ok (f,.bl true)):∃h',Hf [.rl (ns.map .int)] []=.ok (.bl true) h':=Dj (aB i29) (by decide +kernel) e
theorem c0:aN Gp Gp (af (top 16))=true:=by decide +kernel
theorem d0:bg ⟨Gp,af (top 16),Uy.map (λr=>(r.1,r.2.1)),cons,tb⟩ jT (aA (top 16))=true:=by decide +kernel
theorem c1:aN P4 ["_law_one","_law_two","_law_k"] (af (top 17))=true:=by decide +kernel
theorem d1:bg ⟨P4,af (top 17),Uz.map (λr=>(r.1,r.2.1)),cons,tb⟩ gC (aA (top 17))=true:=by decide +kernel
theorem c2:aN P5 ["_law_script","_law_cells"] (af (top 18))=true:=by decide +kernel
theorem d2:bg ⟨P5,af (top 18),UA.map (λr=>(r.1,r.2.1)),cons,tb⟩ lC (aA (top 18))=true:=by decide +kernel
theorem c3:aN P6 ["_law_net_here"] (af (top 19))=true:=by decide +kernel
theorem d3:bg ⟨P6,af (top 19),UB.map (λr=>(r.1,r.2.1)),cons,tb⟩ jU (aA (top 19))=true:=by decide +kernel
theorem c4:aN P7 ["_law_ends_here","_law_row_here"] (af (top 20))=true:=by decide +kernel
theorem d4:bg ⟨P7,af (top 20),UC.map (λr=>(r.1,r.2.1)),cons,tb⟩ gD (aA (top 20))=true:=by decide +kernel
theorem c5:aN P8 Uw (af (top 21))=true:=by decide +kernel
theorem d5:bg ⟨P8,af (top 21),UD.map (λr=>(r.1,r.2.1)),cons,tb⟩ gi (aA (top 21))=true:=by decide +kernel
theorem c6:aN P9 Ux (af (top 25))=true:=by decide +kernel
theorem d6:bg ⟨P9,af (top 25),UE.map (λr=>(r.1,r.2.1)),cons,tb⟩ dM (aA (top 25))=true:=by decide +kernel
theorem c7:aN Qa L7 (af (top 26))=true:=by decide +kernel
theorem d7:bg ⟨Qa,af (top 26),UG.map (λr=>(r.1,r.2.1)),cons,tb⟩ iL (aA (top 26))=true:=by decide +kernel
theorem c8:aN Gq L8 (af (top 27))=true:=by decide +kernel
theorem d8:bg ⟨Gq,af (top 27),UH.map (λr=>(r.1,r.2.1)),cons,tb⟩ cI (aA (top 27))=true:=by decide +kernel
theorem c9:aN Gs ["poles","ties"] (af (top 1))=true:=by decide +kernel
theorem d9:bg ⟨Gs,af (top 1),UI.map (λr=>(r.1,r.2.1)),cons,tb⟩ cF (aA (top 1))=true:=by decide +kernel
theorem IG:aN ["net"] ["net"] (af (top 2))=true:=by decide +kernel
theorem QX:bg ⟨["net"],af (top 2),GD.map (λr=>(r.1,r.2.1)),cons,tb⟩ iM (aA (top 2))=true:=by decide +kernel
theorem II:aN Gu ["net"] (af (top 3))=true:=by decide +kernel
theorem d11:bg ⟨Gu,af (top 3),GF.map (λr=>(r.1,r.2.1)),cons,tb⟩ fF (aA (top 3))=true:=by decide +kernel
theorem c12:aN nM lB (af (fQ 0))=true:=by decide +kernel
theorem d12:bg ⟨nM,af (fQ 0),GG.map (λr=>(r.1,r.2.1)),cons,tb⟩ v8 (aA (fQ 0))=true:=by decide +kernel
theorem c13:aN nM lB (af (fQ 0))=true:=by decide +kernel
theorem d13:bg ⟨nM,af (fQ 0),GI.map (λr=>(r.1,r.2.1)),cons,tb⟩ mW (aA (fQ 0))=true:=by decide +kernel
theorem c14:aN nM lB (af (fQ 0))=true:=by decide +kernel
theorem d14:bg ⟨nM,af (fQ 0),GJ.map (λr=>(r.1,r.2.1)),cons,tb⟩ gj (aA (fQ 0))=true:=by decide +kernel
theorem c15:aN Gv ["places","pairs"] (af (top 6))=true:=by decide +kernel
theorem d15:bg ⟨Gv,af (top 6),GK.map (λr=>(r.1,r.2.1)),cons,tb⟩ fG (aA (top 6))=true:=by decide +kernel
theorem c16:aN Gx gU (af (fQ 7))=true:=by decide +kernel
theorem d16:bg ⟨Gx,af (fQ 7),GL.map (λr=>(r.1,r.2.1)),cons,tb⟩ b7 (aA (fQ 7))=true:=by decide +kernel
theorem Vk:aN ["net"] ["net"] (af (top 4))=true:=by decide +kernel
theorem d17:bg ⟨["net"],af (top 4),GN.map (λr=>(r.1,r.2.1)),cons,tb⟩ gF (aA (top 4))=true:=by decide +kernel
theorem Vl:aN ["self"] ["self"] (af (fQ 3))=true:=by decide +kernel
theorem d18:bg ⟨["self"],af (fQ 3),GO.map (λr=>(r.1,r.2.1)),cons,tb⟩ fH (aA (fQ 3))=true:=by decide +kernel
theorem Vm:aN lB lB (af (pL 0))=true:=by decide +kernel
theorem d19:bg ⟨lB,af (pL 0),GP.map (λr=>(r.1,r.2.1)),cons,tb⟩ o4 (aA (pL 0))=true:=by decide +kernel
theorem c20:aN yF yF (af (top 22))=true:=by decide +kernel
theorem d20:bg ⟨yF,af (top 22),GQ.map (λr=>(r.1,r.2.1)),cons,tb⟩ gk (aA (top 22))=true:=by decide +kernel
theorem c21:aN gU gU (af (fQ 4))=true:=by decide +kernel
theorem d21:bg ⟨gU,af (fQ 4),GR.map (λr=>(r.1,r.2.1)),cons,tb⟩ fJ (aA (fQ 4))=true:=by decide +kernel
theorem c22:aN gU gU (af (BX 1))=true:=by decide +kernel
theorem d22:bg ⟨gU,af (BX 1),GS.map (λr=>(r.1,r.2.1)),cons,tb⟩ cG (aA (BX 1))=true:=by decide +kernel
theorem c23:aN Gy gU (af (pL 2))=true:=by decide +kernel
theorem d23:bg ⟨Gy,af (pL 2),GU.map (λr=>(r.1,r.2.1)),cons,tb⟩ cS (aA (pL 2))=true:=by decide +kernel
theorem c24:aN Gz gU (af (fQ 6))=true:=by decide +kernel
theorem d24:bg ⟨Gz,af (fQ 6),GV.map (λr=>(r.1,r.2.1)),cons,tb⟩ dN (aA (fQ 6))=true:=by decide +kernel
theorem c25:aN GA ["rule","row","other"] (af (top 14))=true:=by decide +kernel
theorem d25:bg ⟨GA,af (top 14),GW.map (λr=>(r.1,r.2.1)),cons,tb⟩ dP (aA (top 14))=true:=by decide +kernel
theorem c26:aN GB ["rule","ones","others"] (af (top 13))=true:=by decide +kernel
theorem d26:bg ⟨GB,af (top 13),GX.map (λr=>(r.1,r.2.1)),cons,tb⟩ gm (aA (top 13))=true:=by decide +kernel
theorem c27:aN GC ["_law_names","_law_cell_here"] (af (top 23))=true:=by decide +kernel
theorem d27:bg ⟨GC,af (top 23),GY.map (λr=>(r.1,r.2.1)),cons,tb⟩ lD (aA (top 23))=true:=by decide +kernel
theorem c28:aN yG yG (af (top 24))=true:=by decide +kernel
theorem d28:bg ⟨yG,af (top 24),GZ.map (λr=>(r.1,r.2.1)),cons,tb⟩ dQ (aA (top 24))=true:=by decide +kernel
theorem c29:aN Ma ["_law_script"] (af (top 28))=true:=by decide +kernel
theorem d29:bg ⟨Ma,af (top 28),K9.map (λr=>(r.1,r.2.1)),cons,tb⟩ lE (aA (top 28))=true:=by decide +kernel
section
variable {P:Program} {w:World} {K:Frag} {mg:Str->Option Value} {base:Heap}
theorem all_mk{l:PySem.W.OpenLaw}{h:Heap}{fa:Addr}(X:K.In h)(G:h.Ns mainGlobals mg)(Sg:mg "law" = some (.ref fa))(hφ:∀ns:List Int,ns.length<=63->∃h',Hf [.rl (ns.map .int)] []=.ok (.bl true) h'){D0:Addr}{D1:Addr}{D2:Addr}{E0:Addr}{a0:Addr}{a1:Addr}{a2:Addr}{a3:Addr}{a4:Addr}{a5:Addr}{a6:Addr}{a7:Addr}{a8:Addr}{a9:Addr}{YG:Addr}{YH:Addr}{Vn:Addr}{Vo:Addr}{Vp:Addr}{YI:Addr}{QZ:Addr}{YJ:Addr}{Q0:Addr}{Vq:Addr}{YK:Addr}{Vr:Addr}{Vs:Addr}{Vt:Addr}{Q2:Addr}{YL:Addr}{YM:Addr}{YN:Addr}{YO:Addr}{YQ:Addr}{tk0:Tok}
  (DA0:nsIn K mainGlobals "Rule" = some (some (.ref D0))) (DG0:plainGet K D0 Str.empty=true) (DH0:hasDictIn K D0=true) (DO0:plainOver K D0=true) (DS0:findIn K (.ref D0) "__setattr__" = some (some (.builtin "object.__setattr__"))) (DM0:makesIn K D0=true) (DK0:keepIn K (.ref D0)=true)
  (DN0_0:findIn K (.ref D0) "net" = some none)
  (DN0_1:findIn K (.ref D0) "places" = some none)
  (DN0_2:findIn K (.ref D0) "ends" = some none)
  (DN0_3:findIn K (.ref D0) "whole" = some none)
  (DA1:nsIn K mainGlobals "ByTrees" = some (some (.ref D1))) (DG1:plainGet K D1 Str.empty=true) (DH1:hasDictIn K D1=true) (DO1:plainOver K D1=true) (DS1:findIn K (.ref D1) "__setattr__" = some (some (.builtin "object.__setattr__"))) (DM1:makesIn K D1=true) (DK1:keepIn K (.ref D1)=true)
  (DN1_0:findIn K (.ref D1) "net" = some none)
  (DN1_1:findIn K (.ref D1) "places" = some none)
  (DN1_2:findIn K (.ref D1) "ends" = some none)
  (DN1_3:findIn K (.ref D1) "whole" = some none)
  (DA2:nsIn K mainGlobals "ByRest" = some (some (.ref D2))) (DG2:plainGet K D2 Str.empty=true) (DH2:hasDictIn K D2=true) (DO2:plainOver K D2=true) (DS2:findIn K (.ref D2) "__setattr__" = some (some (.builtin "object.__setattr__"))) (DM2:makesIn K D2=true) (DK2:keepIn K (.ref D2)=true)
  (DN2_0:findIn K (.ref D2) "net" = some none)
  (DN2_1:findIn K (.ref D2) "places" = some none)
  (DN2_2:findIn K (.ref D2) "ends" = some none)
  (DN2_3:findIn K (.ref D2) "whole" = some none)
  (EA0:nsIn K mainGlobals "Rule" = some (some (.ref E0)))
  (EG0:specialIn K (.ref E0) "__getattribute__" = some (some (.builtin "type.__getattribute__"))) (ER0:readsIn K E0 (.type "type")=true)
  (A0:nsIn K mainGlobals "_law_cell" = some (some (.ref a0)))
  (F0:k7 K "_law_cell" "_law_cell" (top 16) a0)
  (A1:nsIn K mainGlobals "_law_number" = some (some (.ref a1)))
  (F1:k7 K "_law_number" "_law_number" (top 17) a1)
  (A2:nsIn K mainGlobals "_law_net" = some (some (.ref a2)))
  (F2:k7 K "_law_net" "_law_net" (top 18) a2)
  (A3:nsIn K mainGlobals "_law_ends" = some (some (.ref a3)))
  (F3:k7 K "_law_ends" "_law_ends" (top 19) a3)
  (A4:nsIn K mainGlobals "_law_joined" = some (some (.ref a4)))
  (F4:k7 K "_law_joined" "_law_joined" (top 20) a4)
  (A5:nsIn K mainGlobals "_law_rank" = some (some (.ref a5)))
  (F5:k7 K "_law_rank" "_law_rank" (top 21) a5)
  (A6:nsIn K mainGlobals "_law_free_row" = some (some (.ref a6)))
  (F6:k7 K "_law_free_row" "_law_free_row" (top 25) a6)
  (A7:nsIn K mainGlobals "_law_loose" = some (some (.ref a7)))
  (F7:k7 K "_law_loose" "_law_loose" (top 26) a7)
  (A8:nsIn K mainGlobals "_law_left" = some (some (.ref a8)))
  (F8:k7 K "_law_left" "_law_left" (top 27) a8)
  (A9:nsIn K mainGlobals "put_in_order" = some (some (.ref a9)))
  (F9:k7 K "put_in_order" "put_in_order" (top 1) a9)
  (A10:nsIn K mainGlobals "own_net" = some (some (.ref YG)))
  (F10:k7 K "own_net" "own_net" (top 2) YG)
  (A11:nsIn K mainGlobals "places_of" = some (some (.ref YH)))
  (F11:k7 K "places_of" "places_of" (top 3) YH)
  (A12:findIn K (.ref D0) "__init__" = some (some (.ref Vn))) (I12:isFn K (.ref Vn)=true)
  (F12:k7 K "__init__" "Rule.__init__" (fQ 0) Vn)
  (A13:findIn K (.ref D1) "__init__" = some (some (.ref Vo))) (I13:isFn K (.ref Vo)=true)
  (F13:k7 K "__init__" "Rule.__init__" (fQ 0) Vo)
  (EF0_14:findCls K (.ref E0) (.type "type") "__init__" = some (.val (.ref Vp)))
  (I14:isFn K (.ref Vp)=true)
  (F14:k7 K "__init__" "Rule.__init__" (fQ 0) Vp)
  (A15:nsIn K mainGlobals "firsts_by" = some (some (.ref YI)))
  (F15:k7 K "firsts_by" "firsts_by" (top 6) YI)
  (M0_16:findIn K (.ref D0) "tree_rank" = some (some (.ref QZ)))
  (M1_16:findIn K (.ref D1) "tree_rank" = some (some (.ref QZ)))
  (M2_16:findIn K (.ref D2) "tree_rank" = some (some (.ref QZ)))
  (I16:isFn K (.ref QZ)=true)
  (F16:k7 K "tree_rank" "Rule.tree_rank" (fQ 7) QZ)
  (A17:nsIn K mainGlobals "names_of" = some (some (.ref YJ)))
  (F17:k7 K "names_of" "names_of" (top 4) YJ)
  (M0_18:findIn K (.ref D0) "ties" = some (some (.ref Q0)))
  (M1_18:findIn K (.ref D1) "ties" = some (some (.ref Q0)))
  (M2_18:findIn K (.ref D2) "ties" = some (some (.ref Q0)))
  (I18:isFn K (.ref Q0)=true)
  (F18:k7 K "ties" "Rule.ties" (fQ 3) Q0)
  (A19:findIn K (.ref D2) "__init__" = some (some (.ref Vq))) (I19:isFn K (.ref Vq)=true)
  (F19:k7 K "__init__" "ByRest.__init__" (pL 0) Vq)
  (A20:nsIn K mainGlobals "_law_rule" = some (some (.ref YK)))
  (F20:k7 K "_law_rule" "_law_rule" (top 22) YK)
  (M0_21:findIn K (.ref D0) "rank" = some (some (.ref Vr)))
  (I21:isFn K (.ref Vr)=true)
  (F21:k7 K "rank" "Rule.rank" (fQ 4) Vr)
  (M1_22:findIn K (.ref D1) "rank" = some (some (.ref Vs)))
  (I22:isFn K (.ref Vs)=true)
  (F22:k7 K "rank" "ByTrees.rank" (BX 1) Vs)
  (M2_23:findIn K (.ref D2) "rank" = some (some (.ref Vt)))
  (I23:isFn K (.ref Vt)=true)
  (F23:k7 K "rank" "ByRest.rank" (pL 2) Vt)
  (M0_24:findIn K (.ref D0) "reach" = some (some (.ref Q2)))
  (M1_24:findIn K (.ref D1) "reach" = some (some (.ref Q2)))
  (M2_24:findIn K (.ref D2) "reach" = some (some (.ref Q2)))
  (I24:isFn K (.ref Q2)=true)
  (F24:k7 K "reach" "Rule.reach" (fQ 6) Q2)
  (A25:nsIn K mainGlobals "reached_by" = some (some (.ref YL)))
  (F25:k7 K "reached_by" "reached_by" (top 14) YL)
  (A26:nsIn K mainGlobals "thinned" = some (some (.ref YM)))
  (F26:k7 K "thinned" "thinned" (top 13) YM)
  (A27:nsIn K mainGlobals "_law_row" = some (some (.ref YN)))
  (F27:k7 K "_law_row" "_law_row" (top 23) YN)
  (A28:nsIn K mainGlobals "_law_told_row" = some (some (.ref YO)))
  (F28:k7 K "_law_told_row" "_law_told_row" (top 24) YO)
  (A29:nsIn K mainGlobals "law" = some (some (.ref YQ)))
  (F29:k7 K "law" "law" (top 28) YQ)
  (Z:∀x∈bltNames,nsIn K mainGlobals x=some none)
  (V0:nsIn K mainGlobals "THOUGHT" = some (some (.int (-1) tk0))) :
  ∃fd:FuncData,(∀(s:Shared) (v:Value),BindsTo s fd ⟨[v],[]⟩ [("_law_script",v)])/\∀base:Heap,K.In base->base.Ns mainGlobals mg->fW l.prog w K mg base zd 60 fa fd ["_law_script"] (Ve K):=by
 have e:=Sg.symm.trans (aaK X G A29);cases e;obtain⟨cl,hcl⟩:∃cl:Nat->Addr,cl=λn=>if n=0 then D0 else if n=1 then D1 else if n=2 then D2 else if n=1014 then Vp else if n=1016 then QZ else if n=1018 then Q0 else if n=1021 then Vr else if n=1022 then Vs else if n=1023 then Vt else if n=1024 then Q2 else 0:=⟨_,rfl⟩
 have T:Base K cl mg cons tb:=by
  subst hcl;refine⟨λx hx=>?_,λp hp=>?_,λc hc=>?_,λp hp=>?_,λp hp=>?_,λp hp=>?_⟩
  ·exact PySem.W.mg_none_of X G (Z x hx)
  ·simp only[cons,mem_cons,not_mem_nil,or_false]at hp
   rcases hp with rfl
   ·exact⟨.int (-1),_,aaK X G V0,⟨_,rfl⟩,λ_ _ _=>VR.int⟩
  ·have hc:c<3:=hc
   match c,hc with
   |0,_=>
    refine⟨⟨DG0,DH0,DO0,DS0⟩,λx hx=>?_⟩;simp only[tb,mem_cons,not_mem_nil,or_false]at hx
    rcases hx with rfl|rfl|rfl|rfl
    ·exact DN0_0
    ·exact DN0_1
    ·exact DN0_2
    ·exact DN0_3
   |1,_=>
    refine⟨⟨DG1,DH1,DO1,DS1⟩,λx hx=>?_⟩;simp only[tb,mem_cons,not_mem_nil,or_false]at hx
    rcases hx with rfl|rfl|rfl|rfl
    ·exact DN1_0
    ·exact DN1_1
    ·exact DN1_2
    ·exact DN1_3
   |2,_=>
    refine⟨⟨DG2,DH2,DO2,DS2⟩,λx hx=>?_⟩;simp only[tb,mem_cons,not_mem_nil,or_false]at hx
    rcases hx with rfl|rfl|rfl|rfl
    ·exact DN2_0
    ·exact DN2_1
    ·exact DN2_2
    ·exact DN2_3
  ·simp only[tb,mem_cons,not_mem_nil,or_false]at hp
   rcases hp with rfl|rfl|rfl|rfl|rfl|rfl|rfl|rfl|rfl|rfl|rfl|rfl
   ·exact⟨M0_16,I16,F16.kp⟩
   ·exact⟨M1_16,I16,F16.kp⟩
   ·exact⟨M2_16,I16,F16.kp⟩
   ·exact⟨M0_18,I18,F18.kp⟩
   ·exact⟨M1_18,I18,F18.kp⟩
   ·exact⟨M2_18,I18,F18.kp⟩
   ·exact⟨M0_21,I21,F21.kp⟩
   ·exact⟨M1_22,I22,F22.kp⟩
   ·exact⟨M2_23,I23,F23.kp⟩
   ·exact⟨M0_24,I24,F24.kp⟩
   ·exact⟨M1_24,I24,F24.kp⟩
   ·exact⟨M2_24,I24,F24.kp⟩
  ·simp only[tb,mem_cons,not_mem_nil,or_false]at hp
   rcases hp with rfl
   ·exact⟨E0,aaK X G EA0,⟨EG0,ER0,EF0_14,F14.kp⟩⟩
  ·simp[tb]at hp
 obtain⟨fd,F⟩:=F29;obtain⟨_,_,_,_,_,_,_,_,_,e,_⟩:=F.ex;refine⟨fd,λs v=>by rw[e];exact .of_eq rfl,λbase _ _=>?_⟩;have G0:b6 l.prog w ⟨K,cl⟩ mg base 0 Uy:=all_nil;have G1:b6 l.prog w ⟨K,cl⟩ mg base 2 Uz:=fz (x:="_law_cell") (N:=Gp) (ps:=Gp) (body:=jT) T G0 F0 (aaK X G A0) c0 d0 (by decide) (by intro _ _ _ _ _ _ _ l;apply ln2 l;intros;rfl);have G2:b6 l.prog w ⟨K,cl⟩ mg base 4 UA:=fz (x:="_law_number") (N:=P4) (ps:=["_law_one","_law_two","_law_k"]) (body:=gC) T G1 F1 (aaK X G A1) c1 d1 (by decide) (by intro _ _ _ _ _ _ _ l;apply S4 l;intros;rfl);have G3:b6 l.prog w ⟨K,cl⟩ mg base 6 UB:=fz (x:="_law_net") (N:=P5) (ps:=["_law_script","_law_cells"]) (body:=lC) T G2 F2 (aaK X G A2) c2 d2 (by decide) (by intro _ _ _ _ _ _ _ l;apply ln2 l;intros;rfl);have G4:b6 l.prog w ⟨K,cl⟩ mg base 8 UC:=fz (x:="_law_ends") (N:=P6) (ps:=["_law_net_here"]) (body:=jU) T G3 F3 (aaK X G A3) c3 d3 (by decide) (by intro _ _ _ _ _ _ _ l;apply QV l;intros;rfl);have G5:b6 l.prog w ⟨K,cl⟩ mg base 10 UD:=fz (x:="_law_joined") (N:=P7) (ps:=["_law_ends_here","_law_row_here"]) (body:=gD) T G4 F4 (aaK X G A4) c4 d4 (by decide) (by intro _ _ _ _ _ _ _ l;apply ln2 l;intros;rfl);have G6:b6 l.prog w ⟨K,cl⟩ mg base 12 UE:=fz (x:="_law_rank") (N:=P8) (ps:=Uw) (body:=gi) T G5 F5 (aaK X G A5) c5 d5 (by decide) (by intro _ _ _ _ _ _ _ l;apply S4 l;intros;rfl);have G7:b6 l.prog w ⟨K,cl⟩ mg base 14 UG:=fz (x:="_law_free_row") (N:=P9) (ps:=Ux) (body:=dM) T G6 F6 (aaK X G A6) c6 d6 (by decide) (by intro _ _ _ _ _ _ _ l;apply S4 l;intros;rfl);have G8:b6 l.prog w ⟨K,cl⟩ mg base 16 UH:=fz (x:="_law_loose") (N:=Qa) (ps:=L7) (body:=iL) T G7 F7 (aaK X G A7) c7 d7 (by decide) (by intro _ _ _ _ _ _ _ l;apply ZT l;intros;rfl);have G9:b6 l.prog w ⟨K,cl⟩ mg base 18 UI:=fz (x:="_law_left") (N:=Gq) (ps:=L8) (body:=cI) T G8 F8 (aaK X G A8) c8 d8 (by decide) (by intro _ _ _ _ _ _ _ l;apply ZU l;intros;rfl);have G10:b6 l.prog w ⟨K,cl⟩ mg base 20 GD:=fz (x:="put_in_order") (N:=Gs) (ps:=["poles","ties"]) (body:=cF) T G9 F9 (aaK X G A9) c9 d9 (by decide) (by intro _ _ _ _ _ _ _ l;apply ln2 l;intros;rfl);have G11:b6 l.prog w ⟨K,cl⟩ mg base 22 GF:=fz (x:="own_net") (N:=["net"]) (ps:=["net"]) (body:=iM) T G10 F10 (aaK X G A10) IG QX (by decide) (by intro _ _ _ _ _ _ _ l;apply QV l;intros;rfl);have G12:b6 l.prog w ⟨K,cl⟩ mg base 24 GG:=fz (x:="places_of") (N:=Gu) (ps:=["net"]) (body:=fF) T G11 F11 (aaK X G A11) II d11 (by decide) (by intro _ _ _ _ _ _ _ l;apply QV l;intros;rfl);have G13:b6 l.prog w ⟨K,cl⟩ mg base 26 GI:=Ad (x:="Rule") (N:=nM) (ps:=lB) (body:=v8) (n:=1) (f:=Vn) (c:=0) T G12 F12 (by rw[hcl];exact aaK X G DA0) (by rw[hcl];exact⟨DM0,A12,I12,DK0⟩) c12 d12 rfl (by decide) (by intro _ _ _ _ _ _ _ l;apply ln2 l;intros;rfl);have G14:b6 l.prog w ⟨K,cl⟩ mg base 28 GJ:=Ad (x:="ByTrees") (N:=nM) (ps:=lB) (body:=mW) (n:=1) (f:=Vo) (c:=1) T G13 F13 (by rw[hcl];exact aaK X G DA1) (by rw[hcl];exact⟨DM1,A13,I13,DK1⟩) c13 d13 rfl (by decide) (by intro _ _ _ _ _ _ _ l;apply ln2 l;intros;rfl);have G15:b6 l.prog w ⟨K,cl⟩ mg base 30 GK:=rO (y:="Rule.__init__") (N:=nM) (ps:=lB) (body:=gj) T G14 F14 (by rw[hcl];rfl) c14 d14 (by intro _ _ _ _ _ _ _ l;apply ln2 l;intros;rfl);have G16:b6 l.prog w ⟨K,cl⟩ mg base 32 GL:=fz (x:="firsts_by") (N:=Gv) (ps:=["places","pairs"]) (body:=fG) T G15 F15 (aaK X G A15) c15 d15 (by decide) (by intro _ _ _ _ _ _ _ l;apply ln2 l;intros;rfl);have G17:b6 l.prog w ⟨K,cl⟩ mg base 34 GN:=rO (y:="Rule.tree_rank") (N:=Gx) (ps:=gU) (body:=b7) T G16 F16 (by rw[hcl];rfl) c16 d16 (by intro _ _ _ _ _ _ _ l;apply ln2 l;intros;rfl);have G18:b6 l.prog w ⟨K,cl⟩ mg base 36 GO:=fz (x:="names_of") (N:=["net"]) (ps:=["net"]) (body:=gF) T G17 F17 (aaK X G A17) Vk d17 (by decide) (by intro _ _ _ _ _ _ _ l;apply QV l;intros;rfl);have G19:b6 l.prog w ⟨K,cl⟩ mg base 38 GP:=rO (y:="Rule.ties") (N:=["self"]) (ps:=["self"]) (body:=fH) T G18 F18 (by rw[hcl];rfl) Vl d18 (by intro _ _ _ _ _ _ _ l;apply QV l;intros;rfl);have G20:b6 l.prog w ⟨K,cl⟩ mg base 40 GQ:=Ad (x:="ByRest") (N:=lB) (ps:=lB) (body:=o4) (n:=1) (f:=Vq) (c:=2) T G19 F19 (by rw[hcl];exact aaK X G DA2) (by rw[hcl];exact⟨DM2,A19,I19,DK2⟩) Vm d19 rfl (by decide) (by intro _ _ _ _ _ _ _ l;apply ln2 l;intros;rfl);have G21:b6 l.prog w ⟨K,cl⟩ mg base 42 GR:=fz (x:="_law_rule") (N:=yF) (ps:=yF) (body:=gk) T G20 F20 (aaK X G A20) c20 d20 (by decide) (by intro _ _ _ _ _ _ _ l;apply ln2 l;intros;rfl);have G22:b6 l.prog w ⟨K,cl⟩ mg base 44 GS:=rO (y:="Rule.rank") (N:=gU) (ps:=gU) (body:=fJ) T G21 F21 (by rw[hcl];rfl) c21 d21 (by intro _ _ _ _ _ _ _ l;apply ln2 l;intros;rfl);have G23:b6 l.prog w ⟨K,cl⟩ mg base 46 GU:=rO (y:="ByTrees.rank") (N:=gU) (ps:=gU) (body:=cG) T G22 F22 (by rw[hcl];rfl) c22 d22 (by intro _ _ _ _ _ _ _ l;apply ln2 l;intros;rfl);have G24:b6 l.prog w ⟨K,cl⟩ mg base 48 GV:=rO (y:="ByRest.rank") (N:=Gy) (ps:=gU) (body:=cS) T G23 F23 (by rw[hcl];rfl) c23 d23 (by intro _ _ _ _ _ _ _ l;apply ln2 l;intros;rfl);have G25:b6 l.prog w ⟨K,cl⟩ mg base 50 GW:=rO (y:="Rule.reach") (N:=Gz) (ps:=gU) (body:=dN) T G24 F24 (by rw[hcl];rfl) c24 d24 (by intro _ _ _ _ _ _ _ l;apply ln2 l;intros;rfl);have G26:b6 l.prog w ⟨K,cl⟩ mg base 52 GX:=fz (x:="reached_by") (N:=GA) (ps:=["rule","row","other"]) (body:=dP) T G25 F25 (aaK X G A25) c25 d25 (by decide) (by intro _ _ _ _ _ _ _ l;apply S4 l;intros;rfl);have G27:b6 l.prog w ⟨K,cl⟩ mg base 54 GY:=fz (x:="thinned") (N:=GB) (ps:=["rule","ones","others"]) (body:=gm) T G26 F26 (aaK X G A26) c26 d26 (by decide) (by intro _ _ _ _ _ _ _ l;apply S4 l;intros;rfl);have G28:b6 l.prog w ⟨K,cl⟩ mg base 56 GZ:=fz (x:="_law_row") (N:=GC) (ps:=["_law_names","_law_cell_here"]) (body:=lD) T G27 F27 (aaK X G A27) c27 d27 (by decide) (by intro _ _ _ _ _ _ _ l;apply ln2 l;intros;rfl);have G29:b6 l.prog w ⟨K,cl⟩ mg base 58 K9:=fz (x:="_law_told_row") (N:=yG) (ps:=yG) (body:=dQ) T G28 F28 (aaK X G A28) c28 d28 (by decide) (by intro _ _ _ _ _ _ _ l;apply QV l;intros;rfl);exact(Bx T G29 F c29 d29).imp (OW hφ)
end
end K35
end
section
open PySem L2 Hv
set_option hygiene false
local macro_rules | `(tactic| simp only[EV,$ls,*] $[$l:location]?)=>`(tactic| simp only[fP,PD,PF,PJ,LX,TJ,TL,TM,TN,TR,Px,TU,Py,Pz,WR,TV,TX,dD,bY,C5,aV,vR,jz,Vf,Ko,Kn,kI,X8,LW,aS,Pu,bX,KL,Pw,isVar,gY,List.getElem?_cons_zero,List.getElem?_cons_succ,set_cons_zero,set_cons_succ,map_cons,map_nil,length_cons,length_nil,cons_append,nil_append,List.replicate_succ,List.replicate_zero,Nat.reduceSub,Nat.reduceAdd,Nat.reduceLeDiff,TY,TZ,WS,WU,WW,WX,WY,KN,T4,T5,FO,T6,T7,T8,T9,Ua,Ub,Uc,PB,PC,Ud,j8,bK,rP,WK,cN,fu,Hv.stored,List.contains_nil,List.contains_cons,List.elem_nil,List.elem_cons,Nat.reduceBEq,Nat.reduceEqDiff,BEq.rfl,all_cons,List.all_nil,beq_self_eq_true,Fv,jd,tO,mz,oQ,↓reduceIte,Bool.and_true,Bool.true_and,Bool.false_and,Bool.and_false,Bool.or_false,Bool.false_or,Bool.or_true,Bool.true_or,Bool.or_self,zero_le,Bool.not_true,Bool.not_false,false_eq_true,decide_eq_true_eq,not_eq_true',decide_eq_false_iff_not,append_nil,nil_append,reduceCtorEq,$ls,*] $[$l:location]?)
section
open PySem L2 Hv
namespace K35
def cellAt(ns:List Int)(k:Nat):Int:=ns.getD k 0
theorem ko(ns:List Int)(k:Nat):cz [.rl (ns.map .int),.int k]=.ok (true,.int (cellAt ns k)):=by
 unfold cz jT
 by_cases h:k<ns.length
 ·have e:iV (List.map Val.int ns) (k:Int)=some (.int (ns[k])):=m9 (by simp[h])
  have h':(k:Int)<ns.length:=by omega
  simp only[EV,fU e,length_map,h',cellAt,List.getD,List.getElem?_eq_getElem h,Option.getD_some]
 ·have h':¬ (k:Int)<ns.length:=by omega
  have e:ns[k]?=none:=by simp;omega
  simp only[EV,length_map,h',cellAt,List.getD,e,getD_none]
def iT(one two k:Int):Int:=(if 0<one%3 then 1+one/3%10 ^ 56 else 1)*(((1+two%66)*k+one)%67)+(if 0<one%3 then two/66%10 ^ 58 else 0)
theorem Dr(a b:Int)(h:0<=b/\b<67):fk a b=true:=by
 unfold fk;simp only[or_eq_true,and_eq_true,decide_eq_true_eq];right;omega
theorem As(a b:Int)(h:0<=a/\a<67):fk a b=true:=by
 unfold fk;simp only[or_eq_true,and_eq_true,decide_eq_true_eq];left;omega
theorem B3(one two k:Int):iN [.int one,.int two,.int k]=.ok (true,.int (iT one two k)):=by
 unfold iN gC iT;have m1:fk (1+two%66) k=true:=As _ _ (by omega);have m2:∀x,fk x (((1+two%66)*k+one)%67)=true:=λx=>Dr _ _ (by omega);simp only[EV,jN (show decide ((0:Int)<3)=true by decide),jN (show decide ((0:Int)<66)=true by decide),jN (show decide ((0:Int)<67)=true by decide),kh (show j7 3=true by decide),kh (show j7 66=true by decide),LY (show decide ((0:Int)<=56/\(56:Int)<=1000000/\(10:Int).natAbs<2 ^ 64)=true by decide),LY (show decide ((0:Int)<=58/\(58:Int)<=1000000/\(10:Int).natAbs<2 ^ 64)=true by decide),BK m1,BK (m2 _),jN (show decide ((0:Int)<10 ^ (56:Int).toNat)=true by decide),jN (show decide ((0:Int)<10 ^ (58:Int).toNat)=true by decide)]
 repeat' split
 all_goals first|rfl|contradiction
theorem Li(one two k:Int):0<=iT one two k:=by
 unfold iT;generalize ((1+two%66)*k+one)=z;have hs:∃st:Int,(if 0<one%3 then 1+one/3%10 ^ 56 else 1)=st/\1<=st:=by refine⟨_,rfl,?_⟩;split<;>omega
 have hf:∃sh:Int,(if 0<one%3 then two/66%10 ^ 58 else 0)=sh/\0<=sh:=by refine⟨_,rfl,?_⟩;split<;>omega
 obtain⟨st,e1,a1⟩:=hs;obtain⟨sh,e2,b1⟩:=hf;rw[e1,e2];have p1:0<=st*(z%67):=Int.mul_nonneg (by omega) (by omega);omega
theorem Hx(one two i j:Int)(hi:0<=i/\i<67)(hj:0<=j/\j<67)(e:iT one two i=iT one two j):i=j:=by
 unfold iT at e;have hs:∃st:Int,(if 0<one%3 then 1+one/3%10 ^ 56 else 1)=st/\1<=st:=by refine⟨_,rfl,?_⟩;split<;>omega
 obtain⟨st,e1,a1⟩:=hs;rw[e1]at e;have e2:st*(((1+two%66)*i+one)%67)=st*(((1+two%66)*j+one)%67):=by omega
 have e3:=Int.eq_of_mul_eq_mul_left (by omega:st≠0) e2;exact KY (by omega) hi hj e3
theorem UK{n:Int}(h:inR n=true):iH .range [.int n]=some ((List.range n.toNat).map λ(i:Nat)=>Val.int (0+(i:Int))):=by
 show (if inR n=true then some (bU 0 n.toNat) else none)=_;rw[aai h];rfl
structure aT (p q:Int) (ts:List T3):Prop where
 ord:p<=q
 len:ts.length<=14
 up:Iz ts
 ends:∀t∈ts,t.2.1<=t.2.2
 names:∀t∈ts,0<=t.1
theorem sH:∀(i:Nat) (ms:List Int) (pre post:List Val) (x:Val),cM i (ms.map .int)=pre++x::post->∃c:Int,x=.tup [.int ((i+pre.length:Nat):Int),.int c]
 |_,[],pre,post,x,h=>by simp[cM]at h
 | i,d::r,[],post,x,h=>by
  rw[aap,cM,nil_append]at h;injection h with h _
  exact⟨d,by rw[<-h];rfl⟩
 | i,d::r,y::pre,post,x,h=>by
  rw[aap,cM,cons_append]at h;injection h with _ h
  obtain⟨c,e⟩:=sH (i+1) r pre post x h;exact⟨c,by rw[e,aaz];congr 4;omega⟩
structure Au (one two:Int) (ts:List T3):Prop where
 name:∀i (h:i<ts.length),(ts[i]).1=iT one two i
 ends:∀t∈ts,t.2.1<=t.2.2
theorem Au.nodup{one two:Int}(h:Au one two ts)(hl:ts.length<=14):(ts.map (·.1)).Nodup:=by
 unfold List.Nodup;rw[List.pairwise_iff_getElem];intro i j hi hj hij;rw[aah]at hi hj;rw[getElem_map,getElem_map,h.name i hi,h.name j hj];intro e;have:=Hx one two i j (by omega) (by omega) e;omega
theorem UL(a b:Int):∃x y,sortI [a,b]=[x,y]/\x<=y:=by
 have hl:(sortI [a,b]).length=2:=(aaF _).length_eq;have hs:=sortI_rises [a,b]
 match h:sortI [a,b],hl,hs with
 |[x,y],_,hs=>exact⟨x,y,rfl,by simpa using hs⟩
theorem yS(h:fR xs=some ys):jy .sorted [.rl xs]=.ok (true,.rl ys):=by
 show (pb (pl (fR xs)) (λys:List Val=>Pr.ok ((true,Val.rl ys):FV)):Pr FV)=_;rw[h];rfl
theorem Qj(ns ms:List Int)(hm:ms.length<=14):∃p q ts,nR [.rl (ns.map .int),.rl (ms.map .int)]=.ok (true,eX p q ts)/\aT p q ts/\ts.length=ms.length:=by
 have c0:cz [.rl (ns.map .int),.int 0]=.ok (true,.int (cellAt ns 0)):=ko ns 0;have c1:cz [.rl (ns.map .int),.int 1]=.ok (true,.int (cellAt ns 1)):=ko ns 1;have c2:cz [.rl (ns.map .int),.int 2]=.ok (true,.int (cellAt ns 2)):=ko ns 2;unfold nR lC;generalize cellAt ns 0=one at *;generalize cellAt ns 1=two at *;generalize cellAt ns 2=pick at *;have YR:2<=2+pick%7/\2+pick%7<=8:=by omega
 simp only[EV,qa,c0,c1,c2,jN (show decide ((0:Int)<7)=true by decide)];generalize YS:2+pick%7=many at *;have hR:inR many=true:=by unfold inR;simp only[and_eq_true,decide_eq_true_eq];omega
 have hc:many.toNat<=100000:=by omega
 simp only[EV,UK hR,gS,length_map,length_range,hc];rw[iI (λi:Nat=>Val.int (0+(i:Int))) (λi:Nat=>.int (iT two one (0+(i:Int)))) (List.range many.toNat) (λi hi=>by
  simp only[EV,bq,je,B3])]
 have hpl:∀i:Int,0<=i->i<many->iV ((List.range many.toNat).map λi:Nat=>Val.int (iT two one (0+(i:Int)))) i=some (.int (iT two one i)):=λi h0 h1=>by
  obtain⟨k,rfl⟩:=eq_ofNat_of_zero_le h0;refine m9 ?_;rw[aaD,List.getElem?_range (by omega)];simp
 generalize ePl:((List.range many.toNat).map λi:Nat=>Val.int (iT two one (0+(i:Int))))=Pl at *;simp only[EV,Ue]
 repeat rw[mC]
 have hx:cM 0 (ms.map Val.int)=(cM 0 (ms.map Val.int)).map id:=(map_id _).symm;rw[hx];have hmp:decide (0<many)=true:=by rw[aaZ];omega
 have hdv:j7 many=true:=by unfold j7;rw[aaZ];omega
 have z3:3<=sizeLine:=by decide
 have z2:2<=sizeLine:=by decide
 refine cy id (λr:Pr FV=>∃p q ts,r=.ok (true,eX p q ts)/\aT p q ts/\ts.length=ms.length)
  (λdone env=>∃(ts:List T3) (m6:Mk) (a b c d:Option (Mk×Val)),env=[some (.sh,.rl (ns.map .int)),some (.sh,.rl (ms.map .int)),some (.sh,.int one),some (.sh,.int two),some (.sh,.int pick),some (.sh,.int many),some (m6,.rl Pl),some (.ow,.rl (ts.map fE)),a,b,c,d,none]/\uO m6=true/\ts.length=done.length/\Au one two ts)
  ⟨[],_,none,none,none,none,rfl,by first|rfl|exact LX,rfl,⟨λi h=>by simp at h,λ_ h=>by simp at h⟩⟩ ?_ ?_
 ·rintro pre x post env hx ⟨ts,m6,a,b,c,d,rfl,h6,hl,ok⟩
  have aaa:pre.length<14:=by have:=congrArg length hx;rw[lV,aah,aaB,aaz]at this;omega
  obtain⟨cell,rfl⟩:=sH _ _ _ _ _ hx;rw[Nat.zero_add];have i1:=hpl (cell%many) (emod_nonneg _ (by omega)) (Int.emod_lt_of_pos _ (by omega));have i2:=hpl (cell/many%many) (emod_nonneg _ (by omega)) (Int.emod_lt_of_pos _ (by omega));generalize iT two one (cell%many)=n1 at *;generalize iT two one (cell/many%many)=n2 at *;have e3:=B3 one two (pre.length:Int);have z:ts.length<sizeLine:=by rw[hl];unfold sizeLine;omega
  have tt:Val.tup [.int (iT one two (pre.length:Int)),.int (if n2<n1 then n2 else n1),.int (if n2>n1 then n2 else n1)]=fE (turnT (iT one two (pre.length:Int),n1,n2)):=rfl;refine⟨_,?_,ts++[turnT (iT one two (pre.length:Int),n1,n2)],m6,some (.sh,.int pre.length),some (.sh,.int cell),some (.sh,.int n1),some (.sh,.int n2),rfl,h6,by simp[hl],⟨λi hi=>?_,λt ht=>?_⟩⟩
  ·simp only[EV,id,PK,h6,jN hmp,kh hdv,fU i1,fU i2,je,e3,z3,tt,length_map,z,map_append]
  ·rw[List.getElem_append]
   split
   ·exact ok.name i (by assumption)
   ·simp only[length_append,length_cons,length_nil]at hi
    have:i=pre.length:=by omega
    subst this;simp[hl,turnT]
  ·rcases aaL.mp ht with ht|ht
   ·exact ok.ends t ht
   ·rw[aau]at ht;subst ht;unfold turnT;dsimp only;split<;>split<;>omega
 ·rintro env ⟨ts,m6,a,b,c,d,rfl,h6,hl,ok⟩
  have UM:ts.length<=14:=by rw[hl,lV,aah];exact hm
  have j0:=hpl 0 (by omega) (by omega);have j1:iV Pl (1-(if pick/7%8=3 then 1 else 0))=some (.int (iT two one (1-(if pick/7%8=3 then 1 else 0)))):=hpl _ (by split<;>omega) (by split<;>omega);obtain⟨x,y,es,hxy⟩:=UL (iT two one 0) (iT two one (1-(if pick/7%8=3 then 1 else 0)));generalize iT two one (1-(if pick/7%8=3 then 1 else 0))=n1 at *;have esV:jy .sorted [.rl [.int (iT two one 0),.int n1]]=.ok (true,.rl [.int x,.int y]):=by refine yS ?_;show (if 2<64 then some ((sortI [iT two one 0,n1]).map Val.int) else none)=_;rw[aai (by decide),es];rfl
  have eI:∀b:Bool,jy .int [.bl b]=.ok (true,.int (if b=true then 1 else 0)):=λ_=>rfl;have dI:(if decide (pick/7%8=3)=true then (1:Int) else 0)=if pick/7%8=3 then 1 else 0:=by
   by_cases c:pick/7%8=3<;>simp[c]
  refine⟨x,y,kB ts,?_,⟨hxy,?_,?_,?_,?_⟩,?_⟩
  ·simp only[EV,h6,fU j0,kh (show j7 7=true by decide),jN (show decide ((0:Int)<8)=true by decide),eI,dI,fU j1,z2,esV,fU oU,fU oV,yr (show ts.length<64 by omega)];rfl
  ·rw[(gh ts).length_eq];exact UM
  ·exact yt ts (ok.nodup UM)
  ·exact λt ht=>ok.ends t ((gh ts).mem_iff.mp ht)
  ·intro t ht;obtain⟨i,hi,rfl⟩:=getElem_of_mem ((gh ts).mem_iff.mp ht);rw[ok.name i hi];exact Li _ _ _
  ·rw[(gh ts).length_eq,hl,lV,aah]
end K35
end
section
open PySem L2 Hv
namespace K35
def kG(p q:Int)(ts:List T3):List Int:=p::q::ts.flatMap λt=>[t.2.1,t.2.2]
def o8(p q:Int)(ts:List T3):List Int:=eW (kG p q ts)
theorem o9(p q:Int)(ts:List T3):(kG p q ts).length=2+2*ts.length:=by
 unfold kG
 induction ts with
 |nil=>rfl
 |cons t r ih=>simp only[List.flatMap_cons,length_cons,length_append,length_nil] at *;omega
theorem yT:∀(ns ks:List Int),(eV ks ns).length<=ks.length+ns.length
 |[],ks=>aao _
 | k::r,ks=>by
  rw[eV,aaz];have:=yT r (fj ks k);have:=qR ks k;omega
theorem Lj{p q:Int}(h:ts.length<=14):(o8 p q ts).length<64:=by
 unfold o8 eW;rw[(aaF _).length_eq];have:=yT (kG p q ts) [];rw[o9]at this;simp only[length_nil]at this;omega
theorem qu{p q x:Int}:x∈o8 p q ts↔x=p\/x=q\/∃t∈ts,x=t.2.1\/x=t.2.2:=by
 unfold o8;rw[FU];unfold kG;simp only[mem_cons,List.mem_flatMap,not_mem_nil,or_false]
theorem places_eq{p q:Int}(h:ts.length<=14):b9 [eX p q ts]=.ok (true,.rl ((o8 p q ts).map .int)):=by
 unfold b9 fF eX;simp only[EV,jO oU,jO oV,eE];rw[mC];refine cy fE (λr:Pr FV=>r=.ok (true,.rl ((o8 p q ts).map .int)))
  (λdone env=>∃a,env=[some (.sh,eX p q ts),some (.ow,.rl ((kG p q done).map .int)),a])
  ⟨none,rfl⟩ ?_ ?_
 ·rintro pre t post env hx ⟨a,rfl⟩
  refine⟨[some (.sh,eX p q ts),some (.ow,.rl ((kG p q (pre++[t])).map .int)),some (.sh,fE t)],?_,_,rfl⟩;have hpl:pre.length<14:=by have:=congrArg length hx;rw[aaB,aaz]at this;omega
  have z:((kG p q pre).map Val.int).length+2<=sizeLine:=by rw[aah,o9];unfold sizeLine;omega
  have ea:(kG p q (pre++[t])).map Val.int=(kG p q pre).map Val.int++[.int t.2.1,.int t.2.2]:=by unfold kG;simp
  simp only[EV,bq,PM,z,ea]
 ·rintro env ⟨a,rfl⟩
  have hl:(kG p q ts).length<64:=by rw[o9];omega
  simp only[EV,ints_map,hl];rfl
end K35
end
section
open PySem L2 Hv
namespace K35
def nX(e:Int×Int):Val:=.tup [.int e.1,.int e.2]
theorem Lk{i j:Nat}:cD (.tup [i,j]) (nX e) env=some ((env.set i (some (.sh,.int e.1))).set j (some (.sh,.int e.2))):=rfl
theorem Ds(ps:List Int)(hn:ps.Nodup)(hl:ps.length<64)(es:List (Int×Int))(he:∀e∈es,e.1∈ps/\e.2∈ps):∃f φ,eF [.rl (ps.map .int),.rl (es.map nX)]=.ok (f,mD ps λx=>.int (φ x))/\kP ps es φ:=by
 unfold eF fG;simp only[EV,eE];rw[mC];have hz:∀pre:List Int,pre.length<=ps.length->(pre.map (Sum.inl:Int->Key)).length<sizeLine:=λpre h=>by rw[aah];unfold sizeLine;omega
 refine cy Val.int (λr:Pr FV=>∃f φ,r=.ok (f,mD ps λx=>.int (φ x))/\kP ps es φ)
  (λdone env=>∃a,env=[some (.sh,.rl (ps.map .int)),some (.sh,.rl (es.map nX)),some (.ow,mD done λx=>.int x),a,none,none,none,none])
  ⟨none,rfl⟩ ?_ ?_
 ·rintro pre x post env hx ⟨a,rfl⟩
  have hxp:x∉pre:=by rw[hx,aaN]at hn;exact λh=>hn.2.2 x h x (by simp) rfl
  refine⟨[some (.sh,.rl (ps.map .int)),some (.sh,.rl (es.map nX)),some (.ow,mD (pre++[x]) λx=>.int x),some (.sh,.int x),none,none,none,none],?_,_,rfl⟩;simp only[EV,bq,rX,hz pre (by rw[hx];simp),vZ hxp];rw[cH (g':=λx=>Val.int x)];intro y _;unfold oX
  split
  ·rename_i e;rw[e]
  ·rfl
 ·rintro env ⟨a,rfl⟩
  simp only[EV,eE];rw[mC];refine cy nX (λr:Pr FV=>∃f φ,r=.ok (f,mD ps λx=>.int (φ x))/\kP ps es φ)
   (λdone env=>∃(φ:Int->Int) (a b c d e:Option (Mk×Val)),env=[some (.sh,.rl (ps.map .int)),some (.sh,.rl (es.map nX)),some (.ow,mD ps λx=>.int (φ x)),a,b,c,d,e]/\kP ps done φ)
   ⟨id,_,_,_,_,_,rfl,kP.start ps⟩ ?_ ?_
  ·rintro pre e post env hx ⟨φ,a,b,c,d,f,rfl,IF⟩
   obtain⟨h1,h2⟩:=he e (by rw[hx];simp);simp only[EV,Lk,oY h1,oY h2,eE];have hk:∃kept gone:Int,(if φ e.2 < φ e.1 then φ e.2 else φ e.1)=kept/\(if φ e.2 > φ e.1 then φ e.2 else φ e.1)=gone/\((kept = φ e.1/\gone = φ e.2)\/(kept = φ e.2/\gone = φ e.1)):=by
    refine⟨_,_,rfl,rfl,?_⟩
    split<;>split<;>omega
   obtain⟨kept,gone,ek,eg,hk⟩:=hk;rw[ek,eg];refine cy Val.int (λr:Pr wI=>∃env',r=.ok (.nx env')/\∃(φ:Int->Int) (a b c d f:Option (Mk×Val)),env'=[some (.sh,.rl (ps.map .int)),some (.sh,.rl (es.map nX)),some (.ow,mD ps λx=>.int (φ x)),a,b,c,d,f]/\kP ps (pre++[e]) φ)
    (λdone env=>∃a,env=[some (.sh,.rl (ps.map .int)),some (.sh,.rl (es.map nX)),some (.ow,mD ps λx=>.int (if x∈done /\ φ x=gone then kept else φ x)),a,some (.sh,.int e.1),some (.sh,.int e.2),some (.sh,.int kept),some (.sh,.int gone)])
    ⟨a,by simp⟩ ?_ ?_
   ·rintro done x post env hy ⟨a,rfl⟩
    have hxp:x∉done:=by rw[hy,aaN]at hn;exact λh=>hn.2.2 x h x (by simp) rfl
    have hxs:x∈ps:=by rw[hy];simp
    refine⟨_,?_,some (.sh,.int x),rfl⟩;simp only[EV,bq,oY hxs,rX,hz ps (Nat.le_refl _),vY hxs,hxp,false_and,if_false]
    by_cases hg:φ x=gone
    ·simp only[hg,↓reduceIte]
     rw[cH];intro y _;unfold oX
     by_cases e:y=x
     ·subst e;simp[hg]
     ·simp[e]
    ·simp only[hg,↓reduceIte]
     rw[cH];intro y _
     by_cases e:y=x
     ·subst e;simp[hg]
     ·simp[e]
   ·rintro env ⟨a,rfl⟩;refine⟨_,rfl,(λx=>if φ x=gone then kept else φ x),a,some (.sh,.int e.1),some (.sh,.int e.2),some (.sh,.int kept),some (.sh,.int gone),?_,IF.step h1 h2 kept gone hk⟩;rw[cH];intro y hy;simp[hy]
  ·rintro env ⟨φ,a,b,c,d,e,rfl,IF⟩;simp only[EV,aS];exact⟨_,φ,rfl,IF⟩
end K35
end
section
open PySem L2 Hv
namespace K35
theorem order_eq{p q:Int}{us:List T3}(hl:us.length<=16):cT [.tup [.int p,.int q],.rl (us.map fE)]=.ok (true,eX (if q<p then q else p) (if q>p then q else p) (kB (us.map turnT))):=by
 unfold cT cF;have z0:0<=sizeLine:=by decide
 have z2:2<=sizeLine:=by decide
 have z3:3<=sizeLine:=by decide
 simp only[EV,eE];rw[mC];refine cy fE (λr:Pr FV=>r=.ok (true,eX (if q<p then q else p) (if q>p then q else p) (kB (us.map turnT))))
  (λdone env=>∃a b c,env=[some (.sh,.tup [.int p,.int q]),some (.sh,.rl (us.map fE)),some (.ow,.rl ((done.map turnT).map fE)),a,b,c])
  ⟨none,none,none,rfl⟩ ?_ ?_
 ·rintro pre t post env hx ⟨a,b,c,rfl⟩
  have hpl:pre.length<16:=by have:=congrArg length hx;rw[aaB,aaz]at this;omega
  have z:((pre.map turnT).map fE).length<sizeLine:=by rw[aah,aah];unfold sizeLine;omega
  refine⟨[some (.sh,.tup [.int p,.int q]),some (.sh,.rl (us.map fE)),some (.ow,.rl (((pre++[t]).map turnT).map fE)),some (.sh,.int t.1),some (.sh,.int t.2.1),some (.sh,.int t.2.2)],?_,_,_,_,rfl⟩;have ea:((pre++[t]).map turnT).map fE=(pre.map turnT).map fE++[fE (turnT t)]:=by simp
  simp only[EV,KS,z3,z,ea];rfl
 ·rintro env ⟨a,b,c,rfl⟩;simp only[EV,jO oU,jO oV,z2,yr (show (us.map turnT).length<64 by rw[length_map];omega)];rfl
theorem Dt{p q:Int}(hl:us.length<=16):cJ [eX p q us]=.ok (true,eX (if q<p then q else p) (if q>p then q else p) (kB (us.map turnT))):=by
 have e:=order_eq (p:=p) (q:=q) hl;unfold cJ iM;unfold eX at e |-;simp only[EV,jY,jO oU,jO oV,e]
end K35
end
section
open PySem L2 Hv
namespace K35
def nameV(t:T3):Val:=.int t.1
theorem Ll(h:t.2.1<=t.2.2):turnT t=t:=by
 obtain⟨a,b,c⟩:=t;unfold turnT;dsimp only at h |-;rw[Prod.mk.injEq,Prod.mk.injEq];refine⟨rfl,?_,?_⟩<;>split<;>omega
theorem Lm:∀{l:List T3},(∀y∈l,x.1<y.1)->rZ x l=x::l
 |[],_=>rfl
 | y::r,h=>by
  rw[rZ];have lx:HT.lexLt (l3 y) (l3 x)=decide (y.1<x.1):=by show HT.lexLt (y.1::_) (x.1::_)=_;have:=h y aan;rw[HT.fX,aal (by omega)]
  have:=h y aan;rw[lx,aal (by simp;omega)]
theorem yU:∀{l:List T3},Iz l->kB l=l
 |[],_=>rfl
 | x::r,h=>by
  unfold Iz at h;rw[aa2]at h;rw[kB,yU h.2,Lm h.1]
theorem Qk{p q:Int}(ok:aT p q ts):cJ [eX p q ts]=.ok (true,eX p q ts):=by
 have e:=Dt (p:=p) (q:=q) (us:=ts) (aaM ok.len (by decide));have em:ts.map turnT=ts:=by rw[map_congr_left λt ht=>Ll (ok.ends t ht)];exact map_id _
 have ep:(if q<p then q else p)=p:=by have:=ok.ord;split<;>omega
 have eq:(if q>p then q else p)=q:=by have:=ok.ord;split<;>omega
 rw[em,yU ok.up,ep,eq]at e;exact e
theorem Hy:∀ts:List T3,bS ID (ts.map fE)=some ts
 |[]=>rfl
 |t::r=>by rw[aap,bS,show ID (fE t)=some t from rfl,bind_some,Hy r];rfl
def mF(c:Nat)(p q:Int)(ts:List T3):Val:=.ob c ["net","places","ends"] [eX p q ts,.rl ((o8 p q ts).map .int),.dc ((bV p q ts).map (·.1)) ((bV p q ts).map (·.2))]
def j3(c:Nat)(p q:Int)(ts:List T3)(w:Int):Val:=.ob c ["net","places","ends","whole"] [eX p q ts,.rl ((o8 p q ts).map .int),.dc ((bV p q ts).map (·.1)) ((bV p q ts).map (·.2)),.int w]
theorem nY{c jo jp:Nat}{p q:Int}(h1:Ψ jo=cJ)(h2:Ψ jp=b9)(ok:aT p q ts):ly Ψ c jo jp [eX p q ts]=.ok (true,mF c p q ts):=by
 have e1:=Qk ok;have e2:=places_eq (p:=p) (q:=q) ok.len;unfold ly;dsimp only;rw[h1,e1];unfold eX at e2 |-;dsimp only;rw[Hy,bX,aS,h2];unfold pg;rw[aai (decide_eq_true (by have:=ok.len;omega)),e2];rfl
def nms(ts:List T3):List Int:=-1::ts.map (·.1)
theorem pe(h:a.length+b.length<=sizeLine):kK .add (.rl a) (.rl b)=.ok (bK (a++b),.rl (a++b)):=by
 show pg _ _=_;unfold pg;rw[aai (decide_eq_true h)]
theorem Hz{c:Nat}{p q:Int}{ts:List T3}{m:Str}{js:List (Nat×Nat)}{j:Nat}(hj:js.lookup c=some j)(h:m ≠ "net" /\ m ≠ "places" /\ m ≠ "ends" /\ m ≠ "whole"):lY [] (mF c p q ts) m js=some j:=by
 unfold mF lY;dsimp only;have e:∀vs:List Val,vs.length=3->((["net","places","ends"]:List Str).zip vs).lookup m=none:=λvs hv=>by
  match vs,hv with
  |[a,b,c],_=>rw[zip_cons_cons,aaR,beq_false_of_ne h.1,zip_cons_cons,aaR,beq_false_of_ne h.2.1,zip_cons_cons,aaR,beq_false_of_ne h.2.2.1];rfl
 rw[e _ rfl];exact hj
theorem sI{c:Nat}{p q w:Int}{ts:List T3}{m:Str}{js:List (Nat×Nat)}{j:Nat}(hj:js.lookup c=some j)(h:m ≠ "net" /\ m ≠ "places" /\ m ≠ "ends" /\ m ≠ "whole"):lY [] (j3 c p q ts w) m js=some j:=by
 unfold j3 lY;dsimp only;have e:∀vs:List Val,vs.length=4->((["net","places","ends","whole"]:List Str).zip vs).lookup m=none:=λvs hv=>by
  match vs,hv with
  |[a,b,c,d],_=>rw[zip_cons_cons,aaR,beq_false_of_ne h.1,zip_cons_cons,aaR,beq_false_of_ne h.2.1,zip_cons_cons,aaR,beq_false_of_ne h.2.2.1,zip_cons_cons,aaR,beq_false_of_ne h.2.2.2];rfl
 rw[e _ rfl];exact hj
theorem Du{c:Nat}(hc:c<3){p q w:Int}:jv 3 [] (j3 c p q ts w) "whole" = some (.int w):=by
 unfold j3 jv;dsimp only;rw[aai hc];rfl
theorem fO(l:List Int):bK (l.map Val.int)=true:=aX l
theorem HD{p q:Int}(ok:aT p q ts):sortI (nms ts)=nms ts:=by
 refine(eq_sortI (List.Perm.refl _) ?_).symm;unfold nms;rw[aa2];refine⟨λx hx=>?_,?_⟩
 ·obtain⟨t,ht,rfl⟩:=aaX.mp hx;have:=ok.names t ht;omega
 ·rw[pairwise_map];have:=ok.up;unfold Iz at this;exact this.imp λh=>by omega
theorem pq{p q:Int}(ok:aT p q ts):(nms ts).Nodup:=by
 unfold nms;rw[aaP];refine⟨λh=>?_,?_⟩
 ·obtain⟨t,ht,e⟩:=aaX.mp h;have:=ok.names t ht;omega
 ·have:=ok.up;unfold Iz at this;rw[List.Nodup,pairwise_map];exact this.imp λh=>by omega
theorem tyi(t:Int):jy (.isin "int") [.int t]=.ok (true,.bl true):=oW (t:="int") rfl (by decide)
theorem Xh(t:Int):jy (.isin "bool") [.int t]=.ok (true,.bl false):=Ah (t:="int") rfl (by decide)
theorem Lo(l:List Int):cop [] .ne (.rl (l.map .int)) (.rl (l.map .int))=some false:=by
 refine ne_self (rW Val.int PyData.int l λ_ _=>rfl) ?_;rw[PyData.canLay0];exact gb _ _ λt _=>by rw[PyData.canLay0]
def sJ:List Int->Int->List Int
 |[],_=>[]
 |x::r,c=>if c%2=1 then x::sJ r (c/2) else sJ r (c/2)
theorem sM:∀(ns:List Int) (c:Int),(sJ ns c).Sublist ns
 |[],_=>.slnil
 | x::r,c=>by
  rw[sJ]
  split
  ·exact(sM r _).cons_cons x
  ·exact(sM r _).cons x
theorem Ql(ns:List Int)(c:Int)(h:ns.length<64):nT [.rl (ns.map .int),.int c]=.ok (true,.rl ((sJ ns c).map .int)):=by
 unfold nT lD;simp only[EV,eE,show 0<=sizeLine by decide]
 repeat rw[mC]
 refine cy Val.int (λr:Pr FV=>r=.ok (true,.rl ((sJ ns c).map .int)))
  (λdone env=>∃(l:List Int) (c':Int) (a:Option (Mk×Val)),env=[some (.sh,.rl (ns.map .int)),some (.sh,.int c'),some (.ow,.rl (l.map .int)),a]/\sJ ns c=l++sJ (ns.drop done.length) c'/\l.length<=done.length)
  ⟨[],c,none,rfl,rfl,aao _⟩ ?_ ?_
 ·rintro pre x post env hx ⟨l,c',a,rfl,hl,hle⟩
  have hd:ns.drop pre.length=x::post:=by rw[hx];simp
  have hd2:ns.drop (pre++[x]).length=post:=by rw[hx];simp
  have hpl:pre.length<64:=by have:=congrArg length hx;rw[aaB,aaz]at this;omega
  have z:(l.map Val.int).length<sizeLine:=by rw[aah];unfold sizeLine;omega
  rw[hd,sJ]at hl;simp only[EV,bq,jN (show decide ((0:Int)<2)=true by decide),kh (show j7 2=true by decide)]
  by_cases e:c'%2=1
  ·rw[aai e]at hl;refine⟨_,?_,l++[x],c'/2,some (.sh,.int x),rfl,by rw[hd2,hl];simp,by simp;omega⟩;simp only[EV,e,decide_true,z,map_append,kh (show j7 2=true by decide)]
  ·rw[aal e]at hl;refine⟨_,?_,l,c'/2,some (.sh,.int x),rfl,by rw[hd2,hl],by simp;omega⟩;simp only[EV,e,decide_false,kh (show j7 2=true by decide)]
 ·rintro env ⟨l,c',a,rfl,hl,hle⟩;rw[List.drop_length,sJ,append_nil]at hl;simp only[EV,hl,fO]
def bH(p q:Int)(ts:List T3)(x:Int):Int×Int:=match ts.find? (λt=>decide (t.1=x)) with
 |some t=>(t.2.1,t.2.2)
 |none=>(p,q)
theorem HE:∀{ts:List T3},(ts.map (·.1)).Nodup->t∈ts->ts.find? (λu=>decide (u.1=t.1))=some t
 | u::r,hn,ht=>by
  rw[aap,aaP]at hn;rw[find?_cons]
  by_cases e:u.1=t.1
  ·rw[decide_eq_true e]
   rcases aaG.mp ht with rfl|ht
   ·rfl
   ·exact absurd (e▸mem_map_of_mem (f:=(·.1)) ht) hn.1
  ·rw[decide_eq_false e]
   rcases aaG.mp ht with rfl|ht
   ·exact absurd rfl e
   ·exact HE hn.2 ht
theorem sN{p q:Int}(ok:aT p q ts):(ts.map (·.1)).Nodup:=(aaP.mp (pq ok)).2
theorem Av{p q:Int}(ok:aT p q ts)(ht:t∈ts):bH p q ts t.1=(t.2.1,t.2.2):=by
 unfold bH;rw[HE (sN ok) ht]
theorem Aw{p q:Int}(ok:aT p q ts):bH p q ts (-1)=(p,q):=by
 unfold bH;rw[List.find?_eq_none.mpr λt ht=>by have:=ok.names t ht;simp;omega]
theorem qv{p q:Int}(ok:aT p q ts){x:Int}(hx:x∈nms ts):(bH p q ts x).1∈o8 p q ts/\(bH p q ts x).2∈o8 p q ts:=by
 unfold nms at hx
 rcases aaG.mp hx with rfl|hx
 ·rw[Aw ok];exact⟨qu.mpr (.inl rfl),qu.mpr (.inr (.inl rfl))⟩
 ·obtain⟨t,ht,rfl⟩:=aaX.mp hx;rw[Av ok ht];exact⟨qu.mpr (.inr (.inr ⟨t,ht,.inl rfl⟩)),qu.mpr (.inr (.inr ⟨t,ht,.inr rfl⟩))⟩
theorem B4(g:Int->Val):∀(us:List T3) (ks:List Int),(∀u∈us,u.1∉ks)->(us.map (·.1)).Nodup->(∀u∈us,g u.1=.tup [.int u.2.1,.int u.2.2]) ->
  us.foldl jQ (ks.map λx=>((Sum.inl x:Key),g x))=(ks++us.map (·.1)).map λx=>((Sum.inl x:Key),g x)
 |[],ks,_,_,_=>by simp
 | u::r,ks,h1,h2,h3=>by
  rw[aap,aaP]at h2;have e:jQ (ks.map λx=>((Sum.inl x:Key),g x)) u=(ks++[u.1]).map λx=>((Sum.inl x:Key),g x):=by unfold jQ iW;rw[Ak,aal (by simpa using h1 u aan),map_append,aap,map_nil,h3 u aan]
  rw[List.foldl_cons,e,B4 g r (ks++[u.1]) (λv hv z=>?_) h2.2 λv hv=>h3 v (aam _ hv)]
  ·simp
  ·rcases aaL.mp z with z|z
   ·exact h1 v (aam _ hv) z
   ·rw[aau]at z;exact h2.1 (z▸mem_map_of_mem (f:=(·.1)) hv)
def kq(p q:Int)(ts:List T3)(x:Int):Val:=nX (bH p q ts x)
def gq(p q:Int)(ts:List T3):Val:=mD (nms ts) (kq p q ts)
theorem B5{p q:Int}(ok:aT p q ts):Val.dc ((bV p q ts).map (·.1)) ((bV p q ts).map (·.2))=gq p q ts:=by
 have e:bV p q ts=(nms ts).map λx=>((Sum.inl x:Key),kq p q ts x):=by
  have h:=B4 (kq p q ts) ts [-1] (λu hu z=>by
   rw[aau]at z;have:=ok.names u hu;omega) (sN ok) λu hu=>by unfold kq;rw[Av ok hu];rfl
  unfold bV nms;rw[aap,map_nil]at h;have e1:kq p q ts (-1)=.tup [.int p,.int q]:=by unfold kq;rw[Aw ok];rfl
  rw[e1]at h;exact h
 rw[e,aaW,aaW];rfl
structure HF (o:Val) (p q:Int) (ts:List T3):Prop where
 net:jv 3 [] o "net" = some (eX p q ts)
 places:jv 3 [] o "places" = some (.rl ((o8 p q ts).map .int))
 ends:jv 3 [] o "ends" = some (gq p q ts)
theorem wu{c:Nat}(hc:c<3){p q:Int}(ok:aT p q ts):HF (mF c p q ts) p q ts:=by
 refine⟨?_,?_,?_⟩
 ·unfold mF jv;dsimp only;rw[aai hc];rfl
 ·unfold mF jv;dsimp only;rw[aai hc];rfl
 ·rw[<-B5 ok];unfold mF jv;dsimp only;rw[aai hc];rfl
theorem wz{c:Nat}(hc:c<3){p q w:Int}(ok:aT p q ts):HF (j3 c p q ts w) p q ts:=by
 refine⟨?_,?_,?_⟩
 ·unfold j3 jv;dsimp only;rw[aai hc];rfl
 ·unfold j3 jv;dsimp only;rw[aai hc];rfl
 ·rw[<-B5 ok];unfold j3 jv;dsimp only;rw[aai hc];rfl
theorem HG{p q:Int}(h:ts.length<=14):iO [eX p q ts]=.ok (true,.rl (ts.map nameV)):=by
 unfold iO gF eX;have hc:ts.length<=100000:=by omega
 simp only[EV,jO oV,eE,gS,length_map,hc];rw[iI fE nameV ts (λt ht=>by
  have i0:ju [] (fE t) (.int 0)=some (.int t.1):=rfl;simp only[EV,bq,i0,nameV])]
 simp only[EV,aS]
theorem wD{p q:Int}(ro:HF o p q ts)(h:ts.length<=14):cA [o]=.ok (true,.rl ((nms ts).map .int)):=by
 have e1:=HG (p:=p) (q:=q) h;unfold cA fH;have z1:1<=sizeLine:=by decide
 have z:([.int (-1)]:List Val).length+(ts.map nameV).length<=sizeLine:=by rw[aah];simp;unfold sizeLine;omega
 simp only[EV,ro.net,kM,e1,z1,pe z];have em:[Val.int (-1)]++ts.map nameV=(nms ts).map .int:=by unfold nms;rw[aap,aaW];rfl
 have en:bK (ts.map nameV)=true:=by rw[show ts.map nameV=(ts.map (·.1)).map Val.int by rw[aaW];rfl];exact fO _
 rw[show Val.int (-1)::ts.map nameV=(nms ts).map .int from em,en]
theorem sO(p q:Int)(ts:List T3)(x:Int):j8 (kq p q ts x)=true:=rfl
theorem HH{p q:Int}{x:Int}:ju [] (kq p q ts x) (.int 0)=some (.int (bH p q ts x).1):=rfl
theorem HJ{p q:Int}{x:Int}:ju [] (kq p q ts x) (.int 1)=some (.int (bH p q ts x).2):=rfl
theorem wF{p q:Int}{x:Int}(h:x∈nms ts):ju [] (gq p q ts) (.int x)=some (kq p q ts x):=oY h
theorem HK(p q:Int)(ts:List T3):∀l:List Int,bK (l.map (kq p q ts))=true
 |[]=>rfl
 |x::r=>by rw[aap,bK,HK p q ts r];rfl
theorem jk{p q:Int}(ok:aT p q ts):(nms ts).length<=15:=by
 have:=ok.len;unfold nms;simp;omega
def lX(p q:Int)(ts:List T3)(P:List Int):Nat:=tr (o8 p q ts) (P.map (bH p q ts))
theorem HL{p q:Int}(ok:aT p q ts){P:List Int}(hP:∀x∈P,x∈nms ts):QY (o8 p q ts) (P.map (bH p q ts)):=λe he=>by
 obtain⟨x,hx,rfl⟩:=aaX.mp he;exact qv ok (hP x hx)
theorem sP{p q:Int}(ok:aT p q ts)(ro:HF o p q ts){P:List Int}(hP:∀x∈P,x∈nms ts)(hl:P.length<=15):aZ [o,.rl (P.map .int)]=.ok (true,.int (lX p q ts P)):=by
 have hpl:=Lj (p:=p) (q:=q) ok.len;have Vu:(o8 p q ts).Nodup:=gg _;obtain⟨f,φ,ef,IF⟩:=Ds (o8 p q ts) Vu hpl (P.map (bH p q ts)) (λe he=>by
  obtain⟨x,hx,rfl⟩:=aaX.mp he;exact qv ok (hP x hx))
 have et:lX p q ts P=rk φ (o8 p q ts):=nK IF Vu;rw[et];rw[aaW]at ef;unfold aZ b7;have hc:P.length<=100000:=by omega
 have hc2:(o8 p q ts).length<=100000:=by omega
 simp only[EV,ro.places,ro.ends,eE,gS,length_map,hc];rw[iI Val.int (kq p q ts) P (λx hx=>by
  simp only[EV,bq,ro.ends,wF (hP x hx),sO])]
 have ef':eF [.rl ((o8 p q ts).map .int),.rl (P.map (kq p q ts))]=.ok (f,mD (o8 p q ts) λx=>.int (φ x)):=ef;simp only[EV,ic,ef',ro.places,eE,gS,length_map,hc2];rw[dW Val.int Val.int (λx=>!decide (φ x=x)) (o8 p q ts) (λx hx=>by
  have hi:=oY (g:=λx=>Val.int (φ x)) hx;simp only[EV,bq,hi]
  by_cases c:φ x=x
  ·simp[c]
  ·simp[c])]
 simp only[EV,length_map];rfl
theorem HM{c jo jp jt jr:Nat}(hc:c<3){p q:Int}(h1:Ψ' jo=cJ)(h2:Ψ' jp=b9)(h3:Ψ jt=cA)(h4:Ψ jr=aZ)(ok:aT p q ts) :
  uU Ψ' Ψ c jo jp jt jr [eX p q ts]=.ok (true,j3 c p q ts (lX p q ts (nms ts))):=by
 have e3:=wD (wu hc ok) ok.len;have e1:=sP ok (wu hc ok) (P:=nms ts) (λ_ h=>h) (jk ok);rw[<-h3]at e3;rw[<-h4]at e1;exact Ga (nY h1 h2 ok) e3 e1
def others(ts:List T3)(P:List Int):List Int:=(nms ts).filter λx=>!decide (x∈P)
theorem mZ{P:List Int}:∀x∈others ts P,x∈nms ts:=λx hx=>(aaC.mp hx).1
theorem B6{p q:Int}(ok:aT p q ts){P:List Int}:(others ts P).length<=15:=aaM (length_filter_le _ _) (jk ok)
theorem HN{c:Nat}(hc:c<3)(jt:([(0,18),(1,18),(2,18)]:List (Nat×Nat)).lookup c=some 18)(jr:([(0,16),(1,16),(2,16)]:List (Nat×Nat)).lookup c=some 16){p q w:Int}(ok:aT p q ts){P:List Int}:cK [j3 c p q ts w,.rl (P.map .int)]=.ok (true,.int ((P.length:Int)-w+lX p q ts (others ts P))):=by
 have e1:=sP ok (wz (w:=w) hc ok) (P:=others ts P) mZ (B6 ok);have e3:=wD (wz (w:=w) hc ok) ok.len;have hl:(nms ts).length<=100000:=by have:=jk ok;omega
 have m1:=sI (p:=p) (q:=q) (w:=w) (ts:=ts) (m:="ties") jt (by decide);have m2:=sI (p:=p) (q:=q) (w:=w) (ts:=ts) (m:="tree_rank") jr (by decide);unfold cK cS;simp only[EV,m1,jD,e3,eE,gS,length_map,hl];rw[dW Val.int Val.int (λx=>!decide (x∈P)) (nms ts) (λx hx=>by
  simp only[EV,bq,FT]
  by_cases c:x∈P
  ·simp[c]
  ·simp[c])]
 have XC:aZ [j3 c p q ts w,.rl (((nms ts).filter λx=>!decide (x∈P)).map .int)]=.ok (true,.int (lX p q ts (others ts P))):=e1;simp only[EV,m2,gK,XC,Du hc,length_map]
theorem u5:∀ks:List Int,bT (ks.map Val.int)=some ks
 |[]=>rfl
 | k::r=>by
  have:=u5 r;unfold bT at this |-;rw[aap,bS,this];rfl
theorem Lp{ks ms:List Int}(h:ks.length<=100000):qX [] (ks.map Sum.inl) (.rl (ms.map .int))=some (ks.filter λx=>!decide (x∈ms)):=by
 unfold qX;rw[se,bind_some,show aG [] (.rl (ms.map .int))=some (ms.map .int) from rfl,bind_some,u5,bind_some,aai h]
 congr 1
 refine filter_congr λx _=>?_
 congr 1
 rw[Bool.eq_iff_iff,List.any_eq_true,aaZ];constructor
 ·rintro⟨m,hm,e⟩;rw[<-eq_of_beq e];exact hm
 ·exact λhm=>⟨x,hm,beq_self_eq_true _⟩
end K35
end
section
open PySem L2 Hv
namespace K35
theorem yV{p q:Int}(ok:aT p q ts):lH [eX p q ts]=.ok (true,gq p q ts):=by
 have hl:=ok.len;unfold lH jU eX;have em:kq p q ts (-1)=.tup [.int p,.int q]:=by unfold kq;rw[Aw ok];rfl
 simp only[EV,jO oU,jO oV,rX,eE,show (-(1:Int)) = -1 from rfl]
 repeat rw[mC]
 refine cy fE (λr:Pr FV=>r=.ok (true,gq p q ts))
  (λdone env=>∃a b c,env=[some (.sh,.tup [.tup [.int p,.int q],.rl (ts.map fE)]),some (.ow,mD (nms done) (kq p q ts)),a,b,c])
  ⟨none,none,none,by unfold nms mD;rw[map_nil,aap,aap,em];rfl⟩ ?_ ?_
 ·rintro pre t post env hx ⟨a,b,c,rfl⟩
  have hp:pre.length<=14:=by have:=congrArg length hx;rw[aaB,aaz]at this;omega
  have hnew:t.1∉nms pre:=λz=>by
   unfold nms at z;have hn:=sN ok;rw[hx,map_append,aap,aaN]at hn
   rcases aaG.mp z with z|z
   ·have:=ok.names t (by rw[hx];simp);omega
   ·exact hn.2.2 t.1 z t.1 aan rfl
  have zz:((nms pre).map (Sum.inl:Int->Key)).length<sizeLine:=by rw[aah];unfold nms;simp;unfold sizeLine;omega
  have z2:2<=sizeLine:=by decide
  have bt:∀env:aO,cD (.tup [2,3,4]) (fE t) env=some (((env.set 2 (some (.sh,.int t.1))).set 3 (some (.sh,.int t.2.1))).set 4 (some (.sh,.int t.2.2))):=λ_=>rfl;refine⟨_,?_,some (.sh,.int t.1),some (.sh,.int t.2.1),some (.sh,.int t.2.2),rfl⟩;simp only[EV,bt,rX,zz,z2,vZ hnew];have eD:mD (nms pre++[t.1]) (oX (kq p q ts) t.1 (.tup [.int t.2.1,.int t.2.2]))=mD (nms (pre++[t])) (kq p q ts):=by
   rw[show nms (pre++[t])=nms pre++[t.1] by unfold nms;simp];refine cH λy hy=>?_;unfold oX
   split
   ·rename_i e;rw[e];unfold kq;rw[Av ok (by rw[hx];simp)];rfl
   ·rfl
  rw[eD]
 ·rintro env ⟨a,b,c,rfl⟩;simp only[EV,HK];rfl
theorem Dv{p q:Int}(ok:aT p q ts){P:List Int}(hP:∀x∈P,x∈nms ts)(hl:P.length<=15):∃(n:Nat) (ψ:Int->Int) (ks:List Int),gn [gq p q ts,.rl (P.map .int)]=.ok (true,.int n)/\De (o8 p q ts) ks (P.map (bH p q ts)) ψ n:=by
 have Vu:(o8 p q ts).Nodup:=gg _;unfold gn gD;simp only[EV,eE]
 repeat rw[mC]
 refine cy Val.int (λr:Pr FV=>∃(n:Nat) (ψ:Int->Int) (ks:List Int),r=.ok (true,.int n)/\De (o8 p q ts) ks (P.map (bH p q ts)) ψ n)
  (λdone env=>∃(n:Nat) (ψ:Int->Int) (ks:List Int) (a b c d:Option (Mk×Val)),env=[some (.sh,gq p q ts),some (.sh,.rl (P.map .int)),some (.ow,mD ks λx=>.int (ψ x)),some (.sh,.int n),a,b,c,d]/\De (o8 p q ts) ks (done.map (bH p q ts)) ψ n)
  ⟨0,id,[],none,none,none,none,rfl,De.start Vu⟩ ?_ ?_
 ·rintro pre x post env hx ⟨n,ψ,ks,a,b,c,d,rfl,m⟩
  have hxm:x∈P:=by rw[hx];simp
  have hxn:=hP x hxm;obtain⟨h1,h2⟩:=qv ok hxn;have hpre:pre.length<=14:=by have:=congrArg length hx;rw[aaB,aaz]at this;omega
  have hks:ks.length<=28:=by have:=m.len;rw[aah]at this;omega
  have gd:∀y:Int,((if y∈ks then some (Val.int (ψ y)) else none).getD (.int y))=.int (ψ y):=λy=>by
   by_cases h:y∈ks
   ·rw[aai h];rfl
   ·rw[aal h,m.off y h];rfl
  have isd:EB [] (mD ks λx=>Val.int (ψ x))=some ():=rfl;simp only[EV,bq,wF hxn,HH,HJ,sO,isd,rX,PV,gd];have est:(pre++[x]).map (bH p q ts)=pre.map (bH p q ts)++[((bH p q ts x).1,(bH p q ts x).2)]:=by rw[map_append];rfl
  rw[est]
  by_cases c:ψ (bH p q ts x).1 = ψ (bH p q ts x).2
  ·refine⟨[some (.sh,gq p q ts),some (.sh,.rl (P.map .int)),some (.ow,mD ks λx=>.int (ψ x)),some (.sh,.int n),some (.sh,.int x),some (.sh,.int (ψ (bH p q ts x).1)),some (.sh,.int (ψ (bH p q ts x).2)),d],?_,n,ψ,ks,_,_,_,_,rfl,m.stay h1 h2 c⟩;simp only[EV,c,not_true,decide_false]
  ·have m2:=m.join h1 h2 c
   generalize UN:fj (fj ks (bH p q ts x).1) (bH p q ts x).2=ks' at m2;have zz:∀l:List Int,l.length<=40->(l.map (Sum.inl:Int->Key)).length<sizeLine:=λl h=>by rw[aah];unfold sizeLine;omega
   have l1:(fj ks (bH p q ts x).1).length<=40:=by have:=lz ks (bH p q ts x).1;omega
   have l2:ks'.length<=40:=by have:=lz (fj ks (bH p q ts x).1) (bH p q ts x).2;rw[UN]at this;have:=lz ks (bH p q ts x).1;omega
   have pt1:=BQ (ks:=ks) (ψ:=ψ) (a:=(bH p q ts x).1);have YT:=BQ (ks:=fj ks (bH p q ts x).1) (ψ:=ψ) (a:=(bH p q ts x).2);rw[UN] at YT;have ky:nt [] (mD ks' λx=>Val.int (ψ x))=some (ks'.map Sum.inl):=rfl;have kv:(ks'.map (Sum.inl:Int->Key)).map CO=ks'.map Val.int:=by rw[aaW];rfl
   simp only[EV,c,not_false_iff,decide_true,wF hxn,HH,HJ,sO,rX,zz ks (by omega),zz _ l1,pt1,YT,ky,kv,eE]
   repeat rw[mC]
   refine cy Val.int (λr:Pr wI=>∃env',r=.ok (.nx env')/\∃(n:Nat) (ψ:Int->Int) (ks:List Int) (a b c d:Option (Mk×Val)),env'=[some (.sh,gq p q ts),some (.sh,.rl (P.map .int)),some (.ow,mD ks λx=>.int (ψ x)),some (.sh,.int n),a,b,c,d]/\De (o8 p q ts) ks (pre.map (bH p q ts)++[((bH p q ts x).1,(bH p q ts x).2)]) ψ n)
    (λdone env=>∃a,env=[some (.sh,gq p q ts),some (.sh,.rl (P.map .int)),some (.ow,mD ks' λy=>.int (if y∈done /\ ψ y = ψ (bH p q ts x).2 then ψ (bH p q ts x).1 else ψ y)),some (.sh,.int ((n:Int)+1)),some (.sh,.int x),some (.sh,.int (ψ (bH p q ts x).1)),some (.sh,.int (ψ (bH p q ts x).2)),a])
    ?_ ?_ ?_
   ·exact⟨d,by simp⟩
   ·rintro done y post env hy ⟨a,rfl⟩
    have hn:=m2.nd;have hyp:y∉done:=by rw[hy,aaN]at hn;exact λh=>hn.2.2 y h y (by simp) rfl
    have hys:y∈ks':=by rw[hy];simp
    refine⟨_,?_,some (.sh,.int y),rfl⟩;simp only[EV,bq,oY hys,rX,zz ks' l2,vY hys,hyp,false_and,if_false]
    by_cases hg:ψ y = ψ (bH p q ts x).2
    ·simp only[hg,↓reduceIte]
     rw[cH];intro z _;unfold oX
     by_cases e:z=y
     ·subst e;simp[hg]
     ·simp[e]
    ·simp only[hg,↓reduceIte]
     rw[cH];intro z _
     by_cases e:z=y
     ·subst e;simp[hg]
     ·simp[e]
   ·rintro env ⟨a,rfl⟩
    refine⟨_,rfl,n+1,(λy=>if ψ y = ψ (bH p q ts x).2 then ψ (bH p q ts x).1 else ψ y),ks',some (.sh,.int x),some (.sh,.int (ψ (bH p q ts x).1)),some (.sh,.int (ψ (bH p q ts x).2)),a,?_,m2⟩;rw[cH (g':=λy=>.int (if ψ y = ψ (bH p q ts x).2 then ψ (bH p q ts x).1 else ψ y))]
    ·rfl
    ·intro z hz;simp[hz]
 ·rintro env ⟨n,ψ,ks,a,b,c,d,rfl,m⟩;simp only[EV,aS];exact⟨n,ψ,ks,rfl,m⟩
theorem sS{p q:Int}(ok:aT p q ts){P:List Int}(hP:∀x∈P,x∈nms ts)(hl:P.length<=15):gn [gq p q ts,.rl (P.map .int)]=.ok (true,.int (lX p q ts P)):=by
 obtain⟨n,ψ,ks,e,m⟩:=Dv ok hP hl;rw[e,PY m.IF (gg _) m.num];rfl
end K35
end
section
open PySem L2 Hv
namespace K35
theorem HP{p q:Int}{P Q:List Int}{x:Int}(h:∀y,y∈Q↔y∈P\/y=x):∀e,e∈Q.map (bH p q ts)↔e∈P.map (bH p q ts)\/e=((bH p q ts x).1,(bH p q ts x).2):=λe=>by
 constructor
 ·intro he
  obtain⟨y,hy,rfl⟩:=aaX.mp he
  rcases(h y).mp hy with hy|rfl
  ·exact .inl (mem_map_of_mem hy)
  ·exact .inr rfl
 ·rintro(he|rfl)
  ·obtain⟨y,hy,rfl⟩:=aaX.mp he;exact mem_map_of_mem ((h y).mpr (.inl hy))
  ·exact mem_map_of_mem (f:=bH p q ts) ((h x).mpr (.inr rfl))
section
variable {p q:Int} {ts:List T3}
def Wy(p q:Int)(ts:List T3)(P:List Int)(x:Int):Prop:=Way (P.map (bH p q ts)) (bH p q ts x).1 (bH p q ts x).2
theorem Wy.mono{P Q:List Int}(h:∀y∈P,y∈Q){x:Int}(w:Wy p q ts P x):Wy p q ts Q x:=by
 unfold Wy at w |-;refine Way.mono (λe he=>?_) w;obtain⟨y,hy,rfl⟩:=aaX.mp he;exact mem_map_of_mem (h y hy)
open Classical in
theorem Mc(ok:aT p q ts){P Q:List Int}{x:Int}(hP:∀y∈P,y∈nms ts)(hx:x∈nms ts)(h:∀y,y∈Q↔y∈P\/y=x):lX p q ts Q=lX p q ts P+if Wy p q ts P x then 0 else 1:=by
 obtain⟨h1,h2⟩:=qv ok hx;exact K0 (ps:=o8 p q ts) (gg _) (HL ok hP) h1 h2 (HP (p:=p) (q:=q) (ts:=ts) h)
theorem sU(ok:aT p q ts){P Q:List Int}{x:Int}(hP:∀y∈P,y∈nms ts)(hx:x∈nms ts)(h:∀y,y∈Q↔y∈P\/y=x):lX p q ts P<=lX p q ts Q/\lX p q ts Q<=lX p q ts P+1:=by
 rw[Mc ok hP hx h]
 split<;>omega
theorem B7(ok:aT p q ts){P Q:List Int}{x:Int}(hP:∀y∈P,y∈nms ts)(hx:x∈nms ts)(h:∀y,y∈Q↔y∈P\/y=x):Wy p q ts P x↔lX p q ts Q=lX p q ts P:=by
 rw[Mc ok hP hx h]
 split
 ·exact⟨λ_=>rfl,λ_=>‹_›⟩
 ·exact⟨λw=>absurd w ‹_›,λe=>by omega⟩
theorem yW(ok:aT p q ts){P Q:List Int}(hP:∀y∈P,y∈nms ts)(h:∀y,y∈P↔y∈Q):lX p q ts P=lX p q ts Q:=by
 refine yz (gg _) (HL ok hP) λe=>⟨λhe=>?_,λhe=>?_⟩
 ·obtain⟨y,hy,rfl⟩:=aaX.mp he;exact mem_map_of_mem ((h y).mp hy)
 ·obtain⟨y,hy,rfl⟩:=aaX.mp he;exact mem_map_of_mem ((h y).mpr hy)
theorem gM{R:List Int}{x:Int}(y:Int):y∈R++[x]↔y∈R\/y=x:=by simp
theorem nZ{R:List Int}{x:Int}(hR:∀y∈R,y∈nms ts)(hx:x∈nms ts):∀y∈R++[x],y∈nms ts:=λy hy=>by
 rcases(gM y).mp hy with h|rfl
 ·exact hR y h
 ·exact hx
theorem Lq:lX p q ts []=0:=by
 unfold lX;rw[map_nil,nK (ps:=o8 p q ts) (kP.start _) (gg _)];unfold rk;simp
theorem n5{P:List Int}{y:Int}:y∈others ts P↔y∈nms ts/\y∉P:=by
 unfold others;rw[aaC];simp
end
end K35
end
section
open PySem L2 Hv
namespace K35
structure kN (N:List Int) (r:List Int->Int):Prop where
 nil:r []=0
 same:∀P Q:List Int,P.Nodup->Q.Nodup->(∀y∈P,y∈N)->(∀y,y∈P↔y∈Q)->r P=r Q
 step:∀(P:List Int) (x:Int),P.Nodup->(∀y∈P,y∈N)->x∈N->x∉P->r (P++[x])=r P\/r (P++[x])=r P+1
 loc:∀(P Q:List Int) (x:Int),P.Nodup->Q.Nodup->(∀y∈Q,y∈N)->(∀y∈P,y∈Q)->x∈N->x∉Q->r (P++[x])=r P->r (Q++[x])=r Q
theorem ja{P:List Int}{x:Int}(hn:P.Nodup)(hx:x∉P):(P++[x]).Nodup:=by
 rw[aaN];exact⟨hn,by simp,λa ha b hb e=>hx (by rw[aau]at hb;rw[<-hb,<-e];exact ha)⟩
theorem HQ{P D:List Int}{x:Int}(h:(P++x::D).Nodup):P.Nodup/\x∉P:=by
 rw[aaN]at h;exact⟨h.1,λhx=>h.2.2 x hx x aan rfl⟩
theorem sV(P D:List Int)(x:Int):P++x::D=(P++[x])++D:=by rw[List.append_assoc];rfl
section
variable {N:List Int} {r:List Int->Int} (h:kN N r)
include h
theorem kN.app:∀(D P:List Int),(P++D).Nodup->(∀y∈P++D,y∈N)->r P<=r (P++D)/\r (P++D)<=r P+D.length
 |[],P,_,_=>by rw[append_nil];exact⟨Int.le_refl _,by simp⟩
 | x::D,P,hn,hi=>by
  obtain⟨n1,n2⟩:=HQ hn;have s:=h.step P x n1 (λy hy=>hi y (aaT _ hy)) (hi x (aaI _ aan)) n2;rw[sV]at hn hi |-;have ih:=kN.app D (P++[x]) hn hi;rw[aaz];omega
theorem kN.bound{P:List Int}(hn:P.Nodup)(hP:∀y∈P,y∈N):0<=r P/\r P<=P.length:=by
 have:=h.app P [] hn hP;rw[h.nil,nil_append]at this;omega
theorem kN.mono{P Q:List Int}(hp:P.Nodup)(hq:Q.Nodup)(hQ:∀y∈Q,y∈N)(hs:∀y∈P,y∈Q):r P<=r Q:=by
 have nd:(P++Q.filter λy=>!decide (y∈P)).Nodup:=by rw[aaN];exact⟨hp,hq.sublist aaS,λa ha b hb e=>by subst e;have:=(aaC.mp hb).2;simp[ha]at this⟩
 have mm:∀y,y∈(P++Q.filter λy=>!decide (y∈P))↔y∈Q:=λy=>by
  rw[aaL,aaC];constructor
  ·rintro(z|z)
   ·exact hs y z
   ·exact z.1
  ·intro z
   by_cases c:y∈P
   ·exact .inl c
   ·exact .inr ⟨z,by simpa using c⟩
 have:=(h.app _ P nd λy hy=>hQ y ((mm y).mp hy)).1;rwa [h.same _ Q nd hq (λy hy=>hQ y ((mm y).mp hy)) mm]at this
theorem kN.close:∀(E P:List Int),(P++E).Nodup->(∀y∈P++E,y∈N)->(∀x∈E,r (P++[x])=r P)->r (P++E)=r P
 |[],P,_,_,_=>by rw[append_nil]
 | x::E,P,hn,hi,hE=>by
  obtain⟨n1,n2⟩:=HQ hn;have hP:∀y∈P,y∈N:=λy hy=>hi y (aaT _ hy);have hx:=hi x (aaI _ aan);have e1:=hE x aan;have hall:∀y∈E,y∈N/\y∉P++[x]:=λy hy=>⟨hi y (aaI _ (aam _ hy)),λz=>by
   rw[sV,aaN]at hn;exact hn.2.2 y z y hy rfl⟩
  rw[sV]at hn hi |-;rw[kN.close E (P++[x]) hn hi λy hy=>h.loc P (P++[x]) y n1 (ja n1 n2) (λy hy=>by rcases(gM y).mp hy with q|rfl;exact hP y q;exact hx) (λz hz=>aaT _ hz) (hall y hy).1 (hall y hy).2 (hE y (aam _ hy)),e1]
def ig(N:List Int)(r:List Int->Int)(P:List Int):List Int:=N.filter λx=>decide (x∈P)||decide (r (P++[x])=r P)
omit h in
theorem jl{P:List Int}{x:Int}:x∈ig N r P↔x∈N/\(x∈P\/r (P++[x])=r P):=by
 unfold ig;rw[aaC,or_eq_true,aaZ,aaZ]
theorem kN.yX(hN:N.Nodup){P:List Int}(hn:P.Nodup)(hP:∀y∈P,y∈N):r (ig N r P)=r P:=by
 have hc:(ig N r P).Nodup:=by unfold ig;exact hN.sublist aaS
 have nd:(P++(ig N r P).filter λy=>!decide (y∈P)).Nodup:=by rw[aaN];exact⟨hn,hc.sublist aaS,λa ha b hb e=>by subst e;have:=(aaC.mp hb).2;simp[ha]at this⟩
 have mm:∀y,y∈(P++(ig N r P).filter λy=>!decide (y∈P))↔y∈ig N r P:=λy=>by
  rw[aaL,aaC];constructor
  ·rintro(z|z)
   ·exact jl.mpr ⟨hP y z,.inl z⟩
   ·exact z.1
  ·intro z
   by_cases c:y∈P
   ·exact .inl c
   ·exact .inr ⟨z,by simpa using c⟩
 have hi:∀y∈(P++(ig N r P).filter λy=>!decide (y∈P)),y∈N:=λy hy=>(jl.mp ((mm y).mp hy)).1;rw[<-h.same _ _ nd hc hi mm];refine h.close _ P nd hi λx hx=>?_;obtain⟨h1,h2⟩:=aaC.mp hx;exact(jl.mp h1).2.resolve_left (by simpa using h2)
theorem kN.grow{P Q:List Int}(hp:P.Nodup)(hP:∀y∈P,y∈N)(hq:Q.Nodup)(hQ:∀y∈Q,y∈N)(fp:r P=P.length)(fq:r Q=Q.length)(hl:P.length<Q.length):∃x∈Q,x∉P/\r (P++[x])=P.length+1:=by
 refine byContradiction λno=>?_;have nd:(P++Q.filter λy=>!decide (y∈P)).Nodup:=by rw[aaN];exact⟨hp,hq.sublist aaS,λa ha b hb e=>by subst e;have:=(aaC.mp hb).2;simp[ha]at this⟩
 have hi:∀y∈P++Q.filter (λy=>!decide (y∈P)),y∈N:=λy hy=>by
  rcases aaL.mp hy with z|z
  ·exact hP y z
  ·exact hQ y (aaC.mp z).1
 have e:=h.close (Q.filter λy=>!decide (y∈P)) P nd hi λx hx=>by
  obtain⟨h1,h2⟩:=aaC.mp hx;have nx:x∉P:=by simpa using h2
  rcases h.step P x hp hP (hQ x h1) nx with z|z
  ·exact z
  ·exact absurd ⟨x,h1,nx,by omega⟩ no
 have m:=h.mono (P:=Q) (Q:=P++Q.filter λy=>!decide (y∈P)) hq nd hi λy hy=>by
  by_cases c:y∈P
  ·exact aaT _ c
  ·exact aaI _ (aaC.mpr ⟨hy,by simpa using c⟩)
 omega
end
section
variable {p q:Int} {ts:List T3}
def jF(κ:Nat)(p q:Int)(ts:List T3)(P:List Int):Int:=if κ = 0 then (P.length:Int) else if κ = 1 then (lX p q ts P:Int) else (P.length:Int)-lX p q ts (nms ts)+lX p q ts (others ts P)
theorem sW{P Q:List Int}(hp:P.Nodup)(hq:Q.Nodup)(h:∀y,y∈P↔y∈Q):P.length=Q.length :=
 Nat.le_antisymm (cY hp λx hx=>(h x).mp hx) (cY hq λx hx=>(h x).mpr hx)
theorem n6{P:List Int}{x:Int}(hx:x∈nms ts)(hn:x∉P)(y:Int):y∈others ts P↔y∈others ts (P++[x])\/y=x:=by
 rw[n5,n5,gM];constructor
 ·rintro⟨h1,h2⟩
  by_cases c:y=x
  ·exact .inr c
  ·exact .inl ⟨h1,λz=>z.elim h2 c⟩
 ·rintro(⟨h1,h2⟩|rfl)
  ·exact⟨h1,λz=>h2 (.inl z)⟩
  ·exact⟨hx,hn⟩
theorem sX(ok:aT p q ts){κ:Nat}(hk:κ < 3):kN (nms ts) (jF κ p q ts):=by
 match κ,hk with
 |0,_=>have e:∀P,jF 0 p q ts P=(P.length:Int):=λP=>aai rfl;refine⟨by rw[e];rfl,λP Q hp hq _ h=>by rw[e,e,sW hp hq h],λP x _ _ _ _=>.inr (by rw[e,e,aaB];rfl),λP Q x _ _ _ _ _ _ z=>?_⟩;rw[e,e,aaB]at z;simp at z;omega
 |1,_=>
  have e:∀P,jF 1 p q ts P=(lX p q ts P:Int):=λP=>by unfold jF;rw[aal (by decide),aai rfl]
  refine⟨by rw[e,Lq];rfl,λP Q _ _ hP h=>by rw[e,e,yW ok hP h],λP x _ hP hx _=>?_,λP Q x _ _ hQ hs hx _ z=>?_⟩
  ·have:=sU ok (Q:=P++[x]) hP hx gM;rw[e,e];omega
  ·rw[e,e]at z |-;have hP:∀y∈P,y∈nms ts:=λy hy=>hQ y (hs y hy);have w:=(B7 ok (Q:=P++[x]) hP hx gM).mpr (by omega);rw[(B7 ok (Q:=Q++[x]) hQ hx gM).mp (w.mono hs)]
 |2,_=>
  have e:∀P,jF 2 p q ts P=(P.length:Int)-lX p q ts (nms ts)+lX p q ts (others ts P):=λP=>by unfold jF;rw[aal (by decide),aal (by decide)]
  have l1:∀(P:List Int) (x:Int),((P++[x]).length:Int)=P.length+1:=λP x=>by simp
  refine⟨?_,λP Q hp hq hP h=>?_,λP x _ hP hx hn=>?_,λP Q x _ _ hQ hs hx hn z=>?_⟩
  ·have:others ts []=nms ts:=by unfold others;rw[filter_eq_self];simp
   rw[e,this,length_nil];omega
  ·rw[e,e,sW hp hq h,yW ok mZ (P:=others ts P) (Q:=others ts Q) λy=>by rw[n5,n5,h]]
  ·have:=sU ok (P:=others ts (P++[x])) (Q:=others ts P) (x:=x) mZ hx (n6 hx hn);rw[e,e,l1];omega
  ·rw[e,e,l1]at z |-
   have hnP:x∉P:=λw=>hn (hs x w);have sQ:=sU ok (P:=others ts (Q++[x])) (Q:=others ts Q) (x:=x) mZ hx (n6 hx hn);have y1:=B7 ok (P:=others ts (P++[x])) (Q:=others ts P) (x:=x) mZ hx (n6 hx hnP);have y2:=B7 ok (P:=others ts (Q++[x])) (Q:=others ts Q) (x:=x) mZ hx (n6 hx hn);have n1:¬ Wy p q ts (others ts (P++[x])) x:=λw=>by have:=y1.mp w;omega
   have n2:¬ lX p q ts (others ts Q)=lX p q ts (others ts (Q++[x])):=λw=>n1 ((y2.mpr w).mono λy hy=>by
    rw[n5]at hy |-;exact⟨hy.1,λk=>hy.2 (by rcases(gM y).mp k with k|k;exact aaT _ (hs y k);rw[k];simp)⟩)
   omega
end
end K35
end
section
open PySem L2 Hv
namespace K35
def Rw(N P:List Int):Prop:=P.Nodup/\∀y∈P,y∈N
def Fx(N:List Int)(r:List Int->Int)(A B:List Int):Prop:=(∀x∈A,x∈ig N r B)/\∀x∈B,x∈ig N r A
structure kr (N:List Int) (r:List Int->Int) (A0 B0 L R:List Int):Prop where
 sl:L.Sublist (sortI A0)
 sr:R.Sublist (sortI B0)
 fx:Fx N r L R
 most:∀A B,Rw N A->Rw N B->Fx N r A B->(∀x∈A,x∈A0)->(∀x∈B,x∈B0)->(∀x∈A,x∈L)/\∀x∈B,x∈R
theorem Rw.sub{N P Q:List Int}(h:Rw N Q)(s:P.Sublist Q):Rw N P:=⟨h.1.sublist s,λy hy=>h.2 y (s.subset hy)⟩
theorem Rw.sort{N P:List Int}(h:Rw N P):Rw N (sortI P):=⟨(aaF P).nodup_iff.mpr h.1,λy hy=>h.2 y ((aaF P).mem_iff.mp hy)⟩
theorem kr.flip{N:List Int}{A0 B0 L R:List Int}(t:kr N r A0 B0 L R):kr N r B0 A0 R L :=
 ⟨t.sr,t.sl,⟨t.fx.2,t.fx.1⟩,λA B ha hb f h1 h2=>(t.most B A hb ha ⟨f.2,f.1⟩ h2 h1).symm⟩
theorem gQ{A0 L:List Int}(s:L.Sublist (sortI A0)):∀x∈L,x∈A0:=λx hx=>(aaF A0).mem_iff.mp (s.subset hx)
theorem sub_le{A0 L:List Int}(s:L.Sublist (sortI A0)):L.Pairwise (· <= ·):=(sortI_rises A0).sublist s
theorem gO{L M:List Int}(hl:L.Nodup)(hm:M.Nodup)(h:∀x,x∈L↔x∈M)(sl:L.Pairwise (· <= ·))(sm:M.Pairwise (· <= ·)):L=M:=by
 have p:L.Perm M:=(List.perm_ext_iff_of_nodup hl hm).mpr h;exact(eq_sortI p sl).trans (eq_sortI (List.Perm.refl M) sm).symm
section
variable {N:List Int} {r:List Int->Int} (h:kN N r) (hN:N.Nodup)
include h
theorem kN.sY{P Q:List Int}(hp:Rw N P)(hq:Rw N Q)(hs:∀y∈P,y∈Q){x:Int}(hx:x∈ig N r P):x∈ig N r Q:=by
 obtain⟨h1,h2⟩:=jl.mp hx;refine jl.mpr ⟨h1,?_⟩
 rcases h2 with z|z
 ·exact .inl (hs x z)
 ·by_cases c:x∈Q
  ·exact .inl c
  ·exact .inr (h.loc P Q x hp.1 hq.1 hq.2 hs h1 c z)
include hN
theorem wG{P:List Int}:Rw N (ig N r P):=⟨by unfold ig;exact hN.sublist aaS,λy hy=>(jl.mp hy).1⟩
theorem kN.Lr{A B:List Int}(ha:Rw N A)(hb:Rw N B)(f:Fx N r A B):r A=r B:=by
 have e1:=h.yX hN hb.1 hb.2;have e2:=h.yX hN ha.1 ha.2;have m1:=h.mono ha.1 (wG h hN (P:=B)).1 (wG h hN).2 f.1;have m2:=h.mono hb.1 (wG h hN (P:=A)).1 (wG h hN).2 f.2;omega
omit hN in
theorem kN.yY{P Q:List Int}(hp:Rw N P)(hq:Rw N Q)(hs:∀y∈P,y∈Q)(f:r Q=Q.length):r P=P.length:=by
 have nd:(P++Q.filter λy=>!decide (y∈P)).Nodup:=by rw[aaN];exact⟨hp.1,hq.1.sublist aaS,λa ha b hb e=>by subst e;have:=(aaC.mp hb).2;simp[ha]at this⟩
 have mm:∀y,y∈(P++Q.filter λy=>!decide (y∈P))↔y∈Q:=λy=>by
  rw[aaL,aaC];constructor
  ·rintro(z|z)
   ·exact hs y z
   ·exact z.1
  ·intro z
   by_cases c:y∈P
   ·exact .inl c
   ·exact .inr ⟨z,by simpa using c⟩
 have hi:∀y∈(P++Q.filter λy=>!decide (y∈P)),y∈N:=λy hy=>hq.2 y ((mm y).mp hy);have a:=(h.app _ P nd hi).2;have b:=(h.bound hp.1 hp.2).2;have l:=sW nd hq.1 mm;rw[aaB]at l;rw[h.same _ Q nd hq.1 hi mm]at a;omega
omit h hN in
theorem kr.rw{A0 B0 L R:List Int}(t:kr N r A0 B0 L R)(ha:Rw N A0)(hb:Rw N B0):Rw N L/\Rw N R:=⟨ha.sort.sub t.sl,hb.sort.sub t.sr⟩
theorem kr.len{A0 B0 L R:List Int}(t:kr N r A0 B0 L R)(ha:Rw N A0)(hb:Rw N B0)(fa:r A0=A0.length)(fb:r B0=B0.length):L.length=R.length:=by
 obtain⟨hl,hr⟩:=t.rw ha hb;have e:=h.Lr hN hl hr t.fx;have e1:=h.yY hl ha (gQ t.sl) fa;have e2:=h.yY hr hb (gQ t.sr) fb;omega
omit h hN in
theorem kr.uniq{A0 B0 L R L' R':List Int}(t:kr N r A0 B0 L R)(t':kr N r A0 B0 L' R')(ha:Rw N A0)(hb:Rw N B0):L=L'/\R=R':=by
 obtain⟨hl,hr⟩:=t.rw ha hb;obtain⟨hl',hr'⟩:=t'.rw ha hb;have m1:=t.most L' R' hl' hr' t'.fx (gQ t'.sl) (gQ t'.sr);have m2:=t'.most L R hl hr t.fx (gQ t.sl) (gQ t.sr);exact⟨gO hl.1 hl'.1 (λx=>⟨m2.1 x,m1.1 x⟩) (sub_le t.sl) (sub_le t'.sl),gO hr.1 hr'.1 (λx=>⟨m2.2 x,m1.2 x⟩) (sub_le t.sr) (sub_le t'.sr)⟩
omit h hN in
theorem kr.again{A0 B0 L R L' R':List Int}(t:kr N r A0 B0 L R)(t':kr N r L R L' R')(ha:Rw N A0)(hb:Rw N B0):L'=L/\R'=R:=by
 obtain⟨hl,hr⟩:=t.rw ha hb;obtain⟨hl',hr'⟩:=t'.rw hl hr;have m:=t'.most L R hl hr t.fx (λ_ h=>h) λ_ h=>h;exact⟨gO hl'.1 hl.1 (λx=>⟨gQ t'.sl x,m.1 x⟩) (sub_le t'.sl) (sub_le t.sl),gO hr'.1 hr.1 (λx=>⟨gQ t'.sr x,m.2 x⟩) (sub_le t'.sr) (sub_le t.sr)⟩
theorem kN.turn{A0 B0 L R:List Int}(hl:Rw N L)(hr:Rw N R)(m:∀A B,Rw N A->Rw N B->Fx N r A B->(∀x∈A,x∈A0)->(∀x∈B,x∈B0)->(∀x∈A,x∈L)/\∀x∈B,x∈R) :
  ∀A B,Rw N A->Rw N B->Fx N r A B->(∀x∈A,x∈A0)->(∀x∈B,x∈B0)->(∀x∈A,x∈L.filter λx=>decide (x∈ig N r R))/\∀x∈B,x∈R.filter λx=>decide (x∈ig N r (L.filter λx=>decide (x∈ig N r R))):=by
 intro A B ha hb f sa sb;obtain⟨m1,m2⟩:=m A B ha hb f sa sb;have k1:∀x∈A,x∈L.filter λx=>decide (x∈ig N r R):=λx hx=>aaC.mpr ⟨m1 x hx,by rw[aaZ];exact h.sY hb hr m2 (f.1 x hx)⟩;refine⟨k1,λx hx=>aaC.mpr ⟨m2 x hx,?_⟩⟩;rw[aaZ];exact h.sY ha (hl.sub aaS) k1 (f.2 x hx)
omit h hN in
theorem B8{L:List Int}(e:(L.filter F).length=L.length):∀x∈L,F x=true:=filter_eq_self.mp (List.filter_sublist.eq_of_length e)
omit h hN in
theorem HS{L R:List Int}(e:(L.filter λx=>decide (x∈ig N r R)).length+(R.filter λx=>decide (x∈ig N r (L.filter λx=>decide (x∈ig N r R)))).length=L.length+R.length):L.filter (λx=>decide (x∈ig N r R))=L/\R.filter (λx=>decide (x∈ig N r (L.filter λx=>decide (x∈ig N r R))))=R/\Fx N r L R:=by
 have l1:=length_filter_le (λx=>decide (x∈ig N r R)) L;have l2:=length_filter_le (λx=>decide (x∈ig N r (L.filter λx=>decide (x∈ig N r R)))) R;have f1:=B8 (L:=L) (F:=λx=>decide (x∈ig N r R)) (by omega);have e1:L.filter (λx=>decide (x∈ig N r R))=L:=filter_eq_self.mpr f1;rw[e1]at e l2 |-;have f2:=B8 (L:=R) (F:=λx=>decide (x∈ig N r L)) (by omega);exact⟨rfl,filter_eq_self.mpr f2,λx hx=>aax (f1 x hx),λx hx=>aax (f2 x hx)⟩
end
end K35
end
section
open PySem L2 Hv
namespace K35
def yZ(N:List Int)(r:List Int->Int)(A0 B0 L R:List Int):Prop:=∀A B,Rw N A->Rw N B->Fx N r A B->(∀x∈A,x∈A0)->(∀x∈B,x∈B0)->(∀x∈A,x∈L)/\∀x∈B,x∈R
section
variable {N:List Int} {r:List Int->Int} {A0 B0 L R:List Int}
theorem HU{L:List Int}(x:Int):L.eraseIdx (L.idxOf x)=L.erase x:=(List.erase_eq_eraseIdx_of_idxOf rfl).symm
theorem Fx.flip{A B:List Int}(f:Fx N r A B):Fx N r B A:=⟨f.2,f.1⟩
theorem yZ.flip(m:yZ N r A0 B0 L R):yZ N r B0 A0 R L:=λA B ha hb f sa sb=>(m B A hb ha f.flip sb sa).symm
theorem yZ.off(h:kN N r)(m:yZ N r A0 B0 L R)(hl:Rw N L)(hr:Rw N R){x:Int}(hx:x∉ig N r R):yZ N r A0 B0 (L.eraseIdx (L.idxOf x)) R:=λA B ha hb f sa sb=>by
 obtain⟨m1,m2⟩:=m A B ha hb f sa sb;refine⟨λy hy=>?_,m2⟩;rw[HU];refine(List.Nodup.mem_erase_iff hl.1).mpr ⟨λz=>hx ?_,m1 y hy⟩;subst z;exact h.sY hb hr m2 (f.1 y hy)
theorem Rw.off(hl:Rw N L)(x:Int):Rw N (L.eraseIdx (L.idxOf x)):=hl.sub (List.eraseIdx_sublist ..)
theorem y9(h:kN N r){P:List Int}(hp:Rw N P):ig N r (sortI P)=ig N r P:=by
 have pm:=aaF P;have hs:=hp.sort;have e0:=h.same _ _ hs.1 hp.1 hs.2 λy=>pm.mem_iff;unfold ig;refine filter_congr λx hx=>?_
 by_cases hxp:x∈P
 ·rw[decide_eq_true hxp,decide_eq_true (pm.mem_iff.mpr hxp)];rfl
 ·have hxs:x∉sortI P:=λz=>hxp (pm.mem_iff.mp z)
  have e1:=h.same (sortI P++[x]) (P++[x]) (ja hs.1 hxs) (ja hp.1 hxp) (λy hy=>by
   rcases aaL.mp hy with z|z
   ·exact hs.2 y z
   ·rw[aau.mp z];exact hx) λy=>by rw[aaL,aaL,pm.mem_iff]
  rw[e0,e1,decide_eq_false hxp,decide_eq_false hxs]
theorem HV(h:kN N r)(hl:Rw N L)(hr:Rw N R)(ha:Rw N A0)(hb:Rw N B0)(sl:∀x∈L,x∈A0)(sr:∀x∈R,x∈B0)(m:yZ N r A0 B0 L R)(h1:∀x∈L,x∈ig N r R)(h2:∀x∈R,x∈ig N r L):kr N r A0 B0 (sortI L) (sortI R):=by
 have sub:∀{L A:List Int},L.Nodup->A.Nodup->(∀x∈L,x∈A)->(sortI L).Sublist (sortI A):=λ{L A} nl na s=>by
  have e:sortI L=(sortI A).filter λx=>decide (x∈L):=by refine gO ((aaF L).nodup_iff.mpr nl) (((aaF A).nodup_iff.mpr na).sublist aaS) (λx=>?_) (sortI_rises L) ((sortI_rises A).sublist aaS);rw[(aaF L).mem_iff,aaC,(aaF A).mem_iff,aaZ];exact⟨λz=>⟨s x z,z⟩,λz=>z.2⟩
  rw[e];exact aaS
 refine⟨sub hl.1 ha.1 sl,sub hr.1 hb.1 sr,⟨λx hx=>?_,λx hx=>?_⟩,λA B a b f sa sb=>?_⟩
 ·rw[y9 h hr];exact h1 x ((aaF L).mem_iff.mp hx)
 ·rw[y9 h hl];exact h2 x ((aaF R).mem_iff.mp hx)
 ·obtain⟨m1,m2⟩:=m A B a b f sa sb;exact⟨λx hx=>(aaF L).mem_iff.mpr (m1 x hx),λx hx=>(aaF R).mem_iff.mpr (m2 x hx)⟩
end
end K35
end
section
open PySem L2 Hv
namespace K35
abbrev NF(m:Str):Prop:=m ≠ "net" /\ m ≠ "places" /\ m ≠ "ends" /\ m ≠ "whole"
def iY(κ:Nat)(p q:Int)(ts:List T3):Val:=if κ = 2 then j3 2 p q ts (lX p q ts (nms ts)) else mF κ p q ts
theorem HW{κ:Nat}{p q:Int}{ts:List T3}{m:Str}{js:List (Nat×Nat)}{j:Nat}(hj:js.lookup κ = some j)(h:NF m):lY [] (iY κ p q ts) m js=some j:=by
 unfold iY
 split
 ·rename_i e;subst e;exact sI hj h
 ·exact Hz hj h
theorem HX{κ:Nat}(hk:κ < 3){p q:Int}(ok:aT p q ts):HF (iY κ p q ts) p q ts:=by
 unfold iY
 split
 ·exact wz (by decide) ok
 ·exact wu hk ok
theorem sub_len{p q:Int}(ok:aT p q ts){P:List Int}(hn:P.Nodup)(hP:∀x∈P,x∈nms ts):P.length<=15:=aaM (cY hn hP) (jk ok)
theorem HY{Ψ:Nat->List Val->Pr FV}(h0:Ψ 21=gH)(h1:Ψ 22=cU)(h2:Ψ 23=cK){κ:Nat}(hk:κ < 3){p q:Int}{ts:List T3}(ok:aT p q ts){P:List Int}(hP:∀x∈P,x∈nms ts)(hl:P.length<=15):Ψ (21 + κ) [iY κ p q ts,.rl (P.map .int)]=.ok (true,.int (jF κ p q ts P)):=by
 match κ,hk with
 |0,_=>rw[h0];unfold gH fJ;simp only[EV,length_map];rfl
 |1,_=>rw[h1];have e:=sP (o:=iY 1 p q ts) ok (HX (by decide) ok) hP hl;have m:=HW (κ:=1) (p:=p) (q:=q) (ts:=ts) (m:="tree_rank") (js:=[(0,16),(1,16),(2,16)]) (j:=16) rfl (by decide);unfold cU cG;simp only[EV,m,gp,e];rfl
 |2,_=>rw[h2];exact HN (c:=2) (by decide) rfl rfl ok
theorem YU{κ:Nat}(hk:κ < 3){p q:Int}{ts:List T3}:lY [] (iY κ p q ts) "rank" [(0,21),(1,22),(2,23)]=some (21 + κ):=by
 refine HW ?_ (by decide)
 match κ,hk with
 |0,_=>rfl
 |1,_=>rfl
 |2,_=>rfl
theorem m3{κ:Nat}(hk:κ < 3){p q:Int}{ts:List T3}{m:Str}{j:Nat}(h:NF m):lY [] (iY κ p q ts) m [(0,j),(1,j),(2,j)]=some j:=by
 refine HW ?_ h
 match κ,hk with
 |0,_=>rfl
 |1,_=>rfl
 |2,_=>rfl
theorem HZ{κ:Nat}(hk:κ < 3){p q:Int}(ok:aT p q ts){P:List Int}(hn:P.Nodup)(hP:∀x∈P,x∈nms ts):fL [iY κ p q ts,.rl (P.map .int)]=.ok (true,.rl ((ig (nms ts) (jF κ p q ts) P).map .int)):=by
 have hl:=sub_len ok hn hP;have e:=HY (Ψ:=ai v9) eG cV dh hk ok hP hl;have e1:=wD (HX hk ok) ok.len;have hc:(nms ts).length<=100000:=by have:=jk ok;omega
 have mt:=m3 hk (p:=p) (q:=q) (ts:=ts) (m:="ties") (j:=18) (by decide);unfold fL dN;simp only[EV,YU hk,e,mt,jZ,e1,eE,gS,length_map,hc];rw[dW Val.int Val.int (λx=>decide (x∈P)||decide (jF κ p q ts (P++[x])=jF κ p q ts P)) (nms ts) (λx hx=>by
  have z1:1<=sizeLine:=by decide
  have z:(P.map Val.int).length+([.int x]:List Val).length<=sizeLine:=by rw[aah];simp;unfold sizeLine;omega
  have em:P.map Val.int++[.int x]=(P++[x]).map .int:=by rw[map_append];rfl
  simp only[EV,bq,FQ]
  by_cases c:x∈P
  ·simp[c]
  ·have e2:=HY (Ψ:=ai v9) eG cV dh hk ok (P:=P++[x]) (nZ hP hx) (sub_len ok (ja hn c) (nZ hP hx))
   simp only[EV,c,decide_false,z1,pe z,em,YU hk,e2];have hm:=(sX ok hk).step P x hn hP hx c
   by_cases d:jF κ p q ts (P++[x])=jF κ p q ts P
   ·simp[d]
   ·have:¬ jF κ p q ts (P++[x])<=jF κ p q ts P:=by omega
    simp[d,this])]
 simp only[EV,aS];rfl
theorem Ia{κ:Nat}(hk:κ < 3){p q:Int}(ok:aT p q ts):iP [.int (κ:Int),eX p q ts]=.ok (true,iY κ p q ts):=by
 have r0:o5 [eX p q ts]=.ok (true,mF 0 p q ts):=nY kF jg ok;have r1:lW [eX p q ts]=.ok (true,mF 1 p q ts):=nY mY lK ok;have r2:nS [eX p q ts]=.ok (true,j3 2 p q ts (lX p q ts (nms ts))):=HM (by decide) jB iR mh jC ok
 match κ,hk with
 |0,_=>have d1:decide (((0:Nat):Int)=1)=false:=rfl;have d2:decide (((0:Nat):Int)=2)=false:=rfl;unfold iP gk;simp only[EV,d1,d2,sD,r0];rfl
 |1,_=>have d1:decide (((1:Nat):Int)=1)=true:=rfl;unfold iP gk;simp only[EV,d1,nV,r1];rfl
 |2,_=>have d1:decide (((2:Nat):Int)=1)=false:=rfl;have d2:decide (((2:Nat):Int)=2)=true:=rfl;unfold iP gk;simp only[EV,d1,d2,o6,r2];rfl
theorem sZ{κ:Nat}(hk:κ < 3){p q:Int}(ok:aT p q ts){P:List Int}(hP:∀x∈P,x∈nms ts)(hl:P.length<=15):gG [.int (κ:Int),gq p q ts,.rl (P.map .int)]=.ok (true,.int (jF κ p q ts P)):=by
 match κ,hk with
 |0,_=>have d1:decide (((0:Nat):Int)=0)=true:=rfl;unfold gG gi;simp only[EV,d1,length_map];rfl
 |1,_=>have d1:decide (((1:Nat):Int)=0)=false:=rfl;have d2:decide (((1:Nat):Int)=1)=true:=rfl;have e:=sS ok hP hl;unfold gG gi;simp only[EV,d1,d2,iQ,e];rfl
 |2,_=>
  have d1:decide (((2:Nat):Int)=0)=false:=rfl;have d2:decide (((2:Nat):Int)=1)=false:=rfl;have ew:=sS ok (P:=nms ts) (λ_ h=>h) (jk ok);have e2:=sS ok (P:=others ts P) mZ (B6 ok);have ky:nt [] (gq p q ts)=some ((nms ts).map Sum.inl):=rfl;have kv:((nms ts).map (Sum.inl:Int->Key)).map CO=(nms ts).map Val.int:=by rw[aaW];rfl
  have df:qX [] ((nms ts).map Sum.inl) (.rl (P.map .int))=some (others ts P):=Lp (by have:=jk ok;omega);unfold gG gi;simp only[EV,d1,d2,ky,kv,df,iQ,ew,e2,length_map];rfl
theorem sorted_ints{l:List Int}(h:l.length<64):jy .sorted [.rl (l.map .int)]=.ok (true,.rl ((sortI l).map .int)):=by
 refine yS ?_;unfold fR;rw[aai (by rw[aah];exact h),ints_map]
theorem iU{ms:List Nat}(h:bY Ψ ms st env=.ok (.nx env')):dD Ψ ms (.cons st r) env=dD Ψ ms r env':=by
 rw[dD,h];rfl
theorem u6{i:Nat}{f:Bool}(h:aV Ψ e env=.ok (f,v)):bY Ψ [] (.asg (.one i) e) env=.ok (.nx (env.set i (some (mV f v,v)))):=by
 rw[bY]
 try dsimp only
 rw[h];rfl
abbrev Sl:=Option (Mk×Val)
section
variable {κ:Nat} {p q:Int} {ts:List T3}
theorem pQ(hk:κ < 3)(ok:aT p q ts){Ns:List Int}(hN:Rw (nms ts) Ns):∃P,Rw (nms ts) P/\(∀x∈P,x∈Ns)/\jF κ p q ts P=P.length/\fK [.int (κ:Int),gq p q ts,.rl (Ns.map .int)]=.ok (true,.rl (P.map .int)):=by
 unfold fK dM;have z0:0<=sizeLine:=by decide
 have z1:1<=sizeLine:=by decide
 simp only[EV,z0,eE];rw[mC];refine cy Val.int (λr:Pr FV=>∃P,Rw (nms ts) P/\(∀x∈P,x∈Ns)/\jF κ p q ts P=P.length/\r=.ok (true,.rl (P.map .int)))
  (λdone env=>∃P d,Rw (nms ts) P/\(∀x∈P,x∈done)/\jF κ p q ts P=P.length/\env=[some (.sh,.int (κ:Int)),some (.sh,gq p q ts),some (.sh,.rl (Ns.map .int)),some (.ow,.rl (P.map .int)),d])
  ⟨[],none,⟨nodup_nil,λ_ h=>by simp at h⟩,λ_ h=>by simp at h,by rw[(sX ok hk).nil];rfl,rfl⟩ ?_ ?_
 ·rintro pre x post env hx ⟨P,d,hP,hd,hr,rfl⟩
  have Q3:x∈nms ts:=hN.2 x (by rw[hx];simp);have hxP:x∉P:=λhm=>by
   have:=hN.1;rw[hx,aaN]at this;exact this.2.2 x (hd x hm) x aan rfl
  have hl:=sub_len ok hP.1 hP.2;have Vv:Rw (nms ts) (P++[x]):=⟨ja hP.1 hxP,nZ hP.2 Q3⟩;have e:=sZ hk ok (P:=P++[x]) Vv.2 (sub_len ok Vv.1 Vv.2);have z:(P.map Val.int).length+([.int x]:List Val).length<=sizeLine:=by rw[aah];simp;unfold sizeLine;omega
  have zz:P.length<sizeLine:=by unfold sizeLine;omega
  have em:P.map Val.int++[.int x]=(P++[x]).map .int:=by rw[map_append];rfl
  by_cases c:jF κ p q ts (P++[x])=(P.length:Int)+1
  ·refine⟨_,?_,P++[x],some (.sh,.int x),Vv,λy hy=>?_,by rw[c];simp,rfl⟩
   ·simp only[EV,bq,z1,pe z,em,gJ,e,length_map,c,decide_true,zz]
   ·rcases(gM y).mp hy with k|rfl
    ·exact aaT _ (hd y k)
    ·simp
  ·refine⟨_,?_,P,some (.sh,.int x),hP,λy hy=>aaT _ (hd y hy),hr,rfl⟩;simp only[EV,bq,z1,pe z,em,gJ,e,length_map,c,decide_false]
 ·rintro env ⟨P,d,hP,hd,hr,rfl⟩
  refine⟨P,hP,hd,hr,?_⟩;simp only[EV,fO]
  try rfl
theorem Mf(hk:κ < 3)(ok:aT p q ts){L R:List Int}(hL:Rw (nms ts) L)(hR:Rw (nms ts) R):fM [iY κ p q ts,.rl (L.map .int),.rl (R.map .int)]=.ok (true,.rl ((L.filter λx=>decide (x∈ig (nms ts) (jF κ p q ts) R)).map .int)):=by
 have rc:=HZ hk ok hR.1 hR.2;have mr:=m3 hk (p:=p) (q:=q) (ts:=ts) (m:="reach") (j:=24) (by decide);have hc:L.length<=100000:=by have:=sub_len ok hL.1 hL.2;omega
 unfold fM dP;simp only[EV,mr,jE,rc,eE,gS,length_map,hc];rw[dW Val.int Val.int (λx=>decide (x∈ig (nms ts) (jF κ p q ts) R)) L (λx hx=>by
  simp only[EV,bq,FQ]
  by_cases c:x∈ig (nms ts) (jF κ p q ts) R<;>simp[c])]
 rfl
theorem Ib(t:Int):cop [] .ne .non (.int t)=some true:=rfl
def wC:IE:=.cmp .ne (!5) (.bin .add (.blt .len #[!3]) (.blt .len #[!4]))
def wB:di:=.cons (.asg (.one 5) (.bin .add (.blt .len #[!3]) (.blt .len #[!4]))) #[.asg (.one 3) (.call 25 #[!0,!3,!4]),.asg (.one 4) (.call 25 #[!0,!4,!3])]
def TE(κ:Nat)(p q:Int)(ts:List T3)(A B L R:List Int)(m:Val):aO:=[some (.sh,iY κ p q ts),some (.sh,.rl (A.map .int)),some (.sh,.rl (B.map .int)),some (.nw,.rl (L.map .int)),some (.nw,.rl (R.map .int)),some (.sh,m)]
theorem za{A B L R:List Int}{b:Bool}(h:cop [] .ne m (.int ((L.length:Int)+R.length))=some b):C5 (ai gI) wC (TE κ p q ts A B L R m)=.ok (true,.bl b):=by
 unfold wC TE;simp only[EV,length_map,h]
def tL(κ:Nat)(p q:Int)(ts:List T3)(L R:List Int):List Int:=L.filter λx=>decide (x∈ig (nms ts) (jF κ p q ts) R)
theorem Mg(hk:κ < 3)(ok:aT p q ts){A B L R:List Int}(hL:Rw (nms ts) L)(hR:Rw (nms ts) R):dD (ai gI) [] wB (TE κ p q ts A B L R m)=.ok (.nx (TE κ p q ts A B (tL κ p q ts L R) (tL κ p q ts R (tL κ p q ts L R)) (.int ((L.length:Int)+R.length)))):=by
 have b1:=Mf hk ok hL hR;have b2:=Mf hk ok hR (hL.sub (P:=tL κ p q ts L R) aaS);have e1:bY (ai gI) [] (.asg (.one 5) (.bin .add (.blt .len #[!3]) (.blt .len #[!4]))) (TE κ p q ts A B L R m)=.ok (.nx (TE κ p q ts A B L R (.int ((L.length:Int)+R.length)))):=by
  rw[u6 (f:=true) (v:=.int ((L.length:Int)+R.length))]
  ·rfl
  ·unfold TE;simp only[EV,length_map]
 have e2:bY (ai gI) [] (.asg (.one 3) (.call 25 #[!0,!3,!4])) (TE κ p q ts A B L R (.int ((L.length:Int)+R.length)))=.ok (.nx (TE κ p q ts A B (tL κ p q ts L R) R (.int ((L.length:Int)+R.length)))):=by
  rw[u6 (f:=true) (v:=.rl ((tL κ p q ts L R).map .int))]
  ·rfl
  ·unfold TE;simp only[EV,fV,b1];rfl
 have e3:bY (ai gI) [] (.asg (.one 4) (.call 25 #[!0,!4,!3])) (TE κ p q ts A B (tL κ p q ts L R) R (.int ((L.length:Int)+R.length)))=.ok (.nx (TE κ p q ts A B (tL κ p q ts L R) (tL κ p q ts R (tL κ p q ts L R)) (.int ((L.length:Int)+R.length)))):=by
  rw[u6 (f:=true) (v:=.rl ((tL κ p q ts R (tL κ p q ts L R)).map .int))]
  ·rfl
  ·unfold TE;simp only[EV,fV,b2];rfl
 unfold wB;rw[iU e1,iU e2,iU e3,dD]
def TQ(κ:Nat)(p q:Int)(ts:List T3)(A B:List Int)(m:Nat)(env:aO):Prop:=∃L R:List Int,L.Sublist (sortI A)/\R.Sublist (sortI B) /\
 (∀A' B',Rw (nms ts) A'->Rw (nms ts) B'->Fx (nms ts) (jF κ p q ts) A' B'->(∀x∈A',x∈A)->(∀x∈B',x∈B)->(∀x∈A',x∈L)/\∀x∈B',x∈R) /\
 ((env=TE κ p q ts A B L R .non/\m=2*(L.length+R.length)+1)\/∃k:Nat,env=TE κ p q ts A B L R (.int (k:Int))/\(k=L.length+R.length->Fx (nms ts) (jF κ p q ts) L R)/\m=2*(L.length+R.length)+if k=L.length+R.length then 0 else 1)
theorem tu(hk:κ < 3)(ok:aT p q ts){A B:List Int}(hA:Rw (nms ts) A)(hB:Rw (nms ts) B):∃L R,kr (nms ts) (jF κ p q ts) A B L R/\jW [iY κ p q ts,.rl (A.map .int),.rl (B.map .int)]=.ok (true,.tup [.rl (L.map .int),.rl (R.map .int)]):=by
 have h:=sX ok hk;have hN:=pq ok;have la:=sub_len ok hA.1 hA.2;have lb:=sub_len ok hB.1 hB.2;have sa:=sorted_ints (l:=A) (by omega);have sb:=sorted_ints (l:=B) (by omega);have pa:=(aaF A);have Tt:=(aaF B);have key:=KP (c:=λenv=>pb (C5 (ai gI) wC env) λx=>pl (ck [] x.2)) (body:=dD (ai gI) [] wB) (n:=100000) (mJ:=TE κ p q ts A B (sortI A) (sortI B) .non) (k:=λf=>Pr.ok f)
  (λr:Pr wI=>∃L R m,kr (nms ts) (jF κ p q ts) A B L R/\r=.ok (.nx (TE κ p q ts A B L R m))) (TQ κ p q ts A B) (2*((sortI A).length+(sortI B).length)+1) (by rw[pa.length_eq,Tt.length_eq];omega)
  ⟨_,_,List.Sublist.refl _,List.Sublist.refl _,λA' B' _ _ _ s1 s2=>⟨λx hx=>pa.mem_iff.mpr (s1 x hx),λx hx=>Tt.mem_iff.mpr (s2 x hx)⟩,.inl ⟨rfl,rfl⟩⟩ (by
   rintro m env ⟨L,R,sl,sr,mo,hh⟩;have hL:=hA.sort.sub sl;have hR:=hB.sort.sub sr;have l1:(tL κ p q ts L R).length<=L.length:=length_filter_le _ _;have l2:(tL κ p q ts R (tL κ p q ts L R)).length<=R.length:=length_filter_le _ _;have nx:∃m' env',dD (ai gI) [] wB env=.ok (.nx env')/\TQ κ p q ts A B m' env'/\m'<2*(L.length+R.length)+1:=by
    have YV:TQ κ p q ts A B (2*((tL κ p q ts L R).length+(tL κ p q ts R (tL κ p q ts L R)).length)+if L.length+R.length=(tL κ p q ts L R).length+(tL κ p q ts R (tL κ p q ts L R)).length then 0 else 1) (TE κ p q ts A B (tL κ p q ts L R) (tL κ p q ts R (tL κ p q ts L R)) (.int (((L.length+R.length:Nat)):Int))) :=
     ⟨_,_,aaS.trans sl,aaS.trans sr,h.turn hN hL hR mo,.inr ⟨_,rfl,λe=>by
      obtain⟨x1,x2,x3⟩:=HS (N:=nms ts) (r:=jF κ p q ts) (L:=L) (R:=R) e.symm;rw[x2,x1];exact x3,rfl⟩⟩
    have lt:(2*((tL κ p q ts L R).length+(tL κ p q ts R (tL κ p q ts L R)).length)+if L.length+R.length=(tL κ p q ts L R).length+(tL κ p q ts R (tL κ p q ts L R)).length then 0 else 1)<2*(L.length+R.length)+1:=by split<;>omega
    rcases hh with ⟨rfl,_⟩|⟨k,rfl,_,_⟩
    ·exact⟨_,_,Mg hk ok hL hR,YV,lt⟩
    ·exact⟨_,_,Mg hk ok hL hR,YV,lt⟩
   rcases hh with ⟨rfl,rfl⟩|⟨k,rfl,kf,rfl⟩
   ·refine .inr ⟨?_,nx⟩;show pb (C5 (ai gI) wC (TE κ p q ts A B L R .non)) _=_;rw[za (Ib _)];rfl
   ·by_cases c:k=L.length+R.length
    ·refine .inl ?_;show pb (C5 (ai gI) wC (TE κ p q ts A B L R (.int (k:Int)))) _=_;rw[za (b:=false) (by rw[KN,c];simp)];rfl
    ·rw[aal c];refine .inr ⟨?_,nx⟩;show pb (C5 (ai gI) wC (TE κ p q ts A B L R (.int (k:Int)))) _=_;rw[za (b:=true) (by rw[KN,decide_eq_false (by omega)];rfl)];rfl) (by
   rintro m env ⟨L,R,sl,sr,mo,hh⟩ hc
   rcases hh with ⟨rfl,_⟩|⟨k,rfl,kf,_⟩
   ·exfalso;change pb (C5 (ai gI) wC (TE κ p q ts A B L R .non)) _=_ at hc;rw[za (Ib _)]at hc;cases hc
   ·by_cases c:k=L.length+R.length
    ·exact⟨L,R,_,⟨sl,sr,kf c,mo⟩,rfl⟩
    ·exfalso;change pb (C5 (ai gI) wC (TE κ p q ts A B L R (.int (k:Int)))) _=_ at hc;rw[za (b:=true) (by rw[KN,decide_eq_false (by omega)];rfl)]at hc;cases hc)
 have hir:gm=.cons (.asg (.one 3) (.blt .sorted #[!1])) #[.asg (.one 4) (.blt .sorted #[!2]),.asg (.one 5) (.cst .non),.whl 100000 wC wB,.ret (.tup #[!3,!4])]:=rfl;have e1:bY (ai gI) [] (.asg (.one 3) (.blt .sorted #[!1])) [some (.sh,iY κ p q ts),some (.sh,.rl (A.map .int)),some (.sh,.rl (B.map .int)),none,none,none]=.ok (.nx [some (.sh,iY κ p q ts),some (.sh,.rl (A.map .int)),some (.sh,.rl (B.map .int)),some (.nw,.rl ((sortI A).map .int)),none,none]):=by rw[u6 (f:=true) (v:=.rl ((sortI A).map .int)) (by simp only[EV,sa])];rfl
 have e2:bY (ai gI) [] (.asg (.one 4) (.blt .sorted #[!2])) [some (.sh,iY κ p q ts),some (.sh,.rl (A.map .int)),some (.sh,.rl (B.map .int)),some (.nw,.rl ((sortI A).map .int)),none,none]=.ok (.nx [some (.sh,iY κ p q ts),some (.sh,.rl (A.map .int)),some (.sh,.rl (B.map .int)),some (.nw,.rl ((sortI A).map .int)),some (.nw,.rl ((sortI B).map .int)),none]):=by rw[u6 (f:=true) (v:=.rl ((sortI B).map .int)) (by simp only[EV,sb])];rfl
 have e3:bY (ai gI) [] (.asg (.one 5) (.cst .non)) [some (.sh,iY κ p q ts),some (.sh,.rl (A.map .int)),some (.sh,.rl (B.map .int)),some (.nw,.rl ((sortI A).map .int)),some (.nw,.rl ((sortI B).map .int)),none]=.ok (.nx (TE κ p q ts A B (sortI A) (sortI B) .non)):=by rw[u6 (f:=true) (v:=.non) (by simp only[EV,aS])];rfl
 have e4:bY (ai gI) [] (.whl 100000 wC wB) (TE κ p q ts A B (sortI A) (sortI B) .non)=oR (λenv=>pb (C5 (ai gI) wC env) λx=>pl (ck [] x.2)) (dD (ai gI) [] wB) 100000 (TE κ p q ts A B (sortI A) (sortI B) .non):=by rw[bY]
 cases e:oR (λenv=>pb (C5 (ai gI) wC env) λx=>pl (ck [] x.2)) (dD (ai gI) [] wB) 100000 (TE κ p q ts A B (sortI A) (sortI B) .non) with
 |exc _ _=>rw[e]at key;obtain⟨_,_,_,_,er⟩:=key;cases er
 |no=>rw[e]at key;obtain⟨_,_,_,_,er⟩:=key;cases er
 |ok f=>
  rw[e]at key;obtain⟨L,R,m,th,er⟩:=key;have WN:f=.nx (TE κ p q ts A B L R m):=by injection er
  subst WN;rw[e]at e4;refine⟨L,R,th,?_⟩;unfold jW fP;rw[show jd gm=[] from by decide,hir];show pb (dD (ai gI) [] _ [some (.sh,iY κ p q ts),some (.sh,.rl (A.map .int)),some (.sh,.rl (B.map .int)),none,none,none]) _=_;rw[iU e1,iU e2,iU e3,iU e4];have z2:2<=sizeLine:=by decide
  unfold TE;simp only[EV,z2]
  try rfl
end
section
variable {κ:Nat} {p q:Int} {ts:List T3}
theorem Ic(hk:κ < 3)(ok:aT p q ts){P R:List Int}(hP:Rw (nms ts) P)(hR:Rw (nms ts) R)(hd:∀x∈P,x∉R):iy [.int (κ:Int),gq p q ts,.rl (P.map .int),.rl (R.map .int)]=.ok (true,.rl ((P.filter λx=>decide (x∉ig (nms ts) (jF κ p q ts) R)).map .int)):=by
 have hl:=sub_len ok hR.1 hR.2;have e:=sZ hk ok hR.2 hl;have hc:P.length<=100000:=by have:=sub_len ok hP.1 hP.2;omega
 unfold iy iL;simp only[EV,jf,e,eE,gS,length_map,hc];rw[dW Val.int Val.int (λx=>decide (x∉ig (nms ts) (jF κ p q ts) R)) P (λx hx=>by
  have z1:1<=sizeLine:=by decide
  have z:(R.map Val.int).length+([.int x]:List Val).length<=sizeLine:=by rw[aah];simp;unfold sizeLine;omega
  have em:R.map Val.int++[.int x]=(R++[x]).map .int:=by rw[map_append];rfl
  have c:=hd x hx;have Q3:=hP.2 x hx;have e2:=sZ hk ok (P:=R++[x]) (nZ hR.2 Q3) (sub_len ok (ja hR.1 c) (nZ hR.2 Q3));simp only[EV,bq,z1,pe z,em,jf,e2];have st:=(sX ok hk).step R x hR.1 hR.2 Q3 c;have iff:(jF κ p q ts R<jF κ p q ts (R++[x]))↔x∉ig (nms ts) (jF κ p q ts) R:=by
   rw[jl];constructor
   ·rintro a ⟨_,b|b⟩
    ·exact c b
    ·omega
   ·intro a
    rcases st with b|b
    ·exact(a ⟨Q3,.inr b⟩).elim
    ·omega
  by_cases d:jF κ p q ts R<jF κ p q ts (R++[x])
  ·have d2:=iff.mp d;simp[d,d2]
  ·have d2:x∈ig (nms ts) (jF κ p q ts) R:=byContradiction λz=>d (iff.mpr z);simp[d,d2])]
 rfl
end
end K35
end
section
open PySem L2 Hv
namespace K35
theorem bf{sp:List Nat}(h:bN Ψ sp st env=.ok (.nx env')):bB Ψ sp (.cons st r) env=bB Ψ sp r env':=by
 rw[bB,h];rfl
theorem Ie{sp:List Nat}{i:Nat}(hi:sp.contains i=true)(hn:new2 e=none)(h:aV Ψ e (aJ env)=.ok (true,v)):bN Ψ sp (.asg (.one i) e) env=.ok (.nx (env.set i (some (.ow,v)))):=by
 rw[bN]
 try dsimp only
 rw[aai hi,hn]
 try dsimp only
 rw[h];rfl
theorem Qm{sp:List Nat}{i:Nat}{L R:List Int}(hi:sp.contains i=true)(hn:new2 e=some (a,b))(h1:aV Ψ a (aJ env)=.ok (true,.rl (L.map .int)))(h2:aV Ψ b (aJ env)=.ok (true,.rl (R.map .int))):bN Ψ sp (.asg (.one i) e) env=.ok (.nx (env.set i (some (.nw,.rl [.rl (L.map .int),.rl (R.map .int)])))):=by
 have l:iJ [.rl (L.map .int),.rl (R.map .int)]=some [L,R]:=qt [L,R];rw[bN]
 try dsimp only
 rw[aai hi,hn]
 try dsimp only
 rw[h1,aS,h2,aS,l];rfl
theorem gR{sp:List Nat}{i:Nat}{f:Bool}(hi:sp.contains i=false)(h:aV Ψ e (dg env)=.ok (f,v)):bN Ψ sp (.asg (.one i) e) env=.ok (.nx (env.set i (some (.sh,v)))):=by
 rw[bN]
 try dsimp only
 unfold L3;rw[aal (by rw[hi];exact aac),h];rfl
theorem Qn{sp:List Nat}{i:Nat}(hi:sp.contains i=false)(h1:aV Ψ e (dg env)=.no)(h:aV Ψ e (aJ env)=.ok (true,v)):bN Ψ sp (.asg (.one i) e) env=.ok (.nx (env.set i (some (.sh,v)))):=by
 rw[bN]
 try dsimp only
 unfold L3;rw[aal (by rw[hi];exact aac),h1]
 try dsimp only
 rw[h];rfl
theorem B9{sp:List Nat}{f:Bool}(h:aV Ψ c (aJ env)=.ok (f,.bl false)):bN Ψ sp (.iff c a .nil) env=.ok (.nx env):=by
 rw[bN,h,aS];show pb (pl (ck [] (.bl false))) _=_;rw[FO,bX,aS,aal aac,bB]
theorem UO{sp:List Nat}{f:Bool}(h:aV Ψ c (aJ env)=.ok (f,.bl true)):bN Ψ sp (.iff c a .nil) env=bB Ψ sp a env:=by
 rw[bN,h,aS];show pb (pl (ck [] (.bl true))) _=_;rw[FO,bX,aS,aai rfl]
theorem Ls:Gi (.cst d) p k body=none:=by
 first
  | (unfold Gi
     split
     ·exact absurd ‹IE.cst d=IE.var _› (by intro z;cases z)
     ·rfl)
  |exact Eq.trans rfl rfl
theorem Ig{sp:List Nat}{n:Int}(hn:inR n=true):bN Ψ sp (.for p .range #[.cst (.int n)] body) env=jA (λx env=>pb (pl (cD p x env)) λenv'=>bB Ψ sp body env') (bU 0 n.toNat) env:=by
 have hx:iH .range [.int n]=some (bU 0 n.toNat):=aai hn;rw[bN]
 try dsimp only
 rw[Ls]
 try dsimp only
 unfold L3;rw[aV]
 try dsimp only
 rw[aS,hx,bX,aS]
def LE(κ:Nat)(p q:Int)(ts:List T3)(A B:List Int)(c:Int)(L R:List Int)(r:List Sl):aO:=some (.sh,.int (κ:Int))::some (.sh,gq p q ts)::some (.sh,.rl (A.map .int))::some (.sh,.rl (B.map .int))::some (.sh,.int c)::some (.nw,.rl [.rl (L.map .int),.rl (R.map .int)])::r
def lo(κ:Nat)(p q:Int)(ts:List T3)(P R:List Int):List Int:=P.filter λx=>decide (x∉ig (nms ts) (jF κ p q ts) R)
def kv(k x:Int):Val:=.tup [.int k,.int x]
def iE:IE:=.comp ["_law_name","_law_k"] [none,some 8] (.one 0) .seq #[.call 7 #[!0,!1,.idx (!5) (!8),.idx (!5) (.bin .sub (¬1) (!8))]] .no (.tup #[!1,!0])
def iB:di:=.cons (.expr (.met .extend (!7) #[iE])) .nil
def lI:IS:=.for (.one 8) .range #[¬2] iB
def zE:IE:=.cmp .eq (.blt .len #[!7]) (¬0)
def Ih:IE:=.bin .add (!4) (.bin .mul (.bin .mul (¬7) (!6)) (!6))
def gE:IE:=.idx (!7) (.bin .mod Ih (.blt .len #[!7]))
def rS:IS:=.expr (.met .remove (.idx (!5) (.idx (!9) (¬0))) #[.idx (!9) (¬1)])
def oB:di:=.cons (.asg (.one 7) (.lst .nil)) #[lI,.iff zE #[.brk] .nil,.asg (.one 9) gE,rS]
def UP:IE:=.lst #[.blt .list #[!2],.blt .list #[!3]]
def Qo:IE:=.tup #[.blt .sorted #[.idx (!5) (¬0)],.blt .sorted #[.idx (!5) (¬1)]]
theorem Lu:cI=.cons (.asg (.one 5) UP) #[.for (.one 6) .range #[¬30] oB,.ret Qo]:=rfl
section
variable {κ:Nat} {p q:Int} {ts:List T3} {A B:List Int} {c:Int} {L R:List Int}
theorem wH(k:Int):∀l:List Int,bK (l.map (kv k))=true
 |[]=>rfl
 |x::l=>by rw[aap,bK,wH k l];rfl
theorem Ii(h1:bK a=true)(h2:bK b=true):bK (a++b)=true:=by
 induction a with
 |nil=>exact h2
 |cons x a ih=>rw[bK,and_eq_true]at h1;rw[cons_append,bK,h1.1,ih h1.2];rfl
theorem Ax{P Q:List Int}:(lo κ p q ts P Q).length<=P.length:=length_filter_le _ _
theorem UQ(hk:κ < 3)(ok:aT p q ts)(hL:Rw (nms ts) L)(hR:Rw (nms ts) R){P Q:List Int}(hP:Rw (nms ts) P)(hQ:Rw (nms ts) Q)(hd:∀x∈P,x∉Q){k:Int}(hi:(k=0/\P=L/\Q=R)\/(k=1/\P=R/\Q=L)){s6 s7 s9:Sl}:aV (ai mX) iE (aJ (LE κ p q ts A B c L R [s6,s7,some (.sh,.int k),s9]))=.ok (true,.rl ((lo κ p q ts P Q).map (kv k))):=by
 have e:=Ic hk ok hP hQ hd;have hc:(lo κ p q ts P Q).length<=100000:=by have:=Ax (κ:=κ) (p:=p) (q:=q) (ts:=ts) (P:=P) (Q:=Q);have:=sub_len ok hP.1 hP.2;omega
 have z2:2<=sizeLine:=by decide
 change iy [.int (κ:Int),gq p q ts,.rl (P.map .int),.rl (Q.map .int)]=.ok (true,.rl ((lo κ p q ts P Q).map .int))at e;have i1:ju [] (.rl [.rl (L.map .int),.rl (R.map .int)]) (.int k)=some (.rl (P.map .int)):=by
  rcases hi with ⟨rfl,rfl,rfl⟩|⟨rfl,rfl,rfl⟩
  ·exact fU oU
  ·exact fU oV
 have i2:ju [] (.rl [.rl (L.map .int),.rl (R.map .int)]) (.int (1-k))=some (.rl (Q.map .int)):=by
  rcases hi with ⟨rfl,rfl,rfl⟩|⟨rfl,rfl,rfl⟩
  ·exact fU oV
  ·exact fU oU
 unfold iE LE;simp only[EV,Hv.aJ,i1,i2,nU,e,eE,gS,length_map,hc];rw[iI Val.int (kv k) _ (λx hx=>by
  simp only[EV,bq,z2];rfl)]
 rfl
theorem Mh(hk:κ < 3)(ok:aT p q ts)(hL:Rw (nms ts) L)(hR:Rw (nms ts) R){P Q:List Int}(hP:Rw (nms ts) P)(hQ:Rw (nms ts) Q)(hd:∀x∈P,x∉Q){k:Int}(hi:(k=0/\P=L/\Q=R)\/(k=1/\P=R/\Q=L)){s6 s8 s9:Sl}(hm:bK ds=true)(hl:ds.length<=15):(pb (pl (cD (.one 8) (.int k) (LE κ p q ts A B c L R [s6,some (.ow,.rl ds),s8,s9]))) λenv'=>bB (ai mX) [7,5] iB env')=.ok (.nx (LE κ p q ts A B c L R [s6,some (.ow,.rl (ds++(lo κ p q ts P Q).map (kv k))),some (.sh,.int k),s9])):=by
 have e:=UQ (A:=A) (B:=B) (c:=c) hk ok hL hR hP hQ hd hi (s6:=s6) (s7:=some (.ow,.rl ds)) (s9:=s9);have z:ds.length+((lo κ p q ts P Q).map (kv k)).length<=sizeLine:=by have:=Ax (κ:=κ) (p:=p) (q:=q) (ts:=ts) (P:=P) (Q:=Q);have:=sub_len ok hP.1 hP.2;rw[aah];unfold sizeLine;omega
 rw[bq,bX,aS];change bB (ai mX) [7,5] iB (LE κ p q ts A B c L R [s6,some (.ow,.rl ds),some (.sh,.int k),s9])=_;unfold iB;rw[bf (env':=LE κ p q ts A B c L R [s6,some (.ow,.rl (ds++(lo κ p q ts P Q).map (kv k))),some (.sh,.int k),s9]),bB];rw[K4 (k:=.ext 7 iE) rfl];unfold DA
 try dsimp only
 rw[show (LE κ p q ts A B c L R [s6,some (.ow,.rl ds),some (.sh,.int k),s9])[7]?=some (some (.ow,.rl ds)) from rfl]
 try dsimp only
 rw[e,aS]
 try dsimp only
 rw[Ii hm (wH k _),decide_eq_true z];rfl
theorem US(hk:κ < 3)(ok:aT p q ts)(hL:Rw (nms ts) L)(hR:Rw (nms ts) R)(hd:∀x∈L,x∉R){s6 s8 s9:Sl}:bN (ai mX) [7,5] lI (LE κ p q ts A B c L R [s6,some (.ow,.rl []),s8,s9])=.ok (.nx (LE κ p q ts A B c L R [s6,some (.ow,.rl ((lo κ p q ts L R).map (kv 0)++(lo κ p q ts R L).map (kv 1))),some (.sh,.int 1),s9])):=by
 unfold lI;rw[Ig (by decide)];rw[show bU 0 (2:Int).toNat=[.int 0,.int 1] from rfl,jA,Mh hk ok hL hR hL hR hd (.inl ⟨rfl,rfl,rfl⟩) rfl (by simp),aS]
 try dsimp only
 rw[nil_append,jA,Mh hk ok hL hR hR hL (λx hx hy=>hd x hy hx) (.inr ⟨rfl,rfl,rfl⟩) (wH 0 _) (by rw[aah];exact aaM Ax (sub_len ok hL.1 hL.2)),aS];rfl
structure LI (κ:Nat) (p q:Int) (ts:List T3) (A B L R:List Int):Prop where
 l:Rw (nms ts) L
 r:Rw (nms ts) R
 d:∀x∈L,x∉R
 sl:∀x∈L,x∈A
 sr:∀x∈R,x∈B
 m:yZ (nms ts) (jF κ p q ts) A B L R
theorem qw{L:List Int}(x:Int){y:Int}(h:y∈L.eraseIdx (L.idxOf x)):y∈L:=(List.eraseIdx_sublist ..).subset h
theorem Ca{L:List Int}{x:Int}(h:x∈L):(L.eraseIdx (L.idxOf x)).length+1=L.length:=by
 rw[HU,List.length_erase_of_mem h];have:=List.length_pos_of_mem h;omega
theorem LI.Xi(hk:κ < 3)(ok:aT p q ts)(i:LI κ p q ts A B L R){x:Int}(hx:x∈lo κ p q ts L R):LI κ p q ts A B (L.eraseIdx (L.idxOf x)) R :=
 ⟨i.l.off x,i.r,λy hy=>i.d y (qw x hy),λy hy=>i.sl y (qw x hy),i.sr,i.m.off (sX ok hk) i.l i.r (by simpa using (aaC.mp hx).2)⟩
theorem LI.Xj(hk:κ < 3)(ok:aT p q ts)(i:LI κ p q ts A B L R){x:Int}(hx:x∈lo κ p q ts R L):LI κ p q ts A B L (R.eraseIdx (R.idxOf x)) :=
 ⟨i.l,i.r.off x,λy hy hz=>i.d y hy (qw x hz),i.sl,λy hy=>i.sr y (qw x hy),(i.m.flip.off (sX ok hk) i.r i.l (by simpa using (aaC.mp hx).2)).flip⟩
theorem Mi{k x:Int}{P:List Int}{n:Nat}(hn:vf 2 k=some n)(hp:[L,R][n]?=some P)(hx:x∈P){s6 s7 s8:Sl}:bN (ai mX) [7,5] rS (LE κ p q ts A B c L R [s6,s7,s8,some (.sh,kv k x)])=.ok (.nx ((LE κ p q ts A B c L R [s6,s7,s8,some (.sh,kv k x)]).set 5 (some (.nw,.rl ([Val.rl (L.map .int),.rl (R.map .int)].set n (.rl ((P.eraseIdx (P.idxOf x)).map .int))))))):=by
 have l:iJ [.rl (L.map .int),.rl (R.map .int)]=some [L,R]:=qt [L,R];have e1:aV (ai mX) (.idx (!9) (¬0)) (aJ (LE κ p q ts A B c L R [s6,s7,s8,some (.sh,kv k x)]))=.ok (true,.int k):=by unfold LE kv;simp only[EV,Hv.aJ,jO oU]
 have e2:aV (ai mX) (.idx (!9) (¬1)) (aJ (LE κ p q ts A B c L R [s6,s7,s8,some (.sh,kv k x)]))=.ok (true,.int x):=by unfold LE kv;simp only[EV,Hv.aJ,jO oV]
 unfold rS;rw[K4 (k:=.rem 5 (.idx (!9) (¬0)) (.idx (!9) (¬1))) rfl];unfold DA
 try dsimp only
 rw[show (LE κ p q ts A B c L R [s6,s7,s8,some (.sh,kv k x)])[5]?=some (some (.nw,.rl [.rl (L.map .int),.rl (R.map .int)])) from rfl]
 try dsimp only
 rw[e1,aS];show pb (pl (some k)) _=_;rw[bX,aS];show pb (pl (vf 2 k)) _=_;rw[hn,bX,aS,l,bX,aS,hp,bX,aS,e2,aS];show pb (pl (some x)) _=_;rw[bX,aS,decide_eq_true hx];rfl
theorem Ay{X Y:List Int}{i:Int}(h:iV (X.map (kv 0)++Y.map (kv 1)) i=some v):(∃x∈X,v=kv 0 x)\/∃x∈Y,v=kv 1 x:=by
 unfold iV at h;obtain⟨j,_,e⟩:=aab.mp h;have m:=aaE e
 rcases aaL.mp m with m|m
 ·obtain⟨x,hx,rfl⟩:=aaX.mp m;exact .inl ⟨x,hx,rfl⟩
 ·obtain⟨x,hx,rfl⟩:=aaX.mp m;exact .inr ⟨x,hx,rfl⟩
theorem Qp{s:Int}(h1:fk 7 s=true)(h2:fk (7*s) s=true){s7 s8 s9:Sl}:aV (ai mX) Ih (aJ (LE κ p q ts A B c L R [some (.sh,.int s),s7,s8,s9]))=.ok (true,.int (c+7*s*s)):=by
 unfold Ih LE;simp only[EV,Hv.aJ,BK h1,BK h2]
theorem UT{s7 s8 s9 s6:Sl}:aV (ai mX) gE (dg (LE κ p q ts A B c L R [s6,some (.ow,.rl ds),s8,s9]))=.no:=by
 unfold gE LE;simp only[EV,Hv.dg,KJ,TH]
theorem UU{s:Int}(h1:fk 7 s=true)(h2:fk (7*s) s=true)(h0:0<ds.length)(hv:iV ds ((c+7*s*s)%(ds.length:Int))=some v)(hm:j8 v=true){s8 s9:Sl}:aV (ai mX) gE (aJ (LE κ p q ts A B c L R [some (.sh,.int s),some (.ow,.rl ds),s8,s9]))=.ok (true,v):=by
 have e:=Qp (A:=A) (B:=B) (c:=c) (L:=L) (R:=R) (κ:=κ) (p:=p) (q:=q) (ts:=ts) h1 h2 (s7:=some (.ow,.rl ds)) (s8:=s8) (s9:=s9);have hm':kK .mod (.int (c+7*s*s)) (.int (ds.length:Int))=.ok (true,.int ((c+7*s*s)%(ds.length:Int))):=jN (by rw[aaZ];omega);have hi:ju [] (.rl ds) (.int ((c+7*s*s)%(ds.length:Int)))=some v:=fU hv;generalize c+7*s*s=u at *;have e2:aV (ai mX) (.bin .mod Ih (.blt .len #[!7])) (aJ (LE κ p q ts A B c L R [some (.sh,.int s),some (.ow,.rl ds),s8,s9]))=.ok (true,.int (u%(ds.length:Int))):=by rw[aV,aal (by unfold Ih;exact aac),e,aS,aal (by exact aac)];unfold LE;simp only[EV,Hv.aJ,hm']
 obtain⟨f,e3⟩:∃f,gY (aJ (LE κ p q ts A B c L R [some (.sh,.int s),some (.ow,.rl ds),s8,s9])) (!7)=some (f,.rl ds):=⟨_,rfl⟩;unfold gE;rw[aV,aai (by rfl),e3,bX,aS,e2,aS];show pb (pl (ju [] (.rl ds) (.int (u%(ds.length:Int))))) _=_;rw[hi,bX,aS,hm]
theorem UW{s6 s8 s9:Sl}:aV (ai mX) zE (aJ (LE κ p q ts A B c L R [s6,some (.ow,.rl ds),s8,s9]))=.ok (true,.bl (decide ((ds.length:Int)=0))):=by
 unfold zE LE;simp only[EV,Hv.aJ]
theorem UX(hk:κ < 3)(ok:aT p q ts)(i:LI κ p q ts A B L R){s:Int}(h1:fk 7 s=true)(h2:fk (7*s) s=true){s6 s7 s8 s9:Sl} :
  (lo κ p q ts L R=[]/\lo κ p q ts R L=[]/\∃r,(pb (pl (cD (.one 6) (.int s) (LE κ p q ts A B c L R [s6,s7,s8,s9]))) λenv'=>bB (ai mX) [7,5] oB env')=.ok (.bk (LE κ p q ts A B c L R r))) \/
  ∃L' R',LI κ p q ts A B L' R'/\L'.length+R'.length+1=L.length+R.length/\∃t6 t7 t8 t9,(pb (pl (cD (.one 6) (.int s) (LE κ p q ts A B c L R [s6,s7,s8,s9]))) λenv'=>bB (ai mX) [7,5] oB env')=.ok (.nx (LE κ p q ts A B c L' R' [t6,t7,t8,t9])):=by
 have e1:bN (ai mX) [7,5] (.asg (.one 7) (.lst .nil)) (LE κ p q ts A B c L R [some (.sh,.int s),s7,s8,s9])=.ok (.nx (LE κ p q ts A B c L R [some (.sh,.int s),some (.ow,.rl []),s8,s9])):=by
  have z0:0<=sizeLine:=by decide
  rw[Ie (v:=.rl []) rfl rfl]
  ·rfl
  ·unfold LE;simp only[EV,Hv.aJ,z0]
 have e2:=US (A:=A) (B:=B) (c:=c) hk ok i.l i.r i.d (s6:=some (.sh,.int s)) (s8:=s8) (s9:=s9);have eb:(pb (pl (cD (.one 6) (.int s) (LE κ p q ts A B c L R [s6,s7,s8,s9]))) λenv'=>bB (ai mX) [7,5] oB env')=bB (ai mX) [7,5] #[.iff zE #[.brk] .nil,.asg (.one 9) gE,rS] (LE κ p q ts A B c L R [some (.sh,.int s),some (.ow,.rl ((lo κ p q ts L R).map (kv 0)++(lo κ p q ts R L).map (kv 1))),some (.sh,.int 1),s9]):=by rw[bq,bX,aS];change bB (ai mX) [7,5] oB (LE κ p q ts A B c L R [some (.sh,.int s),s7,s8,s9])=_;unfold oB;rw[bf e1,bf e2]
 rw[eb];generalize hds:(lo κ p q ts L R).map (kv 0)++(lo κ p q ts R L).map (kv 1)=ds;have ez:=UW (A:=A) (B:=B) (c:=c) (L:=L) (R:=R) (κ:=κ) (p:=p) (q:=q) (ts:=ts) (s6:=some (.sh,.int s)) (s8:=some (.sh,.int 1)) (s9:=s9) (ds:=ds)
 by_cases h0:ds=[]
 ·left
  subst h0;obtain⟨a,b⟩:=List.append_eq_nil_iff.mp hds;refine⟨List.map_eq_nil_iff.mp a,List.map_eq_nil_iff.mp b,[some (.sh,.int s),some (.ow,.rl []),some (.sh,.int 1),s9],?_⟩;rw[bB,UO ez,bB,bN,aS];rfl
 ·right
  have hp:0<ds.length:=List.length_pos_iff.mpr h0;rw[decide_eq_false (by omega)]at ez;rw[bf (B9 ez)];obtain⟨v,hv⟩:∃v,iV ds ((c+7*s*s)%(ds.length:Int))=some v:=by
   generalize c+7*s*s=u;have a:=emod_nonneg u (b:=(ds.length:Int)) (by omega);have b:=Int.emod_lt_of_pos u (b:=(ds.length:Int)) (by omega);obtain⟨j,hj⟩:=eq_ofNat_of_zero_le a;rw[hj]at b |-;have b':j<ds.length:=by omega
   exact⟨ds[j],m9 (by simp[b'])⟩
  have gc:=Ay (X:=lo κ p q ts L R) (Y:=lo κ p q ts R L) (by rw[hds];exact hv);have hm:j8 v=true:=by rcases gc with ⟨x,_,rfl⟩|⟨x,_,rfl⟩<;>rfl
  have eg:=Qn (sp:=[7,5]) (i:=9) rfl (UT (s7:=none) (s6:=some (.sh,.int s)) (A:=A) (B:=B) (c:=c) (L:=L) (R:=R) (κ:=κ) (p:=p) (q:=q) (ts:=ts) (ds:=ds) (s8:=some (.sh,.int 1)) (s9:=s9)) (UU h1 h2 hp hv hm);rw[bf eg]
  rcases gc with ⟨x,hx,rfl⟩|⟨x,hx,rfl⟩
  ·have UY:x∈L:=(aaC.mp hx).1;refine⟨L.eraseIdx (L.idxOf x),R,i.Xi hk ok hx,by have:=Ca UY;omega,some (.sh,.int s),some (.ow,.rl ds),some (.sh,.int 1),some (.sh,kv 0 x),?_⟩;show bB (ai mX) [7,5] #[rS] (LE κ p q ts A B c L R [some (.sh,.int s),some (.ow,.rl ds),some (.sh,.int 1),some (.sh,kv 0 x)])=_;rw[bf (Mi (n:=0) rfl rfl UY),bB];rfl
  ·have UY:x∈R:=(aaC.mp hx).1;refine⟨L,R.eraseIdx (R.idxOf x),i.Xj hk ok hx,by have:=Ca UY;omega,some (.sh,.int s),some (.ow,.rl ds),some (.sh,.int 1),some (.sh,kv 1 x),?_⟩;show bB (ai mX) [7,5] #[rS] (LE κ p q ts A B c L R [some (.sh,.int s),some (.ow,.rl ds),some (.sh,.int 1),some (.sh,kv 1 x)])=_;rw[bf (Mi (n:=1) rfl rfl UY),bB];rfl
theorem turns(hk:κ < 3)(ok:aT p q ts):∀(ss:List Int) (L R:List Int) (s6 s7 s8 s9:Sl),(∀s∈ss,fk 7 s=true/\fk (7*s) s=true)->L.length+R.length<ss.length->LI κ p q ts A B L R ->
  ∃L' R' r,LI κ p q ts A B L' R'/\lo κ p q ts L' R'=[]/\lo κ p q ts R' L'=[]/\jA (λx env=>pb (pl (cD (.one 6) x env)) λenv'=>bB (ai mX) [7,5] oB env') (ss.map .int) (LE κ p q ts A B c L R [s6,s7,s8,s9])=.ok (.nx (LE κ p q ts A B c L' R' r))
 |[],L,R,_,_,_,_,_,hl,_=>absurd hl (Nat.not_lt_zero _)
 | s::ss,L,R,s6,s7,s8,s9,hs,hl,i=>by
  obtain⟨m1,m2⟩:=hs s aan
  rcases UX (c:=c) hk ok i m1 m2 (s6:=s6) (s7:=s7) (s8:=s8) (s9:=s9) with ⟨a,b,r,e⟩|⟨L',R',i',l',t6,t7,t8,t9,e⟩
  ·refine⟨L,R,r,i,a,b,?_⟩;rw[aap,jA,e,aS]
  ·rw[aaz]at hl;obtain⟨L2,R2,r,i2,a,b,e2⟩:=turns hk ok ss L' R' t6 t7 t8 t9 (λx hx=>hs x (aam _ hx)) (by omega) i';refine⟨L2,R2,r,i2,a,b,?_⟩;rw[aap,jA,e,aS];exact e2
theorem Lv(hk:κ < 3)(ok:aT p q ts)(hA:Rw (nms ts) A)(hB:Rw (nms ts) B)(hd:∀x∈A,x∉B):∃L R,kr (nms ts) (jF κ p q ts) A B L R/\lJ [.int (κ:Int),gq p q ts,.rl (A.map .int),.rl (B.map .int),.int c]=.ok (true,.tup [.rl (L.map .int),.rl (R.map .int)]):=by
 have la:=sub_len ok hA.1 hA.2;have lb:=sub_len ok hB.1 hB.2;have IF:A.length+B.length<=15:=by have:=sub_len ok (P:=A++B) (aaN.mpr ⟨hA.1,hB.1,λa ha b hb e=>hd a ha (e▸hb)⟩) (λx hx=>by rcases aaL.mp hx with z|z;exact hA.2 x z;exact hB.2 x z);rwa [aaB]at this
 obtain⟨L,R,r,i,o1,o2,e⟩:=turns (c:=c) hk ok ((List.range 30).map λi:Nat=>(0+i:Int)) A B none none none none (by decide) (by rw[aah,length_range];omega) ⟨hA,hB,hd,λ_ h=>h,λ_ h=>h,λA' B' _ _ _ s1 s2=>⟨s1,s2⟩⟩;have clo1:∀{P Q:List Int},lo κ p q ts P Q=[]->∀x∈P,x∈ig (nms ts) (jF κ p q ts) Q:=λ{P Q} h x hx=>by
  have:=List.filter_eq_nil_iff.mp h x hx;simpa using this
 have th:=HV (sX ok hk) i.l i.r hA hB i.sl i.sr i.m (clo1 o1) (clo1 o2);refine⟨_,_,th,?_⟩;have s1:=sorted_ints (l:=L) (by have:=sub_len ok i.l.1 i.l.2;omega);have s2:=sorted_ints (l:=R) (by have:=sub_len ok i.r.1 i.r.2;omega);have e0:bN (ai mX) [7,5] (.asg (.one 5) UP) [some (.sh,.int (κ:Int)),some (.sh,gq p q ts),some (.sh,.rl (A.map .int)),some (.sh,.rl (B.map .int)),some (.sh,.int c),none,none,none,none,none]=.ok (.nx (LE κ p q ts A B c A B [none,none,none,none])):=by
  rw[Qm (L:=A) (R:=B) rfl rfl]
  ·rfl
  ·simp only[EV,Hv.aJ,fO]
  ·simp only[EV,Hv.aJ,fO]
 have e1:bN (ai mX) [7,5] (.for (.one 6) .range #[¬30] oB) (LE κ p q ts A B c A B [none,none,none,none])=.ok (.nx (LE κ p q ts A B c L R r)):=by rw[Ig (by decide),<-e,aaW];rfl
 have e2:aV (ai mX) Qo (aJ (LE κ p q ts A B c L R r))=.ok (true,.tup [.rl ((sortI L).map .int),.rl ((sortI R).map .int)]):=by
  have z2:2<=sizeLine:=by decide
  unfold Qo LE;simp only[EV,Hv.aJ,fU oU,fU oV,s1,s2,z2]
 have fin:bB (ai mX) [7,5] cI [some (.sh,.int (κ:Int)),some (.sh,gq p q ts),some (.sh,.rl (A.map .int)),some (.sh,.rl (B.map .int)),some (.sh,.int c),none,none,none,none,none]=.ok (.rt (true,.tup [.rl ((sortI L).map .int),.rl ((sortI R).map .int)])):=by rw[Lu,bf e0,bf e1,bB,bN,e2];rfl
 have Xk:Df (ai mX) 10 cI [.int (κ:Int),gq p q ts,.rl (A.map .int),.rl (B.map .int),.int c]=.ok (true,.tup [.rl ((sortI L).map .int),.rl ((sortI R).map .int)]):=by show pb (bB (ai mX) (iK cI) cI [some (.sh,.int (κ:Int)),some (.sh,gq p q ts),some (.sh,.rl (A.map .int)),some (.sh,.rl (B.map .int)),some (.sh,.int c),none,none,none,none,none]) _=_;rw[show iK cI=[7,5] from rfl,fin];rfl
 unfold lJ K7;rw[Xk];rfl
end
end K35
end
section
open PySem L2 Hv
namespace K35
theorem Dw{α:Type}(us:List α)(k:Int)(h:0<=k):bZ us none (some k)++bZ us (some k) none=us:=by
 obtain⟨n,rfl⟩:=eq_ofNat_of_zero_le h;unfold bZ;rw[HT.AG,HT.AG,HT.wV,HT.wV,List.drop_zero,Nat.sub_zero];have e:(us.drop (min n us.length)).take (us.length-min n us.length)=us.drop (min n us.length):=List.take_of_length_le (by rw[length_drop];omega);rw[e,List.take_append_drop]
theorem tyl(l:List Val):jy (.isin "list") [.rl l]=.ok (true,.bl true):=oW (t:="list") rfl (by decide)
theorem tyt(l:List Val):jy (.isin "tuple") [.tup l]=.ok (true,.bl true):=oW (t:="tuple") rfl (by decide)
theorem pR{l:List Int}(h:l.length<64)(hs:sortI l=l):fN [.rl (l.map .int)]=.ok (true,.bl true):=by
 unfold fN dQ;have hc:l.length<=100000:=by omega
 simp only[EV,tyl,sorted_ints h,hs,Lo,eE,gS,length_map,hc];rw[iI Val.int (λ_=>.bl true) l (λt ht=>by
  simp only[EV,bq,tyi,Xh])]
 simp only[EV,all_true]
theorem zb(h:cop [] .ne a b=some false):cop [] .eq a b=some true:=by
 obtain⟨b,e,z⟩:=aaJ.mp (show (AX [] _ _).map (!·)=some false from h);show AX [] _ _=_;rw[e];cases b with
 |true=>rfl
 |false=>cases z
theorem Ij(L R:List Int):cop [] .ne (.tup [.rl (L.map .int),.rl (R.map .int)]) (.tup [.rl (L.map .int),.rl (R.map .int)])=some false:=by
 refine ne_self (KO (λl:List Int=>Val.rl (l.map .int)) (λl:List Int=>PyData.list (l.map .int)) [L,R] λl _=>rW Val.int PyData.int l λ_ _=>rfl) ?_;rw[PyData.canLay0];refine gb _ _ λl _=>?_;rw[PyData.canLay0];exact gb _ _ λt _=>by rw[PyData.canLay0]
theorem Lw(L R:List Int):cop [] .ne (.rl [.rl (L.map .int),.rl (R.map .int)]) (.rl [.rl (L.map .int),.rl (R.map .int)])=some false:=by
 refine ne_self (rW (λl:List Int=>Val.rl (l.map .int)) (λl:List Int=>PyData.list (l.map .int)) [L,R] λl _=>rW Val.int PyData.int l λ_ _=>rfl) ?_;rw[PyData.canLay0];refine gb _ _ λl _=>?_;rw[PyData.canLay0];exact gb _ _ λt _=>by rw[PyData.canLay0]
theorem Az{p q:Int}{A B L R:List Int}(t:kr (nms ts) (jF 0 p q ts) A B L R)(hd:∀x∈A,x∉B):L=[]/\R=[]:=by
 have k:∀{P:List Int} {x:Int},x∈ig (nms ts) (jF 0 p q ts) P->x∈P:=λ{P x} h=>by
  rcases(jl.mp h).2 with z|z
  ·exact z
  ·exfalso;have z:(((P++[x]).length:Nat):Int)=((P.length:Nat):Int):=z;rw[aaB,List.length_singleton]at z;omega
 constructor
 ·refine List.eq_nil_iff_forall_not_mem.mpr λx hx=>?_;exact hd x (gQ t.sl x hx) (gQ t.sr x (k (t.fx.1 x hx)))
 ·refine List.eq_nil_iff_forall_not_mem.mpr λx hx=>?_;exact hd x (gQ t.sl x (k (t.fx.2 x hx))) (gQ t.sr x hx)
def YW:IE:=.bin .fdiv (.call 0 #[!0,¬2]) (¬56)
def UZ:IE:=.call 2 #[!0,.slc (!0) (¬3) (.bin .add (¬3) (.bin .mod (!1) (¬15)))]
def Mj:IE:=.call 3 #[!2]
def Ml:IE:=.bin .add (¬1) (.bin .mod (.bin .fdiv (!1) (¬15)) (¬2))
def Qq:IE:=.skeys (!3)
def Qs:IE:=.bin .mod (.call 0 #[!0,¬18]) (.blt .len #[!5])
def Lx:IE:=.bin .add (.slc (!5) (!6) .no) (.slc (!5) .no (!6))
def Qt:IE:=.call 6 #[!4,!3,.call 27 #[!5,.call 0 #[!0,¬17]]]
def Qu:IE:=.call 6 #[!4,!3,.comp ["_law_name","_law_ones"] [none,some 7] (.one 0) .seq #[.rev (!5) (.neg (¬1))] (.cmp .nin (!0) (!1)) (!0)]
def Qv:IE:=.call 8 #[!4,!3,!7,!8,.call 0 #[!0,¬19]]
def Qw:IE:=.call 20 #[!4,!2]
def Qx:IE:=.cmp .ne (.call 26 #[.call 12 #[!2],.blt .list #[!7],.blt .list #[!8]]) (.tup #[.lst .nil,.lst .nil])
def Qy:IE:=.lst #[.blt .list #[!7],.blt .list #[!8]]
def Il:IE:=.call 26 #[!10,.idx (!11) (¬0),.idx (!11) (¬1)]
def Qz:IE:=.or (.not (.blt (.isin "tuple") #[!12])) (.or (.cmp .ne (.blt .len #[!12]) (¬2)) (.cmp .ne (!11) (.lst #[!7,!8])))
def QA:IE:=.or (.not (.call 28 #[.idx (!12) (¬0)])) (.or (.not (.call 28 #[.idx (!12) (¬1)])) (.cmp .ne (!12) (!9)))
def Mm(j:Int):IS:=.expr (.met .append (.idx (!12) (.cst (.int j))) #[¬0])
def QB:IE:=.and (.cmp .eq Il (!9)) (.cmp .eq (!11) (.lst #[!7,!8]))
def fB:di:=.cons (.ret (.cst (.bl false))) .nil
theorem QC:lE=.cons (.asg (.one 1) YW) #[.asg (.one 2) UZ,.asg (.one 3) Mj,.asg (.one 4) Ml,.asg (.one 5) Qq,.asg (.one 6) Qs,.asg (.one 5) Lx,.asg (.one 7) Qt,.asg (.one 8) Qu,.asg (.one 9) Qv,.asg (.one 10) Qw,.iff Qx fB .nil,.asg (.one 11) Qy,.asg (.one 12) Il,.iff Qz fB .nil,.iff QA fB .nil,Mm 0,Mm 1,.ret QB]:=rfl
section
variable {ns:List Int} {sz:Int} {κ:Nat} {p q:Int} {ts:List T3}
def EN(ns:List Int)(sz:Int)(κ:Nat)(p q:Int)(ts:List T3)(r:List Sl):aO:=some (.sh,.rl (ns.map .int))::some (.sh,.int sz)::some (.sh,eX p q ts)::some (.sh,gq p q ts)::some (.sh,.int (κ:Int))::r
theorem turned(ok:aT p q ts){t:Int}(ht:0<=t):Rw (nms ts) (bZ (nms ts) (some t) none++bZ (nms ts) none (some t)):=by
 have pm:(bZ (nms ts) (some t) none++bZ (nms ts) none (some t)).Perm (nms ts):=by have:=Dw (nms ts) t ht;exact List.perm_append_comm.trans (by rw[this])
 exact⟨pm.nodup_iff.mpr (pq ok),λy hy=>pm.mem_iff.mp hy⟩
theorem part1(ok:aT p q ts)(hk:κ < 3):∃(c6:Int) (Nm A B:List Int),Rw (nms ts) A/\Rw (nms ts) B/\(∀x∈A,x∉B)/\∀r,bB (ai jX) [12,12] (.cons (.asg (.one 5) Qq) (.cons (.asg (.one 6) Qs) (.cons (.asg (.one 5) Lx) (.cons (.asg (.one 7) Qt) (.cons (.asg (.one 8) Qu) r))))) (EN ns sz κ p q ts [none,none,none,none,none,none,none,none]) =
  bB (ai jX) [12,12] r (EN ns sz κ p q ts [some (.sh,.rl (Nm.map .int)),some (.sh,.int c6),some (.sh,.rl (A.map .int)),some (.sh,.rl (B.map .int)),none,none,none,none]):=by
 have hN:(nms ts).length<64:=by have:=jk ok;omega
 have hN0:0<(nms ts).length:=by unfold nms;simp
 have sk:mQ [] (gq p q ts)=some (nms ts):=by unfold gq;rw[Gf hN,HD ok]
 have Vk:cz [.rl (ns.map .int),.int 17]=.ok (true,.int (cellAt ns 17)):=ko ns 17;have Vl:cz [.rl (ns.map .int),.int 18]=.ok (true,.int (cellAt ns 18)):=ko ns 18;generalize cellAt ns 17=Xl at Vk;generalize cellAt ns 18=Vw at Vl;have YX:kK .mod (.int Vw) (.int (nms ts).length)=.ok (true,.int (Vw%(nms ts).length)):=jN (by rw[aaZ];omega);have t0:0<=Vw%((nms ts).length:Int):=emod_nonneg _ (by omega);generalize Vw%((nms ts).length:Int)=t at YX t0;have rn:=turned ok t0;have z:((bZ (nms ts) (some t) none).map Val.int).length+((bZ (nms ts) none (some t)).map Val.int).length<=sizeLine:=by have:=ym (nms ts) (some t) none;have:=ym (nms ts) none (some t);rw[aah,aah];unfold sizeLine;omega
 have em:(bZ (nms ts) (some t) none).map Val.int++(bZ (nms ts) none (some t)).map Val.int=(bZ (nms ts) (some t) none++bZ (nms ts) none (some t)).map Val.int:=by rw[map_append]
 have a1:aV (ai jX) Lx (dg (EN ns sz κ p q ts [some (.sh,.rl ((nms ts).map .int)),some (.sh,.int t),none,none,none,none,none,none]))=.ok (true,.rl ((bZ (nms ts) (some t) none++bZ (nms ts) none (some t)).map .int)):=by unfold Lx EN;simp only[EV,Hv.dg,LZ,yl,pe z,em,fO]
 generalize bZ (nms ts) (some t) none++bZ (nms ts) none (some t)=Nm at *;have hNm:Nm.length<=15:=sub_len ok rn.1 rn.2;have YY:=Ql Nm Xl (by omega);have hsub:=sM Nm Xl;generalize sJ Nm Xl=l at YY hsub;obtain⟨A,hA,hAl,_,eA⟩:=pQ hk ok (rn.sub hsub);have hr:Rw (nms ts) (Nm.reverse.filter λx=>!decide (x∈A)):=⟨((List.reverse_perm Nm).nodup_iff.mpr rn.1).sublist aaS,λy hy=>rn.2 y (List.mem_reverse.mp (aaC.mp hy).1)⟩;obtain⟨B,hB,hBl,_,eB⟩:=pQ hk ok hr;have hd:∀x∈A,x∉B:=λx hx hy=>by
  have:=(aaC.mp (hBl x hy)).2;simp[hx]at this
 have er:(Nm.map Val.int).reverse=Nm.reverse.map Val.int:=List.map_reverse.symm;have hc:Nm.reverse.length<=100000:=by rw[List.length_reverse];omega
 refine⟨t,Nm,A,B,hA,hB,hd,λr=>?_⟩;rw[bf (gR (f:=true) (v:=.rl ((nms ts).map .int)) rfl (by unfold Qq EN;simp only[EV,Hv.dg,sk]))];unfold EN at a1 |-;simp only[set_cons_succ,set_cons_zero];rw[bf (gR (f:=true) (v:=.int t) rfl (by unfold Qs;simp only[EV,Hv.dg,gu,Vl,length_map,YX]))];simp only[set_cons_succ,set_cons_zero];rw[bf (gR rfl a1)];simp only[set_cons_succ,set_cons_zero];rw[bf (gR (f:=true) (v:=.rl (A.map .int)) rfl (by unfold Qt;simp only[EV,Hv.dg,gu,Vk,we,YY,jh,eA]))];simp only[set_cons_succ,set_cons_zero];rw[bf (gR (f:=true) (v:=.rl (B.map .int)) rfl (by
   unfold Qu;simp only[EV,Hv.dg,er,eE,gS,length_map,hc,fO];rw[dW Val.int Val.int (λx=>!decide (x∈A)) Nm.reverse (λx hx=>by
    simp only[EV,bq,FT]
    by_cases c:x∈A<;>simp[c])]
   simp only[EV,jh,eB]))]
 simp only[set_cons_succ,set_cons_zero]
theorem QD{L R:List Int}(h1:L.length<=15)(h2:R.length<=15){c5 c6 c7 c8 c9 IG II:Sl}:∃n:Nat,n<=16/\bN (ai jX) [12,12] (Mm 0) (EN ns sz κ p q ts [c5,c6,c7,c8,c9,IG,II,some (.ow,.tup [.rl (L.map .int),.rl (R.map .int)])])=.ok (.nx (EN ns sz κ p q ts [c5,c6,c7,c8,c9,IG,II,some (.nw,.tup [.int (n:Int),.int 2])])):=by
 refine⟨max L.length (max R.length 0)+1,by omega,?_⟩;have l:Am [.rl (L.map .int),.rl (R.map .int)]=some (max L.length (max R.length 0)):=by simp only[Am,bind_some,length_map]
 have sp:K1 [.rl (L.map .int),.rl (R.map .int)]=some (.nw,.tup [.int ((max L.length (max R.length 0)+1:Nat):Int),.int 2]):=by unfold K1;rw[l];rfl
 unfold Mm;rw[K4 rfl];unfold DA
 try dsimp only
 rw[show (EN ns sz κ p q ts [c5,c6,c7,c8,c9,IG,II,some (.ow,.tup [.rl (L.map .int),.rl (R.map .int)])])[12]?=some (some (.ow,.tup [.rl (L.map .int),.rl (R.map .int)])) from rfl]
 try dsimp only
 rw[oU]
 try dsimp only
 rw[aV,aS,sp,decide_eq_true (by rw[aah];unfold sizeLine;omega)];rfl
theorem QE{n:Nat}(h:n<=16){c5 c6 c7 c8 c9 IG II:Sl}:bN (ai jX) [12,12] (Mm 1) (EN ns sz κ p q ts [c5,c6,c7,c8,c9,IG,II,some (.nw,.tup [.int (n:Int),.int 2])])=.ok (.nx (EN ns sz κ p q ts [c5,c6,c7,c8,c9,IG,II,none])):=by
 unfold Mm;rw[K4 rfl];unfold DA
 try dsimp only
 rw[show (EN ns sz κ p q ts [c5,c6,c7,c8,c9,IG,II,some (.nw,.tup [.int (n:Int),.int 2])])[12]?=some (some (.nw,.tup [.int (n:Int),.int 2])) from rfl]
 try dsimp only
 rw[show K2 [.int (n:Int),.int 2] 1=some (n:Int) from rfl,bX,aS,aV,aS,decide_eq_true (show ((n:Int)<sizeLine) by unfold sizeLine;omega)];rfl
theorem part2(ok:aT p q ts)(hk:κ < 3){A B:List Int}(hA:Rw (nms ts) A)(hB:Rw (nms ts) B)(hd:∀x∈A,x∉B){c5 c6:Sl}:bB (ai jX) [12,12] #[.asg (.one 9) Qv,.asg (.one 10) Qw,.iff Qx fB .nil,.asg (.one 11) Qy,.asg (.one 12) Il,.iff Qz fB .nil,.iff QA fB .nil,Mm 0,Mm 1,.ret QB] (EN ns sz κ p q ts [c5,c6,some (.sh,.rl (A.map .int)),some (.sh,.rl (B.map .int)),none,none,none,none])=.ok (.rt (true,.bl true)):=by
 have Vm:cz [.rl (ns.map .int),.int 19]=.ok (true,.int (cellAt ns 19)):=ko ns 19;generalize cellAt ns 19=u19 at Vm;obtain⟨L,R,th,ed⟩:=Lv (c:=u19) hk ok hA hB hd;obtain⟨L',R',th',et⟩:=tu hk ok hA hB;obtain⟨L0,R0,th0,e0⟩:=tu (κ:=0) (by decide) ok hA hB;obtain⟨rfl,rfl⟩:=Az th0 hd;obtain⟨rfl,rfl⟩:L'=L/\R'=R:=kr.uniq th' th hA hB;have er:=Ia hk ok;have er0:o5 [eX p q ts]=.ok (true,iY 0 p q ts):=nY kF jg ok;have Vx:=th.rw hA hB;have lL:=sub_len ok Vx.1.1 Vx.1.2;have lR:=sub_len ok Vx.2.1 Vx.2.2;have z0:0<=sizeLine:=by decide
 have z2:2<=sizeLine:=by decide
 have sL:sortI L'=L':=(eq_sortI (List.Perm.refl _) (sub_le th.sl)).symm;have sR:sortI R'=R':=(eq_sortI (List.Perm.refl _) (sub_le th.sr)).symm;have tL:=pR (l:=L') (by omega) sL;have tR:=pR (l:=R') (by omega) sR;have nn:cop [] .ne (.tup [.rl [],.rl []]) (.tup [.rl [],.rl []])=some false:=Ij [] [];rw[map_nil]at e0;have n2:=Lw A B;have n3:cop [] .ne (.int ((0+1+1:Nat):Int)) (.int 2)=some false:=rfl;have n4:=Ij L' R';have q1:=zb n4;have q2:=zb n2;rw[bf (gR (f:=true) (v:=.tup [.rl (L'.map .int),.rl (R'.map .int)]) rfl (by unfold Qv EN;simp only[EV,Hv.dg,gu,Vm,tX,ed]))];unfold EN;simp only[set_cons_succ,set_cons_zero];rw[bf (gR (f:=true) (v:=iY κ p q ts) rfl (by unfold Qw;simp only[EV,Hv.dg,tY,er]))];simp only[set_cons_succ,set_cons_zero];rw[bf (B9 (f:=true) (by unfold Qx;simp only[EV,Hv.aJ,yN,er0,fO,iS,e0,z0,z2,nn]))];rw[bf (gR (f:=true) (v:=.rl [.rl (A.map .int),.rl (B.map .int)]) rfl (by unfold Qy;simp only[EV,Hv.dg,fO,z2]))];simp only[set_cons_succ,set_cons_zero];rw[bf (Ie (v:=.tup [.rl (L'.map .int),.rl (R'.map .int)]) rfl rfl (by unfold Il;simp only[EV,Hv.aJ,fU oU,fU oV,iS,et]))];simp only[set_cons_succ,set_cons_zero];rw[bf (B9 (f:=true) (by unfold Qz;simp only[EV,Hv.aJ,tyt,n2,z2,n3];try rfl))];rw[bf (B9 (f:=true) (by unfold QA;simp only[EV,Hv.aJ,jO oU,jO oV,nW,tL,tR,n4]))];obtain⟨n,hn,e9⟩:=QD (ns:=ns) (sz:=sz) (κ:=κ) (p:=p) (q:=q) (ts:=ts) lL lR (c5:=c5) (c6:=c6) (c7:=some (.sh,.rl (A.map .int))) (c8:=some (.sh,.rl (B.map .int))) (c9:=some (.sh,.tup [.rl (L'.map .int),.rl (R'.map .int)])) (IG:=some (.sh,iY κ p q ts)) (II:=some (.sh,.rl [.rl (A.map .int),.rl (B.map .int)]));refine(bf e9).trans ((bf (QE hn)).trans ?_);rw[bB,bN];unfold QB Il EN;simp only[EV,Hv.aJ,fU oU,fU oV,iS,et,z2,q1,q2]
end
theorem QF(ns:List Int)(hn:ns.length<=63):∃f,Mb [.rl (ns.map .int)]=.ok (f,.bl true):=by
 have c2:cz [.rl (ns.map .int),.int 2]=.ok (true,.int (cellAt ns 2)):=ko ns 2;generalize hsz:cellAt ns 2/56=sz at *;have hcl:(bZ ns (some 3) (some (3+sz%15))).length<=14:=by obtain⟨k,hk⟩:=eq_ofNat_of_zero_le (show 0<=sz%15 by omega);have h:=Dd ns 3 k (by omega);rw[<-hk]at h;omega
 obtain⟨p,q,ts,en,ok,_⟩:=Qj ns (bZ ns (some 3) (some (3+sz%15))) hcl;obtain⟨κ,hκ⟩:=eq_ofNat_of_zero_le (show 0<=1+sz/15%2 by omega);have hk:κ < 3:=by omega
 have ee:=yV ok;obtain⟨c6,Nm,A,B,hA,hB,hd,e1⟩:=part1 (ns:=ns) (sz:=sz) ok hk;have fin:bB (ai jX) [12,12] lE [some (.sh,.rl (ns.map .int)),none,none,none,none,none,none,none,none,none,none,none,none]=.ok (.rt (true,.bl true)):=by rw[QC];rw[bf (gR (i:=1) (f:=true) (v:=.int sz) rfl (by unfold YW;simp only[EV,Hv.dg,gu,c2,kh (show j7 56=true by decide),hsz]))];simp only[set_cons_succ,set_cons_zero];rw[bf (gR (i:=2) (f:=true) (v:=eX p q ts) rfl (by unfold UZ;simp only[EV,Hv.dg,jN (show decide ((0:Int)<15)=true by decide),LZ,yl,wc,en]))];simp only[set_cons_succ,set_cons_zero];rw[bf (gR (i:=3) (f:=true) (v:=gq p q ts) rfl (by unfold Mj;simp only[EV,Hv.dg,tW,ee]))];simp only[set_cons_succ,set_cons_zero];rw[bf (gR (i:=4) (f:=true) (v:=.int (κ:Int)) rfl (by unfold Ml;simp only[EV,Hv.dg,kh (show j7 15=true by decide),jN (show decide ((0:Int)<2)=true by decide),hκ]))];simp only[set_cons_succ,set_cons_zero];exact(e1 _).trans (part2 ok hk hA hB hd)
 refine⟨true,?_⟩;show pb (bB (ai jX) (iK lE) lE [some (.sh,.rl (ns.map .int)),none,none,none,none,none,none,none,none,none,none,none,none]) _=_;rw[show iK lE=[12,12] from rfl,fin];rfl
theorem true(ns:List Int)(hn:ns.length<=63):∃h',Hf [.rl (ns.map .int)] []=.ok (.bl true) h':=by
 obtain⟨f,e⟩:=QF ns hn;exact Lh e
end K35
end
end
section
namespace PySem.W.Fast
theorem tw13642232773165270547:True:=trivial
theorem tw9928451118617114382:True:=trivial
theorem tw8784979008906132120:True:=trivial
theorem tw16571090407727268010:True:=trivial
theorem tw2672380860542445063:True:=trivial
theorem tw13493818925413283622:True:=trivial
theorem tw6026126124691535584:True:=trivial
theorem tw8668342629662696016:True:=trivial
theorem tw9698173893609305621:True:=trivial
theorem tw16308452601792408422:True:=trivial
theorem tw17567801812006970103:True:=trivial
theorem tw8868263072501596358:True:=trivial
theorem tw18021706912427699657:True:=trivial
theorem tw8777526677301177573:True:=trivial
theorem tw7368151875537455512:True:=trivial
theorem tw6244494678307273765:True:=trivial
theorem tw1833745071523715048:True:=trivial
theorem tw4166507801592511314:True:=trivial
theorem tw9123632365722220145:True:=trivial
theorem tw6920468793668056862:True:=trivial
theorem tw13097793934450186008:True:=trivial
theorem tw2604157048778948693:True:=trivial
theorem tw15266326302359625589:True:=trivial
theorem tw812796607370758412:True:=trivial
theorem tw13946393012919134272:True:=trivial
theorem tw9050423627676773747:True:=trivial
theorem tw17096368501950806098:True:=trivial
theorem tw8421539584202630672:True:=trivial
theorem tw6004248937590107368:True:=trivial
theorem tw16867747521934857960:True:=trivial
theorem tw8586841027420414349:True:=trivial
theorem tw16141178728884093215:True:=trivial
theorem tw3274061161996205710:True:=trivial
theorem tw13043970540215388186:True:=trivial
theorem tw18425346696313627351:True:=trivial
theorem tw1169591927123266894:True:=trivial
theorem tw14980456099484474312:True:=trivial
theorem tw6785579215161479632:True:=trivial
theorem tw4172617276227458298:True:=trivial
theorem tw14008820094814554460:True:=trivial
theorem tw3013594982439348527:True:=trivial
theorem tw10768203371615660742:True:=trivial
theorem tw1481115644843073558:True:=trivial
theorem tw11915326837945933268:True:=trivial
theorem tw7024809104175195908:True:=trivial
theorem tw5225807256661176989:True:=trivial
theorem tw5326118599102242525:True:=trivial
theorem tw12591737471127756943:True:=trivial
theorem tw6527627318557063600:True:=trivial
theorem tw14655254263135766832:True:=trivial
theorem tw10262095012969582920:True:=trivial
theorem tw5819976565313033964:True:=trivial
theorem tw1923346749484300998:True:=trivial
theorem tw17024501574917178140:True:=trivial
theorem tw13924857246065670730:True:=trivial
theorem tw13478640550287220834:True:=trivial
theorem tw9629754337120175240:True:=trivial
theorem tw4032971501205229495:True:=trivial
theorem tw7636203290729090888:True:=trivial
theorem tw14711027172837813846:True:=trivial
theorem tw16207310320838658863:True:=trivial
theorem tw15600255866709518015:True:=trivial
theorem tw3110365132629998571:True:=trivial
theorem tw8702583451865748066:True:=trivial
theorem tw11254087344175805246:True:=trivial
theorem tw2145366912959246051:True:=trivial
theorem tw12526376720473997474:True:=trivial
theorem tw2582333119572288429:True:=trivial
theorem tw5250293825681392216:True:=trivial
theorem tw16593409292445322293:True:=trivial
theorem tw1369657941334948988:True:=trivial
theorem tw696952049041428538:True:=trivial
theorem tw13455834285532177475:True:=trivial
theorem tw16709286371503602283:True:=trivial
theorem tw438621600514576388:True:=trivial
theorem tw16428613865457342144:True:=trivial
theorem tw10223286577297260169:True:=trivial
theorem tw10087139516111341697:True:=trivial
theorem tw16835428795964942125:True:=trivial
theorem tw2460669779914237209:True:=trivial
theorem tw6577679395928173392:True:=trivial
theorem tw1851063962096278178:True:=trivial
theorem tw9915654522133644585:True:=trivial
theorem tw18299501104021144046:True:=trivial
theorem tw13666525225383915471:True:=trivial
theorem tw3295442424870484867:True:=trivial
theorem tw13009367130496418147:True:=trivial
theorem tw15519088080470032082:True:=trivial
end PySem.W.Fast
open PySem PySem.W PyProof.Rows
set_option maxRecDepth 100000 in
set_option maxHeartbeats 0 in
theorem PySem.Challenge.cw_linkorcut_k35_thinned_in_any_order_holds : PySem.Challenge.rw_linkorcut_k35_thinned_in_any_order.Holds := by
 w_on;o_law;k_head;(case hw=>w_witness2)
 k_fill
 refine Hv.walk (l:=PySem.Challenge.rw_linkorcut_k35_thinned_in_any_order) (k:=60) (x:="_law_script") rfl rfl ⟨rfl,by decide,by decide⟩ (λw h Y=>PySem.W.kIn_of Y) ?F
 case F=>
  intro w mg fa h KX G hmg;refine' K35.all_mk KX G hmg K35.true ?_ ?_ ?_ ?_ ?_ ?_ ?_ ?_ ?_ ?_ ?_ ?_ ?_ ?_ ?_ ?_ ?_ ?_ ?_ ?_ ?_ ?_ ?_ ?_ ?_ ?_ ?_ ?_ ?_ ?_ ?_ ?_ ?_ ?_ ?_ ?_ ?_ ?_ ?_ ?_ ?_ ?_ ?_ ?_ ?_ ?_ ?_ ?_ ?_ ?_ ?_ ?_ ?_ ?_ ?_ ?_ ?_ ?_ ?_ ?_ ?_ ?_ ?_ ?_ ?_ ?_ ?_ ?_ ?_ ?_ ?_ ?_ ?_ ?_ ?_ ?_ ?_ ?_ ?_ ?_ ?_ ?_ ?_ ?_ ?_ ?_ ?_ ?_ ?_ ?_ ?_ ?_ ?_ ?_ ?_ ?_ ?_ ?_ ?_ ?_ ?_ ?_ ?_ ?_ ?_ ?_ ?_ ?_ ?_ ?_ ?_ ?_ ?_ ?_
  all_goals try first|k_is|exact⟨_,L2.fun_mk (by k_is) (by k_is) (by k_is)⟩|(intro x hx;simp only[Hv.bltNames,List.mem_cons,List.not_mem_nil,or_false]at hx;rcases hx with rfl|rfl|rfl|rfl|rfl|rfl|rfl|rfl|rfl|rfl|rfl|rfl|rfl|rfl|rfl|rfl|rfl<;>k_is)
#print axioms PySem.Challenge.cw_linkorcut_k35_thinned_in_any_order_holds
end
